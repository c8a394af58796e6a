/- What a call leaves of all that isn't its own. -/
import Derived.Test.YtcfehddnccdejaaLine
namespace Go.Proofs.Ytcfehddnccdejaa
set_option linter.unusedSimpArgs false
set_option linter.unusedVariables false
open Go.RowKit

/-- All that isn't in O, and was there, is as it was. -/
structure But (O : Nat → Prop) (w w' : World) : Prop where
  os : w'.os = w.os
  tape : w'.tape = w.tape
  output : w'.output = w.output
  size : w.heap.size ≤ w'.heap.size
  block : ∀ k, k < w.heap.size → ¬ O k → w'.heap[k]? = w.heap[k]?
theorem But.refl (O : Nat → Prop) (w : World) : But O w w := ⟨rfl, rfl, rfl, Nat.le_refl _, fun _ _ _ => rfl⟩
theorem But.of_below {O : Nat → Prop} {w w' : World} (h : Below w.heap.size w w') : But O w w' := ⟨h.os, h.tape, h.output, h.size, fun k hk _ => h.block k hk⟩
theorem But.trans {O O' : Nat → Prop} {a b c : World} (h : But O a b) (k : But O' b c) (hO : ∀ i, O' i → O i ∨ a.heap.size ≤ i) : But O a c :=
  ⟨k.os.trans h.os, k.tape.trans h.tape, k.output.trans h.output, Nat.le_trans h.size k.size, fun i hi hn => (k.block i (Nat.lt_of_lt_of_le hi h.size) (fun ho => by rcases hO i ho with h1 | h1; exact hn h1; omega)).trans (h.block i hi hn)⟩
theorem But.below {O : Nat → Prop} {B : Nat} {w w' : World} (h : But O w w') (hB : B ≤ w.heap.size) (hO : ∀ k, O k → B ≤ k) : Below B w w' :=
  ⟨h.os, h.tape, h.output, h.size, fun k hk => h.block k (by omega) (fun ho => by have := hO k ho; omega)⟩
theorem But.grown {O : Nat → Prop} {w w' : World} {r : Option Nat} (hg : w.grownBy w' r) (hr : ∀ k, r = some k → O k) : But O w w' :=
  ⟨hg.os, hg.tape, hg.output, hg.size, fun k hk hn => hg.block k hk (fun e => hn (hr k e.symm))⟩
theorem But.setCell {O : Nat → Prop} {a w : World} (h : But O a w) {p : Addr} (hp : O p.block ∨ a.heap.size ≤ p.block) (u : Value) : But O a (w.setCell p u) :=
  ⟨h.os, h.tape, h.output, by simpa [World.setCell] using h.size, fun k hk hn => (Below.heap_setCell _ _ _ _ (fun e => by subst e; rcases hp with h1 | h1; exact hn h1; omega)).trans (h.block k hk hn)⟩
theorem But.alloc {O : Nat → Prop} {a w : World} (h : But O a w) (o : Obj) : But O a (w.alloc o) :=
  ⟨h.os, h.tape, h.output, by have := h.size; simp; omega, fun k hk hn => (Below.heap_alloc _ _ _ (by have := h.size; omega)).trans (h.block k hk hn)⟩
theorem But.drew {O : Nat → Prop} {a w : World} (h : But O a w) : But O a w.drew := ⟨h.os, h.tape, h.output, h.size, h.block⟩
theorem But.more {O O' : Nat → Prop} {a b : World} (h : But O a b) (hO : ∀ k, O k → O' k) : But O' a b := ⟨h.os, h.tape, h.output, h.size, fun k hk hn => h.block k hk (fun ho => hn (hO k ho))⟩
theorem Sl.same_ {w w' : World} {a : Option Addr} {n c : Nat} {bs : List Nat} (h : Sl w w.heap.size a n c bs) (hz : w.heap.size ≤ w'.heap.size) (hk : 0 < n → ∀ b o, a = some ⟨b, o, none⟩ → w'.heap[b]? = w.heap[b]?) : Sl w' w'.heap.size a n c bs :=
  ⟨h.length, h.le, h.max, h.byte, h.none_, fun hp => by
    obtain ⟨b, o, e, hlt, hc⟩ := h.at_ hp
    exact ⟨b, o, e, by omega, fun k hk' => (World.cell?_of_block (w := w) (a := ⟨b, o + k, none⟩) (hk hp b o e)).trans (hc k hk')⟩⟩
end Go.Proofs.Ytcfehddnccdejaa
