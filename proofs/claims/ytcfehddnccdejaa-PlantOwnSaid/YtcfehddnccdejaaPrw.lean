/- Rows of pairs in memory, policies and configurations as values, small words. -/
import Derived.Test.YtcfehddnccdejaaInts
import Derived.Test.YtcfehddnccdejaaBut
import Derived.Test.YtcfehddnccdejaaEvA
namespace Go.Proofs.Ytcfehddnccdejaa
set_option linter.unusedSimpArgs false
set_option linter.unusedVariables false
open Go.RowKit
open Wir Evn

theorem pairs_append (a b : List (Int × Int)) : pairs (a ++ b) = pairs a ++ pairs b := by simp [pairs]
theorem pairs_len : ∀ (l : List (Int × Int)), (pairs l).length = 2 * l.length
  | [] => rfl
  | x :: l => by
    have := pairs_len l
    simp only [pairs, List.flatMap_cons, List.length_append, List.length_cons, List.length_nil] at *
    omega
theorem pairs_get : ∀ (l : List (Int × Int)) (k : Nat), (pairs l).getD (k * 2) 0 = (l.getD k (0, 0)).1 ∧ (pairs l).getD (k * 2 + 1) 0 = (l.getD k (0, 0)).2
  | [], k => by simp [pairs]
  | x :: l, 0 => by simp [pairs]
  | x :: l, k + 1 => by
    have h := pairs_get l k
    have e1 : (k + 1) * 2 = k * 2 + 1 + 1 := by omega
    have e2 : pairs (x :: l) = x.1 :: x.2 :: pairs l := by simp [pairs]
    rw [e2, e1]
    simpa using h
theorem pairs_snoc (l : List (Int × Int)) (k : Nat) (h : k < l.length) : pairs (l.take (k + 1)) = pairs (l.take k) ++ [(l.getD k (0, 0)).1, (l.getD k (0, 0)).2] := by
  rw [List.take_succ_eq_append_getElem h, pairs_append, List.getD_eq_getElem?_getD, List.getElem?_eq_getElem h]
  simp [pairs]
theorem pairs_mem (l : List (Int × Int)) (k : Nat) (h : k < l.length) : (l.getD k (0, 0)).1 ∈ pairs l ∧ (l.getD k (0, 0)).2 ∈ pairs l := by
  have e := pairs_snoc l k h
  have : pairs (l.take (k + 1)) ++ pairs (l.drop (k + 1)) = pairs l := by rw [← pairs_append, List.take_append_drop]
  rw [← this, e]
  simp
theorem pairs_take_mem (l : List (Int × Int)) (k : Nat) : ∀ x ∈ pairs (l.take k), x ∈ pairs l := by
  intro x hx
  have : pairs (l.take k) ++ pairs (l.drop k) = pairs l := by rw [← pairs_append, List.take_append_drop]
  rw [← this]
  exact List.mem_append_left _ hx
/-- A slice of pairs reads as l. -/
def PRow (w : World) (a : Option Addr) (n c : Nat) (l : List (Int × Int)) : Prop := Row w w.heap.size a n c 2 (intsC (pairs l)) ∧ l.length = n
theorem PRow.cell {w : World} {a : Option Addr} {n c : Nat} {l : List (Int × Int)} (h : PRow w a n c l) (hn : 0 < n) : ∃ b o, a = some ⟨b, o, none⟩ ∧ b < w.heap.size ∧ ∀ k, k < n → w.cell? ⟨b, o + k * 2, none⟩ = some (.int .i64 (l.getD k (0, 0)).1) ∧ w.cell? ⟨b, o + k * 2 + 1, none⟩ = some (.int .i64 (l.getD k (0, 0)).2) := by
  obtain ⟨b, o, e, hb, hc⟩ := h.1.at_ hn
  refine ⟨b, o, e, hb, fun k hk => ?_⟩
  have h1 := hc (k * 2) (by omega)
  have h2 := hc (k * 2 + 1) (by omega)
  simp only [intsC] at h1 h2
  rw [(pairs_get l k).1] at h1
  rw [(pairs_get l k).2] at h2
  exact ⟨h1, by rw [Nat.add_assoc]; exact h2⟩
theorem PRow.on {w w' : World} {a : Option Addr} {n c : Nat} {l : List (Int × Int)} (h : PRow w a n c l) (hb : Below w.heap.size w w') : PRow w' a n c l := ⟨(h.1.below hb (Nat.le_refl _)).more hb.size, h.2⟩
theorem PRow.keep {w w' : World} {a : Option Addr} {n c : Nat} {l : List (Int × Int)} {P : Nat → Prop} (h : PRow w a n c l) (hb : But P w w') (hf : 0 < n → ∀ k o, a = some ⟨k, o, none⟩ → ¬ P k) : PRow w' a n c l :=
  ⟨⟨h.1.le, h.1.max, fun hp => by
    obtain ⟨b, o, e, hlt, hc⟩ := h.1.at_ hp
    exact ⟨b, o, e, Nat.lt_of_lt_of_le hlt hb.size, fun j hj => (World.cell?_of_block (w := w) (a := ⟨b, o + j, none⟩) (hb.block b hlt (hf hp b o e))).trans (hc j hj)⟩⟩, h.2⟩
theorem PRow.nil_ {w : World} : PRow w none 0 0 [] := ⟨⟨Nat.le_refl _, by unfold maxLen; omega, fun h => absurd h (by omega)⟩, rfl⟩
/-- A policy as a value. -/
def plV (p : Pl) (a1 a2 : Option Addr) (c1 c2 : Nat) : Value := .agg #[.int .i64 p.kind, .int .i64 p.target, .slice a1 p.bands.length c1, .int .i64 p.kp, .int .i64 p.ki, .int .i64 p.kd, .int .i64 p.period, .slice a2 p.slots.length c2]
theorem bel1 {w0 w : World} (h : Below w0.heap.size w0 w) (o : Obj) : Below w0.heap.size w0 (w.alloc o) := h.alloc h.size o
theorem bel2 {w0 w w' : World} (h : Below w0.heap.size w0 w) (k : Below w.heap.size w w') : Below w0.heap.size w0 w' := h.trans (k.mono h.size)
theorem belS {w0 w : World} (h : Below w0.heap.size w0 w) (p : Addr) (v : Value) (hp : w0.heap.size ≤ p.block) : Below w0.heap.size w0 (w.setCell p v) := h.setCell hp v
def cfV (c : Cf) : Value := .agg #[.int .i64 c.min, .int .i64 c.max, .int .i64 c.rate, .int .i64 c.stable, .int .i64 c.cap, .int .i64 c.delay, .int .i64 c.slack, .int .i64 c.window, .int .i64 c.margin, .int .i64 c.ceil, .int .i64 c.probe, .int .i64 c.breach]
theorem all64_cons {x : Int} {l : List Int} (h : I64 x) (k : All64 l) : All64 (x :: l) := fun y hy => by
  rcases List.mem_cons.1 hy with rfl | hy
  · exact h
  · exact k y hy
theorem all64_nil : All64 [] := fun y hy => by cases hy
theorem i64_0 : I64 0 := ⟨by decide, by decide⟩
end Go.Proofs.Ytcfehddnccdejaa
