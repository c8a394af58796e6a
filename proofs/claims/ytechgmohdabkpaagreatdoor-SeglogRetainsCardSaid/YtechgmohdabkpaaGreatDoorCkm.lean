/- A slice of slices of bytes. Arguments that came in, opened: rows of rows of bytes. -/
import Derived.Test.YtechgmohdabkpaaGreatDoorCka
import Derived.Test.YtechgmohdabkpaaGreatDoorCkc
namespace Go.Proofs.YtechgmohdabkpaaGreatDoor
section
set_option linter.unusedSimpArgs false
set_option linter.unusedVariables false
open Go.RowKit

/-- A slice of slices of bytes that lies below block B. -/
structure Sls (w : World) (B : Nat) (a : Option Addr) (len cap : Nat) (bss : List (List Nat)) : Prop where
  length : bss.length = len
  le : len ≤ cap
  max : cap ≤ maxLen
  at_ : 0 < len → ∃ b o, a = some ⟨b, o, none⟩ ∧ b < B ∧ ∀ (k : Nat) (bs : List Nat), bss[k]? = some bs → ∃ ba bc, w.cell? ⟨b, o + k, none⟩ = some (.slice ba bs.length bc) ∧ Sl w B ba bs.length bc bs
theorem Sls.below {w w' : World} {B B' : Nat} {a : Option Addr} {len cap : Nat} {bss : List (List Nat)} (h : Sls w B a len cap bss) (hb : Below B' w w') (hB : B ≤ B') : Sls w' B' a len cap bss :=
  ⟨h.length, h.le, h.max, fun hp => by
    obtain ⟨b, o, e, hlt, hc⟩ := h.at_ hp
    refine ⟨b, o, e, by omega, fun k bs hk => ?_⟩
    obtain ⟨ba, bc, h1, h2⟩ := hc k bs hk
    exact ⟨ba, bc, (hb.cell (p := ⟨b, o + k, none⟩) (by show b < B'; omega)).trans h1, h2.below hb hB⟩⟩
end
section
set_option linter.unusedSimpArgs false
set_option linter.unusedVariables false
open Go.ChangeShapes Go.WideShapes Go.RowKit

section
variable {H : Type} {enc : TypeId × Value → H}
set_option maxRecDepth 100000 in
theorem open_rows {W : World} {r : Reach} {b0 : Nat} {v : Value} {d : DataW H} {p : List MemPlace} (hv : Value.okWide Tryz.prog W r b0 60 v) (h : DataW.Trod enc Tryz.prog W 0 (fun _ => true) true 60 v d p) :
    ∃ a cap bss, v = .slice a (List.length bss) cap ∧ Sls W W.heap.size a (List.length bss) cap bss := by
  obtain ⟨a, l, c, rfl⟩ := okWide_slice Tryz.underlying60 hv
  obtain ⟨fuel, hf⟩ := h
  have hf' : DataW.trod enc Tryz.prog W 0 (fun _ => true) true fuel 60 [.slice a l c] = some (d, p) := by simpa [Value.cells] using hf
  rcases Deep.open_slice1 Tryz.underlying60 (by kernel_rfl) hf' with ⟨hcs, _⟩ | ⟨x, len, cap, m, n, V, D, Pl, hcs, _, hl, hm, hmm, _, hV⟩
  · simp at hcs
    obtain ⟨rfl, rfl, rfl⟩ := hcs
    exact ⟨none, 0, [], rfl, rfl, by simp, by simp [maxLen], fun h => absurd h (by simp)⟩
  · simp at hcs
    obtain ⟨rfl, rfl, rfl⟩ := hcs
    simp at hmm
    obtain ⟨F, hF⟩ := Deep.choose_lt (α := Option Addr × Nat × List Nat) (n := l) (p := fun i y => V i = .slice y.1 y.2.2.length y.2.1 ∧ Sl W W.heap.size y.1 y.2.2.length y.2.1 y.2.2) (fun i hi => by
      obtain ⟨ba, bc, bs, e, hs⟩ := open_bytes (hV i (by omega)).2
      exact ⟨(ba, bc, bs), e, hs⟩)
    refine ⟨some x, c, (List.range l).map fun i => (F i).2.2, by simp, by simp, by simpa using hl, hm, fun hp => ?_⟩
    simp at hp
    obtain ⟨b, off, spot⟩ := x
    have h0 := (hV 0 (by omega)).1
    have hs : spot = none := by simpa [Addr.add] using World.cell?_spot h0
    subst hs
    refine ⟨b, off, rfl, block_lt_of_cell h0, fun k bs hk => ?_⟩
    rw [List.getElem?_map] at hk
    obtain ⟨i, hi, rfl⟩ := Option.map_eq_some_iff.1 hk
    have hkl : k < l := by have := (List.getElem?_eq_some_iff.1 hi).1; simpa using this
    rw [List.getElem?_range hkl] at hi
    injection hi with hi
    subst hi
    obtain ⟨e, hs⟩ := hF k hkl
    refine ⟨(F k).1, (F k).2.1, ?_, hs⟩
    have := (hV k (by omega)).1
    rw [Addr.add_mid] at this
    rw [this, e]
end
end
end Go.Proofs.YtechgmohdabkpaaGreatDoor
