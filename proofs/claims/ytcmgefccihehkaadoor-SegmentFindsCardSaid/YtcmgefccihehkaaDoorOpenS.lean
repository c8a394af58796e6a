/- An argument that came in, opened: a slice of spots. -/
import Derived.Test.YtcmgefccihehkaaDoorOpen
import Derived.Test.YtcmgefccihehkaaDoorSgT
import Derived.Deep.SlicePairs
namespace Go.Proofs.YtcmgefccihehkaaDoor
open Go.ChangeShapes Go.WideShapes Go.RowKit

section
variable {H : Type} {enc : TypeId × Value → H}
set_option maxRecDepth 100000 in
theorem open_spots {W : World} {r : Reach} {b0 : Nat} {v : Value} {d : DataW H} {p : List MemPlace} (hv : Value.okWide Tryd.prog W r b0 34 v) (h : DataW.Trod enc Tryd.prog W 0 (fun _ => true) true 34 v d p) :
    ∃ a cap xs, v = .slice a (List.length xs) cap ∧ Spts W W.heap.size a (List.length xs) cap xs := by
  obtain ⟨a, l, c, rfl⟩ := okWide_slice Tryd.underlying34 hv
  obtain ⟨fuel, hf⟩ := h
  have hf' : DataW.trod enc Tryd.prog W 0 (fun _ => true) true fuel 34 [.slice a l c] = some (d, p) := by simpa [Value.cells] using hf
  rcases Deep.open_slice_pairs Tryd.underlying34 Tryd.underlying53 (by kernel_rfl) rfl rfl (by kernel_rfl) (by kernel_rfl) hf' with ⟨hcs, _⟩ | ⟨x, len, cap, m, n, V0, V1, D0, D1, P0, P1, hcs, _, hl, hm, hmm, _, hV⟩
  · simp at hcs
    obtain ⟨rfl, rfl, rfl⟩ := hcs
    exact ⟨none, 0, [], rfl, rfl, by simp, by simp [maxLen], fun h => absurd h (by simp)⟩
  · simp at hcs
    obtain ⟨rfl, rfl, rfl⟩ := hcs
    simp at hmm
    obtain ⟨F, hF⟩ := Deep.choose_lt (α := Int × Int) (n := l) (p := fun i y => V0 i = .int .i64 y.1 ∧ V1 i = .int .i64 y.2) (fun i hi => by
      obtain ⟨_, _, h0, h1⟩ := hV i (by omega)
      obtain ⟨s, e0, _, _⟩ := DataW.trod_int Tryd.underlying2 h0
      obtain ⟨t, e1, _, _⟩ := DataW.trod_int Tryd.underlying3 h1
      simp at e0 e1
      exact ⟨(s, t), e0, e1⟩)
    refine ⟨some x, c, (List.range l).map F, by simp, by simp, by simpa using hl, hm, fun hp => ?_⟩
    simp at hp
    obtain ⟨b, off, spot⟩ := x
    have h0 := (hV 0 (by omega)).1
    have hs : spot = none := by simpa [Addr.add] using World.cell?_spot h0
    subst hs
    refine ⟨b, off, rfl, block_lt_of_cell h0, fun k y hk => ?_⟩
    rw [List.getElem?_map] at hk
    obtain ⟨i, hi, rfl⟩ := Option.map_eq_some_iff.1 hk
    have hkl : k < l := by have := (List.getElem?_eq_some_iff.1 hi).1; simpa using this
    rw [List.getElem?_range hkl] at hi
    injection hi with hi
    subst hi
    obtain ⟨e0, e1⟩ := hF k hkl
    obtain ⟨c0, c1, _, _⟩ := hV k (by omega)
    rw [Addr.add_mid] at c0 c1
    exact ⟨by rw [c0, e0], by rw [Nat.add_assoc, c1, e1]⟩
end
end Go.Proofs.YtcmgefccihehkaaDoor
