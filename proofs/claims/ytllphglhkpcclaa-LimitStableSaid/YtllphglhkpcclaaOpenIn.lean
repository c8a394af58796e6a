/- Arguments that came in, opened: rows of int. -/
import Derived.Test.YtllphglhkpcclaaLine
import Derived.Test.YtllphglhkpcclaaProg
import Derived.Test.YtllphglhkpcclaaChecked
import Derived.Lib.SmallJoins
import Derived.ChangeSlices
import Derived.ProofKit
import Derived.OpenShut
import Derived.Deep.Slices
import Derived.Test.YtllphglhkpcclaaInts
import Derived.SizedLaws
namespace Go.Proofs.Ytllphglhkpcclaa
set_option linter.unusedSimpArgs false
set_option linter.unusedVariables false
open Go.ChangeShapes Go.WideShapes Go.RowKit

section
variable {H : Type} {enc : TypeId × Value → H}
/-- A slice of ints, cell by cell. -/
theorem open_ints0 {W : World} {fuel : Nat} {v : Value} {x : DataW H × List MemPlace} (h : DataW.trod enc Try.prog W 0 (fun _ => true) true fuel 32 [v] = some x) :
    ∃ a cap ks, v = .slice a (List.length ks) cap ∧ Row W W.heap.size a (List.length ks) cap 1 (intsC ks) ∧ ∀ k ∈ ks, -9223372036854775808 ≤ k ∧ k ≤ 9223372036854775807 := by
  rcases open_ints Try.underlying32 Try.underlying3 (by kernel_rfl) h with ⟨hcs, _⟩ | ⟨a, l, c, zs, hcs, _, hl, hm, hz, _, hcell, hwz⟩
  · simp at hcs
    subst hcs
    exact ⟨none, 0, [], rfl, ⟨Nat.le_refl _, by simp [maxLen], fun h => absurd h (by simp)⟩, by simp⟩
  · simp at hcs
    subst hcs
    simp at hz
    have hln : (zs.take l).length = l := by rw [List.length_take]; omega
    refine ⟨some a, c, zs.take l, by rw [hln], ⟨by omega, hm, fun hp => ?_⟩, fun k hk => by have := bounds_i64 (hwz k (List.mem_of_mem_take hk)); omega⟩
    rw [hln] at hp ⊢
    obtain ⟨b, off, spot⟩ := a
    have h0 := hcell 0 (by omega)
    have hs : spot = none := by simpa [Addr.add] using World.cell?_spot h0
    subst hs
    refine ⟨b, off, rfl, block_lt_of_cell h0, fun j hj => ?_⟩
    have := hcell j (by omega)
    rw [Addr.add_mid] at this
    rw [this]
    simp only [intsC]
    rw [List.getD_eq_getElem?_getD, List.getD_eq_getElem?_getD, List.getElem?_take_of_lt (by omega)]
set_option maxRecDepth 100000 in
theorem open_ints1 {W : World} {r : Reach} {b0 : Nat} {v : Value} {d : DataW H} {p : List MemPlace} (hv : Value.okWide Try.prog W r b0 32 v) (h : DataW.Trod enc Try.prog W 0 (fun _ => true) true 32 v d p) :
    ∃ a cap ks, v = .slice a (List.length ks) cap ∧ Row W W.heap.size a (List.length ks) cap 1 (intsC ks) ∧ ∀ k ∈ ks, -9223372036854775808 ≤ k ∧ k ≤ 9223372036854775807 := by
  obtain ⟨a, l, c, rfl⟩ := okWide_slice Try.underlying32 hv
  obtain ⟨fuel, hf⟩ := h
  exact open_ints0 (by simpa [Value.cells] using hf)
end
end Go.Proofs.Ytllphglhkpcclaa
