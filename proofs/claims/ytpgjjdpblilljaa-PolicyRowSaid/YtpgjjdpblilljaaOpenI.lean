/- Arguments that came in, opened: rows of int64. -/
import Derived.Test.YtpgjjdpblilljaaLine
import Derived.Test.YtpgjjdpblilljaaProg
import Derived.Test.YtpgjjdpblilljaaChecked
import Derived.Lib.SmallJoins
import Derived.ChangeSlices
import Derived.ProofKit
import Derived.OpenShut
import Derived.Deep.Slices
import Derived.Test.YtpgjjdpblilljaaInts
import Derived.SizedLaws
namespace Go.Proofs.Ytpgjjdpblilljaa
set_option linter.unusedSimpArgs false
set_option linter.unusedVariables false
open Go.ChangeShapes Go.WideShapes Go.RowKit

section
variable {H : Type} {enc : TypeId × Value → H}
set_option maxRecDepth 100000 in
/-- A slice of numbers, cell by cell. -/
theorem open_longs0 {W : World} {fuel : Nat} {v : Value} {x : DataW H × List MemPlace} (h : DataW.trod enc Try.prog W 0 (fun _ => true) true fuel 40 [v] = some x) :
    ∃ a cap ks, v = .slice a (List.length ks) cap ∧ Row W W.heap.size a (List.length ks) cap 1 (intsC ks) ∧ (a = none → List.length ks = 0 ∧ cap = 0) ∧ ∀ k ∈ ks, -9223372036854775808 ≤ k ∧ k ≤ 9223372036854775807 := by
  rcases open_ints Try.underlying40 Try.underlying2 (by kernel_rfl) h with ⟨hcs, _⟩ | ⟨a, l, c, zs, hcs, _, hl, hm, hz, _, hcell, hwz⟩
  · simp at hcs
    subst hcs
    exact ⟨none, 0, [], rfl, ⟨Nat.le_refl _, by simp [maxLen], fun h => absurd h (by simp)⟩, fun _ => ⟨rfl, rfl⟩, by simp⟩
  · simp at hcs
    subst hcs
    simp at hz
    have hln : (zs.take l).length = l := by rw [List.length_take]; omega
    refine ⟨some a, c, zs.take l, by rw [hln], ⟨by omega, hm, fun hp => ?_⟩, (fun e => by cases e), fun k hk => by have := bounds_i64 (hwz k (List.mem_of_mem_take hk)); omega⟩
    rw [hln] at hp ⊢
    obtain ⟨b, off, spot⟩ := a
    have h0 := hcell 0 (by omega)
    have hs : spot = none := by simpa [Addr.add] using World.cell?_spot h0
    subst hs
    refine ⟨b, off, rfl, block_lt_of_cell h0, fun j hj => ?_⟩
    have := hcell j (by omega)
    rw [Addr.add_mid] at this
    rw [this]
    simp only [intsC]
    rw [List.getD_eq_getElem?_getD, List.getD_eq_getElem?_getD, List.getElem?_take_of_lt (by omega)]
set_option maxRecDepth 100000 in
theorem open_longs1 {W : World} {r : Reach} {b0 : Nat} {v : Value} {d : DataW H} {p : List MemPlace} (hv : Value.okWide Try.prog W r b0 40 v) (h : DataW.Trod enc Try.prog W 0 (fun _ => true) true 40 v d p) :
    ∃ a cap ks, v = .slice a (List.length ks) cap ∧ Row W W.heap.size a (List.length ks) cap 1 (intsC ks) ∧ (a = none → List.length ks = 0 ∧ cap = 0) ∧ ∀ k ∈ ks, -9223372036854775808 ≤ k ∧ k ≤ 9223372036854775807 := by
  obtain ⟨a, l, c, rfl⟩ := okWide_slice Try.underlying40 hv
  obtain ⟨fuel, hf⟩ := h
  exact open_longs0 (by simpa [Value.cells] using hf)

end
end Go.Proofs.Ytpgjjdpblilljaa
