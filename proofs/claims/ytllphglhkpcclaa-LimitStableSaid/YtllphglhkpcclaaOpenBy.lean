/- A slice of bytes as a row of numbers. -/
import Derived.Test.YtllphglhkpcclaaOpenB
import Derived.Test.YtllphglhkpcclaaLimitStableW
namespace Go.Proofs.Ytllphglhkpcclaa
set_option linter.unusedSimpArgs false
set_option linter.unusedVariables false
open Go.RowKit
theorem sl_row {w : World} {a : Option Addr} {n c : Nat} {b : List Nat} (h : Sl w w.heap.size a n c b) : Row w w.heap.size a n c 1 (bytC (b.map fun x => ((x : Nat) : Int))) :=
  ⟨h.le, h.max, fun hp => by
    obtain ⟨g, o, e, hlt, hc⟩ := h.at_ (by omega)
    refine ⟨g, o, e, hlt, fun j hj => (hc j (by omega)).trans ?_⟩
    have hl := h.length
    unfold bytC
    rw [List.getD_eq_getElem?_getD, List.getD_eq_getElem?_getD, List.getElem?_map, List.getElem?_eq_getElem (by omega)]
    rfl⟩
theorem sl_byte {w : World} {a : Option Addr} {n c : Nat} {b : List Nat} (h : Sl w w.heap.size a n c b) : ∀ x ∈ b.map (fun x => ((x : Nat) : Int)), 0 ≤ x ∧ x ≤ 255 := by
  intro x hx
  obtain ⟨y, hy, rfl⟩ := List.mem_map.1 hx
  have := h.byte y hy
  omega
end Go.Proofs.Ytllphglhkpcclaa
