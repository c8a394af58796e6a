/- A row of elements of three numbers each. -/
import Derived.Test.YtkmdnmjbjbkpdaaLine
namespace Go.Proofs.Ytkmdnmjbjbkpdaa
open Go.RowKit

/-- The cells of a row of questions. -/
def askC (l : List (Int × Int × Int)) (j : Nat) : Value := .int .i64 (if j % 3 = 0 then (l.getD (j / 3) (0, 0, 0)).1 else if j % 3 = 1 then (l.getD (j / 3) (0, 0, 0)).2.1 else (l.getD (j / 3) (0, 0, 0)).2.2)
theorem ask_at {w : World} {B : Nat} {a : Option Addr} {len cap : Nat} {l : List (Int × Int × Int)} (h : Row w B a len cap 3 (askC l)) {k : Nat} (hk : k < len) :
    ∃ b o, a = some ⟨b, o, none⟩ ∧ b < B ∧ w.cell? ⟨b, o + k * 3, none⟩ = some (.int .i64 (l.getD k (0, 0, 0)).1) ∧ w.cell? ⟨b, o + k * 3 + 1, none⟩ = some (.int .i64 (l.getD k (0, 0, 0)).2.1) ∧ w.cell? ⟨b, o + k * 3 + 2, none⟩ = some (.int .i64 (l.getD k (0, 0, 0)).2.2) := by
  obtain ⟨b, o, e, hb, hc⟩ := h.at_ (by omega)
  refine ⟨b, o, e, hb, ?_, ?_, ?_⟩
  · rw [hc (k * 3) (by omega)]
    unfold askC
    rw [if_pos (by omega), show k * 3 / 3 = k from by omega]
  · rw [Nat.add_assoc, hc (k * 3 + 1) (by omega)]
    unfold askC
    rw [if_neg (by omega), if_pos (by omega), show (k * 3 + 1) / 3 = k from by omega]
  · rw [Nat.add_assoc, hc (k * 3 + 2) (by omega)]
    unfold askC
    rw [if_neg (by omega), if_neg (by omega), show (k * 3 + 2) / 3 = k from by omega]
end Go.Proofs.Ytkmdnmjbjbkpdaa
