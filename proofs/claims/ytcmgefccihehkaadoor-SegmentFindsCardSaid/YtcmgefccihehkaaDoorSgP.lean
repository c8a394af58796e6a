/- A head turned in one byte is none: plain mathematics. -/
import Derived.Test.YtcmgefccihehkaaDoorSgS
namespace Go.Proofs.YtcmgefccihehkaaDoor
open Crc Frm

theorem head_split (n : Nat) (m : List Nat) (k y : Nat) (hk : k < 12) : (head n ++ m).set k y = (head n).set k y ++ m := List.set_append_left _ _ (by rw [head_len]; exact hk)
theorem getD_set_self {l : List Nat} {k y : Nat} (hk : k < l.length) : (l.set k y).getD k 0 = y := by
  rw [List.getD_eq_getElem?_getD, List.getElem?_set_self hk]; rfl
theorem getD_append_left' {a b : List Nat} {k : Nat} (hk : k < a.length) : (a ++ b).getD k 0 = a.getD k 0 := by
  rw [List.getD_eq_getElem?_getD, List.getD_eq_getElem?_getD, List.getElem?_append_left hk]
theorem getD_append_right' {a b : List Nat} {k : Nat} (hk : a.length ≤ k) : (a ++ b).getD k 0 = b.getD (k - a.length) 0 := by
  rw [List.getD_eq_getElem?_getD, List.getD_eq_getElem?_getD, List.getElem?_append_right hk]
/-- P4.1: a head that is turned in one byte is none. -/
theorem rh_spoilt (n : Nat) (m : List Nat) (k y : Nat) (hk : k < 12) (hy : y < 256) (hne : y ≠ (head n).getD k 0) : rh ((head n ++ m).set k y) = (0, if k < 4 then 12 else 14) := by
  have hml := more_lt 0 (hd0 n)
  have hl : ((head n ++ m).set k y).length = 12 + m.length := by rw [List.length_set, List.length_append, head_len]
  have ht4 : (head n ++ m).take 4 = magic := rfl
  have ht8 : (head n ++ m).take 8 = hd0 n := by
    rw [List.take_append_of_le_length (by rw [head_len]; decide)]
    unfold head
    rw [List.take_append_of_le_length (by rw [hd0_len]; decide), List.take_of_length_le (by rw [hd0_len]; decide)]
  have hd8 : ((head n ++ m).drop 8).take 4 = be 4 (more 0 (hd0 n)) := by
    unfold head
    rw [List.append_assoc, List.drop_append_of_le_length (by rw [hd0_len]; decide), List.drop_of_length_le (by rw [hd0_len]; decide), List.nil_append, List.take_append_of_le_length (by rw [be_len]; decide), List.take_of_length_le (by rw [be_len]; decide)]
  unfold rh
  rw [if_neg (by rw [hl]; omega)]
  by_cases h4 : k < 4
  · rw [if_pos h4, if_pos]
    rw [List.take_set, ht4]
    intro e
    apply hne
    have := congrArg (fun l => l.getD k 0) e
    rw [getD_set_self (by simpa [magic] using h4)] at this
    rw [this]
    unfold head hd0
    rw [List.append_assoc, getD_append_left' (by simpa [magic] using h4)]
  · rw [if_neg h4, if_neg (by rw [List.take_set_of_le (by omega), ht4]; simp), if_pos]
    by_cases h8 : k < 8
    · rw [List.drop_set_of_lt (by omega), hd8, val_be (by omega), List.take_set, ht8]
      intro e
      apply hne
      have := more_set (hd0 n) k y (by rw [hd0_len]; exact h8) (hd0_byte n) hy e.symm
      rw [this]
      unfold head
      rw [getD_append_left' (by rw [hd0_len]; exact h8)]
    · rw [List.take_set_of_le (by omega), ht8]
      intro e
      have e1 : (((head n ++ m).set k y).drop 8).take 4 = (be 4 (more 0 (hd0 n))).set (k - 8) y := by
        rw [List.drop_set, if_neg (by omega), List.take_set, hd8]
      rw [e1] at e
      have hb : ∀ x ∈ (be 4 (more 0 (hd0 n))).set (k - 8) y, x < 256 := fun x hx => by
        rcases List.mem_or_eq_of_mem_set hx with h | h
        · exact be_byte _ _ x h
        · omega
      have e2 : (be 4 (more 0 (hd0 n))).set (k - 8) y = be 4 (more 0 (hd0 n)) := val_inj hb (be_byte _ _) (by rw [List.length_set]) (by rw [e, val_be (by omega)])
      apply hne
      have := congrArg (fun l => l.getD (k - 8) 0) e2
      rw [getD_set_self (by rw [be_len]; omega)] at this
      rw [this]
      unfold head
      rw [getD_append_right' (by rw [hd0_len]; omega), hd0_len]
theorem rd_spoilt (n : Nat) (m : List Nat) (k y : Nat) (hk : k < 12) (hy : y < 256) (hne : y ≠ (head n).getD k 0) : rd ((head n ++ m).set k y) = (0, [], 0, if k < 4 then 12 else 14) := by
  have h := rh_spoilt n m k y hk hy hne
  unfold rd
  rw [h, if_pos (by simp only; split <;> decide)]
end Go.Proofs.YtcmgefccihehkaaDoor
