/- Numbers as bytes, seven bits in each: what is written, what is read, and that there is one form (mathematics). -/
import Derived.Test.YtcfehddnccdejaaLine
namespace Go.Proofs.Ytcfehddnccdejaa
set_option linter.unusedSimpArgs false
set_option linter.unusedVariables false
open Go.RowKit
namespace Wir

def cnt (n : Int) : Nat := if 0 ≤ n then (2 * n).toNat else (-2 * n - 1).toNat
def unc (c : Nat) : Int := if c % 2 = 1 then -((c / 2 : Nat) : Int) - 1 else ((c / 2 : Nat) : Int)
theorem unc_cnt (n : Int) : unc (cnt n) = n := by unfold unc cnt; split <;> split <;> omega
theorem cnt_unc (c : Nat) : cnt (unc c) = c := by unfold unc cnt; split <;> split <;> omega
theorem cnt_lt {n : Int} (h1 : -9223372036854775808 ≤ n) (h2 : n ≤ 9223372036854775807) : cnt n < 18446744073709551616 := by unfold cnt; split <;> omega
theorem unc_ge {c : Nat} (h : c < 18446744073709551616) : -9223372036854775808 ≤ unc c ∧ unc c ≤ 9223372036854775807 := by unfold unc; split <;> omega

/-- A count's bytes. -/
def dg (c : Nat) : List Nat := if c < 128 then [c] else (c % 128 + 128) :: dg (c / 128)
termination_by c
decreasing_by omega
theorem dg_lo {c : Nat} (h : c < 128) : dg c = [c] := by rw [dg, if_pos h]
theorem dg_hi {c : Nat} (h : ¬ c < 128) : dg c = (c % 128 + 128) :: dg (c / 128) := by rw [dg, if_neg h]
/-- What bytes count. -/
def sm : List Nat → Nat
  | [] => 0
  | c :: l => c % 128 + 128 * sm l
theorem sm_append : ∀ (a b : List Nat), sm (a ++ b) = sm a + 128 ^ a.length * sm b
  | [], b => by simp [sm]
  | x :: a, b => by
    simp only [List.cons_append, sm, sm_append a b, List.length_cons, Nat.pow_succ]
    rw [Nat.mul_add, Nat.mul_comm (128 ^ a.length) 128, Nat.mul_assoc]
    omega
theorem sm_lt : ∀ a : List Nat, sm a < 128 ^ a.length
  | [] => by simp [sm]
  | x :: a => by
    have := sm_lt a
    simp only [sm, List.length_cons, Nat.pow_succ]
    omega
structure Shape (ds : List Nat) (x : Nat) : Prop where
  hi : ∀ d ∈ ds, 128 ≤ d ∧ d < 256
  lo : x < 128
  few : ds ≠ [] → x ≠ 0
theorem dg_shape (c : Nat) : ∃ ds x, dg c = ds ++ [x] ∧ Shape ds x ∧ sm (ds ++ [x]) = c := by
  induction c using Nat.strongRecOn with
  | _ c ih =>
    by_cases h : c < 128
    · exact ⟨[], c, by rw [dg_lo h]; rfl, ⟨by simp, h, by simp⟩, by simp [sm]; omega⟩
    · obtain ⟨ds, x, h1, h2, h3⟩ := ih (c / 128) (by omega)
      refine ⟨(c % 128 + 128) :: ds, x, by rw [dg_hi h, h1]; rfl, ⟨?_, h2.lo, fun _ hx => ?_⟩, ?_⟩
      · intro d hd
        rcases List.mem_cons.1 hd with rfl | hd
        · omega
        · exact h2.hi d hd
      · by_cases hds : ds = []
        · subst hds
          simp only [List.nil_append, sm] at h3
          omega
        · exact h2.few hds hx
      · simp only [List.cons_append, sm, h3]
        omega
theorem dg_of_shape : ∀ (ds : List Nat) (x : Nat), Shape ds x → dg (sm (ds ++ [x])) = ds ++ [x]
  | [], x, h => by
    have := h.lo
    simp only [List.nil_append, sm, Nat.mul_zero, Nat.add_zero]
    rw [Nat.mod_eq_of_lt this, dg_lo this]
  | d :: ds, x, h => by
    have ih := dg_of_shape ds x ⟨fun y hy => h.hi y (by simp [hy]), h.lo, fun _ => h.few (by simp)⟩
    have hd := h.hi d (by simp)
    have hp : 0 < sm (ds ++ [x]) := by
      rw [sm_append]
      have h1 := h.few (by simp)
      have h2 := h.lo
      have h3 : 0 < 128 ^ ds.length := Nat.pow_pos (by decide)
      simp only [sm, Nat.mul_zero, Nat.add_zero]
      have : 0 < 128 ^ ds.length * (x % 128) := Nat.mul_pos h3 (by omega)
      omega
    simp only [List.cons_append, sm]
    rw [dg_hi (by omega), show (d % 128 + 128 * sm (ds ++ [x])) / 128 = sm (ds ++ [x]) from by omega, ih]
    congr 1
    omega
/-- Counts of 64 bits have ten bytes at most, and of ten the last is 1. -/
theorem shape_small {ds : List Nat} {x : Nat} (h : Shape ds x) (hc : sm (ds ++ [x]) < 18446744073709551616) : ds.length ≤ 9 ∧ (ds.length = 9 → x ≤ 1) := by
  rw [sm_append] at hc
  simp only [sm, Nat.mul_zero, Nat.add_zero] at hc
  have hx : x % 128 = x := Nat.mod_eq_of_lt h.lo
  rw [hx] at hc
  have key : ds.length ≤ 9 := by
    refine Classical.byContradiction fun hn => ?_
    have h1 := h.few (by intro e; subst e; simp at hn)
    have h2 : 128 ^ 10 ≤ 128 ^ ds.length := Nat.pow_le_pow_right (by decide) (by omega)
    have h3 : 128 ^ ds.length * 1 ≤ 128 ^ ds.length * x := Nat.mul_le_mul_left _ (by omega)
    have : (128 : Nat) ^ 10 = 1180591620717411303424 := by decide
    omega
  refine ⟨key, fun h9 => ?_⟩
  rw [h9] at hc
  have : (128 : Nat) ^ 9 = 9223372036854775808 := by decide
  omega
theorem shape_big {ds : List Nat} {x : Nat} (h : Shape ds x) (h1 : ds.length ≤ 9) (h2 : ds.length = 9 → x ≤ 1) : sm (ds ++ [x]) < 18446744073709551616 := by
  rw [sm_append]
  simp only [sm, Nat.mul_zero, Nat.add_zero]
  rw [Nat.mod_eq_of_lt h.lo]
  have h3 := sm_lt ds
  have h5 := h.lo
  by_cases h9 : ds.length = 9
  · rw [h9] at h3 ⊢
    have : (128 : Nat) ^ 9 = 9223372036854775808 := by decide
    have := h2 h9
    omega
  · have h4 : 128 ^ ds.length ≤ 128 ^ 8 := Nat.pow_le_pow_right (by decide) (by omega)
    have : (128 : Nat) ^ 8 = 72057594037927936 := by decide
    have h6 : 128 ^ ds.length * x ≤ 128 ^ ds.length * 127 := Nat.mul_le_mul_left _ (by omega)
    omega
theorem dg_byte (c : Nat) : ∀ d ∈ dg c, d < 256 := by
  obtain ⟨ds, x, h1, h2, _⟩ := dg_shape c
  intro d hd
  rw [h1] at hd
  rcases List.mem_append.1 hd with hd | hd
  · exact (h2.hi d hd).2
  · have := h2.lo
    simp only [List.mem_singleton] at hd
    omega
theorem dg_pos (c : Nat) : 0 < (dg c).length := by obtain ⟨ds, x, h1, _⟩ := dg_shape c; rw [h1]; simp
theorem dg_le {c : Nat} (h : c < 18446744073709551616) : (dg c).length ≤ 10 := by
  obtain ⟨ds, x, h1, h2, h3⟩ := dg_shape c
  have := (shape_small h2 (by rw [h3]; exact h)).1
  rw [h1]; simp; omega

/-! ### what is read -/
def fst_ (bs : List Nat) : Option Nat := (bs.take 10).findIdx? fun c => decide (c < 128)
/-- The number that bytes begin with, how many they are, what is wrong. -/
def num (bs : List Nat) : Int × Nat × Nat :=
  match fst_ bs with
  | none => if bs.length < 10 then (0, 0, 13) else (0, 0, 12)
  | some k => if (k = 9 ∧ 1 < bs.getD k 0) ∨ (0 < k ∧ bs.getD k 0 = 0) then (0, 0, 12) else (unc (sm (bs.take (k + 1))), k + 1, 0)
theorem fst_some {bs : List Nat} {k : Nat} (h : fst_ bs = some k) : k < 10 ∧ k < bs.length ∧ bs.getD k 0 < 128 ∧ ∀ j, j < k → 128 ≤ bs.getD j 0 := by
  obtain ⟨h1, h2, h3⟩ := List.findIdx?_eq_some_iff_getElem.1 h
  rw [List.length_take] at h1
  refine ⟨by omega, by omega, ?_, fun j hj => ?_⟩
  · rw [List.getD_eq_getElem?_getD, List.getElem?_eq_getElem (by omega)]
    simpa [List.getElem_take] using h2
  · have := h3 j hj
    rw [List.getD_eq_getElem?_getD, List.getElem?_eq_getElem (by omega)]
    simpa [List.getElem_take] using this
theorem fst_none {bs : List Nat} (h : fst_ bs = none) : ∀ j, j < 10 → j < bs.length → 128 ≤ bs.getD j 0 := by
  intro j h1 h2
  have := List.findIdx?_eq_none_iff.1 h (bs[j]) (by rw [List.mem_take_iff_getElem]; exact ⟨j, by omega, rfl⟩)
  rw [List.getD_eq_getElem?_getD, List.getElem?_eq_getElem h2]
  simpa using this
theorem fst_is {bs : List Nat} {k : Nat} (h10 : k < 10) (hl : k < bs.length) (h1 : bs.getD k 0 < 128) (h2 : ∀ j, j < k → 128 ≤ bs.getD j 0) : fst_ bs = some k := by
  refine List.findIdx?_eq_some_iff_getElem.2 ⟨by rw [List.length_take]; omega, ?_, fun j hj => ?_⟩
  · rw [List.getD_eq_getElem?_getD, List.getElem?_eq_getElem hl] at h1
    simpa [List.getElem_take] using h1
  · have := h2 j hj
    rw [List.getD_eq_getElem?_getD, List.getElem?_eq_getElem (by omega)] at this
    simpa [List.getElem_take] using this
theorem fst_no {bs : List Nat} (h : ∀ j, j < 10 → j < bs.length → 128 ≤ bs.getD j 0) : fst_ bs = none := by
  refine List.findIdx?_eq_none_iff.2 fun c hc => ?_
  obtain ⟨j, hj, rfl⟩ := List.mem_take_iff_getElem.1 hc
  have := h j (by omega) (by omega)
  rw [List.getD_eq_getElem?_getD, List.getElem?_eq_getElem (by omega)] at this
  simpa using this
theorem num_ok {bs : List Nat} (h : (num bs).2.2 = 0) : ∃ k, fst_ bs = some k ∧ ¬ ((k = 9 ∧ 1 < bs.getD k 0) ∨ (0 < k ∧ bs.getD k 0 = 0)) ∧ num bs = (unc (sm (bs.take (k + 1))), k + 1, 0) := by
  unfold num at *
  cases hf : fst_ bs with
  | none => rw [hf] at h; simp only at h; split at h <;> simp at h
  | some k =>
    rw [hf] at h
    simp only at h
    split at h
    · simp at h
    · rename_i hn
      exact ⟨k, rfl, hn, by simp only; rw [if_neg hn]⟩
theorem num_bad {bs : List Nat} (h : (num bs).2.2 ≠ 0) : num bs = (0, 0, (num bs).2.2) ∧ ((num bs).2.2 = 12 ∨ (num bs).2.2 = 13) := by
  unfold num at *
  split
  · split <;> simp
  · rename_i k hk
    rw [hk] at h
    simp only at h
    split
    · simp
    · rename_i hn
      rw [if_neg hn] at h
      exact absurd rfl h
/-- What is read is in one form. -/
theorem num_form {bs : List Nat} (hb : ∀ c ∈ bs, c < 256) (h : (num bs).2.2 = 0) : ∃ c, c < 18446744073709551616 ∧ num bs = (unc c, (dg c).length, 0) ∧ bs.take (dg c).length = dg c ∧ (dg c).length ≤ bs.length := by
  obtain ⟨k, hk, hn, he⟩ := num_ok h
  obtain ⟨h10, hl, h1, h2⟩ := fst_some hk
  have hsh : Shape (bs.take k) (bs.getD k 0) := by
    refine ⟨fun d hd => ?_, h1, fun hne hx => ?_⟩
    · refine ⟨?_, hb d (List.mem_of_mem_take hd)⟩
      obtain ⟨j, hj, rfl⟩ := List.mem_take_iff_getElem.1 hd
      have := h2 j (by omega)
      rw [List.getD_eq_getElem?_getD, List.getElem?_eq_getElem (by omega)] at this
      simpa using this
    · refine hn (.inr ⟨?_, hx⟩)
      rcases Nat.eq_zero_or_pos k with h0 | h0
      · subst h0; simp at hne
      · exact h0
  have hlk : (bs.take k).length = k := by rw [List.length_take]; omega
  have e1 : bs.take (k + 1) = bs.take k ++ [bs.getD k 0] := by
    rw [List.take_succ_eq_append_getElem hl, List.getD_eq_getElem?_getD, List.getElem?_eq_getElem hl]
    rfl
  have e2 := dg_of_shape _ _ hsh
  have e3 : (dg (sm (bs.take (k + 1)))).length = k + 1 := by rw [e1, e2]; simp [hlk]
  refine ⟨sm (bs.take (k + 1)), ?_, ?_, ?_, ?_⟩
  · rw [e1]
    exact shape_big hsh (by omega) (fun h9 => by
      refine Nat.not_lt.1 fun hx => hn (.inl ⟨by omega, hx⟩))
  · rw [he, e3]
  · rw [e3, e1, e2]
  · rw [e3]; omega
/-- What was written is read. -/
theorem num_dg (c : Nat) (hc : c < 18446744073709551616) (rest : List Nat) : num (dg c ++ rest) = (unc c, (dg c).length, 0) := by
  obtain ⟨ds, x, h1, h2, h3⟩ := dg_shape c
  obtain ⟨h9, hx9⟩ := shape_small h2 (by rw [h3]; exact hc)
  have hlen : (dg c).length = ds.length + 1 := by rw [h1]; simp
  have hat : ∀ j, j < ds.length → (dg c ++ rest).getD j 0 = ds.getD j 0 := fun j hj => by
    rw [h1, List.append_assoc, List.getD_eq_getElem?_getD, List.getElem?_append_left hj, List.getD_eq_getElem?_getD]
  have hx : (dg c ++ rest).getD ds.length 0 = x := by
    rw [h1, List.append_assoc, List.getD_eq_getElem?_getD, List.getElem?_append_right (Nat.le_refl _)]
    simp
  have hf : fst_ (dg c ++ rest) = some ds.length := fst_is (by omega) (by rw [List.length_append]; omega) (by rw [hx]; exact h2.lo) (fun j hj => by
    rw [hat j hj, List.getD_eq_getElem?_getD, List.getElem?_eq_getElem hj]
    exact (h2.hi _ (List.getElem_mem _)).1)
  unfold num
  rw [hf]
  simp only
  rw [hx, if_neg (by
    rintro (⟨a, b⟩ | ⟨a, b⟩)
    · have := hx9 a; omega
    · exact h2.few (by intro e; subst e; simp at a) b)]
  rw [show (dg c ++ rest).take (ds.length + 1) = dg c from by rw [← hlen, List.take_left], h1, h3, ← h1, hlen]
/-- Of fewer bytes than a number has it is not. -/
theorem num_cut (c : Nat) (hc : c < 18446744073709551616) (k : Nat) (hk : k < (dg c).length) : num ((dg c).take k) = (0, 0, 13) := by
  obtain ⟨ds, x, h1, h2, h3⟩ := dg_shape c
  obtain ⟨h9, hx9⟩ := shape_small h2 (by rw [h3]; exact hc)
  have hlen : (dg c).length = ds.length + 1 := by rw [h1]; simp
  have e : (dg c).take k = ds.take k := by rw [h1, List.take_append_of_le_length (by omega)]
  have hf : fst_ (ds.take k) = none := fst_no (fun j _ hj => by
    rw [List.length_take] at hj
    rw [List.getD_eq_getElem?_getD, List.getElem?_take_of_lt (by omega), List.getElem?_eq_getElem (by omega)]
    exact (h2.hi _ (List.getElem_mem _)).1)
  rw [e]
  unfold num
  rw [hf]
  simp only
  rw [if_pos (by rw [List.length_take]; omega)]

/-- A number within bounds. -/
def wi (l m : Int) (bs : List Nat) : Int × Nat × Nat := if (num bs).2.2 ≠ 0 then (0, 0, (num bs).2.2) else if (num bs).1 < l ∨ m < (num bs).1 then (0, 0, 12) else ((num bs).1, (num bs).2.1, 0)
/-- A text. -/
def tx (m : Int) (bs : List Nat) : List Nat × Nat × Nat := if (wi 0 m bs).2.2 ≠ 0 then ([], 0, (wi 0 m bs).2.2) else
  if bs.length - (wi 0 m bs).2.1 < (wi 0 m bs).1.toNat then ([], 0, 13) else ((bs.drop (wi 0 m bs).2.1).take (wi 0 m bs).1.toNat, (wi 0 m bs).2.1 + (wi 0 m bs).1.toNat, 0)
structure RS where
  bs : List Nat
  n : Nat
  e : Nat
def RS.told {α : Type} (s : RS) (f : List Nat → α × Nat × Nat) (z : α) : α × RS :=
  if s.e ≠ 0 then (z, s) else if (f (s.bs.drop s.n)).2.2 ≠ 0 then (z, { s with e := (f (s.bs.drop s.n)).2.2 }) else ((f (s.bs.drop s.n)).1, { s with n := s.n + (f (s.bs.drop s.n)).2.1 })
def RS.num (s : RS) : Int × RS := s.told Wir.num 0
def RS.int (s : RS) (l m : Int) : Int × RS := s.told (wi l m) 0
def RS.text (s : RS) (m : Int) : List Nat × RS := s.told (tx m) []
def RS.end_ (s : RS) : Nat := if s.e = 0 ∧ s.n < s.bs.length then 12 else s.e
structure RS.Ok (s : RS) : Prop where
  le : s.n ≤ s.bs.length
  byte : ∀ c ∈ s.bs, c < 256
  small : s.e < 100
theorem num_le {bs : List Nat} (hb : ∀ c ∈ bs, c < 256) : (num bs).2.1 ≤ bs.length ∧ (num bs).2.2 < 100 ∧ -9223372036854775808 ≤ (num bs).1 ∧ (num bs).1 ≤ 9223372036854775807 := by
  by_cases h : (num bs).2.2 = 0
  · obtain ⟨c, hc, h1, h2, h3⟩ := num_form hb h
    rw [h1]
    exact ⟨h3, by simp, unc_ge hc⟩
  · obtain ⟨h1, h2⟩ := num_bad h
    rw [h1]
    exact ⟨by simp, by rcases h2 with h2 | h2 <;> rw [h2] <;> decide, by simp, by simp⟩
theorem wi_le {l m : Int} {bs : List Nat} (hb : ∀ c ∈ bs, c < 256) : (wi l m bs).2.1 ≤ bs.length ∧ (wi l m bs).2.2 < 100 := by
  have := num_le hb
  unfold wi
  split
  · exact ⟨by simp, this.2.1⟩
  split
  · simp
  · exact ⟨this.1, by simp⟩
theorem tx_le {m : Int} {bs : List Nat} (hb : ∀ c ∈ bs, c < 256) : (tx m bs).2.1 ≤ bs.length ∧ (tx m bs).2.2 < 100 := by
  have := wi_le (l := 0) (m := m) hb
  unfold tx
  split
  · exact ⟨by simp, this.2⟩
  split
  · simp
  · simp only; omega
theorem RS.Ok.told {s : RS} {α : Type} {f : List Nat → α × Nat × Nat} {z : α} (h : s.Ok) (hf : (f (s.bs.drop s.n)).2.1 ≤ (s.bs.drop s.n).length ∧ (f (s.bs.drop s.n)).2.2 < 100) : (s.told f z).2.Ok ∧ (s.told f z).2.bs = s.bs := by
  rw [List.length_drop] at hf
  have := h.le
  unfold RS.told
  split
  · exact ⟨h, rfl⟩
  split
  · exact ⟨⟨h.le, h.byte, hf.2⟩, rfl⟩
  · exact ⟨⟨by simp only; omega, h.byte, h.small⟩, rfl⟩
theorem RS.Ok.drop {s : RS} (h : s.Ok) : ∀ c ∈ s.bs.drop s.n, c < 256 := fun c hc => h.byte c (List.mem_of_mem_drop hc)
theorem RS.Ok.num {s : RS} (h : s.Ok) : s.num.2.Ok ∧ s.num.2.bs = s.bs := h.told ⟨(num_le h.drop).1, (num_le h.drop).2.1⟩
theorem RS.Ok.int {s : RS} (h : s.Ok) (l m : Int) : (s.int l m).2.Ok ∧ (s.int l m).2.bs = s.bs := h.told (wi_le h.drop)
theorem RS.Ok.text {s : RS} (h : s.Ok) (m : Int) : (s.text m).2.Ok ∧ (s.text m).2.bs = s.bs := h.told (tx_le h.drop)
end Wir
end Go.Proofs.Ytcfehddnccdejaa
