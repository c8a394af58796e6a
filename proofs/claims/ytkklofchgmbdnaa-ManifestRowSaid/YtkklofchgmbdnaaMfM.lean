/- Mathematics of lists' bytes: there and back; one byte more; one byte turned. -/
import Derived.Test.YtkklofchgmbdnaaMfC
namespace Go.Proofs.Ytkklofchgmbdnaa
open Crc Frm

theorem mNums_at : ∀ (l : List Int) (j : Nat) (hj : j < l.length) (s : List Nat), ((mNums l ++ s).drop (4 * j)).take 4 = be 4 (l[j]).toNat
  | x :: l, 0, _, s => by
    show ((be 4 x.toNat ++ mNums l ++ s).drop 0).take 4 = _
    rw [List.drop_zero, List.append_assoc, List.take_append_of_le_length (by rw [be_len]; omega), List.take_of_length_le (by rw [be_len]; omega)]
    rfl
  | x :: l, j + 1, hj, s => by
    show ((be 4 x.toNat ++ mNums l ++ s).drop (4 * (j + 1))).take 4 = _
    rw [List.append_assoc, show 4 * (j + 1) = 4 + 4 * j by omega, ← List.drop_drop, List.drop_append_of_le_length (by rw [be_len]; omega), List.drop_of_length_le (l := be 4 x.toNat) (by rw [be_len]; omega), List.nil_append]
    exact mNums_at l j (by simpa using hj) s
theorem mSum_len (l : List Int) : (mSum l).length = 1 + 4 * l.length := by unfold mSum; rw [List.length_cons, mNums_len]; omega
theorem mRaw_len (l : List Int) : (mRaw l).length = 5 + 4 * l.length := by unfold mRaw; rw [List.length_append, mSum_len, be_len]; omega
theorem mRaw_0 (l : List Int) : (mRaw l).getD 0 0 = l.length := rfl
theorem mSum_byte {l : List Int} (h : mOk l = true) : ∀ c ∈ mSum l, c < 256 := by
  intro c hc
  rcases List.mem_cons.1 hc with rfl | h1
  · have := (mOk_all h).2.1; omega
  · exact mNums_byte l c h1
theorem mRaw_take (l : List Int) : (mRaw l).take (1 + 4 * l.length) = mSum l := by
  unfold mRaw
  rw [List.take_append_of_le_length (by rw [mSum_len]; omega), List.take_of_length_le (by rw [mSum_len]; omega)]
theorem mRaw_drop (l : List Int) : (mRaw l).drop (1 + 4 * l.length) = be 4 (more 0 (mSum l)) := by
  unfold mRaw
  rw [List.drop_append_of_le_length (by rw [mSum_len]; omega), List.drop_of_length_le (by rw [mSum_len]; omega)]; rfl
theorem mList_raw {l : List Int} (h : mOk l = true) : mList (mRaw l) = l := by
  unfold mList
  rw [mRaw_0]
  apply List.ext_getElem
  · simp
  · intro j h1 h2
    rw [List.getElem_map, List.getElem_range]
    unfold mNum
    have hx := (mOk_all h).2.2 l[j] (List.getElem_mem _)
    have h3 : (mRaw l).drop (1 + 4 * j) = (mNums l ++ be 4 (more 0 (mSum l))).drop (4 * j) := by
      rw [show 1 + 4 * j = 4 * j + 1 by omega]; rfl
    rw [h3, mNums_at l j h2, val_be (by omega)]
    omega
theorem more4 (l : List Int) : more 0 (mSum l) < 256 ^ 4 := by have := more_lt 0 (mSum l); omega
/-- P5.2: there. -/
theorem mGet_raw {l : List Int} (h : mOk l = true) : mGet (mRaw l) = (l, 0) := by
  unfold mGet
  rw [mRaw_len, mRaw_0, if_neg (by omega), show 5 + 4 * l.length - 4 = 1 + 4 * l.length by omega, mRaw_drop, mRaw_take, val_be (more4 l), if_neg (by simp), mList_raw h, if_pos h]
theorem mGet_more {l : List Int} (c : Nat) : mGet (mRaw l ++ [c]) = ([], 12) := by
  unfold mGet
  rw [if_pos]
  right
  rw [List.length_append, mRaw_len]
  show 5 + 4 * l.length + 1 ≠ 5 + 4 * l.length
  omega
/-- One byte turned. -/
theorem mGet_set {l : List Int} (h : mOk l = true) (k c : Nat) (hk : k < 5 + 4 * l.length) (hc : c < 256) (hne : c ≠ (mRaw l).getD k 0) : (mGet ((mRaw l).set k c)).2 ≠ 0 := by
  have hlen : ((mRaw l).set k c).length = 5 + 4 * l.length := by rw [List.length_set, mRaw_len]
  unfold mGet
  rw [hlen]
  cases k with
  | zero =>
    have e0 : ((mRaw l).set 0 c).getD 0 0 = c := rfl
    rw [e0, if_pos (.inr (by have : c ≠ l.length := hne; omega))]
    simp
  | succ k =>
    have e0 : ((mRaw l).set (k + 1) c).getD 0 0 = l.length := rfl
    rw [e0, if_neg (by omega), show 5 + 4 * l.length - 4 = 1 + 4 * l.length by omega]
    by_cases hk4 : k + 1 < 1 + 4 * l.length
    · have hd : ((mRaw l).set (k + 1) c).drop (1 + 4 * l.length) = be 4 (more 0 (mSum l)) := by rw [List.drop_set_of_lt hk4, mRaw_drop]
      have ht : ((mRaw l).set (k + 1) c).take (1 + 4 * l.length) = (mSum l).set (k + 1) c := by rw [List.take_set, mRaw_take]
      rw [hd, ht, val_be (more4 l), if_pos]
      · simp
      · intro he
        apply hne
        rw [more_set (mSum l) (k + 1) c (by rw [mSum_len]; omega) (mSum_byte h) hc he.symm]
        unfold mRaw
        rw [List.getD_eq_getElem?_getD, List.getD_eq_getElem?_getD, List.getElem?_append_left (by rw [mSum_len]; omega)]
    · obtain ⟨i, hi⟩ : ∃ i, k + 1 = 1 + 4 * l.length + i := ⟨k + 1 - (1 + 4 * l.length), by omega⟩
      have ht : ((mRaw l).set (k + 1) c).take (1 + 4 * l.length) = mSum l := by rw [List.take_set_of_le (by omega), mRaw_take]
      have hd : ((mRaw l).set (k + 1) c).drop (1 + 4 * l.length) = (be 4 (more 0 (mSum l))).set i c := by
        rw [List.drop_set, if_neg (by omega), mRaw_drop, hi, Nat.add_sub_cancel_left]
      rw [hd, ht, if_pos]
      · simp
      · intro he
        have h2 : (be 4 (more 0 (mSum l))).set i c = be 4 (more 0 (mSum l)) := by
          apply val_inj
          · intro x hx
            rcases List.mem_or_eq_of_mem_set hx with h3 | h3
            · exact be_byte _ _ x h3
            · omega
          · exact be_byte _ _
          · rw [List.length_set]
          · rw [he, val_be (more4 l)]
        apply hne
        have h3 := congrArg (fun z => z.getD i 0) h2
        have hi4 : i < 4 := by omega
        simp only [List.getD_eq_getElem?_getD] at h3
        rw [List.getElem?_set_self (by rw [be_len]; omega)] at h3
        have h4 : (mRaw l).getD (k + 1) 0 = (be 4 (more 0 (mSum l))).getD i 0 := by
          rw [← mRaw_drop, hi, List.getD_eq_getElem?_getD, List.getD_eq_getElem?_getD, List.getElem?_drop]
        rw [h4, List.getD_eq_getElem?_getD, ← h3]
        rfl
theorem mGet_err (bs : List Nat) (h : (mGet bs).2 ≠ 0) : (mGet bs).1 = [] := by
  unfold mGet at *
  split
  · rfl
  split
  · rfl
  split
  · simp_all
  · rfl
theorem mList_len0 (b0 : Nat) (ys : List Nat) : (mList (b0 :: ys)).length = b0 := by simp [mList]
theorem chunks (ys : List Nat) : ∀ k, (List.range k).flatMap (fun j => (ys.drop (4 * j)).take 4) = ys.take (4 * k)
  | 0 => by simp
  | k + 1 => by
    rw [List.range_succ, List.flatMap_append, chunks ys k, show 4 * (k + 1) = 4 * k + 4 by omega, List.take_add]
    simp
theorem flatMap_same {l : List Nat} {f g : Nat → List Nat} (h : ∀ j ∈ l, f j = g j) : l.flatMap f = l.flatMap g := by
  induction l with
  | nil => rfl
  | cons x l ih => rw [List.flatMap_cons, List.flatMap_cons, h x (by simp), ih (fun j hj => h j (by simp [hj]))]
/-- P5.2: back. -/
theorem mGet_back (bs : List Nat) (hb : ∀ c ∈ bs, c < 256) (h : (mGet bs).2 = 0) : mOk (mGet bs).1 = true ∧ mPut (mGet bs).1 = bs := by
  have key : bs.length = 5 + 4 * bs.getD 0 0 ∧ val (bs.drop (bs.length - 4)) = more 0 (bs.take (bs.length - 4)) ∧ mOk (mList bs) = true ∧ mGet bs = (mList bs, 0) := by
    unfold mGet at *
    split at h
    · simp at h
    · rename_i h1
      split at h
      · simp at h
      · rename_i h2
        split at h
        · rename_i h3
          refine ⟨by omega, by simpa using h2, h3, ?_⟩
          rw [if_neg h1, if_neg h2, if_pos h3]
        · simp at h
  obtain ⟨h1, h2, h3, h4⟩ := key
  rw [h4]
  refine ⟨h3, ?_⟩
  unfold mPut
  rw [if_pos h3]
  have hbl := hb
  obtain ⟨b0, hb0⟩ : ∃ b0, b0 = bs.getD 0 0 := ⟨_, rfl⟩
  rw [← hb0] at h1
  match bs, h1 with
  | y :: ys, h1 =>
    have hy : b0 = y := hb0
    subst hy
    have hyl : ys.length = 4 + 4 * b0 := by simp only [List.length_cons] at h1; omega
    have hnums : mNums (mList (b0 :: ys)) = ys.take (4 * b0) := by
      rw [← chunks ys b0]
      unfold mNums mList
      rw [List.flatMap_map]
      show (List.range b0).flatMap _ = _
      apply flatMap_same
      intro j hj
      have hj' := List.mem_range.1 hj
      unfold mNum
      rw [show 1 + 4 * j = 4 * j + 1 by omega]
      show be 4 (((val ((ys.drop (4 * j)).take 4) : Nat) : Int)).toNat = _
      rw [Int.toNat_natCast]
      have h5 := be_val ((ys.drop (4 * j)).take 4) (fun c hc => hb c (List.mem_cons_of_mem _ (List.mem_of_mem_drop (List.mem_of_mem_take hc))))
      rw [List.length_take, List.length_drop, Nat.min_eq_left (by omega)] at h5
      exact h5
    have hsum : mSum (mList (b0 :: ys)) = (b0 :: ys).take (1 + 4 * b0) := by
      unfold mSum
      rw [hnums, mList_len0, show 1 + 4 * b0 = 4 * b0 + 1 by omega]
      rfl
    have hl4 : (b0 :: ys).length - 4 = 1 + 4 * b0 := by simp only [List.length_cons]; omega
    rw [hl4] at h2
    unfold mRaw
    rw [hsum, ← h2]
    have h6 := be_val ((b0 :: ys).drop (1 + 4 * b0)) (fun c hc => hb c (List.mem_of_mem_drop hc))
    rw [List.length_drop, show (b0 :: ys).length - (1 + 4 * b0) = 4 by simp only [List.length_cons]; omega] at h6
    rw [h6, List.take_append_drop]
end Go.Proofs.Ytkklofchgmbdnaa
