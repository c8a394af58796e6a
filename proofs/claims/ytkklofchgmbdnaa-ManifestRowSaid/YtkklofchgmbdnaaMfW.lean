/- Mathematics of Swap on a disk: what is there behind it, and behind a Crash. -/
import Derived.Test.YtkklofchgmbdnaaMfH
import Derived.Test.YtkklofchgmbdnaaMfM
namespace Go.Proofs.Ytkklofchgmbdnaa
open Go.RowKit Go.Sort
open Go.Maps
open Crc Frm

theorem mne : mfL ≠ nxL := by decide
/-- The list's file has a list's bytes, and all of them last. -/
def Has (D : FS) (l : List Int) : Prop := fat D mfL = some ⟨mPut l, (mPut l).length⟩
theorem fat_delete_other (t : St) {s s' : List UInt8} (h : s' ≠ s) : fat (t.delete s).2.D s' = fat t.D s' := by
  unfold St.delete
  split
  · rfl
  split
  · rfl
  · exact fat_del_other h
theorem fat_sync_other (t : St) {s s' : List UInt8} (h : s' ≠ s) : fat (t.sync s).2.D s' = fat t.D s' := by
  unfold St.sync
  split
  · rfl
  split
  · rfl
  split
  · rfl
  · exact fat_put_other h _
theorem fat_write_other (t : St) {s s' : List UInt8} (b : List Nat) (h : s' ≠ s) : fat (t.write s b).2.D s' = fat t.D s' := by
  unfold St.write
  split
  · rfl
  split
  · rfl
  split
  · rfl
  · exact fat_put_other h _
theorem isMap_delete {t : St} (h : IsMap t.D) (s : List UInt8) : IsMap (t.delete s).2.D := by
  unfold St.delete
  split
  · exact h
  split
  · exact h
  · exact h.del _
theorem isMap_sync {t : St} (h : IsMap t.D) (s : List UInt8) : IsMap (t.sync s).2.D := by
  unfold St.sync
  split
  · exact h
  split
  · exact h
  split
  · exact h
  · exact h.put _ _
theorem isMap_write {t : St} (h : IsMap t.D) (s : List UInt8) (b : List Nat) : IsMap (t.write s b).2.D := by
  unfold St.write
  split
  · exact h
  split
  · exact h
  split
  · exact h
  · exact h.put _ _
theorem isMap_delNext {t : St} (h : IsMap t.D) : IsMap (delNext t).2.D := by
  unfold delNext
  split
  · exact isMap_delete h _
  · exact h
theorem isMap_st {t : St} (h : IsMap t.D) (l : List Int) : ∀ k, k ≤ 3 → IsMap (mSt t l k).D
  | 0, _ => h
  | 1, _ => isMap_delNext h
  | 2, _ => isMap_write (isMap_delNext h) _ _
  | 3, _ => isMap_sync (isMap_write (isMap_delNext h) _ _) _
theorem fat_delNext (t : St) : fat (delNext t).2.D mfL = fat t.D mfL := by
  unfold delNext
  split
  · exact fat_delete_other t mne
  · rfl
theorem fat_st (t : St) (l : List Int) : ∀ k, k ≤ 3 → fat (mSt t l k).D mfL = fat t.D mfL
  | 0, _ => rfl
  | 1, _ => fat_delNext t
  | 2, _ => (fat_write_other _ _ mne).trans (fat_delNext t)
  | 3, _ => (fat_sync_other _ mne).trans ((fat_write_other _ _ mne).trans (fat_delNext t))
theorem st_1 (t : St) (l : List Int) (h : mAns t l 0 = 0) : fat (mSt t l 1).D nxL = none := by
  show fat (delNext t).2.D nxL = none
  have h : (delNext t).1 = 0 := h
  unfold delNext at *
  split at h
  · rename_i hs
    rw [if_pos hs]
    unfold St.delete at *
    split at h
    · simp at h
    · rename_i hf
      rw [if_neg hf]
      split at h
      · simp at h
      · exact fat_del_same _
  · rename_i hs
    rw [if_neg hs]
    cases hf : fat t.D nxL with
    | none => rfl
    | some f => rw [hf] at hs; simp at hs
theorem st_2 {t : St} (hm : IsMap t.D) (l : List Int) (h1 : fat (mSt t l 1).D nxL = none) (h : mAns t l 1 = 0) : fat (mSt t l 2).D nxL = some ⟨mPut l, 0⟩ := by
  have hm1 := isMap_st hm l 1 (by omega)
  show fat ((mSt t l 1).write nxL (mPut l)).2.D nxL = _
  have h : ((mSt t l 1).write nxL (mPut l)).1 = 0 := h
  generalize mSt t l 1 = s at *
  unfold St.write at *
  split at h
  · simp at h
  · rename_i a1
    rw [if_neg a1]
    split at h
    · simp at h
    · rename_i a2
      rw [if_neg a2]
      split at h
      · simp at h
      · rename_i a3
        rw [if_neg a3]
        show fat (s.D.put _ _) nxL = _
        rw [fat_put_same hm1, h1]
        rfl
theorem st_3 {t : St} (hm : IsMap t.D) (l : List Int) (P : List Nat) (h1 : fat (mSt t l 2).D nxL = some ⟨P, 0⟩) (h : mAns t l 2 = 0) : fat (mSt t l 3).D nxL = some ⟨P, P.length⟩ := by
  have hm1 := isMap_st hm l 2 (by omega)
  show fat ((mSt t l 2).sync nxL).2.D nxL = _
  have h : ((mSt t l 2).sync nxL).1 = 0 := h
  generalize mSt t l 2 = s at *
  unfold St.sync at *
  rw [h1] at h ⊢
  split at h
  · simp at h
  · rename_i a1
    rw [if_neg a1]
    simp only [] at h ⊢
    split at h
    · simp at h
    · rename_i a2
      rw [if_neg a2]
      exact fat_put_same hm1 _ _
theorem st_4 {t : St} (hm : IsMap t.D) (l : List Int) (f : Fl) (h1 : fat (mSt t l 3).D nxL = some f) (h : mAns t l 3 = 0) : fat (mSt t l 4).D mfL = some f := by
  have hm1 := isMap_st hm l 3 (by omega)
  show fat ((mSt t l 3).rename nxL mfL).2.D mfL = _
  have h : ((mSt t l 3).rename nxL mfL).1 = 0 := h
  generalize mSt t l 3 = s at *
  unfold St.rename at *
  rw [h1] at h ⊢
  split at h
  · simp at h
  · rename_i a1
    rw [if_neg a1]
    split at h
    · simp at h
    · rename_i a2
      rw [if_neg a2]
      exact fat_put_same (hm1.del _) _ _
theorem fat_clean (x : Int) (t : St) : fat (mClean x t).D mfL = fat t.D mfL := by
  unfold mClean
  split
  · exact fat_delete_other t mne
  · rfl
theorem turn_cases (t : St) (l : List Int) : (∃ k, k < 4 ∧ (∀ j, j < k → mAns t l j = 0) ∧ mAns t l k ≠ 0 ∧ mTurn t l = (mAns t l k, mSt t l (k + 1))) ∨ ((∀ j, j < 4 → mAns t l j = 0) ∧ mTurn t l = (0, mSt t l 4)) := by
  by_cases h0 : mAns t l 0 = 0
  · by_cases h1 : mAns t l 1 = 0
    · by_cases h2 : mAns t l 2 = 0
      · by_cases h3 : mAns t l 3 = 0
        · have hall : ∀ j, j < 4 → mAns t l j = 0 := fun j hj => by match j, hj with | 0, _ => exact h0 | 1, _ => exact h1 | 2, _ => exact h2 | 3, _ => exact h3
          exact .inr ⟨hall, turn_end t l hall⟩
        · have hall : ∀ j, j < 3 → mAns t l j = 0 := fun j hj => by match j, hj with | 0, _ => exact h0 | 1, _ => exact h1 | 2, _ => exact h2
          exact .inl ⟨3, by omega, hall, h3, turn_stop t l 3 (by omega) hall h3⟩
      · have hall : ∀ j, j < 2 → mAns t l j = 0 := fun j hj => by match j, hj with | 0, _ => exact h0 | 1, _ => exact h1
        exact .inl ⟨2, by omega, hall, h2, turn_stop t l 2 (by omega) hall h2⟩
    · have hall : ∀ j, j < 1 → mAns t l j = 0 := fun j hj => by match j, hj with | 0, _ => exact h0
      exact .inl ⟨1, by omega, hall, h1, turn_stop t l 1 (by omega) hall h1⟩
  · exact .inl ⟨0, by omega, fun j hj => by omega, h0, turn_stop t l 0 (by omega) (fun j hj => by omega) h0⟩
/-- P5.3: a Swap that is not done leaves the list's file. -/
theorem swap_keeps (t : St) (l : List Int) (h : (mSwap t l).1 ≠ 0) : fat (mSwap t l).2.D mfL = fat t.D mfL := by
  unfold mSwap at *
  split at h
  · rename_i hok
    rw [if_pos hok]
    show fat (mClean _ _).D mfL = _
    rw [fat_clean]
    rcases turn_cases t l with ⟨k, hk, _, h1, h2⟩ | ⟨_, h2⟩
    · rw [h2]
      by_cases hk3 : k < 3
      · exact fat_st t l (k + 1) (by omega)
      · have : k = 3 := by omega
        subst this
        show fat ((mSt t l 3).rename nxL mfL).2.D mfL = _
        rw [rename_err (mSt t l 3) nxL mfL h1]
        exact fat_st t l 3 (by omega)
    · rw [h2] at h
      exact absurd rfl h
  · rename_i hok
    rw [if_neg hok]
/-- P5.3: one that is done leaves the other list. -/
theorem swap_done {t : St} (hm : IsMap t.D) (l : List Int) (h : (mSwap t l).1 = 0) : mOk l = true ∧ Has (mSwap t l).2.D l := by
  unfold mSwap at *
  split at h
  · rename_i hok
    refine ⟨hok, ?_⟩
    rw [if_pos hok]
    show fat (mClean _ _).D mfL = _
    rw [fat_clean]
    rcases turn_cases t l with ⟨k, hk, _, h1, h2⟩ | ⟨h1, h2⟩
    · rw [h2] at h
      exact absurd h h1
    · rw [h2]
      exact st_4 hm l _ (st_3 hm l _ (st_2 hm l (st_1 t l (h1 0 (by omega))) (h1 1 (by omega))) (h1 2 (by omega))) (h1 3 (by omega))
  · simp at h
theorem has_crash {t : St} (hG : Good t.D t.room) (ks : List Int) {l : List Int} (h : Has t.D l) : Has (t.crash ks).D l := by
  have hmem := (names_mem hG mfL).2 (by unfold Has at h; rw [h]; rfl)
  obtain ⟨j, hj⟩ := List.getElem?_of_mem hmem
  have h2 := fat_crD ks (size t.D) hG hj h
  show fat (crD ks (size t.D) t.D) mfL = _
  rw [h2]
  split
  · have := crM_le ks j (f := ⟨mPut l, (mPut l).length⟩) (Nat.le_refl _)
    have e : crM ks j ⟨mPut l, (mPut l).length⟩ = (mPut l).length := by simp only [] at this; omega
    unfold crF
    rw [e]
    simp
  · rfl
theorem load_has {t : St} {l : List Int} (hok : mOk l = true) (h : Has t.D l) : mLoad t = (l, 0) := by
  unfold mLoad
  rw [h]
  show mGet (mPut l) = _
  have : mPut l = mRaw l := by unfold mPut; rw [if_pos hok]
  rw [this, mGet_raw hok]
end Go.Proofs.Ytkklofchgmbdnaa
