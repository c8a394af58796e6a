/- Mathematics of Swap on a disk: what is there behind it, and behind a Crash. Mathematics of Swap on a disk: with room for it, it is done. The log on a disk, plain mathematics: segments in a chain, what they hold, what a write to the last one, a new one behind it and the loss of the first ones make of it. The log on a disk, plain mathematics: what a disk's calls leave of the other files; Append, Sync and Retain keep a chain a chain, whatever they tell. The log on a disk, plain mathematics: Retain loses whole segments, the oldest first; fuses and Syncs that fail change nothing. The log on a disk, plain mathematics: what a crash leaves of a file, what is read of a segment that is cut, what Open finds. The log on a disk, plain mathematics: Open behind a crash gives the chain again, but for the last one's frames that are not whole. The log on a disk, plain mathematics: what lasts; a crash and Open leave a prefix, with all that lasts. The log on a disk, plain mathematics: what lasts is kept by Sync, by a write to the last segment, and by a segment more. The log on a disk, plain mathematics: what lasts is kept by a segment more, laid or not, and so by Append. The log on a disk, plain mathematics: what lasts is kept by Retain, and behind Open all lasts. The log on a disk, plain mathematics: the steps of an Open that is done. The log on a disk, plain mathematics: behind a crash and an Open all lasts again (the heart of P6.2 and P6.3). The log on a disk, plain mathematics: what lasts of a log that begins. Names of segments as the reference makes and reads them: plain mathematics. -/
import Derived.Test.YtechgmohdabkpaaGreatDoorCkc
import Derived.Test.YtechgmohdabkpaaGreatDoorCkd
import Derived.Test.YtechgmohdabkpaaGreatDoorCkj
namespace Go.Proofs.YtechgmohdabkpaaGreatDoor
section
set_option linter.unusedSimpArgs false
set_option linter.unusedVariables false
open Go.RowKit Go.Sort
open Go.Maps
open Crc Frm

theorem mne : mfL ≠ nxL := by decide
/-- The list's file has a list's bytes, and all of them last. -/
def Has (D : FS) (l : List Int) : Prop := fat D mfL = some ⟨mPut l, (mPut l).length⟩
theorem fat_delete_other (t : St) {s s' : List UInt8} (h : s' ≠ s) : fat (t.delete s).2.D s' = fat t.D s' := by
  unfold St.delete
  split
  · rfl
  split
  · rfl
  · exact fat_del_other h
theorem fat_sync_other (t : St) {s s' : List UInt8} (h : s' ≠ s) : fat (t.sync s).2.D s' = fat t.D s' := by
  unfold St.sync
  split
  · rfl
  split
  · rfl
  split
  · rfl
  · exact fat_put_other h _
theorem fat_write_other (t : St) {s s' : List UInt8} (b : List Nat) (h : s' ≠ s) : fat (t.write s b).2.D s' = fat t.D s' := by
  unfold St.write
  split
  · rfl
  split
  · rfl
  split
  · rfl
  · exact fat_put_other h _
theorem isMap_delete {t : St} (h : IsMap t.D) (s : List UInt8) : IsMap (t.delete s).2.D := by
  unfold St.delete
  split
  · exact h
  split
  · exact h
  · exact h.del _
theorem isMap_sync {t : St} (h : IsMap t.D) (s : List UInt8) : IsMap (t.sync s).2.D := by
  unfold St.sync
  split
  · exact h
  split
  · exact h
  split
  · exact h
  · exact h.put _ _
theorem isMap_write {t : St} (h : IsMap t.D) (s : List UInt8) (b : List Nat) : IsMap (t.write s b).2.D := by
  unfold St.write
  split
  · exact h
  split
  · exact h
  split
  · exact h
  · exact h.put _ _
theorem isMap_delNext {t : St} (h : IsMap t.D) : IsMap (delNext t).2.D := by
  unfold delNext
  split
  · exact isMap_delete h _
  · exact h
theorem isMap_st {t : St} (h : IsMap t.D) (l : List Int) : ∀ k, k ≤ 3 → IsMap (mSt t l k).D
  | 0, _ => h
  | 1, _ => isMap_delNext h
  | 2, _ => isMap_write (isMap_delNext h) _ _
  | 3, _ => isMap_sync (isMap_write (isMap_delNext h) _ _) _
theorem fat_delNext (t : St) : fat (delNext t).2.D mfL = fat t.D mfL := by
  unfold delNext
  split
  · exact fat_delete_other t mne
  · rfl
theorem fat_st (t : St) (l : List Int) : ∀ k, k ≤ 3 → fat (mSt t l k).D mfL = fat t.D mfL
  | 0, _ => rfl
  | 1, _ => fat_delNext t
  | 2, _ => (fat_write_other _ _ mne).trans (fat_delNext t)
  | 3, _ => (fat_sync_other _ mne).trans ((fat_write_other _ _ mne).trans (fat_delNext t))
theorem st_1 (t : St) (l : List Int) (h : mAns t l 0 = 0) : fat (mSt t l 1).D nxL = none := by
  show fat (delNext t).2.D nxL = none
  have h : (delNext t).1 = 0 := h
  unfold delNext at *
  split at h
  · rename_i hs
    rw [if_pos hs]
    unfold St.delete at *
    split at h
    · simp at h
    · rename_i hf
      rw [if_neg hf]
      split at h
      · simp at h
      · exact fat_del_same _
  · rename_i hs
    rw [if_neg hs]
    cases hf : fat t.D nxL with
    | none => rfl
    | some f => rw [hf] at hs; simp at hs
theorem st_2 {t : St} (hm : IsMap t.D) (l : List Int) (h1 : fat (mSt t l 1).D nxL = none) (h : mAns t l 1 = 0) : fat (mSt t l 2).D nxL = some ⟨mPut l, 0⟩ := by
  have hm1 := isMap_st hm l 1 (by omega)
  show fat ((mSt t l 1).write nxL (mPut l)).2.D nxL = _
  have h : ((mSt t l 1).write nxL (mPut l)).1 = 0 := h
  generalize mSt t l 1 = s at *
  unfold St.write at *
  split at h
  · simp at h
  · rename_i a1
    rw [if_neg a1]
    split at h
    · simp at h
    · rename_i a2
      rw [if_neg a2]
      split at h
      · simp at h
      · rename_i a3
        rw [if_neg a3]
        show fat (s.D.put _ _) nxL = _
        rw [fat_put_same hm1, h1]
        rfl
theorem st_3 {t : St} (hm : IsMap t.D) (l : List Int) (P : List Nat) (h1 : fat (mSt t l 2).D nxL = some ⟨P, 0⟩) (h : mAns t l 2 = 0) : fat (mSt t l 3).D nxL = some ⟨P, P.length⟩ := by
  have hm1 := isMap_st hm l 2 (by omega)
  show fat ((mSt t l 2).sync nxL).2.D nxL = _
  have h : ((mSt t l 2).sync nxL).1 = 0 := h
  generalize mSt t l 2 = s at *
  unfold St.sync at *
  rw [h1] at h ⊢
  split at h
  · simp at h
  · rename_i a1
    rw [if_neg a1]
    simp only [] at h ⊢
    split at h
    · simp at h
    · rename_i a2
      rw [if_neg a2]
      exact fat_put_same hm1 _ _
theorem st_4 {t : St} (hm : IsMap t.D) (l : List Int) (f : Fl) (h1 : fat (mSt t l 3).D nxL = some f) (h : mAns t l 3 = 0) : fat (mSt t l 4).D mfL = some f := by
  have hm1 := isMap_st hm l 3 (by omega)
  show fat ((mSt t l 3).rename nxL mfL).2.D mfL = _
  have h : ((mSt t l 3).rename nxL mfL).1 = 0 := h
  generalize mSt t l 3 = s at *
  unfold St.rename at *
  rw [h1] at h ⊢
  split at h
  · simp at h
  · rename_i a1
    rw [if_neg a1]
    split at h
    · simp at h
    · rename_i a2
      rw [if_neg a2]
      exact fat_put_same (hm1.del _) _ _
theorem fat_clean (x : Int) (t : St) : fat (mClean x t).D mfL = fat t.D mfL := by
  unfold mClean
  split
  · exact fat_delete_other t mne
  · rfl
theorem turn_cases (t : St) (l : List Int) : (∃ k, k < 4 ∧ (∀ j, j < k → mAns t l j = 0) ∧ mAns t l k ≠ 0 ∧ mTurn t l = (mAns t l k, mSt t l (k + 1))) ∨ ((∀ j, j < 4 → mAns t l j = 0) ∧ mTurn t l = (0, mSt t l 4)) := by
  by_cases h0 : mAns t l 0 = 0
  · by_cases h1 : mAns t l 1 = 0
    · by_cases h2 : mAns t l 2 = 0
      · by_cases h3 : mAns t l 3 = 0
        · have hall : ∀ j, j < 4 → mAns t l j = 0 := fun j hj => by match j, hj with | 0, _ => exact h0 | 1, _ => exact h1 | 2, _ => exact h2 | 3, _ => exact h3
          exact .inr ⟨hall, turn_end t l hall⟩
        · have hall : ∀ j, j < 3 → mAns t l j = 0 := fun j hj => by match j, hj with | 0, _ => exact h0 | 1, _ => exact h1 | 2, _ => exact h2
          exact .inl ⟨3, by omega, hall, h3, turn_stop t l 3 (by omega) hall h3⟩
      · have hall : ∀ j, j < 2 → mAns t l j = 0 := fun j hj => by match j, hj with | 0, _ => exact h0 | 1, _ => exact h1
        exact .inl ⟨2, by omega, hall, h2, turn_stop t l 2 (by omega) hall h2⟩
    · have hall : ∀ j, j < 1 → mAns t l j = 0 := fun j hj => by match j, hj with | 0, _ => exact h0
      exact .inl ⟨1, by omega, hall, h1, turn_stop t l 1 (by omega) hall h1⟩
  · exact .inl ⟨0, by omega, fun j hj => by omega, h0, turn_stop t l 0 (by omega) (fun j hj => by omega) h0⟩
/-- P5.3: a Swap that is not done leaves the list's file. -/
theorem swap_keeps (t : St) (l : List Int) (h : (mSwap t l).1 ≠ 0) : fat (mSwap t l).2.D mfL = fat t.D mfL := by
  unfold mSwap at *
  split at h
  · rename_i hok
    rw [if_pos hok]
    show fat (mClean _ _).D mfL = _
    rw [fat_clean]
    rcases turn_cases t l with ⟨k, hk, _, h1, h2⟩ | ⟨_, h2⟩
    · rw [h2]
      by_cases hk3 : k < 3
      · exact fat_st t l (k + 1) (by omega)
      · have : k = 3 := by omega
        subst this
        show fat ((mSt t l 3).rename nxL mfL).2.D mfL = _
        rw [rename_err (mSt t l 3) nxL mfL h1]
        exact fat_st t l 3 (by omega)
    · rw [h2] at h
      exact absurd rfl h
  · rename_i hok
    rw [if_neg hok]
/-- P5.3: one that is done leaves the other list. -/
theorem swap_done {t : St} (hm : IsMap t.D) (l : List Int) (h : (mSwap t l).1 = 0) : mOk l = true ∧ Has (mSwap t l).2.D l := by
  unfold mSwap at *
  split at h
  · rename_i hok
    refine ⟨hok, ?_⟩
    rw [if_pos hok]
    show fat (mClean _ _).D mfL = _
    rw [fat_clean]
    rcases turn_cases t l with ⟨k, hk, _, h1, h2⟩ | ⟨h1, h2⟩
    · rw [h2] at h
      exact absurd h h1
    · rw [h2]
      exact st_4 hm l _ (st_3 hm l _ (st_2 hm l (st_1 t l (h1 0 (by omega))) (h1 1 (by omega))) (h1 2 (by omega))) (h1 3 (by omega))
  · simp at h
theorem has_crash {t : St} (hG : Good t.D t.room) (ks : List Int) {l : List Int} (h : Has t.D l) : Has (t.crash ks).D l := by
  have hmem := (names_mem hG mfL).2 (by unfold Has at h; rw [h]; rfl)
  obtain ⟨j, hj⟩ := List.getElem?_of_mem hmem
  have h2 := fat_crD ks (size t.D) hG hj h
  show fat (crD ks (size t.D) t.D) mfL = _
  rw [h2]
  split
  · have := crM_le ks j (f := ⟨mPut l, (mPut l).length⟩) (Nat.le_refl _)
    have e : crM ks j ⟨mPut l, (mPut l).length⟩ = (mPut l).length := by simp only [] at this; omega
    unfold crF
    rw [e]
    simp
  · rfl
theorem load_has {t : St} {l : List Int} (hok : mOk l = true) (h : Has t.D l) : mLoad t = (l, 0) := by
  unfold mLoad
  rw [h]
  show mGet (mPut l) = _
  have : mPut l = mRaw l := by unfold mPut; rw [if_pos hok]
  rw [this, mGet_raw hok]
end
section
set_option linter.unusedSimpArgs false
set_option linter.unusedVariables false
open Go.RowKit Go.Sort
open Go.Maps
open Crc Frm

theorem length_insert (x : Lit × DataW Fl) : ∀ l : List (Lit × DataW Fl), (DataW.insert x l).length = l.length + 1
  | [] => rfl
  | y :: r => by
    unfold DataW.insert
    split
    · rfl
    · simp [length_insert x r]
theorem size_put_le {D : FS} (h : IsMap D) (k : Lit) (d : DataW Fl) : size (D.put k d) ≤ size D + 1 := by
  obtain ⟨es, rfl⟩ := h
  show (DataW.insert (k, d) (es.filter fun p => !p.1.sameKey k)).length ≤ es.length + 1
  rw [length_insert]
  have := List.length_filter_le (fun p : Lit × DataW Fl => !p.1.sameKey k) es
  omega
theorem size_del_le {D : FS} (h : IsMap D) (k : Lit) : size (D.del k) ≤ size D := by
  obtain ⟨es, rfl⟩ := h
  exact List.length_filter_le (fun p : Lit × DataW Fl => !p.1.sameKey k) es
theorem size_delete {t : St} (h : IsMap t.D) (s : List UInt8) : size (t.delete s).2.D ≤ size t.D := by
  unfold St.delete
  split
  · exact Nat.le_refl _
  split
  · exact Nat.le_refl _
  · exact size_del_le h _
theorem size_sync {t : St} (h : IsMap t.D) (s : List UInt8) : size (t.sync s).2.D ≤ size t.D + 1 := by
  unfold St.sync
  split
  · exact Nat.le_succ _
  split
  · exact Nat.le_succ _
  split
  · exact Nat.le_succ _
  · exact size_put_le h _ _
theorem size_write {t : St} (h : IsMap t.D) (s : List UInt8) (b : List Nat) : size (t.write s b).2.D ≤ size t.D + 1 := by
  unfold St.write
  split
  · exact Nat.le_succ _
  split
  · exact Nat.le_succ _
  split
  · exact Nat.le_succ _
  · exact size_put_le h _ _
theorem size_rename {t : St} (h : IsMap t.D) (s tn : List UInt8) : size (t.rename s tn).2.D ≤ size t.D + 1 := by
  unfold St.rename
  split
  · exact Nat.le_succ _
  split
  · exact Nat.le_succ _
  split
  · exact Nat.le_succ _
  · have h1 := size_put_le (h.del (.string s)) (.string tn) (.held (by assumption))
    have h2 := size_del_le h (.string s)
    exact Nat.le_trans (size_put_le (h.del (.string s)) _ _) (by omega)
theorem size_delNext {t : St} (h : IsMap t.D) : size (delNext t).2.D ≤ size t.D := by
  unfold delNext
  split
  · exact size_delete h _
  · exact Nat.le_refl _
theorem isMap_st4 {t : St} (h : IsMap t.D) (l : List Int) : ∀ k, k ≤ 4 → IsMap (mSt t l k).D
  | 0, _ => h
  | 1, _ => isMap_st h l 1 (by omega)
  | 2, _ => isMap_st h l 2 (by omega)
  | 3, _ => isMap_st h l 3 (by omega)
  | 4, _ => by
    have h3 := isMap_st h l 3 (by omega)
    show IsMap ((mSt t l 3).rename nxL mfL).2.D
    generalize mSt t l 3 = s at *
    unfold St.rename
    split
    · exact h3
    split
    · exact h3
    split
    · exact h3
    · exact (h3.del _).put _ _
theorem size_st {t : St} (h : IsMap t.D) (l : List Int) : ∀ k, k ≤ 4 → size (mSt t l k).D ≤ size t.D + 3
  | 0, _ => by show size t.D ≤ _; omega
  | 1, _ => Nat.le_trans (size_delNext h) (by omega)
  | 2, _ => by
    have h1 := size_delNext h
    have h2 := size_write (isMap_st h l 1 (by omega)) nxL (mPut l)
    exact Nat.le_trans h2 (by show size (delNext t).2.D + 1 ≤ _; omega)
  | 3, _ => by
    have h1 := size_delNext h
    have h2 := size_write (isMap_st h l 1 (by omega)) nxL (mPut l)
    have h3 := size_sync (isMap_st h l 2 (by omega)) nxL
    have e1 : size (mSt t l 1).D = size (delNext t).2.D := rfl
    have e2 : size (mSt t l 2).D = size ((mSt t l 1).write nxL (mPut l)).2.D := rfl
    exact Nat.le_trans h3 (by omega)
  | 4, _ => by
    have h1 := size_delNext h
    have h2 := size_write (isMap_st h l 1 (by omega)) nxL (mPut l)
    have h3 := size_sync (isMap_st h l 2 (by omega)) nxL
    have h4 := size_rename (isMap_st h l 3 (by omega)) nxL mfL
    have e1 : size (mSt t l 1).D = size (delNext t).2.D := rfl
    have e2 : size (mSt t l 2).D = size ((mSt t l 1).write nxL (mPut l)).2.D := rfl
    have e3 : size (mSt t l 3).D = size ((mSt t l 2).sync nxL).2.D := rfl
    have h5 : size (mSt t l 4).D ≤ size (mSt t l 3).D + 1 := h4
    omega
theorem isMap_clean {t : St} (h : IsMap t.D) (x : Int) : IsMap (mClean x t).D := by
  unfold mClean
  split
  · exact isMap_delete h _
  · exact h
theorem size_clean {t : St} (h : IsMap t.D) (x : Int) : size (mClean x t).D ≤ size t.D := by
  unfold mClean
  split
  · exact size_delete h _
  · exact Nat.le_refl _
theorem turn_map {t : St} (h : IsMap t.D) (l : List Int) : ∃ k, k ≤ 4 ∧ (mTurn t l).2 = mSt t l k := by
  rcases turn_cases t l with ⟨k, hk, _, _, h2⟩ | ⟨_, h2⟩
  · exact ⟨k + 1, by omega, by rw [h2]⟩
  · exact ⟨4, by omega, by rw [h2]⟩
theorem size_swap {t : St} (h : IsMap t.D) (l : List Int) : size (mSwap t l).2.D ≤ size t.D + 4 := by
  obtain ⟨k, hk, e⟩ := turn_map h l
  unfold mSwap
  split
  · show size (mClean _ _).D ≤ _
    have h1 := isMap_st4 h l k hk
    have h2 := size_st h l k hk
    rw [e]
    have h3 := size_clean h1 (mTurn t l).1
    omega
  · show size t.D ≤ _
    omega
theorem isMap_swap {t : St} (h : IsMap t.D) (l : List Int) : IsMap (mSwap t l).2.D := by
  obtain ⟨k, hk, e⟩ := turn_map h l
  unfold mSwap
  split
  · show IsMap (mClean _ _).D
    rw [e]
    exact isMap_clean (isMap_st4 h l k hk) _
  · exact h
theorem size_crash (t : St) (ks : List Int) : size (t.crash ks).D = size t.D := by
  rw [← size_names, ← size_names]
  show (strKeys (crD ks _ t.D)).length = _
  rw [names_crD]
theorem room_swap (t : St) (l : List Int) : (mSwap t l).2.room = t.room := by
  have hd : ∀ (s : St) (n : List UInt8), (s.delete n).2.room = s.room := fun s n => by
    unfold St.delete
    repeat' split
    all_goals rfl
  have h1 : (delNext t).2.room = t.room := by
    unfold delNext
    split
    · exact hd _ _
    · rfl
  have hw : ∀ (s : St) (n : List UInt8) (b : List Nat), (s.write n b).2.room = s.room := fun s n b => by
    unfold St.write
    repeat' split
    all_goals rfl
  have hs : ∀ (s : St) (n : List UInt8), (s.sync n).2.room = s.room := fun s n => by
    unfold St.sync
    repeat' split
    all_goals rfl
  have hr : ∀ (s : St) (n m : List UInt8), (s.rename n m).2.room = s.room := fun s n m => by
    unfold St.rename
    repeat' split
    all_goals rfl
  have hst : ∀ k, (mSt t l k).room = t.room := fun k => by
    match k with
    | 0 => rfl
    | 1 => exact h1
    | 2 => exact (hw _ _ _).trans h1
    | 3 => exact (hs _ _).trans ((hw _ _ _).trans h1)
    | k + 4 => exact (hr _ _ _).trans ((hs _ _).trans ((hw _ _ _).trans h1))
  have hc : ∀ (x : Int) (s : St), (mClean x s).room = s.room := fun x s => by
    unfold mClean
    split
    · exact hd _ _
    · rfl
  unfold mSwap
  split
  · show (mClean _ _).room = _
    rw [hc]
    rcases turn_cases t l with ⟨k, _, _, _, h2⟩ | ⟨_, h2⟩
    · rw [h2]; exact hst _
    · rw [h2]; exact hst _
  · rfl
theorem mPut_le {l : List Int} (h : mOk l = true) : (mPut l).length ≤ 165 := by
  have := mOk_all h
  unfold mPut
  rw [if_pos h, mRaw_len]
  omega
/-- What is not done though nothing stands still, or fails, has no room. -/
theorem swap_fits {t : St} (hm : IsMap t.D) (hf : t.fuse = -1) (h0 : t.fails = 0) (hsz : size t.D ≤ 60) {l : List Int} (hok : mOk l = true) (h : (mSwap t l).1 ≠ 0) : t.room < 2 * tot (mSwap t l).2.D + 200 := by
  have hP := mPut_le hok
  -- deleteNext is done
  have hd : (delNext t).1 = 0 ∧ (delNext t).2.fuse = -1 ∧ (delNext t).2.fails = 0 ∧ (delNext t).2.room = t.room := by
    unfold delNext
    split
    · rename_i hs
      unfold St.delete
      rw [if_neg (by rw [hf]; decide)]
      cases hfa : fat t.D nxL with
      | none => rw [hfa] at hs; cases hs
      | some f =>
        refine ⟨rfl, ?_, h0, rfl⟩
        show burn t.fuse = -1
        rw [hf]; rfl
    · exact ⟨rfl, hf, h0, rfl⟩
  have a0 : mAns t l 0 = 0 := hd.1
  have n1 := st_1 t l a0
  have m1 := isMap_st hm l 1 (by omega)
  have z1 : size (mSt t l 1).D ≤ 60 := Nat.le_trans (size_delNext hm) hsz
  by_cases hfit : tot (mSt t l 1).D + (mPut l).length ≤ t.room
  · exfalso
    have hfb : fitsB (mSt t l 1).D (mSt t l 1).room nxL (mPut l).length = true := by
      unfold fitsB
      have e1 : decide (size (mSt t l 1).D < 64) = true := by simp; omega
      have e2 : (mSt t l 1).room = t.room := hd.2.2.2
      rw [e1, e2]
      simp [hfit]
    have w1 : (mSt t l 1).write nxL (mPut l) = (0, { (mSt t l 1).burnt with D := (mSt t l 1).D.put (.string nxL) (.held ⟨((fat (mSt t l 1).D nxL).getD Fl.zero).bs ++ mPut l, ((fat (mSt t l 1).D nxL).getD Fl.zero).l⟩) }) := by
      unfold St.write
      rw [if_neg (by rw [show (mSt t l 1).fuse = -1 from hd.2.1]; decide), if_neg (by decide), hfb, if_neg (by decide)]
    have a1 : mAns t l 1 = 0 := by show ((mSt t l 1).write nxL (mPut l)).1 = 0; rw [w1]
    have f2 : (mSt t l 2).fuse = -1 ∧ (mSt t l 2).fails = 0 := by
      show ((mSt t l 1).write nxL (mPut l)).2.fuse = -1 ∧ ((mSt t l 1).write nxL (mPut l)).2.fails = 0
      rw [w1]
      refine ⟨?_, hd.2.2.1⟩
      show burn (delNext t).2.fuse = -1
      rw [hd.2.1]; rfl
    have n2 := st_2 hm l n1 a1
    have s3 : (mSt t l 2).sync nxL = (0, { (mSt t l 2).burnt with D := (mSt t l 2).D.put (.string nxL) (.held ⟨mPut l, (mPut l).length⟩) }) := by
      unfold St.sync
      rw [if_neg (by rw [f2.1]; decide), n2]
      simp only []
      rw [if_neg (by rw [f2.2]; decide)]
    have a2 : mAns t l 2 = 0 := by show ((mSt t l 2).sync nxL).1 = 0; rw [s3]
    have f3 : (mSt t l 3).fuse = -1 := by
      show ((mSt t l 2).sync nxL).2.fuse = -1
      rw [s3]
      show burn (mSt t l 2).fuse = -1
      rw [f2.1]; rfl
    have n3 := st_3 hm l _ n2 a2
    have a3 : mAns t l 3 = 0 := by
      show ((mSt t l 3).rename nxL mfL).1 = 0
      unfold St.rename
      rw [if_neg (by rw [f3]; decide), if_neg (by decide), n3]
    apply h
    unfold mSwap
    rw [if_pos hok, turn_end t l (fun j hj => by match j, hj with | 0, _ => exact a0 | 1, _ => exact a1 | 2, _ => exact a2 | 3, _ => exact a3)]
  · have hfb : fitsB (mSt t l 1).D (mSt t l 1).room nxL (mPut l).length = false := by
      unfold fitsB
      have e2 : (mSt t l 1).room = t.room := hd.2.2.2
      rw [e2, decide_eq_false hfit, Bool.and_false]
    have w1 : (mSt t l 1).write nxL (mPut l) = (5, (mSt t l 1).burnt) := by
      unfold St.write
      rw [if_neg (by rw [show (mSt t l 1).fuse = -1 from hd.2.1]; decide), if_neg (by decide), if_pos hfb]
    have a1 : mAns t l 1 = 5 := by show ((mSt t l 1).write nxL (mPut l)).1 = 5; rw [w1]
    have ht := turn_stop t l 1 (by omega) (fun j hj => by match j, hj with | 0, _ => exact a0) (by rw [a1]; decide)
    rw [a1] at ht
    have e2 : mSt t l 2 = (mSt t l 1).burnt := by show ((mSt t l 1).write nxL (mPut l)).2 = _; rw [w1]
    have hD : (mSwap t l).2.D = (mSt t l 1).D := by
      unfold mSwap
      rw [if_pos hok, ht]
      show (mClean 5 (mSt t l 2)).D = _
      unfold mClean
      rw [if_pos (by decide), e2]
      unfold St.delete
      rw [show fat (mSt t l 1).burnt.D nxL = none from n1]
      split <;> rfl
    rw [hD]
    omega
end
section
set_option linter.unusedSimpArgs false
set_option linter.unusedVariables false
open Go.RowKit Go.Sort Go.Maps
open Crc Frm
open Sgn

theorem nm_inj {x y : Int} (hx : 0 ≤ x ∧ x ≤ 1073741824) (hy : 0 ≤ y ∧ y ≤ 1073741824) (h : nm x = nm y) : x = y := by
  have h1 := fst_nm hx.1 hx.2
  rw [h, fst_nm hy.1 hy.2] at h1
  exact (Prod.mk.inj h1).1.symm
/-- A file's bytes, if it is there. -/
def St.fb (t : St) (s : List UInt8) : Option (List Nat) := (fat t.D s).map (·.bs)
theorem St.bytes_fb (t : St) (s : List UInt8) : t.bytes s = (t.fb s).getD [] := by
  unfold St.bytes St.fb
  cases fat t.D s <;> rfl
/-- A segment's file is its head and frames in a row, and nothing else. -/
structure Seg (t : St) (x : Int) (fs : List Fr) : Prop where
  range : 0 ≤ x ∧ x ≤ 1073741824
  file : t.fb (nm x) = some (head x.toNat ++ rows fs)
  right : ∀ f ∈ fs, f.right
  row : ∀ (j : Nat) (f : Fr), fs[j]? = some f → f.seq = x + (j : Int)
theorem Seg.bytes {t : St} {x : Int} {fs : List Fr} (h : Seg t x fs) : t.bytes (nm x) = head x.toNat ++ rows fs := by
  rw [St.bytes_fb, h.file]
  rfl
theorem Seg.reads {t : St} {x : Int} {fs : List Fr} (h : Seg t x fs) : rd (t.bytes (nm x)) = (x.toNat, fs, 12 + (rows fs).length, 0) := by
  have := rd_head x.toNat (by have := h.range; omega) fs [] h.right (fun j f hj => by have := h.row j f hj; have := h.range; omega) (by simp)
  rw [List.append_nil] at this
  rw [h.bytes]
  exact this
theorem Seg.keep {t t' : St} {x : Int} {fs : List Fr} (h : Seg t x fs) (hk : t'.fb (nm x) = t.fb (nm x)) : Seg t' x fs := ⟨h.range, by rw [hk]; exact h.file, h.right, h.row⟩
theorem Seg.new {t : St} {x : Int} (h : 0 ≤ x ∧ x ≤ 1073741824) (hf : t.fb (nm x) = some (head x.toNat)) : Seg t x [] :=
  ⟨h, by rw [hf]; simp [rows], fun f hf => (by cases hf), fun j f hj => (by simp at hj)⟩
theorem Seg.grow {t t' : St} {x : Int} {fs : List Fr} {f : Fr} (h : Seg t x fs) (hf : f.right) (hs : f.seq = x + (fs.length : Int)) (hk : t'.fb (nm x) = some (t.bytes (nm x) ++ raw f)) : Seg t' x (fs ++ [f]) := by
  refine ⟨h.range, by rw [hk, h.bytes, rows_snoc, List.append_assoc], ?_, ?_⟩
  · intro g hg
    rcases List.mem_append.1 hg with hg | hg
    · exact h.right g hg
    · rw [show g = f from by simpa using hg]; exact hf
  · intro j g hj
    by_cases hl : j < fs.length
    · rw [List.getElem?_append_left hl] at hj
      exact h.row j g hj
    · have hlt := (List.getElem?_eq_some_iff.1 hj).1
      rw [List.length_append, List.length_singleton] at hlt
      have hj' : j = fs.length := by omega
      subst hj'
      rw [List.getElem?_append_right (Nat.le_refl _), Nat.sub_self] at hj
      rw [show g = f from by simpa using hj.symm]
      exact hs
/-- Segments one behind the other, the next number, all frames: all but the last have a frame. -/
def Chain (t : St) : List Int → Int → List Fr → Prop
  | [], _, _ => False
  | [x], n, fs => Seg t x fs ∧ n = x + (fs.length : Int)
  | x :: y :: l, n, fs => ∃ a b, fs = a ++ b ∧ Seg t x a ∧ a ≠ [] ∧ y = x + (a.length : Int) ∧ Chain t (y :: l) n b
theorem Chain.ne {t : St} {l : List Int} {n : Int} {fs : List Fr} (h : Chain t l n fs) : l ≠ [] := by
  rintro rfl
  exact h
theorem Chain.frames {t : St} {n : Int} : ∀ {l : List Int} {fs : List Fr}, Chain t l n fs → (l.flatMap fun x => (rd (t.bytes (nm x))).2.1) = fs
  | [], _, h => h.elim
  | [x], fs, h => by
    rw [List.flatMap_cons, List.flatMap_nil, List.append_nil, h.1.reads]
  | x :: y :: l, fs, h => by
    obtain ⟨a, b, rfl, h1, _, _, h2⟩ := h
    rw [List.flatMap_cons, Chain.frames h2, h1.reads]
theorem Chain.keep {t t' : St} {n : Int} : ∀ {l : List Int} {fs : List Fr}, Chain t l n fs → (∀ x ∈ l, t'.fb (nm x) = t.fb (nm x)) → Chain t' l n fs
  | [], _, h, _ => h.elim
  | [x], fs, h, hk => ⟨h.1.keep (hk x (by simp)), h.2⟩
  | x :: y :: l, fs, h, hk => by
    obtain ⟨a, b, rfl, h1, h3, h4, h2⟩ := h
    exact ⟨a, b, rfl, h1.keep (hk x (by simp)), h3, h4, h2.keep (fun z hz => hk z (by simp [hz]))⟩
/-- All numbers are in order, from the first on up to the next. -/
theorem Chain.order {t : St} {n : Int} : ∀ {l : List Int} {fs : List Fr}, Chain t l n fs → (∀ x ∈ l, 0 ≤ x ∧ x ≤ 1073741824 ∧ l.headD 0 ≤ x ∧ x ≤ n) ∧ n = l.headD 0 + (fs.length : Int)
  | [], _, h => h.elim
  | [x], fs, h => by
    refine ⟨fun z hz => ?_, h.2⟩
    rw [show z = x from by simpa using hz]
    exact ⟨h.1.range.1, h.1.range.2, Int.le_refl _, by have := h.2; omega⟩
  | x :: y :: l, fs, h => by
    obtain ⟨a, b, rfl, h1, h3, h4, h2⟩ := h
    obtain ⟨ho, hn⟩ := h2.order
    have hy : (y :: l).headD 0 = y := rfl
    rw [hy] at hn ho
    refine ⟨fun z hz => ?_, ?_⟩
    · rcases List.mem_cons.1 hz with rfl | hz
      · exact ⟨h1.range.1, h1.range.2, Int.le_refl _, by omega⟩
      · have := ho z hz
        refine ⟨this.1, this.2.1, ?_, this.2.2.2⟩
        show x ≤ z
        omega
    · show n = x + _
      rw [List.length_append]
      omega
theorem Chain.up {t : St} {n : Int} : ∀ {l : List Int} {fs : List Fr}, Chain t l n fs → l.Pairwise (· < ·)
  | [], _, h => h.elim
  | [x], _, _ => List.pairwise_singleton _ _
  | x :: y :: l, fs, h => by
    obtain ⟨a, b, rfl, h1, h3, h4, h2⟩ := h
    have hl : 0 < a.length := List.length_pos_iff.2 h3
    refine List.pairwise_cons.2 ⟨fun z hz => ?_, h2.up⟩
    have := (h2.order.1 z hz).2.2.1
    have hy : (y :: l).headD 0 = y := rfl
    omega
/-- A frame at the last one's end. -/
theorem Chain.grow {t t' : St} {n : Int} {f : Fr} (hf : f.right) (hs : f.seq = n) : ∀ {l : List Int} {fs : List Fr}, Chain t l n fs → (∀ x ∈ l, x ≠ l.getLastD 0 → t'.fb (nm x) = t.fb (nm x)) →
    t'.fb (nm (l.getLastD 0)) = some (t.bytes (nm (l.getLastD 0)) ++ raw f) → Chain t' l (n + 1) (fs ++ [f])
  | [], _, h, _, _ => h.elim
  | [x], fs, h, _, hk => ⟨h.1.grow hf (by have := h.2; omega) hk, by have := h.2; rw [List.length_append]; simp; omega⟩
  | x :: y :: l, fs, h, hk, hl => by
    have hup := h.up
    obtain ⟨a, b, rfl, h1, h3, h4, h2⟩ := h
    have hlast : (x :: y :: l).getLastD 0 = (y :: l).getLastD 0 := rfl
    have hmem : (y :: l).getLastD 0 ∈ y :: l := by
      rw [List.getLastD_eq_getLast?, List.getLast?_eq_some_getLast (by simp)]
      exact List.getLast_mem _
    have hx := (List.pairwise_cons.1 hup).1 _ hmem
    rw [hlast] at hk hl
    refine ⟨a, b ++ [f], List.append_assoc _ _ _, h1.keep (hk x (by simp) (by omega)), h3, h4, h2.grow hf hs (fun z hz hne => hk z (by simp [hz]) hne) hl⟩
/-- Another segment behind the last one, that has a frame. -/
theorem Chain.lay {t t' : St} {n : Int} (hn : n ≤ 1073741824) : ∀ {l : List Int} {fs : List Fr}, Chain t l n fs → l.getLastD 0 < n → (∀ x ∈ l, t'.fb (nm x) = t.fb (nm x)) →
    t'.fb (nm n) = some (head n.toNat) → Chain t' (l ++ [n]) n fs
  | [], _, h, _, _, _ => h.elim
  | [x], fs, h, hlt, hk, hf => by
    have h0 := h.1.range
    have h2 := h.2
    have hlt' : x < n := hlt
    exact ⟨fs, [], by simp, h.1.keep (hk x (by simp)), fun e => by rw [e] at h2; simp at h2; omega, h2, Seg.new (by omega) hf, by simp⟩
  | x :: y :: l, fs, h, hlt, hk, hf => by
    obtain ⟨a, b, rfl, h1, h3, h4, h2⟩ := h
    exact ⟨a, b, rfl, h1.keep (hk x (by simp)), h3, h4, Chain.lay hn h2 hlt (fun z hz => hk z (by simp [hz])) hf⟩
/-- The first ones are gone. -/
theorem Chain.drop {t : St} {n : Int} : ∀ (k : Nat) {l : List Int} {fs : List Fr}, Chain t l n fs → k < l.length → ∃ a b, fs = a ++ b ∧ Chain t (l.drop k) n b ∧ (l.drop k).headD 0 = l.headD 0 + (a.length : Int)
  | 0, l, fs, h, _ => ⟨[], fs, rfl, h, by simp⟩
  | k + 1, [], _, h, _ => h.elim
  | k + 1, [x], _, _, hk => by simp at hk
  | k + 1, x :: y :: l, fs, h, hk => by
    obtain ⟨a, b, rfl, h1, h3, h4, h2⟩ := h
    obtain ⟨a', b', rfl, h5, h6⟩ := h2.drop k (by simpa using hk)
    refine ⟨a ++ a', b', (List.append_assoc _ _ _).symm, h5, ?_⟩
    show ((y :: l).drop k).headD 0 = x + _
    rw [h6, List.length_append]
    show y + _ = _
    omega
end
section
set_option linter.unusedSimpArgs false
set_option linter.unusedVariables false
open Go.RowKit Go.Sort Go.Maps
open Crc Frm
open Sgn

theorem fb_delete_other (t : St) {s s' : List UInt8} (h : s' ≠ s) : (t.delete s).2.fb s' = t.fb s' := by unfold St.fb; rw [fat_delete_other t h]
theorem fb_write_other (t : St) {s s' : List UInt8} (b : List Nat) (h : s' ≠ s) : (t.write s b).2.fb s' = t.fb s' := by unfold St.fb; rw [fat_write_other t b h]
theorem fb_write_no (t : St) (s s' : List UInt8) (b : List Nat) (h : (t.write s b).1 ≠ 0) : (t.write s b).2.fb s' = t.fb s' := by
  unfold St.write at *
  by_cases h0 : t.fuse = 0
  · rw [if_pos h0]
  · rw [if_neg h0] at h ⊢
    by_cases h1 : nmOk s = false
    · rw [if_pos h1]; rfl
    · rw [if_neg h1] at h ⊢
      by_cases h2 : fitsB t.D t.room s b.length = false
      · rw [if_pos h2]; rfl
      · rw [if_neg h2] at h; exact absurd rfl h
theorem fb_write_yes {t : St} (hm : IsMap t.D) (s : List UInt8) (b : List Nat) (h : (t.write s b).1 = 0) : (t.write s b).2.fb s = some (t.bytes s ++ b) := by
  unfold St.write at *
  by_cases h0 : t.fuse = 0
  · rw [if_pos h0] at h; cases h
  · rw [if_neg h0] at h ⊢
    by_cases h1 : nmOk s = false
    · rw [if_pos h1] at h; cases h
    · rw [if_neg h1] at h ⊢
      by_cases h2 : fitsB t.D t.room s b.length = false
      · rw [if_pos h2] at h; cases h
      · rw [if_neg h2]
        unfold St.fb
        show Option.map _ (fat (t.D.put _ _) s) = _
        rw [fat_put_same hm]
        rfl
theorem fb_sync {t : St} (hm : IsMap t.D) (s s' : List UInt8) : (t.sync s).2.fb s' = t.fb s' := by
  by_cases h : s' = s
  · subst h
    unfold St.sync
    by_cases h0 : t.fuse = 0
    · rw [if_pos h0]
    · rw [if_neg h0]
      cases hf : fat t.D s' with
      | none => rfl
      | some f =>
        simp only
        by_cases h1 : 0 < t.fails
        · rw [if_pos h1]; rfl
        · rw [if_neg h1]
          unfold St.fb
          show Option.map _ (fat (t.D.put _ _) s') = _
          rw [fat_put_same hm, hf]
          rfl
  · unfold St.fb; rw [fat_sync_other t h]
theorem fb_rename_other (t : St) {s tn s' : List UInt8} (h : s' ≠ s) (h' : s' ≠ tn) : (t.rename s tn).2.fb s' = t.fb s' := by
  unfold St.rename
  by_cases h0 : t.fuse = 0
  · rw [if_pos h0]
  · rw [if_neg h0]
    by_cases h1 : nmOk tn = false
    · rw [if_pos h1]; rfl
    · rw [if_neg h1]
      cases hf : fat t.D s with
      | none => rfl
      | some f =>
        unfold St.fb
        show Option.map _ (fat ((t.D.del _).put _ _) s') = _
        rw [fat_put_other h', fat_del_other h]
theorem fb_drop_other (t : St) {s s' : List UInt8} (h : s' ≠ s) : (t.drop s).2.fb s' = t.fb s' := by
  unfold St.drop
  split
  · exact fb_delete_other t h
  · rfl
theorem isMap_drop {t : St} (h : IsMap t.D) (s : List UInt8) : IsMap (t.drop s).2.D := by
  unfold St.drop
  split
  · exact isMap_delete h s
  · exact h
theorem thenSt_keep {P : St → Prop} {r : Int × St} {f : St → Int × St} (h1 : P r.2) (h2 : ∀ t, P t → P (f t).2) : P (thenSt r f).2 := by
  unfold thenSt
  split
  · exact h1
  · exact h2 _ h1
theorem thenSt_yes {r : Int × St} {f : St → Int × St} (h : (thenSt r f).1 = 0) : r.1 = 0 ∧ thenSt r f = f r.2 ∧ (f r.2).1 = 0 := by
  unfold thenSt at *
  by_cases h0 : r.1 = 0
  · rw [if_neg (by simp [h0])] at h ⊢
    exact ⟨h0, rfl, h⟩
  · rw [if_pos h0] at h
    exact absurd h h0
/-- Swap leaves all but its two files. -/
theorem fb_swap_other (t : St) (l : List Int) {s : List UInt8} (h1 : s ≠ mfL) (h2 : s ≠ nxL) : (mSwap t l).2.fb s = t.fb s := by
  have hd : (delNext t).2.fb s = t.fb s := by
    unfold delNext
    split
    · exact fb_delete_other t h2
    · rfl
  have hs : ∀ k, (mSt t l k).fb s = t.fb s := by
    have hm : ∀ k, k ≤ 2 → (mSt t l k).fb s = t.fb s := fun k hk => by
      match k, hk with
      | 0, _ => rfl
      | 1, _ => exact hd
      | 2, _ => exact (fb_write_other _ _ h2).trans hd
    have h3 : (mSt t l 3).fb s = t.fb s := (by unfold St.fb; show Option.map _ (fat ((mSt t l 2).sync nxL).2.D s) = _; rw [fat_sync_other _ h2]; exact hm 2 (Nat.le_refl _))
    intro k
    match k with
    | 0 => exact hm 0 (by decide)
    | 1 => exact hm 1 (by decide)
    | 2 => exact hm 2 (by decide)
    | 3 => exact h3
    | k + 4 => exact (fb_rename_other (mSt t l 3) h2 h1).trans h3
  unfold mSwap
  split
  · have ht : (mTurn t l).2.fb s = t.fb s := by
      rcases turn_cases t l with ⟨k, _, _, _, e⟩ | ⟨_, e⟩ <;> rw [e] <;> exact hs _
    show (mClean _ _).fb s = _
    unfold mClean
    split
    · exact (fb_delete_other _ h2).trans ht
    · exact ht
  · rfl
theorem nm_ne_mf (x : Int) (h : 0 ≤ x ∧ x ≤ 1073741824) : nm x ≠ mfL := fun e => by
  unfold nm at e
  rw [if_pos h] at e
  exact absurd (List.cons.inj e).1 (by decide)
theorem nm_ne_nx (x : Int) (h : 0 ≤ x ∧ x ≤ 1073741824) : nm x ≠ nxL := fun e => by
  unfold nm at e
  rw [if_pos h] at e
  exact absurd (List.cons.inj e).1 (by decide)
theorem nm_ne_fx (x : Int) (h : 0 ≤ x ∧ x ≤ 1073741824) : nm x ≠ fxL := fun e => by
  unfold nm at e
  rw [if_pos h] at e
  exact absurd (List.cons.inj e).1 (by decide)
/-- What is kept between calls. -/
structure LInv (g : Lg) (t : St) (fs : List Fr) : Prop where
  chain : Chain t g.segs g.next fs
  map : IsMap t.D
theorem LInv.sync {g : Lg} {t : St} {fs : List Fr} (h : LInv g t fs) : LInv g (lgSync g t).2 fs :=
  ⟨h.chain.keep (fun x _ => fb_sync h.map _ _), isMap_sync h.map _⟩

theorem fb_delete_yes {t : St} (s : List UInt8) (h : (t.delete s).1 = 0) : (t.delete s).2.fb s = none := by
  unfold St.delete at *
  by_cases h0 : t.fuse = 0
  · rw [if_pos h0] at h; cases h
  · rw [if_neg h0] at h ⊢
    cases hf : fat t.D s with
    | none => rw [hf] at h; cases h
    | some f =>
      unfold St.fb
      show Option.map _ (fat (t.D.del _) s) = _
      rw [fat_del_same]
      rfl
theorem fb_drop_yes {t : St} (s : List UInt8) (h : (t.drop s).1 = 0) : (t.drop s).2.fb s = none := by
  unfold St.drop at *
  by_cases hh : t.has s = true
  · rw [if_pos hh] at h ⊢
    exact fb_delete_yes s h
  · rw [if_neg hh]
    unfold St.has at hh
    unfold St.fb
    cases hf : fat t.D s with
    | none => rfl
    | some f => rw [hf] at hh; exact absurd rfl hh
theorem try_map {g : Lg} {t : St} (h : IsMap t.D) (first : Int) : IsMap (lgTry g t first).2.D :=
  thenSt_keep (P := fun t => IsMap t.D) (thenSt_keep (P := fun t => IsMap t.D) (thenSt_keep (P := fun t => IsMap t.D) (isMap_drop h _) fun _ h => isMap_write h _ _) fun _ h => isMap_sync h _) fun _ h => isMap_swap h _
theorem try_other {g : Lg} {t : St} (h : IsMap t.D) (first : Int) {s : List UInt8} (h1 : s ≠ nm first) (h2 : s ≠ mfL) (h3 : s ≠ nxL) : (lgTry g t first).2.fb s = t.fb s := by
  have := thenSt_keep (P := fun u => IsMap u.D ∧ u.fb s = t.fb s) (r := thenSt (thenSt (t.drop (nm first)) fun t => t.write (nm first) (hdo first)) fun t => t.sync (nm first)) (f := fun t => mSwap t (g.segs ++ [first]))
    (thenSt_keep (P := fun u => IsMap u.D ∧ u.fb s = t.fb s) (thenSt_keep (P := fun u => IsMap u.D ∧ u.fb s = t.fb s) ⟨isMap_drop h _, fb_drop_other t h1⟩ fun u hu => ⟨isMap_write hu.1 _ _, (fb_write_other u _ h1).trans hu.2⟩) fun u hu => ⟨isMap_sync hu.1 _, (fb_sync hu.1 _ _).trans hu.2⟩)
    fun u hu => ⟨isMap_swap hu.1 _, (fb_swap_other u _ h2 h3).trans hu.2⟩
  exact this.2
theorem try_yes {g : Lg} {t : St} (h : IsMap t.D) (first : Int) (hr : 0 ≤ first ∧ first ≤ 1073741824) (h0 : (lgTry g t first).1 = 0) : (lgTry g t first).2.fb (nm first) = some (head first.toNat) := by
  unfold lgTry at *
  obtain ⟨a1, e1, _⟩ := thenSt_yes h0
  rw [e1, fb_swap_other _ _ (nm_ne_mf first hr) (nm_ne_nx first hr)]
  obtain ⟨a2, e2, _⟩ := thenSt_yes a1
  rw [e2]
  have hm2 : IsMap (thenSt (t.drop (nm first)) fun t => t.write (nm first) (hdo first)).2.D := thenSt_keep (P := fun t => IsMap t.D) (isMap_drop h _) fun _ h => isMap_write h _ _
  rw [fb_sync hm2]
  obtain ⟨a3, e3, a4⟩ := thenSt_yes a2
  rw [e3, fb_write_yes (isMap_drop h _) _ _ a4, St.bytes_fb, fb_drop_yes _ a3]
  unfold hdo
  rw [if_pos hr]
  rfl
theorem lay_other {g : Lg} {t : St} (h : IsMap t.D) (first : Int) {s : List UInt8} (h1 : s ≠ nm first) (h2 : s ≠ mfL) (h3 : s ≠ nxL) : (lgLay g t first).2.1.fb s = t.fb s := by
  have ht := try_other (g := g) h first h1 h2 h3
  unfold lgLay
  simp only
  split
  · exact ht
  split
  · exact ht
  · exact (fb_delete_other _ h1).trans ht
theorem lay_map {g : Lg} {t : St} (h : IsMap t.D) (first : Int) : IsMap (lgLay g t first).2.1.D := by
  have ht := try_map (g := g) h first
  unfold lgLay
  simp only
  split
  · exact ht
  split
  · exact ht
  · exact isMap_delete ht _
theorem Chain.mem_last {t : St} {l : List Int} {n : Int} {fs : List Fr} (h : Chain t l n fs) : l.getLastD 0 ∈ l := by
  rw [List.getLastD_eq_getLast?, List.getLast?_eq_some_getLast h.ne]
  exact List.getLast_mem _
theorem Chain.le_last {t : St} {n : Int} : ∀ {l : List Int} {fs : List Fr}, Chain t l n fs → ∀ x ∈ l, x ≤ l.getLastD 0
  | [], _, h, _, _ => h.elim
  | [x], _, _, z, hz => by rw [show z = x from by simpa using hz]; exact Int.le_refl _
  | x :: y :: l, fs, h, z, hz => by
    have hup := h.up
    obtain ⟨a, b, rfl, h1, h3, h4, h2⟩ := h
    show z ≤ (y :: l).getLastD 0
    rcases List.mem_cons.1 hz with rfl | hz
    · have := (List.pairwise_cons.1 hup).1 _ h2.mem_last
      omega
    · exact h2.le_last z hz
/-- A segment more, or none: the frames stay. -/
theorem LInv.lay {g : Lg} {t : St} {fs : List Fr} (h : LInv g t fs) (hlt : g.segs.getLastD 0 < g.next) (hn : g.next ≤ 1073741824) :
    LInv (lgLay g t g.next).2.2 (lgLay g t g.next).2.1 fs ∧ (lgLay g t g.next).2.2.next = g.next := by
  have h0 := (h.chain.order.1 _ h.chain.mem_last).1
  have hoth : ∀ x ∈ g.segs, (lgLay g t g.next).2.1.fb (nm x) = t.fb (nm x) := fun x hx => by
    have hr := h.chain.order.1 x hx
    have hle := h.chain.le_last x hx
    exact lay_other h.map _ (fun e => by have := nm_inj ⟨hr.1, hr.2.1⟩ ⟨by omega, hn⟩ e; omega) (nm_ne_mf x ⟨hr.1, hr.2.1⟩) (nm_ne_nx x ⟨hr.1, hr.2.1⟩)
  have hmap := lay_map (g := g) h.map g.next
  have hk := h.chain.keep hoth
  unfold lgLay at *
  simp only at *
  by_cases e : (lgTry g t g.next).1 = 0
  · rw [if_pos e] at hoth hmap ⊢
    exact ⟨⟨Chain.lay hn h.chain hlt hoth (try_yes h.map g.next ⟨by omega, hn⟩ e), hmap⟩, rfl⟩
  · rw [if_neg e] at hk hmap ⊢
    by_cases e2 : (lgTry g t g.next).1 = 42
    · rw [if_pos e2] at hk hmap ⊢
      exact ⟨⟨hk, hmap⟩, rfl⟩
    · rw [if_neg e2] at hk hmap ⊢
      exact ⟨⟨hk, hmap⟩, rfl⟩
theorem LInv.room {g : Lg} {t : St} {fs : List Fr} (h : LInv g t fs) (size more : Nat) (hn : g.next ≤ 1073741824) :
    LInv (lgRoom size g t more).2.2 (lgRoom size g t more).2.1 fs ∧ (lgRoom size g t more).2.2.next = g.next := by
  unfold lgRoom
  by_cases h1 : lgFull size g t more = false
  · rw [if_pos h1]; exact ⟨h, rfl⟩
  · rw [if_neg h1]
    by_cases h2 : 40 ≤ g.segs.length
    · rw [if_pos h2]; exact ⟨h, rfl⟩
    · rw [if_neg h2]
      simp only
      have hs := h.sync
      unfold lgSync at hs
      by_cases h3 : (t.sync (lgLast g)).1 ≠ 0
      · rw [if_pos h3]; exact ⟨hs, rfl⟩
      · rw [if_neg h3]
        refine hs.lay ?_ hn
        have h1 : lgFull size g t more = true := by simpa using h1
        unfold lgFull at h1
        have := (Bool.and_eq_true_iff.1 h1).1
        exact of_decide_eq_true this
/-- Append: what is not done changes no frame; what is done is the last frame, of the next number. -/
theorem LInv.append {g : Lg} {t : St} {fs : List Fr} (h : LInv g t fs) (size : Nat) (kind : Int) (body : List Nat) :
    ((lgAppend size g t kind body).1.2 ≠ 0 → (lgAppend size g t kind body).1.1 = 0 ∧ (lgAppend size g t kind body).2.2.next = g.next ∧ LInv (lgAppend size g t kind body).2.2 (lgAppend size g t kind body).2.1 fs) ∧
    ((lgAppend size g t kind body).1.2 = 0 → (lgAppend size g t kind body).1.1 = g.next ∧ (lgAppend size g t kind body).2.2.next = g.next + 1 ∧ LInv (lgAppend size g t kind body).2.2 (lgAppend size g t kind body).2.1 (fs ++ [⟨kind, g.next, body⟩])) := by
  unfold lgAppend
  simp only
  by_cases hr : (⟨kind, g.next, body⟩ : Fr).right
  · rw [if_neg (by simpa using hr)]
    obtain ⟨hl, hnx⟩ := h.room size (put ⟨kind, g.next, body⟩).length hr.2.2.2.1
    have hput : put ⟨kind, g.next, body⟩ = raw ⟨kind, g.next, body⟩ := by unfold put; rw [if_pos hr]
    generalize lgRoom size g t (put ⟨kind, g.next, body⟩).length = r at *
    obtain ⟨re, rt, rg⟩ := r
    simp only at *
    by_cases h1 : re ≠ 0
    · rw [if_pos h1]
      exact ⟨fun _ => ⟨rfl, hnx, hl⟩, fun e => absurd e h1⟩
    · rw [if_neg h1]
      by_cases h2 : (rt.write (lgLast rg) (put ⟨kind, g.next, body⟩)).1 ≠ 0
      · rw [if_pos h2]
        exact ⟨fun _ => ⟨rfl, hnx, ⟨hl.chain.keep (fun x _ => fb_write_no _ _ _ _ h2), isMap_write hl.map _ _⟩⟩, fun e => absurd e h2⟩
      · rw [if_neg h2]
        refine ⟨fun e => absurd rfl e, fun _ => ⟨rfl, rfl, ?_, isMap_write hl.map _ _⟩⟩
        have hw := fb_write_yes hl.map (lgLast rg) (put ⟨kind, g.next, body⟩) (by simpa using h2)
        have hg := Chain.grow (t' := (rt.write (lgLast rg) (put ⟨kind, g.next, body⟩)).2) hr hnx.symm hl.chain (fun x hx hne => by
          have hx1 := hl.chain.order.1 x hx
          have hx2 := hl.chain.order.1 _ hl.chain.mem_last
          exact fb_write_other _ _ (fun e => hne (nm_inj ⟨hx1.1, hx1.2.1⟩ ⟨hx2.1, hx2.2.1⟩ e))) (by rw [← hput]; exact hw)
        rw [hnx] at hg
        exact hg
  · rw [if_pos (by simpa using hr)]
    exact ⟨fun _ => ⟨rfl, rfl, h⟩, fun e => absurd (show (1 : Int) = 0 from e) (by decide)⟩
end
section
set_option linter.unusedSimpArgs false
set_option linter.unusedVariables false
open Go.RowKit Go.Sort Go.Maps
open Crc Frm
open Sgn

theorem delEach_other : ∀ (l : List (List UInt8)) (e : Int) (t : St) {s : List UInt8}, s ∉ l → (delEach l e t).2.fb s = t.fb s
  | [], _, _, _, _ => rfl
  | x :: l, e, t, s, h => by
    show (delEach l _ (t.delete x).2).2.fb s = _
    rw [delEach_other l _ _ (fun hm => h (by simp [hm])), fb_delete_other t (fun e => h (by simp [e]))]
theorem delEach_map : ∀ (l : List (List UInt8)) (e : Int) (t : St), IsMap t.D → IsMap (delEach l e t).2.D
  | [], _, _, h => h
  | x :: l, e, t, h => delEach_map l _ _ (isMap_delete h x)
theorem lgGone_ltM {g : Lg} (h : g.segs ≠ []) (seq : Int) : lgGone g seq < g.segs.length := by
  unfold lgGone
  cases hs : g.segs with
  | nil => exact absurd hs h
  | cons x l =>
    have := (List.takeWhile_sublist (fun x => decide (x ≤ seq)) (l := l)).length_le
    show (l.takeWhile _).length < l.length + 1
    omega
/-- Retain: the first segments are gone, as a whole; what is left is as it was. -/
theorem LInv.retain {g : Lg} {t : St} {fs : List Fr} (h : LInv g t fs) (seq : Int) :
    ∃ k a b, k ≤ lgGone g seq ∧ ((lgRetain g t seq).1 = 0 → k = lgGone g seq) ∧ fs = a ++ b ∧ LInv (lgRetain g t seq).2.2 (lgRetain g t seq).2.1 b ∧ (lgRetain g t seq).2.2 = ⟨g.segs.drop k, g.next⟩ ∧ (g.segs.drop k).headD 0 = g.segs.headD 0 + (a.length : Int) := by
  unfold lgRetain
  by_cases h0 : lgGone g seq = 0
  · rw [if_pos h0]
    exact ⟨0, [], fs, Nat.zero_le _, fun _ => h0.symm, rfl, h, rfl, by simp⟩
  · rw [if_neg h0]
    simp only
    have hsw : ∀ x ∈ g.segs, (mSwap t (g.segs.drop (lgGone g seq))).2.fb (nm x) = t.fb (nm x) := fun x hx => by
      have hr := h.chain.order.1 x hx
      exact fb_swap_other _ _ (nm_ne_mf x ⟨hr.1, hr.2.1⟩) (nm_ne_nx x ⟨hr.1, hr.2.1⟩)
    have hms : IsMap (mSwap t (g.segs.drop (lgGone g seq))).2.D := isMap_swap h.map _
    by_cases h1 : (mSwap t (g.segs.drop (lgGone g seq))).1 ≠ 0
    · rw [if_pos h1]
      exact ⟨0, [], fs, Nat.zero_le _, fun e => absurd e h1, rfl, ⟨h.chain.keep hsw, hms⟩, rfl, by simp⟩
    · rw [if_neg h1]
      obtain ⟨a, b, hfs, hc, hh⟩ := h.chain.drop (lgGone g seq) (lgGone_ltM h.chain.ne seq)
      refine ⟨lgGone g seq, a, b, Nat.le_refl _, fun _ => rfl, hfs, ⟨hc.keep fun y hy => ?_, delEach_map _ _ _ hms⟩, rfl, hh⟩
      have hy' := List.mem_of_mem_drop hy
      rw [delEach_other _ _ _ ?_, hsw y hy']
      intro hm
      obtain ⟨x, hx, e⟩ := List.mem_map.1 hm
      have hx' := List.mem_of_mem_take hx
      have rx := h.chain.order.1 x hx'
      have ry := h.chain.order.1 y hy'
      have hxy := nm_inj ⟨rx.1, rx.2.1⟩ ⟨ry.1, ry.2.1⟩ e
      have hp := h.chain.up
      rw [← List.take_append_drop (lgGone g seq) g.segs] at hp
      have := (List.pairwise_append.1 hp).2.2 x hx y hy
      omega
theorem LInv.fuse {g : Lg} {t : St} {fs : List Fr} (h : LInv g t fs) (n : Int) : LInv g (t.fuse_ n) fs := ⟨h.chain.keep fun _ _ => rfl, h.map⟩
theorem LInv.fail {g : Lg} {t : St} {fs : List Fr} (h : LInv g t fs) (n : Int) : LInv g (t.fail_ n) fs := ⟨h.chain.keep fun _ _ => rfl, h.map⟩
theorem LInv.frames {g : Lg} {t : St} {fs : List Fr} (h : LInv g t fs) : lgFrames g t = fs := h.chain.frames
theorem LInv.drop_ {g : Lg} {t : St} {fs : List Fr} (h : LInv g t fs) {s : List UInt8} (hs : ∀ x, 0 ≤ x ∧ x ≤ 1073741824 → nm x ≠ s) : LInv g (t.drop s).2 fs :=
  ⟨h.chain.keep fun x hx => by
    have hr := h.chain.order.1 x hx
    exact fb_drop_other _ (hs x ⟨hr.1, hr.2.1⟩), isMap_drop h.map s⟩
/-- A log that begins: no frame, the first number. -/
theorem lay_begins {t : St} (hm : IsMap t.D) (h : (lgLay ⟨[], 0⟩ t 0).1 = 0) : LInv (lgLay ⟨[], 0⟩ t 0).2.2 (lgLay ⟨[], 0⟩ t 0).2.1 [] ∧ (lgLay ⟨[], 0⟩ t 0).2.2 = ⟨[0], 0⟩ := by
  have hmap := lay_map (g := ⟨[], 0⟩) hm 0
  unfold lgLay at *
  simp only at *
  by_cases e : (lgTry ⟨[], 0⟩ t 0).1 = 0
  · rw [if_pos e] at hmap ⊢
    exact ⟨⟨⟨Seg.new ⟨by decide, by decide⟩ (try_yes hm 0 ⟨by decide, by decide⟩ e), by simp⟩, hmap⟩, rfl⟩
  · rw [if_neg e] at h
    by_cases e2 : (lgTry ⟨[], 0⟩ t 0).1 = 42
    · rw [if_pos e2] at h; exact absurd (show (42 : Int) = 0 from h) (by decide)
    · rw [if_neg e2] at h; exact absurd h e
/-- Open of a disk that has no list: a log that begins. -/
theorem open_begins {size : Int} {t : St} {g : Lg} (hm : IsMap t.D) (hl : (mLoad t).1 = []) (h : (lgOpen size t).2.2 = some g) (hc : (lgClean ⟨[], 0⟩ t).2 = t ∧ (lgClean ⟨[], 0⟩ t).1 = 0) : LInv g (lgOpen size t).2.1 [] ∧ g = ⟨[0], 0⟩ := by
  have hrs : lgRestore t = lgLay ⟨[], 0⟩ t 0 := by
    have h2 : ¬ (lgClean ⟨[], 0⟩ t).1 ≠ 0 := by rw [hc.2]; decide
    unfold lgRestore
    rw [hl]
    show (if ([] : List Int) = [] then _ else _) = _
    rw [if_pos rfl]
    show (if (lgClean ⟨[], 0⟩ t).1 ≠ 0 then _ else lgLay ⟨[], 0⟩ (lgClean ⟨[], 0⟩ t).2 0) = _
    rw [if_neg h2, hc.1]
  unfold lgOpen at *
  by_cases hs : size < 64 ∨ 65536 < size
  · rw [if_pos hs] at h; cases h
  · rw [if_neg hs] at h ⊢
    simp only at h ⊢
    rw [hrs] at h ⊢
    by_cases he : (thenSt (thenSt ((lgLay ⟨[], 0⟩ t 0).1, (lgLay ⟨[], 0⟩ t 0).2.1) fun t => t.drop fxL) fun t => t.drop nxL).1 ≠ 0
    · rw [if_pos he] at h; cases h
    · rw [if_neg he] at h ⊢
      have he : (thenSt (thenSt ((lgLay ⟨[], 0⟩ t 0).1, (lgLay ⟨[], 0⟩ t 0).2.1) fun t => t.drop fxL) fun t => t.drop nxL).1 = 0 := by simpa using he
      obtain ⟨a1, e1, _⟩ := thenSt_yes he
      obtain ⟨a2, e2, _⟩ := thenSt_yes a1
      obtain ⟨hi, hg⟩ := lay_begins hm a2
      have hgg : g = (lgLay ⟨[], 0⟩ t 0).2.2 := (Option.some.inj h).symm
      rw [hgg]
      refine ⟨?_, hg⟩
      show LInv _ (thenSt _ _).2 []
      rw [e1, e2]
      exact (hi.drop_ nm_ne_fx).drop_ nm_ne_nx
end
section
set_option linter.unusedSimpArgs false
set_option linter.unusedVariables false
open Go.RowKit Go.Sort Go.Maps
open Crc Frm
open Sgn

/-- A crash leaves a file's first bytes, at least those that last, and all of them last. -/
theorem crash_some {t : St} (h : Good t.D t.room) (ks : List Int) {s : List UInt8} {f : Fl} (hf : fat t.D s = some f) : ∃ n, f.l ≤ n ∧ n ≤ f.bs.length ∧ fat (t.crash ks).D s = some ⟨f.bs.take n, n⟩ := by
  obtain ⟨j, hj⟩ := List.getElem?_of_mem ((names_mem h s).2 (by rw [hf]; rfl))
  have hl : j < size t.D := by rw [← size_names]; exact (List.getElem?_eq_some_iff.1 hj).1
  have hm := crM_le ks j (h.at_ hf).2.1
  exact ⟨crM ks j f, hm.1, hm.2, by show fat (crD ks (size t.D) t.D) s = _; rw [fat_crD ks _ h hj hf, if_pos hl]; rfl⟩
/-- How many frames are whole in so many bytes. -/
theorem cut_at : ∀ (fs : List Fr) (k : Nat), ∃ n, n ≤ fs.length ∧ ends fs n ≤ k ∧ ∀ f, fs[n]? = some f → k < ends fs n + (f.body.length + 11)
  | [], k => ⟨0, Nat.le_refl _, Nat.zero_le _, fun f hf => by cases hf⟩
  | g :: fs, k => by
    by_cases h : k < g.body.length + 11
    · refine ⟨0, Nat.zero_le _, Nat.zero_le _, fun f hf => ?_⟩
      have : g = f := by simpa using hf
      subst this
      show k < 0 + _
      omega
    · obtain ⟨n, h1, h2, h3⟩ := cut_at fs (k - (g.body.length + 11))
      have he : ends (g :: fs) (n + 1) = g.body.length + 11 + ends fs n := by
        unfold ends
        rw [List.take_succ_cons, rows_cons, List.length_append, raw_len]
      refine ⟨n + 1, by simpa using h1, by rw [he]; omega, fun f hf => ?_⟩
      have := h3 f (by simpa using hf)
      rw [he]
      omega
/-- What is read of a segment that is cut behind its head. -/
theorem rd_cut (x : Nat) (hx : x ≤ 1073741824) (fs : List Fr) (hr : ∀ f ∈ fs, f.right) (hj : ∀ (j : Nat) (f : Fr), fs[j]? = some f → f.seq = (x : Int) + (j : Int)) (m : Nat) (hm : 12 ≤ m) :
    ∃ n, n ≤ fs.length ∧ 12 + ends fs n ≤ m ∧ (∀ f, fs[n]? = some f → m < 12 + ends fs n + (f.body.length + 11)) ∧ rd ((head x ++ rows fs).take m) = (x, fs.take n, 12 + ends fs n, 0) := by
  obtain ⟨n, h1, h2, h3⟩ := cut_at fs (m - 12)
  refine ⟨n, h1, by omega, fun f hf => by have := h3 f hf; omega, ?_⟩
  have ht : (head x ++ rows fs).take m = head x ++ (rows fs).take (m - 12) := by
    rw [List.take_append, head_len, List.take_of_length_le (by rw [head_len]; exact hm)]
  rw [ht]
  have hh := rh_head x hx ((rows fs).take (m - 12))
  unfold rd
  rw [hh, if_neg (by simp)]
  have hd : (head x ++ (rows fs).take (m - 12)).drop 12 = (rows fs).take (m - 12) := by
    rw [List.drop_append_of_le_length (by rw [head_len]; decide), List.drop_of_length_le (by rw [head_len]; decide), List.nil_append]
  rw [hd, scan_cut fs x (m - 12) n hr hj h1 h2 h3]
/-- Open goes on behind a whole segment. -/
theorem find_whole {t : St} {x : Int} {a : List Fr} (h : Seg t x a) (l : List Int) {g : Lg} (hg : g.segs = [] ∨ x = g.next) : lgFind t (x :: l) g = lgFind t l ⟨g.segs ++ [x], x + (a.length : Int)⟩ := by
  have hr := h.reads
  have hb : (t.bytes (nm x)).length = 12 + (rows a).length := by rw [h.bytes, List.length_append, head_len]
  have hx := h.range
  show (if (rd (t.bytes (nm x))).2.2.2 ≠ 0 ∨ ((rd (t.bytes (nm x))).1 : Int) ≠ x ∨ ¬ (g.segs = [] ∨ x = g.next) then (g, none) else
    if (rd (t.bytes (nm x))).2.2.1 < (t.bytes (nm x)).length then ((⟨g.segs ++ [x], x + ((rd (t.bytes (nm x))).2.1.length : Int)⟩ : Lg), some ((t.bytes (nm x)).take (rd (t.bytes (nm x))).2.2.1)) else lgFind t l ⟨g.segs ++ [x], x + ((rd (t.bytes (nm x))).2.1.length : Int)⟩) = _
  rw [hr]
  rw [if_neg (by rintro (h1 | h1 | h1) <;> first | exact h1 rfl | exact h1 hg | (simp only at h1; omega)), if_neg (by rw [hb]; simp)]

theorem rows_split (fs : List Fr) (j : Nat) : rows fs = rows (fs.take j) ++ rows (fs.drop j) := by
  conv => lhs; rw [← List.take_append_drop j fs]
  unfold rows
  rw [List.flatMap_append]
theorem ends_up (fs : List Fr) {p q : Nat} (h : p ≤ q) : ends fs p ≤ ends fs q := by
  have e : fs.take p = (fs.take q).take p := by rw [List.take_take, Nat.min_eq_left h]
  unfold ends
  rw [e, rows_split (fs.take q) p, List.length_append]
  omega
theorem take_ends (x : Nat) (fs : List Fr) (j : Nat) : (head x ++ rows fs).take (12 + ends fs j) = head x ++ rows (fs.take j) := by
  rw [List.take_append, head_len, List.take_of_length_le (by rw [head_len]; omega), show 12 + ends fs j - 12 = ends fs j from by omega, rows_split fs j]
  congr 1
  exact List.take_left' rfl
theorem Seg.cut {t : St} {t' : St} {x : Int} {fs : List Fr} (h : Seg t x fs) (j : Nat) (hb : t'.fb (nm x) = some (head x.toNat ++ rows (fs.take j))) : Seg t' x (fs.take j) :=
  ⟨h.range, hb, fun f hf => h.right f (List.mem_of_mem_take hf), fun i f hi => by
    rw [List.getElem?_take] at hi
    split at hi
    · exact h.row i f hi
    · cases hi⟩
/-- What Open finds behind a crash: all segments of the list; of the last one's frames those that are whole, and the good bytes if there are more. -/
theorem find_chain {t t' : St} {n : Int} (m : Nat) (hm : 12 ≤ m) : ∀ {l : List Int} {fs : List Fr}, Chain t l n fs → (∀ x ∈ l, x ≠ l.getLastD 0 → t'.fb (nm x) = t.fb (nm x)) → t'.fb (nm (l.getLastD 0)) = some ((t.bytes (nm (l.getLastD 0))).take m) → m ≤ (t.bytes (nm (l.getLastD 0))).length →
    ∀ g : Lg, (g.segs = [] ∨ l.headD 0 = g.next) → ∃ a b j good, fs = a ++ b ∧ Seg t (l.getLastD 0) b ∧ j ≤ b.length ∧ (∀ p, p ≤ b.length → 12 + ends b p ≤ m → p ≤ j) ∧
      lgFind t' l g = (⟨g.segs ++ l, l.headD 0 + ((a.length + j : Nat) : Int)⟩, good) ∧
      ((good = none ∧ t'.fb (nm (l.getLastD 0)) = some (head (l.getLastD 0).toNat ++ rows (b.take j))) ∨ good = some (head (l.getLastD 0).toNat ++ rows (b.take j))) ∧
      ∀ t'' : St, (∀ x ∈ l, x ≠ l.getLastD 0 → t''.fb (nm x) = t.fb (nm x)) → t''.fb (nm (l.getLastD 0)) = some (head (l.getLastD 0).toNat ++ rows (b.take j)) → Chain t'' l (l.headD 0 + ((a.length + j : Nat) : Int)) (a ++ b.take j)
  | [], _, h, _, _, _, _, _ => h.elim
  | [x], fs, h, _, hl, hml, g, hg => by
    obtain ⟨hs, hn⟩ := h
    have hx := hs.range
    have hxn : x.toNat ≤ 1073741824 := by omega
    have hl : t'.fb (nm x) = some ((t.bytes (nm x)).take m) := hl
    have hml : m ≤ (t.bytes (nm x)).length := hml
    rw [hs.bytes] at hl hml
    obtain ⟨j, h1, h2, h3, h4⟩ := rd_cut x.toNat hxn fs hs.right (fun i f hi => by have := hs.row i f hi; omega) m hm
    have hb : t'.bytes (nm x) = (head x.toNat ++ rows fs).take m := by rw [St.bytes_fb, hl]; rfl
    have hbl : (t'.bytes (nm x)).length = m := by rw [hb, List.length_take]; omega
    have hmax : ∀ p, p ≤ fs.length → 12 + ends fs p ≤ m → p ≤ j := fun p hp hpm => by
      by_cases hpj : p ≤ j
      · exact hpj
      · exfalso
        have hjl : j < fs.length := by omega
        have hf := List.getElem?_eq_getElem hjl
        have e1 := ends_succ fs j _ hf
        have e2 := ends_up fs (show j + 1 ≤ p by omega)
        have e3 := h3 _ hf
        omega
    have hfind : lgFind t' [x] g = if 12 + ends fs j < m then ((⟨g.segs ++ [x], x + ((fs.take j).length : Int)⟩ : Lg), some ((t'.bytes (nm x)).take (12 + ends fs j))) else (⟨g.segs ++ [x], x + ((fs.take j).length : Int)⟩, none) := by
      show (if (rd (t'.bytes (nm x))).2.2.2 ≠ 0 ∨ ((rd (t'.bytes (nm x))).1 : Int) ≠ x ∨ ¬ (g.segs = [] ∨ x = g.next) then (g, none) else
        if (rd (t'.bytes (nm x))).2.2.1 < (t'.bytes (nm x)).length then ((⟨g.segs ++ [x], x + ((rd (t'.bytes (nm x))).2.1.length : Int)⟩ : Lg), some ((t'.bytes (nm x)).take (rd (t'.bytes (nm x))).2.2.1)) else lgFind t' [] ⟨g.segs ++ [x], x + ((rd (t'.bytes (nm x))).2.1.length : Int)⟩) = _
      rw [hbl, show rd (t'.bytes (nm x)) = (x.toNat, fs.take j, 12 + ends fs j, 0) from by rw [hb]; exact h4]
      rw [if_neg (by rintro (h1 | h1 | h1) <;> first | exact h1 rfl | exact h1 hg | (simp only at h1; omega))]
      rfl
    have hlen : (fs.take j).length = j := by rw [List.length_take]; omega
    rw [hlen] at hfind
    have hch : ∀ t'' : St, t''.fb (nm x) = some (head x.toNat ++ rows (fs.take j)) → Chain t'' [x] (x + ((0 + j : Nat) : Int)) ([] ++ fs.take j) := fun t'' hf => ⟨hs.cut j hf, by rw [List.nil_append, hlen]; omega⟩
    by_cases hc : 12 + ends fs j < m
    · rw [if_pos hc] at hfind
      have hg2 : (t'.bytes (nm x)).take (12 + ends fs j) = head x.toNat ++ rows (fs.take j) := by
        rw [hb, List.take_take, Nat.min_eq_left (by omega), take_ends]
      rw [hg2] at hfind
      exact ⟨[], fs, j, _, rfl, hs, h1, hmax, by rw [hfind]; simp, .inr rfl, fun t'' _ hf => hch t'' hf⟩
    · rw [if_neg hc] at hfind
      have he : m = 12 + ends fs j := by omega
      exact ⟨[], fs, j, _, rfl, hs, h1, hmax, by rw [hfind]; simp, .inl ⟨rfl, by show t'.fb (nm x) = _; rw [hl, he, take_ends]; rfl⟩, fun t'' _ hf => hch t'' hf⟩
  | x :: y :: l, fs, h, hk, hl, hml, g, hg => by
    have hup := h.up
    obtain ⟨a, b, rfl, h1, h3, h4, h2⟩ := h
    have hlast : (x :: y :: l).getLastD 0 = (y :: l).getLastD 0 := rfl
    have hx := (List.pairwise_cons.1 hup).1 _ h2.mem_last
    rw [hlast] at hk hl hml
    have hw := find_whole (h1.keep (hk x (by simp) (by omega))) (y :: l) (g := g) hg
    obtain ⟨a', b', j, good, rfl, q1, q2, q3, q4, q5, q6⟩ := find_chain m hm h2 (fun z hz hne => hk z (by simp [hz]) hne) hl hml ⟨g.segs ++ [x], x + (a.length : Int)⟩ (.inr h4)
    have e1 : (y :: l).headD 0 + ((a'.length + j : Nat) : Int) = (x :: y :: l).headD 0 + (((a ++ a').length + j : Nat) : Int) := by
      rw [List.length_append]
      show y + _ = x + _
      omega
    refine ⟨a ++ a', b', j, good, (List.append_assoc _ _ _).symm, q1, q2, q3, ?_, q5, fun t'' hk'' hf => ?_⟩
    · rw [hw, q4, ← e1]
      simp
    · rw [← e1, List.append_assoc]
      exact ⟨a, a' ++ b'.take j, rfl, h1.keep (hk'' x (by simp) (by rw [hlast]; omega)), h3, h4, q6 t'' (fun z hz hne => hk'' z (by simp [hz]) hne) hf⟩
end
section
set_option linter.unusedSimpArgs false
set_option linter.unusedVariables false
open Go.RowKit Go.Sort Go.Maps
open Crc Frm
open Sgn

theorem isMap_rename {t : St} (h : IsMap t.D) (s tn : List UInt8) : IsMap (t.rename s tn).2.D := by
  unfold St.rename
  by_cases h0 : t.fuse = 0
  · rw [if_pos h0]; exact h
  · rw [if_neg h0]
    by_cases h1 : nmOk tn = false
    · rw [if_pos h1]; exact h
    · rw [if_neg h1]
      cases fat t.D s with
      | none => exact h
      | some f => exact (h.del _).put _ _
theorem fb_rename_yes {t : St} (hm : IsMap t.D) (s tn : List UInt8) (h : (t.rename s tn).1 = 0) : (t.rename s tn).2.fb tn = t.fb s := by
  unfold St.rename at *
  by_cases h0 : t.fuse = 0
  · rw [if_pos h0] at h; cases h
  · rw [if_neg h0] at h ⊢
    by_cases h1 : nmOk tn = false
    · rw [if_pos h1] at h; cases h
    · rw [if_neg h1] at h ⊢
      cases hf : fat t.D s with
      | none => rw [hf] at h; cases h
      | some f =>
        unfold St.fb
        show Option.map _ (fat ((t.D.del _).put _ _) tn) = _
        rw [fat_put_same (hm.del _), hf]
theorem delAll_keep {P : St → Prop} (h : ∀ t s, P t → P (t.delete s).2) : ∀ (l : List (List UInt8)) (t : St), P t → P (delAll l t).2
  | [], _, ht => ht
  | x :: l, t, ht => thenSt_keep (h t x ht) (fun u hu => delAll_keep h l u hu)
theorem delAll_other : ∀ (l : List (List UInt8)) (t : St) {s : List UInt8}, s ∉ l → (delAll l t).2.fb s = t.fb s
  | [], _, _, _ => rfl
  | x :: l, t, s, h => thenSt_keep (P := fun u => u.fb s = t.fb s) (fb_delete_other t (fun e => h (by simp [e]))) (fun u hu => (delAll_other l u (fun hm => h (by simp [hm]))).trans hu)
theorem clean_other (g : Lg) (t : St) {x : Int} (hx : 0 ≤ x ∧ x ≤ 1073741824) (hm : x ∈ g.segs) : (lgClean g t).2.fb (nm x) = t.fb (nm x) := by
  refine delAll_other _ t (fun h => ?_)
  have := (List.mem_filter.1 h).2
  rw [fst_nm hx.1 hx.2] at this
  simp [hm] at this
theorem clean_map (g : Lg) {t : St} (h : IsMap t.D) : IsMap (lgClean g t).2.D := delAll_keep (P := fun t => IsMap t.D) (fun _ s h => isMap_delete h s) _ t h
theorem mend_map {g : Lg} {good : Option (List Nat)} {t : St} (h : IsMap t.D) : IsMap (lgMend g good t).2.D := by
  cases good with
  | none => exact h
  | some b =>
    exact thenSt_keep (P := fun t => IsMap t.D) (thenSt_keep (P := fun t => IsMap t.D) (thenSt_keep (P := fun t => IsMap t.D) (isMap_drop h _) fun _ h => isMap_write h _ _) fun _ h => isMap_sync h _) fun _ h => isMap_rename h _ _
/-- Mend leaves all but its two files. -/
theorem mend_other {g : Lg} {good : Option (List Nat)} {t : St} (h : IsMap t.D) {s : List UInt8} (h1 : s ≠ fxL) (h2 : s ≠ lgLast g) : (lgMend g good t).2.fb s = t.fb s := by
  cases good with
  | none => rfl
  | some b =>
    have := thenSt_keep (P := fun u => IsMap u.D ∧ u.fb s = t.fb s) (r := thenSt (thenSt (t.drop fxL) fun t => t.write fxL b) fun t => t.sync fxL) (f := fun t => t.rename fxL (lgLast g))
      (thenSt_keep (P := fun u => IsMap u.D ∧ u.fb s = t.fb s) (thenSt_keep (P := fun u => IsMap u.D ∧ u.fb s = t.fb s) ⟨isMap_drop h _, fb_drop_other t h1⟩ fun u hu => ⟨isMap_write hu.1 _ _, (fb_write_other u _ h1).trans hu.2⟩) fun u hu => ⟨isMap_sync hu.1 _, (fb_sync hu.1 _ _).trans hu.2⟩)
      fun u hu => ⟨isMap_rename hu.1 _ _, (fb_rename_other u h1 h2).trans hu.2⟩
    exact this.2
theorem mend_yes {g : Lg} {b : List Nat} {t : St} (h : IsMap t.D) (h0 : (lgMend g (some b) t).1 = 0) : (lgMend g (some b) t).2.fb (lgLast g) = some b := by
  unfold lgMend at *
  simp only at *
  obtain ⟨a1, e1, a2⟩ := thenSt_yes h0
  have hm3 : IsMap (thenSt (thenSt (t.drop fxL) fun t => t.write fxL b) fun t => t.sync fxL).2.D := thenSt_keep (P := fun t => IsMap t.D) (thenSt_keep (P := fun t => IsMap t.D) (isMap_drop h _) fun _ h => isMap_write h _ _) fun _ h => isMap_sync h _
  rw [e1, fb_rename_yes hm3 _ _ a2]
  obtain ⟨b1, f1, _⟩ := thenSt_yes a1
  have hm2 : IsMap (thenSt (t.drop fxL) fun t => t.write fxL b).2.D := thenSt_keep (P := fun t => IsMap t.D) (isMap_drop h _) fun _ h => isMap_write h _ _
  rw [f1, fb_sync hm2]
  obtain ⟨c1, g1, c2⟩ := thenSt_yes b1
  rw [g1, fb_write_yes (isMap_drop h _) _ _ c2, St.bytes_fb, fb_drop_yes _ c1]
  rfl
/-- Open behind a crash, where the list is that of a chain, the last one's bytes are cut behind the head, and all other segments are whole. -/
theorem open_chain {t t' : St} {n : Int} {l : List Int} {fs : List Fr} (h : Chain t l n fs) (hm' : IsMap t'.D) (hl : (mLoad t').1 = l) (m : Nat) (hm : 12 ≤ m) (hk : ∀ x ∈ l, x ≠ l.getLastD 0 → t'.fb (nm x) = t.fb (nm x))
    (hc : t'.fb (nm (l.getLastD 0)) = some ((t.bytes (nm (l.getLastD 0))).take m)) (hml : m ≤ (t.bytes (nm (l.getLastD 0))).length) {size : Int} {g : Lg} (ho : (lgOpen size t').2.2 = some g) :
    ∃ a b j, fs = a ++ b ∧ Seg t (l.getLastD 0) b ∧ j ≤ b.length ∧ (∀ p, p ≤ b.length → 12 + ends b p ≤ m → p ≤ j) ∧ g = ⟨l, l.headD 0 + ((a.length + j : Nat) : Int)⟩ ∧ LInv g (lgOpen size t').2.1 (a ++ b.take j) := by
  obtain ⟨a, b, j, good, hfs, q1, q2, q3, q4, q5, q6⟩ := find_chain m hm h hk hc hml ⟨[], 0⟩ (.inl rfl)
  rw [List.nil_append] at q4
  obtain ⟨g0, hg0⟩ : ∃ g0 : Lg, g0 = ⟨l, l.headD 0 + ((a.length + j : Nat) : Int)⟩ := ⟨_, rfl⟩
  rw [← hg0] at q4
  have hsg : g0.segs = l := by rw [hg0]
  have hlast : lgLast g0 = nm (l.getLastD 0) := by unfold lgLast; rw [hsg]
  have hrs : lgRestore t' = (let s := thenSt (thenSt (thenSt (0, t') (lgMend g0 good)) (lgClean g0)) (lgSync g0); (s.1, s.2, g0)) := by
    unfold lgRestore
    rw [hl]
    simp only
    rw [q4]
    simp only
    rw [if_neg (by rw [hsg]; exact h.ne), if_pos (by rw [hsg])]
  refine ⟨a, b, j, hfs, q1, q2, q3, ?_⟩
  unfold lgOpen at *
  by_cases hs : size < 64 ∨ 65536 < size
  · rw [if_pos hs] at ho; cases ho
  · rw [if_neg hs] at ho ⊢
    simp only at ho ⊢
    rw [hrs] at ho ⊢
    simp only at ho ⊢
    generalize hR : thenSt (thenSt (thenSt (0, t') (lgMend g0 good)) (lgClean g0)) (lgSync g0) = R at ho ⊢
    by_cases he : (thenSt (thenSt (R.1, R.2) fun t => t.drop fxL) fun t => t.drop nxL).1 ≠ 0
    · rw [if_pos he] at ho; cases ho
    · rw [if_neg he] at ho ⊢
      have he : (thenSt (thenSt (R.1, R.2) fun t => t.drop fxL) fun t => t.drop nxL).1 = 0 := by simpa using he
      obtain ⟨a1, e1, _⟩ := thenSt_yes he
      obtain ⟨a2, e2, _⟩ := thenSt_yes a1
      have hgg : g = g0 := (Option.some.inj ho).symm
      refine ⟨hgg.trans hg0, ?_⟩
      rw [hgg]
      have hR0 : R.1 = 0 := a2
      rw [← hR] at hR0
      obtain ⟨c1, k1, _⟩ := thenSt_yes hR0
      obtain ⟨d1, k2, _⟩ := thenSt_yes c1
      have k3 : thenSt (0, t') (lgMend g0 good) = lgMend g0 good t' := by unfold thenSt; rw [if_neg (by simp)]
      rw [k3] at d1 k2
      have hmm : IsMap (lgMend g0 good t').2.D := mend_map hm'
      have hmc : IsMap (lgClean g0 (lgMend g0 good t').2).2.D := clean_map _ hmm
      have hchain : Chain (lgMend g0 good t').2 l (l.headD 0 + ((a.length + j : Nat) : Int)) (a ++ b.take j) := by
        refine q6 _ (fun x hx hne => ?_) ?_
        · have rx := h.order.1 x hx
          have rl := h.order.1 _ h.mem_last
          rw [mend_other hm' (nm_ne_fx x ⟨rx.1, rx.2.1⟩) (by rw [hlast]; exact fun e => hne (nm_inj ⟨rx.1, rx.2.1⟩ ⟨rl.1, rl.2.1⟩ e))]
          exact hk x hx hne
        · rcases q5 with ⟨rfl, hb⟩ | rfl
          · exact hb
          · rw [← hlast]; exact mend_yes hm' d1
      have hinv : LInv g0 R.2 (a ++ b.take j) := by
        rw [← hR, k1, k3, k2]
        refine LInv.sync ⟨?_, hmc⟩
        rw [hg0]
        refine hchain.keep (fun x hx => ?_)
        have rx := h.order.1 x hx
        rw [← hg0]
        exact clean_other g0 _ ⟨rx.1, rx.2.1⟩ (by rw [hsg]; exact hx)
      show LInv g0 (thenSt (thenSt (R.1, R.2) fun t => t.drop fxL) fun t => t.drop nxL).2 _
      rw [e1, e2]
      exact (hinv.drop_ nm_ne_fx).drop_ nm_ne_nx
end
section
set_option linter.unusedSimpArgs false
set_option linter.unusedVariables false
open Go.RowKit Go.Sort Go.Maps
open Crc Frm
open Sgn

/-- What is kept between calls, with what lasts: the list's file is that of the segments, all but the last of them last as a whole, and of the last one the head and all frames of a number less than S. -/
structure LDur (g : Lg) (t : St) (fs : List Fr) (S : Int) : Prop where
  inv : LInv g t fs
  ok : mOk g.segs = true
  list : Has t.D g.segs
  done : ∀ x ∈ g.segs, x ≠ g.segs.getLastD 0 → ∃ f, fat t.D (nm x) = some f ∧ f.l = f.bs.length
  last : ∃ f b p, fat t.D (nm (g.segs.getLastD 0)) = some f ∧ Seg t (g.segs.getLastD 0) b ∧ 12 ≤ f.l ∧ p ≤ b.length ∧ 12 + ends b p ≤ f.l ∧ S ≤ g.segs.getLastD 0 + (p : Int)
theorem Seg.one {t : St} {x : Int} {a b : List Fr} (ha : Seg t x a) (hb : Seg t x b) : a = b := by
  have h := ha.reads
  rw [hb.reads] at h
  exact (Prod.mk.inj (Prod.mk.inj h).2).1.symm
theorem Chain.last_seg {t : St} {n : Int} : ∀ {l : List Int} {fs : List Fr}, Chain t l n fs → ∃ b, Seg t (l.getLastD 0) b ∧ n = l.getLastD 0 + (b.length : Int)
  | [], _, h => h.elim
  | [x], fs, h => ⟨fs, h⟩
  | x :: y :: l, fs, h => by
    obtain ⟨a, b, rfl, h1, h3, h4, h2⟩ := h
    exact h2.last_seg
theorem LDur.crash {g : Lg} {t : St} {fs : List Fr} {S : Int} (h : LDur g t fs S) (hG : Good t.D t.room) (ks : List Int) (hm' : IsMap (t.crash ks).D) {size : Int} {g' : Lg} (ho : (lgOpen size (t.crash ks)).2.2 = some g') :
    ∃ fs' rest, fs = fs' ++ rest ∧ g'.segs = g.segs ∧ S ≤ g'.next ∧ LInv g' (lgOpen size (t.crash ks)).2.1 fs' := by
  obtain ⟨f, b0, p, hf, hs0, h12, hp, hpe, hS⟩ := h.last
  obtain ⟨m, m1, m2, m3⟩ := crash_some hG ks hf
  have hl : (mLoad (t.crash ks)).1 = g.segs := by rw [load_has h.ok (has_crash hG ks h.list)]
  have hb : t.bytes (nm (g.segs.getLastD 0)) = f.bs := by unfold St.bytes; rw [hf]; rfl
  obtain ⟨a, b, j, e1, q1, q2, q3, q4, q5⟩ := open_chain h.inv.chain hm' hl m (by omega) (fun x hx hne => by
      obtain ⟨fx, hfx, hfl⟩ := h.done x hx hne
      obtain ⟨k, k1, k2, k3⟩ := crash_some hG ks hfx
      unfold St.fb
      rw [k3, hfx, show k = fx.bs.length from by omega]
      simp) (by rw [hb]; unfold St.fb; rw [m3]; rfl) (by rw [hb]; exact m2) ho
  have hbb := hs0.one q1
  subst hbb
  obtain ⟨b', r1, r2⟩ := h.inv.chain.last_seg
  have hbb := r1.one q1
  subst hbb
  have hn := h.inv.chain.order.2
  rw [e1, List.length_append] at hn
  refine ⟨a ++ b'.take j, b'.drop j, ?_, ?_, ?_, q5⟩
  · rw [List.append_assoc, List.take_append_drop]; exact e1
  · rw [q4]
  · rw [q4]
    have := q3 p hp (by omega)
    show S ≤ g.segs.headD 0 + _
    omega
end
section
set_option linter.unusedSimpArgs false
set_option linter.unusedVariables false
open Go.RowKit Go.Sort Go.Maps
open Crc Frm
open Sgn

theorem sync_yes {t : St} (hm : IsMap t.D) (s : List UInt8) (h : (t.sync s).1 = 0) : ∃ f, fat t.D s = some f ∧ fat (t.sync s).2.D s = some ⟨f.bs, f.bs.length⟩ := by
  unfold St.sync at *
  by_cases h0 : t.fuse = 0
  · rw [if_pos h0] at h; cases h
  · rw [if_neg h0] at h ⊢
    cases hf : fat t.D s with
    | none => rw [hf] at h; cases h
    | some f =>
      rw [hf] at h
      simp only at h ⊢
      by_cases h1 : 0 < t.fails
      · rw [if_pos h1] at h; cases h
      · rw [if_neg h1]
        exact ⟨f, rfl, fat_put_same hm _ _⟩
theorem sync_no (t : St) (s s' : List UInt8) (h : (t.sync s).1 ≠ 0) : fat (t.sync s).2.D s' = fat t.D s' := by
  unfold St.sync at *
  by_cases h0 : t.fuse = 0
  · rw [if_pos h0]
  · rw [if_neg h0] at h ⊢
    cases hf : fat t.D s with
    | none => rfl
    | some f =>
      rw [hf] at h
      simp only at h ⊢
      by_cases h1 : 0 < t.fails
      · rw [if_pos h1]; rfl
      · rw [if_neg h1] at h; exact absurd rfl h
theorem write_yes {t : St} (hm : IsMap t.D) (s : List UInt8) (b : List Nat) (h : (t.write s b).1 = 0) : fat (t.write s b).2.D s = some ⟨((fat t.D s).getD Fl.zero).bs ++ b, ((fat t.D s).getD Fl.zero).l⟩ := by
  unfold St.write at *
  by_cases h0 : t.fuse = 0
  · rw [if_pos h0] at h; cases h
  · rw [if_neg h0] at h ⊢
    by_cases h1 : nmOk s = false
    · rw [if_pos h1] at h; cases h
    · rw [if_neg h1] at h ⊢
      by_cases h2 : fitsB t.D t.room s b.length = false
      · rw [if_pos h2] at h; cases h
      · rw [if_neg h2]
        exact fat_put_same hm _ _
theorem write_no (t : St) (s s' : List UInt8) (b : List Nat) (h : (t.write s b).1 ≠ 0) : fat (t.write s b).2.D s' = fat t.D s' := by
  unfold St.write at *
  by_cases h0 : t.fuse = 0
  · rw [if_pos h0]
  · rw [if_neg h0] at h ⊢
    by_cases h1 : nmOk s = false
    · rw [if_pos h1]; rfl
    · rw [if_neg h1] at h ⊢
      by_cases h2 : fitsB t.D t.room s b.length = false
      · rw [if_pos h2]; rfl
      · rw [if_neg h2] at h; exact absurd rfl h
theorem LDur.keep {g : Lg} {t t' : St} {fs : List Fr} {S : Int} (h : LDur g t fs S) (hm : IsMap t'.D) (hk : ∀ x ∈ g.segs, fat t'.D (nm x) = fat t.D (nm x)) (hl : fat t'.D mfL = fat t.D mfL) : LDur g t' fs S := by
  obtain ⟨f, b, p, h1, h2, h3⟩ := h.last
  have hmem := h.inv.chain.mem_last
  refine ⟨⟨h.inv.chain.keep fun x hx => by unfold St.fb; rw [hk x hx], hm⟩, h.ok, by unfold Has; rw [hl]; exact h.list, fun x hx hne => ?_, f, b, p, by rw [hk _ hmem]; exact h1, h2.keep (by unfold St.fb; rw [hk _ hmem]), h3⟩
  rw [hk x hx]
  exact h.done x hx hne
theorem LDur.range {g : Lg} {t : St} {fs : List Fr} {S : Int} (h : LDur g t fs S) {x : Int} (hx : x ∈ g.segs) : 0 ≤ x ∧ x ≤ 1073741824 := ⟨(h.inv.chain.order.1 x hx).1, (h.inv.chain.order.1 x hx).2.1⟩
theorem LDur.ne_last {g : Lg} {t : St} {fs : List Fr} {S : Int} (h : LDur g t fs S) {x : Int} (hx : x ∈ g.segs) (hne : x ≠ g.segs.getLastD 0) : nm x ≠ lgLast g := fun e => hne (nm_inj (h.range hx) (h.range h.inv.chain.mem_last) e)
/-- S is never beyond the next number. -/
theorem LDur.le_next {g : Lg} {t : St} {fs : List Fr} {S : Int} (h : LDur g t fs S) : S ≤ g.next := by
  obtain ⟨f, b, p, _, h2, _, h4, _, h6⟩ := h.last
  obtain ⟨b', r1, r2⟩ := h.inv.chain.last_seg
  have := r1.one h2
  subst this
  omega
/-- Sync: done, all lasts; not done, what lasted lasts. -/
theorem LDur.sync {g : Lg} {t : St} {fs : List Fr} {S : Int} (h : LDur g t fs S) :
    ((lgSync g t).1 = 0 → LDur g (lgSync g t).2 fs g.next ∧ ∃ f, fat (lgSync g t).2.D (lgLast g) = some f ∧ f.l = f.bs.length) ∧ ((lgSync g t).1 ≠ 0 → LDur g (lgSync g t).2 fs S) := by
  have hm := isMap_sync h.inv.map (lgLast g)
  refine ⟨fun e => ?_, fun e => h.keep hm (fun x _ => sync_no t _ _ e) (sync_no t _ _ e)⟩
  obtain ⟨f, hf, hf'⟩ := sync_yes h.inv.map _ e
  refine ⟨?_, _, hf', rfl⟩
  obtain ⟨f0, b, p, h1, h2, h3, h4, h5, h6⟩ := h.last
  have hff : f0 = f := Option.some.inj (h1.symm.trans hf)
  subst hff
  obtain ⟨b', r1, r2⟩ := h.inv.chain.last_seg
  have := r1.one h2
  subst this
  have hbs : f0.bs = head (g.segs.getLastD 0).toNat ++ rows b' := by
    have := r1.bytes
    unfold St.bytes at this
    rw [h1] at this
    exact this
  have hlen : f0.bs.length = 12 + ends b' b'.length := by rw [hbs, List.length_append, head_len, rows_len_ends]
  refine ⟨h.inv.sync, h.ok, ?_, fun x hx hne => ?_, _, b', b'.length, hf', r1.keep (fb_sync h.inv.map _ _), ?_, Nat.le_refl _, ?_, ?_⟩
  · have hne : lgLast g ≠ mfL := nm_ne_mf _ (h.range h.inv.chain.mem_last)
    unfold Has lgSync
    rw [fat_sync_other t (fun e => hne e.symm)]
    exact h.list
  · unfold lgSync
    rw [fat_sync_other t (h.ne_last hx hne)]
    exact h.done x hx hne
  · show 12 ≤ f0.bs.length; omega
  · show _ ≤ f0.bs.length; omega
  · omega
theorem ends_snoc (b : List Fr) (f : Fr) {p : Nat} (h : p ≤ b.length) : ends (b ++ [f]) p = ends b p := by
  unfold ends
  rw [List.take_append_of_le_length h]
/-- A frame written to the last segment: what lasted lasts. -/
theorem LDur.written {g : Lg} {t : St} {fs : List Fr} {S : Int} (h : LDur g t fs S) {f : Fr} (hf : f.right) (hs : f.seq = g.next) (hw : (t.write (lgLast g) (raw f)).1 = 0) :
    LDur { g with next := g.next + 1 } (t.write (lgLast g) (raw f)).2 (fs ++ [f]) S := by
  obtain ⟨f0, b, p, h1, h2, h3, h4, h5, h6⟩ := h.last
  obtain ⟨b', r1, r2⟩ := h.inv.chain.last_seg
  have := r1.one h2
  subst this
  have hwy := write_yes h.inv.map _ _ hw
  rw [show fat t.D (lgLast g) = some f0 from h1] at hwy
  have hfb := fb_write_yes h.inv.map (lgLast g) (raw f) hw
  refine ⟨⟨Chain.grow hf hs h.inv.chain (fun x hx hne => fb_write_other _ _ (h.ne_last hx hne)) hfb, isMap_write h.inv.map _ _⟩, h.ok, ?_, fun x hx hne => ?_, _, b' ++ [f], p, hwy, r1.grow hf (by omega) hfb, h3, by rw [List.length_append]; omega, by rw [ends_snoc b' f h4]; exact h5, h6⟩
  · have hne : lgLast g ≠ mfL := nm_ne_mf _ (h.range h.inv.chain.mem_last)
    unfold Has
    rw [fat_write_other t _ (fun e => hne e.symm)]
    exact h.list
  · show ∃ f, fat (t.write (lgLast g) _).2.D _ = _ ∧ _
    rw [fat_write_other t _ (h.ne_last hx hne)]
    exact h.done x hx hne
theorem LDur.fuse {g : Lg} {t : St} {fs : List Fr} {S : Int} (h : LDur g t fs S) (n : Int) : LDur g (t.fuse_ n) fs S := h.keep h.inv.map (fun _ _ => rfl) rfl
theorem LDur.fail {g : Lg} {t : St} {fs : List Fr} {S : Int} (h : LDur g t fs S) (n : Int) : LDur g (t.fail_ n) fs S := h.keep h.inv.map (fun _ _ => rfl) rfl
end
section
set_option linter.unusedSimpArgs false
set_option linter.unusedVariables false
open Go.RowKit Go.Sort Go.Maps
open Crc Frm
open Sgn

theorem fat_rename_other (t : St) {s z s' : List UInt8} (h : s' ≠ s) (h' : s' ≠ z) : fat (t.rename s z).2.D s' = fat t.D s' := by
  unfold St.rename
  by_cases h0 : t.fuse = 0
  · rw [if_pos h0]
  · rw [if_neg h0]
    by_cases h1 : nmOk z = false
    · rw [if_pos h1]; rfl
    · rw [if_neg h1]
      cases hf : fat t.D s with
      | none => rfl
      | some f =>
        show fat ((t.D.del _).put _ _) s' = _
        rw [fat_put_other h', fat_del_other h]
theorem fat_drop_other (t : St) {s s' : List UInt8} (h : s' ≠ s) : fat (t.drop s).2.D s' = fat t.D s' := by
  unfold St.drop
  split
  · exact fat_delete_other t h
  · rfl
theorem fat_swap_other (t : St) (l : List Int) {s : List UInt8} (h1 : s ≠ mfL) (h2 : s ≠ nxL) : fat (mSwap t l).2.D s = fat t.D s := by
  have hd : fat (delNext t).2.D s = fat t.D s := by
    unfold delNext
    split
    · exact fat_delete_other t h2
    · rfl
  have h3 : ∀ k, k ≤ 3 → fat (mSt t l k).D s = fat t.D s := fun k hk => by
    match k, hk with
    | 0, _ => rfl
    | 1, _ => exact hd
    | 2, _ => exact (fat_write_other _ _ h2).trans hd
    | 3, _ => exact (fat_sync_other _ h2).trans ((fat_write_other _ _ h2).trans hd)
  have hs : ∀ k, fat (mSt t l k).D s = fat t.D s := fun k => by
    match k with
    | 0 => exact h3 0 (by decide)
    | 1 => exact h3 1 (by decide)
    | 2 => exact h3 2 (by decide)
    | 3 => exact h3 3 (by decide)
    | k + 4 => exact (fat_rename_other (mSt t l 3) h2 h1).trans (h3 3 (by decide))
  unfold mSwap
  split
  · have ht : fat (mTurn t l).2.D s = fat t.D s := by
      rcases turn_cases t l with ⟨k, _, _, _, e⟩ | ⟨_, e⟩ <;> rw [e] <;> exact hs _
    show fat (mClean _ _).D s = _
    unfold mClean
    split
    · exact (fat_delete_other _ h2).trans ht
    · exact ht
  · rfl
/-- The file of a segment ahead of its Swap. -/
def lgPre (t : St) (first : Int) : Int × St := thenSt (thenSt (t.drop (nm first)) fun t => t.write (nm first) (hdo first)) fun t => t.sync (nm first)
theorem pre_map {t : St} (h : IsMap t.D) (first : Int) : IsMap (lgPre t first).2.D :=
  thenSt_keep (P := fun t => IsMap t.D) (thenSt_keep (P := fun t => IsMap t.D) (isMap_drop h _) fun _ h => isMap_write h _ _) fun _ h => isMap_sync h _
theorem pre_other (t : St) (first : Int) {s : List UInt8} (h : s ≠ nm first) : fat (lgPre t first).2.D s = fat t.D s :=
  thenSt_keep (P := fun u => fat u.D s = fat t.D s) (thenSt_keep (P := fun u => fat u.D s = fat t.D s) (fat_drop_other t h) fun u hu => (fat_write_other u _ h).trans hu) fun u hu => (fat_sync_other u h).trans hu
theorem pre_yes {t : St} (h : IsMap t.D) (first : Int) (hr : 0 ≤ first ∧ first ≤ 1073741824) (h0 : (lgPre t first).1 = 0) : fat (lgPre t first).2.D (nm first) = some ⟨head first.toNat, (head first.toNat).length⟩ := by
  unfold lgPre at *
  obtain ⟨a1, e1, a2⟩ := thenSt_yes h0
  obtain ⟨b1, e2, b2⟩ := thenSt_yes a1
  have hm := isMap_drop h (nm first)
  have hn : fat (t.drop (nm first)).2.D (nm first) = none := by
    have := fb_drop_yes _ b1
    unfold St.fb at this
    exact Option.map_eq_none_iff.1 this
  have hw := write_yes hm _ _ b2
  rw [hn] at hw
  rw [e1]
  rw [e2] at a2 ⊢
  obtain ⟨f, hf, hf'⟩ := sync_yes (isMap_write hm _ _) _ a2
  rw [hw] at hf
  have := Option.some.inj hf
  subst this
  rw [hf']
  unfold hdo
  rw [if_pos hr]
  rfl
theorem try_pre (g : Lg) (t : St) (first : Int) : lgTry g t first = thenSt (lgPre t first) fun t => mSwap t (g.segs ++ [first]) := rfl
theorem try_fat_other (g : Lg) (t : St) (first : Int) {s : List UInt8} (h1 : s ≠ nm first) (h2 : s ≠ mfL) (h3 : s ≠ nxL) : fat (lgTry g t first).2.D s = fat t.D s :=
  thenSt_keep (P := fun u => fat u.D s = fat t.D s) (pre_other t first h1) fun u hu => (fat_swap_other u _ h2 h3).trans hu
theorem try_no (g : Lg) (t : St) (first : Int) (hr : 0 ≤ first ∧ first ≤ 1073741824) (h : (lgTry g t first).1 ≠ 0) : fat (lgTry g t first).2.D mfL = fat t.D mfL := by
  have hne : mfL ≠ nm first := fun e => nm_ne_mf first hr e.symm
  rw [try_pre] at *
  by_cases hp : (lgPre t first).1 = 0
  · have e : thenSt (lgPre t first) (fun t => mSwap t (g.segs ++ [first])) = mSwap (lgPre t first).2 (g.segs ++ [first]) := by unfold thenSt; rw [if_neg (by simp [hp])]
    rw [e] at h ⊢
    rw [swap_keeps _ _ h, pre_other t first hne]
  · have e : thenSt (lgPre t first) (fun t => mSwap t (g.segs ++ [first])) = lgPre t first := by unfold thenSt; rw [if_pos hp]
    rw [e, pre_other t first hne]
/-- A segment more, or none: what lasted lasts. -/
theorem LDur.lay {g : Lg} {t : St} {fs : List Fr} {S : Int} (h : LDur g t fs S) (hfull : ∃ f, fat t.D (lgLast g) = some f ∧ f.l = f.bs.length) (hlt : g.segs.getLastD 0 < g.next) (hn : g.next ≤ 1073741824) :
    LDur (lgLay g t g.next).2.2 (lgLay g t g.next).2.1 fs S := by
  have hinv := (h.inv.lay hlt hn).1
  have h0 := (h.range h.inv.chain.mem_last).1
  have hr : 0 ≤ g.next ∧ g.next ≤ 1073741824 := ⟨by omega, hn⟩
  have hne : ∀ x ∈ g.segs, nm x ≠ nm g.next := fun x hx e => by
    have := nm_inj (h.range hx) hr e
    have := h.inv.chain.le_last x hx
    omega
  have hmn : mfL ≠ nm g.next := fun e => nm_ne_mf _ hr e.symm
  have hoth : ∀ x ∈ g.segs, fat (lgTry g t g.next).2.D (nm x) = fat t.D (nm x) := fun x hx => try_fat_other g t _ (hne x hx) (nm_ne_mf x (h.range hx)) (nm_ne_nx x (h.range hx))
  have hmap := try_map (g := g) h.inv.map g.next
  unfold lgLay at *
  simp only at *
  by_cases e : (lgTry g t g.next).1 = 0
  · rw [if_pos e] at hinv ⊢
    have e0 := e
    rw [try_pre] at e0
    obtain ⟨a1, a2, a3⟩ := thenSt_yes e0
    obtain ⟨s1, s2⟩ := swap_done (pre_map h.inv.map g.next) _ a3
    have hnew : fat (lgTry g t g.next).2.D (nm g.next) = some ⟨head g.next.toNat, (head g.next.toNat).length⟩ := by
      rw [try_pre, a2, fat_swap_other _ _ (nm_ne_mf _ hr) (nm_ne_nx _ hr)]
      exact pre_yes h.inv.map _ hr a1
    have hl : (g.segs ++ [g.next]).getLastD 0 = g.next := by simp [List.getLastD_eq_getLast?]
    refine ⟨hinv, s1, by rw [try_pre, a2]; exact s2, fun x hx hx' => ?_, ?_⟩
    · rw [hl] at hx'
      have hx2 : x ∈ g.segs := by
        rcases List.mem_append.1 hx with hx | hx
        · exact hx
        · exact absurd (by simpa using hx) hx'
      rw [hoth x hx2]
      by_cases hxl : x = g.segs.getLastD 0
      · rw [hxl]; exact hfull
      · exact h.done x hx2 hxl
    · rw [hl]
      have := h.le_next
      exact ⟨_, [], 0, hnew, Seg.new hr (by unfold St.fb; rw [hnew]; rfl), by rw [head_len]; exact Nat.le_refl _, Nat.le_refl _, by rw [head_len]; exact Nat.le_refl _, by omega⟩
  · rw [if_neg e] at hinv ⊢
    have hmf := try_no g t g.next hr e
    by_cases e2 : (lgTry g t g.next).1 = 42
    · rw [if_pos e2]
      exact h.keep hmap hoth hmf
    · rw [if_neg e2]
      exact h.keep (isMap_delete hmap _) (fun x hx => (fat_delete_other _ (hne x hx)).trans (hoth x hx)) ((fat_delete_other _ hmn).trans hmf)
theorem LDur.room {g : Lg} {t : St} {fs : List Fr} {S : Int} (h : LDur g t fs S) (size more : Nat) (hn : g.next ≤ 1073741824) : LDur (lgRoom size g t more).2.2 (lgRoom size g t more).2.1 fs S := by
  unfold lgRoom
  by_cases h1 : lgFull size g t more = false
  · rw [if_pos h1]; exact h
  · rw [if_neg h1]
    by_cases h2 : 40 ≤ g.segs.length
    · rw [if_pos h2]; exact h
    · rw [if_neg h2]
      simp only
      have hs := h.sync
      unfold lgSync at hs
      by_cases h3 : (t.sync (lgLast g)).1 ≠ 0
      · rw [if_pos h3]; exact hs.2 h3
      · rw [if_neg h3]
        obtain ⟨q1, q2⟩ := hs.1 (by simpa using h3)
        have h1 : lgFull size g t more = true := by simpa using h1
        unfold lgFull at h1
        have hS : LDur g (t.sync (lgLast g)).2 fs S := by
          obtain ⟨f, b, p, r1, r2, r3, r4, r5, r6⟩ := q1.last
          have := h.le_next
          exact ⟨q1.inv, q1.ok, q1.list, q1.done, f, b, p, r1, r2, r3, r4, r5, by omega⟩
        exact hS.lay q2 (of_decide_eq_true (Bool.and_eq_true_iff.1 h1).1) hn
/-- Append: what lasted lasts. -/
theorem LDur.append {g : Lg} {t : St} {fs : List Fr} {S : Int} (h : LDur g t fs S) (size : Nat) (kind : Int) (body : List Nat) :
    ((lgAppend size g t kind body).1.2 ≠ 0 → LDur (lgAppend size g t kind body).2.2 (lgAppend size g t kind body).2.1 fs S) ∧
    ((lgAppend size g t kind body).1.2 = 0 → LDur (lgAppend size g t kind body).2.2 (lgAppend size g t kind body).2.1 (fs ++ [⟨kind, g.next, body⟩]) S) := by
  unfold lgAppend
  simp only
  by_cases hr : (⟨kind, g.next, body⟩ : Fr).right
  · rw [if_neg (by simpa using hr)]
    have hl := h.room size (put ⟨kind, g.next, body⟩).length hr.2.2.2.1
    have hnx := (h.inv.room size (put ⟨kind, g.next, body⟩).length hr.2.2.2.1).2
    have hput : put ⟨kind, g.next, body⟩ = raw ⟨kind, g.next, body⟩ := by unfold put; rw [if_pos hr]
    generalize lgRoom size g t (put ⟨kind, g.next, body⟩).length = r at *
    obtain ⟨re, rt, rg⟩ := r
    simp only at *
    by_cases h1 : re ≠ 0
    · rw [if_pos h1]
      exact ⟨fun _ => hl, fun e => absurd e h1⟩
    · rw [if_neg h1]
      by_cases h2 : (rt.write (lgLast rg) (put ⟨kind, g.next, body⟩)).1 ≠ 0
      · rw [if_pos h2]
        exact ⟨fun _ => hl.keep (isMap_write hl.inv.map _ _) (fun x _ => write_no _ _ _ _ h2) (write_no _ _ _ _ h2), fun e => absurd e h2⟩
      · rw [if_neg h2]
        refine ⟨fun e => absurd rfl e, fun _ => ?_⟩
        rw [hput] at h2 ⊢
        have := hl.written hr hnx.symm (by simpa using h2)
        rw [hnx] at this
        exact this
  · rw [if_pos (by simpa using hr)]
    exact ⟨fun _ => h, fun e => absurd (show (1 : Int) = 0 from e) (by decide)⟩
end
section
set_option linter.unusedSimpArgs false
set_option linter.unusedVariables false
open Go.RowKit Go.Sort Go.Maps
open Crc Frm
open Sgn

theorem delEach_fat : ∀ (l : List (List UInt8)) (e : Int) (t : St) {s : List UInt8}, s ∉ l → fat (delEach l e t).2.D s = fat t.D s
  | [], _, _, _, _ => rfl
  | x :: l, e, t, s, h => by
    show fat (delEach l _ (t.delete x).2).2.D s = _
    rw [delEach_fat l _ _ (fun hm => h (by simp [hm])), fat_delete_other t (fun e => h (by simp [e]))]
theorem last_drop : ∀ (l : List Int) (k : Nat), k < l.length → (l.drop k).getLastD 0 = l.getLastD 0
  | l, 0, _ => rfl
  | [], k + 1, h => absurd h (by simp)
  | [x], k + 1, h => absurd h (by simp)
  | x :: y :: l, k + 1, h => by
    show ((y :: l).drop k).getLastD 0 = (y :: l).getLastD 0
    exact last_drop (y :: l) k (by simpa using h)
/-- Retain: what lasted lasts, but for what is gone. -/
theorem LDur.retain {g : Lg} {t : St} {fs : List Fr} {S : Int} (h : LDur g t fs S) (seq : Int) : ∃ a b, fs = a ++ b ∧ LDur (lgRetain g t seq).2.2 (lgRetain g t seq).2.1 b S := by
  obtain ⟨_, a, b, _, _, hfs, hi, _, _⟩ := h.inv.retain seq
  unfold lgRetain at *
  by_cases h0 : lgGone g seq = 0
  · rw [if_pos h0]
    exact ⟨[], fs, rfl, h⟩
  · rw [if_neg h0] at hi ⊢
    simp only at hi ⊢
    have hlt := lgGone_ltM h.inv.chain.ne seq
    generalize lgGone g seq = k at *
    have hsw : ∀ x ∈ g.segs, fat (mSwap t (g.segs.drop k)).2.D (nm x) = fat t.D (nm x) := fun x hx => fat_swap_other _ _ (nm_ne_mf x (h.range hx)) (nm_ne_nx x (h.range hx))
    have hms : IsMap (mSwap t (g.segs.drop k)).2.D := isMap_swap h.inv.map _
    by_cases h1 : (mSwap t (g.segs.drop k)).1 ≠ 0
    · rw [if_pos h1]
      exact ⟨[], fs, rfl, h.keep hms hsw (swap_keeps _ _ h1)⟩
    · rw [if_neg h1] at hi ⊢
      obtain ⟨s1, s2⟩ := swap_done h.inv.map _ (by simpa using h1)
      have hl : (g.segs.drop k).getLastD 0 = g.segs.getLastD 0 := last_drop _ _ hlt
      have hnot : ∀ y ∈ g.segs.drop k, nm y ∉ (g.segs.take k).map nm := fun y hy hm => by
        obtain ⟨x, hx, e⟩ := List.mem_map.1 hm
        have hxy := nm_inj (h.range (List.mem_of_mem_take hx)) (h.range (List.mem_of_mem_drop hy)) e
        have hp := h.inv.chain.up
        rw [← List.take_append_drop k g.segs] at hp
        have := (List.pairwise_append.1 hp).2.2 x hx y hy
        omega
      have hall : ∀ y ∈ g.segs.drop k, fat (delEach ((g.segs.take k).map nm) 0 (mSwap t (g.segs.drop k)).2).2.D (nm y) = fat t.D (nm y) := fun y hy =>
        (delEach_fat _ _ _ (hnot y hy)).trans (hsw y (List.mem_of_mem_drop hy))
      have hlm : g.segs.getLastD 0 ∈ g.segs.drop k := by
        rw [← hl, List.getLastD_eq_getLast?, List.getLast?_eq_some_getLast (by intro e; have := congrArg List.length e; simp at this; omega)]
        exact List.getLast_mem _
      obtain ⟨f, c, p, r1, r2, r3⟩ := h.last
      refine ⟨a, b, hfs, hi, s1, ?_, fun x hx hne => ?_, f, c, p, ?_, ?_, ?_⟩
      · have hmf : mfL ∉ (g.segs.take k).map nm := fun hm => by
          obtain ⟨x, hx, e⟩ := List.mem_map.1 hm
          exact nm_ne_mf x (h.range (List.mem_of_mem_take hx)) e
        unfold Has
        rw [delEach_fat _ _ _ hmf]
        exact s2
      · rw [hl] at hne
        rw [hall x hx]
        exact h.done x (List.mem_of_mem_drop hx) hne
      · show fat _ (nm ((g.segs.drop k).getLastD 0)) = _
        rw [hl, hall _ hlm]
        exact r1
      · show Seg _ ((g.segs.drop k).getLastD 0) c
        rw [hl]
        exact r2.keep (by unfold St.fb; rw [hall _ hlm])
      · show _ ∧ _ ∧ _ ∧ S ≤ (g.segs.drop k).getLastD 0 + _
        rw [hl]
        exact r3
end
section
set_option linter.unusedSimpArgs false
set_option linter.unusedVariables false
open Go.RowKit Go.Sort Go.Maps
open Crc Frm
open Sgn

theorem open_steps {t' : St} {l : List Int} {g0 g : Lg} {good : Option (List Nat)} {size : Int} (hl : (mLoad t').1 = l) (hne : l ≠ []) (q4 : lgFind t' l ⟨[], 0⟩ = (g0, good)) (hsg : g0.segs = l) (ho : (lgOpen size t').2.2 = some g) :
    g = g0 ∧ (lgMend g0 good t').1 = 0 ∧ (lgSync g0 (lgClean g0 (lgMend g0 good t').2).2).1 = 0 ∧ (lgOpen size t').2.1 = (((lgSync g0 (lgClean g0 (lgMend g0 good t').2).2).2.drop fxL).2.drop nxL).2 := by
  have hrs : lgRestore t' = (let s := thenSt (thenSt (thenSt (0, t') (lgMend g0 good)) (lgClean g0)) (lgSync g0); (s.1, s.2, g0)) := by
    unfold lgRestore
    rw [hl]
    simp only
    rw [q4]
    simp only
    rw [if_neg (by rw [hsg]; exact hne), if_pos (by rw [hsg])]
  unfold lgOpen at *
  by_cases hs : size < 64 ∨ 65536 < size
  · rw [if_pos hs] at ho; cases ho
  · rw [if_neg hs] at ho ⊢
    simp only at ho ⊢
    rw [hrs] at ho ⊢
    simp only at ho ⊢
    generalize hR : thenSt (thenSt (thenSt (0, t') (lgMend g0 good)) (lgClean g0)) (lgSync g0) = R at ho ⊢
    by_cases he : (thenSt (thenSt (R.1, R.2) fun t => t.drop fxL) fun t => t.drop nxL).1 ≠ 0
    · rw [if_pos he] at ho; cases ho
    · rw [if_neg he] at ho ⊢
      have he : (thenSt (thenSt (R.1, R.2) fun t => t.drop fxL) fun t => t.drop nxL).1 = 0 := by simpa using he
      obtain ⟨a1, e1, _⟩ := thenSt_yes he
      obtain ⟨a2, e2, _⟩ := thenSt_yes a1
      have hR0 : R.1 = 0 := a2
      rw [← hR] at hR0
      obtain ⟨c1, k1, c2⟩ := thenSt_yes hR0
      obtain ⟨d1, k2, _⟩ := thenSt_yes c1
      have k3 : thenSt (0, t') (lgMend g0 good) = lgMend g0 good t' := by unfold thenSt; rw [if_neg (by simp)]
      rw [k2] at c2
      rw [k3] at d1 c2
      have hR2 : R.2 = (lgSync g0 (lgClean g0 (lgMend g0 good t').2).2).2 := by rw [← hR, k1, k2, k3]
      refine ⟨(Option.some.inj ho).symm, d1, c2, ?_⟩
      show (thenSt (thenSt (R.1, R.2) fun t => t.drop fxL) fun t => t.drop nxL).2 = _
      rw [e1, e2]
      show ((R.2.drop fxL).2.drop nxL).2 = _
      rw [hR2]
theorem delAll_fat : ∀ (l : List (List UInt8)) (t : St) {s : List UInt8}, s ∉ l → fat (delAll l t).2.D s = fat t.D s
  | [], _, _, _ => rfl
  | x :: l, t, s, h => thenSt_keep (P := fun u => fat u.D s = fat t.D s) (fat_delete_other t (fun e => h (by simp [e]))) (fun u hu => (delAll_fat l u (fun hm => h (by simp [hm]))).trans hu)
theorem clean_fat (g : Lg) (t : St) {s : List UInt8} (h : (fst s).2 = false ∨ (fst s).1 ∈ g.segs) : fat (lgClean g t).2.D s = fat t.D s := by
  refine delAll_fat _ t (fun hm => ?_)
  have := (List.mem_filter.1 hm).2
  rcases h with h | h
  · rw [h] at this; simp at this
  · simp [h] at this
theorem fat_mend_other (g : Lg) (good : Option (List Nat)) (t : St) {s : List UInt8} (h1 : s ≠ fxL) (h2 : s ≠ lgLast g) : fat (lgMend g good t).2.D s = fat t.D s := by
  cases good with
  | none => rfl
  | some b =>
    exact thenSt_keep (P := fun u => fat u.D s = fat t.D s) (r := thenSt (thenSt (t.drop fxL) fun t => t.write fxL b) fun t => t.sync fxL) (f := fun t => t.rename fxL (lgLast g))
      (thenSt_keep (P := fun u => fat u.D s = fat t.D s) (thenSt_keep (P := fun u => fat u.D s = fat t.D s) (fat_drop_other t h1) fun u hu => (fat_write_other u _ h1).trans hu) fun u hu => (fat_sync_other u h1).trans hu)
      fun u hu => (fat_rename_other u h1 h2).trans hu
/-- A file that an Open leaves as it is. -/
theorem open_other {t' : St} {l : List Int} {g0 g : Lg} {good : Option (List Nat)} {size : Int} (hl : (mLoad t').1 = l) (hne : l ≠ []) (q4 : lgFind t' l ⟨[], 0⟩ = (g0, good)) (hsg : g0.segs = l) (ho : (lgOpen size t').2.2 = some g) {s : List UInt8}
    (h1 : s ≠ fxL) (h2 : s ≠ nxL) (h3 : s ≠ lgLast g0) (h4 : (fst s).2 = false ∨ (fst s).1 ∈ l) : fat (lgOpen size t').2.1.D s = fat t'.D s := by
  obtain ⟨_, _, _, e⟩ := open_steps hl hne q4 hsg ho
  rw [e, fat_drop_other _ h2, fat_drop_other _ h1]
  unfold lgSync
  rw [fat_sync_other _ h3, clean_fat g0 _ (by rw [hsg]; exact h4), fat_mend_other g0 good t' h1 h3]
/-- The last segment's file lasts behind an Open. -/
theorem open_last {t' : St} (hm : IsMap t'.D) {l : List Int} {g0 g : Lg} {good : Option (List Nat)} {size : Int} (hl : (mLoad t').1 = l) (hne : l ≠ []) (q4 : lgFind t' l ⟨[], 0⟩ = (g0, good)) (hsg : g0.segs = l) (ho : (lgOpen size t').2.2 = some g)
    (h1 : lgLast g0 ≠ fxL) (h2 : lgLast g0 ≠ nxL) : ∃ f, fat (lgOpen size t').2.1.D (lgLast g0) = some f ∧ f.l = f.bs.length := by
  obtain ⟨_, _, hs, e⟩ := open_steps hl hne q4 hsg ho
  obtain ⟨f, _, hf⟩ := sync_yes (clean_map g0 (mend_map hm)) _ hs
  rw [e, fat_drop_other _ h2, fat_drop_other _ h1]
  exact ⟨_, hf, rfl⟩
end
section
set_option linter.unusedSimpArgs false
set_option linter.unusedVariables false
open Go.RowKit Go.Sort Go.Maps
open Crc Frm
open Sgn

theorem LDur.reopen {g : Lg} {t : St} {fs : List Fr} {S : Int} (h : LDur g t fs S) (hG : Good t.D t.room) (ks : List Int) (hm' : IsMap (t.crash ks).D) {size : Int} {g' : Lg} (ho : (lgOpen size (t.crash ks)).2.2 = some g') :
    ∃ fs' rest, fs = fs' ++ rest ∧ g'.segs = g.segs ∧ S ≤ g'.next ∧ LDur g' (lgOpen size (t.crash ks)).2.1 fs' g'.next := by
  obtain ⟨fs', rest, e1, e2, e3, hi⟩ := h.crash hG ks hm' ho
  obtain ⟨f, b0, p, hf, hs0, h12, hp, hpe, hS⟩ := h.last
  obtain ⟨m, m1, m2, m3⟩ := crash_some hG ks hf
  have hl : (mLoad (t.crash ks)).1 = g.segs := by rw [load_has h.ok (has_crash hG ks h.list)]
  have hb : t.bytes (nm (g.segs.getLastD 0)) = f.bs := by unfold St.bytes; rw [hf]; rfl
  have hdn : ∀ x ∈ g.segs, x ≠ g.segs.getLastD 0 → ∃ fx, fat t.D (nm x) = some fx ∧ fat (t.crash ks).D (nm x) = some ⟨fx.bs, fx.bs.length⟩ := fun x hx hne => by
    obtain ⟨fx, hfx, hfl⟩ := h.done x hx hne
    obtain ⟨k, k1, k2, k3⟩ := crash_some hG ks hfx
    rw [show k = fx.bs.length from by omega, List.take_length] at k3
    exact ⟨fx, hfx, k3⟩
  obtain ⟨a, b, j, good, _, _, _, _, q4, _, _⟩ := find_chain (t' := t.crash ks) m (by omega) h.inv.chain (fun x hx hne => by
      obtain ⟨fx, hfx, hfy⟩ := hdn x hx hne
      unfold St.fb
      rw [hfx, hfy]
      rfl) (by rw [hb]; unfold St.fb; rw [m3]; rfl) (by rw [hb]; exact m2) ⟨[], 0⟩ (.inl rfl)
  rw [List.nil_append] at q4
  obtain ⟨g0, hg0⟩ : ∃ g0 : Lg, g0 = ⟨g.segs, g.segs.headD 0 + ((a.length + j : Nat) : Int)⟩ := ⟨_, rfl⟩
  rw [← hg0] at q4
  have hsg : g0.segs = g.segs := by rw [hg0]
  have hgg := (open_steps hl h.inv.chain.ne q4 hsg ho).1
  have hlast : lgLast g0 = lgLast g := by unfold lgLast; rw [hsg]
  have hrl := h.range h.inv.chain.mem_last
  refine ⟨fs', rest, e1, e2, e3, hi, by rw [e2]; exact h.ok, ?_, fun x hx hne => ?_, ?_⟩
  · unfold Has
    rw [open_other hl h.inv.chain.ne q4 hsg ho (by decide) (by decide) (by rw [hlast]; exact fun e => nm_ne_mf _ hrl e.symm) (.inl (by decide +kernel)), e2]
    exact has_crash hG ks h.list
  · rw [e2] at hx hne
    have hr := h.range hx
    obtain ⟨fx, _, hfy⟩ := hdn x hx hne
    rw [open_other hl h.inv.chain.ne q4 hsg ho (nm_ne_fx x hr) (nm_ne_nx x hr) (by rw [hlast]; exact h.ne_last hx hne) (.inr (by rw [fst_nm hr.1 hr.2]; exact hx)), hfy]
    exact ⟨_, rfl, rfl⟩
  · obtain ⟨f2, hf2, hfl⟩ := open_last hm' hl h.inv.chain.ne q4 hsg ho (by rw [hlast]; exact nm_ne_fx _ hrl) (by rw [hlast]; exact nm_ne_nx _ hrl)
    rw [hlast] at hf2
    obtain ⟨b2, r1, r2⟩ := hi.chain.last_seg
    have hbs : f2.bs = head (g'.segs.getLastD 0).toNat ++ rows b2 := by
      have := r1.bytes
      unfold St.bytes at this
      rw [e2, show fat (lgOpen size (t.crash ks)).2.1.D (nm (g.segs.getLastD 0)) = some f2 from hf2] at this
      rw [e2]
      exact this
    have hlen : f2.bs.length = 12 + ends b2 b2.length := by rw [hbs, List.length_append, head_len, rows_len_ends]
    exact ⟨f2, b2, b2.length, by rw [e2]; exact hf2, r1, by omega, Nat.le_refl _, by omega, by omega⟩
end
section
set_option linter.unusedSimpArgs false
set_option linter.unusedVariables false
open Go.RowKit Go.Sort Go.Maps
open Crc Frm
open Sgn

theorem LDur.drop_ {g : Lg} {t : St} {fs : List Fr} {S : Int} (h : LDur g t fs S) {s : List UInt8} (hs : ∀ x, 0 ≤ x ∧ x ≤ 1073741824 → nm x ≠ s) (h2 : mfL ≠ s) : LDur g (t.drop s).2 fs S :=
  h.keep (isMap_drop h.inv.map s) (fun x hx => fat_drop_other _ (hs x (h.range hx))) (fat_drop_other _ h2)
theorem lay_begins_dur {t : St} (hm : IsMap t.D) (h : (lgLay ⟨[], 0⟩ t 0).1 = 0) : LDur (lgLay ⟨[], 0⟩ t 0).2.2 (lgLay ⟨[], 0⟩ t 0).2.1 [] 0 := by
  have hi := (lay_begins hm h).1
  unfold lgLay at *
  simp only at *
  by_cases e : (lgTry ⟨[], 0⟩ t 0).1 = 0
  · rw [if_pos e] at hi ⊢
    have e0 := e
    rw [try_pre] at e0
    obtain ⟨a1, a2, a3⟩ := thenSt_yes e0
    obtain ⟨s1, s2⟩ := swap_done (pre_map hm 0) _ a3
    have hr : (0 : Int) ≤ 0 ∧ (0 : Int) ≤ 1073741824 := ⟨by decide, by decide⟩
    have hnew : fat (lgTry ⟨[], 0⟩ t 0).2.D (nm 0) = some ⟨head 0, (head 0).length⟩ := by
      rw [try_pre, a2, fat_swap_other _ _ (nm_ne_mf _ hr) (nm_ne_nx _ hr)]
      exact pre_yes hm _ hr a1
    have hseg : Seg (lgTry ⟨[], 0⟩ t 0).2 0 [] := Seg.new hr (by unfold St.fb; rw [hnew]; rfl)
    exact ⟨hi, s1, by rw [try_pre, a2]; exact s2, fun x hx hne => absurd (by simpa using hx) hne,
      ⟨_, [], 0, hnew, hseg, by rw [head_len]; exact Nat.le_refl _, Nat.le_refl _, by rw [head_len]; exact Nat.le_refl _, show (0 : Int) ≤ 0 + ((0 : Nat) : Int) from by decide⟩⟩
  · rw [if_neg e] at h
    by_cases e2 : (lgTry ⟨[], 0⟩ t 0).1 = 42
    · rw [if_pos e2] at h; exact absurd (show (42 : Int) = 0 from h) (by decide)
    · rw [if_neg e2] at h; exact absurd h e
/-- Open of a disk that has no list: all that there is (nothing) lasts. -/
theorem open_begins_dur {size : Int} {t : St} {g : Lg} (hm : IsMap t.D) (hl : (mLoad t).1 = []) (h : (lgOpen size t).2.2 = some g) (hc : (lgClean ⟨[], 0⟩ t).2 = t ∧ (lgClean ⟨[], 0⟩ t).1 = 0) : LDur g (lgOpen size t).2.1 [] 0 := by
  have hrs : lgRestore t = lgLay ⟨[], 0⟩ t 0 := by
    have h2 : ¬ (lgClean ⟨[], 0⟩ t).1 ≠ 0 := by rw [hc.2]; decide
    unfold lgRestore
    rw [hl]
    show (if ([] : List Int) = [] then _ else _) = _
    rw [if_pos rfl]
    show (if (lgClean ⟨[], 0⟩ t).1 ≠ 0 then _ else lgLay ⟨[], 0⟩ (lgClean ⟨[], 0⟩ t).2 0) = _
    rw [if_neg h2, hc.1]
  unfold lgOpen at *
  by_cases hs : size < 64 ∨ 65536 < size
  · rw [if_pos hs] at h; cases h
  · rw [if_neg hs] at h ⊢
    simp only at h ⊢
    rw [hrs] at h ⊢
    by_cases he : (thenSt (thenSt ((lgLay ⟨[], 0⟩ t 0).1, (lgLay ⟨[], 0⟩ t 0).2.1) fun t => t.drop fxL) fun t => t.drop nxL).1 ≠ 0
    · rw [if_pos he] at h; cases h
    · rw [if_neg he] at h ⊢
      have he : (thenSt (thenSt ((lgLay ⟨[], 0⟩ t 0).1, (lgLay ⟨[], 0⟩ t 0).2.1) fun t => t.drop fxL) fun t => t.drop nxL).1 = 0 := by simpa using he
      obtain ⟨a1, e1, _⟩ := thenSt_yes he
      obtain ⟨a2, e2, _⟩ := thenSt_yes a1
      have hd := lay_begins_dur hm a2
      have hgg : g = (lgLay ⟨[], 0⟩ t 0).2.2 := (Option.some.inj h).symm
      rw [hgg]
      show LDur _ (thenSt _ _).2 [] 0
      rw [e1, e2]
      exact (hd.drop_ nm_ne_fx (by decide)).drop_ nm_ne_nx (by decide)
end
section
namespace Sgn
set_option linter.unusedSimpArgs false
set_option linter.unusedVariables false
open Go.Lib

/-- The last k digits. -/
def pad : Nat → Nat → List UInt8
  | 0, _ => []
  | k + 1, u => pad k (u / 10) ++ [UInt8.ofNat (48 + u % 10)]
theorem pad_len : ∀ k u, (pad k u).length = k
  | 0, _ => rfl
  | k + 1, u => by simp [pad, pad_len k]
theorem pad_cons : ∀ k u, pad (k + 1) u = UInt8.ofNat (48 + u / 10 ^ k % 10) :: pad k u
  | 0, u => by simp [pad]
  | k + 1, u => by
    have ih := pad_cons k (u / 10)
    rw [pad, ih]
    have e : u / 10 / 10 ^ k = u / 10 ^ (k + 1) := by rw [Nat.div_div_eq_div_mul, Nat.pow_succ, Nat.mul_comm]
    rw [e]
    rfl
theorem nDigits_pos (u : Nat) : 1 ≤ nDigits u := by
  by_cases h : u < 10
  · rw [nDigits_small h]; exact Nat.le_refl _
  · rw [nDigits_big h]; omega
theorem repeat_snoc (k : Nat) : repeatL [48] (k + 1) = repeatL [48] k ++ [48] := by rw [repeatL_add]; rfl
theorem pad_zero : ∀ k, pad k 0 = repeatL [48] k
  | 0 => rfl
  | k + 1 => by rw [pad, repeat_snoc, Nat.zero_div, pad_zero k]; rfl
theorem pad_dec : ∀ k u, nDigits u ≤ k → pad k u = repeatL [48] (k - nDigits u) ++ decDigits u
  | 0, u, h => by have := nDigits_pos u; omega
  | k + 1, u, h => by
    by_cases h9 : u < 10
    · rw [pad, nDigits_small h9, show u / 10 = 0 from by omega, pad_zero, decDigits, dif_pos h9, show u % 10 = u from by omega]
      rfl
    · rw [nDigits_big h9] at h ⊢
      have e : decDigits u = decDigits (u / 10) ++ [UInt8.ofNat (48 + u % 10)] := by rw [decDigits, dif_neg h9]
      rw [pad, pad_dec k (u / 10) (by omega), e, List.append_assoc, show k + 1 - (nDigits (u / 10) + 1) = k - nDigits (u / 10) from by omega]
theorem nm_pad {u : Nat} (h : u ≤ 1073741824) : nm (u : Int) = 115 :: pad 10 u := by
  unfold nm
  rw [if_pos ⟨by omega, by omega⟩, itoa_nonneg, decDigits_length, pad_dec 10 u (nDigits_le 9 u (by omega))]

/-- What digits count. -/
def val10 (l : List UInt8) : Nat := l.foldl (fun a c => a * 10 + (c.toNat - 48)) 0
theorem val_snocM (l : List UInt8) (c : UInt8) : val10 (l ++ [c]) = val10 l * 10 + (c.toNat - 48) := by simp [val10]
def digs (l : List UInt8) : Prop := ∀ c ∈ l, 48 ≤ c.toNat ∧ c.toNat ≤ 57
theorem dig_val (d : Nat) (h : d < 10) : (UInt8.ofNat (48 + d)).toNat = 48 + d := by simp; omega
theorem val_pad : ∀ k u, u < 10 ^ k → val10 (pad k u) = u
  | 0, u, h => by simp [val10, pad] at *; omega
  | k + 1, u, h => by
    rw [pad, val_snocM, val_pad k (u / 10) (by rw [Nat.pow_succ] at h; omega), dig_val _ (Nat.mod_lt _ (by decide))]
    omega
theorem pad_digs : ∀ k u, digs (pad k u)
  | 0, _ => by intro c hc; cases hc
  | k + 1, u => by
    intro c hc
    rw [pad] at hc
    rcases List.mem_append.1 hc with hc | hc
    · exact pad_digs k _ c hc
    · have : c = UInt8.ofNat (48 + u % 10) := by simpa using hc
      rw [this, dig_val _ (Nat.mod_lt _ (by decide))]
      omega
theorem pad_val (k : Nat) : ∀ l : List UInt8, l.length = k → digs l → pad k (val10 l) = l := by
  induction k with
  | zero => intro l h _; rw [List.eq_nil_of_length_eq_zero h]; rfl
  | succ k ih =>
    intro l h hd
    obtain ⟨m, c, rfl⟩ : ∃ m c, l = m ++ [c] := ⟨l.dropLast, l.getLast (by intro e; subst e; simp at h), (List.dropLast_concat_getLast _).symm⟩
    have hm : m.length = k := by simpa using h
    have hc := hd c (by simp)
    have h1 := ih m hm (fun x hx => hd x (by simp [hx]))
    rw [val_snocM, pad, show (val10 m * 10 + (c.toNat - 48)) / 10 = val10 m from by omega, h1, show (val10 m * 10 + (c.toNat - 48)) % 10 = c.toNat - 48 from by omega]
    congr 2
    apply UInt8.toNat_inj.1
    rw [dig_val _ (by omega)]
    omega
/-- The number of a name, as the reference reads it. -/
def rfst (l : List UInt8) : Int × Bool := if l.length = 11 ∧ l.headD 0 = 115 ∧ (l.drop 1).all (fun c => decide (48 ≤ c.toNat ∧ c.toNat ≤ 57)) = true ∧ val10 (l.drop 1) ≤ 1073741824 then ((val10 (l.drop 1) : Int), true) else (0, false)
theorem rfst_nm {u : Nat} (h : u ≤ 1073741824) : rfst (nm (u : Int)) = ((u : Int), true) := by
  rw [nm_pad h]
  unfold rfst
  have hv := val_pad 10 u (by omega)
  rw [if_pos ⟨by simp [pad_len], rfl, by
    rw [List.all_eq_true]
    intro c hc
    have := pad_digs 10 u c (by simpa using hc)
    simpa using this, by show val10 (pad 10 u) ≤ _; rw [hv]; exact h⟩]
  show (((val10 (pad 10 u) : Nat) : Int), true) = _
  rw [hv]
theorem rfst_yes {l : List UInt8} (h : (rfst l).2 = true) : ∃ u : Nat, u ≤ 1073741824 ∧ rfst l = ((u : Int), true) ∧ l = nm (u : Int) := by
  unfold rfst at *
  split at h
  · rename_i hc
    rw [if_pos hc]
    obtain ⟨h1, h2, h3, h4⟩ := hc
    refine ⟨val10 (l.drop 1), h4, rfl, ?_⟩
    rw [nm_pad h4, pad_val 10 (l.drop 1) (by rw [List.length_drop]; omega) (fun c hc => by have := List.all_eq_true.1 h3 c hc; simpa using this)]
    match l, h1 with
    | c :: l, _ =>
      have : c = 115 := by simpa using h2
      rw [this]
      rfl
  · cases h
theorem rfst_no {l : List UInt8} (h : (rfst l).2 = false) : rfst l = (0, false) := by
  unfold rfst at *
  split at h
  · cases h
  · rename_i hc; rw [if_neg hc]
theorem val_lt10 (k : Nat) : ∀ l : List UInt8, l.length = k → digs l → val10 l < 10 ^ k := by
  induction k with
  | zero => intro l h _; rw [List.eq_nil_of_length_eq_zero h]; decide
  | succ k ih =>
    intro l h hd
    obtain ⟨m, c, rfl⟩ : ∃ m c, l = m ++ [c] := ⟨l.dropLast, l.getLast (by intro e; subst e; simp at h), (List.dropLast_concat_getLast _).symm⟩
    have hm : m.length = k := by simpa using h
    have hc := hd c (by simp)
    have h1 := ih m hm (fun x hx => hd x (by simp [hx]))
    rw [val_snocM, Nat.pow_succ]
    omega
theorem rfst_short {l : List UInt8} (h : l.length ≠ 11) : rfst l = (0, false) := by
  unfold rfst; rw [if_neg (fun hc => h hc.1)]
theorem rfst_head {l : List UInt8} (h : l.headD 0 ≠ 115) : rfst l = (0, false) := by
  unfold rfst; rw [if_neg (fun hc => h hc.2.1)]
theorem rfst_bad {l : List UInt8} (c : UInt8) (hm : c ∈ l.drop 1) (h : ¬ (48 ≤ c.toNat ∧ c.toNat ≤ 57)) : rfst l = (0, false) := by
  unfold rfst; rw [if_neg (fun hc => h (by have := List.all_eq_true.1 hc.2.2.1 c hm; simpa using this))]
theorem rfst_big {l : List UInt8} (h : 1073741824 < val10 (l.drop 1)) : rfst l = (0, false) := by
  unfold rfst; rw [if_neg (fun hc => by have := hc.2.2.2; omega)]
theorem rfst_ok {l : List UInt8} (h1 : l.length = 11) (h2 : l.headD 0 = 115) (h3 : digs (l.drop 1)) (h4 : val10 (l.drop 1) ≤ 1073741824) : rfst l = ((val10 (l.drop 1) : Int), true) := by
  unfold rfst; rw [if_pos ⟨h1, h2, by rw [List.all_eq_true]; intro c hc; simpa using h3 c hc, h4⟩]
/-- Both read a name alike. -/
theorem rfst_fst (l : List UInt8) : rfst l = fst l := by
  cases hb : (rfst l).2 with
  | true =>
    obtain ⟨u, hu, h1, h2⟩ := rfst_yes hb
    rw [h1, h2, fst_nm (by omega) (by omega)]
  | false =>
    rw [rfst_no hb]
    cases hc : (fst l).2 with
    | false => exact (Prod.ext (fst_no hc).symm hc.symm)
    | true =>
      have h1 := fst_yes hc
      by_cases hr : 0 ≤ (fst l).1 ∧ (fst l).1 ≤ 1073741824
      · obtain ⟨u, hu⟩ := Int.eq_ofNat_of_zero_le hr.1
        rw [hu] at h1
        have := rfst_nm (u := u) (by omega)
        rw [show nm ((u : Nat) : Int) = l from h1] at this
        rw [this] at hb
        cases hb
      · rw [nm_no hr] at h1
        rw [← h1, fst_nil] at hc
        cases hc
end Sgn
end
end Go.Proofs.YtechgmohdabkpaaGreatDoor
