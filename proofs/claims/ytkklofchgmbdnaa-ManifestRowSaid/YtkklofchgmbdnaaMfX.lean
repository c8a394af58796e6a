/- Mathematics of Swap on a disk: with room for it, it is done. -/
import Derived.Test.YtkklofchgmbdnaaMfW
namespace Go.Proofs.Ytkklofchgmbdnaa
open Go.RowKit Go.Sort
open Go.Maps
open Crc Frm

theorem length_insert (x : Lit × DataW Fl) : ∀ l : List (Lit × DataW Fl), (DataW.insert x l).length = l.length + 1
  | [] => rfl
  | y :: r => by
    unfold DataW.insert
    split
    · rfl
    · simp [length_insert x r]
theorem size_put_le {D : FS} (h : IsMap D) (k : Lit) (d : DataW Fl) : size (D.put k d) ≤ size D + 1 := by
  obtain ⟨es, rfl⟩ := h
  show (DataW.insert (k, d) (es.filter fun p => !p.1.sameKey k)).length ≤ es.length + 1
  rw [length_insert]
  have := List.length_filter_le (fun p : Lit × DataW Fl => !p.1.sameKey k) es
  omega
theorem size_del_le {D : FS} (h : IsMap D) (k : Lit) : size (D.del k) ≤ size D := by
  obtain ⟨es, rfl⟩ := h
  exact List.length_filter_le (fun p : Lit × DataW Fl => !p.1.sameKey k) es
theorem size_delete {t : St} (h : IsMap t.D) (s : List UInt8) : size (t.delete s).2.D ≤ size t.D := by
  unfold St.delete
  split
  · exact Nat.le_refl _
  split
  · exact Nat.le_refl _
  · exact size_del_le h _
theorem size_sync {t : St} (h : IsMap t.D) (s : List UInt8) : size (t.sync s).2.D ≤ size t.D + 1 := by
  unfold St.sync
  split
  · exact Nat.le_succ _
  split
  · exact Nat.le_succ _
  split
  · exact Nat.le_succ _
  · exact size_put_le h _ _
theorem size_write {t : St} (h : IsMap t.D) (s : List UInt8) (b : List Nat) : size (t.write s b).2.D ≤ size t.D + 1 := by
  unfold St.write
  split
  · exact Nat.le_succ _
  split
  · exact Nat.le_succ _
  split
  · exact Nat.le_succ _
  · exact size_put_le h _ _
theorem size_rename {t : St} (h : IsMap t.D) (s to : List UInt8) : size (t.rename s to).2.D ≤ size t.D + 1 := by
  unfold St.rename
  split
  · exact Nat.le_succ _
  split
  · exact Nat.le_succ _
  split
  · exact Nat.le_succ _
  · have h1 := size_put_le (h.del (.string s)) (.string to) (.held (by assumption))
    have h2 := size_del_le h (.string s)
    exact Nat.le_trans (size_put_le (h.del (.string s)) _ _) (by omega)
theorem size_delNext {t : St} (h : IsMap t.D) : size (delNext t).2.D ≤ size t.D := by
  unfold delNext
  split
  · exact size_delete h _
  · exact Nat.le_refl _
theorem isMap_st4 {t : St} (h : IsMap t.D) (l : List Int) : ∀ k, k ≤ 4 → IsMap (mSt t l k).D
  | 0, _ => h
  | 1, _ => isMap_st h l 1 (by omega)
  | 2, _ => isMap_st h l 2 (by omega)
  | 3, _ => isMap_st h l 3 (by omega)
  | 4, _ => by
    have h3 := isMap_st h l 3 (by omega)
    show IsMap ((mSt t l 3).rename nxL mfL).2.D
    generalize mSt t l 3 = s at *
    unfold St.rename
    split
    · exact h3
    split
    · exact h3
    split
    · exact h3
    · exact (h3.del _).put _ _
theorem size_st {t : St} (h : IsMap t.D) (l : List Int) : ∀ k, k ≤ 4 → size (mSt t l k).D ≤ size t.D + 3
  | 0, _ => by show size t.D ≤ _; omega
  | 1, _ => Nat.le_trans (size_delNext h) (by omega)
  | 2, _ => by
    have h1 := size_delNext h
    have h2 := size_write (isMap_st h l 1 (by omega)) nxL (mPut l)
    exact Nat.le_trans h2 (by show size (delNext t).2.D + 1 ≤ _; omega)
  | 3, _ => by
    have h1 := size_delNext h
    have h2 := size_write (isMap_st h l 1 (by omega)) nxL (mPut l)
    have h3 := size_sync (isMap_st h l 2 (by omega)) nxL
    have e1 : size (mSt t l 1).D = size (delNext t).2.D := rfl
    have e2 : size (mSt t l 2).D = size ((mSt t l 1).write nxL (mPut l)).2.D := rfl
    exact Nat.le_trans h3 (by omega)
  | 4, _ => by
    have h1 := size_delNext h
    have h2 := size_write (isMap_st h l 1 (by omega)) nxL (mPut l)
    have h3 := size_sync (isMap_st h l 2 (by omega)) nxL
    have h4 := size_rename (isMap_st h l 3 (by omega)) nxL mfL
    have e1 : size (mSt t l 1).D = size (delNext t).2.D := rfl
    have e2 : size (mSt t l 2).D = size ((mSt t l 1).write nxL (mPut l)).2.D := rfl
    have e3 : size (mSt t l 3).D = size ((mSt t l 2).sync nxL).2.D := rfl
    have h5 : size (mSt t l 4).D ≤ size (mSt t l 3).D + 1 := h4
    omega
theorem isMap_clean {t : St} (h : IsMap t.D) (x : Int) : IsMap (mClean x t).D := by
  unfold mClean
  split
  · exact isMap_delete h _
  · exact h
theorem size_clean {t : St} (h : IsMap t.D) (x : Int) : size (mClean x t).D ≤ size t.D := by
  unfold mClean
  split
  · exact size_delete h _
  · exact Nat.le_refl _
theorem turn_map {t : St} (h : IsMap t.D) (l : List Int) : ∃ k, k ≤ 4 ∧ (mTurn t l).2 = mSt t l k := by
  rcases turn_cases t l with ⟨k, hk, _, _, h2⟩ | ⟨_, h2⟩
  · exact ⟨k + 1, by omega, by rw [h2]⟩
  · exact ⟨4, by omega, by rw [h2]⟩
theorem size_swap {t : St} (h : IsMap t.D) (l : List Int) : size (mSwap t l).2.D ≤ size t.D + 4 := by
  obtain ⟨k, hk, e⟩ := turn_map h l
  unfold mSwap
  split
  · show size (mClean _ _).D ≤ _
    have h1 := isMap_st4 h l k hk
    have h2 := size_st h l k hk
    rw [e]
    have h3 := size_clean h1 (mTurn t l).1
    omega
  · show size t.D ≤ _
    omega
theorem isMap_swap {t : St} (h : IsMap t.D) (l : List Int) : IsMap (mSwap t l).2.D := by
  obtain ⟨k, hk, e⟩ := turn_map h l
  unfold mSwap
  split
  · show IsMap (mClean _ _).D
    rw [e]
    exact isMap_clean (isMap_st4 h l k hk) _
  · exact h
theorem size_crash (t : St) (ks : List Int) : size (t.crash ks).D = size t.D := by
  rw [← size_names, ← size_names]
  show (strKeys (crD ks _ t.D)).length = _
  rw [names_crD]
theorem room_swap (t : St) (l : List Int) : (mSwap t l).2.room = t.room := by
  have hd : ∀ (s : St) (n : List UInt8), (s.delete n).2.room = s.room := fun s n => by
    unfold St.delete
    repeat' split
    all_goals rfl
  have h1 : (delNext t).2.room = t.room := by
    unfold delNext
    split
    · exact hd _ _
    · rfl
  have hw : ∀ (s : St) (n : List UInt8) (b : List Nat), (s.write n b).2.room = s.room := fun s n b => by
    unfold St.write
    repeat' split
    all_goals rfl
  have hs : ∀ (s : St) (n : List UInt8), (s.sync n).2.room = s.room := fun s n => by
    unfold St.sync
    repeat' split
    all_goals rfl
  have hr : ∀ (s : St) (n m : List UInt8), (s.rename n m).2.room = s.room := fun s n m => by
    unfold St.rename
    repeat' split
    all_goals rfl
  have hst : ∀ k, (mSt t l k).room = t.room := fun k => by
    match k with
    | 0 => rfl
    | 1 => exact h1
    | 2 => exact (hw _ _ _).trans h1
    | 3 => exact (hs _ _).trans ((hw _ _ _).trans h1)
    | k + 4 => exact (hr _ _ _).trans ((hs _ _).trans ((hw _ _ _).trans h1))
  have hc : ∀ (x : Int) (s : St), (mClean x s).room = s.room := fun x s => by
    unfold mClean
    split
    · exact hd _ _
    · rfl
  unfold mSwap
  split
  · show (mClean _ _).room = _
    rw [hc]
    rcases turn_cases t l with ⟨k, _, _, _, h2⟩ | ⟨_, h2⟩
    · rw [h2]; exact hst _
    · rw [h2]; exact hst _
  · rfl
theorem mPut_le {l : List Int} (h : mOk l = true) : (mPut l).length ≤ 165 := by
  have := mOk_all h
  unfold mPut
  rw [if_pos h, mRaw_len]
  omega
/-- What is not done though nothing stands still, or fails, has no room. -/
theorem swap_fits {t : St} (hm : IsMap t.D) (hf : t.fuse = -1) (h0 : t.fails = 0) (hsz : size t.D ≤ 60) {l : List Int} (hok : mOk l = true) (h : (mSwap t l).1 ≠ 0) : t.room < 2 * tot (mSwap t l).2.D + 200 := by
  have hP := mPut_le hok
  -- deleteNext is done
  have hd : (delNext t).1 = 0 ∧ (delNext t).2.fuse = -1 ∧ (delNext t).2.fails = 0 ∧ (delNext t).2.room = t.room := by
    unfold delNext
    split
    · rename_i hs
      unfold St.delete
      rw [if_neg (by rw [hf]; decide)]
      cases hfa : fat t.D nxL with
      | none => rw [hfa] at hs; cases hs
      | some f =>
        refine ⟨rfl, ?_, h0, rfl⟩
        show burn t.fuse = -1
        rw [hf]; rfl
    · exact ⟨rfl, hf, h0, rfl⟩
  have a0 : mAns t l 0 = 0 := hd.1
  have n1 := st_1 t l a0
  have m1 := isMap_st hm l 1 (by omega)
  have z1 : size (mSt t l 1).D ≤ 60 := Nat.le_trans (size_delNext hm) hsz
  by_cases hfit : tot (mSt t l 1).D + (mPut l).length ≤ t.room
  · exfalso
    have hfb : fitsB (mSt t l 1).D (mSt t l 1).room nxL (mPut l).length = true := by
      unfold fitsB
      have e1 : decide (size (mSt t l 1).D < 64) = true := by simp; omega
      have e2 : (mSt t l 1).room = t.room := hd.2.2.2
      rw [e1, e2]
      simp [hfit]
    have w1 : (mSt t l 1).write nxL (mPut l) = (0, { (mSt t l 1).burnt with D := (mSt t l 1).D.put (.string nxL) (.held ⟨((fat (mSt t l 1).D nxL).getD Fl.zero).bs ++ mPut l, ((fat (mSt t l 1).D nxL).getD Fl.zero).l⟩) }) := by
      unfold St.write
      rw [if_neg (by rw [show (mSt t l 1).fuse = -1 from hd.2.1]; decide), if_neg (by decide), hfb, if_neg (by decide)]
    have a1 : mAns t l 1 = 0 := by show ((mSt t l 1).write nxL (mPut l)).1 = 0; rw [w1]
    have f2 : (mSt t l 2).fuse = -1 ∧ (mSt t l 2).fails = 0 := by
      show ((mSt t l 1).write nxL (mPut l)).2.fuse = -1 ∧ ((mSt t l 1).write nxL (mPut l)).2.fails = 0
      rw [w1]
      refine ⟨?_, hd.2.2.1⟩
      show burn (delNext t).2.fuse = -1
      rw [hd.2.1]; rfl
    have n2 := st_2 hm l n1 a1
    have s3 : (mSt t l 2).sync nxL = (0, { (mSt t l 2).burnt with D := (mSt t l 2).D.put (.string nxL) (.held ⟨mPut l, (mPut l).length⟩) }) := by
      unfold St.sync
      rw [if_neg (by rw [f2.1]; decide), n2]
      simp only []
      rw [if_neg (by rw [f2.2]; decide)]
    have a2 : mAns t l 2 = 0 := by show ((mSt t l 2).sync nxL).1 = 0; rw [s3]
    have f3 : (mSt t l 3).fuse = -1 := by
      show ((mSt t l 2).sync nxL).2.fuse = -1
      rw [s3]
      show burn (mSt t l 2).fuse = -1
      rw [f2.1]; rfl
    have n3 := st_3 hm l _ n2 a2
    have a3 : mAns t l 3 = 0 := by
      show ((mSt t l 3).rename nxL mfL).1 = 0
      unfold St.rename
      rw [if_neg (by rw [f3]; decide), if_neg (by decide), n3]
    apply h
    unfold mSwap
    rw [if_pos hok, turn_end t l (fun j hj => by match j, hj with | 0, _ => exact a0 | 1, _ => exact a1 | 2, _ => exact a2 | 3, _ => exact a3)]
  · have hfb : fitsB (mSt t l 1).D (mSt t l 1).room nxL (mPut l).length = false := by
      unfold fitsB
      have e2 : (mSt t l 1).room = t.room := hd.2.2.2
      rw [e2, decide_eq_false hfit, Bool.and_false]
    have w1 : (mSt t l 1).write nxL (mPut l) = (5, (mSt t l 1).burnt) := by
      unfold St.write
      rw [if_neg (by rw [show (mSt t l 1).fuse = -1 from hd.2.1]; decide), if_neg (by decide), if_pos hfb]
    have a1 : mAns t l 1 = 5 := by show ((mSt t l 1).write nxL (mPut l)).1 = 5; rw [w1]
    have ht := turn_stop t l 1 (by omega) (fun j hj => by match j, hj with | 0, _ => exact a0) (by rw [a1]; decide)
    rw [a1] at ht
    have e2 : mSt t l 2 = (mSt t l 1).burnt := by show ((mSt t l 1).write nxL (mPut l)).2 = _; rw [w1]
    have hD : (mSwap t l).2.D = (mSt t l 1).D := by
      unfold mSwap
      rw [if_pos hok, ht]
      show (mClean 5 (mSt t l 2)).D = _
      unfold mClean
      rw [if_pos (by decide), e2]
      unfold St.delete
      rw [show fat (mSt t l 1).burnt.D nxL = none from n1]
      split <;> rfl
    rw [hD]
    omega
end Go.Proofs.Ytkklofchgmbdnaa
