/- The log on a disk, plain mathematics: what lasts is kept by a segment more, laid or not, and so by Append. The log on a disk, plain mathematics: what lasts is kept by Retain, and behind Open all lasts. The log on a disk, plain mathematics: the steps of an Open that is done. The log on a disk, plain mathematics: behind a crash and an Open all lasts again (the heart of P6.2 and P6.3). The log on a disk, plain mathematics: what lasts of a log that begins. Names of segments as the reference makes and reads them: plain mathematics. The log on a disk, plain mathematics: where nothing stands still and no Sync fails, only a write can fail, for want of room. The log as mathematics: what a call leaves, and what Open of a new disk tells. The log on a disk, plain mathematics: Open behind a crash is done, or has no room. What start-up code laid: from the rows' condition to the walks' fact, and the door's own heap. -/
import Derived.Test.YtphjpjlifdabfaaGreatDoorCke
import Derived.Test.YtphjpjlifdabfaaGreatDoorCkk
import Derived.Test.YtphjpjlifdabfaaGreatDoorCkl
import Derived.Test.YtphjpjlifdabfaaGreatDoorRows
import Derived.ProofKit
import Derived.LaidMore
import Derived.LaidHandle
import Derived.OpenShut
import Derived.MakeChecks
import Derived.Lib.LaidTab
import Derived.Stop.LaidErr
namespace Go.Proofs.YtphjpjlifdabfaaGreatDoor
section
set_option linter.unusedSimpArgs false
set_option linter.unusedVariables false
open Go.RowKit Go.Sort Go.Maps
open Crc Frm
open Sgn

theorem fat_rename_other (t : St) {s z s' : List UInt8} (h : s' ≠ s) (h' : s' ≠ z) : fat (t.rename s z).2.D s' = fat t.D s' := by
  unfold St.rename
  by_cases h0 : t.fuse = 0
  · rw [if_pos h0]
  · rw [if_neg h0]
    by_cases h1 : nmOk z = false
    · rw [if_pos h1]; rfl
    · rw [if_neg h1]
      cases hf : fat t.D s with
      | none => rfl
      | some f =>
        show fat ((t.D.del _).put _ _) s' = _
        rw [fat_put_other h', fat_del_other h]
theorem fat_drop_other (t : St) {s s' : List UInt8} (h : s' ≠ s) : fat (t.drop s).2.D s' = fat t.D s' := by
  unfold St.drop
  split
  · exact fat_delete_other t h
  · rfl
theorem fat_swap_other (t : St) (l : List Int) {s : List UInt8} (h1 : s ≠ mfL) (h2 : s ≠ nxL) : fat (mSwap t l).2.D s = fat t.D s := by
  have hd : fat (delNext t).2.D s = fat t.D s := by
    unfold delNext
    split
    · exact fat_delete_other t h2
    · rfl
  have h3 : ∀ k, k ≤ 3 → fat (mSt t l k).D s = fat t.D s := fun k hk => by
    match k, hk with
    | 0, _ => rfl
    | 1, _ => exact hd
    | 2, _ => exact (fat_write_other _ _ h2).trans hd
    | 3, _ => exact (fat_sync_other _ h2).trans ((fat_write_other _ _ h2).trans hd)
  have hs : ∀ k, fat (mSt t l k).D s = fat t.D s := fun k => by
    match k with
    | 0 => exact h3 0 (by decide)
    | 1 => exact h3 1 (by decide)
    | 2 => exact h3 2 (by decide)
    | 3 => exact h3 3 (by decide)
    | k + 4 => exact (fat_rename_other (mSt t l 3) h2 h1).trans (h3 3 (by decide))
  unfold mSwap
  split
  · have ht : fat (mTurn t l).2.D s = fat t.D s := by
      rcases turn_cases t l with ⟨k, _, _, _, e⟩ | ⟨_, e⟩ <;> rw [e] <;> exact hs _
    show fat (mClean _ _).D s = _
    unfold mClean
    split
    · exact (fat_delete_other _ h2).trans ht
    · exact ht
  · rfl
/-- The file of a segment ahead of its Swap. -/
def lgPre (t : St) (first : Int) : Int × St := thenSt (thenSt (t.drop (nm first)) fun t => t.write (nm first) (hdo first)) fun t => t.sync (nm first)
theorem pre_map {t : St} (h : IsMap t.D) (first : Int) : IsMap (lgPre t first).2.D :=
  thenSt_keep (P := fun t => IsMap t.D) (thenSt_keep (P := fun t => IsMap t.D) (isMap_drop h _) fun _ h => isMap_write h _ _) fun _ h => isMap_sync h _
theorem pre_other (t : St) (first : Int) {s : List UInt8} (h : s ≠ nm first) : fat (lgPre t first).2.D s = fat t.D s :=
  thenSt_keep (P := fun u => fat u.D s = fat t.D s) (thenSt_keep (P := fun u => fat u.D s = fat t.D s) (fat_drop_other t h) fun u hu => (fat_write_other u _ h).trans hu) fun u hu => (fat_sync_other u h).trans hu
theorem pre_yes {t : St} (h : IsMap t.D) (first : Int) (hr : 0 ≤ first ∧ first ≤ 1073741824) (h0 : (lgPre t first).1 = 0) : fat (lgPre t first).2.D (nm first) = some ⟨head first.toNat, (head first.toNat).length⟩ := by
  unfold lgPre at *
  obtain ⟨a1, e1, a2⟩ := thenSt_yes h0
  obtain ⟨b1, e2, b2⟩ := thenSt_yes a1
  have hm := isMap_drop h (nm first)
  have hn : fat (t.drop (nm first)).2.D (nm first) = none := by
    have := fb_drop_yes _ b1
    unfold St.fb at this
    exact Option.map_eq_none_iff.1 this
  have hw := write_yes hm _ _ b2
  rw [hn] at hw
  rw [e1]
  rw [e2] at a2 ⊢
  obtain ⟨f, hf, hf'⟩ := sync_yes (isMap_write hm _ _) _ a2
  rw [hw] at hf
  have := Option.some.inj hf
  subst this
  rw [hf']
  unfold hdo
  rw [if_pos hr]
  rfl
theorem try_pre (g : Lg) (t : St) (first : Int) : lgTry g t first = thenSt (lgPre t first) fun t => mSwap t (g.segs ++ [first]) := rfl
theorem try_fat_other (g : Lg) (t : St) (first : Int) {s : List UInt8} (h1 : s ≠ nm first) (h2 : s ≠ mfL) (h3 : s ≠ nxL) : fat (lgTry g t first).2.D s = fat t.D s :=
  thenSt_keep (P := fun u => fat u.D s = fat t.D s) (pre_other t first h1) fun u hu => (fat_swap_other u _ h2 h3).trans hu
theorem try_no (g : Lg) (t : St) (first : Int) (hr : 0 ≤ first ∧ first ≤ 1073741824) (h : (lgTry g t first).1 ≠ 0) : fat (lgTry g t first).2.D mfL = fat t.D mfL := by
  have hne : mfL ≠ nm first := fun e => nm_ne_mf first hr e.symm
  rw [try_pre] at *
  by_cases hp : (lgPre t first).1 = 0
  · have e : thenSt (lgPre t first) (fun t => mSwap t (g.segs ++ [first])) = mSwap (lgPre t first).2 (g.segs ++ [first]) := by unfold thenSt; rw [if_neg (by simp [hp])]
    rw [e] at h ⊢
    rw [swap_keeps _ _ h, pre_other t first hne]
  · have e : thenSt (lgPre t first) (fun t => mSwap t (g.segs ++ [first])) = lgPre t first := by unfold thenSt; rw [if_pos hp]
    rw [e, pre_other t first hne]
/-- A segment more, or none: what lasted lasts. -/
theorem LDur.lay {g : Lg} {t : St} {fs : List Fr} {S : Int} (h : LDur g t fs S) (hfull : ∃ f, fat t.D (lgLast g) = some f ∧ f.l = f.bs.length) (hlt : g.segs.getLastD 0 < g.next) (hn : g.next ≤ 1073741824) :
    LDur (lgLay g t g.next).2.2 (lgLay g t g.next).2.1 fs S := by
  have hinv := (h.inv.lay hlt hn).1
  have h0 := (h.range h.inv.chain.mem_last).1
  have hr : 0 ≤ g.next ∧ g.next ≤ 1073741824 := ⟨by omega, hn⟩
  have hne : ∀ x ∈ g.segs, nm x ≠ nm g.next := fun x hx e => by
    have := nm_inj (h.range hx) hr e
    have := h.inv.chain.le_last x hx
    omega
  have hmn : mfL ≠ nm g.next := fun e => nm_ne_mf _ hr e.symm
  have hoth : ∀ x ∈ g.segs, fat (lgTry g t g.next).2.D (nm x) = fat t.D (nm x) := fun x hx => try_fat_other g t _ (hne x hx) (nm_ne_mf x (h.range hx)) (nm_ne_nx x (h.range hx))
  have hmap := try_map (g := g) h.inv.map g.next
  unfold lgLay at *
  simp only at *
  by_cases e : (lgTry g t g.next).1 = 0
  · rw [if_pos e] at hinv ⊢
    have e0 := e
    rw [try_pre] at e0
    obtain ⟨a1, a2, a3⟩ := thenSt_yes e0
    obtain ⟨s1, s2⟩ := swap_done (pre_map h.inv.map g.next) _ a3
    have hnew : fat (lgTry g t g.next).2.D (nm g.next) = some ⟨head g.next.toNat, (head g.next.toNat).length⟩ := by
      rw [try_pre, a2, fat_swap_other _ _ (nm_ne_mf _ hr) (nm_ne_nx _ hr)]
      exact pre_yes h.inv.map _ hr a1
    have hl : (g.segs ++ [g.next]).getLastD 0 = g.next := by simp [List.getLastD_eq_getLast?]
    refine ⟨hinv, s1, by rw [try_pre, a2]; exact s2, fun x hx hx' => ?_, ?_⟩
    · rw [hl] at hx'
      have hx2 : x ∈ g.segs := by
        rcases List.mem_append.1 hx with hx | hx
        · exact hx
        · exact absurd (by simpa using hx) hx'
      rw [hoth x hx2]
      by_cases hxl : x = g.segs.getLastD 0
      · rw [hxl]; exact hfull
      · exact h.done x hx2 hxl
    · rw [hl]
      have := h.le_next
      exact ⟨_, [], 0, hnew, Seg.new hr (by unfold St.fb; rw [hnew]; rfl), by rw [head_len]; exact Nat.le_refl _, Nat.le_refl _, by rw [head_len]; exact Nat.le_refl _, by omega⟩
  · rw [if_neg e] at hinv ⊢
    have hmf := try_no g t g.next hr e
    by_cases e2 : (lgTry g t g.next).1 = 42
    · rw [if_pos e2]
      exact h.keep hmap hoth hmf
    · rw [if_neg e2]
      exact h.keep (isMap_delete hmap _) (fun x hx => (fat_delete_other _ (hne x hx)).trans (hoth x hx)) ((fat_delete_other _ hmn).trans hmf)
theorem LDur.room {g : Lg} {t : St} {fs : List Fr} {S : Int} (h : LDur g t fs S) (size more : Nat) (hn : g.next ≤ 1073741824) : LDur (lgRoom size g t more).2.2 (lgRoom size g t more).2.1 fs S := by
  unfold lgRoom
  by_cases h1 : lgFull size g t more = false
  · rw [if_pos h1]; exact h
  · rw [if_neg h1]
    by_cases h2 : 40 ≤ g.segs.length
    · rw [if_pos h2]; exact h
    · rw [if_neg h2]
      simp only
      have hs := h.sync
      unfold lgSync at hs
      by_cases h3 : (t.sync (lgLast g)).1 ≠ 0
      · rw [if_pos h3]; exact hs.2 h3
      · rw [if_neg h3]
        obtain ⟨q1, q2⟩ := hs.1 (by simpa using h3)
        have h1 : lgFull size g t more = true := by simpa using h1
        unfold lgFull at h1
        have hS : LDur g (t.sync (lgLast g)).2 fs S := by
          obtain ⟨f, b, p, r1, r2, r3, r4, r5, r6⟩ := q1.last
          have := h.le_next
          exact ⟨q1.inv, q1.ok, q1.list, q1.done, f, b, p, r1, r2, r3, r4, r5, by omega⟩
        exact hS.lay q2 (of_decide_eq_true (Bool.and_eq_true_iff.1 h1).1) hn
/-- Append: what lasted lasts. -/
theorem LDur.append {g : Lg} {t : St} {fs : List Fr} {S : Int} (h : LDur g t fs S) (size : Nat) (kind : Int) (body : List Nat) :
    ((lgAppend size g t kind body).1.2 ≠ 0 → LDur (lgAppend size g t kind body).2.2 (lgAppend size g t kind body).2.1 fs S) ∧
    ((lgAppend size g t kind body).1.2 = 0 → LDur (lgAppend size g t kind body).2.2 (lgAppend size g t kind body).2.1 (fs ++ [⟨kind, g.next, body⟩]) S) := by
  unfold lgAppend
  simp only
  by_cases hr : (⟨kind, g.next, body⟩ : Fr).right
  · rw [if_neg (by simpa using hr)]
    have hl := h.room size (put ⟨kind, g.next, body⟩).length hr.2.2.2.1
    have hnx := (h.inv.room size (put ⟨kind, g.next, body⟩).length hr.2.2.2.1).2
    have hput : put ⟨kind, g.next, body⟩ = raw ⟨kind, g.next, body⟩ := by unfold put; rw [if_pos hr]
    generalize lgRoom size g t (put ⟨kind, g.next, body⟩).length = r at *
    obtain ⟨re, rt, rg⟩ := r
    simp only at *
    by_cases h1 : re ≠ 0
    · rw [if_pos h1]
      exact ⟨fun _ => hl, fun e => absurd e h1⟩
    · rw [if_neg h1]
      by_cases h2 : (rt.write (lgLast rg) (put ⟨kind, g.next, body⟩)).1 ≠ 0
      · rw [if_pos h2]
        exact ⟨fun _ => hl.keep (isMap_write hl.inv.map _ _) (fun x _ => write_no _ _ _ _ h2) (write_no _ _ _ _ h2), fun e => absurd e h2⟩
      · rw [if_neg h2]
        refine ⟨fun e => absurd rfl e, fun _ => ?_⟩
        rw [hput] at h2 ⊢
        have := hl.written hr hnx.symm (by simpa using h2)
        rw [hnx] at this
        exact this
  · rw [if_pos (by simpa using hr)]
    exact ⟨fun _ => h, fun e => absurd (show (1 : Int) = 0 from e) (by decide)⟩
end
section
set_option linter.unusedSimpArgs false
set_option linter.unusedVariables false
open Go.RowKit Go.Sort Go.Maps
open Crc Frm
open Sgn

theorem delEach_fat : ∀ (l : List (List UInt8)) (e : Int) (t : St) {s : List UInt8}, s ∉ l → fat (delEach l e t).2.D s = fat t.D s
  | [], _, _, _, _ => rfl
  | x :: l, e, t, s, h => by
    show fat (delEach l _ (t.delete x).2).2.D s = _
    rw [delEach_fat l _ _ (fun hm => h (by simp [hm])), fat_delete_other t (fun e => h (by simp [e]))]
theorem last_drop : ∀ (l : List Int) (k : Nat), k < l.length → (l.drop k).getLastD 0 = l.getLastD 0
  | l, 0, _ => rfl
  | [], k + 1, h => absurd h (by simp)
  | [x], k + 1, h => absurd h (by simp)
  | x :: y :: l, k + 1, h => by
    show ((y :: l).drop k).getLastD 0 = (y :: l).getLastD 0
    exact last_drop (y :: l) k (by simpa using h)
/-- Retain: what lasted lasts, but for what is gone. -/
theorem LDur.retain {g : Lg} {t : St} {fs : List Fr} {S : Int} (h : LDur g t fs S) (seq : Int) : ∃ a b, fs = a ++ b ∧ LDur (lgRetain g t seq).2.2 (lgRetain g t seq).2.1 b S := by
  obtain ⟨_, a, b, _, _, hfs, hi, _, _⟩ := h.inv.retain seq
  unfold lgRetain at *
  by_cases h0 : lgGone g seq = 0
  · rw [if_pos h0]
    exact ⟨[], fs, rfl, h⟩
  · rw [if_neg h0] at hi ⊢
    simp only at hi ⊢
    have hlt := lgGone_ltM h.inv.chain.ne seq
    generalize lgGone g seq = k at *
    have hsw : ∀ x ∈ g.segs, fat (mSwap t (g.segs.drop k)).2.D (nm x) = fat t.D (nm x) := fun x hx => fat_swap_other _ _ (nm_ne_mf x (h.range hx)) (nm_ne_nx x (h.range hx))
    have hms : IsMap (mSwap t (g.segs.drop k)).2.D := isMap_swap h.inv.map _
    by_cases h1 : (mSwap t (g.segs.drop k)).1 ≠ 0
    · rw [if_pos h1]
      exact ⟨[], fs, rfl, h.keep hms hsw (swap_keeps _ _ h1)⟩
    · rw [if_neg h1] at hi ⊢
      obtain ⟨s1, s2⟩ := swap_done h.inv.map _ (by simpa using h1)
      have hl : (g.segs.drop k).getLastD 0 = g.segs.getLastD 0 := last_drop _ _ hlt
      have hnot : ∀ y ∈ g.segs.drop k, nm y ∉ (g.segs.take k).map nm := fun y hy hm => by
        obtain ⟨x, hx, e⟩ := List.mem_map.1 hm
        have hxy := nm_inj (h.range (List.mem_of_mem_take hx)) (h.range (List.mem_of_mem_drop hy)) e
        have hp := h.inv.chain.up
        rw [← List.take_append_drop k g.segs] at hp
        have := (List.pairwise_append.1 hp).2.2 x hx y hy
        omega
      have hall : ∀ y ∈ g.segs.drop k, fat (delEach ((g.segs.take k).map nm) 0 (mSwap t (g.segs.drop k)).2).2.D (nm y) = fat t.D (nm y) := fun y hy =>
        (delEach_fat _ _ _ (hnot y hy)).trans (hsw y (List.mem_of_mem_drop hy))
      have hlm : g.segs.getLastD 0 ∈ g.segs.drop k := by
        rw [← hl, List.getLastD_eq_getLast?, List.getLast?_eq_some_getLast (by intro e; have := congrArg List.length e; simp at this; omega)]
        exact List.getLast_mem _
      obtain ⟨f, c, p, r1, r2, r3⟩ := h.last
      refine ⟨a, b, hfs, hi, s1, ?_, fun x hx hne => ?_, f, c, p, ?_, ?_, ?_⟩
      · have hmf : mfL ∉ (g.segs.take k).map nm := fun hm => by
          obtain ⟨x, hx, e⟩ := List.mem_map.1 hm
          exact nm_ne_mf x (h.range (List.mem_of_mem_take hx)) e
        unfold Has
        rw [delEach_fat _ _ _ hmf]
        exact s2
      · rw [hl] at hne
        rw [hall x hx]
        exact h.done x (List.mem_of_mem_drop hx) hne
      · show fat _ (nm ((g.segs.drop k).getLastD 0)) = _
        rw [hl, hall _ hlm]
        exact r1
      · show Seg _ ((g.segs.drop k).getLastD 0) c
        rw [hl]
        exact r2.keep (by unfold St.fb; rw [hall _ hlm])
      · show _ ∧ _ ∧ _ ∧ S ≤ (g.segs.drop k).getLastD 0 + _
        rw [hl]
        exact r3
end
section
set_option linter.unusedSimpArgs false
set_option linter.unusedVariables false
open Go.RowKit Go.Sort Go.Maps
open Crc Frm
open Sgn

theorem open_steps {t' : St} {l : List Int} {g0 g : Lg} {good : Option (List Nat)} {size : Int} (hl : (mLoad t').1 = l) (hne : l ≠ []) (q4 : lgFind t' l ⟨[], 0⟩ = (g0, good)) (hsg : g0.segs = l) (ho : (lgOpen size t').2.2 = some g) :
    g = g0 ∧ (lgMend g0 good t').1 = 0 ∧ (lgSync g0 (lgClean g0 (lgMend g0 good t').2).2).1 = 0 ∧ (lgOpen size t').2.1 = (((lgSync g0 (lgClean g0 (lgMend g0 good t').2).2).2.drop fxL).2.drop nxL).2 := by
  have hrs : lgRestore t' = (let s := thenSt (thenSt (thenSt (0, t') (lgMend g0 good)) (lgClean g0)) (lgSync g0); (s.1, s.2, g0)) := by
    unfold lgRestore
    rw [hl]
    simp only
    rw [q4]
    simp only
    rw [if_neg (by rw [hsg]; exact hne), if_pos (by rw [hsg])]
  unfold lgOpen at *
  by_cases hs : size < 64 ∨ 65536 < size
  · rw [if_pos hs] at ho; cases ho
  · rw [if_neg hs] at ho ⊢
    simp only at ho ⊢
    rw [hrs] at ho ⊢
    simp only at ho ⊢
    generalize hR : thenSt (thenSt (thenSt (0, t') (lgMend g0 good)) (lgClean g0)) (lgSync g0) = R at ho ⊢
    by_cases he : (thenSt (thenSt (R.1, R.2) fun t => t.drop fxL) fun t => t.drop nxL).1 ≠ 0
    · rw [if_pos he] at ho; cases ho
    · rw [if_neg he] at ho ⊢
      have he : (thenSt (thenSt (R.1, R.2) fun t => t.drop fxL) fun t => t.drop nxL).1 = 0 := by simpa using he
      obtain ⟨a1, e1, _⟩ := thenSt_yes he
      obtain ⟨a2, e2, _⟩ := thenSt_yes a1
      have hR0 : R.1 = 0 := a2
      rw [← hR] at hR0
      obtain ⟨c1, k1, c2⟩ := thenSt_yes hR0
      obtain ⟨d1, k2, _⟩ := thenSt_yes c1
      have k3 : thenSt (0, t') (lgMend g0 good) = lgMend g0 good t' := by unfold thenSt; rw [if_neg (by simp)]
      rw [k2] at c2
      rw [k3] at d1 c2
      have hR2 : R.2 = (lgSync g0 (lgClean g0 (lgMend g0 good t').2).2).2 := by rw [← hR, k1, k2, k3]
      refine ⟨(Option.some.inj ho).symm, d1, c2, ?_⟩
      show (thenSt (thenSt (R.1, R.2) fun t => t.drop fxL) fun t => t.drop nxL).2 = _
      rw [e1, e2]
      show ((R.2.drop fxL).2.drop nxL).2 = _
      rw [hR2]
theorem delAll_fat : ∀ (l : List (List UInt8)) (t : St) {s : List UInt8}, s ∉ l → fat (delAll l t).2.D s = fat t.D s
  | [], _, _, _ => rfl
  | x :: l, t, s, h => thenSt_keep (P := fun u => fat u.D s = fat t.D s) (fat_delete_other t (fun e => h (by simp [e]))) (fun u hu => (delAll_fat l u (fun hm => h (by simp [hm]))).trans hu)
theorem clean_fat (g : Lg) (t : St) {s : List UInt8} (h : (fst s).2 = false ∨ (fst s).1 ∈ g.segs) : fat (lgClean g t).2.D s = fat t.D s := by
  refine delAll_fat _ t (fun hm => ?_)
  have := (List.mem_filter.1 hm).2
  rcases h with h | h
  · rw [h] at this; simp at this
  · simp [h] at this
theorem fat_mend_other (g : Lg) (good : Option (List Nat)) (t : St) {s : List UInt8} (h1 : s ≠ fxL) (h2 : s ≠ lgLast g) : fat (lgMend g good t).2.D s = fat t.D s := by
  cases good with
  | none => rfl
  | some b =>
    exact thenSt_keep (P := fun u => fat u.D s = fat t.D s) (r := thenSt (thenSt (t.drop fxL) fun t => t.write fxL b) fun t => t.sync fxL) (f := fun t => t.rename fxL (lgLast g))
      (thenSt_keep (P := fun u => fat u.D s = fat t.D s) (thenSt_keep (P := fun u => fat u.D s = fat t.D s) (fat_drop_other t h1) fun u hu => (fat_write_other u _ h1).trans hu) fun u hu => (fat_sync_other u h1).trans hu)
      fun u hu => (fat_rename_other u h1 h2).trans hu
/-- A file that an Open leaves as it is. -/
theorem open_other {t' : St} {l : List Int} {g0 g : Lg} {good : Option (List Nat)} {size : Int} (hl : (mLoad t').1 = l) (hne : l ≠ []) (q4 : lgFind t' l ⟨[], 0⟩ = (g0, good)) (hsg : g0.segs = l) (ho : (lgOpen size t').2.2 = some g) {s : List UInt8}
    (h1 : s ≠ fxL) (h2 : s ≠ nxL) (h3 : s ≠ lgLast g0) (h4 : (fst s).2 = false ∨ (fst s).1 ∈ l) : fat (lgOpen size t').2.1.D s = fat t'.D s := by
  obtain ⟨_, _, _, e⟩ := open_steps hl hne q4 hsg ho
  rw [e, fat_drop_other _ h2, fat_drop_other _ h1]
  unfold lgSync
  rw [fat_sync_other _ h3, clean_fat g0 _ (by rw [hsg]; exact h4), fat_mend_other g0 good t' h1 h3]
/-- The last segment's file lasts behind an Open. -/
theorem open_last {t' : St} (hm : IsMap t'.D) {l : List Int} {g0 g : Lg} {good : Option (List Nat)} {size : Int} (hl : (mLoad t').1 = l) (hne : l ≠ []) (q4 : lgFind t' l ⟨[], 0⟩ = (g0, good)) (hsg : g0.segs = l) (ho : (lgOpen size t').2.2 = some g)
    (h1 : lgLast g0 ≠ fxL) (h2 : lgLast g0 ≠ nxL) : ∃ f, fat (lgOpen size t').2.1.D (lgLast g0) = some f ∧ f.l = f.bs.length := by
  obtain ⟨_, _, hs, e⟩ := open_steps hl hne q4 hsg ho
  obtain ⟨f, _, hf⟩ := sync_yes (clean_map g0 (mend_map hm)) _ hs
  rw [e, fat_drop_other _ h2, fat_drop_other _ h1]
  exact ⟨_, hf, rfl⟩
end
section
set_option linter.unusedSimpArgs false
set_option linter.unusedVariables false
open Go.RowKit Go.Sort Go.Maps
open Crc Frm
open Sgn

theorem LDur.reopen {g : Lg} {t : St} {fs : List Fr} {S : Int} (h : LDur g t fs S) (hG : Good t.D t.room) (ks : List Int) (hm' : IsMap (t.crash ks).D) {size : Int} {g' : Lg} (ho : (lgOpen size (t.crash ks)).2.2 = some g') :
    ∃ fs' rest, fs = fs' ++ rest ∧ g'.segs = g.segs ∧ S ≤ g'.next ∧ LDur g' (lgOpen size (t.crash ks)).2.1 fs' g'.next := by
  obtain ⟨fs', rest, e1, e2, e3, hi⟩ := h.crash hG ks hm' ho
  obtain ⟨f, b0, p, hf, hs0, h12, hp, hpe, hS⟩ := h.last
  obtain ⟨m, m1, m2, m3⟩ := crash_some hG ks hf
  have hl : (mLoad (t.crash ks)).1 = g.segs := by rw [load_has h.ok (has_crash hG ks h.list)]
  have hb : t.bytes (nm (g.segs.getLastD 0)) = f.bs := by unfold St.bytes; rw [hf]; rfl
  have hdn : ∀ x ∈ g.segs, x ≠ g.segs.getLastD 0 → ∃ fx, fat t.D (nm x) = some fx ∧ fat (t.crash ks).D (nm x) = some ⟨fx.bs, fx.bs.length⟩ := fun x hx hne => by
    obtain ⟨fx, hfx, hfl⟩ := h.done x hx hne
    obtain ⟨k, k1, k2, k3⟩ := crash_some hG ks hfx
    rw [show k = fx.bs.length from by omega, List.take_length] at k3
    exact ⟨fx, hfx, k3⟩
  obtain ⟨a, b, j, good, _, _, _, _, q4, _, _⟩ := find_chain (t' := t.crash ks) m (by omega) h.inv.chain (fun x hx hne => by
      obtain ⟨fx, hfx, hfy⟩ := hdn x hx hne
      unfold St.fb
      rw [hfx, hfy]
      rfl) (by rw [hb]; unfold St.fb; rw [m3]; rfl) (by rw [hb]; exact m2) ⟨[], 0⟩ (.inl rfl)
  rw [List.nil_append] at q4
  obtain ⟨g0, hg0⟩ : ∃ g0 : Lg, g0 = ⟨g.segs, g.segs.headD 0 + ((a.length + j : Nat) : Int)⟩ := ⟨_, rfl⟩
  rw [← hg0] at q4
  have hsg : g0.segs = g.segs := by rw [hg0]
  have hgg := (open_steps hl h.inv.chain.ne q4 hsg ho).1
  have hlast : lgLast g0 = lgLast g := by unfold lgLast; rw [hsg]
  have hrl := h.range h.inv.chain.mem_last
  refine ⟨fs', rest, e1, e2, e3, hi, by rw [e2]; exact h.ok, ?_, fun x hx hne => ?_, ?_⟩
  · unfold Has
    rw [open_other hl h.inv.chain.ne q4 hsg ho (by decide) (by decide) (by rw [hlast]; exact fun e => nm_ne_mf _ hrl e.symm) (.inl (by decide +kernel)), e2]
    exact has_crash hG ks h.list
  · rw [e2] at hx hne
    have hr := h.range hx
    obtain ⟨fx, _, hfy⟩ := hdn x hx hne
    rw [open_other hl h.inv.chain.ne q4 hsg ho (nm_ne_fx x hr) (nm_ne_nx x hr) (by rw [hlast]; exact h.ne_last hx hne) (.inr (by rw [fst_nm hr.1 hr.2]; exact hx)), hfy]
    exact ⟨_, rfl, rfl⟩
  · obtain ⟨f2, hf2, hfl⟩ := open_last hm' hl h.inv.chain.ne q4 hsg ho (by rw [hlast]; exact nm_ne_fx _ hrl) (by rw [hlast]; exact nm_ne_nx _ hrl)
    rw [hlast] at hf2
    obtain ⟨b2, r1, r2⟩ := hi.chain.last_seg
    have hbs : f2.bs = head (g'.segs.getLastD 0).toNat ++ rows b2 := by
      have := r1.bytes
      unfold St.bytes at this
      rw [e2, show fat (lgOpen size (t.crash ks)).2.1.D (nm (g.segs.getLastD 0)) = some f2 from hf2] at this
      rw [e2]
      exact this
    have hlen : f2.bs.length = 12 + ends b2 b2.length := by rw [hbs, List.length_append, head_len, rows_len_ends]
    exact ⟨f2, b2, b2.length, by rw [e2]; exact hf2, r1, by omega, Nat.le_refl _, by omega, by omega⟩
end
section
set_option linter.unusedSimpArgs false
set_option linter.unusedVariables false
open Go.RowKit Go.Sort Go.Maps
open Crc Frm
open Sgn

theorem LDur.drop_ {g : Lg} {t : St} {fs : List Fr} {S : Int} (h : LDur g t fs S) {s : List UInt8} (hs : ∀ x, 0 ≤ x ∧ x ≤ 1073741824 → nm x ≠ s) (h2 : mfL ≠ s) : LDur g (t.drop s).2 fs S :=
  h.keep (isMap_drop h.inv.map s) (fun x hx => fat_drop_other _ (hs x (h.range hx))) (fat_drop_other _ h2)
theorem lay_begins_dur {t : St} (hm : IsMap t.D) (h : (lgLay ⟨[], 0⟩ t 0).1 = 0) : LDur (lgLay ⟨[], 0⟩ t 0).2.2 (lgLay ⟨[], 0⟩ t 0).2.1 [] 0 := by
  have hi := (lay_begins hm h).1
  unfold lgLay at *
  simp only at *
  by_cases e : (lgTry ⟨[], 0⟩ t 0).1 = 0
  · rw [if_pos e] at hi ⊢
    have e0 := e
    rw [try_pre] at e0
    obtain ⟨a1, a2, a3⟩ := thenSt_yes e0
    obtain ⟨s1, s2⟩ := swap_done (pre_map hm 0) _ a3
    have hr : (0 : Int) ≤ 0 ∧ (0 : Int) ≤ 1073741824 := ⟨by decide, by decide⟩
    have hnew : fat (lgTry ⟨[], 0⟩ t 0).2.D (nm 0) = some ⟨head 0, (head 0).length⟩ := by
      rw [try_pre, a2, fat_swap_other _ _ (nm_ne_mf _ hr) (nm_ne_nx _ hr)]
      exact pre_yes hm _ hr a1
    have hseg : Seg (lgTry ⟨[], 0⟩ t 0).2 0 [] := Seg.new hr (by unfold St.fb; rw [hnew]; rfl)
    exact ⟨hi, s1, by rw [try_pre, a2]; exact s2, fun x hx hne => absurd (by simpa using hx) hne,
      ⟨_, [], 0, hnew, hseg, by rw [head_len]; exact Nat.le_refl _, Nat.le_refl _, by rw [head_len]; exact Nat.le_refl _, show (0 : Int) ≤ 0 + ((0 : Nat) : Int) from by decide⟩⟩
  · rw [if_neg e] at h
    by_cases e2 : (lgTry ⟨[], 0⟩ t 0).1 = 42
    · rw [if_pos e2] at h; exact absurd (show (42 : Int) = 0 from h) (by decide)
    · rw [if_neg e2] at h; exact absurd h e
/-- Open of a disk that has no list: all that there is (nothing) lasts. -/
theorem open_begins_dur {size : Int} {t : St} {g : Lg} (hm : IsMap t.D) (hl : (mLoad t).1 = []) (h : (lgOpen size t).2.2 = some g) (hc : (lgClean ⟨[], 0⟩ t).2 = t ∧ (lgClean ⟨[], 0⟩ t).1 = 0) : LDur g (lgOpen size t).2.1 [] 0 := by
  have hrs : lgRestore t = lgLay ⟨[], 0⟩ t 0 := by
    have h2 : ¬ (lgClean ⟨[], 0⟩ t).1 ≠ 0 := by rw [hc.2]; decide
    unfold lgRestore
    rw [hl]
    show (if ([] : List Int) = [] then _ else _) = _
    rw [if_pos rfl]
    show (if (lgClean ⟨[], 0⟩ t).1 ≠ 0 then _ else lgLay ⟨[], 0⟩ (lgClean ⟨[], 0⟩ t).2 0) = _
    rw [if_neg h2, hc.1]
  unfold lgOpen at *
  by_cases hs : size < 64 ∨ 65536 < size
  · rw [if_pos hs] at h; cases h
  · rw [if_neg hs] at h ⊢
    simp only at h ⊢
    rw [hrs] at h ⊢
    by_cases he : (thenSt (thenSt ((lgLay ⟨[], 0⟩ t 0).1, (lgLay ⟨[], 0⟩ t 0).2.1) fun t => t.drop fxL) fun t => t.drop nxL).1 ≠ 0
    · rw [if_pos he] at h; cases h
    · rw [if_neg he] at h ⊢
      have he : (thenSt (thenSt ((lgLay ⟨[], 0⟩ t 0).1, (lgLay ⟨[], 0⟩ t 0).2.1) fun t => t.drop fxL) fun t => t.drop nxL).1 = 0 := by simpa using he
      obtain ⟨a1, e1, _⟩ := thenSt_yes he
      obtain ⟨a2, e2, _⟩ := thenSt_yes a1
      have hd := lay_begins_dur hm a2
      have hgg : g = (lgLay ⟨[], 0⟩ t 0).2.2 := (Option.some.inj h).symm
      rw [hgg]
      show LDur _ (thenSt _ _).2 [] 0
      rw [e1, e2]
      exact (hd.drop_ nm_ne_fx (by decide)).drop_ nm_ne_nx (by decide)
end
section
namespace Sgn
set_option linter.unusedSimpArgs false
set_option linter.unusedVariables false
open Go.Lib

/-- The last k digits. -/
def pad : Nat → Nat → List UInt8
  | 0, _ => []
  | k + 1, u => pad k (u / 10) ++ [UInt8.ofNat (48 + u % 10)]
theorem pad_len : ∀ k u, (pad k u).length = k
  | 0, _ => rfl
  | k + 1, u => by simp [pad, pad_len k]
theorem pad_cons : ∀ k u, pad (k + 1) u = UInt8.ofNat (48 + u / 10 ^ k % 10) :: pad k u
  | 0, u => by simp [pad]
  | k + 1, u => by
    have ih := pad_cons k (u / 10)
    rw [pad, ih]
    have e : u / 10 / 10 ^ k = u / 10 ^ (k + 1) := by rw [Nat.div_div_eq_div_mul, Nat.pow_succ, Nat.mul_comm]
    rw [e]
    rfl
theorem nDigits_pos (u : Nat) : 1 ≤ nDigits u := by
  by_cases h : u < 10
  · rw [nDigits_small h]; exact Nat.le_refl _
  · rw [nDigits_big h]; omega
theorem repeat_snoc (k : Nat) : repeatL [48] (k + 1) = repeatL [48] k ++ [48] := by rw [repeatL_add]; rfl
theorem pad_zero : ∀ k, pad k 0 = repeatL [48] k
  | 0 => rfl
  | k + 1 => by rw [pad, repeat_snoc, Nat.zero_div, pad_zero k]; rfl
theorem pad_dec : ∀ k u, nDigits u ≤ k → pad k u = repeatL [48] (k - nDigits u) ++ decDigits u
  | 0, u, h => by have := nDigits_pos u; omega
  | k + 1, u, h => by
    by_cases h9 : u < 10
    · rw [pad, nDigits_small h9, show u / 10 = 0 from by omega, pad_zero, decDigits, dif_pos h9, show u % 10 = u from by omega]
      rfl
    · rw [nDigits_big h9] at h ⊢
      have e : decDigits u = decDigits (u / 10) ++ [UInt8.ofNat (48 + u % 10)] := by rw [decDigits, dif_neg h9]
      rw [pad, pad_dec k (u / 10) (by omega), e, List.append_assoc, show k + 1 - (nDigits (u / 10) + 1) = k - nDigits (u / 10) from by omega]
theorem nm_pad {u : Nat} (h : u ≤ 1073741824) : nm (u : Int) = 115 :: pad 10 u := by
  unfold nm
  rw [if_pos ⟨by omega, by omega⟩, itoa_nonneg, decDigits_length, pad_dec 10 u (nDigits_le 9 u (by omega))]

/-- What digits count. -/
def val10 (l : List UInt8) : Nat := l.foldl (fun a c => a * 10 + (c.toNat - 48)) 0
theorem val_snocM (l : List UInt8) (c : UInt8) : val10 (l ++ [c]) = val10 l * 10 + (c.toNat - 48) := by simp [val10]
def digs (l : List UInt8) : Prop := ∀ c ∈ l, 48 ≤ c.toNat ∧ c.toNat ≤ 57
theorem dig_val (d : Nat) (h : d < 10) : (UInt8.ofNat (48 + d)).toNat = 48 + d := by simp; omega
theorem val_pad : ∀ k u, u < 10 ^ k → val10 (pad k u) = u
  | 0, u, h => by simp [val10, pad] at *; omega
  | k + 1, u, h => by
    rw [pad, val_snocM, val_pad k (u / 10) (by rw [Nat.pow_succ] at h; omega), dig_val _ (Nat.mod_lt _ (by decide))]
    omega
theorem pad_digs : ∀ k u, digs (pad k u)
  | 0, _ => by intro c hc; cases hc
  | k + 1, u => by
    intro c hc
    rw [pad] at hc
    rcases List.mem_append.1 hc with hc | hc
    · exact pad_digs k _ c hc
    · have : c = UInt8.ofNat (48 + u % 10) := by simpa using hc
      rw [this, dig_val _ (Nat.mod_lt _ (by decide))]
      omega
theorem pad_val (k : Nat) : ∀ l : List UInt8, l.length = k → digs l → pad k (val10 l) = l := by
  induction k with
  | zero => intro l h _; rw [List.eq_nil_of_length_eq_zero h]; rfl
  | succ k ih =>
    intro l h hd
    obtain ⟨m, c, rfl⟩ : ∃ m c, l = m ++ [c] := ⟨l.dropLast, l.getLast (by intro e; subst e; simp at h), (List.dropLast_concat_getLast _).symm⟩
    have hm : m.length = k := by simpa using h
    have hc := hd c (by simp)
    have h1 := ih m hm (fun x hx => hd x (by simp [hx]))
    rw [val_snocM, pad, show (val10 m * 10 + (c.toNat - 48)) / 10 = val10 m from by omega, h1, show (val10 m * 10 + (c.toNat - 48)) % 10 = c.toNat - 48 from by omega]
    congr 2
    apply UInt8.toNat_inj.1
    rw [dig_val _ (by omega)]
    omega
/-- The number of a name, as the reference reads it. -/
def rfst (l : List UInt8) : Int × Bool := if l.length = 11 ∧ l.headD 0 = 115 ∧ (l.drop 1).all (fun c => decide (48 ≤ c.toNat ∧ c.toNat ≤ 57)) = true ∧ val10 (l.drop 1) ≤ 1073741824 then ((val10 (l.drop 1) : Int), true) else (0, false)
theorem rfst_nm {u : Nat} (h : u ≤ 1073741824) : rfst (nm (u : Int)) = ((u : Int), true) := by
  rw [nm_pad h]
  unfold rfst
  have hv := val_pad 10 u (by omega)
  rw [if_pos ⟨by simp [pad_len], rfl, by
    rw [List.all_eq_true]
    intro c hc
    have := pad_digs 10 u c (by simpa using hc)
    simpa using this, by show val10 (pad 10 u) ≤ _; rw [hv]; exact h⟩]
  show (((val10 (pad 10 u) : Nat) : Int), true) = _
  rw [hv]
theorem rfst_yes {l : List UInt8} (h : (rfst l).2 = true) : ∃ u : Nat, u ≤ 1073741824 ∧ rfst l = ((u : Int), true) ∧ l = nm (u : Int) := by
  unfold rfst at *
  split at h
  · rename_i hc
    rw [if_pos hc]
    obtain ⟨h1, h2, h3, h4⟩ := hc
    refine ⟨val10 (l.drop 1), h4, rfl, ?_⟩
    rw [nm_pad h4, pad_val 10 (l.drop 1) (by rw [List.length_drop]; omega) (fun c hc => by have := List.all_eq_true.1 h3 c hc; simpa using this)]
    match l, h1 with
    | c :: l, _ =>
      have : c = 115 := by simpa using h2
      rw [this]
      rfl
  · cases h
theorem rfst_no {l : List UInt8} (h : (rfst l).2 = false) : rfst l = (0, false) := by
  unfold rfst at *
  split at h
  · cases h
  · rename_i hc; rw [if_neg hc]
theorem val_lt10 (k : Nat) : ∀ l : List UInt8, l.length = k → digs l → val10 l < 10 ^ k := by
  induction k with
  | zero => intro l h _; rw [List.eq_nil_of_length_eq_zero h]; decide
  | succ k ih =>
    intro l h hd
    obtain ⟨m, c, rfl⟩ : ∃ m c, l = m ++ [c] := ⟨l.dropLast, l.getLast (by intro e; subst e; simp at h), (List.dropLast_concat_getLast _).symm⟩
    have hm : m.length = k := by simpa using h
    have hc := hd c (by simp)
    have h1 := ih m hm (fun x hx => hd x (by simp [hx]))
    rw [val_snocM, Nat.pow_succ]
    omega
theorem rfst_short {l : List UInt8} (h : l.length ≠ 11) : rfst l = (0, false) := by
  unfold rfst; rw [if_neg (fun hc => h hc.1)]
theorem rfst_head {l : List UInt8} (h : l.headD 0 ≠ 115) : rfst l = (0, false) := by
  unfold rfst; rw [if_neg (fun hc => h hc.2.1)]
theorem rfst_bad {l : List UInt8} (c : UInt8) (hm : c ∈ l.drop 1) (h : ¬ (48 ≤ c.toNat ∧ c.toNat ≤ 57)) : rfst l = (0, false) := by
  unfold rfst; rw [if_neg (fun hc => h (by have := List.all_eq_true.1 hc.2.2.1 c hm; simpa using this))]
theorem rfst_big {l : List UInt8} (h : 1073741824 < val10 (l.drop 1)) : rfst l = (0, false) := by
  unfold rfst; rw [if_neg (fun hc => by have := hc.2.2.2; omega)]
theorem rfst_ok {l : List UInt8} (h1 : l.length = 11) (h2 : l.headD 0 = 115) (h3 : digs (l.drop 1)) (h4 : val10 (l.drop 1) ≤ 1073741824) : rfst l = ((val10 (l.drop 1) : Int), true) := by
  unfold rfst; rw [if_pos ⟨h1, h2, by rw [List.all_eq_true]; intro c hc; simpa using h3 c hc, h4⟩]
/-- Both read a name alike. -/
theorem rfst_fst (l : List UInt8) : rfst l = fst l := by
  cases hb : (rfst l).2 with
  | true =>
    obtain ⟨u, hu, h1, h2⟩ := rfst_yes hb
    rw [h1, h2, fst_nm (by omega) (by omega)]
  | false =>
    rw [rfst_no hb]
    cases hc : (fst l).2 with
    | false => exact (Prod.ext (fst_no hc).symm hc.symm)
    | true =>
      have h1 := fst_yes hc
      by_cases hr : 0 ≤ (fst l).1 ∧ (fst l).1 ≤ 1073741824
      · obtain ⟨u, hu⟩ := Int.eq_ofNat_of_zero_le hr.1
        rw [hu] at h1
        have := rfst_nm (u := u) (by omega)
        rw [show nm ((u : Nat) : Int) = l from h1] at this
        rw [this] at hb
        cases hb
      · rw [nm_no hr] at h1
        rw [← h1, fst_nil] at hc
        cases hc
end Sgn
end
section
set_option linter.unusedSimpArgs false
set_option linter.unusedVariables false
open Go.RowKit Go.Sort Go.Maps
open Crc Frm
open Sgn

def Calm (t : St) : Prop := t.fuse = -1 ∧ t.fails = 0
/-- Done, or no room; and still calm. -/
def OkFull (r : Int × St) : Prop := (r.1 = 0 ∨ r.1 = 5) ∧ Calm r.2
theorem burnt_calm {t : St} (h : Calm t) : Calm t.burnt := ⟨by show burn t.fuse = -1; rw [h.1]; decide, h.2⟩
theorem crash_calm (t : St) (ks : List Int) : Calm (t.crash ks) := ⟨rfl, rfl⟩
theorem calm_write {t : St} (h : Calm t) {s : List UInt8} (b : List Nat) (hn : nmOk s = true) : OkFull (t.write s b) := by
  unfold St.write
  rw [if_neg (by rw [h.1]; decide), if_neg (by rw [hn]; decide)]
  split
  · exact ⟨.inr rfl, burnt_calm h⟩
  · exact ⟨.inl rfl, burnt_calm h⟩
theorem calm_sync {t : St} (h : Calm t) {s : List UInt8} (hf : (fat t.D s).isSome = true) : (t.sync s).1 = 0 ∧ Calm (t.sync s).2 := by
  obtain ⟨f, hf⟩ := Option.isSome_iff_exists.1 hf
  unfold St.sync
  rw [if_neg (by rw [h.1]; decide), hf]
  simp only
  rw [if_neg (by rw [h.2]; decide)]
  exact ⟨rfl, burnt_calm h⟩
theorem calm_delete {t : St} (h : Calm t) {s : List UInt8} (hf : (fat t.D s).isSome = true) : (t.delete s).1 = 0 ∧ Calm (t.delete s).2 := by
  obtain ⟨f, hf⟩ := Option.isSome_iff_exists.1 hf
  unfold St.delete
  rw [if_neg (by rw [h.1]; decide), hf]
  exact ⟨rfl, burnt_calm h⟩
theorem calm_rename {t : St} (h : Calm t) {s z : List UInt8} (hn : nmOk z = true) (hf : (fat t.D s).isSome = true) : (t.rename s z).1 = 0 ∧ Calm (t.rename s z).2 := by
  obtain ⟨f, hf⟩ := Option.isSome_iff_exists.1 hf
  unfold St.rename
  rw [if_neg (by rw [h.1]; decide), if_neg (by rw [hn]; decide), hf]
  exact ⟨rfl, burnt_calm h⟩
theorem calm_drop {t : St} (h : Calm t) (s : List UInt8) : (t.drop s).1 = 0 ∧ Calm (t.drop s).2 := by
  unfold St.drop
  by_cases hh : t.has s = true
  · rw [if_pos hh]; exact calm_delete h hh
  · rw [if_neg hh]; exact ⟨rfl, h⟩
theorem thenSt_full {r : Int × St} {f : St → Int × St} (h1 : OkFull r) (h2 : r.1 = 0 → OkFull (f r.2)) : OkFull (thenSt r f) := by
  unfold thenSt
  by_cases h : r.1 = 0
  · rw [if_neg (by simp [h])]; exact h2 h
  · rw [if_pos h]; exact h1
/-- Mending fails only for want of room. -/
theorem calm_mend {g : Lg} {good : Option (List Nat)} {t : St} (hm : IsMap t.D) (h : Calm t) (hn : nmOk (lgLast g) = true) : OkFull (lgMend g good t) := by
  cases good with
  | none => exact ⟨.inl rfl, h⟩
  | some b =>
    have hd := calm_drop h fxL
    have h1 : OkFull (thenSt (t.drop fxL) fun t => t.write fxL b) := thenSt_full ⟨.inl hd.1, hd.2⟩ fun _ => calm_write hd.2 b (by decide)
    have hmd : IsMap (t.drop fxL).2.D := isMap_drop hm _
    have k1 : (thenSt (t.drop fxL) fun t => t.write fxL b).1 = 0 → (fat (thenSt (t.drop fxL) fun t => t.write fxL b).2.D fxL).isSome = true := fun e => by
      obtain ⟨_, e2, e3⟩ := thenSt_yes e
      rw [e2, write_yes hmd _ _ e3]
      rfl
    have hm1 : IsMap (thenSt (t.drop fxL) fun t => t.write fxL b).2.D := thenSt_keep (P := fun t => IsMap t.D) hmd fun _ h => isMap_write h _ _
    refine thenSt_full (thenSt_full h1 fun e => ?_) fun e => ?_
    · have := calm_sync h1.2 (k1 e)
      exact ⟨.inl this.1, this.2⟩
    · obtain ⟨e1, e2, e3⟩ := thenSt_yes e
      have hs := calm_sync h1.2 (k1 e1)
      obtain ⟨f, _, hf⟩ := sync_yes hm1 _ e3
      rw [e2]
      have := calm_rename (z := lgLast g) hs.2 hn (by rw [hf]; rfl)
      exact ⟨.inl this.1, this.2⟩
theorem nm_ok {x : Int} (hx : 0 ≤ x ∧ x ≤ 1073741824) : nmOk (nm x) = true := by
  obtain ⟨u, rfl⟩ := Int.eq_ofNat_of_zero_le hx.1
  rw [nm_pad (by omega)]
  have hd := pad_digs 10 u
  have hl := pad_len 10 u
  generalize pad 10 u = l at hd hl
  unfold nmOk
  have ha : ((115 :: l).all fun c => chOk c.toNat) = true := by
    rw [List.all_eq_true]
    intro c hc
    rcases List.mem_cons.1 hc with rfl | hc
    · decide
    · have := hd c hc
      unfold chOk
      simp
      omega
  simp only [List.length_cons, hl, ha]
  decide
/-- Swap of a list that may be fails only for want of room. -/
theorem calm_swap {t : St} (hm : IsMap t.D) (h : Calm t) {l : List Int} (hok : mOk l = true) : OkFull (mSwap t l) := by
  have hd : (delNext t).1 = 0 ∧ Calm (delNext t).2 := by
    unfold delNext
    by_cases hh : (fat t.D nxL).isSome = true
    · rw [if_pos hh]; exact calm_delete h hh
    · rw [if_neg hh]; exact ⟨rfl, h⟩
  have hmd := isMap_delNext hm
  have hw := calm_write hd.2 (s := nxL) (mPut l) (by decide)
  have hc : ∀ (x : Int) (u : St), Calm u → Calm (mClean x u) := fun x u hu => by
    unfold mClean
    split
    · unfold St.delete
      rw [if_neg (by rw [hu.1]; decide)]
      split
      · exact burnt_calm hu
      · exact burnt_calm hu
    · exact hu
  have ht : OkFull (mTurn t l) := by
    unfold mTurn
    rw [if_neg (by show ¬ (delNext t).1 ≠ 0; rw [hd.1]; decide)]
    by_cases h1 : mAns t l 1 ≠ 0
    · rw [if_pos h1]; exact hw
    · rw [if_neg h1]
      have h1 : mAns t l 1 = 0 := by simpa using h1
      have hwy := write_yes hmd nxL (mPut l) h1
      have hs := calm_sync hw.2 (s := nxL) (by rw [hwy]; rfl)
      rw [if_neg (by show ¬ (St.sync _ nxL).1 ≠ 0; exact fun e => e hs.1)]
      obtain ⟨f, _, hf⟩ := sync_yes (isMap_write hmd _ _) nxL hs.1
      have hr := calm_rename (z := mfL) hs.2 (by decide) (s := nxL) (by rw [hf]; rfl)
      exact ⟨.inl hr.1, hr.2⟩
  unfold mSwap
  rw [if_pos hok]
  exact ⟨ht.1, hc _ _ ht.2⟩
/-- So does laying a segment. -/
theorem calm_lay {g : Lg} {t : St} (hm : IsMap t.D) (h : Calm t) {first : Int} (hr : 0 ≤ first ∧ first ≤ 1073741824) (hok : mOk (g.segs ++ [first]) = true) : ((lgLay g t first).1 = 0 ∨ (lgLay g t first).1 = 5) ∧ Calm (lgLay g t first).2.1 := by
  have hd := calm_drop h (nm first)
  have hmd : IsMap (t.drop (nm first)).2.D := isMap_drop hm _
  have hp : OkFull (lgPre t first) := by
    refine thenSt_full (thenSt_full ⟨.inl hd.1, hd.2⟩ fun _ => calm_write hd.2 _ (nm_ok hr)) fun e => ?_
    obtain ⟨_, e2, e3⟩ := thenSt_yes e
    have hw := calm_write hd.2 (hdo first) (nm_ok hr)
    rw [e2]
    have := calm_sync hw.2 (s := nm first) (by rw [write_yes hmd _ _ e3]; rfl)
    exact ⟨.inl this.1, this.2⟩
  have ht : OkFull (lgTry g t first) := by
    rw [try_pre]
    exact thenSt_full hp fun _ => calm_swap (pre_map hm first) hp.2 hok
  unfold lgLay
  simp only
  by_cases e : (lgTry g t first).1 = 0
  · rw [if_pos e]; exact ⟨.inl rfl, ht.2⟩
  · rw [if_neg e]
    have h5 : (lgTry g t first).1 = 5 := ht.1.resolve_left e
    rw [if_neg (by rw [h5]; decide)]
    refine ⟨.inr h5, ?_⟩
    show Calm (St.delete _ _).2
    unfold St.delete
    rw [if_neg (by rw [ht.2.1]; decide)]
    split
    · exact burnt_calm ht.2
    · exact burnt_calm ht.2
end
section
set_option linter.unusedSimpArgs false
set_option linter.unusedVariables false
open Go.RowKit Go.Sort Go.Maps
open Crc Frm
open Sgn

theorem open_new (room : Nat) {size : Int} (h1 : 64 ≤ size) (h2 : size ≤ 65536) :
    ((lgOpen size ⟨.map [], room, -1, 0⟩).2.2 = none ∧ (lgOpen size ⟨.map [], room, -1, 0⟩).1 = 5) ∨ ∃ t', lgOpen size ⟨.map [], room, -1, 0⟩ = (0, t', some ⟨[0], 0⟩) ∧ LDur ⟨[0], 0⟩ t' [] 0 := by
  obtain ⟨t, ht⟩ : ∃ t : St, t = ⟨.map [], room, -1, 0⟩ := ⟨_, rfl⟩
  have hm : IsMap t.D := by rw [ht]; exact ⟨[], rfl⟩
  have hl : (mLoad t).1 = [] := by rw [ht]; rfl
  have hc : (lgClean ⟨[], 0⟩ t).2 = t ∧ (lgClean ⟨[], 0⟩ t).1 = 0 := by rw [ht]; exact ⟨rfl, rfl⟩
  have hcalm : Calm t := by rw [ht]; exact ⟨rfl, rfl⟩
  rw [← ht]
  have hrs : lgRestore t = lgLay ⟨[], 0⟩ t 0 := by
    have h2 : ¬ (lgClean ⟨[], 0⟩ t).1 ≠ 0 := by rw [hc.2]; decide
    unfold lgRestore
    rw [hl]
    show (if ([] : List Int) = [] then _ else _) = _
    rw [if_pos rfl]
    show (if (lgClean ⟨[], 0⟩ t).1 ≠ 0 then _ else lgLay ⟨[], 0⟩ (lgClean ⟨[], 0⟩ t).2 0) = _
    rw [if_neg h2, hc.1]
  have hlay := calm_lay (g := ⟨[], 0⟩) hm hcalm (first := 0) ⟨by decide, by decide⟩ (by decide)
  have hop : lgOpen size t = (let s := thenSt (thenSt ((lgLay ⟨[], 0⟩ t 0).1, (lgLay ⟨[], 0⟩ t 0).2.1) fun t => t.drop fxL) fun t => t.drop nxL
      if s.1 ≠ 0 then (s.1, s.2, none) else (0, s.2, some (lgLay ⟨[], 0⟩ t 0).2.2)) := by
    unfold lgOpen
    rw [if_neg (by omega), hrs]
  rcases hlay.1 with h0 | h5
  · right
    have e1 : thenSt ((lgLay ⟨[], 0⟩ t 0).1, (lgLay ⟨[], 0⟩ t 0).2.1) (fun t => t.drop fxL) = (lgLay ⟨[], 0⟩ t 0).2.1.drop fxL := if_neg (by simp [h0])
    have d1 := calm_drop hlay.2 fxL
    have e2 : thenSt ((lgLay ⟨[], 0⟩ t 0).2.1.drop fxL) (fun t => t.drop nxL) = ((lgLay ⟨[], 0⟩ t 0).2.1.drop fxL).2.drop nxL := if_neg (by simp [d1.1])
    have d2 := calm_drop d1.2 nxL
    have hg := (lay_begins hm h0).2
    rw [e1, e2, hg] at hop
    simp only [d2.1] at hop
    rw [if_neg (by simp)] at hop
    have hd := open_begins_dur (size := size) (g := ⟨[0], 0⟩) hm hl (by rw [hop]) hc
    rw [hop] at hd
    exact ⟨_, hop, hd⟩
  · left
    have e1 : thenSt ((lgLay ⟨[], 0⟩ t 0).1, (lgLay ⟨[], 0⟩ t 0).2.1) (fun t => t.drop fxL) = ((lgLay ⟨[], 0⟩ t 0).1, (lgLay ⟨[], 0⟩ t 0).2.1) := if_pos (by simp [h5])
    have e2 : thenSt ((lgLay ⟨[], 0⟩ t 0).1, (lgLay ⟨[], 0⟩ t 0).2.1) (fun t => t.drop nxL) = ((lgLay ⟨[], 0⟩ t 0).1, (lgLay ⟨[], 0⟩ t 0).2.1) := if_pos (by simp [h5])
    rw [e1, e2] at hop
    simp only [h5] at hop
    rw [if_pos (by simp)] at hop
    rw [hop]
    exact ⟨rfl, rfl⟩
theorem LDur.few {g : Lg} {t : St} {fs : List Fr} {S : Int} (h : LDur g t fs S) : g.segs ≠ [] ∧ g.segs.length ≤ 40 := ⟨h.inv.chain.ne, (mOk_all h.ok).2.1⟩
theorem append_next {size : Nat} {g : Lg} {t : St} {kind : Int} {body : List Nat} (h : (lgAppend size g t kind body).1.2 = 0) : 0 ≤ g.next ∧ g.next ≤ 1073741824 := by
  unfold lgAppend at h
  simp only at h
  by_cases hr : (⟨kind, g.next, body⟩ : Fr).right
  · exact ⟨hr.2.2.1, hr.2.2.2.1⟩
  · rw [if_pos hr] at h
    cases h
/-- What a call but a crash leaves: what lasts, and what the law asks of it. -/
theorem LDur.do_ {g : Lg} {t : St} {fs : List Fr} {S : Int} (h : LDur g t fs S) (size : Nat) (op : OgV) :
    ∃ fs' S', LDur (lgDo size g t op).2.2 (lgDo size g t op).2.1 fs' S' ∧
      ((lgDo size g t op).1.2 ≠ 0 → (lgDo size g t op).1.1 = 0 ∧ (lgDo size g t op).2.2.next = g.next ∧ (op.what ≠ 6 → fs' = fs)) ∧
      ((op.what < 4 ∨ 9 < op.what) → (lgDo size g t op).1.2 = 0 → (lgDo size g t op).1.1 = g.next ∧ (lgDo size g t op).2.2.next = g.next + 1 ∧ fs' = fs ++ [⟨op.kind, g.next, op.bs⟩] ∧ 0 ≤ g.next ∧ g.next ≤ 1073741824) := by
  unfold lgDo
  by_cases h45 : op.what = 4 ∨ op.what = 5
  · rw [if_pos h45]
    have hno : ¬ (op.what < 4 ∨ 9 < op.what) := by omega
    have hs := h.sync
    by_cases h0 : (lgSync g t).1 = 0
    · exact ⟨fs, g.next, (hs.1 h0).1, fun hh => absurd h0 hh, fun hh => absurd hh hno⟩
    · exact ⟨fs, S, hs.2 h0, fun _ => ⟨rfl, rfl, fun _ => rfl⟩, fun hh => absurd hh hno⟩
  rw [if_neg h45]
  by_cases h6 : op.what = 6
  · rw [if_pos h6]
    have hno : ¬ (op.what < 4 ∨ 9 < op.what) := by omega
    obtain ⟨a, b, hab, hd⟩ := h.retain op.n
    obtain ⟨k, _, _, _, _, _, _, hg, _⟩ := h.inv.retain op.n
    exact ⟨b, S, hd, fun _ => ⟨rfl, by show (lgRetain g t op.n).2.2.next = _; rw [hg], fun hh => absurd h6 hh⟩, fun hh => absurd hh hno⟩
  rw [if_neg h6]
  by_cases h7 : op.what = 7
  · rw [if_pos h7]
    have hno : ¬ (op.what < 4 ∨ 9 < op.what) := by omega
    exact ⟨fs, S, h.fuse op.n, fun hh => absurd rfl hh, fun hh => absurd hh hno⟩
  rw [if_neg h7]
  by_cases h8 : op.what = 8
  · rw [if_pos h8]
    have hno : ¬ (op.what < 4 ∨ 9 < op.what) := by omega
    exact ⟨fs, S, h.fail op.n, fun hh => absurd rfl hh, fun hh => absurd hh hno⟩
  rw [if_neg h8]
  have hd := h.append size op.kind op.bs
  have hi := h.inv.append size op.kind op.bs
  by_cases h0 : (lgAppend size g t op.kind op.bs).1.2 = 0
  · obtain ⟨i1, i2, _⟩ := hi.2 h0
    exact ⟨_, S, hd.2 h0, fun hh => absurd h0 hh, fun _ _ => ⟨i1, i2, rfl, append_next h0⟩⟩
  · obtain ⟨i1, i2, _⟩ := hi.1 h0
    exact ⟨fs, S, hd.1 h0, fun _ => ⟨i1, i2, fun _ => rfl⟩, fun _ hh => absurd hh h0⟩
end
section
set_option linter.unusedSimpArgs false
set_option linter.unusedVariables false
open Go.RowKit Go.Sort Go.Maps
open Crc Frm
open Sgn

theorem fl_ok {D : FS} {room : Nat} (h : Good D room) (s : List UInt8) : ((fat D s).getD Fl.zero).l ≤ ((fat D s).getD Fl.zero).bs.length := by
  cases hf : fat D s with
  | none => exact Nat.le_refl _
  | some f => exact (h.at_ hf).2.1
section
variable {t : St}
theorem good_delete (h : Good t.D t.room) (s : List UInt8) : Good (t.delete s).2.D (t.delete s).2.room := by
  unfold St.delete
  split
  · exact h
  split
  · exact h
  · exact h.del s
theorem good_drop (h : Good t.D t.room) (s : List UInt8) : Good (t.drop s).2.D (t.drop s).2.room := by
  unfold St.drop
  split
  · exact good_delete h s
  · exact h
theorem good_writeS (h : Good t.D t.room) (s : List UInt8) {b : List Nat} (hb : ∀ c ∈ b, c < 256) : Good (t.write s b).2.D (t.write s b).2.room := by
  unfold St.write
  split
  · exact h
  split
  · exact h
  split
  · exact h
  · rename_i h1 h2 h3
    exact good_write h hb (by simpa using h2) (by simpa using h3) (fat_byte h s) (fl_ok h s)
theorem good_sync (h : Good t.D t.room) (s : List UInt8) : Good (t.sync s).2.D (t.sync s).2.room := by
  unfold St.sync
  split
  · exact h
  cases hf : fat t.D s with
  | none => exact h
  | some f =>
    simp only
    split
    · exact h
    · obtain ⟨k1, k2, k3, k4⟩ := h.at_ hf
      exact h.put k1 (Nat.le_refl _) k3 (.inl (by rw [hf]; rfl)) (by rw [hf]; have := h.tot_; show _ ≤ _ + f.bs.length; simp only; omega)
theorem good_renameS (h : Good t.D t.room) (s z : List UInt8) : Good (t.rename s z).2.D (t.rename s z).2.room := by
  unfold St.rename
  split
  · exact h
  split
  · exact h
  · rename_i h1 h2
    cases hf : fat t.D s with
    | none => exact h
    | some f => exact good_rename h hf (by simpa using h2)
end
theorem good_mend {g : Lg} {good : Option (List Nat)} {t : St} (h : Good t.D t.room) (hb : ∀ b, good = some b → ∀ c ∈ b, c < 256) : Good (lgMend g good t).2.D (lgMend g good t).2.room := by
  cases good with
  | none => exact h
  | some b =>
    exact thenSt_keep (P := fun u => Good u.D u.room) (thenSt_keep (P := fun u => Good u.D u.room) (thenSt_keep (P := fun u => Good u.D u.room) (good_drop h _) (fun u hu => good_writeS hu _ (hb b rfl))) (fun u hu => good_sync hu _)) (fun u hu => good_renameS hu _ _)
theorem find_byte {t : St} (h : Good t.D t.room) : ∀ (l : List Int) (g : Lg) b, (lgFind t l g).2 = some b → ∀ c ∈ b, c < 256
  | [], g, b, hb => by simp [lgFind] at hb
  | x :: l, g, b, hb => by
    unfold lgFind at hb
    simp only at hb
    split at hb
    · cases hb
    · split at hb
      · injection hb with hb
        intro c hc
        rw [← hb] at hc
        exact fat_byte h _ c (List.mem_of_mem_take hc)
      · exact find_byte h l _ b hb
theorem delAll_calm : ∀ (l : List (List UInt8)) (t : St), Calm t → (∀ s ∈ l, (fat t.D s).isSome = true) → l.Nodup → (delAll l t).1 = 0 ∧ Calm (delAll l t).2
  | [], t, hc, _, _ => ⟨rfl, hc⟩
  | s :: l, t, hc, hs, hn => by
    obtain ⟨n1, n2⟩ := List.nodup_cons.1 hn
    have hd := calm_delete hc (s := s) (hs s (by simp))
    have e : delAll (s :: l) t = delAll l (t.delete s).2 := by
      show thenSt (t.delete s) (delAll l) = _
      unfold thenSt
      rw [if_neg (by simp [hd.1])]
    rw [e]
    refine delAll_calm l _ hd.2 (fun s' hs' => ?_) n2
    rw [fat_delete_other t (show s' ≠ s from fun h => n1 (h ▸ hs'))]
    exact hs s' (by simp [hs'])
theorem names_nodup {D : FS} {room : Nat} (h : Good D room) : (strKeys D).Nodup := by
  rw [strKeys_keysL, List.nodup_iff_pairwise_ne, List.pairwise_map]
  refine (keysL_sorted h.canon).imp_of_mem (fun {a b} ha hb hab => ?_)
  obtain ⟨x, rfl⟩ := h.strs a ((keysL_mem h.canon a).1 ha)
  obtain ⟨y, rfl⟩ := h.strs b ((keysL_mem h.canon b).1 hb)
  intro e
  have e' : x = y := e
  subst e'
  simp [Lit.before, Go.WideAt.bytes_irrefl] at hab
theorem clean_calm {g : Lg} {t : St} (hc : Calm t) (h : Good t.D t.room) : (lgClean g t).1 = 0 ∧ Calm (lgClean g t).2 :=
  delAll_calm _ t hc (fun s hs => (names_mem h s).1 ((List.mem_filter.1 hs).1)) ((names_nodup h).filter _)
/-- Open behind a crash: done, or no room. -/
theorem LDur.crash_err {g : Lg} {t : St} {fs : List Fr} {S : Int} (h : LDur g t fs S) (hG : Good t.D t.room) (ks : List Int) (hG' : Good (t.crash ks).D (t.crash ks).room) {size : Int} (hs : ¬ (size < 64 ∨ 65536 < size)) (ho : (lgOpen size (t.crash ks)).2.2 = none) :
    (lgOpen size (t.crash ks)).1 = 5 := by
  have hm' : IsMap (t.crash ks).D := canon_map hG'.canon
  obtain ⟨f, b0, p, hf, hs0, h12, hp, hpe, hS⟩ := h.last
  obtain ⟨m, m1, m2, m3⟩ := crash_some hG ks hf
  have hl : (mLoad (t.crash ks)).1 = g.segs := by rw [load_has h.ok (has_crash hG ks h.list)]
  have hb : t.bytes (nm (g.segs.getLastD 0)) = f.bs := by unfold St.bytes; rw [hf]; rfl
  have hdn : ∀ x ∈ g.segs, x ≠ g.segs.getLastD 0 → ∃ fx, fat t.D (nm x) = some fx ∧ fat (t.crash ks).D (nm x) = some ⟨fx.bs, fx.bs.length⟩ := fun x hx hne => by
    obtain ⟨fx, hfx, hfl⟩ := h.done x hx hne
    obtain ⟨k, k1, k2, k3⟩ := crash_some hG ks hfx
    rw [show k = fx.bs.length from by omega, List.take_length] at k3
    exact ⟨fx, hfx, k3⟩
  obtain ⟨a, b, j, good, _, _, _, _, q4, _, _⟩ := find_chain (t' := t.crash ks) m (by omega) h.inv.chain (fun x hx hne => by
      obtain ⟨fx, hfx, hfy⟩ := hdn x hx hne
      unfold St.fb
      rw [hfx, hfy]
      rfl) (by rw [hb]; unfold St.fb; rw [m3]; rfl) (by rw [hb]; exact m2) ⟨[], 0⟩ (.inl rfl)
  rw [List.nil_append] at q4
  obtain ⟨g0, hg0⟩ : ∃ g0 : Lg, g0 = ⟨g.segs, g.segs.headD 0 + ((a.length + j : Nat) : Int)⟩ := ⟨_, rfl⟩
  rw [← hg0] at q4
  have hsg : g0.segs = g.segs := by rw [hg0]
  have hlast : lgLast g0 = lgLast g := by unfold lgLast; rw [hsg]
  have hrl := h.range h.inv.chain.mem_last
  have hne := h.inv.chain.ne
  have hgb : ∀ b, good = some b → ∀ c ∈ b, c < 256 := fun b e => find_byte hG' g.segs ⟨[], 0⟩ b (by rw [q4]; exact e)
  have hcrash : Calm (t.crash ks) := crash_calm t ks
  generalize t.crash ks = t' at *
  have hrs : lgRestore t' = (let s := thenSt (thenSt (thenSt (0, t') (lgMend g0 good)) (lgClean g0)) (lgSync g0); (s.1, s.2, g0)) := by
    unfold lgRestore
    rw [hl]
    simp only
    rw [q4]
    simp only
    rw [if_neg (by rw [hsg]; exact hne), if_pos (by rw [hsg])]
  have hcalm : Calm t' := hcrash
  have k3 : thenSt (0, t') (lgMend g0 good) = lgMend g0 good t' := by unfold thenSt; rw [if_neg (by simp)]
  have hmd : OkFull (lgMend g0 good t') := calm_mend hm' hcalm (by rw [hlast]; exact nm_ok hrl)
  have hgm : Good (lgMend g0 good t').2.D (lgMend g0 good t').2.room := good_mend hG' hgb
  have hcl := clean_calm (g := g0) hmd.2 hgm
  have hR : OkFull (thenSt (thenSt (thenSt (0, t') (lgMend g0 good)) (lgClean g0)) (lgSync g0)) := by
    rw [k3]
    refine thenSt_full (thenSt_full hmd (fun _ => ⟨.inl hcl.1, hcl.2⟩)) (fun e => ?_)
    obtain ⟨d1, k2, _⟩ := thenSt_yes e
    rw [k2]
    have hlf : (fat (lgClean g0 (lgMend g0 good t').2).2.D (lgLast g0)).isSome = true := by
      rw [clean_fat g0 _ (s := lgLast g0) (.inr (by rw [hlast]; unfold lgLast; rw [fst_nm hrl.1 hrl.2, hsg]; exact h.inv.chain.mem_last))]
      cases good with
      | none =>
        show (fat t'.D (lgLast g0)).isSome = true
        rw [hlast]
        unfold lgLast
        rw [m3]
        rfl
      | some b =>
        have := mend_yes hm' d1
        unfold St.fb at this
        cases hq : fat (lgMend g0 (some b) t').2.D (lgLast g0) with
        | none => rw [hq] at this; cases this
        | some f => rfl
    have := calm_sync hcl.2 hlf
    exact ⟨.inl this.1, this.2⟩
  unfold lgOpen at ho ⊢
  rw [if_neg hs] at ho ⊢
  simp only at ho ⊢
  rw [hrs] at ho ⊢
  simp only at ho ⊢
  generalize thenSt (thenSt (thenSt (0, t') (lgMend g0 good)) (lgClean g0)) (lgSync g0) = R at *
  have d1 := calm_drop hR.2 fxL
  have d2 := calm_drop d1.2 nxL
  rcases hR.1 with h0 | h5
  · have e1 : thenSt (R.1, R.2) (fun t => t.drop fxL) = R.2.drop fxL := if_neg (by simp [h0])
    have e2 : thenSt (R.2.drop fxL) (fun t => t.drop nxL) = (R.2.drop fxL).2.drop nxL := if_neg (by simp [d1.1])
    rw [e1, e2, if_neg (by simp [d2.1])] at ho
    cases ho
  · have e1 : thenSt (R.1, R.2) (fun t => t.drop fxL) = (R.1, R.2) := if_pos (by simp [h5])
    have e2 : thenSt (R.1, R.2) (fun t => t.drop nxL) = (R.1, R.2) := if_pos (by simp [h5])
    rw [e1, e2, if_pos (by simp [h5])]
    exact h5
end
section
set_option linter.unusedSimpArgs false
set_option linter.unusedVariables false
open Go.ChangeShapes Go.WideShapes Go.ChangeAt Go.RowKit

/-- The five variables that each row lists. -/
def laidL : List (String × DataW Unit) := [("math/bits.deBruijn32tab", Rows.laid_math_bits_deBruijn32tab), ("math/bits.deBruijn64tab", Rows.laid_math_bits_deBruijn64tab), ("internal/strconv.uint64pow10", Rows.laid_internal_strconv_uint64pow10), ("strconv.ErrRange", Rows.laid_strconv_ErrRange), ("strconv.ErrSyntax", Rows.laid_strconv_ErrSyntax)]
theorem door_star : "*" ++ "errors.errorString" = "*errors.errorString" := by decide
theorem door_row (u : TypeId) (h : Tryz.prog.typeName? 3 u = some "*errors.errorString") : u = 243 :=
  typeName_ptr_named (nm := "errors.errorString") (by rw [door_star]; kernel_rfl) (by kernel_rfl) (by decide) u (by rw [door_star]; exact h)
theorem gSyn : Tryz.prog.globalNamed "strconv.ErrSyntax" = some 4 := by kernel_rfl
theorem gRng : Tryz.prog.globalNamed "strconv.ErrRange" = some 5 := by kernel_rfl
theorem gTab : Tryz.prog.globalNamed "internal/strconv.uint64pow10" = some 0 := by kernel_rfl
theorem tSyn : (Tryz.prog.globals[4]?).map (·.type) = some 171 := by kernel_rfl
theorem tRng : (Tryz.prog.globals[5]?).map (·.type) = some 171 := by kernel_rfl
theorem tTab : (Tryz.prog.globals[0]?).map (·.type) = some 219 := by kernel_rfl
/-- What the rows' condition gives the walks. -/
theorem laid_of {W : World} (h : laidMetH Tryz.prog laidL W) : Laid W := by
  rw [MakeChecks.laidMetH_plain _ _ _ (by kernel_rfl)] at h
  have h2 := h.tail.tail
  have h3 := h2.tail
  have h4 := h3.tail
  obtain ⟨a1, s1, hv1, _, _, _⟩ := laid_sentinel h3 gRng tRng Tryz.underlying171 door_row Tryz.underlying243 Tryz.underlying245 rfl rfl Tryz.underlying9 (by kernel_rfl) (by kernel_rfl)
  obtain ⟨a0, s0, hv0, _, _, _⟩ := laid_sentinel h4 gSyn tSyn Tryz.underlying171 door_row Tryz.underlying243 Tryz.underlying245 rfl rfl Tryz.underlying9 (by kernel_rfl) (by kernel_rfl)
  exact ⟨Lib.tabIs_of_head gTab tTab Tryz.underlying219 Tryz.underlying139 (by kernel_rfl) (by kernel_rfl) h2,
    ⟨_, by simpa using World.var?_cell gSyn hv0 0, .inr ⟨_, _, rfl⟩⟩, ⟨_, by simpa using World.var?_cell gRng hv1 0, .inr ⟨_, _, rfl⟩⟩⟩
/-- The door's own heap meets the condition. -/
theorem door_met (os : Os) (args : Array Value) : laidMetH Tryz.prog laidL ((World.doorLaid Tryz.prog 400 os).forCall (fun _ _ => 0) ⟨#[], args, []⟩).memory :=
  laidMetH_of_parts3 (fuel := 8) (laidMet_of_run' 8 (by kernel_rfl) (by kernel_rfl)) (by kernel_rfl) (by kernel_rfl)
end
end Go.Proofs.YtphjpjlifdabfaaGreatDoor
