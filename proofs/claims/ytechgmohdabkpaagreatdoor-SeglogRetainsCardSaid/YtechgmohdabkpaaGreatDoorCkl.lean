/- The log on a disk, plain mathematics: where nothing stands still and no Sync fails, only a write can fail, for want of room. The log as mathematics: what a call leaves, and what Open of a new disk tells. The log on a disk, plain mathematics: Open behind a crash is done, or has no room. The log on a disk, plain mathematics: what an Open that is done leaves lasts, and nothing is astray; an Open of such a disk changes no file. The log on a disk, plain mathematics: how much the calls of a log write at most. The log on a disk where nothing stands still or fails: the disk's files are the list's and the segments', no others. The log on a disk where nothing stands still or fails, plain mathematics: Retain is done where there is room, and what it takes. What start-up code laid: from the rows' condition to the walks' fact, and the door's own heap. A crash and Open as an operation; a row of frames of the walk's own, beside a log. What a call of the log leaves, against all that was appended; cuts of rows of frames; append of a frame at a drawn step. A row of frames from a place on. -/
import Derived.Test.YtechgmohdabkpaaGreatDoorCke
import Derived.Test.YtechgmohdabkpaaGreatDoorCkj
import Derived.Test.YtechgmohdabkpaaGreatDoorCkk
import Derived.Test.YtechgmohdabkpaaGreatDoorRows
import Derived.ProofKit
import Derived.LaidMore
import Derived.LaidHandle
import Derived.OpenShut
import Derived.MakeChecks
import Derived.Lib.LaidTab
import Derived.Stop.LaidErr
import Derived.Maps.AppendAt
namespace Go.Proofs.YtechgmohdabkpaaGreatDoor
section
set_option linter.unusedSimpArgs false
set_option linter.unusedVariables false
open Go.RowKit Go.Sort Go.Maps
open Crc Frm
open Sgn

def Calm (t : St) : Prop := t.fuse = -1 ∧ t.fails = 0
/-- Done, or no room; and still calm. -/
def OkFull (r : Int × St) : Prop := (r.1 = 0 ∨ r.1 = 5) ∧ Calm r.2
theorem burnt_calm {t : St} (h : Calm t) : Calm t.burnt := ⟨by show burn t.fuse = -1; rw [h.1]; decide, h.2⟩
theorem crash_calm (t : St) (ks : List Int) : Calm (t.crash ks) := ⟨rfl, rfl⟩
theorem calm_write {t : St} (h : Calm t) {s : List UInt8} (b : List Nat) (hn : nmOk s = true) : OkFull (t.write s b) := by
  unfold St.write
  rw [if_neg (by rw [h.1]; decide), if_neg (by rw [hn]; decide)]
  split
  · exact ⟨.inr rfl, burnt_calm h⟩
  · exact ⟨.inl rfl, burnt_calm h⟩
theorem calm_sync {t : St} (h : Calm t) {s : List UInt8} (hf : (fat t.D s).isSome = true) : (t.sync s).1 = 0 ∧ Calm (t.sync s).2 := by
  obtain ⟨f, hf⟩ := Option.isSome_iff_exists.1 hf
  unfold St.sync
  rw [if_neg (by rw [h.1]; decide), hf]
  simp only
  rw [if_neg (by rw [h.2]; decide)]
  exact ⟨rfl, burnt_calm h⟩
theorem calm_delete {t : St} (h : Calm t) {s : List UInt8} (hf : (fat t.D s).isSome = true) : (t.delete s).1 = 0 ∧ Calm (t.delete s).2 := by
  obtain ⟨f, hf⟩ := Option.isSome_iff_exists.1 hf
  unfold St.delete
  rw [if_neg (by rw [h.1]; decide), hf]
  exact ⟨rfl, burnt_calm h⟩
theorem calm_rename {t : St} (h : Calm t) {s z : List UInt8} (hn : nmOk z = true) (hf : (fat t.D s).isSome = true) : (t.rename s z).1 = 0 ∧ Calm (t.rename s z).2 := by
  obtain ⟨f, hf⟩ := Option.isSome_iff_exists.1 hf
  unfold St.rename
  rw [if_neg (by rw [h.1]; decide), if_neg (by rw [hn]; decide), hf]
  exact ⟨rfl, burnt_calm h⟩
theorem calm_drop {t : St} (h : Calm t) (s : List UInt8) : (t.drop s).1 = 0 ∧ Calm (t.drop s).2 := by
  unfold St.drop
  by_cases hh : t.has s = true
  · rw [if_pos hh]; exact calm_delete h hh
  · rw [if_neg hh]; exact ⟨rfl, h⟩
theorem thenSt_full {r : Int × St} {f : St → Int × St} (h1 : OkFull r) (h2 : r.1 = 0 → OkFull (f r.2)) : OkFull (thenSt r f) := by
  unfold thenSt
  by_cases h : r.1 = 0
  · rw [if_neg (by simp [h])]; exact h2 h
  · rw [if_pos h]; exact h1
/-- Mending fails only for want of room. -/
theorem calm_mend {g : Lg} {good : Option (List Nat)} {t : St} (hm : IsMap t.D) (h : Calm t) (hn : nmOk (lgLast g) = true) : OkFull (lgMend g good t) := by
  cases good with
  | none => exact ⟨.inl rfl, h⟩
  | some b =>
    have hd := calm_drop h fxL
    have h1 : OkFull (thenSt (t.drop fxL) fun t => t.write fxL b) := thenSt_full ⟨.inl hd.1, hd.2⟩ fun _ => calm_write hd.2 b (by decide)
    have hmd : IsMap (t.drop fxL).2.D := isMap_drop hm _
    have k1 : (thenSt (t.drop fxL) fun t => t.write fxL b).1 = 0 → (fat (thenSt (t.drop fxL) fun t => t.write fxL b).2.D fxL).isSome = true := fun e => by
      obtain ⟨_, e2, e3⟩ := thenSt_yes e
      rw [e2, write_yes hmd _ _ e3]
      rfl
    have hm1 : IsMap (thenSt (t.drop fxL) fun t => t.write fxL b).2.D := thenSt_keep (P := fun t => IsMap t.D) hmd fun _ h => isMap_write h _ _
    refine thenSt_full (thenSt_full h1 fun e => ?_) fun e => ?_
    · have := calm_sync h1.2 (k1 e)
      exact ⟨.inl this.1, this.2⟩
    · obtain ⟨e1, e2, e3⟩ := thenSt_yes e
      have hs := calm_sync h1.2 (k1 e1)
      obtain ⟨f, _, hf⟩ := sync_yes hm1 _ e3
      rw [e2]
      have := calm_rename (z := lgLast g) hs.2 hn (by rw [hf]; rfl)
      exact ⟨.inl this.1, this.2⟩
theorem nm_ok {x : Int} (hx : 0 ≤ x ∧ x ≤ 1073741824) : nmOk (nm x) = true := by
  obtain ⟨u, rfl⟩ := Int.eq_ofNat_of_zero_le hx.1
  rw [nm_pad (by omega)]
  have hd := pad_digs 10 u
  have hl := pad_len 10 u
  generalize pad 10 u = l at hd hl
  unfold nmOk
  have ha : ((115 :: l).all fun c => chOk c.toNat) = true := by
    rw [List.all_eq_true]
    intro c hc
    rcases List.mem_cons.1 hc with rfl | hc
    · decide
    · have := hd c hc
      unfold chOk
      simp
      omega
  simp only [List.length_cons, hl, ha]
  decide
/-- Swap of a list that may be fails only for want of room. -/
theorem calm_swap {t : St} (hm : IsMap t.D) (h : Calm t) {l : List Int} (hok : mOk l = true) : OkFull (mSwap t l) := by
  have hd : (delNext t).1 = 0 ∧ Calm (delNext t).2 := by
    unfold delNext
    by_cases hh : (fat t.D nxL).isSome = true
    · rw [if_pos hh]; exact calm_delete h hh
    · rw [if_neg hh]; exact ⟨rfl, h⟩
  have hmd := isMap_delNext hm
  have hw := calm_write hd.2 (s := nxL) (mPut l) (by decide)
  have hc : ∀ (x : Int) (u : St), Calm u → Calm (mClean x u) := fun x u hu => by
    unfold mClean
    split
    · unfold St.delete
      rw [if_neg (by rw [hu.1]; decide)]
      split
      · exact burnt_calm hu
      · exact burnt_calm hu
    · exact hu
  have ht : OkFull (mTurn t l) := by
    unfold mTurn
    rw [if_neg (by show ¬ (delNext t).1 ≠ 0; rw [hd.1]; decide)]
    by_cases h1 : mAns t l 1 ≠ 0
    · rw [if_pos h1]; exact hw
    · rw [if_neg h1]
      have h1 : mAns t l 1 = 0 := by simpa using h1
      have hwy := write_yes hmd nxL (mPut l) h1
      have hs := calm_sync hw.2 (s := nxL) (by rw [hwy]; rfl)
      rw [if_neg (by show ¬ (St.sync _ nxL).1 ≠ 0; exact fun e => e hs.1)]
      obtain ⟨f, _, hf⟩ := sync_yes (isMap_write hmd _ _) nxL hs.1
      have hr := calm_rename (z := mfL) hs.2 (by decide) (s := nxL) (by rw [hf]; rfl)
      exact ⟨.inl hr.1, hr.2⟩
  unfold mSwap
  rw [if_pos hok]
  exact ⟨ht.1, hc _ _ ht.2⟩
/-- So does laying a segment. -/
theorem calm_lay {g : Lg} {t : St} (hm : IsMap t.D) (h : Calm t) {first : Int} (hr : 0 ≤ first ∧ first ≤ 1073741824) (hok : mOk (g.segs ++ [first]) = true) : ((lgLay g t first).1 = 0 ∨ (lgLay g t first).1 = 5) ∧ Calm (lgLay g t first).2.1 := by
  have hd := calm_drop h (nm first)
  have hmd : IsMap (t.drop (nm first)).2.D := isMap_drop hm _
  have hp : OkFull (lgPre t first) := by
    refine thenSt_full (thenSt_full ⟨.inl hd.1, hd.2⟩ fun _ => calm_write hd.2 _ (nm_ok hr)) fun e => ?_
    obtain ⟨_, e2, e3⟩ := thenSt_yes e
    have hw := calm_write hd.2 (hdo first) (nm_ok hr)
    rw [e2]
    have := calm_sync hw.2 (s := nm first) (by rw [write_yes hmd _ _ e3]; rfl)
    exact ⟨.inl this.1, this.2⟩
  have ht : OkFull (lgTry g t first) := by
    rw [try_pre]
    exact thenSt_full hp fun _ => calm_swap (pre_map hm first) hp.2 hok
  unfold lgLay
  simp only
  by_cases e : (lgTry g t first).1 = 0
  · rw [if_pos e]; exact ⟨.inl rfl, ht.2⟩
  · rw [if_neg e]
    have h5 : (lgTry g t first).1 = 5 := ht.1.resolve_left e
    rw [if_neg (by rw [h5]; decide)]
    refine ⟨.inr h5, ?_⟩
    show Calm (St.delete _ _).2
    unfold St.delete
    rw [if_neg (by rw [ht.2.1]; decide)]
    split
    · exact burnt_calm ht.2
    · exact burnt_calm ht.2
end
section
set_option linter.unusedSimpArgs false
set_option linter.unusedVariables false
open Go.RowKit Go.Sort Go.Maps
open Crc Frm
open Sgn

theorem open_new (room : Nat) {size : Int} (h1 : 64 ≤ size) (h2 : size ≤ 65536) :
    ((lgOpen size ⟨.map [], room, -1, 0⟩).2.2 = none ∧ (lgOpen size ⟨.map [], room, -1, 0⟩).1 = 5) ∨ ∃ t', lgOpen size ⟨.map [], room, -1, 0⟩ = (0, t', some ⟨[0], 0⟩) ∧ LDur ⟨[0], 0⟩ t' [] 0 := by
  obtain ⟨t, ht⟩ : ∃ t : St, t = ⟨.map [], room, -1, 0⟩ := ⟨_, rfl⟩
  have hm : IsMap t.D := by rw [ht]; exact ⟨[], rfl⟩
  have hl : (mLoad t).1 = [] := by rw [ht]; rfl
  have hc : (lgClean ⟨[], 0⟩ t).2 = t ∧ (lgClean ⟨[], 0⟩ t).1 = 0 := by rw [ht]; exact ⟨rfl, rfl⟩
  have hcalm : Calm t := by rw [ht]; exact ⟨rfl, rfl⟩
  rw [← ht]
  have hrs : lgRestore t = lgLay ⟨[], 0⟩ t 0 := by
    have h2 : ¬ (lgClean ⟨[], 0⟩ t).1 ≠ 0 := by rw [hc.2]; decide
    unfold lgRestore
    rw [hl]
    show (if ([] : List Int) = [] then _ else _) = _
    rw [if_pos rfl]
    show (if (lgClean ⟨[], 0⟩ t).1 ≠ 0 then _ else lgLay ⟨[], 0⟩ (lgClean ⟨[], 0⟩ t).2 0) = _
    rw [if_neg h2, hc.1]
  have hlay := calm_lay (g := ⟨[], 0⟩) hm hcalm (first := 0) ⟨by decide, by decide⟩ (by decide)
  have hop : lgOpen size t = (let s := thenSt (thenSt ((lgLay ⟨[], 0⟩ t 0).1, (lgLay ⟨[], 0⟩ t 0).2.1) fun t => t.drop fxL) fun t => t.drop nxL
      if s.1 ≠ 0 then (s.1, s.2, none) else (0, s.2, some (lgLay ⟨[], 0⟩ t 0).2.2)) := by
    unfold lgOpen
    rw [if_neg (by omega), hrs]
  rcases hlay.1 with h0 | h5
  · right
    have e1 : thenSt ((lgLay ⟨[], 0⟩ t 0).1, (lgLay ⟨[], 0⟩ t 0).2.1) (fun t => t.drop fxL) = (lgLay ⟨[], 0⟩ t 0).2.1.drop fxL := if_neg (by simp [h0])
    have d1 := calm_drop hlay.2 fxL
    have e2 : thenSt ((lgLay ⟨[], 0⟩ t 0).2.1.drop fxL) (fun t => t.drop nxL) = ((lgLay ⟨[], 0⟩ t 0).2.1.drop fxL).2.drop nxL := if_neg (by simp [d1.1])
    have d2 := calm_drop d1.2 nxL
    have hg := (lay_begins hm h0).2
    rw [e1, e2, hg] at hop
    simp only [d2.1] at hop
    rw [if_neg (by simp)] at hop
    have hd := open_begins_dur (size := size) (g := ⟨[0], 0⟩) hm hl (by rw [hop]) hc
    rw [hop] at hd
    exact ⟨_, hop, hd⟩
  · left
    have e1 : thenSt ((lgLay ⟨[], 0⟩ t 0).1, (lgLay ⟨[], 0⟩ t 0).2.1) (fun t => t.drop fxL) = ((lgLay ⟨[], 0⟩ t 0).1, (lgLay ⟨[], 0⟩ t 0).2.1) := if_pos (by simp [h5])
    have e2 : thenSt ((lgLay ⟨[], 0⟩ t 0).1, (lgLay ⟨[], 0⟩ t 0).2.1) (fun t => t.drop nxL) = ((lgLay ⟨[], 0⟩ t 0).1, (lgLay ⟨[], 0⟩ t 0).2.1) := if_pos (by simp [h5])
    rw [e1, e2] at hop
    simp only [h5] at hop
    rw [if_pos (by simp)] at hop
    rw [hop]
    exact ⟨rfl, rfl⟩
theorem LDur.few {g : Lg} {t : St} {fs : List Fr} {S : Int} (h : LDur g t fs S) : g.segs ≠ [] ∧ g.segs.length ≤ 40 := ⟨h.inv.chain.ne, (mOk_all h.ok).2.1⟩
theorem append_next {size : Nat} {g : Lg} {t : St} {kind : Int} {body : List Nat} (h : (lgAppend size g t kind body).1.2 = 0) : 0 ≤ g.next ∧ g.next ≤ 1073741824 := by
  unfold lgAppend at h
  simp only at h
  by_cases hr : (⟨kind, g.next, body⟩ : Fr).right
  · exact ⟨hr.2.2.1, hr.2.2.2.1⟩
  · rw [if_pos hr] at h
    cases h
/-- What a call but a crash leaves: what lasts, and what the law asks of it. -/
theorem LDur.do_ {g : Lg} {t : St} {fs : List Fr} {S : Int} (h : LDur g t fs S) (size : Nat) (op : OgV) :
    ∃ fs' S', LDur (lgDo size g t op).2.2 (lgDo size g t op).2.1 fs' S' ∧
      ((lgDo size g t op).1.2 ≠ 0 → (lgDo size g t op).1.1 = 0 ∧ (lgDo size g t op).2.2.next = g.next ∧ (op.what ≠ 6 → fs' = fs)) ∧
      ((op.what < 4 ∨ 9 < op.what) → (lgDo size g t op).1.2 = 0 → (lgDo size g t op).1.1 = g.next ∧ (lgDo size g t op).2.2.next = g.next + 1 ∧ fs' = fs ++ [⟨op.kind, g.next, op.bs⟩] ∧ 0 ≤ g.next ∧ g.next ≤ 1073741824) := by
  unfold lgDo
  by_cases h45 : op.what = 4 ∨ op.what = 5
  · rw [if_pos h45]
    have hno : ¬ (op.what < 4 ∨ 9 < op.what) := by omega
    have hs := h.sync
    by_cases h0 : (lgSync g t).1 = 0
    · exact ⟨fs, g.next, (hs.1 h0).1, fun hh => absurd h0 hh, fun hh => absurd hh hno⟩
    · exact ⟨fs, S, hs.2 h0, fun _ => ⟨rfl, rfl, fun _ => rfl⟩, fun hh => absurd hh hno⟩
  rw [if_neg h45]
  by_cases h6 : op.what = 6
  · rw [if_pos h6]
    have hno : ¬ (op.what < 4 ∨ 9 < op.what) := by omega
    obtain ⟨a, b, hab, hd⟩ := h.retain op.n
    obtain ⟨k, _, _, _, _, _, _, hg, _⟩ := h.inv.retain op.n
    exact ⟨b, S, hd, fun _ => ⟨rfl, by show (lgRetain g t op.n).2.2.next = _; rw [hg], fun hh => absurd h6 hh⟩, fun hh => absurd hh hno⟩
  rw [if_neg h6]
  by_cases h7 : op.what = 7
  · rw [if_pos h7]
    have hno : ¬ (op.what < 4 ∨ 9 < op.what) := by omega
    exact ⟨fs, S, h.fuse op.n, fun hh => absurd rfl hh, fun hh => absurd hh hno⟩
  rw [if_neg h7]
  by_cases h8 : op.what = 8
  · rw [if_pos h8]
    have hno : ¬ (op.what < 4 ∨ 9 < op.what) := by omega
    exact ⟨fs, S, h.fail op.n, fun hh => absurd rfl hh, fun hh => absurd hh hno⟩
  rw [if_neg h8]
  have hd := h.append size op.kind op.bs
  have hi := h.inv.append size op.kind op.bs
  by_cases h0 : (lgAppend size g t op.kind op.bs).1.2 = 0
  · obtain ⟨i1, i2, _⟩ := hi.2 h0
    exact ⟨_, S, hd.2 h0, fun hh => absurd h0 hh, fun _ _ => ⟨i1, i2, rfl, append_next h0⟩⟩
  · obtain ⟨i1, i2, _⟩ := hi.1 h0
    exact ⟨fs, S, hd.1 h0, fun _ => ⟨i1, i2, fun _ => rfl⟩, fun _ hh => absurd hh h0⟩
end
section
set_option linter.unusedSimpArgs false
set_option linter.unusedVariables false
open Go.RowKit Go.Sort Go.Maps
open Crc Frm
open Sgn

theorem fl_ok {D : FS} {room : Nat} (h : Good D room) (s : List UInt8) : ((fat D s).getD Fl.zero).l ≤ ((fat D s).getD Fl.zero).bs.length := by
  cases hf : fat D s with
  | none => exact Nat.le_refl _
  | some f => exact (h.at_ hf).2.1
section
variable {t : St}
theorem good_delete (h : Good t.D t.room) (s : List UInt8) : Good (t.delete s).2.D (t.delete s).2.room := by
  unfold St.delete
  split
  · exact h
  split
  · exact h
  · exact h.del s
theorem good_drop (h : Good t.D t.room) (s : List UInt8) : Good (t.drop s).2.D (t.drop s).2.room := by
  unfold St.drop
  split
  · exact good_delete h s
  · exact h
theorem good_writeS (h : Good t.D t.room) (s : List UInt8) {b : List Nat} (hb : ∀ c ∈ b, c < 256) : Good (t.write s b).2.D (t.write s b).2.room := by
  unfold St.write
  split
  · exact h
  split
  · exact h
  split
  · exact h
  · rename_i h1 h2 h3
    exact good_write h hb (by simpa using h2) (by simpa using h3) (fat_byte h s) (fl_ok h s)
theorem good_sync (h : Good t.D t.room) (s : List UInt8) : Good (t.sync s).2.D (t.sync s).2.room := by
  unfold St.sync
  split
  · exact h
  cases hf : fat t.D s with
  | none => exact h
  | some f =>
    simp only
    split
    · exact h
    · obtain ⟨k1, k2, k3, k4⟩ := h.at_ hf
      exact h.put k1 (Nat.le_refl _) k3 (.inl (by rw [hf]; rfl)) (by rw [hf]; have := h.tot_; show _ ≤ _ + f.bs.length; simp only; omega)
theorem good_renameS (h : Good t.D t.room) (s z : List UInt8) : Good (t.rename s z).2.D (t.rename s z).2.room := by
  unfold St.rename
  split
  · exact h
  split
  · exact h
  · rename_i h1 h2
    cases hf : fat t.D s with
    | none => exact h
    | some f => exact good_rename h hf (by simpa using h2)
end
theorem good_mend {g : Lg} {good : Option (List Nat)} {t : St} (h : Good t.D t.room) (hb : ∀ b, good = some b → ∀ c ∈ b, c < 256) : Good (lgMend g good t).2.D (lgMend g good t).2.room := by
  cases good with
  | none => exact h
  | some b =>
    exact thenSt_keep (P := fun u => Good u.D u.room) (thenSt_keep (P := fun u => Good u.D u.room) (thenSt_keep (P := fun u => Good u.D u.room) (good_drop h _) (fun u hu => good_writeS hu _ (hb b rfl))) (fun u hu => good_sync hu _)) (fun u hu => good_renameS hu _ _)
theorem find_byte {t : St} (h : Good t.D t.room) : ∀ (l : List Int) (g : Lg) b, (lgFind t l g).2 = some b → ∀ c ∈ b, c < 256
  | [], g, b, hb => by simp [lgFind] at hb
  | x :: l, g, b, hb => by
    unfold lgFind at hb
    simp only at hb
    split at hb
    · cases hb
    · split at hb
      · injection hb with hb
        intro c hc
        rw [← hb] at hc
        exact fat_byte h _ c (List.mem_of_mem_take hc)
      · exact find_byte h l _ b hb
theorem delAll_calm : ∀ (l : List (List UInt8)) (t : St), Calm t → (∀ s ∈ l, (fat t.D s).isSome = true) → l.Nodup → (delAll l t).1 = 0 ∧ Calm (delAll l t).2
  | [], t, hc, _, _ => ⟨rfl, hc⟩
  | s :: l, t, hc, hs, hn => by
    obtain ⟨n1, n2⟩ := List.nodup_cons.1 hn
    have hd := calm_delete hc (s := s) (hs s (by simp))
    have e : delAll (s :: l) t = delAll l (t.delete s).2 := by
      show thenSt (t.delete s) (delAll l) = _
      unfold thenSt
      rw [if_neg (by simp [hd.1])]
    rw [e]
    refine delAll_calm l _ hd.2 (fun s' hs' => ?_) n2
    rw [fat_delete_other t (show s' ≠ s from fun h => n1 (h ▸ hs'))]
    exact hs s' (by simp [hs'])
theorem names_nodup {D : FS} {room : Nat} (h : Good D room) : (strKeys D).Nodup := by
  rw [strKeys_keysL, List.nodup_iff_pairwise_ne, List.pairwise_map]
  refine (keysL_sorted h.canon).imp_of_mem (fun {a b} ha hb hab => ?_)
  obtain ⟨x, rfl⟩ := h.strs a ((keysL_mem h.canon a).1 ha)
  obtain ⟨y, rfl⟩ := h.strs b ((keysL_mem h.canon b).1 hb)
  intro e
  have e' : x = y := e
  subst e'
  simp [Lit.before, Go.WideAt.bytes_irrefl] at hab
theorem clean_calm {g : Lg} {t : St} (hc : Calm t) (h : Good t.D t.room) : (lgClean g t).1 = 0 ∧ Calm (lgClean g t).2 :=
  delAll_calm _ t hc (fun s hs => (names_mem h s).1 ((List.mem_filter.1 hs).1)) ((names_nodup h).filter _)
/-- Open behind a crash: done, or no room. -/
theorem LDur.crash_err {g : Lg} {t : St} {fs : List Fr} {S : Int} (h : LDur g t fs S) (hG : Good t.D t.room) (ks : List Int) (hG' : Good (t.crash ks).D (t.crash ks).room) {size : Int} (hs : ¬ (size < 64 ∨ 65536 < size)) (ho : (lgOpen size (t.crash ks)).2.2 = none) :
    (lgOpen size (t.crash ks)).1 = 5 := by
  have hm' : IsMap (t.crash ks).D := canon_map hG'.canon
  obtain ⟨f, b0, p, hf, hs0, h12, hp, hpe, hS⟩ := h.last
  obtain ⟨m, m1, m2, m3⟩ := crash_some hG ks hf
  have hl : (mLoad (t.crash ks)).1 = g.segs := by rw [load_has h.ok (has_crash hG ks h.list)]
  have hb : t.bytes (nm (g.segs.getLastD 0)) = f.bs := by unfold St.bytes; rw [hf]; rfl
  have hdn : ∀ x ∈ g.segs, x ≠ g.segs.getLastD 0 → ∃ fx, fat t.D (nm x) = some fx ∧ fat (t.crash ks).D (nm x) = some ⟨fx.bs, fx.bs.length⟩ := fun x hx hne => by
    obtain ⟨fx, hfx, hfl⟩ := h.done x hx hne
    obtain ⟨k, k1, k2, k3⟩ := crash_some hG ks hfx
    rw [show k = fx.bs.length from by omega, List.take_length] at k3
    exact ⟨fx, hfx, k3⟩
  obtain ⟨a, b, j, good, _, _, _, _, q4, _, _⟩ := find_chain (t' := t.crash ks) m (by omega) h.inv.chain (fun x hx hne => by
      obtain ⟨fx, hfx, hfy⟩ := hdn x hx hne
      unfold St.fb
      rw [hfx, hfy]
      rfl) (by rw [hb]; unfold St.fb; rw [m3]; rfl) (by rw [hb]; exact m2) ⟨[], 0⟩ (.inl rfl)
  rw [List.nil_append] at q4
  obtain ⟨g0, hg0⟩ : ∃ g0 : Lg, g0 = ⟨g.segs, g.segs.headD 0 + ((a.length + j : Nat) : Int)⟩ := ⟨_, rfl⟩
  rw [← hg0] at q4
  have hsg : g0.segs = g.segs := by rw [hg0]
  have hlast : lgLast g0 = lgLast g := by unfold lgLast; rw [hsg]
  have hrl := h.range h.inv.chain.mem_last
  have hne := h.inv.chain.ne
  have hgb : ∀ b, good = some b → ∀ c ∈ b, c < 256 := fun b e => find_byte hG' g.segs ⟨[], 0⟩ b (by rw [q4]; exact e)
  have hcrash : Calm (t.crash ks) := crash_calm t ks
  generalize t.crash ks = t' at *
  have hrs : lgRestore t' = (let s := thenSt (thenSt (thenSt (0, t') (lgMend g0 good)) (lgClean g0)) (lgSync g0); (s.1, s.2, g0)) := by
    unfold lgRestore
    rw [hl]
    simp only
    rw [q4]
    simp only
    rw [if_neg (by rw [hsg]; exact hne), if_pos (by rw [hsg])]
  have hcalm : Calm t' := hcrash
  have k3 : thenSt (0, t') (lgMend g0 good) = lgMend g0 good t' := by unfold thenSt; rw [if_neg (by simp)]
  have hmd : OkFull (lgMend g0 good t') := calm_mend hm' hcalm (by rw [hlast]; exact nm_ok hrl)
  have hgm : Good (lgMend g0 good t').2.D (lgMend g0 good t').2.room := good_mend hG' hgb
  have hcl := clean_calm (g := g0) hmd.2 hgm
  have hR : OkFull (thenSt (thenSt (thenSt (0, t') (lgMend g0 good)) (lgClean g0)) (lgSync g0)) := by
    rw [k3]
    refine thenSt_full (thenSt_full hmd (fun _ => ⟨.inl hcl.1, hcl.2⟩)) (fun e => ?_)
    obtain ⟨d1, k2, _⟩ := thenSt_yes e
    rw [k2]
    have hlf : (fat (lgClean g0 (lgMend g0 good t').2).2.D (lgLast g0)).isSome = true := by
      rw [clean_fat g0 _ (s := lgLast g0) (.inr (by rw [hlast]; unfold lgLast; rw [fst_nm hrl.1 hrl.2, hsg]; exact h.inv.chain.mem_last))]
      cases good with
      | none =>
        show (fat t'.D (lgLast g0)).isSome = true
        rw [hlast]
        unfold lgLast
        rw [m3]
        rfl
      | some b =>
        have := mend_yes hm' d1
        unfold St.fb at this
        cases hq : fat (lgMend g0 (some b) t').2.D (lgLast g0) with
        | none => rw [hq] at this; cases this
        | some f => rfl
    have := calm_sync hcl.2 hlf
    exact ⟨.inl this.1, this.2⟩
  unfold lgOpen at ho ⊢
  rw [if_neg hs] at ho ⊢
  simp only at ho ⊢
  rw [hrs] at ho ⊢
  simp only at ho ⊢
  generalize thenSt (thenSt (thenSt (0, t') (lgMend g0 good)) (lgClean g0)) (lgSync g0) = R at *
  have d1 := calm_drop hR.2 fxL
  have d2 := calm_drop d1.2 nxL
  rcases hR.1 with h0 | h5
  · have e1 : thenSt (R.1, R.2) (fun t => t.drop fxL) = R.2.drop fxL := if_neg (by simp [h0])
    have e2 : thenSt (R.2.drop fxL) (fun t => t.drop nxL) = (R.2.drop fxL).2.drop nxL := if_neg (by simp [d1.1])
    rw [e1, e2, if_neg (by simp [d2.1])] at ho
    cases ho
  · have e1 : thenSt (R.1, R.2) (fun t => t.drop fxL) = (R.1, R.2) := if_pos (by simp [h5])
    have e2 : thenSt (R.1, R.2) (fun t => t.drop nxL) = (R.1, R.2) := if_pos (by simp [h5])
    rw [e1, e2, if_pos (by simp [h5])]
    exact h5
end
section
set_option linter.unusedSimpArgs false
set_option linter.unusedVariables false
open Go.RowKit Go.Sort Go.Maps
open Crc Frm
open Sgn

/-- All files but one last as a whole. -/
def StillBut (z : List UInt8) (t : St) : Prop := ∀ s f, s ≠ z → fat t.D s = some f → f.l = f.bs.length
/-- All files last as a whole. -/
def Still (t : St) : Prop := ∀ s f, fat t.D s = some f → f.l = f.bs.length
theorem still_crash {t : St} (h : Good t.D t.room) (ks : List Int) (h' : Good (t.crash ks).D (t.crash ks).room) : Still (t.crash ks) := fun s f hf => by
  have hs : (fat t.D s).isSome = true := (names_mem h s).1 (by
    have := (names_mem h' s).2 (by rw [hf]; rfl)
    rw [show (t.crash ks).D = crD ks (size t.D) t.D from rfl, names_crD] at this
    exact this)
  obtain ⟨f0, h0⟩ := Option.isSome_iff_exists.1 hs
  obtain ⟨n, n1, n2, n3⟩ := crash_some h ks h0
  rw [hf] at n3
  injection n3 with n3
  rw [n3, List.length_take]
  simp only
  omega
theorem fat_delete_same (t : St) (s : List UInt8) : fat (t.delete s).2.D s = fat t.D s ∨ fat (t.delete s).2.D s = none := by
  unfold St.delete
  by_cases h0 : t.fuse = 0
  · rw [if_pos h0]; exact .inl rfl
  · rw [if_neg h0]
    cases hf : fat t.D s with
    | none => exact .inl hf
    | some f => exact .inr (fat_del_same s)
theorem still_delete {t : St} (h : Still t) (z : List UInt8) : Still (t.delete z).2 := fun s f hf => by
  by_cases e : s = z
  · subst e
    rcases fat_delete_same t s with h1 | h1
    · exact h s f (h1 ▸ hf)
    · rw [h1] at hf; cases hf
  · rw [fat_delete_other t e] at hf; exact h s f hf
theorem still_drop {t : St} (h : Still t) (z : List UInt8) : Still (t.drop z).2 := by
  unfold St.drop
  by_cases e : t.has z = true
  · rw [if_pos e]; exact still_delete h z
  · rw [if_neg e]; exact h
theorem still_sync {t : St} (hm : IsMap t.D) (h : Still t) (z : List UInt8) : Still (t.sync z).2 := fun s f hf => by
  by_cases e : s = z
  · subst e
    by_cases h0 : (t.sync s).1 = 0
    · obtain ⟨f', _, h2⟩ := sync_yes hm s h0
      rw [h2] at hf
      injection hf with hf
      subst hf
      rfl
    · rw [sync_no t s s h0] at hf; exact h s f hf
  · rw [fat_sync_other t e] at hf; exact h s f hf
theorem still_synced {t : St} (hm : IsMap t.D) {z : List UInt8} (h : StillBut z t) (h0 : (t.sync z).1 = 0) : Still (t.sync z).2 := fun s f hf => by
  by_cases e : s = z
  · subst e
    obtain ⟨f', _, h2⟩ := sync_yes hm s h0
    rw [h2] at hf
    injection hf with hf
    subst hf
    rfl
  · rw [fat_sync_other t e] at hf; exact h s f e hf
theorem still_rename {t : St} (hm : IsMap t.D) (h : Still t) (x z : List UInt8) : Still (t.rename x z).2 := fun s f hf => by
  unfold St.rename at hf
  by_cases h0 : t.fuse = 0
  · rw [if_pos h0] at hf; exact h s f hf
  · rw [if_neg h0] at hf
    by_cases h1 : nmOk z = false
    · rw [if_pos h1] at hf; exact h s f hf
    · rw [if_neg h1] at hf
      cases hx : fat t.D x with
      | none => rw [hx] at hf; exact h s f hf
      | some f0 =>
        rw [hx] at hf
        change fat ((t.D.del _).put _ _) s = some f at hf
        by_cases e : s = z
        · subst e
          rw [fat_put_same (hm.del _)] at hf
          injection hf with hf
          subst hf
          exact h x _ hx
        · rw [fat_put_other e] at hf
          by_cases e2 : s = x
          · subst e2; rw [fat_del_same] at hf; cases hf
          · rw [fat_del_other e2] at hf; exact h s f hf
theorem still_mend {g : Lg} {good : Option (List Nat)} {t : St} (hm : IsMap t.D) (h : Still t) (h0 : (lgMend g good t).1 = 0) : Still (lgMend g good t).2 := by
  cases good with
  | none => exact h
  | some b =>
    change (thenSt (thenSt (thenSt (t.drop fxL) fun t => t.write fxL b) fun t => t.sync fxL) fun t => t.rename fxL (lgLast g)).1 = 0 at h0
    show Still (thenSt (thenSt (thenSt (t.drop fxL) fun t => t.write fxL b) fun t => t.sync fxL) fun t => t.rename fxL (lgLast g)).2
    obtain ⟨a1, e1, _⟩ := thenSt_yes h0
    obtain ⟨a2, e2, c2⟩ := thenSt_yes a1
    obtain ⟨_, e3, _⟩ := thenSt_yes a2
    rw [e1, e2, e3]
    rw [e3] at c2
    have m1 := isMap_drop hm fxL
    have m2 : IsMap ((t.drop fxL).2.write fxL b).2.D := isMap_write m1 fxL b
    refine still_rename (isMap_sync m2 fxL) (still_synced m2 (fun s f hs hf => ?_) c2) _ _
    rw [fat_write_other _ b hs] at hf
    exact still_drop h fxL s f hf
theorem delAll_still : ∀ (l : List (List UInt8)) {t : St}, Still t → Still (delAll l t).2 := fun l t h => delAll_keep (P := Still) (fun _ s h => still_delete h s) l t h
theorem delAll_none : ∀ (l : List (List UInt8)) {t : St} {s : List UInt8}, fat t.D s = none → fat (delAll l t).2.D s = none := fun l t s h => delAll_keep (P := fun t => fat t.D s = none) (fun t z h => by
  by_cases e : s = z
  · subst e
    rcases fat_delete_same t s with h1 | h1
    · exact h1.trans h
    · exact h1
  · exact (fat_delete_other t e).trans h) l t h
theorem delete_gone {t : St} {s : List UInt8} (h : (t.delete s).1 = 0) : fat (t.delete s).2.D s = none := by
  have := fb_delete_yes s h
  unfold St.fb at this
  cases hf : fat (t.delete s).2.D s with
  | none => rfl
  | some f => rw [hf] at this; cases this
theorem drop_gone {t : St} {s : List UInt8} (h : (t.drop s).1 = 0) : fat (t.drop s).2.D s = none := by
  have := fb_drop_yes s h
  unfold St.fb at this
  cases hf : fat (t.drop s).2.D s with
  | none => rfl
  | some f => rw [hf] at this; cases this
theorem delAll_gone : ∀ (l : List (List UInt8)) {t : St}, (delAll l t).1 = 0 → ∀ s ∈ l, fat (delAll l t).2.D s = none
  | [], _, _, _, hs => by simp at hs
  | z :: l, t, h, s, hs => by
    change (thenSt (t.delete z) (delAll l)).1 = 0 at h
    show fat (thenSt (t.delete z) (delAll l)).2.D s = none
    obtain ⟨a, e, c⟩ := thenSt_yes h
    rw [e]
    rcases List.mem_cons.1 hs with rfl | hs
    · exact delAll_none l (delete_gone a)
    · exact delAll_gone l c s hs
/-- No file's name is a segment's that is not listed. -/
def NoStray (g : Lg) (t : St) : Prop := ∀ s, (fst s).2 = true → (fst s).1 ∉ g.segs → fat t.D s = none
theorem clean_noStray {g : Lg} {t : St} (h : Good t.D t.room) (h0 : (lgClean g t).1 = 0) : NoStray g (lgClean g t).2 := fun s h1 h2 => by
  unfold lgClean at h0 ⊢
  by_cases hs : s ∈ strKeys t.D
  · exact delAll_gone _ h0 s (List.mem_filter.2 ⟨hs, by simp [h1, h2]⟩)
  · refine delAll_none _ ?_
    cases hf : fat t.D s with
    | none => rfl
    | some f => exact (hs ((names_mem h s).2 (by rw [hf]; rfl))).elim
theorem NoStray.stray {g : Lg} {t : St} (hn : NoStray g t) (h : Good t.D t.room) : lgStray g (strKeys t.D) = [] := by
  unfold lgStray
  rw [List.filter_eq_nil_iff]
  intro s hs hc
  simp only [Bool.and_eq_true, Bool.not_eq_true', List.contains_eq_mem, decide_eq_false_iff_not] at hc
  have := (names_mem h s).1 hs
  rw [hn s hc.1 hc.2] at this
  cases this
/-- A sync of a file that lasts changes no file. -/
theorem sync_still {t : St} (hm : IsMap t.D) (h : Still t) (z s : List UInt8) : fat (t.sync z).2.D s = fat t.D s := by
  by_cases e : s = z
  · subst e
    by_cases h0 : (t.sync s).1 = 0
    · obtain ⟨f, h1, h2⟩ := sync_yes hm s h0
      rw [h2, h1, ← h s f h1]
    · exact sync_no t s s h0
  · exact fat_sync_other t e
theorem sync_room (t : St) (s : List UInt8) : (t.sync s).2.room = t.room := by
  unfold St.sync
  by_cases h0 : t.fuse = 0
  · rw [if_pos h0]
  · rw [if_neg h0]
    cases fat t.D s with
    | none => rfl
    | some f =>
      by_cases h1 : 0 < t.fails
      · simp only; rw [if_pos h1]; rfl
      · simp only; rw [if_neg h1]; rfl
theorem find_all {t : St} {n : Int} : ∀ {l : List Int} {fs : List Fr}, Chain t l n fs → ∀ g : Lg, (g.segs = [] ∨ l.headD 0 = g.next) → lgFind t l g = (⟨g.segs ++ l, n⟩, none)
  | [], _, h, _, _ => h.elim
  | [x], fs, h, g, hg => by
    obtain ⟨hs, hn⟩ := h
    rw [find_whole hs [] hg, hn]
    rfl
  | x :: y :: l, fs, h, g, hg => by
    obtain ⟨a, b, rfl, h1, h3, h4, h2⟩ := h
    rw [find_whole h1 (y :: l) hg, find_all h2 ⟨g.segs ++ [x], x + (a.length : Int)⟩ (.inr h4), List.append_assoc]
    rfl
/-- Open of a disk on which all lasts and nothing is astray changes no file. -/
theorem open_still {g : Lg} {t : St} {fs : List Fr} (hc : Chain t g.segs g.next fs) (hk : mOk g.segs = true) (hl : Has t.D g.segs) (hq : Calm t) (hG : Good t.D t.room) (hS : Still t) (hN : NoStray g t)
    (hx : fat t.D fxL = none) (hy : fat t.D nxL = none) {size : Int} (hs : ¬ (size < 64 ∨ 65536 < size)) :
    ∃ t', lgOpen size t = (0, t', some g) ∧ t'.room = t.room ∧ Calm t' ∧ Good t'.D t'.room ∧ ∀ s, fat t'.D s = fat t.D s := by
  have hm : IsMap t.D := canon_map hG.canon
  have hload : (mLoad t).1 = g.segs := by rw [load_has hk hl]
  have hfind : lgFind t g.segs ⟨[], 0⟩ = (g, none) := find_all hc ⟨[], 0⟩ (.inl rfl)
  have hne := hc.ne
  have hlast : (fat t.D (lgLast g)).isSome = true := by
    obtain ⟨b, hb, _⟩ := hc.last_seg
    have := hb.file
    unfold St.fb at this
    unfold lgLast
    cases hf : fat t.D (nm (g.segs.getLastD 0)) with
    | none => rw [hf] at this; cases this
    | some f => rfl
  have hsy := calm_sync hq hlast
  have hrs : lgRestore t = (0, (t.sync (lgLast g)).2, g) := by
    unfold lgRestore
    rw [hload]
    simp only
    rw [hfind]
    simp only
    rw [if_neg hne, if_pos trivial]
    have e1 : thenSt (0, t) (lgMend g none) = (0, t) := rfl
    have e2 : thenSt (0, t) (lgClean g) = (0, t) := by
      unfold thenSt lgClean
      rw [if_neg (by simp), hN.stray hG]
      rfl
    rw [e1, e2]
    have e3 : thenSt (0, t) (lgSync g) = t.sync (lgLast g) := by
      unfold thenSt lgSync
      rw [if_neg (by simp)]
    rw [e3, hsy.1]
  have hf : ∀ s, fat (t.sync (lgLast g)).2.D s = fat t.D s := fun s => sync_still hm hS _ s
  have hd : ∀ z, fat t.D z = none → (t.sync (lgLast g)).2.drop z = (0, (t.sync (lgLast g)).2) := fun z hz => by
    unfold St.drop St.has
    rw [hf z, hz]
    rfl
  refine ⟨(t.sync (lgLast g)).2, ?_, sync_room t _, hsy.2, good_sync hG _, hf⟩
  unfold lgOpen
  rw [if_neg hs, hrs]
  simp only
  have e4 : thenSt (0, (t.sync (lgLast g)).2) (fun t => t.drop fxL) = (0, (t.sync (lgLast g)).2) := by
    unfold thenSt
    rw [if_neg (by simp)]
    exact hd fxL hx
  have e5 : thenSt (0, (t.sync (lgLast g)).2) (fun t => t.drop nxL) = (0, (t.sync (lgLast g)).2) := by
    unfold thenSt
    rw [if_neg (by simp)]
    exact hd nxL hy
  rw [e4, e5]
  simp
theorem drop_none {t : St} {s : List UInt8} (h : fat t.D s = none) (z : List UInt8) : fat (t.drop z).2.D s = none := by
  unfold St.drop
  by_cases e : t.has z = true
  · rw [if_pos e]
    by_cases e2 : s = z
    · subst e2
      rcases fat_delete_same t s with h1 | h1
      · exact h1.trans h
      · exact h1
    · exact (fat_delete_other t e2).trans h
  · rw [if_neg e]; exact h
/-- What an Open of a list that is found as a whole leaves, when it is done. -/
theorem open_leaves {t' : St} {l : List Int} {g0 g : Lg} {good : Option (List Nat)} {size : Int} (hG : Good t'.D t'.room) (hS : Still t') (hq : Calm t') (hn : nmOk (lgLast g0) = true) (hl : (mLoad t').1 = l) (hne : l ≠ []) (q4 : lgFind t' l ⟨[], 0⟩ = (g0, good)) (hsg : g0.segs = l) (ho : (lgOpen size t').2.2 = some g) :
    Still (lgOpen size t').2.1 ∧ NoStray g (lgOpen size t').2.1 ∧ fat (lgOpen size t').2.1.D fxL = none ∧ fat (lgOpen size t').2.1.D nxL = none ∧ Calm (lgOpen size t').2.1 := by
  obtain ⟨rfl, hm1, hs1, e⟩ := open_steps hl hne q4 hsg ho
  have hm : IsMap t'.D := canon_map hG.canon
  have c1 := (calm_mend (good := good) hm hq hn).2
  have G1 := good_mend (g := g) (good := good) hG (fun b hb => find_byte hG l ⟨[], 0⟩ b (by rw [q4]; exact hb))
  have S1 := still_mend hm hS hm1
  obtain ⟨c2e, c2⟩ := clean_calm (g := g) c1 G1
  have S2 : Still (lgClean g (lgMend g good t').2).2 := delAll_still _ S1
  have N2 := clean_noStray G1 c2e
  have m2 := clean_map g (mend_map (g := g) (good := good) hm)
  obtain ⟨f2, hf2, _⟩ := sync_yes m2 _ hs1
  have c3 : Calm (lgSync g (lgClean g (lgMend g good t').2).2).2 := (calm_sync c2 (s := lgLast g) (by rw [hf2]; rfl)).2
  have S3 : Still (lgSync g (lgClean g (lgMend g good t').2).2).2 := still_sync m2 S2 _
  have N3 : NoStray g (lgSync g (lgClean g (lgMend g good t').2).2).2 := fun s h1 h2 => (sync_still m2 S2 _ s).trans (N2 s h1 h2)
  have c4 := calm_drop c3 fxL
  have c5 := calm_drop c4.2 nxL
  rw [e]
  exact ⟨still_drop (still_drop S3 _) _, fun s h1 h2 => drop_none (drop_none (N3 s h1 h2) _) _, drop_none (drop_gone c4.1) _, drop_gone c5.1, c5.2⟩
/-- A crash of a disk on which all lasts changes no file. -/
theorem crash_still {t : St} (h : Good t.D t.room) (hS : Still t) (ks : List Int) (h' : Good (t.crash ks).D (t.crash ks).room) (s : List UInt8) : fat (t.crash ks).D s = fat t.D s := by
  cases hf : fat t.D s with
  | some f =>
    obtain ⟨n, n1, n2, n3⟩ := crash_some h ks hf
    have := hS s f hf
    rw [n3, show n = f.bs.length from by omega, List.take_length, ← this]
  | none =>
    cases hg : fat (t.crash ks).D s with
    | none => rfl
    | some f =>
      have := (names_mem h' s).2 (by rw [hg]; rfl)
      rw [show (t.crash ks).D = crD ks (size t.D) t.D from rfl, names_crD] at this
      have := (names_mem h s).1 this
      rw [hf] at this
      cases this
theorem look_fat {D : FS} {r : Nat} (h : Good D r) (k : Lit) (d : DataW Fl) : look D k = some d ↔ ∃ s f, k = .string s ∧ d = .held f ∧ fat D s = some f := by
  constructor
  · intro hd
    obtain ⟨s, f, e1, _, e2, _⟩ := h.files k d hd
    subst e1 e2
    exact ⟨s, f, rfl, rfl, by unfold fat; rw [hd]⟩
  · rintro ⟨s, f, rfl, rfl, hf⟩
    unfold fat at hf
    cases hl : look D (.string s) with
    | none => rw [hl] at hf; cases hf
    | some d =>
      obtain ⟨s', f', e1, _, e2, _⟩ := h.files _ d hl
      subst e2
      rw [hl] at hf
      injection hf with hf
      rw [hf]
/-- Disks of the same files are the same. -/
theorem fat_ext {D E : FS} {r r' : Nat} (hD : Good D r) (hE : Good E r') (h : ∀ s, fat D s = fat E s) : D = E := by
  have hk : ∀ k, look D k = look E k := fun k => by
    apply Option.ext
    intro d
    rw [look_fat hD, look_fat hE]
    constructor
    · rintro ⟨s, f, e1, e2, e3⟩; exact ⟨s, f, e1, e2, (h s).symm.trans e3⟩
    · rintro ⟨s, f, e1, e2, e3⟩; exact ⟨s, f, e1, e2, (h s).trans e3⟩
  exact Maps.ext hD.canon hE.canon (fun k => by rw [has_look, has_look, hk]) (fun k z _ => by rw [atKey_look, atKey_look, hk])
/-- A log's disk as an Open leaves it behind a crash. -/
structure Calmed (g : Lg) (t : St) (fs : List Fr) : Prop where
  chain : Chain t g.segs g.next fs
  ok : mOk g.segs = true
  list : Has t.D g.segs
  calm : Calm t
  still : Still t
  stray : NoStray g t
  fx : fat t.D fxL = none
  nx : fat t.D nxL = none
theorem Calmed.same {g : Lg} {t t' : St} {fs : List Fr} (h : Calmed g t fs) (e : t'.D = t.D) (hc : Calm t') : Calmed g t' fs :=
  ⟨h.chain.keep (fun x _ => by unfold St.fb; rw [e]), h.ok, e ▸ h.list, hc, fun s f hf => h.still s f (by rw [← e]; exact hf), fun s h1 h2 => by rw [e]; exact h.stray s h1 h2, by rw [e]; exact h.fx, by rw [e]; exact h.nx⟩
/-- Open again: done, and the disk is as it was. -/
theorem Calmed.open_ {g : Lg} {t : St} {fs : List Fr} (h : Calmed g t fs) (hG : Good t.D t.room) {size : Int} (hs : ¬ (size < 64 ∨ 65536 < size)) :
    ∃ t', lgOpen size t = (0, t', some g) ∧ t'.room = t.room ∧ t'.D = t.D ∧ Calmed g t' fs := by
  obtain ⟨t', e, hr, hc, hg, hf⟩ := open_still h.chain h.ok h.list h.calm hG h.still h.stray h.fx h.nx hs
  have hD := fat_ext hg hG hf
  exact ⟨t', e, hr, hD, h.same hD hc⟩
/-- A crash of it: the disk is as it was. -/
theorem Calmed.crash {g : Lg} {t : St} {fs : List Fr} (h : Calmed g t fs) (hG : Good t.D t.room) (ks : List Int) (hG' : Good (t.crash ks).D (t.crash ks).room) : (t.crash ks).D = t.D ∧ Calmed g (t.crash ks) fs := by
  have hD := fat_ext hG' hG (crash_still hG h.still ks hG')
  exact ⟨hD, h.same hD (crash_calm t ks)⟩
/-- What Open leaves behind a crash of a log. -/
theorem LDur.calmed {g : Lg} {t : St} {fs : List Fr} {S : Int} (h : LDur g t fs S) (hG : Good t.D t.room) (ks : List Int) (hG' : Good (t.crash ks).D (t.crash ks).room) {size : Int} {g' : Lg} (ho : (lgOpen size (t.crash ks)).2.2 = some g') :
    ∃ fs' rest, fs = fs' ++ rest ∧ Calmed g' (lgOpen size (t.crash ks)).2.1 fs' := by
  have hm' : IsMap (t.crash ks).D := canon_map hG'.canon
  obtain ⟨fs', rest, e1, e2, _, hd⟩ := h.reopen hG ks hm' ho
  obtain ⟨f, b0, p, hf, hs0, h12, hp, hpe, hS⟩ := h.last
  obtain ⟨m, m1, m2, m3⟩ := crash_some hG ks hf
  have hl : (mLoad (t.crash ks)).1 = g.segs := by rw [load_has h.ok (has_crash hG ks h.list)]
  have hb : t.bytes (nm (g.segs.getLastD 0)) = f.bs := by unfold St.bytes; rw [hf]; rfl
  obtain ⟨a, b, j, good, _, _, _, _, q4, _, _⟩ := find_chain (t' := t.crash ks) m (by omega) h.inv.chain (fun x hx hne => by
      obtain ⟨fx, hfx, hfl⟩ := h.done x hx hne
      obtain ⟨k, k1, k2, k3⟩ := crash_some hG ks hfx
      rw [show k = fx.bs.length from by omega, List.take_length] at k3
      unfold St.fb
      rw [hfx, k3]
      rfl) (by rw [hb]; unfold St.fb; rw [m3]; rfl) (by rw [hb]; exact m2) ⟨[], 0⟩ (.inl rfl)
  rw [List.nil_append] at q4
  obtain ⟨g0, hg0⟩ : ∃ g0 : Lg, g0 = ⟨g.segs, g.segs.headD 0 + ((a.length + j : Nat) : Int)⟩ := ⟨_, rfl⟩
  rw [← hg0] at q4
  have hsg : g0.segs = g.segs := by rw [hg0]
  have hlast : lgLast g0 = lgLast g := by unfold lgLast; rw [hsg]
  obtain ⟨l1, l2, l3, l4, l5⟩ := open_leaves hG' (still_crash hG ks hG') (crash_calm t ks) (by rw [hlast]; exact nm_ok (h.range h.inv.chain.mem_last)) hl h.inv.chain.ne q4 hsg ho
  exact ⟨fs', rest, e1, hd.inv.chain, hd.ok, hd.list, l5, l1, l2, l3, l4⟩
theorem calm_turn {t : St} (hm : IsMap t.D) (h : Calm t) (l : List Int) : OkFull (mTurn t l) := by
  have hd : (delNext t).1 = 0 ∧ Calm (delNext t).2 := by
    unfold delNext
    by_cases hh : (fat t.D nxL).isSome = true
    · rw [if_pos hh]; exact calm_delete h hh
    · rw [if_neg hh]; exact ⟨rfl, h⟩
  have hmd := isMap_delNext hm
  have hw := calm_write hd.2 (s := nxL) (mPut l) (by decide)
  unfold mTurn
  rw [if_neg (by show ¬ (delNext t).1 ≠ 0; rw [hd.1]; decide)]
  by_cases h1 : mAns t l 1 ≠ 0
  · rw [if_pos h1]; exact hw
  · rw [if_neg h1]
    have h1 : mAns t l 1 = 0 := by simpa using h1
    have hwy := write_yes hmd nxL (mPut l) h1
    have hs := calm_sync hw.2 (s := nxL) (by rw [hwy]; rfl)
    rw [if_neg (by show ¬ (St.sync _ nxL).1 ≠ 0; exact fun e => e hs.1)]
    obtain ⟨f, _, hf⟩ := sync_yes (isMap_write hmd _ _) nxL hs.1
    have hr := calm_rename (z := mfL) hs.2 (by decide) (s := nxL) (by rw [hf]; rfl)
    exact ⟨.inl hr.1, hr.2⟩
theorem calm_gone {t : St} (h : Calm t) (s : List UInt8) : fat (t.delete s).2.D s = none := by
  cases hf : fat t.D s with
  | none =>
    rcases fat_delete_same t s with h1 | h1
    · exact h1.trans hf
    · exact h1
  | some f => exact delete_gone (calm_delete h (by rw [hf]; rfl)).1
/-- A Swap that finds no room leaves all files as they were. -/
theorem swap_no {t : St} (hm : IsMap t.D) (h : Calm t) {l : List Int} (h0 : (mSwap t l).1 ≠ 0) (hok : mOk l = true) (hn : fat t.D nxL = none) (s : List UInt8) : fat (mSwap t l).2.D s = fat t.D s := by
  by_cases e1 : s = mfL
  · rw [e1]; exact swap_keeps t l h0
  · by_cases e2 : s = nxL
    · subst e2
      have ht := calm_turn hm h l
      unfold mSwap at h0 ⊢
      rw [if_pos hok] at h0 ⊢
      have h5 : (mTurn t l).1 = 5 := ht.1.resolve_left h0
      show fat (mClean (mTurn t l).1 (mTurn t l).2).D nxL = _
      unfold mClean
      rw [h5, if_pos (by decide), hn]
      exact calm_gone ht.2 _
    · exact fat_swap_other t l e1 e2
/-- So does laying a segment that finds no room, but for the segment's own name: no such file is left. -/
theorem lay_no {g : Lg} {t : St} (hm : IsMap t.D) (h : Calm t) {first : Int} (hr : 0 ≤ first ∧ first ≤ 1073741824) (hok : mOk (g.segs ++ [first]) = true) (hn : fat t.D nxL = none) (h0 : (lgLay g t first).1 ≠ 0) (s : List UInt8) :
    fat (lgLay g t first).2.1.D s = if s = nm first then none else fat t.D s := by
  have hd := calm_drop h (nm first)
  have hmd : IsMap (t.drop (nm first)).2.D := isMap_drop hm _
  have hp : OkFull (lgPre t first) := by
    refine thenSt_full (thenSt_full ⟨.inl hd.1, hd.2⟩ fun _ => calm_write hd.2 _ (nm_ok hr)) fun e => ?_
    obtain ⟨_, e2, e3⟩ := thenSt_yes e
    have hw := calm_write hd.2 (hdo first) (nm_ok hr)
    rw [e2]
    have := calm_sync hw.2 (s := nm first) (by rw [write_yes hmd _ _ e3]; rfl)
    exact ⟨.inl this.1, this.2⟩
  have ht : OkFull (lgTry g t first) := by
    rw [try_pre]
    exact thenSt_full hp fun _ => calm_swap (pre_map hm first) hp.2 hok
  have hpo : ∀ z, z ≠ nm first → fat (lgPre t first).2.D z = fat t.D z := fun z hz =>
    thenSt_keep (P := fun u => fat u.D z = fat t.D z) (thenSt_keep (P := fun u => fat u.D z = fat t.D z) (fat_drop_other t hz) (fun u hu => (fat_write_other u _ hz).trans hu)) (fun u hu => (fat_sync_other u hz).trans hu)
  unfold lgLay at h0 ⊢
  simp only at h0 ⊢
  by_cases e : (lgTry g t first).1 = 0
  · rw [if_pos e] at h0; exact (h0 rfl).elim
  · rw [if_neg e]
    have h5 : (lgTry g t first).1 = 5 := ht.1.resolve_left e
    rw [if_neg (by rw [h5]; decide)]
    show fat (St.delete _ _).2.D s = _
    by_cases es : s = nm first
    · rw [if_pos es, es]; exact calm_gone ht.2 _
    · rw [if_neg es, fat_delete_other _ es, try_pre]
      by_cases ep : (lgPre t first).1 = 0
      · have hth : thenSt (lgPre t first) (fun t => mSwap t (g.segs ++ [first])) = mSwap (lgPre t first).2 (g.segs ++ [first]) := if_neg (by simp [ep])
        rw [hth]
        rw [try_pre, hth] at e
        rw [swap_no (pre_map hm first) hp.2 e hok ((hpo nxL (fun e => nm_ne_nx first hr e.symm)).trans hn), hpo s es]
      · have hth : thenSt (lgPre t first) (fun t => mSwap t (g.segs ++ [first])) = lgPre t first := if_pos ep
        rw [hth]
        exact hpo s es
/-- A first Open of a new disk that finds no room leaves no file. -/
theorem open_new_none {room : Nat} {size : Int} (h1 : 64 ≤ size) (h2 : size ≤ 65536) (h0 : (lgOpen size ⟨.map [], room, -1, 0⟩).2.2 = none) (s : List UInt8) : fat (lgOpen size ⟨.map [], room, -1, 0⟩).2.1.D s = none := by
  obtain ⟨t, ht⟩ : ∃ t : St, t = ⟨.map [], room, -1, 0⟩ := ⟨_, rfl⟩
  have hm : IsMap t.D := by rw [ht]; exact ⟨[], rfl⟩
  have hl : (mLoad t).1 = [] := by rw [ht]; rfl
  have hc : (lgClean ⟨[], 0⟩ t).2 = t ∧ (lgClean ⟨[], 0⟩ t).1 = 0 := by rw [ht]; exact ⟨rfl, rfl⟩
  have hcalm : Calm t := by rw [ht]; exact ⟨rfl, rfl⟩
  have hno : ∀ z, fat t.D z = none := fun z => by rw [ht]; rfl
  rw [← ht] at h0 ⊢
  have hrs : lgRestore t = lgLay ⟨[], 0⟩ t 0 := by
    have h2 : ¬ (lgClean ⟨[], 0⟩ t).1 ≠ 0 := by rw [hc.2]; decide
    unfold lgRestore
    rw [hl]
    show (if ([] : List Int) = [] then _ else _) = _
    rw [if_pos rfl]
    show (if (lgClean ⟨[], 0⟩ t).1 ≠ 0 then _ else lgLay ⟨[], 0⟩ (lgClean ⟨[], 0⟩ t).2 0) = _
    rw [if_neg h2, hc.1]
  have hlay := calm_lay (g := ⟨[], 0⟩) hm hcalm (first := 0) ⟨by decide, by decide⟩ (by decide)
  have hop : lgOpen size t = (let s := thenSt (thenSt ((lgLay ⟨[], 0⟩ t 0).1, (lgLay ⟨[], 0⟩ t 0).2.1) fun t => t.drop fxL) fun t => t.drop nxL
      if s.1 ≠ 0 then (s.1, s.2, none) else (0, s.2, some (lgLay ⟨[], 0⟩ t 0).2.2)) := by
    unfold lgOpen
    rw [if_neg (by omega), hrs]
  rcases hlay.1 with e0 | h5
  · exfalso
    have e1 : thenSt ((lgLay ⟨[], 0⟩ t 0).1, (lgLay ⟨[], 0⟩ t 0).2.1) (fun t => t.drop fxL) = (lgLay ⟨[], 0⟩ t 0).2.1.drop fxL := if_neg (by simp [e0])
    have d1 := calm_drop hlay.2 fxL
    have e2 : thenSt ((lgLay ⟨[], 0⟩ t 0).2.1.drop fxL) (fun t => t.drop nxL) = ((lgLay ⟨[], 0⟩ t 0).2.1.drop fxL).2.drop nxL := if_neg (by simp [d1.1])
    have d2 := calm_drop d1.2 nxL
    rw [e1, e2] at hop
    simp only [d2.1] at hop
    rw [if_neg (by simp)] at hop
    rw [hop] at h0
    cases h0
  · have e1 : thenSt ((lgLay ⟨[], 0⟩ t 0).1, (lgLay ⟨[], 0⟩ t 0).2.1) (fun t => t.drop fxL) = ((lgLay ⟨[], 0⟩ t 0).1, (lgLay ⟨[], 0⟩ t 0).2.1) := if_pos (by simp [h5])
    have e2 : thenSt ((lgLay ⟨[], 0⟩ t 0).1, (lgLay ⟨[], 0⟩ t 0).2.1) (fun t => t.drop nxL) = ((lgLay ⟨[], 0⟩ t 0).1, (lgLay ⟨[], 0⟩ t 0).2.1) := if_pos (by simp [h5])
    rw [e1, e2] at hop
    simp only [h5] at hop
    rw [if_pos (by simp)] at hop
    rw [hop]
    show fat (lgLay ⟨[], 0⟩ t 0).2.1.D s = none
    rw [lay_no hm hcalm ⟨by decide, by decide⟩ (by decide) (hno _) (by rw [h5]; decide) s]
    split
    · rfl
    · exact hno s
theorem delete_room (t : St) (s : List UInt8) : (t.delete s).2.room = t.room := by
  unfold St.delete
  (repeat' split) <;> rfl
theorem drop_room (t : St) (s : List UInt8) : (t.drop s).2.room = t.room := by
  unfold St.drop
  split
  · exact delete_room t s
  · rfl
theorem write_room (t : St) (s : List UInt8) (b : List Nat) : (t.write s b).2.room = t.room := by
  unfold St.write
  (repeat' split) <;> rfl
theorem lay_room (g : Lg) (t : St) (first : Int) : (lgLay g t first).2.1.room = t.room := by
  have h : (lgTry g t first).2.room = t.room :=
    thenSt_keep (P := fun u => u.room = t.room) (thenSt_keep (P := fun u => u.room = t.room) (thenSt_keep (P := fun u => u.room = t.room) (drop_room t _) (fun u hu => (write_room u _ _).trans hu)) (fun u hu => (sync_room u _).trans hu)) (fun u hu => (room_swap u _).trans hu)
  unfold lgLay
  simp only
  split
  · exact h
  · split
    · exact h
    · exact (delete_room _ _).trans h
theorem open_new_room {room : Nat} {size : Int} (h1 : 64 ≤ size) (h2 : size ≤ 65536) : (lgOpen size ⟨.map [], room, -1, 0⟩).2.1.room = room := by
  have hrs : lgRestore ⟨.map [], room, -1, 0⟩ = lgLay ⟨[], 0⟩ ⟨.map [], room, -1, 0⟩ 0 := rfl
  have h : ∀ u : Int × St, (thenSt (thenSt u fun t => t.drop fxL) fun t => t.drop nxL).2.room = u.2.room := fun u =>
    thenSt_keep (P := fun v => v.room = u.2.room) (thenSt_keep (P := fun v => v.room = u.2.room) rfl (fun v hv => (drop_room v _).trans hv)) (fun v hv => (drop_room v _).trans hv)
  have hl := lay_room ⟨[], 0⟩ ⟨.map [], room, -1, 0⟩ 0
  unfold lgOpen
  rw [if_neg (by omega), hrs]
  simp only
  split
  · exact (h _).trans hl
  · exact (h _).trans hl
/-- A crash behind a first Open that found no room: the disk is new again. -/
theorem open_new_crash {room : Nat} (hr : room ≤ 1048576) {size : Int} (h1 : 64 ≤ size) (h2 : size ≤ 65536) (h0 : (lgOpen size ⟨.map [], room, -1, 0⟩).2.2 = none) (hG : Good (lgOpen size ⟨.map [], room, -1, 0⟩).2.1.D (lgOpen size ⟨.map [], room, -1, 0⟩).2.1.room) (ks : List Int) :
    (lgOpen size ⟨.map [], room, -1, 0⟩).2.1.crash ks = ⟨.map [], room, -1, 0⟩ := by
  have hD := fat_ext hG (Good.empty hr) (fun s => (open_new_none h1 h2 h0 s).trans rfl)
  have hR := open_new_room (room := room) h1 h2
  unfold St.crash
  rw [hD, hR]
  rfl
end
section
set_option linter.unusedSimpArgs false
set_option linter.unusedVariables false
open Go.RowKit Go.Sort Go.Maps
open Crc Frm
open Sgn

/-- A disk whose files have at most b bytes. -/
def Slim (b : Nat) (t : St) : Prop := Good t.D t.room ∧ tot t.D ≤ b
theorem Slim.more {b c : Nat} {t : St} (h : Slim b t) (hc : b ≤ c) : Slim c t := ⟨h.1, Nat.le_trans h.2 hc⟩
theorem fat_look {D : FS} {r : Nat} (h : Good D r) {s : List UInt8} {f : Fl} (hf : fat D s = some f) : look D (.string s) = some (.held f) := (look_fat h _ _).2 ⟨s, f, rfl, rfl, hf⟩
theorem slim_delete {b : Nat} {t : St} (h : Slim b t) (s : List UInt8) : Slim b (t.delete s).2 := by
  refine ⟨good_delete h.1 s, ?_⟩
  have h2 := h.2
  have hd := tot_del (canon_tidy h.1.canon) (.string s)
  unfold St.delete
  by_cases h0 : t.fuse = 0
  · rw [if_pos h0]; exact h2
  · rw [if_neg h0]
    cases fat t.D s with
    | none => exact h2
    | some f => show tot (t.D.del (.string s)) ≤ b; omega
theorem slim_drop {b : Nat} {t : St} (h : Slim b t) (s : List UInt8) : Slim b (t.drop s).2 := by
  unfold St.drop
  split
  · exact slim_delete h s
  · exact h
theorem slim_sync {b : Nat} {t : St} (h : Slim b t) (s : List UInt8) : Slim b (t.sync s).2 := by
  refine ⟨good_sync h.1 s, ?_⟩
  have h2 := h.2
  unfold St.sync
  by_cases h0 : t.fuse = 0
  · rw [if_pos h0]; exact h2
  · rw [if_neg h0]
    cases hf : fat t.D s with
    | none => exact h2
    | some f =>
      have hp := tot_put (canon_tidy h.1.canon) (.string s) (.held ⟨f.bs, f.bs.length⟩)
      rw [fat_look h.1 hf] at hp
      have hp : tot (t.D.put (.string s) (.held ⟨f.bs, f.bs.length⟩)) + f.bs.length = tot t.D + f.bs.length := hp
      simp only
      split
      · exact h2
      · show tot (t.D.put (.string s) (.held ⟨f.bs, f.bs.length⟩)) ≤ b; omega
theorem slim_rename {b : Nat} {t : St} (h : Slim b t) (x z : List UInt8) : Slim b (t.rename x z).2 := by
  refine ⟨good_renameS h.1 x z, ?_⟩
  have h2 := h.2
  unfold St.rename
  by_cases h0 : t.fuse = 0
  · rw [if_pos h0]; exact h2
  · rw [if_neg h0]
    by_cases h1 : nmOk z = false
    · rw [if_pos h1]; exact h2
    · rw [if_neg h1]
      cases hf : fat t.D x with
      | none => exact h2
      | some f =>
        have hd := tot_del (canon_tidy h.1.canon) (.string x)
        rw [fat_look h.1 hf] at hd
        have hd : tot (t.D.del (.string x)) + f.bs.length = tot t.D := hd
        have hc : Canon (t.D.del (.string x)) := canon_del h.1.canon _
        have hp := tot_put (canon_tidy hc) (.string z) (.held f)
        have hp : tot ((t.D.del (.string x)).put (.string z) (.held f)) + ((look (t.D.del (.string x)) (.string z)).map lenOf).getD 0 = tot (t.D.del (.string x)) + f.bs.length := hp
        show tot ((t.D.del (.string x)).put (.string z) (.held f)) ≤ b
        omega
theorem slim_write {b : Nat} {t : St} (h : Slim b t) (s : List UInt8) {x : List Nat} (hx : ∀ c ∈ x, c < 256) : Slim (b + x.length) (t.write s x).2 := by
  refine ⟨good_writeS h.1 s hx, ?_⟩
  have h2 := h.2
  have hz : ((look t.D (.string s)).map lenOf).getD 0 = ((fat t.D s).getD Fl.zero).bs.length := by
    cases hf : fat t.D s with
    | some f => rw [fat_look h.1 hf]; rfl
    | none =>
      cases hl : look t.D (.string s) with
      | none => rfl
      | some d =>
        obtain ⟨s', f', e1, _, e3⟩ := (look_fat h.1 _ _).1 hl
        injection e1 with e1
        rw [← e1, hf] at e3
        cases e3
  have hp := fun d : Fl => tot_put (canon_tidy h.1.canon) (.string s) (.held d)
  unfold St.write
  split
  · show tot t.D ≤ _; omega
  split
  · show tot t.D ≤ _; omega
  split
  · show tot t.D ≤ _; omega
  · have := hp ⟨((fat t.D s).getD Fl.zero).bs ++ x, ((fat t.D s).getD Fl.zero).l⟩
    rw [hz] at this
    have hq : lenOf (.held ⟨((fat t.D s).getD Fl.zero).bs ++ x, ((fat t.D s).getD Fl.zero).l⟩) = ((fat t.D s).getD Fl.zero).bs.length + x.length := by simp [lenOf]
    rw [hq] at this
    show tot (t.D.put (.string s) (.held ⟨((fat t.D s).getD Fl.zero).bs ++ x, ((fat t.D s).getD Fl.zero).l⟩)) ≤ _
    omega
theorem slim_swap {b : Nat} {t : St} (h : Slim b t) (l : List Int) : Slim (b + 165) (mSwap t l).2 := by
  unfold mSwap
  by_cases hok : mOk l = true
  · rw [if_pos hok]
    have hP := mPut_le hok
    have s1 : Slim b (mSt t l 1) := slim_drop h nxL
    have s2 : Slim (b + 165) (mSt t l 2) := (slim_write s1 nxL (mPut_byte l)).more (by omega)
    have s3 : Slim (b + 165) (mSt t l 3) := slim_sync s2 nxL
    have s4 : Slim (b + 165) (mSt t l 4) := slim_rename s3 nxL mfL
    have hst : ∀ k, k ≤ 4 → Slim (b + 165) (mSt t l k) := fun k hk => by
      match k, hk with
      | 0, _ => exact h.more (by omega)
      | 1, _ => exact s1.more (by omega)
      | 2, _ => exact s2
      | 3, _ => exact s3
      | 4, _ => exact s4
    have ht : Slim (b + 165) (mTurn t l).2 := by
      rcases turn_cases t l with ⟨k, hk, _, _, e⟩ | ⟨_, e⟩
      · rw [e]; exact hst (k + 1) (by omega)
      · rw [e]; exact s4
    show Slim (b + 165) (mClean (mTurn t l).1 (mTurn t l).2)
    unfold mClean
    split
    · exact slim_delete ht nxL
    · exact ht
  · rw [if_neg hok]; exact h.more (by omega)
theorem thenSt_or {P Q : St → Prop} {r : Int × St} {f : St → Int × St} (h0 : ∀ t, P t → Q t) (h1 : P r.2) (h2 : ∀ t, P t → Q (f t).2) : Q (thenSt r f).2 := by
  unfold thenSt
  split
  · exact h0 _ h1
  · exact h2 _ h1
theorem slim_lay {b : Nat} {g : Lg} {t : St} (h : Slim b t) (first : Int) : Slim (b + 177) (lgLay g t first).2.1 := by
  have hb : (hdo first).length ≤ 12 ∧ ∀ c ∈ hdo first, c < 256 := by
    unfold hdo
    split
    · exact ⟨by rw [head_len]; omega, head_byte _⟩
    · exact ⟨by simp, by simp⟩
  have ht : Slim (b + 177) (lgTry g t first).2 := by
    refine thenSt_or (P := Slim (b + 12)) (fun u hu => hu.more (by omega)) ?_ (fun u hu => (slim_swap hu _).more (by omega))
    refine thenSt_keep (P := Slim (b + 12)) ?_ (fun u hu => slim_sync hu _)
    exact thenSt_or (P := Slim b) (fun u hu => hu.more (by omega)) (slim_drop h _) (fun u hu => (slim_write hu _ hb.2).more (by omega))
  unfold lgLay
  simp only
  split
  · exact ht
  · split
    · exact ht
    · exact slim_delete ht _
theorem slim_room {b size : Nat} {g : Lg} {t : St} (h : Slim b t) (more : Nat) : Slim (b + 177) (lgRoom size g t more).2.1 := by
  unfold lgRoom
  split
  · exact h.more (by omega)
  · split
    · exact h.more (by omega)
    · simp only
      split
      · exact (slim_sync h _).more (by omega)
      · exact slim_lay (slim_sync h _) _
/-- An Append writes at most its frame, a segment's head and a list. -/
theorem slim_append {b size : Nat} {g : Lg} {t : St} (h : Slim b t) (kind : Int) {body : List Nat} (hb : ∀ c ∈ body, c < 256) : Slim (b + 188 + body.length) (lgAppend size g t kind body).2.1 := by
  have hl : (put (⟨kind, g.next, body⟩ : Fr)).length ≤ 11 + body.length := by
    unfold put
    split
    · rw [raw_len]; show _ ≤ 11 + body.length; simp only; omega
    · simp
  have hp : ∀ c ∈ put (⟨kind, g.next, body⟩ : Fr), c < 256 := put_byte _ hb
  have hr := slim_room (size := size) (g := g) h (put (⟨kind, g.next, body⟩ : Fr)).length
  unfold lgAppend
  simp only
  split
  · exact h.more (by omega)
  · split
    · exact hr.more (by omega)
    · split
      · exact (slim_write hr _ hp).more (by omega)
      · exact (slim_write hr _ hp).more (by omega)
end
section
set_option linter.unusedSimpArgs false
set_option linter.unusedVariables false
open Go.RowKit Go.Sort Go.Maps
open Crc Frm
open Sgn

theorem ck_delete {t : St} (h : Calm t) (s : List UInt8) : Calm (t.delete s).2 := by
  unfold St.delete
  rw [if_neg (by rw [h.1]; decide)]
  split
  · exact burnt_calm h
  · exact burnt_calm h
theorem ck_drop {t : St} (h : Calm t) (s : List UInt8) : Calm (t.drop s).2 := by
  unfold St.drop
  split
  · exact ck_delete h s
  · exact h
theorem ck_write {t : St} (h : Calm t) (s : List UInt8) (b : List Nat) : Calm (t.write s b).2 := by
  unfold St.write
  rw [if_neg (by rw [h.1]; decide)]
  split
  · exact burnt_calm h
  split
  · exact burnt_calm h
  · exact burnt_calm h
theorem ck_sync {t : St} (h : Calm t) (s : List UInt8) : Calm (t.sync s).2 := by
  unfold St.sync
  rw [if_neg (by rw [h.1]; decide)]
  split
  · exact burnt_calm h
  · rw [if_neg (by rw [h.2]; decide)]
    exact burnt_calm h
theorem ck_rename {t : St} (h : Calm t) (x z : List UInt8) : Calm (t.rename x z).2 := by
  unfold St.rename
  rw [if_neg (by rw [h.1]; decide)]
  split
  · exact burnt_calm h
  · split
    · exact burnt_calm h
    · exact burnt_calm h
theorem ck_swap {t : St} (h : Calm t) (l : List Int) : Calm (mSwap t l).2 := by
  unfold mSwap
  split
  · have s1 : Calm (mSt t l 1) := ck_drop h nxL
    have s2 : Calm (mSt t l 2) := ck_write s1 nxL (mPut l)
    have s3 : Calm (mSt t l 3) := ck_sync s2 nxL
    have s4 : Calm (mSt t l 4) := ck_rename s3 nxL mfL
    have ht : Calm (mTurn t l).2 := by
      rcases turn_cases t l with ⟨k, hk, _, _, e⟩ | ⟨_, e⟩
      · rw [e]
        match k, hk with
        | 0, _ => exact s1
        | 1, _ => exact s2
        | 2, _ => exact s3
        | 3, _ => exact s4
      · rw [e]; exact s4
    show Calm (mClean (mTurn t l).1 (mTurn t l).2)
    unfold mClean
    split
    · exact ck_delete ht nxL
    · exact ht
  · exact h
theorem ck_lay {t : St} (h : Calm t) (g : Lg) (first : Int) : Calm (lgLay g t first).2.1 := by
  have ht : Calm (lgTry g t first).2 := thenSt_keep (P := Calm) (thenSt_keep (P := Calm) (thenSt_keep (P := Calm) (ck_drop h _) (fun u hu => ck_write hu _ _)) (fun u hu => ck_sync hu _)) (fun u hu => ck_swap hu _)
  unfold lgLay
  simp only
  split
  · exact ht
  · split
    · exact ht
    · exact ck_delete ht _
theorem ck_room {t : St} (h : Calm t) (size : Nat) (g : Lg) (more : Nat) : Calm (lgRoom size g t more).2.1 := by
  unfold lgRoom
  split
  · exact h
  · split
    · exact h
    · simp only
      split
      · exact ck_sync h _
      · exact ck_lay (ck_sync h _) _ _
theorem ck_append {t : St} (h : Calm t) (size : Nat) (g : Lg) (kind : Int) (body : List Nat) : Calm (lgAppend size g t kind body).2.1 := by
  have hr := ck_room h size g (put (⟨kind, g.next, body⟩ : Fr)).length
  unfold lgAppend
  simp only
  split
  · exact h
  · split
    · exact hr
    · split
      · exact ck_write hr _ _
      · exact ck_write hr _ _
theorem room_room (size : Nat) (g : Lg) (t : St) (more : Nat) : (lgRoom size g t more).2.1.room = t.room := by
  unfold lgRoom
  split
  · rfl
  · split
    · rfl
    · simp only
      split
      · exact sync_room _ _
      · exact (lay_room _ _ _).trans (sync_room _ _)
theorem append_room (size : Nat) (g : Lg) (t : St) (kind : Int) (body : List Nat) : (lgAppend size g t kind body).2.1.room = t.room := by
  have hr := room_room size g t (put (⟨kind, g.next, body⟩ : Fr)).length
  unfold lgAppend
  simp only
  split
  · rfl
  · split
    · exact hr
    · split
      · exact (write_room _ _ _).trans hr
      · exact (write_room _ _ _).trans hr
theorem rename_gone {t : St} {x z : List UInt8} (h : (t.rename x z).1 = 0) (hne : x ≠ z) : fat (t.rename x z).2.D x = none := by
  unfold St.rename at *
  by_cases h0 : t.fuse = 0
  · rw [if_pos h0] at h; cases h
  · rw [if_neg h0] at h ⊢
    by_cases h1 : nmOk z = false
    · rw [if_pos h1] at h; cases h
    · rw [if_neg h1] at h ⊢
      cases hf : fat t.D x with
      | none => rw [hf] at h; cases h
      | some f =>
        show fat ((t.D.del _).put _ _) x = none
        rw [fat_put_other hne, fat_del_same]
/-- A Swap that is done leaves no file of its own. -/
theorem swap_gone {t : St} {l : List Int} (h : (mSwap t l).1 = 0) : fat (mSwap t l).2.D nxL = none := by
  unfold mSwap at *
  split at h
  · rename_i hok
    rw [if_pos hok]
    rcases turn_cases t l with ⟨k, hk, _, h1, h2⟩ | ⟨h1, h2⟩
    · rw [h2] at h
      exact absurd h h1
    · rw [h2]
      show fat (mClean 0 (mSt t l 4)).D nxL = none
      unfold mClean
      rw [if_neg (by decide)]
      exact rename_gone (t := mSt t l 3) (h1 3 (by omega)) (by decide)
  · simp at h
/-- A Swap that isn't done leaves all files as they were. -/
theorem swap_no2 {t : St} (hm : IsMap t.D) (h : Calm t) {l : List Int} (h0 : (mSwap t l).1 ≠ 0) (hn : fat t.D nxL = none) (s : List UInt8) : fat (mSwap t l).2.D s = fat t.D s := by
  by_cases hok : mOk l = true
  · exact swap_no hm h h0 hok hn s
  · unfold mSwap
    rw [if_neg hok]
theorem swap_not_dead {t : St} (hm : IsMap t.D) (h : Calm t) (l : List Int) : (mSwap t l).1 ≠ 42 := by
  by_cases hok : mOk l = true
  · rcases (calm_swap hm h hok).1 with e | e <;> rw [e] <;> decide
  · unfold mSwap
    rw [if_neg hok]
    show (1 : Int) ≠ 42
    decide
/-- So does laying a segment that isn't done. -/
theorem lay_no2 {g : Lg} {t : St} (hm : IsMap t.D) (h : Calm t) {first : Int} (hr : 0 ≤ first ∧ first ≤ 1073741824) (hn : fat t.D nxL = none) (h0 : (lgTry g t first).1 ≠ 0) :
    (lgLay g t first).2.2 = g ∧ ∀ s, fat (lgLay g t first).2.1.D s = if s = nm first then none else fat t.D s := by
  have hd := calm_drop h (nm first)
  have hmd : IsMap (t.drop (nm first)).2.D := isMap_drop hm _
  have hp : OkFull (lgPre t first) := by
    refine thenSt_full (thenSt_full ⟨.inl hd.1, hd.2⟩ fun _ => calm_write hd.2 _ (nm_ok hr)) fun e => ?_
    obtain ⟨_, e2, e3⟩ := thenSt_yes e
    have hw := calm_write hd.2 (hdo first) (nm_ok hr)
    rw [e2]
    have := calm_sync hw.2 (s := nm first) (by rw [write_yes hmd _ _ e3]; rfl)
    exact ⟨.inl this.1, this.2⟩
  have hpo : ∀ z, z ≠ nm first → fat (lgPre t first).2.D z = fat t.D z := fun z hz => pre_other t first hz
  have hc : Calm (lgTry g t first).2 := by
    rw [try_pre]
    exact thenSt_keep (P := Calm) hp.2 (fun u hu => ck_swap hu _)
  have h42 : (lgTry g t first).1 ≠ 42 ∧ ∀ s, s ≠ nm first → fat (lgTry g t first).2.D s = fat t.D s := by
    rw [try_pre] at h0 ⊢
    by_cases ep : (lgPre t first).1 = 0
    · have hth : thenSt (lgPre t first) (fun t => mSwap t (g.segs ++ [first])) = mSwap (lgPre t first).2 (g.segs ++ [first]) := if_neg (by simp [ep])
      rw [hth] at h0 ⊢
      exact ⟨swap_not_dead (pre_map hm first) hp.2 _, fun s es => (swap_no2 (pre_map hm first) hp.2 h0 ((hpo nxL (fun e => nm_ne_nx first hr e.symm)).trans hn) s).trans (hpo s es)⟩
    · have hth : thenSt (lgPre t first) (fun t => mSwap t (g.segs ++ [first])) = lgPre t first := if_pos ep
      rw [hth]
      exact ⟨by rw [hp.1.resolve_left ep]; decide, hpo⟩
  unfold lgLay
  simp only
  rw [if_neg h0, if_neg h42.1]
  refine ⟨rfl, fun s => ?_⟩
  show fat (St.delete _ _).2.D s = _
  by_cases es : s = nm first
  · rw [if_pos es, es]; exact calm_gone hc _
  · rw [if_neg es, fat_delete_other _ es]; exact h42.2 s es
/-- The disk's files are the list's and the segments'. -/
def Exact (g : Lg) (t : St) : Prop := ∀ s, fat t.D s ≠ none → s = mfL ∨ ∃ x ∈ g.segs, s = nm x
theorem Exact.nx {g : Lg} {t : St} (h : Exact g t) (hr : ∀ x ∈ g.segs, 0 ≤ x ∧ x ≤ 1073741824) : fat t.D nxL = none := by
  cases hf : fat t.D nxL with
  | none => rfl
  | some f =>
    rcases h nxL (by rw [hf]; exact fun e => by cases e) with e | ⟨x, hx, e⟩
    · exact absurd e (by decide)
    · exact (nm_ne_nx x (hr x hx) e.symm).elim
theorem exact_lay {g : Lg} {t : St} (hm : IsMap t.D) (h : Calm t) (he : Exact g t) (hs : ∀ x ∈ g.segs, 0 ≤ x ∧ x ≤ 1073741824) {first : Int} (hr : 0 ≤ first ∧ first ≤ 1073741824) : Exact (lgLay g t first).2.2 (lgLay g t first).2.1 := by
  have hn := he.nx hs
  by_cases e : (lgTry g t first).1 = 0
  · have hl : lgLay g t first = (0, (lgTry g t first).2, { g with segs := g.segs ++ [first] }) := by
      unfold lgLay
      simp only
      rw [if_pos e]
    rw [hl]
    intro s hf
    by_cases e1 : s = nm first
    · exact .inr ⟨first, by simp, e1⟩
    by_cases e2 : s = mfL
    · exact .inl e2
    by_cases e3 : s = nxL
    · refine absurd ?_ hf
      rw [e3]
      rw [try_pre] at e ⊢
      obtain ⟨_, q2, q3⟩ := thenSt_yes e
      rw [q2]
      exact swap_gone q3
    · have hf : fat (lgTry g t first).2.D s ≠ none := hf
      rw [try_fat_other g t first e1 e2 e3] at hf
      rcases he s hf with h1 | ⟨x, hx, h1⟩
      · exact .inl h1
      · exact .inr ⟨x, by simp [hx], h1⟩
  · obtain ⟨h1, h2⟩ := lay_no2 (g := g) hm h hr hn e
    rw [h1]
    intro s hf
    rw [h2 s] at hf
    split at hf
    · exact (hf rfl).elim
    · exact he s hf
theorem Exact.keep {g : Lg} {t t' : St} (h : Exact g t) (hk : ∀ s, fat t.D s = none → fat t'.D s = none) : Exact g t' := fun s hs => h s fun e => hs (hk s e)
theorem sync_none {t : St} (hm : IsMap t.D) (z s : List UInt8) (h : fat t.D s = none) : fat (t.sync z).2.D s = none := by
  by_cases e : s = z
  · subst e
    by_cases h0 : (t.sync s).1 = 0
    · obtain ⟨f, h1, _⟩ := sync_yes hm s h0
      rw [h] at h1
      cases h1
    · exact (sync_no t s s h0).trans h
  · exact (fat_sync_other t e).trans h
theorem exact_room {g : Lg} {t : St} {fs : List Fr} {S : Int} (hd : LDur g t fs S) (h : Calm t) (he : Exact g t) (size more : Nat) (hn : g.next ≤ 1073741824) : Exact (lgRoom size g t more).2.2 (lgRoom size g t more).2.1 := by
  have hk := he.keep (fun s => sync_none hd.inv.map (lgLast g) s)
  have hc := ck_sync h (lgLast g)
  have hm := isMap_sync hd.inv.map (lgLast g)
  have h0 := hd.le_next
  have hg := hd.inv.chain.order.1 _ hd.inv.chain.mem_last
  unfold lgRoom
  split
  · exact he
  · split
    · exact he
    · simp only
      split
      · exact hk
      · exact exact_lay hm hc hk (fun x hx => hd.range hx) ⟨by omega, hn⟩
/-- An Append keeps it so. -/
theorem exact_append {g : Lg} {t : St} {fs : List Fr} {S : Int} (hd : LDur g t fs S) (h : Calm t) (he : Exact g t) (size : Nat) (kind : Int) (body : List Nat) : Exact (lgAppend size g t kind body).2.2 (lgAppend size g t kind body).2.1 := by
  by_cases hr : (⟨kind, g.next, body⟩ : Fr).right
  · have hn := hr.2.2.2.1
    have x1 := exact_room hd h he size (put (⟨kind, g.next, body⟩ : Fr)).length hn
    have x2 := hd.room size (put (⟨kind, g.next, body⟩ : Fr)).length hn
    have hw : Exact (lgRoom size g t (put (⟨kind, g.next, body⟩ : Fr)).length).2.2 ((lgRoom size g t (put (⟨kind, g.next, body⟩ : Fr)).length).2.1.write (lgLast (lgRoom size g t (put (⟨kind, g.next, body⟩ : Fr)).length).2.2) (put (⟨kind, g.next, body⟩ : Fr))).2 := fun s hs => by
      by_cases e : s = lgLast (lgRoom size g t (put (⟨kind, g.next, body⟩ : Fr)).length).2.2
      · exact .inr ⟨_, x2.inv.chain.mem_last, e⟩
      · rw [fat_write_other _ _ e] at hs
        exact x1 s hs
    unfold lgAppend
    simp only
    rw [if_neg (by simpa using hr)]
    split
    · exact x1
    · split
      · exact hw
      · exact fun s hs => hw s hs
  · unfold lgAppend
    simp only
    rw [if_pos hr]
    exact he
/-- Deletes of files that are there, each once, are done; the files are gone, the others as they were. -/
theorem delEach_calm : ∀ (l : List (List UInt8)) (t : St), Calm t → (∀ s ∈ l, (fat t.D s).isSome = true) → l.Nodup → (delEach l 0 t).1 = 0 ∧ Calm (delEach l 0 t).2 ∧ ∀ s ∈ l, fat (delEach l 0 t).2.D s = none
  | [], t, hc, _, _ => ⟨rfl, hc, fun s hs => by simp at hs⟩
  | z :: l, t, hc, hs, hn => by
    obtain ⟨n1, n2⟩ := List.nodup_cons.1 hn
    have hd := calm_delete hc (s := z) (hs z (by simp))
    have e : delEach (z :: l) 0 t = delEach l 0 (t.delete z).2 := by
      show delEach l (if (0 : Int) = 0 then (t.delete z).1 else 0) (t.delete z).2 = _
      rw [if_pos rfl, hd.1]
    rw [e]
    obtain ⟨q1, q2, q3⟩ := delEach_calm l _ hd.2 (fun s' hs' => by
      rw [fat_delete_other t (show s' ≠ z from fun h => n1 (h ▸ hs'))]
      exact hs s' (by simp [hs'])) n2
    refine ⟨q1, q2, fun s' hs' => ?_⟩
    rcases List.mem_cons.1 hs' with e1 | e1
    · subst e1
      rw [delEach_fat l 0 _ n1]
      exact delete_gone hd.1
    · exact q3 s' e1
end
section
set_option linter.unusedSimpArgs false
set_option linter.unusedVariables false
open Go.RowKit Go.Sort Go.Maps
open Crc Frm
open Sgn

theorem upL_less {z y : Int} (h : y ≤ z) : ∀ l : List Int, upL z l = true → upL y l = true
  | [], _ => rfl
  | x :: l, hl => by
    simp only [upL, Bool.and_eq_true, decide_eq_true_eq] at hl ⊢
    refine ⟨?_, ?_⟩ <;> first | omega | exact hl.2 | (refine ⟨?_, ?_⟩ <;> first | omega | exact hl.2.2)
theorem upL_drop : ∀ (k : Nat) (l : List Int) {z : Int}, upL z l = true → upL z (l.drop k) = true
  | 0, _, _, h => h
  | k + 1, [], _, h => h
  | k + 1, x :: l, z, h => by
    show upL z (l.drop k) = true
    simp only [upL, Bool.and_eq_true, decide_eq_true_eq] at h
    have h1 : z ≤ x := by omega
    first
      | exact upL_less h1 _ (upL_drop k l h.2)
      | exact upL_less h1 _ (upL_drop k l h.2.2)
theorem mOk_drop {l : List Int} (h : mOk l = true) {k : Nat} (hk : k < l.length) : mOk (l.drop k) = true := by
  unfold mOk at h ⊢
  simp only [Bool.and_eq_true, decide_eq_true_eq] at h ⊢
  rw [List.length_drop]
  exact ⟨by omega, by omega, upL_drop k l h.2.2⟩
theorem nodup_le : ∀ {l1 l2 : List (List UInt8)}, l1.Nodup → (∀ s ∈ l1, s ∈ l2) → l1.length ≤ l2.length
  | [], _, _, _ => Nat.zero_le _
  | z :: l, l2, hn, hs => by
    obtain ⟨n1, n2⟩ := List.nodup_cons.1 hn
    have hz := hs z (by simp)
    have h1 := nodup_le (l2 := l2.erase z) n2 (fun s h => (List.mem_erase_of_ne (by rintro rfl; exact n1 h)).2 (hs s (by simp [h])))
    rw [List.length_erase_of_mem hz] at h1
    have h2 := List.length_pos_of_mem hz
    rw [List.length_cons]
    omega
theorem nm_nodup : ∀ {l : List Int}, (∀ x ∈ l, 0 ≤ x ∧ x ≤ 1073741824) → l.Pairwise (· < ·) → (l.map nm).Nodup
  | [], _, _ => by simp
  | x :: l, hr, hp => by
    obtain ⟨p1, p2⟩ := List.pairwise_cons.1 hp
    rw [List.map_cons, List.nodup_cons]
    refine ⟨fun hm => ?_, nm_nodup (fun y hy => hr y (by simp [hy])) p2⟩
    obtain ⟨y, hy, e⟩ := List.mem_map.1 hm
    have := nm_inj (hr y (by simp [hy])) (hr x (by simp)) e
    have := p1 y hy
    omega
theorem Chain.there {t : St} {n : Int} : ∀ {l : List Int} {fs : List Fr}, Chain t l n fs → ∀ x ∈ l, (fat t.D (nm x)).isSome = true
  | [], _, h, _, _ => h.elim
  | [y], fs, h, x, hx => by
    obtain rfl : x = y := by simpa using hx
    have := h.1.file
    unfold St.fb at this
    cases hf : fat t.D (nm x) with
    | none => rw [hf] at this; cases this
    | some f => rfl
  | y :: z :: l, fs, h, x, hx => by
    obtain ⟨a, b, rfl, h1, h3, h4, h2⟩ := h
    rcases List.mem_cons.1 hx with rfl | hx
    · have := h1.file
      unfold St.fb at this
      cases hf : fat t.D (nm x) with
      | none => rw [hf] at this; cases this
      | some f => rfl
    · exact h2.there x hx
theorem Chain.seq {t : St} {n : Int} : ∀ {l : List Int} {fs : List Fr}, Chain t l n fs → ∀ (j : Nat) (f : Fr), fs[j]? = some f → f.seq = l.headD 0 + (j : Int)
  | [], _, h, _, _, _ => h.elim
  | [y], fs, h, j, f, hj => h.1.row j f hj
  | y :: z :: l, fs, h, j, f, hj => by
    obtain ⟨a, b, rfl, h1, h3, h4, h2⟩ := h
    by_cases hlt : j < a.length
    · rw [List.getElem?_append_left hlt] at hj
      exact h1.row j f hj
    · rw [List.getElem?_append_right (by omega)] at hj
      have := h2.seq (j - a.length) f hj
      rw [this]
      show z + _ = y + _
      omega
/-- The disk's names: the list's, and one for each segment. -/
theorem exact_names {g : Lg} {t : St} {fs : List Fr} {S : Int} (hd : LDur g t fs S) (hG : Good t.D t.room) (he : Exact g t) : (strKeys t.D).length = g.segs.length + 1 := by
  have hr : ∀ x ∈ g.segs, 0 ≤ x ∧ x ≤ 1073741824 := fun x hx => hd.range hx
  have hn : (mfL :: g.segs.map nm).Nodup := List.nodup_cons.2 ⟨fun hm => by
    obtain ⟨y, hy, e⟩ := List.mem_map.1 hm
    exact nm_ne_mf y (hr y hy) e, nm_nodup hr hd.inv.chain.up⟩
  have h1 : (strKeys t.D).length ≤ (mfL :: g.segs.map nm).length := nodup_le (names_nodup hG) fun s hs => by
    have := (names_mem hG s).1 hs
    rcases he s (fun e => by rw [e] at this; cases this) with rfl | ⟨x, hx, rfl⟩
    · simp
    · exact List.mem_cons_of_mem _ (List.mem_map.2 ⟨x, hx, rfl⟩)
  have h2 : (mfL :: g.segs.map nm).length ≤ (strKeys t.D).length := nodup_le hn fun s hs => by
    refine (names_mem hG s).2 ?_
    rcases List.mem_cons.1 hs with rfl | hs
    · have := hd.list
      unfold Has at this
      rw [this]
      rfl
    · obtain ⟨x, hx, rfl⟩ := List.mem_map.1 hs
      exact hd.inv.chain.there x hx
  simp only [List.length_cons, List.length_map] at h1 h2
  omega
/-- Retain of a log that has room for a list: done, and the disk's files are the list's and the segments'. -/
theorem retain_done {b : Nat} {g : Lg} {t : St} {fs : List Fr} {S : Int} (hd : LDur g t fs S) (h : Calm t) (he : Exact g t) (hs : Slim b t) (hb : 2 * (b + 165) + 200 ≤ t.room) (seq : Int) :
    (lgRetain g t seq).1 = 0 ∧ Exact (lgRetain g t seq).2.2 (lgRetain g t seq).2.1 := by
  unfold lgRetain
  by_cases h0 : lgGone g seq = 0
  · rw [if_pos h0]; exact ⟨rfl, he⟩
  rw [if_neg h0]
  have hr : ∀ x ∈ g.segs, 0 ≤ x ∧ x ≤ 1073741824 := fun x hx => hd.range hx
  have hk : lgGone g seq < g.segs.length := lgGone_ltM hd.inv.chain.ne seq
  have hsz : size t.D ≤ 60 := by rw [← size_names, exact_names hd hs.1 he]; have := hd.few.2; omega
  have hsw : (mSwap t (g.segs.drop (lgGone g seq))).1 = 0 := by
    by_cases e : (mSwap t (g.segs.drop (lgGone g seq))).1 = 0
    · exact e
    · have h1 := swap_fits hd.inv.map h.1 h.2 hsz (mOk_drop hd.ok hk) e
      have h2 := (slim_swap hs (g.segs.drop (lgGone g seq))).2
      omega
  have hc := ck_swap h (g.segs.drop (lgGone g seq))
  have hfo : ∀ x ∈ g.segs, fat (mSwap t (g.segs.drop (lgGone g seq))).2.D (nm x) = fat t.D (nm x) := fun x hx => fat_swap_other _ _ (nm_ne_mf x (hr x hx)) (nm_ne_nx x (hr x hx))
  obtain ⟨d1, d2, d3⟩ := delEach_calm ((g.segs.take (lgGone g seq)).map nm) (mSwap t (g.segs.drop (lgGone g seq))).2 hc (fun s hs => by
      obtain ⟨x, hx, rfl⟩ := List.mem_map.1 hs
      rw [hfo x (List.mem_of_mem_take hx)]
      exact hd.inv.chain.there x (List.mem_of_mem_take hx))
    (nm_nodup (fun x hx => hr x (List.mem_of_mem_take hx)) (hd.inv.chain.up.sublist (List.take_sublist _ _)))
  simp only
  rw [if_neg (by simpa using hsw)]
  refine ⟨d1, fun s hf => ?_⟩
  have hf : fat (delEach ((g.segs.take (lgGone g seq)).map nm) 0 (mSwap t (g.segs.drop (lgGone g seq))).2).2.D s ≠ none := hf
  by_cases e1 : s = mfL
  · exact .inl e1
  have e0 : s ∉ (g.segs.take (lgGone g seq)).map nm := fun hm => hf (d3 s hm)
  rw [delEach_fat _ _ _ e0] at hf
  by_cases e2 : s = nxL
  · rw [e2] at hf
    exact (hf (swap_gone hsw)).elim
  rw [fat_swap_other _ _ e1 e2] at hf
  rcases he s hf with h1 | ⟨x, hx, h1⟩
  · exact .inl h1
  · refine .inr ⟨x, ?_, h1⟩
    rw [← List.take_append_drop (lgGone g seq) g.segs] at hx
    rcases List.mem_append.1 hx with h2 | h2
    · exact (e0 (List.mem_map.2 ⟨x, h2, h1.symm⟩)).elim
    · exact h2
/-- What Retain takes: whole segments, the oldest first, no frame from seq on; what is left is as it was. -/
theorem retain_says {g : Lg} {t : St} {fs : List Fr} {S : Int} (hd : LDur g t fs S) (seq : Int) (h0 : (lgRetain g t seq).1 = 0) :
    ∃ k a b, k < g.segs.length ∧ fs = a ++ b ∧ (lgRetain g t seq).2.2 = ⟨g.segs.drop k, g.next⟩ ∧ LDur (lgRetain g t seq).2.2 (lgRetain g t seq).2.1 b S ∧
      (0 < k → (g.segs.drop k).headD 0 ≤ seq) ∧ (1 < (g.segs.drop k).length → seq < (g.segs.drop k).getD 1 0) ∧ (k = 0 → a = []) ∧ ∀ f, a.getLast? = some f → f.seq < seq := by
  obtain ⟨k, a, b, k1, k2, hfs, hi, hg, hh⟩ := hd.inv.retain seq
  obtain ⟨a2, b2, e2, hd2⟩ := hd.retain seq
  have hk := k2 h0
  have hlt : k < g.segs.length := by rw [hk]; exact lgGone_ltM hd.inv.chain.ne seq
  have hb : b2 = b := by rw [← hd2.inv.frames, ← hi.frames]
  rw [hb] at hd2
  have hle : 0 < k → (g.segs.drop k).headD 0 ≤ seq := fun hp => by
    have h1 : k - 1 < (g.segs.tail.takeWhile fun x => decide (x ≤ seq)).length := by show _ < lgGone g seq; omega
    have h2 := gone_le h1
    rw [List.headD_eq_head?_getD, List.head?_drop]
    rw [List.getD_eq_getElem?_getD, List.getElem?_tail, show k - 1 + 1 = k from by omega] at h2
    exact h2
  have ha0 : k = 0 → a = [] := fun hp => by
    subst hp
    simp only [List.drop_zero] at hh
    exact List.eq_nil_of_length_eq_zero (by omega)
  refine ⟨k, a, b, hlt, hfs, hg, hd2, hle, fun hl => ?_, ha0, fun f hf => ?_⟩
  · rw [List.length_drop] at hl
    have h1 : (g.segs.tail.takeWhile fun x => decide (x ≤ seq)).length < g.segs.tail.length := by
      show lgGone g seq < _
      rw [List.length_tail]
      omega
    have h2 := gone_gt h1
    have h3 : (g.segs.tail.takeWhile fun x => decide (x ≤ seq)).length = k := hk.symm
    rw [h3, List.getD_eq_getElem?_getD, List.getElem?_tail] at h2
    rw [List.getD_eq_getElem?_getD, List.getElem?_drop]
    exact h2
  · have hne : a ≠ [] := fun e => by rw [e] at hf; cases hf
    have hal := List.length_pos_iff.2 hne
    have hkp : 0 < k := by
      rcases Nat.eq_zero_or_pos k with e | e
      · exact absurd (ha0 e) hne
      · exact e
    have h1 := hle hkp
    rw [List.getLast?_eq_getElem?] at hf
    have h2 := hd.inv.chain.seq (a.length - 1) f (by rw [hfs, List.getElem?_append_left (by omega)]; exact hf)
    omega
theorem open_new_is {room : Nat} {size : Int} (h1 : 64 ≤ size) (h2 : size ≤ 65536) : lgOpen size ⟨.map [], room, -1, 0⟩ = (let s := thenSt (thenSt ((lgLay ⟨[], 0⟩ ⟨.map [], room, -1, 0⟩ 0).1, (lgLay ⟨[], 0⟩ ⟨.map [], room, -1, 0⟩ 0).2.1) fun t => t.drop fxL) fun t => t.drop nxL
      if s.1 ≠ 0 then (s.1, s.2, none) else (0, s.2, some (lgLay ⟨[], 0⟩ ⟨.map [], room, -1, 0⟩ 0).2.2)) := by
  have hrs : lgRestore ⟨.map [], room, -1, 0⟩ = lgLay ⟨[], 0⟩ ⟨.map [], room, -1, 0⟩ 0 := rfl
  unfold lgOpen
  rw [if_neg (by omega), hrs]
/-- A first Open of a new disk of 60000 bytes is done. -/
theorem open_60000 {size : Int} (h1 : 64 ≤ size) (h2 : size ≤ 65536) :
    ∃ t', lgOpen size ⟨.map [], 60000, -1, 0⟩ = (0, t', some ⟨[0], 0⟩) ∧ LDur ⟨[0], 0⟩ t' [] 0 ∧ Calm t' ∧ Exact ⟨[0], 0⟩ t' ∧ Slim 177 t' ∧ t'.room = 60000 := by
  have e0 : (lgLay ⟨[], 0⟩ ⟨.map [], 60000, -1, 0⟩ 0).1 = 0 := by kernel_rfl
  have hop := open_new_is (room := 60000) h1 h2
  have hq := open_new 60000 h1 h2
  obtain ⟨t, ht⟩ : ∃ t : St, t = ⟨.map [], 60000, -1, 0⟩ := ⟨_, rfl⟩
  have hm : IsMap t.D := by rw [ht]; exact ⟨[], rfl⟩
  have hc : Calm t := by rw [ht]; exact ⟨rfl, rfl⟩
  have hG : Slim 0 t := by rw [ht]; exact ⟨Good.empty (by decide), Nat.le_refl _⟩
  have hE : Exact ⟨[], 0⟩ t := fun s hs => by rw [ht] at hs; exact (hs rfl).elim
  have hR : t.room = 60000 := by rw [ht]
  rw [← ht] at e0 hop hq ⊢
  have c1 := ck_lay hc ⟨[], 0⟩ 0
  have s1 : Slim 177 (lgLay ⟨[], 0⟩ t 0).2.1 := (slim_lay hG 0).more (by omega)
  have x1 := exact_lay hm hc hE (fun x hx => by cases hx) (first := 0) ⟨by decide, by decide⟩
  have r1 := lay_room ⟨[], 0⟩ t 0
  have hg := (lay_begins hm e0).2
  rw [hg] at hop x1
  have e1 : thenSt ((lgLay ⟨[], 0⟩ t 0).1, (lgLay ⟨[], 0⟩ t 0).2.1) (fun t => t.drop fxL) = (lgLay ⟨[], 0⟩ t 0).2.1.drop fxL := if_neg (by simp [e0])
  have d1 := calm_drop c1 fxL
  have e2 : thenSt ((lgLay ⟨[], 0⟩ t 0).2.1.drop fxL) (fun t => t.drop nxL) = ((lgLay ⟨[], 0⟩ t 0).2.1.drop fxL).2.drop nxL := if_neg (by simp [d1.1])
  have d2 := calm_drop d1.2 nxL
  rw [e1, e2] at hop
  simp only [d2.1] at hop
  rw [if_neg (by simp)] at hop
  rcases hq with ⟨hn, _⟩ | ⟨t', hq, hd⟩
  · rw [hop] at hn; cases hn
  · rw [hop] at hq
    injection hq with _ hq
    injection hq with hq _
    refine ⟨t', by rw [hop, hq], hd, ?_⟩
    rw [← hq]
    exact ⟨d2.2, x1.keep (fun s hs => drop_none (drop_none hs _) _), slim_drop (slim_drop s1 _) _, ((drop_room _ _).trans (drop_room _ _)).trans (r1.trans hR)⟩
end
section
set_option linter.unusedSimpArgs false
set_option linter.unusedVariables false
open Go.ChangeShapes Go.WideShapes Go.ChangeAt Go.RowKit

/-- The five variables that each row lists. -/
def laidL : List (String × DataW Unit) := [("math/bits.deBruijn32tab", Rows.laid_math_bits_deBruijn32tab), ("math/bits.deBruijn64tab", Rows.laid_math_bits_deBruijn64tab), ("internal/strconv.uint64pow10", Rows.laid_internal_strconv_uint64pow10), ("strconv.ErrRange", Rows.laid_strconv_ErrRange), ("strconv.ErrSyntax", Rows.laid_strconv_ErrSyntax)]
theorem door_star : "*" ++ "errors.errorString" = "*errors.errorString" := by decide
theorem door_row (u : TypeId) (h : Tryz.prog.typeName? 3 u = some "*errors.errorString") : u = 240 :=
  typeName_ptr_named (nm := "errors.errorString") (by rw [door_star]; kernel_rfl) (by kernel_rfl) (by decide) u (by rw [door_star]; exact h)
theorem gSyn : Tryz.prog.globalNamed "strconv.ErrSyntax" = some 4 := by kernel_rfl
theorem gRng : Tryz.prog.globalNamed "strconv.ErrRange" = some 5 := by kernel_rfl
theorem gTab : Tryz.prog.globalNamed "internal/strconv.uint64pow10" = some 0 := by kernel_rfl
theorem tSyn : (Tryz.prog.globals[4]?).map (·.type) = some 168 := by kernel_rfl
theorem tRng : (Tryz.prog.globals[5]?).map (·.type) = some 168 := by kernel_rfl
theorem tTab : (Tryz.prog.globals[0]?).map (·.type) = some 216 := by kernel_rfl
/-- What the rows' condition gives the walks. -/
theorem laid_of {W : World} (h : laidMetH Tryz.prog laidL W) : Laid W := by
  rw [MakeChecks.laidMetH_plain _ _ _ (by kernel_rfl)] at h
  have h2 := h.tail.tail
  have h3 := h2.tail
  have h4 := h3.tail
  obtain ⟨a1, s1, hv1, _, _, _⟩ := laid_sentinel h3 gRng tRng Tryz.underlying168 door_row Tryz.underlying240 Tryz.underlying242 rfl rfl Tryz.underlying9 (by kernel_rfl) (by kernel_rfl)
  obtain ⟨a0, s0, hv0, _, _, _⟩ := laid_sentinel h4 gSyn tSyn Tryz.underlying168 door_row Tryz.underlying240 Tryz.underlying242 rfl rfl Tryz.underlying9 (by kernel_rfl) (by kernel_rfl)
  exact ⟨Lib.tabIs_of_head gTab tTab Tryz.underlying216 Tryz.underlying135 (by kernel_rfl) (by kernel_rfl) h2,
    ⟨_, by simpa using World.var?_cell gSyn hv0 0, .inr ⟨_, _, rfl⟩⟩, ⟨_, by simpa using World.var?_cell gRng hv1 0, .inr ⟨_, _, rfl⟩⟩⟩
/-- The door's own heap meets the condition. -/
theorem door_met (os : Os) (args : Array Value) : laidMetH Tryz.prog laidL ((World.doorLaid Tryz.prog 400 os).forCall (fun _ _ => 0) ⟨#[], args, []⟩).memory :=
  laidMetH_of_parts3 (fuel := 8) (laidMet_of_run' 8 (by kernel_rfl) (by kernel_rfl)) (by kernel_rfl) (by kernel_rfl)
end
section
set_option linter.unusedVariables false
set_option linter.unusedSimpArgs false
open Go.RowKit Go.Sort Go.Maps
open Crc Frm
open Sgn
attribute [local go_sem] Oper.semAt_some

theorem OpenL.nope {w0 w : World} {dp size : Nat} {D : Nat → Prop} {r : Int × St × Option Lg} {e : Ending} {w' : World} (h : OpenL w0 w dp size D r e w') (hn : r.2.2 = none) :
    e = .returned (.tuple #[.pointer none, .int .i64 r.1]) ∧ Mv w0 w dp D r.2.1 w' := by
  unfold OpenL at h
  rw [hn] at h
  exact h
/-- What a crash and Open leave. -/
def Opn9 (w0 w : World) (dp size : Nat) (D : Nat → Prop) (t : St) (r : Int × St × Option Lg) (e : Ending) (w' : World) : Prop :=
  Good t.D t.room ∧ ((r.2.2 = none ∧ e = .returned (.tuple #[.pointer none, .int .i64 0, .int .i64 r.1]) ∧ Below w0.heap.size w0 w' ∧ But D w w') ∨
    ∃ g lp D' sa sc, r.2.2 = some g ∧ e = .returned (.tuple #[.pointer (some ⟨lp, 0, none⟩), .int .i64 0, .int .i64 0]) ∧ LK w0 w' dp lp size g r.2.1 D' sa sc ∧ But D w w' ∧ ∀ k, lO D' lp sa k → D k ∨ w.heap.size ≤ k)
section
variable {w0 w : World} {dp lp size : Nat} {g : Lg} {t : St} {D : Nat → Prop} {sa : Option Addr} {sc : Nat}
set_option maxRecDepth 100000 in
set_option maxHeartbeats 3200000 in
theorem do9_any (h : LK w0 w dp lp size g t D sa sc) (hL : Laid w0) (h64 : 64 ≤ size) (h65 : size ≤ 65536) (op : OgV) {B : Nat} (ho : OgIn w B op) (hB : B ≤ w0.heap.size) (h9 : op.what = 9) :
    Calls Tryz.prog 12 #[.pointer (some ⟨dp, 0, none⟩), .pointer (some ⟨lp, 0, none⟩), .int .i64 (size : Int), ogVal op] w (Opn9 w0 w dp size D (t.crash op.ks) (lgOpen size (t.crash op.ks))) := by
  obtain ⟨wa, hwa⟩ : ∃ wa, wa = w.alloc (.cells #[.int .i64 op.what, .int .i64 op.kind, .slice op.ba op.bs.length op.bc, .int .i64 op.n, .slice op.ka op.ks.length op.kc] 41) := ⟨_, rfl⟩
  have hb1 : Below w.heap.size w wa := by rw [hwa]; exact (Below.refl _ _).alloc (Nat.le_refl _) _
  obtain ⟨x0, x1, x2, x3, x4⟩ := cell_box5 w (.int .i64 op.what) (.int .i64 op.kind) (.slice op.ba op.bs.length op.bc) (.int .i64 op.n) (.slice op.ka op.ks.length op.kc) 41
  rw [← hwa] at x0 x1 x2 x3 x4
  have hwB : B ≤ w.heap.size := Nat.le_trans hB h.dk.below.size
  have k1 := (h.on hb1).dk
  have CC := Lib.hid (k1.crash op.ks op.ka op.ks.length op.kc ((ho.row.below hb1 hwB).more hb1.size) rfl (fun hp k o e hO => by
    obtain ⟨b', o', e', hlt, _⟩ := ho.row.at_ hp
    rw [e] at e'
    injection e' with e'
    injection e' with e1 e2
    have := h.dk.base k hO
    omega))
  have HB := Lib.hid hb1
  have HW := Lib.hid hwa
  clear hb1 k1 ho h hwa
  show Calls Tryz.prog 12 #[.pointer (some ⟨dp, 0, none⟩), .pointer (some ⟨lp, 0, none⟩), .int .i64 (size : Int), .agg #[.int .i64 op.what, .int .i64 op.kind, .slice op.ba op.bs.length op.bc, .int .i64 op.n, .slice op.ka op.ks.length op.kc]] w _
  rw [h9] at HW x0 ⊢
  go_enter Tryz.func12, Tryz.ntmps12
  go_wp2_with fail
  rw [← HW.out]
  refine CC.out.mono ?_
  rintro e w5 ⟨rfl, hmv⟩
  obtain ⟨O5, k5, b5, f5⟩ := hmv
  have OP := Lib.hid (lgopen_any k5 hL h64 h65)
  have H5 := Lib.hid (And.intro b5 (And.intro f5 k5))
  generalize t.crash op.ks = t5 at *
  clear k5 b5 f5 CC
  go_wp2_with fail
  refine OP.out.mono ?_
  rintro e w6 hO
  cases hr : (lgOpen size t5).2.2 with
  | none =>
    obtain ⟨rfl, hmv⟩ := hO.nope hr
    obtain ⟨O6, k6, b6, _⟩ := hmv
    have hsz := HB.out.size
    have hbt : But D w w6 := ((But.of_below (O := D) HB.out).trans H5.out.1 (fun _ hk => .inl hk)).trans b6 (fun k hk => by rcases H5.out.2.1 k hk with h1 | h1; exact .inl h1; right; omega)
    have K := Lib.hid (And.intro k6.below hbt)
    have HR := Lib.hid hr
    clear hO hr k6 b6 hbt hsz OP
    generalize (lgOpen size t5) = r at *
    go_wp2
    go_ret3
    exact ⟨H5.out.2.2.good, .inl ⟨HR.out, rfl, K.out.1, K.out.2⟩⟩
  | some g' =>
    unfold OpenL at hO
    rw [hr] at hO
    obtain ⟨lq, D', sa', sc', rfl, hk, hb, hge, hf⟩ := hO
    have hsz := HB.out.size
    have hbt : But D w w6 := ((But.of_below (O := D) HB.out).trans H5.out.1 (fun _ hk => .inl hk)).trans hb (fun k hk => by rcases H5.out.2.1 k hk with h1 | h1; exact .inl h1; right; omega)
    have hlk : ∀ k, lO D' lq sa' k → D k ∨ w.heap.size ≤ k := fun k hk => by
      have h5 := H5.out.1.size
      rcases hf k hk with h1 | h1
      · rcases H5.out.2.1 k h1 with h2 | h2
        · exact Or.inl h2
        · right; omega
      · right; omega
    have K := Lib.hid (And.intro hk (And.intro hbt hlk))
    have HR := Lib.hid hr
    clear hr hk hb hge hf OP hsz hbt hlk
    generalize (lgOpen size t5) = r at *
    go_wp2
    go_ret3
    exact ⟨H5.out.2.2.good, .inr ⟨g', lq, D', sa', sc', HR.out, rfl, K.out.1, K.out.2.1, K.out.2.2⟩⟩
end
/-- A row of frames of the walk's own, none of whose blocks is in O. -/
structure AllR (w : World) (O : Nat → Prop) (base : Nat) (v : Value) (ts : List FC) : Prop where
  own : OwnF w base v ts
  row : ∀ k, v.ownBlock = some k → ¬ O k
  bod : ∀ t ∈ ts, 0 < t.1.body.length → ∀ b o, t.2.1 = some ⟨b, o, none⟩ → ¬ O b
section
variable {w w' : World} {O O' : Nat → Prop} {base : Nat} {v : Value} {ts : List FC}
theorem AllR.but (h : AllR w O base v ts) (hb : But O w w') (hO : ∀ k, k < w.heap.size → ¬ O k → ¬ O' k) : AllR w' O' base v ts := by
  refine ⟨⟨⟨h.own.own.1, ?_⟩, fun t ht => ⟨(h.own.bodies t ht).1.same_ hb.size (fun hp b o e => ?_), (h.own.bodies t ht).2⟩⟩, fun k hk => hO k (World.ownsRow.lt h.own.own k hk).2 (h.row k hk), fun t ht hp b o e => ?_⟩
  · rcases h.own.own.2 with h1 | ⟨g, cap, cur, e, h2, h3, rest⟩
    · exact .inl h1
    · exact .inr ⟨g, cap, cur, e, h2, (hb.block g (lt_of_heap h3) (h.row g (by rw [e]; rfl))).trans h3, rest⟩
  · obtain ⟨b', o', e', hlt, _⟩ := (h.own.bodies t ht).1.at_ hp
    rw [e] at e'
    cases e'
    exact hb.block b hlt (h.bod t ht hp b o e)
  · obtain ⟨b', o', e', hlt, _⟩ := (h.own.bodies t ht).1.at_ hp
    rw [e] at e'
    cases e'
    exact hO b hlt (h.bod t ht hp b o e)
theorem AllR.on (h : AllR w O base v ts) (hb : Below w.heap.size w w') : AllR w' O base v ts :=
  ⟨h.own.below hb, h.row, h.bod⟩
theorem AllR.to (h : AllR w O base v ts) (hO : ∀ k, k < w.heap.size → ¬ O k → ¬ O' k) : AllR w O' base v ts := h.but ⟨rfl, rfl, rfl, Nat.le_refl _, fun _ _ _ => rfl⟩ hO
theorem fcells_take (ts : List FC) (k : Nat) : (fcells ts).take (k * 3) = fcells (ts.take k) := by
  rcases Nat.lt_or_ge k ts.length with h | h
  · have e : fcells ts = fcells (ts.take k) ++ fcells (ts.drop k) := by rw [← fcells_append, List.take_append_drop]
    rw [e, List.take_append_of_le_length (by rw [fcells_len, List.length_take]; omega), List.take_of_length_le (by rw [fcells_len, List.length_take]; omega)]
  · rw [List.take_of_length_le (by rw [fcells_len]; omega), List.take_of_length_le h]
theorem AllR.take {a : Option Addr} {n c : Nat} (h : AllR w O base (.slice a n c) ts) {k : Nat} (hk : k ≤ ts.length) : AllR w O base (.slice a k c) (ts.take k) := by
  have hob : (Value.slice a k c).ownBlock = (Value.slice a n c).ownBlock := by cases a <;> rfl
  refine ⟨⟨⟨by rw [List.length_take, Nat.min_eq_left hk, fcells_len, List.length_take, Nat.min_eq_left hk], ?_⟩, fun t ht => ?_⟩, fun q hq => h.row q (by rw [← hob]; exact hq), fun t ht => h.bod t (List.mem_of_mem_take ht)⟩
  · rcases h.own.own.2 with ⟨h1, h0⟩ | ⟨g, cap, cur, e, h2, h3, h4, h5, h6, h7⟩
    · injection h1 with e1 e2 e3
      have hts : ts = [] := List.eq_nil_of_length_eq_zero h0
      subst hts
      have : k = 0 := by simpa using hk
      subst this e1 e3
      exact .inl ⟨rfl, rfl⟩
    · injection e with e1 e2 e3
      subst e1 e3
      refine .inr ⟨g, c, cur, by rw [List.length_take, Nat.min_eq_left hk], h2, h3, by rw [List.length_take, Nat.min_eq_left hk]; omega, h5, h6, ?_⟩
      rw [List.length_take, Nat.min_eq_left hk, ← fcells_take, ← h7, List.take_take, Nat.min_eq_left (by omega)]
  · obtain ⟨k1, k2⟩ := h.own.bodies t (List.mem_of_mem_take ht)
    exact ⟨k1, fun hp b o e => by rw [hob]; exact k2 hp b o e⟩
end
end
section
set_option linter.unusedVariables false
set_option linter.unusedSimpArgs false
open Go.RowKit Go.Sort Go.Maps
open Crc Frm
open Sgn

theorem append_len {size : Nat} {g : Lg} {t : St} {kind : Int} {body : List Nat} (h : (lgAppend size g t kind body).1.2 = 0) : body.length ≤ 1800 := by
  unfold lgAppend at h
  simp only at h
  by_cases hr : (⟨kind, g.next, body⟩ : Fr).right
  · exact hr.2.2.2.2
  · rw [if_pos hr] at h
    cases h
/-- A call but a crash: what lasts still lasts; the frames are the same, but for the first ones, or one more. -/
theorem LDur.do_p {g : Lg} {t : St} {fs : List Fr} {S : Int} (h : LDur g t fs S) (size : Nat) (op : OgV) (h9 : op.what ≠ 9) :
    ∃ fs' S', LDur (lgDo size g t op).2.2 (lgDo size g t op).2.1 fs' S' ∧ S ≤ S' ∧
      ((op.what = 4 ∨ op.what = 5) → (lgDo size g t op).1.2 = 0 → S' = g.next) ∧
      (((op.what < 4 ∨ 9 < op.what) ∧ (lgDo size g t op).1.2 = 0 ∧ (lgDo size g t op).1.1 = g.next ∧ (lgDo size g t op).2.2.next = g.next + 1 ∧ fs' = fs ++ [⟨op.kind, g.next, op.bs⟩] ∧ op.bs.length ≤ 1800) ∨
       (((op.what < 4 ∨ 9 < op.what) → (lgDo size g t op).1.2 ≠ 0) ∧ (lgDo size g t op).2.2.next = g.next ∧ ∃ j, j ≤ fs.length ∧ fs' = fs.drop j)) := by
  unfold lgDo
  by_cases h45 : op.what = 4 ∨ op.what = 5
  · rw [if_pos h45]
    have hno : ¬ (op.what < 4 ∨ 9 < op.what) := by omega
    have hle := h.le_next
    have hs := h.sync
    by_cases h0 : (lgSync g t).1 = 0
    · exact ⟨fs, g.next, (hs.1 h0).1, hle, fun _ _ => rfl, .inr ⟨fun hh => absurd hh hno, rfl, 0, Nat.zero_le _, rfl⟩⟩
    · exact ⟨fs, S, hs.2 h0, Int.le_refl _, fun _ hh => absurd hh h0, .inr ⟨fun hh => absurd hh hno, rfl, 0, Nat.zero_le _, rfl⟩⟩
  rw [if_neg h45]
  by_cases h6 : op.what = 6
  · rw [if_pos h6]
    have hno : ¬ (op.what < 4 ∨ 9 < op.what) := by omega
    obtain ⟨a, b, hab, hd⟩ := h.retain op.n
    obtain ⟨k, _, _, _, _, _, _, hg, _⟩ := h.inv.retain op.n
    refine ⟨b, S, hd, Int.le_refl _, fun hh => absurd hh h45, .inr ⟨fun hh => absurd hh hno, by show (lgRetain g t op.n).2.2.next = _; rw [hg], a.length, by rw [hab]; simp, by rw [hab]; simp⟩⟩
  rw [if_neg h6]
  by_cases h7 : op.what = 7
  · rw [if_pos h7]
    have hno : ¬ (op.what < 4 ∨ 9 < op.what) := by omega
    exact ⟨fs, S, h.fuse op.n, Int.le_refl _, fun hh => absurd hh h45, .inr ⟨fun hh => absurd hh hno, rfl, 0, Nat.zero_le _, rfl⟩⟩
  rw [if_neg h7]
  by_cases h8 : op.what = 8
  · rw [if_pos h8]
    have hno : ¬ (op.what < 4 ∨ 9 < op.what) := by omega
    exact ⟨fs, S, h.fail op.n, Int.le_refl _, fun hh => absurd hh h45, .inr ⟨fun hh => absurd hh hno, rfl, 0, Nat.zero_le _, rfl⟩⟩
  rw [if_neg h8]
  have hd := h.append size op.kind op.bs
  have hi := h.inv.append size op.kind op.bs
  by_cases h0 : (lgAppend size g t op.kind op.bs).1.2 = 0
  · obtain ⟨i1, i2, _⟩ := hi.2 h0
    refine ⟨_, S, hd.2 h0, Int.le_refl _, fun hh => absurd hh h45, ?_⟩
    have had : op.what < 4 ∨ 9 < op.what := by clear hd hi h0 i1 i2; omega
    exact .inl ⟨had, h0, i1, i2, rfl, append_len h0⟩
  · obtain ⟨i1, i2, _⟩ := hi.1 h0
    exact ⟨fs, S, hd.1 h0, Int.le_refl _, fun hh => absurd hh h45, .inr ⟨fun _ => h0, i2, 0, Nat.zero_le _, rfl⟩⟩
/-- Where its first frame stands among all that were appended. -/
theorem LDur.head {g : Lg} {t : St} {fs : List Fr} {S : Int} (h : LDur g t fs S) : 0 ≤ g.segs.headD 0 ∧ g.segs.headD 0 ≤ 1073741824 ∧ g.next = g.segs.headD 0 + (fs.length : Int) := by
  have h1 := h.inv.chain.order
  cases hs : g.segs with
  | nil => exact absurd hs h.inv.chain.ne
  | cons x l =>
    have := h1.1 x (by rw [hs]; simp)
    rw [hs] at h1
    exact ⟨this.1, this.2.1, h1.2⟩
theorem LK.out_ {w0 w w' : World} {dp lp size : Nat} {g : Lg} {t : St} {D O : Nat → Prop} {sa : Option Addr} {sc : Nat} (h : LK w0 w dp lp size g t D sa sc) (hb : But O w w') (hO : ∀ k, O k → ¬ lO D lp sa k ∧ w0.heap.size ≤ k) : LK w0 w' dp lp size g t D sa sc :=
  ⟨h.dk.out_ hb (fun k hk => ⟨fun hd => (hO k hk).1 (.inl hd), (hO k hk).2⟩), h.at_.but hb (fun hk => (hO _ hk).1 (.inr (.inl rfl))) (fun k o e hk => (hO _ hk).1 (.inr (.inr ⟨o, e⟩))), h.base, h.own, fun k o e => by
    obtain ⟨h1, h2, h3, h4⟩ := h.far k o e
    exact ⟨h1, h2, h3, Nat.lt_of_lt_of_le h4 hb.size⟩⟩
/-- One frame more. -/
theorem AllR.more {x w' : World} {O : Nat → Prop} {base g : Nat} {v v' : Value} {ts : List FC} {t : FC} (h : AllR x O base v ts) (ho : OwnF w' base v' (ts ++ [t])) (hv : v'.ownBlock = v.ownBlock ∨ v'.ownBlock = some x.heap.size) (hx : ¬ O x.heap.size) (ht : 0 < t.1.body.length → ∀ b o, t.2.1 = some ⟨b, o, none⟩ → ¬ O b) : AllR w' O base v' (ts ++ [t]) :=
  ⟨ho, fun k hk => by
    rcases hv with h1 | h1
    · exact h.row k (by rw [← h1]; exact hk)
    · rw [h1] at hk; injection hk with hk; subst hk; exact hx, fun u hu => by
    rcases List.mem_append.1 hu with hu | hu
    · exact h.bod u hu
    · simp at hu; subst hu; exact ht⟩
def cutF (a : Option Addr) (cap k : Nat) : Option Addr := if cap = k then a else a.map (·.add (k * 3))
section
variable {P : Program} (t e : TypeId) (ht : P.underlying t = some (.slice e)) {z : Value} {by_ : Nat} (hi : (P.info? e).map (fun i => (i.zero, i.size, i.bytes)) = some (some z, 3, by_))
include ht hi
theorem run_cutF_mid (a : Option Addr) (len cap j k : Nat) (hj : j ≤ k) (hk : k ≤ cap) (w : World) :
    (Instr.slice t (.slice a len cap) (some (.int .i64 (j : Int))) (some (.int .i64 (k : Int))) none).run P w = .ok (.slice (cutF a cap j) (k - j) (cap - j)) w := by
  obtain ⟨i, hi, _, hz1, _⟩ := info_parts hi
  have hs : (sizeOf e).run P w = .ok 3 w := by simp [sizeOf, typeInfo, hi, hz1]
  have ht' : P.underlying t = some (.slice (P.elem t)) := by simp [Program.elem, ht]
  have he : P.elem t = e := by simp [Program.elem, ht]
  rw [run_slice_lh w t _ _ _ ht' .i64 .i64 _ _ (by omega) (by omega) (by omega), he, hs]
  simp [Result.andThen, sliced, cutF]
theorem run_cutF_to (a : Option Addr) (len cap k : Nat) (hk : k ≤ cap) (w : World) :
    (Instr.slice t (.slice a len cap) none (some (.int .i64 (k : Int))) none).run P w = .ok (.slice a k cap) w := by
  obtain ⟨i, hi, _, hz1, _⟩ := info_parts hi
  have hs : (sizeOf e).run P w = .ok 3 w := by simp [sizeOf, typeInfo, hi, hz1]
  have ht' : P.underlying t = some (.slice (P.elem t)) := by simp [Program.elem, ht]
  have he : P.elem t = e := by simp [Program.elem, ht]
  rw [run_slice_h w t _ _ _ ht' .i64 _ (by omega) (by omega), he, hs]
  have ha : a.map (fun x => x.add 0) = a := by cases a <;> simp [Addr.add]
  simp [Result.andThen, sliced, ha]
end
theorem Frs.cut {w : World} {B : Nat} {a : Option Addr} {len cap : Nat} {fs : List Fr} (h : Frs w B a len cap fs) {j k : Nat} (hj : j ≤ k) (hk : k ≤ len) : Frs w B (cutF a cap j) (k - j) (cap - j) ((fs.take k).drop j) := by
  have h' := h.take hk
  refine ⟨by rw [List.length_drop, h'.length], by have := h'.le; omega, by have := h'.max; omega, fun hp => ?_⟩
  obtain ⟨b, o, e, hlt, hc⟩ := h'.at_ (by omega)
  have hle := h'.le
  refine ⟨b, o + j * 3, by unfold cutF; rw [if_neg (by omega), e]; simp [Addr.add], hlt, fun i f hf => ?_⟩
  rw [List.getElem?_drop] at hf
  have := hc (j + i) f hf
  rw [show o + (j + i) * 3 = o + j * 3 + i * 3 from by omega] at this
  exact this
/-- 'append(l, f)' of one frame, at a drawn step. -/
theorem wp_append_fr {w : World} {o : Oper} {a : Act} {K : Act → World → Prop} {Q : Exit → Act → World → Prop} (s x : Operand)
    (ho : o.op = .call { callee := .builtin .append, args := #[s, x], argTypes := #[46, 46] })
    (base : Nat) (v : Value) (ts : List FC) (hs : a.eval s = v) (g : Nat) (t : FC) (hx : a.eval x = .slice (some ⟨g, 0, none⟩) 1 1)
    (hown : OwnF w base v ts) (hg : w.heap[g]? = some (.cells #[.int .i64 t.1.ty, .int .i64 t.1.seq, .slice t.2.1 t.1.body.length t.2.2] 65 (0, 0)))
    (hb : Sl w w.heap.size t.2.1 t.1.body.length t.2.2 t.1.body) (hbn : 0 < t.1.body.length → ∀ b o, t.2.1 = some ⟨b, o, none⟩ → some b ≠ v.ownBlock) (hn : ts.length ≤ 2000000) (hbase : base ≤ w.heap.size)
    (h : ∀ v' w', OwnF w' base v' (ts ++ [t]) → w.grownBy w' v.ownBlock → (v'.ownBlock = v.ownBlock ∨ v'.ownBlock = some w.heap.size) → K (a.put o.dst v') w') :
    o.wp Tryz.prog a w K Q := by
  obtain ⟨i, hi, hz0, hz1, hz2⟩ := info_parts info_frame
  obtain ⟨v', w', hr, h1, h2, _, h4⟩ := run_append_own_at (P := Tryz.prog) w base 46 o.type 65 i (.agg #[.int .i64 0, .int .i64 0, .slice none 0 0]) 3 40 Tryz.underlying46 hi hz0 hz1 hz2 rfl (by decide) v ts.length (fcells ts) hown.own ⟨g, 0, none⟩ 1 1
    [.int .i64 t.1.ty, .int .i64 t.1.seq, .slice t.2.1 t.1.body.length t.2.2] rfl (fun j u hj => by
      have hj3 : j < 3 := (List.getElem?_eq_some_iff.1 hj).1
      rw [Addr.add_mid, Nat.zero_add, cell_of_row w g j _ _ _ hg, List.getElem?_toArray]
      exact hj) (fun u hu => by
      simp at hu
      rcases hu with rfl | rfl | rfl <;> rfl) (by unfold maxLen; omega) (by omega) hbase
  unfold Oper.wp execOp
  simp only [ho, resolve, invoke, builtin, Sem.run_bind, Sem.run_pure, Result.andThen_ok, List.map_toArray, List.map_cons, List.map_nil, hs, hx, hr]
  refine h v' w' ⟨by rw [List.length_append, fcells_snoc]; exact h1, ?_⟩ h2 h4
  have key : ∀ (x : FC), (Sl w w.heap.size x.2.1 x.1.body.length x.2.2 x.1.body ∧ (0 < x.1.body.length → ∀ b o, x.2.1 = some ⟨b, o, none⟩ → some b ≠ v.ownBlock)) →
      Sl w' w'.heap.size x.2.1 x.1.body.length x.2.2 x.1.body ∧ (0 < x.1.body.length → ∀ b o, x.2.1 = some ⟨b, o, none⟩ → some b ≠ v'.ownBlock) := by
    rintro x ⟨hx, hne⟩
    refine ⟨(hx.kept h2 hne).more h2.size, fun hp b o e => ?_⟩
    rcases h4 with h4 | h4
    · rw [h4]; exact hne hp b o e
    · rw [h4]
      obtain ⟨b', o', e', hlt, _⟩ := hx.at_ hp
      rw [e] at e'
      injection e' with e'
      injection e' with e'
      intro hx
      injection hx with hx
      omega
  intro x hx
  rcases List.mem_append.1 hx with hx | hx
  · exact key x (hown.bodies x hx)
  · simp at hx
    subst hx
    exact key x ⟨hb, hbn⟩
end
section
set_option linter.unusedSimpArgs false
set_option linter.unusedVariables false
open Go.RowKit Go.Sort Go.Maps
open Crc Frm
open Sgn

theorem run_cutF_from {P : Program} (t e : TypeId) (ht : P.underlying t = some (.slice e)) {z : Value} {by_ : Nat} (hi : (P.info? e).map (fun i => (i.zero, i.size, i.bytes)) = some (some z, 3, by_)) (a : Option Addr) (len cap k : Nat) (hk : k ≤ len) (w : World) :
    (Instr.slice t (.slice a len cap) (some (.int .i64 (k : Int))) none none).run P w = .ok (.slice (cutF a cap k) (len - k) (cap - k)) w := by
  obtain ⟨i, hi, _, hz1, _⟩ := info_parts hi
  have hs : (sizeOf e).run P w = .ok 3 w := by simp [sizeOf, typeInfo, hi, hz1]
  have ht' : P.underlying t = some (.slice (P.elem t)) := by simp [Program.elem, ht]
  have he : P.elem t = e := by simp [Program.elem, ht]
  rw [run_slice_l w t _ _ _ ht' .i64 _ (by omega) (by omega), he, hs]
  simp [Result.andThen, sliced, cutF]
theorem Frs.behind {w : World} {B : Nat} {a : Option Addr} {len cap : Nat} {fa fb : List Fr} (h : Frs w B a len cap (fa ++ fb)) : Frs w B (cutF a cap fa.length) (len - fa.length) (cap - fa.length) fb := by
  have hl := h.length
  rw [List.length_append] at hl
  have := h.cut (j := fa.length) (k := len) (by omega) (Nat.le_refl _)
  rw [List.take_of_length_le (by rw [List.length_append]; omega), List.drop_left] at this
  exact this
/-- The number of the last one ahead of a place. -/
theorem Frs.seq_at {w : World} {B : Nat} {a : Option Addr} {len cap : Nat} {fa fb : List Fr} (h : Frs w B a len cap (fa ++ fb)) {f : Fr} (hf : fa.getLast? = some f) :
    ∃ b o, a = some ⟨b, o, none⟩ ∧ 0 < fa.length ∧ w.cell? ⟨b, o + (fa.length - 1) * 3 + 1, none⟩ = some (.int .i64 f.seq) := by
  have hp : 0 < fa.length := by
    cases fa with
    | nil => cases hf
    | cons x l => simp
  have hl := h.length
  rw [List.length_append] at hl
  obtain ⟨b, o, e, _, hc⟩ := h.at_ (by omega)
  have hg : (fa ++ fb)[fa.length - 1]? = some f := by rw [List.getElem?_append_left (by omega), ← List.getLast?_eq_getElem?]; exact hf
  obtain ⟨_, _, _, h2, _⟩ := hc _ f hg
  exact ⟨b, o, e, hp, h2⟩
theorem Row.on_ {w w' : World} {a : Option Addr} {n c m : Nat} {cs : Nat → Value} (h : Row w w.heap.size a n c m cs) (hb : Below w.heap.size w w') : Row w' w'.heap.size a n c m cs := (h.below hb (Nat.le_refl _)).more hb.size
theorem qd3 {P : Program} {f : FuncId} {a : Array Value} {w : World} {v : Value} (h : Calls P f a w fun e w' => e = .returned v ∧ w' = w) : Calls P f a w fun e w' => e = .returned v ∧ w = w' := h.mono fun _ _ ⟨h1, h2⟩ => ⟨h1, h2.symm⟩
end
end Go.Proofs.YtechgmohdabkpaaGreatDoor
