/- The log on a disk, plain mathematics: what an Open that is done leaves lasts, and nothing is astray; an Open of such a disk changes no file. -/
import Derived.Test.YtphjpjlifdabfaaGreatDoorCka
import Derived.Test.YtphjpjlifdabfaaGreatDoorCkb
import Derived.Test.YtphjpjlifdabfaaGreatDoorCkc
import Derived.Test.YtphjpjlifdabfaaGreatDoorCkd
import Derived.Test.YtphjpjlifdabfaaGreatDoorCke
import Derived.Test.YtphjpjlifdabfaaGreatDoorCkf
import Derived.Test.YtphjpjlifdabfaaGreatDoorCkg
import Derived.Test.YtphjpjlifdabfaaGreatDoorCkh
import Derived.Test.YtphjpjlifdabfaaGreatDoorCki
import Derived.Test.YtphjpjlifdabfaaGreatDoorCkj
import Derived.Test.YtphjpjlifdabfaaGreatDoorCkk
import Derived.Test.YtphjpjlifdabfaaGreatDoorCkl
import Derived.Test.YtphjpjlifdabfaaGreatDoorCkm
namespace Go.Proofs.YtphjpjlifdabfaaGreatDoor
set_option linter.unusedSimpArgs false
set_option linter.unusedVariables false
open Go.RowKit Go.Sort Go.Maps
open Crc Frm
open Sgn

/-- All files but one last as a whole. -/
def StillBut (z : List UInt8) (t : St) : Prop := ∀ s f, s ≠ z → fat t.D s = some f → f.l = f.bs.length
/-- All files last as a whole. -/
def Still (t : St) : Prop := ∀ s f, fat t.D s = some f → f.l = f.bs.length
theorem still_crash {t : St} (h : Good t.D t.room) (ks : List Int) (h' : Good (t.crash ks).D (t.crash ks).room) : Still (t.crash ks) := fun s f hf => by
  have hs : (fat t.D s).isSome = true := (names_mem h s).1 (by
    have := (names_mem h' s).2 (by rw [hf]; rfl)
    rw [show (t.crash ks).D = crD ks (size t.D) t.D from rfl, names_crD] at this
    exact this)
  obtain ⟨f0, h0⟩ := Option.isSome_iff_exists.1 hs
  obtain ⟨n, n1, n2, n3⟩ := crash_some h ks h0
  rw [hf] at n3
  injection n3 with n3
  rw [n3, List.length_take]
  simp only
  omega
theorem fat_delete_same (t : St) (s : List UInt8) : fat (t.delete s).2.D s = fat t.D s ∨ fat (t.delete s).2.D s = none := by
  unfold St.delete
  by_cases h0 : t.fuse = 0
  · rw [if_pos h0]; exact .inl rfl
  · rw [if_neg h0]
    cases hf : fat t.D s with
    | none => exact .inl hf
    | some f => exact .inr (fat_del_same s)
theorem still_delete {t : St} (h : Still t) (z : List UInt8) : Still (t.delete z).2 := fun s f hf => by
  by_cases e : s = z
  · subst e
    rcases fat_delete_same t s with h1 | h1
    · exact h s f (h1 ▸ hf)
    · rw [h1] at hf; cases hf
  · rw [fat_delete_other t e] at hf; exact h s f hf
theorem still_drop {t : St} (h : Still t) (z : List UInt8) : Still (t.drop z).2 := by
  unfold St.drop
  by_cases e : t.has z = true
  · rw [if_pos e]; exact still_delete h z
  · rw [if_neg e]; exact h
theorem still_sync {t : St} (hm : IsMap t.D) (h : Still t) (z : List UInt8) : Still (t.sync z).2 := fun s f hf => by
  by_cases e : s = z
  · subst e
    by_cases h0 : (t.sync s).1 = 0
    · obtain ⟨f', _, h2⟩ := sync_yes hm s h0
      rw [h2] at hf
      injection hf with hf
      subst hf
      rfl
    · rw [sync_no t s s h0] at hf; exact h s f hf
  · rw [fat_sync_other t e] at hf; exact h s f hf
theorem still_synced {t : St} (hm : IsMap t.D) {z : List UInt8} (h : StillBut z t) (h0 : (t.sync z).1 = 0) : Still (t.sync z).2 := fun s f hf => by
  by_cases e : s = z
  · subst e
    obtain ⟨f', _, h2⟩ := sync_yes hm s h0
    rw [h2] at hf
    injection hf with hf
    subst hf
    rfl
  · rw [fat_sync_other t e] at hf; exact h s f e hf
theorem still_rename {t : St} (hm : IsMap t.D) (h : Still t) (x z : List UInt8) : Still (t.rename x z).2 := fun s f hf => by
  unfold St.rename at hf
  by_cases h0 : t.fuse = 0
  · rw [if_pos h0] at hf; exact h s f hf
  · rw [if_neg h0] at hf
    by_cases h1 : nmOk z = false
    · rw [if_pos h1] at hf; exact h s f hf
    · rw [if_neg h1] at hf
      cases hx : fat t.D x with
      | none => rw [hx] at hf; exact h s f hf
      | some f0 =>
        rw [hx] at hf
        change fat ((t.D.del _).put _ _) s = some f at hf
        by_cases e : s = z
        · subst e
          rw [fat_put_same (hm.del _)] at hf
          injection hf with hf
          subst hf
          exact h x _ hx
        · rw [fat_put_other e] at hf
          by_cases e2 : s = x
          · subst e2; rw [fat_del_same] at hf; cases hf
          · rw [fat_del_other e2] at hf; exact h s f hf
theorem still_mend {g : Lg} {good : Option (List Nat)} {t : St} (hm : IsMap t.D) (h : Still t) (h0 : (lgMend g good t).1 = 0) : Still (lgMend g good t).2 := by
  cases good with
  | none => exact h
  | some b =>
    change (thenSt (thenSt (thenSt (t.drop fxL) fun t => t.write fxL b) fun t => t.sync fxL) fun t => t.rename fxL (lgLast g)).1 = 0 at h0
    show Still (thenSt (thenSt (thenSt (t.drop fxL) fun t => t.write fxL b) fun t => t.sync fxL) fun t => t.rename fxL (lgLast g)).2
    obtain ⟨a1, e1, _⟩ := thenSt_yes h0
    obtain ⟨a2, e2, c2⟩ := thenSt_yes a1
    obtain ⟨_, e3, _⟩ := thenSt_yes a2
    rw [e1, e2, e3]
    rw [e3] at c2
    have m1 := isMap_drop hm fxL
    have m2 : IsMap ((t.drop fxL).2.write fxL b).2.D := isMap_write m1 fxL b
    refine still_rename (isMap_sync m2 fxL) (still_synced m2 (fun s f hs hf => ?_) c2) _ _
    rw [fat_write_other _ b hs] at hf
    exact still_drop h fxL s f hf
theorem delAll_still : ∀ (l : List (List UInt8)) {t : St}, Still t → Still (delAll l t).2 := fun l t h => delAll_keep (P := Still) (fun _ s h => still_delete h s) l t h
theorem delAll_none : ∀ (l : List (List UInt8)) {t : St} {s : List UInt8}, fat t.D s = none → fat (delAll l t).2.D s = none := fun l t s h => delAll_keep (P := fun t => fat t.D s = none) (fun t z h => by
  by_cases e : s = z
  · subst e
    rcases fat_delete_same t s with h1 | h1
    · exact h1.trans h
    · exact h1
  · exact (fat_delete_other t e).trans h) l t h
theorem delete_gone {t : St} {s : List UInt8} (h : (t.delete s).1 = 0) : fat (t.delete s).2.D s = none := by
  have := fb_delete_yes s h
  unfold St.fb at this
  cases hf : fat (t.delete s).2.D s with
  | none => rfl
  | some f => rw [hf] at this; cases this
theorem drop_gone {t : St} {s : List UInt8} (h : (t.drop s).1 = 0) : fat (t.drop s).2.D s = none := by
  have := fb_drop_yes s h
  unfold St.fb at this
  cases hf : fat (t.drop s).2.D s with
  | none => rfl
  | some f => rw [hf] at this; cases this
theorem delAll_gone : ∀ (l : List (List UInt8)) {t : St}, (delAll l t).1 = 0 → ∀ s ∈ l, fat (delAll l t).2.D s = none
  | [], _, _, _, hs => by simp at hs
  | z :: l, t, h, s, hs => by
    change (thenSt (t.delete z) (delAll l)).1 = 0 at h
    show fat (thenSt (t.delete z) (delAll l)).2.D s = none
    obtain ⟨a, e, c⟩ := thenSt_yes h
    rw [e]
    rcases List.mem_cons.1 hs with rfl | hs
    · exact delAll_none l (delete_gone a)
    · exact delAll_gone l c s hs
/-- No file's name is a segment's that is not listed. -/
def NoStray (g : Lg) (t : St) : Prop := ∀ s, (fst s).2 = true → (fst s).1 ∉ g.segs → fat t.D s = none
theorem clean_noStray {g : Lg} {t : St} (h : Good t.D t.room) (h0 : (lgClean g t).1 = 0) : NoStray g (lgClean g t).2 := fun s h1 h2 => by
  unfold lgClean at h0 ⊢
  by_cases hs : s ∈ strKeys t.D
  · exact delAll_gone _ h0 s (List.mem_filter.2 ⟨hs, by simp [h1, h2]⟩)
  · refine delAll_none _ ?_
    cases hf : fat t.D s with
    | none => rfl
    | some f => exact (hs ((names_mem h s).2 (by rw [hf]; rfl))).elim
theorem NoStray.stray {g : Lg} {t : St} (hn : NoStray g t) (h : Good t.D t.room) : lgStray g (strKeys t.D) = [] := by
  unfold lgStray
  rw [List.filter_eq_nil_iff]
  intro s hs hc
  simp only [Bool.and_eq_true, Bool.not_eq_true', List.contains_eq_mem, decide_eq_false_iff_not] at hc
  have := (names_mem h s).1 hs
  rw [hn s hc.1 hc.2] at this
  cases this
/-- A sync of a file that lasts changes no file. -/
theorem sync_still {t : St} (hm : IsMap t.D) (h : Still t) (z s : List UInt8) : fat (t.sync z).2.D s = fat t.D s := by
  by_cases e : s = z
  · subst e
    by_cases h0 : (t.sync s).1 = 0
    · obtain ⟨f, h1, h2⟩ := sync_yes hm s h0
      rw [h2, h1, ← h s f h1]
    · exact sync_no t s s h0
  · exact fat_sync_other t e
theorem sync_room (t : St) (s : List UInt8) : (t.sync s).2.room = t.room := by
  unfold St.sync
  by_cases h0 : t.fuse = 0
  · rw [if_pos h0]
  · rw [if_neg h0]
    cases fat t.D s with
    | none => rfl
    | some f =>
      by_cases h1 : 0 < t.fails
      · simp only; rw [if_pos h1]; rfl
      · simp only; rw [if_neg h1]; rfl
theorem find_all {t : St} {n : Int} : ∀ {l : List Int} {fs : List Fr}, Chain t l n fs → ∀ g : Lg, (g.segs = [] ∨ l.headD 0 = g.next) → lgFind t l g = (⟨g.segs ++ l, n⟩, none)
  | [], _, h, _, _ => h.elim
  | [x], fs, h, g, hg => by
    obtain ⟨hs, hn⟩ := h
    rw [find_whole hs [] hg, hn]
    rfl
  | x :: y :: l, fs, h, g, hg => by
    obtain ⟨a, b, rfl, h1, h3, h4, h2⟩ := h
    rw [find_whole h1 (y :: l) hg, find_all h2 ⟨g.segs ++ [x], x + (a.length : Int)⟩ (.inr h4), List.append_assoc]
    rfl
/-- Open of a disk on which all lasts and nothing is astray changes no file. -/
theorem open_still {g : Lg} {t : St} {fs : List Fr} (hc : Chain t g.segs g.next fs) (hk : mOk g.segs = true) (hl : Has t.D g.segs) (hq : Calm t) (hG : Good t.D t.room) (hS : Still t) (hN : NoStray g t)
    (hx : fat t.D fxL = none) (hy : fat t.D nxL = none) {size : Int} (hs : ¬ (size < 64 ∨ 65536 < size)) :
    ∃ t', lgOpen size t = (0, t', some g) ∧ t'.room = t.room ∧ Calm t' ∧ Good t'.D t'.room ∧ ∀ s, fat t'.D s = fat t.D s := by
  have hm : IsMap t.D := canon_map hG.canon
  have hload : (mLoad t).1 = g.segs := by rw [load_has hk hl]
  have hfind : lgFind t g.segs ⟨[], 0⟩ = (g, none) := find_all hc ⟨[], 0⟩ (.inl rfl)
  have hne := hc.ne
  have hlast : (fat t.D (lgLast g)).isSome = true := by
    obtain ⟨b, hb, _⟩ := hc.last_seg
    have := hb.file
    unfold St.fb at this
    unfold lgLast
    cases hf : fat t.D (nm (g.segs.getLastD 0)) with
    | none => rw [hf] at this; cases this
    | some f => rfl
  have hsy := calm_sync hq hlast
  have hrs : lgRestore t = (0, (t.sync (lgLast g)).2, g) := by
    unfold lgRestore
    rw [hload]
    simp only
    rw [hfind]
    simp only
    rw [if_neg hne, if_pos trivial]
    have e1 : thenSt (0, t) (lgMend g none) = (0, t) := rfl
    have e2 : thenSt (0, t) (lgClean g) = (0, t) := by
      unfold thenSt lgClean
      rw [if_neg (by simp), hN.stray hG]
      rfl
    rw [e1, e2]
    have e3 : thenSt (0, t) (lgSync g) = t.sync (lgLast g) := by
      unfold thenSt lgSync
      rw [if_neg (by simp)]
    rw [e3, hsy.1]
  have hf : ∀ s, fat (t.sync (lgLast g)).2.D s = fat t.D s := fun s => sync_still hm hS _ s
  have hd : ∀ z, fat t.D z = none → (t.sync (lgLast g)).2.drop z = (0, (t.sync (lgLast g)).2) := fun z hz => by
    unfold St.drop St.has
    rw [hf z, hz]
    rfl
  refine ⟨(t.sync (lgLast g)).2, ?_, sync_room t _, hsy.2, good_sync hG _, hf⟩
  unfold lgOpen
  rw [if_neg hs, hrs]
  simp only
  have e4 : thenSt (0, (t.sync (lgLast g)).2) (fun t => t.drop fxL) = (0, (t.sync (lgLast g)).2) := by
    unfold thenSt
    rw [if_neg (by simp)]
    exact hd fxL hx
  have e5 : thenSt (0, (t.sync (lgLast g)).2) (fun t => t.drop nxL) = (0, (t.sync (lgLast g)).2) := by
    unfold thenSt
    rw [if_neg (by simp)]
    exact hd nxL hy
  rw [e4, e5]
  simp
theorem drop_none {t : St} {s : List UInt8} (h : fat t.D s = none) (z : List UInt8) : fat (t.drop z).2.D s = none := by
  unfold St.drop
  by_cases e : t.has z = true
  · rw [if_pos e]
    by_cases e2 : s = z
    · subst e2
      rcases fat_delete_same t s with h1 | h1
      · exact h1.trans h
      · exact h1
    · exact (fat_delete_other t e2).trans h
  · rw [if_neg e]; exact h
/-- What an Open of a list that is found as a whole leaves, when it is done. -/
theorem open_leaves {t' : St} {l : List Int} {g0 g : Lg} {good : Option (List Nat)} {size : Int} (hG : Good t'.D t'.room) (hS : Still t') (hq : Calm t') (hn : nmOk (lgLast g0) = true) (hl : (mLoad t').1 = l) (hne : l ≠ []) (q4 : lgFind t' l ⟨[], 0⟩ = (g0, good)) (hsg : g0.segs = l) (ho : (lgOpen size t').2.2 = some g) :
    Still (lgOpen size t').2.1 ∧ NoStray g (lgOpen size t').2.1 ∧ fat (lgOpen size t').2.1.D fxL = none ∧ fat (lgOpen size t').2.1.D nxL = none ∧ Calm (lgOpen size t').2.1 := by
  obtain ⟨rfl, hm1, hs1, e⟩ := open_steps hl hne q4 hsg ho
  have hm : IsMap t'.D := canon_map hG.canon
  have c1 := (calm_mend (good := good) hm hq hn).2
  have G1 := good_mend (g := g) (good := good) hG (fun b hb => find_byte hG l ⟨[], 0⟩ b (by rw [q4]; exact hb))
  have S1 := still_mend hm hS hm1
  obtain ⟨c2e, c2⟩ := clean_calm (g := g) c1 G1
  have S2 : Still (lgClean g (lgMend g good t').2).2 := delAll_still _ S1
  have N2 := clean_noStray G1 c2e
  have m2 := clean_map g (mend_map (g := g) (good := good) hm)
  obtain ⟨f2, hf2, _⟩ := sync_yes m2 _ hs1
  have c3 : Calm (lgSync g (lgClean g (lgMend g good t').2).2).2 := (calm_sync c2 (s := lgLast g) (by rw [hf2]; rfl)).2
  have S3 : Still (lgSync g (lgClean g (lgMend g good t').2).2).2 := still_sync m2 S2 _
  have N3 : NoStray g (lgSync g (lgClean g (lgMend g good t').2).2).2 := fun s h1 h2 => (sync_still m2 S2 _ s).trans (N2 s h1 h2)
  have c4 := calm_drop c3 fxL
  have c5 := calm_drop c4.2 nxL
  rw [e]
  exact ⟨still_drop (still_drop S3 _) _, fun s h1 h2 => drop_none (drop_none (N3 s h1 h2) _) _, drop_none (drop_gone c4.1) _, drop_gone c5.1, c5.2⟩
/-- A crash of a disk on which all lasts changes no file. -/
theorem crash_still {t : St} (h : Good t.D t.room) (hS : Still t) (ks : List Int) (h' : Good (t.crash ks).D (t.crash ks).room) (s : List UInt8) : fat (t.crash ks).D s = fat t.D s := by
  cases hf : fat t.D s with
  | some f =>
    obtain ⟨n, n1, n2, n3⟩ := crash_some h ks hf
    have := hS s f hf
    rw [n3, show n = f.bs.length from by omega, List.take_length, ← this]
  | none =>
    cases hg : fat (t.crash ks).D s with
    | none => rfl
    | some f =>
      have := (names_mem h' s).2 (by rw [hg]; rfl)
      rw [show (t.crash ks).D = crD ks (size t.D) t.D from rfl, names_crD] at this
      have := (names_mem h s).1 this
      rw [hf] at this
      cases this
theorem look_fat {D : FS} {r : Nat} (h : Good D r) (k : Lit) (d : DataW Fl) : look D k = some d ↔ ∃ s f, k = .string s ∧ d = .held f ∧ fat D s = some f := by
  constructor
  · intro hd
    obtain ⟨s, f, e1, _, e2, _⟩ := h.files k d hd
    subst e1 e2
    exact ⟨s, f, rfl, rfl, by unfold fat; rw [hd]⟩
  · rintro ⟨s, f, rfl, rfl, hf⟩
    unfold fat at hf
    cases hl : look D (.string s) with
    | none => rw [hl] at hf; cases hf
    | some d =>
      obtain ⟨s', f', e1, _, e2, _⟩ := h.files _ d hl
      subst e2
      rw [hl] at hf
      injection hf with hf
      rw [hf]
/-- Disks of the same files are the same. -/
theorem fat_ext {D E : FS} {r r' : Nat} (hD : Good D r) (hE : Good E r') (h : ∀ s, fat D s = fat E s) : D = E := by
  have hk : ∀ k, look D k = look E k := fun k => by
    apply Option.ext
    intro d
    rw [look_fat hD, look_fat hE]
    constructor
    · rintro ⟨s, f, e1, e2, e3⟩; exact ⟨s, f, e1, e2, (h s).symm.trans e3⟩
    · rintro ⟨s, f, e1, e2, e3⟩; exact ⟨s, f, e1, e2, (h s).trans e3⟩
  exact Maps.ext hD.canon hE.canon (fun k => by rw [has_look, has_look, hk]) (fun k z _ => by rw [atKey_look, atKey_look, hk])
/-- A log's disk as an Open leaves it behind a crash. -/
structure Calmed (g : Lg) (t : St) (fs : List Fr) : Prop where
  chain : Chain t g.segs g.next fs
  ok : mOk g.segs = true
  list : Has t.D g.segs
  calm : Calm t
  still : Still t
  stray : NoStray g t
  fx : fat t.D fxL = none
  nx : fat t.D nxL = none
theorem Calmed.same {g : Lg} {t t' : St} {fs : List Fr} (h : Calmed g t fs) (e : t'.D = t.D) (hc : Calm t') : Calmed g t' fs :=
  ⟨h.chain.keep (fun x _ => by unfold St.fb; rw [e]), h.ok, e ▸ h.list, hc, fun s f hf => h.still s f (by rw [← e]; exact hf), fun s h1 h2 => by rw [e]; exact h.stray s h1 h2, by rw [e]; exact h.fx, by rw [e]; exact h.nx⟩
/-- Open again: done, and the disk is as it was. -/
theorem Calmed.open_ {g : Lg} {t : St} {fs : List Fr} (h : Calmed g t fs) (hG : Good t.D t.room) {size : Int} (hs : ¬ (size < 64 ∨ 65536 < size)) :
    ∃ t', lgOpen size t = (0, t', some g) ∧ t'.room = t.room ∧ t'.D = t.D ∧ Calmed g t' fs := by
  obtain ⟨t', e, hr, hc, hg, hf⟩ := open_still h.chain h.ok h.list h.calm hG h.still h.stray h.fx h.nx hs
  have hD := fat_ext hg hG hf
  exact ⟨t', e, hr, hD, h.same hD hc⟩
/-- A crash of it: the disk is as it was. -/
theorem Calmed.crash {g : Lg} {t : St} {fs : List Fr} (h : Calmed g t fs) (hG : Good t.D t.room) (ks : List Int) (hG' : Good (t.crash ks).D (t.crash ks).room) : (t.crash ks).D = t.D ∧ Calmed g (t.crash ks) fs := by
  have hD := fat_ext hG' hG (crash_still hG h.still ks hG')
  exact ⟨hD, h.same hD (crash_calm t ks)⟩
/-- What Open leaves behind a crash of a log. -/
theorem LDur.calmed {g : Lg} {t : St} {fs : List Fr} {S : Int} (h : LDur g t fs S) (hG : Good t.D t.room) (ks : List Int) (hG' : Good (t.crash ks).D (t.crash ks).room) {size : Int} {g' : Lg} (ho : (lgOpen size (t.crash ks)).2.2 = some g') :
    ∃ fs' rest, fs = fs' ++ rest ∧ Calmed g' (lgOpen size (t.crash ks)).2.1 fs' := by
  have hm' : IsMap (t.crash ks).D := canon_map hG'.canon
  obtain ⟨fs', rest, e1, e2, _, hd⟩ := h.reopen hG ks hm' ho
  obtain ⟨f, b0, p, hf, hs0, h12, hp, hpe, hS⟩ := h.last
  obtain ⟨m, m1, m2, m3⟩ := crash_some hG ks hf
  have hl : (mLoad (t.crash ks)).1 = g.segs := by rw [load_has h.ok (has_crash hG ks h.list)]
  have hb : t.bytes (nm (g.segs.getLastD 0)) = f.bs := by unfold St.bytes; rw [hf]; rfl
  obtain ⟨a, b, j, good, _, _, _, _, q4, _, _⟩ := find_chain (t' := t.crash ks) m (by omega) h.inv.chain (fun x hx hne => by
      obtain ⟨fx, hfx, hfl⟩ := h.done x hx hne
      obtain ⟨k, k1, k2, k3⟩ := crash_some hG ks hfx
      rw [show k = fx.bs.length from by omega, List.take_length] at k3
      unfold St.fb
      rw [hfx, k3]
      rfl) (by rw [hb]; unfold St.fb; rw [m3]; rfl) (by rw [hb]; exact m2) ⟨[], 0⟩ (.inl rfl)
  rw [List.nil_append] at q4
  obtain ⟨g0, hg0⟩ : ∃ g0 : Lg, g0 = ⟨g.segs, g.segs.headD 0 + ((a.length + j : Nat) : Int)⟩ := ⟨_, rfl⟩
  rw [← hg0] at q4
  have hsg : g0.segs = g.segs := by rw [hg0]
  have hlast : lgLast g0 = lgLast g := by unfold lgLast; rw [hsg]
  obtain ⟨l1, l2, l3, l4, l5⟩ := open_leaves hG' (still_crash hG ks hG') (crash_calm t ks) (by rw [hlast]; exact nm_ok (h.range h.inv.chain.mem_last)) hl h.inv.chain.ne q4 hsg ho
  exact ⟨fs', rest, e1, hd.inv.chain, hd.ok, hd.list, l5, l1, l2, l3, l4⟩
theorem calm_turn {t : St} (hm : IsMap t.D) (h : Calm t) (l : List Int) : OkFull (mTurn t l) := by
  have hd : (delNext t).1 = 0 ∧ Calm (delNext t).2 := by
    unfold delNext
    by_cases hh : (fat t.D nxL).isSome = true
    · rw [if_pos hh]; exact calm_delete h hh
    · rw [if_neg hh]; exact ⟨rfl, h⟩
  have hmd := isMap_delNext hm
  have hw := calm_write hd.2 (s := nxL) (mPut l) (by decide)
  unfold mTurn
  rw [if_neg (by show ¬ (delNext t).1 ≠ 0; rw [hd.1]; decide)]
  by_cases h1 : mAns t l 1 ≠ 0
  · rw [if_pos h1]; exact hw
  · rw [if_neg h1]
    have h1 : mAns t l 1 = 0 := by simpa using h1
    have hwy := write_yes hmd nxL (mPut l) h1
    have hs := calm_sync hw.2 (s := nxL) (by rw [hwy]; rfl)
    rw [if_neg (by show ¬ (St.sync _ nxL).1 ≠ 0; exact fun e => e hs.1)]
    obtain ⟨f, _, hf⟩ := sync_yes (isMap_write hmd _ _) nxL hs.1
    have hr := calm_rename (z := mfL) hs.2 (by decide) (s := nxL) (by rw [hf]; rfl)
    exact ⟨.inl hr.1, hr.2⟩
theorem calm_gone {t : St} (h : Calm t) (s : List UInt8) : fat (t.delete s).2.D s = none := by
  cases hf : fat t.D s with
  | none =>
    rcases fat_delete_same t s with h1 | h1
    · exact h1.trans hf
    · exact h1
  | some f => exact delete_gone (calm_delete h (by rw [hf]; rfl)).1
/-- A Swap that finds no room leaves all files as they were. -/
theorem swap_no {t : St} (hm : IsMap t.D) (h : Calm t) {l : List Int} (h0 : (mSwap t l).1 ≠ 0) (hok : mOk l = true) (hn : fat t.D nxL = none) (s : List UInt8) : fat (mSwap t l).2.D s = fat t.D s := by
  by_cases e1 : s = mfL
  · rw [e1]; exact swap_keeps t l h0
  · by_cases e2 : s = nxL
    · subst e2
      have ht := calm_turn hm h l
      unfold mSwap at h0 ⊢
      rw [if_pos hok] at h0 ⊢
      have h5 : (mTurn t l).1 = 5 := ht.1.resolve_left h0
      show fat (mClean (mTurn t l).1 (mTurn t l).2).D nxL = _
      unfold mClean
      rw [h5, if_pos (by decide), hn]
      exact calm_gone ht.2 _
    · exact fat_swap_other t l e1 e2
/-- So does laying a segment that finds no room, but for the segment's own name: no such file is left. -/
theorem lay_no {g : Lg} {t : St} (hm : IsMap t.D) (h : Calm t) {first : Int} (hr : 0 ≤ first ∧ first ≤ 1073741824) (hok : mOk (g.segs ++ [first]) = true) (hn : fat t.D nxL = none) (h0 : (lgLay g t first).1 ≠ 0) (s : List UInt8) :
    fat (lgLay g t first).2.1.D s = if s = nm first then none else fat t.D s := by
  have hd := calm_drop h (nm first)
  have hmd : IsMap (t.drop (nm first)).2.D := isMap_drop hm _
  have hp : OkFull (lgPre t first) := by
    refine thenSt_full (thenSt_full ⟨.inl hd.1, hd.2⟩ fun _ => calm_write hd.2 _ (nm_ok hr)) fun e => ?_
    obtain ⟨_, e2, e3⟩ := thenSt_yes e
    have hw := calm_write hd.2 (hdo first) (nm_ok hr)
    rw [e2]
    have := calm_sync hw.2 (s := nm first) (by rw [write_yes hmd _ _ e3]; rfl)
    exact ⟨.inl this.1, this.2⟩
  have ht : OkFull (lgTry g t first) := by
    rw [try_pre]
    exact thenSt_full hp fun _ => calm_swap (pre_map hm first) hp.2 hok
  have hpo : ∀ z, z ≠ nm first → fat (lgPre t first).2.D z = fat t.D z := fun z hz =>
    thenSt_keep (P := fun u => fat u.D z = fat t.D z) (thenSt_keep (P := fun u => fat u.D z = fat t.D z) (fat_drop_other t hz) (fun u hu => (fat_write_other u _ hz).trans hu)) (fun u hu => (fat_sync_other u hz).trans hu)
  unfold lgLay at h0 ⊢
  simp only at h0 ⊢
  by_cases e : (lgTry g t first).1 = 0
  · rw [if_pos e] at h0; exact (h0 rfl).elim
  · rw [if_neg e]
    have h5 : (lgTry g t first).1 = 5 := ht.1.resolve_left e
    rw [if_neg (by rw [h5]; decide)]
    show fat (St.delete _ _).2.D s = _
    by_cases es : s = nm first
    · rw [if_pos es, es]; exact calm_gone ht.2 _
    · rw [if_neg es, fat_delete_other _ es, try_pre]
      by_cases ep : (lgPre t first).1 = 0
      · have hth : thenSt (lgPre t first) (fun t => mSwap t (g.segs ++ [first])) = mSwap (lgPre t first).2 (g.segs ++ [first]) := if_neg (by simp [ep])
        rw [hth]
        rw [try_pre, hth] at e
        rw [swap_no (pre_map hm first) hp.2 e hok ((hpo nxL (fun e => nm_ne_nx first hr e.symm)).trans hn), hpo s es]
      · have hth : thenSt (lgPre t first) (fun t => mSwap t (g.segs ++ [first])) = lgPre t first := if_pos ep
        rw [hth]
        exact hpo s es
/-- A first Open of a new disk that finds no room leaves no file. -/
theorem open_new_none {room : Nat} {size : Int} (h1 : 64 ≤ size) (h2 : size ≤ 65536) (h0 : (lgOpen size ⟨.map [], room, -1, 0⟩).2.2 = none) (s : List UInt8) : fat (lgOpen size ⟨.map [], room, -1, 0⟩).2.1.D s = none := by
  obtain ⟨t, ht⟩ : ∃ t : St, t = ⟨.map [], room, -1, 0⟩ := ⟨_, rfl⟩
  have hm : IsMap t.D := by rw [ht]; exact ⟨[], rfl⟩
  have hl : (mLoad t).1 = [] := by rw [ht]; rfl
  have hc : (lgClean ⟨[], 0⟩ t).2 = t ∧ (lgClean ⟨[], 0⟩ t).1 = 0 := by rw [ht]; exact ⟨rfl, rfl⟩
  have hcalm : Calm t := by rw [ht]; exact ⟨rfl, rfl⟩
  have hno : ∀ z, fat t.D z = none := fun z => by rw [ht]; rfl
  rw [← ht] at h0 ⊢
  have hrs : lgRestore t = lgLay ⟨[], 0⟩ t 0 := by
    have h2 : ¬ (lgClean ⟨[], 0⟩ t).1 ≠ 0 := by rw [hc.2]; decide
    unfold lgRestore
    rw [hl]
    show (if ([] : List Int) = [] then _ else _) = _
    rw [if_pos rfl]
    show (if (lgClean ⟨[], 0⟩ t).1 ≠ 0 then _ else lgLay ⟨[], 0⟩ (lgClean ⟨[], 0⟩ t).2 0) = _
    rw [if_neg h2, hc.1]
  have hlay := calm_lay (g := ⟨[], 0⟩) hm hcalm (first := 0) ⟨by decide, by decide⟩ (by decide)
  have hop : lgOpen size t = (let s := thenSt (thenSt ((lgLay ⟨[], 0⟩ t 0).1, (lgLay ⟨[], 0⟩ t 0).2.1) fun t => t.drop fxL) fun t => t.drop nxL
      if s.1 ≠ 0 then (s.1, s.2, none) else (0, s.2, some (lgLay ⟨[], 0⟩ t 0).2.2)) := by
    unfold lgOpen
    rw [if_neg (by omega), hrs]
  rcases hlay.1 with e0 | h5
  · exfalso
    have e1 : thenSt ((lgLay ⟨[], 0⟩ t 0).1, (lgLay ⟨[], 0⟩ t 0).2.1) (fun t => t.drop fxL) = (lgLay ⟨[], 0⟩ t 0).2.1.drop fxL := if_neg (by simp [e0])
    have d1 := calm_drop hlay.2 fxL
    have e2 : thenSt ((lgLay ⟨[], 0⟩ t 0).2.1.drop fxL) (fun t => t.drop nxL) = ((lgLay ⟨[], 0⟩ t 0).2.1.drop fxL).2.drop nxL := if_neg (by simp [d1.1])
    have d2 := calm_drop d1.2 nxL
    rw [e1, e2] at hop
    simp only [d2.1] at hop
    rw [if_neg (by simp)] at hop
    rw [hop] at h0
    cases h0
  · have e1 : thenSt ((lgLay ⟨[], 0⟩ t 0).1, (lgLay ⟨[], 0⟩ t 0).2.1) (fun t => t.drop fxL) = ((lgLay ⟨[], 0⟩ t 0).1, (lgLay ⟨[], 0⟩ t 0).2.1) := if_pos (by simp [h5])
    have e2 : thenSt ((lgLay ⟨[], 0⟩ t 0).1, (lgLay ⟨[], 0⟩ t 0).2.1) (fun t => t.drop nxL) = ((lgLay ⟨[], 0⟩ t 0).1, (lgLay ⟨[], 0⟩ t 0).2.1) := if_pos (by simp [h5])
    rw [e1, e2] at hop
    simp only [h5] at hop
    rw [if_pos (by simp)] at hop
    rw [hop]
    show fat (lgLay ⟨[], 0⟩ t 0).2.1.D s = none
    rw [lay_no hm hcalm ⟨by decide, by decide⟩ (by decide) (hno _) (by rw [h5]; decide) s]
    split
    · rfl
    · exact hno s
theorem delete_room (t : St) (s : List UInt8) : (t.delete s).2.room = t.room := by
  unfold St.delete
  (repeat' split) <;> rfl
theorem drop_room (t : St) (s : List UInt8) : (t.drop s).2.room = t.room := by
  unfold St.drop
  split
  · exact delete_room t s
  · rfl
theorem write_room (t : St) (s : List UInt8) (b : List Nat) : (t.write s b).2.room = t.room := by
  unfold St.write
  (repeat' split) <;> rfl
theorem lay_room (g : Lg) (t : St) (first : Int) : (lgLay g t first).2.1.room = t.room := by
  have h : (lgTry g t first).2.room = t.room :=
    thenSt_keep (P := fun u => u.room = t.room) (thenSt_keep (P := fun u => u.room = t.room) (thenSt_keep (P := fun u => u.room = t.room) (drop_room t _) (fun u hu => (write_room u _ _).trans hu)) (fun u hu => (sync_room u _).trans hu)) (fun u hu => (room_swap u _).trans hu)
  unfold lgLay
  simp only
  split
  · exact h
  · split
    · exact h
    · exact (delete_room _ _).trans h
theorem open_new_room {room : Nat} {size : Int} (h1 : 64 ≤ size) (h2 : size ≤ 65536) : (lgOpen size ⟨.map [], room, -1, 0⟩).2.1.room = room := by
  have hrs : lgRestore ⟨.map [], room, -1, 0⟩ = lgLay ⟨[], 0⟩ ⟨.map [], room, -1, 0⟩ 0 := rfl
  have h : ∀ u : Int × St, (thenSt (thenSt u fun t => t.drop fxL) fun t => t.drop nxL).2.room = u.2.room := fun u =>
    thenSt_keep (P := fun v => v.room = u.2.room) (thenSt_keep (P := fun v => v.room = u.2.room) rfl (fun v hv => (drop_room v _).trans hv)) (fun v hv => (drop_room v _).trans hv)
  have hl := lay_room ⟨[], 0⟩ ⟨.map [], room, -1, 0⟩ 0
  unfold lgOpen
  rw [if_neg (by omega), hrs]
  simp only
  split
  · exact (h _).trans hl
  · exact (h _).trans hl
/-- A crash behind a first Open that found no room: the disk is new again. -/
theorem open_new_crash {room : Nat} (hr : room ≤ 1048576) {size : Int} (h1 : 64 ≤ size) (h2 : size ≤ 65536) (h0 : (lgOpen size ⟨.map [], room, -1, 0⟩).2.2 = none) (hG : Good (lgOpen size ⟨.map [], room, -1, 0⟩).2.1.D (lgOpen size ⟨.map [], room, -1, 0⟩).2.1.room) (ks : List Int) :
    (lgOpen size ⟨.map [], room, -1, 0⟩).2.1.crash ks = ⟨.map [], room, -1, 0⟩ := by
  have hD := fat_ext hG (Good.empty hr) (fun s => (open_new_none h1 h2 h0 s).trans rfl)
  have hR := open_new_room (room := room) h1 h2
  unfold St.crash
  rw [hD, hR]
  rfl
end Go.Proofs.YtphjpjlifdabfaaGreatDoor
