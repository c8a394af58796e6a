/- Contracts of the program's manifest: the calls that Swap does in turn. Contracts of the program's manifest: calls in turn, Swap's deferred call, Swap. Contracts of the program's manifest: Swap. Contracts of the program's manifest: Swap, whole. -/
import Derived.Test.YtohiheohndmccaaGreatMfD
import Derived.Defers
namespace Go.Proofs.YtohiheohndmccaaGreat
set_option linter.unusedSimpArgs false
section
open Go.RowKit Go.Sort
open Crc Frm
attribute [local go_sem] Oper.semAt_some

set_option maxRecDepth 100000 in
set_option maxHeartbeats 1600000 in
theorem sw2_any {w0 w : World} {dp bd : Nat} {t : St} {O : Nat → Prop} (h : DK w0 w dp t O) (hd : w.cell? ⟨bd, 0, none⟩ = some (.pointer (some ⟨dp, 0, none⟩))) :
    Calls Tryz.prog 41 #[.pointer (some ⟨bd, 0, none⟩)] w fun e w' => e = .returned (.int .i64 (delNext t).1) ∧ Mv w0 w dp O (delNext t).2 w' := by
  have DL := Lib.hid (delnext_any h)
  clear h
  generalize delNext t = r at *
  go_enter Tryz.func41, Tryz.ntmps41
  go_wp2_with fail
  refine DL.out.mono ?_
  rintro e w1 ⟨rfl, hmv⟩
  have HM := Lib.hid hmv
  clear hmv DL
  go_wp2
  go_ret
  exact ⟨rfl, HM.out⟩
set_option maxRecDepth 100000 in
set_option maxHeartbeats 1600000 in
theorem sw4_any {w0 w : World} {dp bd : Nat} {t : St} {O : Nat → Prop} (h : DK w0 w dp t O) (hd : w.cell? ⟨bd, 0, none⟩ = some (.pointer (some ⟨dp, 0, none⟩))) :
    Calls Tryz.prog 44 #[.pointer (some ⟨bd, 0, none⟩)] w fun e w' => e = .returned (.int .i64 (t.sync nxL).1) ∧ Mv w0 w dp O (t.sync nxL).2 w' := by
  have DL := h.sync nxS (by decide)
  change Calls _ _ _ _ (fun e w' => e = .returned (.int .i64 (t.sync nxL).1) ∧ Mv w0 w dp O (t.sync nxL).2 w') at DL
  unfold nxS at DL
  have DL := Lib.hid DL
  clear h
  generalize t.sync nxL = r at *
  go_enter Tryz.func44, Tryz.ntmps44
  go_wp2_with fail
  refine DL.out.mono ?_
  rintro e w1 ⟨rfl, hmv⟩
  have HM := Lib.hid hmv
  clear hmv DL
  go_wp2
  go_ret
  exact ⟨rfl, HM.out⟩
set_option maxRecDepth 100000 in
set_option maxHeartbeats 1600000 in
theorem sw5_any {w0 w : World} {dp bd : Nat} {t : St} {O : Nat → Prop} (h : DK w0 w dp t O) (hd : w.cell? ⟨bd, 0, none⟩ = some (.pointer (some ⟨dp, 0, none⟩))) :
    Calls Tryz.prog 45 #[.pointer (some ⟨bd, 0, none⟩)] w fun e w' => e = .returned (.int .i64 (t.rename nxL mfL).1) ∧ Mv w0 w dp O (t.rename nxL mfL).2 w' := by
  have DL := h.rename nxS mfS (by decide) (by decide)
  change Calls _ _ _ _ (fun e w' => e = .returned (.int .i64 (t.rename nxL mfL).1) ∧ Mv w0 w dp O (t.rename nxL mfL).2 w') at DL
  unfold nxS mfS at DL
  have DL := Lib.hid DL
  clear h
  generalize t.rename nxL mfL = r at *
  go_enter Tryz.func45, Tryz.ntmps45
  go_wp2_with fail
  refine DL.out.mono ?_
  rintro e w1 ⟨rfl, hmv⟩
  have HM := Lib.hid hmv
  clear hmv DL
  go_wp2
  go_ret
  exact ⟨rfl, HM.out⟩
theorem mPut_len (l : List Int) : (mPut l).length ≤ 2000 := by
  unfold mPut
  split
  · next h =>
    have h1 := (mOk_all h).2.1
    have h2 := mNums_len l
    simp only [mRaw, mSum, List.length_append, List.length_cons, be_len]
    omega
  · simp
theorem mPut_byte (l : List Int) : ∀ c ∈ mPut l, c < 256 := by
  intro c hc
  unfold mPut at hc
  split at hc
  · next h =>
    rcases List.mem_append.1 hc with h1 | h1
    · rcases List.mem_cons.1 h1 with rfl | h2
      · have := (mOk_all h).2.1; omega
      · exact mNums_byte l c h2
    · exact be_byte _ _ c h1
  · cases hc
set_option linter.unusedSimpArgs false in
set_option maxRecDepth 100000 in
set_option maxHeartbeats 3200000 in
theorem sw3_any {w0 w : World} {dp bd bl : Nat} {t : St} {O : Nat → Prop} (h : DK w0 w dp t O) (hd : w.cell? ⟨bd, 0, none⟩ = some (.pointer (some ⟨dp, 0, none⟩))) (l : List Int) (a : Option Addr) (n c : Nat)
    (hl : w.cell? ⟨bl, 0, none⟩ = some (.slice a n c)) (hr : Row w w.heap.size a n c 1 (intsC l)) (hn : l.length = n) (hdO : ¬ O bd) (hlO : ¬ O bl) :
    Calls Tryz.prog 43 #[.pointer (some ⟨bd, 0, none⟩), .pointer (some ⟨bl, 0, none⟩)] w fun e w' => e = .returned (.int .i64 (t.write nxL (mPut l)).1) ∧ Mv w0 w dp O (t.write nxL (mPut l)).2 w' := by
  have PT := Lib.hid (mput_any l a n c w.drew (row_drew hr) hn)
  have hpl := mPut_len l
  have hpb := Lib.hid (mPut_byte l)
  have HK := Lib.hid (And.intro h (And.intro hdO hlO))
  have hbd := block_lt_of_cell hd
  have hbl := block_lt_of_cell hl
  clear h hdO hlO hr
  obtain ⟨r, hr9⟩ : ∃ r, r = t.write nxL (mPut l) := ⟨_, rfl⟩
  rw [← hr9]
  have HR9 := Lib.hid hr9
  clear hr9
  go_enter Tryz.func43, Tryz.ntmps43
  go_wp2_with fail
  refine wp_region_held_drew (S := fun x => x.cell? ⟨bd, 0, none⟩ = some (.pointer (some ⟨dp, 0, none⟩)) ∧ x.cell? ⟨bl, 0, none⟩ = some (.slice a n c)) (by kernel_rfl) ⟨hd, hl⟩ (fun hHeld => ?_)
  refine wpAnyH_take (i := 0) (v := ?_) rfl (by kernel_rfl) (by kernel_rfl) (by kernel_rfl) (fun _ _ _ h => h) (Or.inl ⟨by rfl, ?_⟩) (by assumption) ?_
  rotate_left
  · intro w hSw
    (try dsimp only at hSw)
    go_simp
    all_goals with_reducible rfl
  try simp only [Act.put, List.getElem_toArray, List.getElem_cons_succ, List.getElem_cons_zero, List.setIfInBounds_toArray, List.set_cons_zero, List.set_cons_succ]
  refine wpAnyH_take (i := 1) (v := ?_) rfl (by kernel_rfl) (by kernel_rfl) (by kernel_rfl) (fun _ _ _ h => h) (Or.inl ⟨by rfl, ?_⟩) (by assumption) ?_
  rotate_left
  · intro w hSw
    (try dsimp only at hSw)
    go_simp
    all_goals with_reducible rfl
  try simp only [Act.put, List.getElem_toArray, List.getElem_cons_succ, List.getElem_cons_zero, List.setIfInBounds_toArray, List.set_cons_zero, List.set_cons_succ]
  refine wpAnyH_ready (rs := [2]) (by kernel_rfl) (by simp) ?_
  refine AllReadyH.cons rfl (fun K hK => ?_) AllReadyH.nil
  rw [if_pos (by rfl)]
  go_simp
  go_at_call 22
  refine PT.out.mono ?_
  rintro e w1 ⟨v, rfl, hv, hb1⟩
  have hb1' : Below w.heap.size w w1 := below_drew_of hb1
  have k1 := (hb1'.cell (p := ⟨bd, 0, none⟩) hbd).trans hd
  have k2 := (hb1'.cell (p := ⟨bl, 0, none⟩) hbl).trans hl
  obtain ⟨va, vc, rfl, hvs, hvb⟩ := hv.sl_base hpb.out
  have WR := (HK.out.1.on hb1').write nxS (by decide) va _ vc _ hvs (by omega) (fun _ k o e ho => by have h1 := hvb k o e; have h2 := HK.out.1.lt k ho; have h3 : w.drew.heap.size = w.heap.size := rfl; omega)
  change Calls _ _ _ _ (fun e w' => e = .returned (.int .i64 (t.write nxL (mPut l)).1) ∧ Mv w0 w1 dp O (t.write nxL (mPut l)).2 w') at WR
  unfold nxS at WR
  rw [← HR9.out] at WR
  have WR := Lib.hid WR
  have HB := Lib.hid hb1'
  clear hv hb1 hvs hvb hb1' PT
  generalize (mPut l).length = pn at *
  refine hK.out _ _ ?_ (fun hHeld => ?_)
  · exact ⟨k1, k2⟩
  clear hK K
  try simp only [Act.put, List.getElem_toArray, List.getElem_cons_succ, List.getElem_cons_zero, List.setIfInBounds_toArray, List.set_cons_zero, List.set_cons_succ]
  refine wpAnyH_ready (rs := [3]) (by kernel_rfl) (by simp) ?_
  refine AllReadyH.cons rfl (fun K hK => ?_) AllReadyH.nil
  rw [if_pos (by rfl)]
  go_simp
  go_at_call 30
  refine WR.out.mono ?_
  rintro e w2 ⟨rfl, hmv⟩
  have j1 := (hmv.far.choose_spec.2.1.cell (b := bd) (o := 0) (Nat.lt_of_lt_of_le hbd HB.out.size) HK.out.2.1).trans k1
  have j2 := (hmv.far.choose_spec.2.1.cell (b := bl) (o := 0) (Nat.lt_of_lt_of_le hbl HB.out.size) HK.out.2.2).trans k2
  have HM := Lib.hid (Mv.behind HB.out hmv)
  clear hmv WR
  refine hK.out _ _ ?_ (fun hHeld => ?_)
  · exact ⟨j1, j2⟩
  clear hK K
  try simp only [Act.put, List.getElem_toArray, List.getElem_cons_succ, List.getElem_cons_zero, List.setIfInBounds_toArray, List.set_cons_zero, List.set_cons_succ]
  refine wpAnyH_take (i := 4) (v := ?_) rfl (by kernel_rfl) (by kernel_rfl) (by kernel_rfl) (fun _ _ _ h => h) (Or.inl ⟨by rfl, ?_⟩) (by assumption) ?_
  rotate_left
  · intro w hSw
    (try dsimp only at hSw)
    go_simp
    all_goals with_reducible rfl
  try simp only [Act.put, List.getElem_toArray, List.getElem_cons_succ, List.getElem_cons_zero, List.setIfInBounds_toArray, List.set_cons_zero, List.set_cons_succ]
  refine wpAnyH_done (by kernel_rfl) ?_ _
  clear hHeld
  go_wp2
  go_ret
  exact ⟨rfl, HM.out⟩
end
section
open Go.RowKit Go.Sort
open Crc Frm
attribute [local go_sem] Oper.semAt_some

set_option linter.unusedSimpArgs false in
set_option maxRecDepth 100000 in
set_option maxHeartbeats 1600000 in
/-- Calls in turn: what each needs and leaves, and what is told at the first error. -/
theorem inturn_any (n : Nat) (fs : Nat → FuncId) (cs : Nat → Array Value) (g : Nat) (w : World) (J : Nat → World → Prop) (R : Int → World → Prop) (hn : n ≤ 1000)
    (hcell : ∀ k w', k < n → J k w' → w'.cell? ⟨g, k, none⟩ = some (.func (.func (fs k)) #[] (cs k)))
    (hc : ∀ k x, k < n → (callFunc (fs k) (cs k)).run Tryz.prog x = .ok (.enter (fs k) (cs k)) x)
    (hcall : ∀ k w', k < n → J k w' → Calls Tryz.prog (fs k) (cs k) w' fun e w'' => ∃ x, e = .returned (.int .i64 x) ∧ (x = 0 → J (k + 1) w'') ∧ (x ≠ 0 → R x w''))
    (hend : ∀ w', J n w' → R 0 w') (h0 : J 0 w) :
    Calls Tryz.prog 40 #[.slice (some ⟨g, 0, none⟩) n n] w fun e w' => ∃ x, e = .returned (.int .i64 x) ∧ R x w' := by
  have HC := Lib.hid hcell
  have HL := Lib.hid hcall
  have HE := Lib.hid hend
  have HF := Lib.hid hc
  have H0 := Lib.hid h0
  clear hcell hc hcall hend h0
  go_enter Tryz.func40, Tryz.ntmps40
  go_wp2_with fail
  go_loopw [4, 5, 8] (fun _ _ i wr => ∃ k : Nat, k ≤ n ∧ i = .int .i64 (k : Int) ∧ J k wr) (fun _ _ i _ => n - (intOf i).toNat)
  case atStart => exact ⟨0, Nat.zero_le _, rfl, H0.out⟩
  case round =>
    obtain ⟨k, hk, rfl, hj⟩ := hrel
    by_cases hlt : k < n
    · have c0 := HC.out k wr hlt hj
      have cf := fun x => HF.out k x hlt
      have CL := Lib.hid (HL.out k wr hlt hj)
      have c1 : wr.cell? ⟨g, 0 + k, none⟩ = some (.func (.func (fs k)) #[] (cs k)) := by rw [Nat.zero_add]; exact c0
      clear hj
      generalize fs k = fk at *
      generalize cs k = ck at *
      go_wp2_with fail
      refine CL.out.mono ?_
      rintro e w1 ⟨x, rfl, hx0, hx1⟩
      have X0 := Lib.hid hx0
      have X1 := Lib.hid hx1
      clear hx0 hx1 CL c0 c1 cf
      by_cases hx : x = 0
      · subst hx
        go_wp2
        go_roundw
        case rel => exact ⟨k + 1, by omega, by go_num, X0.out (by trivial)⟩
        case measure => simp [intOf]; omega
      · go_wp2
        go_ret
        exact ⟨x, rfl, X1.out hx⟩
    · have hkn : k = n := by omega
      subst hkn
      have HJ := Lib.hid hj
      clear hj
      go_wp2
      go_ret
      exact ⟨0, rfl, HE.out _ HJ.out⟩

/-- What the deferred call leaves. -/
def mClean (x : Int) (t : St) : St := if x ≠ 0 ∧ x ≠ 42 then (t.delete nxL).2 else t
set_option maxRecDepth 100000 in
set_option maxHeartbeats 1600000 in
theorem sw1_any {w0 w : World} {dp bd be : Nat} {t : St} {O : Nat → Prop} (h : DK w0 w dp t O) (x : Int) (u : FrameMode) (hd : w.cell? ⟨bd, 0, none⟩ = some (.pointer (some ⟨dp, 0, none⟩))) (he : w.cell? ⟨be, 0, none⟩ = some (.int .i64 x)) :
    CallsD Tryz.prog 39 #[.pointer (some ⟨be, 0, none⟩), .pointer (some ⟨bd, 0, none⟩)] u w fun e u' w' => u' = u ∧ (e = .returned (.tuple #[]) ∧ Mv w0 w dp O (mClean x t) w') := by
  have DL := h.delete nxS (by decide)
  change Calls _ _ _ _ (fun e w' => e = .returned (.int .i64 (t.delete nxL).1) ∧ Mv w0 w dp O (t.delete nxL).2 w') at DL
  unfold nxS at DL
  have DL := Lib.hid DL
  have HS := Lib.hid (Mv.still h (Below.refl _ _))
  have HC : Hid (mClean x t = if x ≠ 0 ∧ x ≠ 42 then (t.delete nxL).2 else t) := rfl
  clear h
  generalize t.delete nxL = r at *
  by_cases h0 : x = 0
  · subst h0
    have hc : Hid (mClean 0 t = t) := HC.out.trans (if_neg (by simp))
    go_enter_d Tryz.func39, Tryz.ntmps39
    go_wp2
    go_end0
    exact ⟨rfl, by rw [hc.out]; exact HS.out⟩
  by_cases h1 : x = 42
  · subst h1
    have hc : Hid (mClean 42 t = t) := HC.out.trans (if_neg (by simp))
    go_enter_d Tryz.func39, Tryz.ntmps39
    go_wp2
    go_end0
    exact ⟨rfl, by rw [hc.out]; exact HS.out⟩
  · have hc : Hid (mClean x t = r.2) := HC.out.trans (if_pos ⟨h0, h1⟩)
    have x0 : (x != 0) = true := by simp [h0]
    have x1 : (x != 42) = true := by simp [h1]
    have y0 : (x == 0) = false := by simp [h0]
    have y1 : (x == 42) = false := by simp [h1]
    go_enter_d Tryz.func39, Tryz.ntmps39
    go_wp2_with fail
    refine DL.out.mono ?_
    rintro e w1 ⟨rfl, hmv⟩
    have HM := Lib.hid hmv
    clear hmv DL
    go_wp2
    go_end0
    exact ⟨rfl, by rw [hc.out]; exact HM.out⟩
end
section
open Go.RowKit Go.Sort
open Crc Frm
attribute [local go_sem] Oper.semAt_some

/-- What the four calls leave, one behind the other, and what they tell. -/
def mSt (t : St) (l : List Int) : Nat → St
  | 0 => t
  | 1 => (delNext t).2
  | 2 => ((delNext t).2.write nxL (mPut l)).2
  | 3 => (((delNext t).2.write nxL (mPut l)).2.sync nxL).2
  | _ => ((((delNext t).2.write nxL (mPut l)).2.sync nxL).2.rename nxL mfL).2
def mAns (t : St) (l : List Int) : Nat → Int
  | 0 => (delNext t).1
  | 1 => ((mSt t l 1).write nxL (mPut l)).1
  | 2 => ((mSt t l 2).sync nxL).1
  | _ => ((mSt t l 3).rename nxL mfL).1
def mTurn (t : St) (l : List Int) : Int × St :=
  if mAns t l 0 ≠ 0 then (mAns t l 0, mSt t l 1) else if mAns t l 1 ≠ 0 then (mAns t l 1, mSt t l 2) else if mAns t l 2 ≠ 0 then (mAns t l 2, mSt t l 3) else (mAns t l 3, mSt t l 4)
/-- What Swap tells and leaves. -/
def mSwap (t : St) (l : List Int) : Int × St := if mOk l = true then ((mTurn t l).1, mClean (mTurn t l).1 (mTurn t l).2) else (1, t)
theorem turn_stop (t : St) (l : List Int) (k : Nat) (hk : k < 4) (h0 : ∀ j, j < k → mAns t l j = 0) (h1 : mAns t l k ≠ 0) : mTurn t l = (mAns t l k, mSt t l (k + 1)) := by
  unfold mTurn
  match k, hk with
  | 0, _ => rw [if_pos h1]
  | 1, _ => rw [if_neg (by simp [h0 0 (by omega)]), if_pos h1]
  | 2, _ => rw [if_neg (by simp [h0 0 (by omega)]), if_neg (by simp [h0 1 (by omega)]), if_pos h1]
  | 3, _ => rw [if_neg (by simp [h0 0 (by omega)]), if_neg (by simp [h0 1 (by omega)]), if_neg (by simp [h0 2 (by omega)])]
theorem turn_end (t : St) (l : List Int) (h0 : ∀ j, j < 4 → mAns t l j = 0) : mTurn t l = (0, mSt t l 4) := by
  unfold mTurn
  rw [if_neg (by simp [h0 0 (by omega)]), if_neg (by simp [h0 1 (by omega)]), if_neg (by simp [h0 2 (by omega)]), h0 3 (by omega)]

abbrev swF : Nat → FuncId
  | 0 => 41
  | 1 => 43
  | 2 => 44
  | _ => 45
abbrev swC (bd bl : Nat) : Nat → Array Value
  | 1 => #[.pointer (some ⟨bd, 0, none⟩), .pointer (some ⟨bl, 0, none⟩)]
  | _ => #[.pointer (some ⟨bd, 0, none⟩)]

theorem Mv.then {w0 w w1 w' : World} {dp : Nat} {O O1 : Nat → Prop} {t : St} (hb : But O w w1) (hO : ∀ k, O1 k → O k ∨ w.heap.size ≤ k) (h : Mv w0 w1 dp O1 t w') : Mv w0 w dp O t w' := by
  obtain ⟨O', h1, h2, h3⟩ := h
  exact ⟨O', h1, hb.trans h2 hO, fun k hk => by rcases h3 k hk with h4 | h4; exact hO k h4; exact .inr (Nat.le_trans hb.size h4)⟩

/-- The four calls. -/
theorem swaps_any {w0 w : World} {dp bd bl g : Nat} {t : St} {O : Nat → Prop} (h : DK w0 w dp t O) (l : List Int) (a : Option Addr) (n c : Nat)
    (hd : w.cell? ⟨bd, 0, none⟩ = some (.pointer (some ⟨dp, 0, none⟩))) (hl : w.cell? ⟨bl, 0, none⟩ = some (.slice a n c)) (hr : Row w w.heap.size a n c 1 (intsC l)) (hn : l.length = n)
    (hdO : ¬ O bd) (hlO : ¬ O bl) (hgO : ¬ O g) (hfar : 0 < n → ∀ k o, a = some ⟨k, o, none⟩ → ¬ O k) (hg : ∀ k, k < 4 → w.cell? ⟨g, k, none⟩ = some (.func (.func (swF k)) #[] (swC bd bl k))) :
    Calls Tryz.prog 40 #[.slice (some ⟨g, 0, none⟩) 4 4] w fun e w' => ∃ x, e = .returned (.int .i64 x) ∧ (x = (mTurn t l).1 ∧ Mv w0 w dp O (mTurn t l).2 w') := by
  have hbd := block_lt_of_cell hd
  have hbl := block_lt_of_cell hl
  have hbg := block_lt_of_cell (hg 0 (by omega))
  have k2 : ∀ x : World, (callFunc 41 #[.pointer (some ⟨bd, 0, none⟩)]).run Tryz.prog x = .ok (.enter 41 #[.pointer (some ⟨bd, 0, none⟩)]) x := fun x => by kernel_rfl
  have k3 : ∀ x : World, (callFunc 43 #[.pointer (some ⟨bd, 0, none⟩), .pointer (some ⟨bl, 0, none⟩)]).run Tryz.prog x = .ok (.enter 43 #[.pointer (some ⟨bd, 0, none⟩), .pointer (some ⟨bl, 0, none⟩)]) x := fun x => by kernel_rfl
  have k4 : ∀ x : World, (callFunc 44 #[.pointer (some ⟨bd, 0, none⟩)]).run Tryz.prog x = .ok (.enter 44 #[.pointer (some ⟨bd, 0, none⟩)]) x := fun x => by kernel_rfl
  have k5 : ∀ x : World, (callFunc 45 #[.pointer (some ⟨bd, 0, none⟩)]).run Tryz.prog x = .ok (.enter 45 #[.pointer (some ⟨bd, 0, none⟩)]) x := fun x => by kernel_rfl
  refine inturn_any 4 swF (swC bd bl) g w (fun k w' => (∀ j, j < k → mAns t l j = 0) ∧ Mv w0 w dp O (mSt t l k) w') (fun x w' => x = (mTurn t l).1 ∧ Mv w0 w dp O (mTurn t l).2 w') (by omega) ?_ ?_ ?_ ?_ ?_
  · rintro k w' hk ⟨_, O', _, hb, _⟩
    exact (hb.cell hbg hgO).trans (hg k hk)
  · intro k x hk
    match k, hk with
    | 0, _ => exact k2 x
    | 1, _ => exact k3 x
    | 2, _ => exact k4 x
    | 3, _ => exact k5 x
  · rintro k w' hk ⟨h0, hmv⟩
    have hout : ∀ w'', Mv w0 w dp O (mSt t l (k + 1)) w'' → (mAns t l k = 0 → (∀ j, j < k + 1 → mAns t l j = 0) ∧ Mv w0 w dp O (mSt t l (k + 1)) w'') ∧ (mAns t l k ≠ 0 → mAns t l k = (mTurn t l).1 ∧ Mv w0 w dp O (mTurn t l).2 w'') := by
      intro w'' hm
      refine ⟨fun hz => ⟨fun j hj => ?_, hm⟩, fun hz => ?_⟩
      · by_cases hjk : j = k
        · rw [hjk]; exact hz
        · exact h0 j (by omega)
      · rw [turn_stop t l k hk h0 hz]
        exact ⟨rfl, hm⟩
    obtain ⟨O', hk1, hb, hO⟩ := hmv
    have d1 := (hb.cell (o := 0) hbd hdO).trans hd
    have l1 := (hb.cell (o := 0) hbl hlO).trans hl
    have nO : ∀ i, i < w.heap.size → ¬ O i → ¬ O' i := fun i hi hn ho => by rcases hO i ho with h4 | h4; exact hn h4; omega
    match k, hk with
    | 0, _ => exact (sw2_any hk1 d1).mono fun e w'' ⟨he, hm⟩ => ⟨_, he, hout w'' (Mv.then hb hO hm)⟩
    | 1, _ => exact (sw3_any hk1 d1 l a n c l1 (hr.but hb hfar) hn (nO _ hbd hdO) (nO _ hbl hlO)).mono fun e w'' ⟨he, hm⟩ => ⟨_, he, hout w'' (Mv.then hb hO hm)⟩
    | 2, _ => exact (sw4_any hk1 d1).mono fun e w'' ⟨he, hm⟩ => ⟨_, he, hout w'' (Mv.then hb hO hm)⟩
    | 3, _ => exact (sw5_any hk1 d1).mono fun e w'' ⟨he, hm⟩ => ⟨_, he, hout w'' (Mv.then hb hO hm)⟩
  · rintro w' ⟨h0, hm⟩
    rw [turn_end t l h0]
    exact ⟨rfl, hm⟩
  · exact ⟨fun j hj => absurd hj (by omega), O, h, But.refl _ _, fun k hk => .inl hk⟩
end
section
open Go.RowKit Go.Sort
open Crc Frm
attribute [local go_sem] Oper.semAt_some

theorem DK.setOut {w0 w : World} {dp : Nat} {t : St} {O : Nat → Prop} (h : DK w0 w dp t O) (p : Addr) (u : Value) (hp : ¬ O p.block) (hb : w0.heap.size ≤ p.block) : DK w0 (w.setCell p u) dp t O :=
  ⟨Dsk.but h.is ((But.refl (fun k => k = p.block) w).setCell (.inl rfl) u) (fun k hk e => hp (e ▸ hk)), h.base, h.below.setCell hb u⟩
theorem Row.on9 {w w' : World} {a : Option Addr} {n c m : Nat} {cs : Nat → Value} (h : Row w w.heap.size a n c m cs) (hb : Below w.heap.size w w') : Row w' w'.heap.size a n c m cs := (h.below hb (Nat.le_refl _)).more hb.size
set_option linter.unusedSimpArgs false in
set_option maxRecDepth 100000 in
set_option maxHeartbeats 3200000 in
theorem mswap_any {w0 w : World} {dp : Nat} {t : St} {O : Nat → Prop} (h : DK w0 w dp t O) (l : List Int) (a : Option Addr) (n c : Nat) (hr : Row w w.heap.size a n c 1 (intsC l)) (hn : l.length = n)
    (hfar : 0 < n → ∀ k o, a = some ⟨k, o, none⟩ → ¬ O k) :
    Calls Tryz.prog 10 #[.pointer (some ⟨dp, 0, none⟩), .slice a n c] w fun e w' => e = .returned (.int .i64 (mSwap t l).1) ∧ Mv w0 w dp O (mSwap t l).2 w' := by
  have hmf : ∀ (fn : Fn) (first cap : Array Value) (w : World), (Instr.makeFunc fn first cap).run Tryz.prog w = .ok (.func fn first cap) w := fun _ _ _ _ => rfl
  have hlt := h.lt
  obtain ⟨w3, hw3⟩ : ∃ w3, w3 = ((w.alloc (.cells #[.pointer (some ⟨dp, 0, none⟩)] 25)).alloc (.cells #[.slice a n c] 23)).alloc (.cells #[.int .i64 0] 30) := ⟨_, rfl⟩
  have hB3 : Below w.heap.size w w3 := by rw [hw3]; exact (((Below.refl _ _).alloc (Nat.le_refl _) _).alloc (by simp) _).alloc (by simp; omega) _
  have hs3 : w3.heap.size = w.heap.size + 3 := by rw [hw3]; simp
  have R := Lib.hid (mright_any l a n c w3 (hr.below hB3 (Nat.le_refl _) |>.more hB3.size) hn)
  rw [hw3] at R
  have HK := Lib.hid (And.intro h (And.intro hr (And.intro hn hfar)))
  clear h hr hn hfar
  by_cases hok : mOk l = true
  · have hsw : Hid (mSwap t l = ((mTurn t l).1, mClean (mTurn t l).1 (mTurn t l).2)) := if_pos hok
    rw [hok] at R
    go_enter_defers Tryz.func10, Tryz.ntmps10
    go_wp2_with fail
    refine R.out.mono ?_
    rintro e w1 ⟨rfl, rfl⟩
    obtain ⟨w4, hw4⟩ : ∃ w4, w4 = w3.alloc (.cells #[.func (.func 41) #[] #[.pointer (some ⟨w.heap.size, 0, none⟩)], .func (.func 43) #[] #[.pointer (some ⟨w.heap.size, 0, none⟩), .pointer (some ⟨w.heap.size + 1, 0, none⟩)],
      .func (.func 44) #[] #[.pointer (some ⟨w.heap.size, 0, none⟩)], .func (.func 45) #[] #[.pointer (some ⟨w.heap.size, 0, none⟩)]] 65) := ⟨_, rfl⟩
    have hB4 : Below w.heap.size w w4 := by rw [hw4]; exact hB3.alloc hB3.size _
    have hs4 : w4.heap.size = w.heap.size + 4 := by rw [hw4]; simp [hs3]
    have hd4 : w4.cell? ⟨w.heap.size, 0, none⟩ = some (.pointer (some ⟨dp, 0, none⟩)) := by rw [hw4, hw3]; simp [go_sem]
    have hl4 : w4.cell? ⟨w.heap.size + 1, 0, none⟩ = some (.slice a n c) := by rw [hw4, hw3]; simp [go_sem]
    have he4 : w4.cell? ⟨w.heap.size + 2, 0, none⟩ = some (.int .i64 0) := by rw [hw4, hw3]; simp [go_sem]
    have hz4 : w4.frozen? ⟨w.heap.size + 2, 0, none⟩ = false := by rw [hw4, hw3]; simp [go_sem]
    have hg4 : ∀ k, k < 4 → w4.cell? ⟨w.heap.size + 3, k, none⟩ = some (.func (.func (swF k)) #[] (swC w.heap.size (w.heap.size + 1) k)) := by
      intro k hk
      rw [hw4, ← hs3]
      match k, hk with
      | 0, _ => exact (cell_of_row _ _ 0 _ _ _ (heap_alloc_new w3 _)).trans rfl
      | 1, _ => exact (cell_of_row _ _ 1 _ _ _ (heap_alloc_new w3 _)).trans rfl
      | 2, _ => exact (cell_of_row _ _ 2 _ _ _ (heap_alloc_new w3 _)).trans rfl
      | 3, _ => exact (cell_of_row _ _ 3 _ _ _ (heap_alloc_new w3 _)).trans rfl
    have IT := swaps_any (HK.out.1.on hB4) l a n c hd4 hl4 (HK.out.2.1.on9 hB4) HK.out.2.2.1 (fun ho => by have := hlt _ ho; omega) (fun ho => by have := hlt _ ho; omega) (fun ho => by have := hlt _ ho; omega) HK.out.2.2.2 hg4
    have H4 := Lib.hid (And.intro hB4 (And.intro hs4 (And.intro hd4 (And.intro he4 hz4))))
    rw [hw4, hw3] at IT
    have IT := Lib.hid IT
    clear hg4 hl4 hB4 hs4 hd4 he4 hz4 R
    go_wp2_with fail
    refine IT.out.mono ?_
    rintro e w5 ⟨x, rfl, hx, hmv⟩
    rw [← hw3, ← hw4] at hmv
    obtain ⟨O5, k5, b5, f5⟩ := hmv
    have d5 := (b5.cell (b := w.heap.size) (o := 0) (by have := H4.out.2.1; omega) (fun ho => by have := hlt _ ho; omega)).trans H4.out.2.2.1
    have e5 := (b5.cell (b := w.heap.size + 2) (o := 0) (by have := H4.out.2.1; omega) (fun ho => by have := hlt _ ho; omega)).trans H4.out.2.2.2.1
    have z5 := (b5.frozen (b := w.heap.size + 2) (o := 0) (by have := H4.out.2.1; omega) (fun ho => by have := hlt _ ho; omega)).trans H4.out.2.2.2.2
    have q5 : w.heap.size + 2 = w.heap.size + 1 + 1 := rfl
    rw [q5] at e5 z5
    have H5 := Lib.hid (And.intro k5 (And.intro b5 (And.intro f5 (And.intro hx d5))))
    clear k5 b5 f5 hx IT d5
    go_wp2_with fail
    have hbe : ¬ O5 (w.heap.size + 1 + 1) := fun ho => by
      rcases H5.out.2.2.1 _ ho with h1 | h1
      · have := hlt _ h1; omega
      · have := H4.out.2.1; omega
    have hbd : ¬ O5 w.heap.size := fun ho => by
      rcases H5.out.2.2.1 _ ho with h1 | h1
      · have := hlt _ h1; omega
      · have := H4.out.2.1; omega
    have hs5 : w.heap.size + 4 ≤ w5.heap.size := by have := H5.out.2.1.size; have := H4.out.2.1; omega
    obtain ⟨w6, hw6⟩ : ∃ w6, w6 = w5.setCell ⟨w.heap.size + 1 + 1, 0, none⟩ (.int .i64 x) := ⟨_, rfl⟩
    have k6 : DK w0 w6 dp (mTurn t l).2 O5 := by rw [hw6]; exact H5.out.1.setOut ⟨w.heap.size + 1 + 1, 0, none⟩ _ hbe (by have := HK.out.1.below.size; show _ ≤ w.heap.size + 1 + 1; omega)
    have e6 : w6.cell? ⟨w.heap.size + 1 + 1, 0, none⟩ = some (.int .i64 x) := by rw [hw6]; exact World.cell?_setCell_same _ _ _ e5
    have d6 : w6.cell? ⟨w.heap.size, 0, none⟩ = some (.pointer (some ⟨dp, 0, none⟩)) := by rw [hw6]; exact cell_set_far H5.out.2.2.2.2 (by show w.heap.size ≠ w.heap.size + 1 + 1; omega)
    have b6 : But O w w6 := by
      rw [hw6]
      exact (((But.of_below (O := O) H4.out.1).trans H5.out.2.1 (fun _ hi => .inl hi)).setCell (p := ⟨w.heap.size + 1 + 1, 0, none⟩) (.inr (by show _ ≤ w.heap.size + 1 + 1; omega)) _)
    have hO6 : ∀ k, O5 k → O k ∨ w.heap.size ≤ k := fun k hk => by
      rcases H5.out.2.2.1 k hk with h1 | h1
      · exact .inl h1
      · right; have := H4.out.2.1; omega
    have hs6 : w5.heap.size ≤ w6.heap.size := by rw [hw6]; simp
    rw [← hw6]
    refine leaves_cons (f := 39) (args := #[.pointer (some ⟨w.heap.size + 1 + 1, 0, none⟩), .pointer (some ⟨w.heap.size, 0, none⟩)]) (by simp) (by simp [go_sem]) ?_
    refine (sw1_any k6 x .returning d6 e6).mono ?_
    rintro e u' w7 ⟨rfl, rfl, hmv⟩
    have e7 : w7.cell? ⟨w.heap.size + 1 + 1, 0, none⟩ = some (.int .i64 x) := by
      obtain ⟨O7, _, b7, _⟩ := hmv
      exact (b7.cell (b := w.heap.size + 1 + 1) (o := 0) (by omega) hbe).trans e6
    refine ⟨_, (by simp [results, Tryz.results10, go_sem, e7]; rfl), ?_⟩
    have hx := H5.out.2.2.2.1
    rw [hsw.out]
    refine ⟨by rw [hx], ?_⟩
    rw [hx] at hmv
    exact Mv.then b6 hO6 hmv
  · have hsw : Hid (mSwap t l = (1, t)) := if_neg hok
    have hno : mOk l = false := by simpa using hok
    rw [hno] at R
    go_enter_defers Tryz.func10, Tryz.ntmps10
    go_wp2_with fail
    refine R.out.mono ?_
    rintro e w1 ⟨rfl, rfl⟩
    go_wp2
    refine ⟨_, (by simp [results, Tryz.results10, go_sem]; rfl), ?_⟩
    rw [hsw.out]
    refine ⟨rfl, Mv.still HK.out.1 ?_⟩
    exact (((Below.refl _ _).alloc (Nat.le_refl _) _).alloc (by simp) _).alloc (by simp; omega) _
end
end Go.Proofs.YtohiheohndmccaaGreat
