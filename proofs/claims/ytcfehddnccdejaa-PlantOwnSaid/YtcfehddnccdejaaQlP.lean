/- Contracts of the program's plant: All, New, Step. -/
import Derived.Test.YtcfehddnccdejaaQlT
import Derived.Test.YtcfehddnccdejaaQlF
import Derived.Test.YtcfehddnccdejaaTailU
import Derived.Deep.CutRange
import Derived.Deep.RegionHeld
import Derived.Lib.MinMax
import Derived.StillTailTactics
namespace Go.Proofs.Ytcfehddnccdejaa
set_option linter.unusedSimpArgs false
set_option linter.unusedVariables false
open Go.RowKit
open Evn Plt
attribute [local go_sem] Oper.semAt_some

set_option maxRecDepth 100000 in
set_option maxHeartbeats 1600000 in
theorem pstep_any {w : World} {p : Pt} {a : Option Addr} {k : Nat} (hn : TOk p) (h : SRw w a k p.start) {c : Cf} (hc : confR c = true) (want demand : Int) :
    Calls Try.prog 12 #[cfV c, ptV p a k, .int .i64 want, .int .i64 demand] w fun r w' => ∃ a2 k2, r = .returned (.tuple #[ptV (Plt.step c p want demand) a2 k2, mkV (Plt.mark c p want demand)]) ∧ SRw w' a2 k2 (Plt.step c p want demand).start ∧ (∀ g o, a2 = some ⟨g, o, none⟩ → w.heap.size ≤ g) ∧ Below w.heap.size w w' := by
  obtain ⟨x, hx⟩ : ∃ x, x = (((w.alloc (.cells #[.int .i64 c.min, .int .i64 c.max, .int .i64 c.rate, .int .i64 c.stable, .int .i64 c.cap, .int .i64 c.delay, .int .i64 c.slack, .int .i64 c.window, .int .i64 c.margin, .int .i64 c.ceil, .int .i64 c.probe, .int .i64 c.breach] 23)).alloc (.cells #[.int .i64 p.ready, .slice a p.start.length k, .int .i64 p.wait, .int .i64 p.util] 26)).alloc (.cells #[.int .i64 0, .slice none 0 0, .int .i64 0, .int .i64 0] 26)).alloc (.cells #[.int .i64 0, .bool false] 31) := ⟨_, rfl⟩
  obtain ⟨hB, hC, hP, hZ1, hZ2, hsz⟩ := four w c p a k
  rw [← hx] at hB hC hP hZ1 hZ2 hsz
  have HR := Lib.hid (h.on hB)
  have HB := Lib.hid hB
  have HC := Lib.hid hC
  have HP := Lib.hid hP
  have HZ1 := Lib.hid hZ1
  have HZ2 := Lib.hid hZ2
  have HSZ := Lib.hid hsz
  have HX := Lib.hid hx
  have HO := Lib.hid hn
  have HCO := Lib.hid hc
  have FU := Lib.hid (pfurther_any (TOk.n hn) (h.on hB) hn.all_)
  obtain ⟨hcap, hdel⟩ : (1 ≤ c.cap ∧ c.cap ≤ 1000000) ∧ 0 ≤ c.delay ∧ c.delay ≤ 8 := by
    have hc7 := hc
    unfold confR at hc7
    have hc8 := of_decide_eq_true hc7
    obtain ⟨_, _, _, _, h1, h2, _⟩ := hc8
    exact ⟨h1, h2⟩
  have HCAP := Lib.hid hcap
  have HDEL := Lib.hid hdel
  clear hB hC hP hZ1 hZ2 hsz hx h hc hn hcap hdel
  unfold cfV ptV
  go_enter Try.func12, Try.ntmps12
  go_upto_region 1 with fail
  rw [← HX.out]
  clear HX
  go_wp2_with (first | (refine wpList_load_rowG (by first | rfl | kernel_rfl | (simp [Region.wanted, yielded])) 26 (.tmp 5) (by rfl) (w.heap.size + 1) (by rfl) 26 _ (0, 0) _ HP.out Try.underlying26 (by rfl) (by kernel_rfl) ?_) | fail)
  refine FU.out.mono ?_
  rintro r x1 ⟨v, rfl, hown, hb1⟩
  obtain ⟨a1, k1, rfl, S1, F1, _⟩ := own_srw hown
  have e4 := HSZ.out
  have hP1 := (hb1.block _ (by omega)).trans HP.out
  go_upto_region 2 with (first | (refine wpList_store_mid (by rfl) 26 (.tmp 5) (.tmp 12) (by rfl) (w.heap.size + 1) 0 #[.int .i64 (first p).ready, .slice a1 (first p).start.length k1, .int .i64 p.wait, .int .i64 p.util] (by rfl) (by rfl) (there_of_block hP1 (by simp)) (by kernel_rfl) (by kernel_rfl) ?_) | fail)
  obtain ⟨q1, hq1⟩ : ∃ q1 : Pt, q1 = ⟨(first p).ready, (first p).start, p.wait, p.util⟩ := ⟨_, rfl⟩
  have hPX : PX w (x1.setCells (w.heap.size + 1) 0 (#[.int .i64 (first p).ready, .slice a1 (first p).start.length k1, .int .i64 p.wait, .int .i64 p.util] : Array Value).toList) c q1 a1 k1 := by
    rw [hq1]
    refine ⟨below_setCells' (w.heap.size + 1) (by omega) _ 0 (bel2 HB.out hb1), (HC.out.on hb1).far (by omega) _, (far_cells (w.heap.size + 2) (w.heap.size + 1) (by omega) _ 0 x1).trans ((hb1.block _ (by omega)).trans HZ1.out), (far_cells (w.heap.size + 3) (w.heap.size + 1) (by omega) _ 0 x1).trans ((hb1.block _ (by omega)).trans HZ2.out), heap_setCells_whole (cs := [Value.int .i64 p.ready, .slice a p.start.length k, .int .i64 p.wait, .int .i64 p.util]) [.int .i64 (first p).ready, .slice a1 (first p).start.length k1, .int .i64 p.wait, .int .i64 p.util] rfl hP1, S1.far (fun b o e => by have := F1 b o e; omega) _, fun b o e => by have := F1 b o e; omega⟩
  have hOW : OwnV (x1.setCells (w.heap.size + 1) 0 (#[.int .i64 (first p).ready, .slice a1 (first p).start.length k1, .int .i64 p.wait, .int .i64 p.util] : Array Value).toList) (w.heap.size + 4) 3 (.slice a1 q1.start.length k1) (i64V q1.start) := by
    rw [hq1]
    exact (hown.down (by omega)).stay (fun j hj _ => far_cells j (w.heap.size + 1) (by omega) _ 0 x1)
  have hn1 : NOk q1 := by rw [hq1]; have := first_n HO.out; exact ⟨this.r1, this.r2, this.len, this.nums⟩
  have hal1 : all q1 = all (first p) := by rw [hq1]; rfl
  have hsz1 : ∀ W, (sized c.delay q1 W).ready = (sized c.delay (first p) W).ready ∧ (sized c.delay q1 W).start = (sized c.delay (first p) W).start := fun W => by
    have e := sized_first c.delay p W
    rw [hq1, ← e]
    exact ⟨rfl, rfl⟩
  have hw1 : q1.wait = p.wait := by rw [hq1]
  have HPX := Lib.hid hPX
  have HOW := Lib.hid hOW
  have HN1 := Lib.hid hn1
  have HSZ1 := Lib.hid hsz1
  have HW1 := Lib.hid hw1
  clear hPX hOW hn1 hal1 hsz1 hw1 hq1 hown hb1 S1 F1 hP1 e4 HP HC HB HR FU HZ1 HZ2 HSZ
  generalize x1.setCells (w.heap.size + 1) 0 _ = w2 at *
  obtain ⟨W, hW⟩ : ∃ W, rep want = W := ⟨_, rfl⟩
  have hWb := rep_le want
  rw [hW] at hWb
  have WI := Lib.hid (fun (y : World) => pwithin_any want 1000 y)
  rw [show max 0 (min want 1000) = rep want by unfold rep; omega, hW] at WI
  have HALL := Lib.hid (fun (y : World) (hb : Below w2.heap.size w2 y) => pall_any HN1.out (HPX.out.row.on hb))
  have hall : 0 ≤ all q1 ∧ all q1 ≤ 9000 := by have := sm_le HN1.out.nums; have := HN1.out.r1; have := HN1.out.r2; have := HN1.out.len; unfold all; omega
  obtain ⟨M, hM⟩ : ∃ M, all q1 = M := ⟨_, rfl⟩
  rw [hM] at HALL hall
  have wD : IntKind.i64.wrap (W - M) = W - M := by rw [IntKind.wrap_i64]; omega
  have HM := Lib.hid hM
  have HWW := Lib.hid hW
  have HWB := Lib.hid hWb
  clear hM hW hWb
  refine wp_region_held_drew (S := fun wy => PtAt wy (w.heap.size + 1) q1 a1 k1) (by kernel_rfl) HPX.out.px (fun hHeld => ?_)
  refine wpAnyH_take (i := 0) (v := ?_) rfl (by kernel_rfl) (by kernel_rfl) (by kernel_rfl) (fun _ _ _ h => h) (Or.inl ⟨by rfl, ?_⟩) (by assumption) ?_
  rotate_left
  · intro w hSw
    (try dsimp only at hSw)
    go_simp
    all_goals with_reducible rfl
  try simp only [Act.put, List.getElem_toArray, List.getElem_cons_succ, List.getElem_cons_zero, List.setIfInBounds_toArray, List.set_cons_zero, List.set_cons_succ]
  refine take_first (i := 1) rfl (by kernel_rfl) (by kernel_rfl) (by kernel_rfl) (fun _ _ _ h => h) (GivesIf.call (by rfl) (fun w => ?_) (fun w hS => (WI.out w).mono (fun e w' h => ⟨h.1, h.2.symm⟩))) (by assumption) ?_
  · go_simp
    all_goals with_reducible rfl
  try simp only [Act.put, List.getElem_toArray, List.getElem_cons_succ, List.getElem_cons_zero, List.setIfInBounds_toArray, List.set_cons_zero, List.set_cons_succ]
  refine wpAnyH_take (i := 2) (v := .agg #[.int .i64 q1.ready, .slice a1 q1.start.length k1, .int .i64 q1.wait, .int .i64 q1.util]) rfl (by kernel_rfl) (by kernel_rfl) (by kernel_rfl) (fun _ _ _ h => h) (Or.inl ⟨by rfl, fun wz hS => exec_rowG 26 (.tmp 5) rfl (w.heap.size + 1) rfl 26 _ (0, 0) _ hS Try.underlying26 rfl (by kernel_rfl)⟩) (by assumption) ?_
  try simp only [Act.put, List.getElem_toArray, List.getElem_cons_succ, List.getElem_cons_zero, List.setIfInBounds_toArray, List.set_cons_zero, List.set_cons_succ]
  have hB0 : Below w2.heap.size w2 w2.drew := Below.drew (Below.refl _ _)
  clear hHeld
  refine wpAnyH_ready (rs := [3]) (by kernel_rfl) (by simp) ?_
  refine AllReadyH.cons rfl (fun K hK => ?_) AllReadyH.nil
  rw [if_pos (by rfl)]
  go_simp
  go_at_call 15
  refine (HALL.out _ hB0).mono ?_
  rintro r w3 ⟨rfl, b⟩
  have HPX := Lib.hid (HPX.out.on (bel2 hB0 b))
  have HOW := Lib.hid (HOW.out.stay (fun j _ hl => (bel2 hB0 b).block j hl))
  clear b hB0 HALL WI
  refine hK.out _ _ ?_ (fun hHeld => ?_)
  · exact HPX.out.px
  clear hK K
  try simp only [Act.put, List.getElem_toArray, List.getElem_cons_succ, List.getElem_cons_zero, List.setIfInBounds_toArray, List.set_cons_zero, List.set_cons_succ]
  refine wpAnyH_take (i := 4) (v := ?_) rfl (by kernel_rfl) (by kernel_rfl) (by kernel_rfl) (fun _ _ _ h => h) (Or.inl ⟨by rfl, ?_⟩) (by assumption) ?_
  rotate_left
  · intro w hSw
    (try dsimp only at hSw)
    go_simp
    all_goals with_reducible rfl
  try simp only [Act.put, List.getElem_toArray, List.getElem_cons_succ, List.getElem_cons_zero, List.setIfInBounds_toArray, List.set_cons_zero, List.set_cons_succ]
  refine wpAnyH_take (i := 5) (v := ?_) rfl (by kernel_rfl) (by kernel_rfl) (by kernel_rfl) (fun _ _ _ h => h) (Or.inl ⟨by rfl, ?_⟩) (by assumption) ?_
  rotate_left
  · intro w hSw
    (try dsimp only at hSw)
    go_simp
    all_goals with_reducible rfl
  try simp only [Act.put, List.getElem_toArray, List.getElem_cons_succ, List.getElem_cons_zero, List.setIfInBounds_toArray, List.set_cons_zero, List.set_cons_succ]
  refine wpAnyH_done (by kernel_rfl) ?_ _
  clear hHeld
  generalize w2.heap.size = z2 at *
  obtain ⟨D, hD⟩ : ∃ D, W - M = D := ⟨_, rfl⟩
  rw [hD]
  have HD := Lib.hid hD
  have hDb : -9000 ≤ D ∧ D ≤ 1000 := by have := HWB.out; omega
  clear wD hD
  go_upto_if 19 with fail
  obtain ⟨sz, hsz⟩ : ∃ sz, sized c.delay (first p) (rep want) = sz := ⟨_, rfl⟩
  have HSD := Lib.hid hsz
  have hmm := fun (h : 0 < W - all q1) => mid_more HN1.out HDEL.out HWB.out q1.util h
  have hml := fun (h : W - all q1 ≤ 0) => mid_less HN1.out HDEL.out HWB.out q1.util h
  rw [HM.out, HD.out] at hmm hml
  have hse : (sized c.delay q1 W).ready = sz.ready ∧ (sized c.delay q1 W).start = sz.start := by rw [← hsz, HWW.out]; exact HSZ1.out W
  have MM : Hid (∀ q, Mid q (sized c.delay q1 W) → Mid q sz) := fun q h => ⟨h.r.trans hse.1, h.t.trans (by rw [hse.2]), h.ok⟩
  have HMM := Lib.hid hmm
  have HML := Lib.hid hml
  clear hmm hml hse hsz
  go_cut [] from 10 to 26 (fun wx => ∃ q2 a2 k2, PX w wx c q2 a2 k2 ∧ Mid q2 sz ∧ q2.wait = p.wait)
  case first =>
    by_cases hpos : 0 < D
    · rw [decide_eq_true hpos]
      have hf5 := (cell_of_row _ _ 5 _ _ _ HPX.out.cb).trans rfl
      have hlt3 := lt_of_heap HPX.out.z2
      have BG := Lib.hid (pbegin_any HN1.out HPX.out.px HOW.out (by omega) (by omega) c.delay D HDEL.out ⟨by omega, by omega⟩)
      have HMm := Lib.hid (MM.out _ (HMM.out hpos))
      clear hlt3 hpos hDb
      go_wp2_with fail
      refine BG.out.mono ?_
      rintro r w4 ⟨⟨v, rfl⟩, a4, k4, o4, p4, b4⟩
      have HP4 := Lib.hid (HPX.out.but HOW.out b4 o4 p4)
      have hw4 : (pbg c.delay q1 D).wait = p.wait := by rw [← HW1.out]; unfold pbg; split <;> rfl
      have HW4 := Lib.hid hw4
      clear o4 p4 b4 hf5 BG hw4
      go_wp2_with fail
      go_meet
      case rel => exact ⟨_, a4, k4, HP4.out, HMm.out, HW4.out⟩
    · rw [decide_eq_false hpos]
      have wn : IntKind.i64.wrap (-D) = -D := by rw [IntKind.wrap_i64]; omega
      have hlt3 := lt_of_heap HPX.out.z2
      have hle : -D ≤ all q1 := by rw [HM.out]; have := HD.out; have := HWB.out; omega
      have LV := Lib.hid (pleave_any HN1.out HPX.out.px HOW.out (fun b o e => by have := HPX.out.far b o e; omega) (-D) ⟨by omega, hle⟩)
      have HMm := Lib.hid (MM.out _ (HML.out (by omega)))
      clear hlt3 hpos hDb hle
      go_wp2_with fail
      refine LV.out.mono ?_
      rintro r w4 ⟨⟨v, rfl⟩, o4, p4, b4⟩
      have hbl : (back q1.start (-D)).1.length = q1.start.length := back_len _ _
      have o5 : OwnV w4 (w.heap.size + 4) 3 (.slice a1 (back q1.start (-D)).1.length k1) (i64V (back q1.start (-D)).1) := by rw [hbl]; exact o4
      have HP4 := Lib.hid (HPX.out.but (q2 := ⟨q1.ready - (back q1.start (-D)).2, (back q1.start (-D)).1, q1.wait, q1.util⟩) HOW.out b4 o5 p4)
      clear o4 o5 p4 b4 LV hbl
      go_wp2_with fail
      go_meet
      case rel => exact ⟨_, a1, k1, HP4.out, HMm.out, HW1.out⟩
  case rest =>
  obtain ⟨q2, a2, k2, hPX, hmid, hw2⟩ := hcut
  generalize wc = w4 at *
  have HP2 := Lib.hid hPX
  have HMD := Lib.hid hmid
  have HW2 := Lib.hid hw2
  clear hPX hmid hw2 HPX HOW HM HD hDb hall HMM HML MM HWW HWB HN1 HSZ1 HW1
  obtain ⟨xc0, xc1, xc2, xc3⟩ := PtAt.c HP2.out.px
  have xf1 := frozen_of_row w4 (w.heap.size + 1) 1 _ _ HP2.out.px
  have TR := Lib.hid (ptrim_any HP2.out.row HMD.out.ok.len)
  obtain ⟨L, hL⟩ : ∃ L, trim q2.start = L := ⟨_, rfl⟩
  have HL := Lib.hid hL
  rw [hL] at TR
  clear hL
  go_upto_region 7 with (first | (go_at_call 25; refine TR.out.mono ?_; rintro r w9 ⟨rfl, S9, rfl⟩; have HS9 := Lib.hid S9; clear S9) | fail)
  have e3 : Hid (q2.ready = sz.ready ∧ q2.wait = p.wait ∧ trim sz.start = L) := ⟨HMD.out.r, HW2.out, by rw [← HMD.out.t]; exact HL.out⟩
  have HP3 := Lib.hid (HP2.out.cell (q2 := ⟨q2.ready, L, q2.wait, q2.util⟩) (a2 := a2) (k2 := k2) 1 (.slice a2 L.length k2) rfl HS9.out HP2.out.far)
  have hok3 : NOk ⟨q2.ready, L, q2.wait, q2.util⟩ := ⟨HMD.out.ok.r1, HMD.out.ok.r2, Nat.le_trans (by rw [← HL.out]; exact trim_len _) HMD.out.ok.len, fun y hy => HMD.out.ok.nums y (by rw [← HL.out] at hy; exact trim_mem y hy)⟩
  have HK3 := Lib.hid hok3
  clear hok3 HP2 HS9 xc0 xc1 xc2 xc3 xf1 TR
  generalize w9.setCell ⟨w.heap.size + 1, 1, none⟩ (.slice a2 L.length k2) = w5 at *
  generalize hq3 : (⟨q2.ready, L, q2.wait, q2.util⟩ : Pt) = q3 at *
  have hr3 : q3.ready = q2.ready := by rw [← hq3]
  have hw3 : q3.wait = q2.wait := by rw [← hq3]
  have hs3 : q3.start = L := by rw [← hq3]
  have hL3 : Hid (q3.start = L) := hs3
  have hR3 : Hid (q3.ready = sz.ready) := by show _ = _; rw [hr3]; exact e3.out.1
  obtain ⟨D7, hD7⟩ : ∃ D7, max 0 (min demand 1000000) = D7 := ⟨_, rfl⟩
  have WI := Lib.hid (fun (y : World) => pwithin64_any demand 1000000 y)
  rw [hD7] at WI
  obtain ⟨V, hV⟩ : ∃ V, max (Fx.add q3.wait D7 - min (q3.ready * c.cap) 1000000000) 0 = V := ⟨_, rfl⟩
  obtain ⟨U, hU⟩ : ∃ U, Fx.div (Fx.add q3.wait D7) (min (q3.ready * c.cap) 1000000000) = U := ⟨_, rfl⟩
  have WK := Lib.hid (fun (y : World) => pwork_any q3 a2 k2 ⟨HK3.out.r1, HK3.out.r2⟩ c.cap D7 HCAP.out y)
  rw [hV, hU] at WK
  have HT : Hid (Plt.step c p want demand = ⟨q3.ready, L, V, U⟩) := by
    show _ = _
    rw [hr3, e3.out.1]
    refine step_of HSD.out e3.out.2.2 ?_ ?_
    · rw [hD7, ← e3.out.2.1, ← hw3, ← e3.out.1, ← hr3]; exact hV
    · rw [hD7, ← e3.out.2.1, ← hw3, ← e3.out.1, ← hr3]; exact hU
  clear hV hU hD7 hq3 hr3 hw3 hs3
  go_cut [] from 31 to 41 (fun wx => PX w wx c ⟨q3.ready, q3.start, V, U⟩ a2 k2)
  case first =>
    have HPD := Lib.hid (HP3.out.on (Below.drew (Below.refl _ _)))
    have cD := (cell_of_row _ _ 4 _ _ _ HPD.out.cb).trans rfl
    refine region_tailU (S := fun wy => wy = w5.drew) [5, 6, 7, 8, 9, 10, 11, 12] (by kernel_rfl) rfl (fun hHeld => ?_)
    refine takeU [5,6,7,8,9,10,11,12] (i := 0) (v := .agg #[.int .i64 q3.ready, .slice a2 q3.start.length k2, .int .i64 q3.wait, .int .i64 q3.util]) rfl (by kernel_rfl) (by kernel_rfl) (by kernel_rfl) (by kernel_rfl) (fun _ _ _ h => h) (GivesIf.yields (Or.inl ⟨by rfl, fun wz hS => by rw [hS]; exact exec_rowG 26 (.tmp 5) rfl (w.heap.size + 1) rfl 26 _ (0, 0) _ HPD.out.px Try.underlying26 rfl (by kernel_rfl)⟩)) (by assumption) ?_
    try simp only [Act.put, List.getElem_toArray, List.getElem_cons_succ, List.getElem_cons_zero, List.setIfInBounds_toArray, List.set_cons_zero, List.set_cons_succ]
    refine takeU [2,5,6,7,8,9,10,11,12] (i := 1) (v := ?_) rfl (by kernel_rfl) (by kernel_rfl) (by kernel_rfl) (by kernel_rfl) (fun _ _ _ h => h) (GivesIf.yields (Or.inl ⟨by rfl, ?_⟩)) (by assumption) ?_
    rotate_left
    · intro w hSw
      (try dsimp only at hSw)
      go_simp
      all_goals with_reducible rfl
    try simp only [Act.put, List.getElem_toArray, List.getElem_cons_succ, List.getElem_cons_zero, List.setIfInBounds_toArray, List.set_cons_zero, List.set_cons_succ]
    refine takeU [5,6,7,8,9,10,11,12] (i := 2) (v := ?_) rfl (by kernel_rfl) (by kernel_rfl) (by kernel_rfl) (by kernel_rfl) (fun _ _ _ h => h) (GivesIf.yields (Or.inl ⟨by rfl, ?_⟩)) (by assumption) ?_
    rotate_left
    · intro w hSw
      (try dsimp only at hSw)
      go_simp
      all_goals with_reducible rfl
    try simp only [Act.put, List.getElem_toArray, List.getElem_cons_succ, List.getElem_cons_zero, List.setIfInBounds_toArray, List.set_cons_zero, List.set_cons_succ]
    refine takeU [4,5,6,7,8,9,10,11,12] (i := 3) (v := ?_) rfl (by kernel_rfl) (by kernel_rfl) (by kernel_rfl) (by kernel_rfl) (fun _ _ _ h => h) (GivesIf.yields (Or.inl ⟨by rfl, ?_⟩)) (by assumption) ?_
    rotate_left
    · intro w hSw
      (try dsimp only at hSw)
      go_simp
      all_goals with_reducible rfl
    try simp only [Act.put, List.getElem_toArray, List.getElem_cons_succ, List.getElem_cons_zero, List.setIfInBounds_toArray, List.set_cons_zero, List.set_cons_succ]
    refine takeU [5,6,7,8,9,10,11,12] (i := 4) (v := .int .i64 D7) rfl (by kernel_rfl) (by kernel_rfl) (by kernel_rfl) (by kernel_rfl) (fun _ _ _ h => h) (GivesIf.call (by rfl) (fun w => ?_) (fun w hS => (WI.out w).mono (fun e w9 h => ⟨h.1, h.2.symm⟩))) (by assumption) ?_
    · go_simp
      all_goals with_reducible rfl
    try simp only [Act.put, List.getElem_toArray, List.getElem_cons_succ, List.getElem_cons_zero, List.setIfInBounds_toArray, List.set_cons_zero, List.set_cons_succ]
    refine heldU.one (i := 5) (by kernel_rfl) rfl (fun K hK => ?_)
    rw [if_pos (by rfl)]
    go_simp
    go_at_call 26
    refine (WK.out _).mono ?_
    rintro r w6 ⟨rfl, b6⟩
    have HP6 := Lib.hid (HPD.out.on b6)
    obtain ⟨_, _, xc2, xc3⟩ := PtAt.c HP6.out.px
    have xf2 := frozen_of_row w6 (w.heap.size + 1) 2 _ _ HP6.out.px
    have HP7 := Lib.hid (HP6.out.cell (q2 := ⟨q3.ready, q3.start, V, q3.util⟩) (a2 := a2) (k2 := k2) 2 (.int .i64 V) rfl HP6.out.row HP6.out.far)
    obtain ⟨_, _, _, yc3⟩ := PtAt.c HP7.out.px
    have yf3 := frozen_of_row _ (w.heap.size + 1) 3 _ _ HP7.out.px
    have HP8 := Lib.hid (HP7.out.cell (q2 := ⟨q3.ready, q3.start, V, U⟩) (a2 := a2) (k2 := k2) 3 (.int .i64 U) rfl HP7.out.row HP7.out.far)
    clear b6 cD hHeld
    refine hK.out _ _ (.inr (by decide)) ?_
    clear hK K
    try simp only [Act.put, List.getElem_toArray, List.getElem_cons_succ, List.getElem_cons_zero, List.setIfInBounds_toArray, List.set_cons_zero, List.set_cons_succ]
    refine heldU.one (i := 6) (by kernel_rfl) rfl (fun K hK => ?_)
    rw [if_pos (by rfl)]
    go_simp
    refine hK.out _ _ (.inr (by decide)) ?_
    clear hK K
    try simp only [Act.put, List.getElem_toArray, List.getElem_cons_succ, List.getElem_cons_zero, List.setIfInBounds_toArray, List.set_cons_zero, List.set_cons_succ]
    refine heldU.ready (rs := [7, 8]) (by kernel_rfl) (by simp) ?_
    refine ReadyU.cons rfl (fun K hK => ?_) (ReadyU.cons rfl (fun K hK => ?_) ReadyU.nil)
    · rw [if_pos (by rfl)]
      go_simp
      refine hK.out _ _ (.inr (by decide)) ?_
      clear hK K
      try simp only [Act.put, List.getElem_toArray, List.getElem_cons_succ, List.getElem_cons_zero, List.setIfInBounds_toArray, List.set_cons_zero, List.set_cons_succ]
      refine heldU.ready (rs := [8, 9]) (by kernel_rfl) (by simp) ?_
      refine ReadyU.cons rfl (fun K hK => ?_) (ReadyU.cons rfl (fun K hK => ?_) ReadyU.nil)
      · rw [if_pos (by rfl)]
        go_simp
        refine hK.out _ _ (.inr (by decide)) ?_
        clear hK K
        try simp only [Act.put, List.getElem_toArray, List.getElem_cons_succ, List.getElem_cons_zero, List.setIfInBounds_toArray, List.set_cons_zero, List.set_cons_succ]
        refine heldU.one (i := 9) (by kernel_rfl) rfl (fun K hK => ?_)
        rw [if_pos (by rfl)]
        go_simp
        refine hK.out _ _ (.inr (by decide)) ?_
        clear hK K
        try simp only [Act.put, List.getElem_toArray, List.getElem_cons_succ, List.getElem_cons_zero, List.setIfInBounds_toArray, List.set_cons_zero, List.set_cons_succ]
        refine heldU.one (i := 10) (by kernel_rfl) rfl (fun K hK => ?_)
        rw [if_pos (by rfl)]
        go_simp
        refine hK.out _ _ (.inr (by decide)) ?_
        clear hK K
        try simp only [Act.put, List.getElem_toArray, List.getElem_cons_succ, List.getElem_cons_zero, List.setIfInBounds_toArray, List.set_cons_zero, List.set_cons_succ]
        refine heldU.one (i := 11) (by kernel_rfl) rfl (fun K hK => ?_)
        rw [if_pos (by rfl)]
        go_simp
        refine hK.out _ _ (.inr (by decide)) ?_
        clear hK K
        try simp only [Act.put, List.getElem_toArray, List.getElem_cons_succ, List.getElem_cons_zero, List.setIfInBounds_toArray, List.set_cons_zero, List.set_cons_succ]
        refine heldU.one (i := 12) (by kernel_rfl) rfl (fun K hK => ?_)
        rw [if_pos (by rfl)]
        go_simp
        refine hK.out _ _ (.inr (by decide)) ?_
        clear hK K
        try simp only [Act.put, List.getElem_toArray, List.getElem_cons_succ, List.getElem_cons_zero, List.setIfInBounds_toArray, List.set_cons_zero, List.set_cons_succ]
        refine heldU.done (by kernel_rfl) ?_ _
        go_wp2_with fail
        go_meet
        case rel => exact HP8.out
      · rw [if_pos (by rfl)]
        go_simp
        refine hK.out _ _ (.inr (by decide)) ?_
        clear hK K
        try simp only [Act.put, List.getElem_toArray, List.getElem_cons_succ, List.getElem_cons_zero, List.setIfInBounds_toArray, List.set_cons_zero, List.set_cons_succ]
        refine heldU.ready (rs := [8, 10]) (by kernel_rfl) (by simp) ?_
        refine ReadyU.cons rfl (fun K hK => ?_) (ReadyU.cons rfl (fun K hK => ?_) ReadyU.nil)
        · rw [if_pos (by rfl)]
          go_simp
          refine hK.out _ _ (.inr (by decide)) ?_
          clear hK K
          try simp only [Act.put, List.getElem_toArray, List.getElem_cons_succ, List.getElem_cons_zero, List.setIfInBounds_toArray, List.set_cons_zero, List.set_cons_succ]
          refine heldU.one (i := 10) (by kernel_rfl) rfl (fun K hK => ?_)
          rw [if_pos (by rfl)]
          go_simp
          refine hK.out _ _ (.inr (by decide)) ?_
          clear hK K
          try simp only [Act.put, List.getElem_toArray, List.getElem_cons_succ, List.getElem_cons_zero, List.setIfInBounds_toArray, List.set_cons_zero, List.set_cons_succ]
          refine heldU.one (i := 11) (by kernel_rfl) rfl (fun K hK => ?_)
          rw [if_pos (by rfl)]
          go_simp
          refine hK.out _ _ (.inr (by decide)) ?_
          clear hK K
          try simp only [Act.put, List.getElem_toArray, List.getElem_cons_succ, List.getElem_cons_zero, List.setIfInBounds_toArray, List.set_cons_zero, List.set_cons_succ]
          refine heldU.one (i := 12) (by kernel_rfl) rfl (fun K hK => ?_)
          rw [if_pos (by rfl)]
          go_simp
          refine hK.out _ _ (.inr (by decide)) ?_
          clear hK K
          try simp only [Act.put, List.getElem_toArray, List.getElem_cons_succ, List.getElem_cons_zero, List.setIfInBounds_toArray, List.set_cons_zero, List.set_cons_succ]
          refine heldU.done (by kernel_rfl) ?_ _
          go_wp2_with fail
          go_meet
          case rel => exact HP8.out
        · rw [if_pos (by rfl)]
          go_simp
          refine hK.out _ _ (.inr (by decide)) ?_
          clear hK K
          try simp only [Act.put, List.getElem_toArray, List.getElem_cons_succ, List.getElem_cons_zero, List.setIfInBounds_toArray, List.set_cons_zero, List.set_cons_succ]
          refine heldU.one (i := 8) (by kernel_rfl) rfl (fun K hK => ?_)
          rw [if_pos (by rfl)]
          go_simp
          refine hK.out _ _ (.inr (by decide)) ?_
          clear hK K
          try simp only [Act.put, List.getElem_toArray, List.getElem_cons_succ, List.getElem_cons_zero, List.setIfInBounds_toArray, List.set_cons_zero, List.set_cons_succ]
          refine heldU.one (i := 11) (by kernel_rfl) rfl (fun K hK => ?_)
          rw [if_pos (by rfl)]
          go_simp
          refine hK.out _ _ (.inr (by decide)) ?_
          clear hK K
          try simp only [Act.put, List.getElem_toArray, List.getElem_cons_succ, List.getElem_cons_zero, List.setIfInBounds_toArray, List.set_cons_zero, List.set_cons_succ]
          refine heldU.one (i := 12) (by kernel_rfl) rfl (fun K hK => ?_)
          rw [if_pos (by rfl)]
          go_simp
          refine hK.out _ _ (.inr (by decide)) ?_
          clear hK K
          try simp only [Act.put, List.getElem_toArray, List.getElem_cons_succ, List.getElem_cons_zero, List.setIfInBounds_toArray, List.set_cons_zero, List.set_cons_succ]
          refine heldU.done (by kernel_rfl) ?_ _
          go_wp2_with fail
          go_meet
          case rel => exact HP8.out
    · rw [if_pos (by rfl)]
      go_simp
      refine hK.out _ _ (.inr (by decide)) ?_
      clear hK K
      try simp only [Act.put, List.getElem_toArray, List.getElem_cons_succ, List.getElem_cons_zero, List.setIfInBounds_toArray, List.set_cons_zero, List.set_cons_succ]
      refine heldU.one (i := 7) (by kernel_rfl) rfl (fun K hK => ?_)
      rw [if_pos (by rfl)]
      go_simp
      refine hK.out _ _ (.inr (by decide)) ?_
      clear hK K
      try simp only [Act.put, List.getElem_toArray, List.getElem_cons_succ, List.getElem_cons_zero, List.setIfInBounds_toArray, List.set_cons_zero, List.set_cons_succ]
      refine heldU.one (i := 9) (by kernel_rfl) rfl (fun K hK => ?_)
      rw [if_pos (by rfl)]
      go_simp
      refine hK.out _ _ (.inr (by decide)) ?_
      clear hK K
      try simp only [Act.put, List.getElem_toArray, List.getElem_cons_succ, List.getElem_cons_zero, List.setIfInBounds_toArray, List.set_cons_zero, List.set_cons_succ]
      refine heldU.one (i := 10) (by kernel_rfl) rfl (fun K hK => ?_)
      rw [if_pos (by rfl)]
      go_simp
      refine hK.out _ _ (.inr (by decide)) ?_
      clear hK K
      try simp only [Act.put, List.getElem_toArray, List.getElem_cons_succ, List.getElem_cons_zero, List.setIfInBounds_toArray, List.set_cons_zero, List.set_cons_succ]
      refine heldU.one (i := 11) (by kernel_rfl) rfl (fun K hK => ?_)
      rw [if_pos (by rfl)]
      go_simp
      refine hK.out _ _ (.inr (by decide)) ?_
      clear hK K
      try simp only [Act.put, List.getElem_toArray, List.getElem_cons_succ, List.getElem_cons_zero, List.setIfInBounds_toArray, List.set_cons_zero, List.set_cons_succ]
      refine heldU.one (i := 12) (by kernel_rfl) rfl (fun K hK => ?_)
      rw [if_pos (by rfl)]
      go_simp
      refine hK.out _ _ (.inr (by decide)) ?_
      clear hK K
      try simp only [Act.put, List.getElem_toArray, List.getElem_cons_succ, List.getElem_cons_zero, List.setIfInBounds_toArray, List.set_cons_zero, List.set_cons_succ]
      refine heldU.done (by kernel_rfl) ?_ _
      go_wp2_with fail
      go_meet
      case rel => exact HP8.out
  case rest =>
  have HX := Lib.hid hcut
  generalize wc = w9 at *
  have hnq : NOk ⟨q3.ready, q3.start, V, U⟩ := ⟨HK3.out.r1, HK3.out.r2, HK3.out.len, HK3.out.nums⟩
  have HALL := Lib.hid (fun (y : World) (hb : Below w9.heap.size w9 y) => pall_any hnq (HX.out.row.on hb))
  clear hnq hcut HP3 WI WK
  go_upto_region 8 with fail
  refine wp_region_held_drew (S := fun wy => PtAt wy (w.heap.size + 1) ⟨q3.ready, q3.start, V, U⟩ a2 k2 ∧ wy.cell? ⟨w.heap.size + 1, 2, none⟩ = some (.int .i64 V) ∧ wy.cell? ⟨w.heap.size, 6, none⟩ = some (.int .i64 c.slack)) (by kernel_rfl) ⟨HX.out.px, (PtAt.c HX.out.px).2.2.1, (cell_of_row _ _ 6 _ _ _ HX.out.cb).trans rfl⟩ (fun hHeld => ?_)
  refine wpAnyH_take (i := 0) (v := .agg #[.int .i64 q3.ready, .slice a2 q3.start.length k2, .int .i64 V, .int .i64 U]) rfl (by kernel_rfl) (by kernel_rfl) (by kernel_rfl) (fun _ _ _ h => h) (Or.inl ⟨by rfl, fun wz hS => exec_rowG 26 (.tmp 5) rfl (w.heap.size + 1) rfl 26 _ (0, 0) _ hS.1 Try.underlying26 rfl (by kernel_rfl)⟩) (by assumption) ?_
  try simp only [Act.put, List.getElem_toArray, List.getElem_cons_succ, List.getElem_cons_zero, List.setIfInBounds_toArray, List.set_cons_zero, List.set_cons_succ]
  refine wpAnyH_take (i := 1) (v := .agg #[.int .i64 q3.ready, .slice a2 q3.start.length k2, .int .i64 V, .int .i64 U]) rfl (by kernel_rfl) (by kernel_rfl) (by kernel_rfl) (fun _ _ _ h => h) (Or.inl ⟨by rfl, fun wz hS => exec_rowG 26 (.tmp 5) rfl (w.heap.size + 1) rfl 26 _ (0, 0) _ hS.1 Try.underlying26 rfl (by kernel_rfl)⟩) (by assumption) ?_
  try simp only [Act.put, List.getElem_toArray, List.getElem_cons_succ, List.getElem_cons_zero, List.setIfInBounds_toArray, List.set_cons_zero, List.set_cons_succ]
  refine wpAnyH_take (i := 3) (v := ?_) rfl (by kernel_rfl) (by kernel_rfl) (by kernel_rfl) (fun _ _ _ h => h) (Or.inl ⟨by rfl, ?_⟩) (by assumption) ?_
  rotate_left
  · intro w hSw
    (try dsimp only at hSw)
    go_simp
    all_goals with_reducible rfl
  try simp only [Act.put, List.getElem_toArray, List.getElem_cons_succ, List.getElem_cons_zero, List.setIfInBounds_toArray, List.set_cons_zero, List.set_cons_succ]
  refine wpAnyH_take (i := 4) (v := ?_) rfl (by kernel_rfl) (by kernel_rfl) (by kernel_rfl) (fun _ _ _ h => h) (Or.inl ⟨by rfl, ?_⟩) (by assumption) ?_
  rotate_left
  · intro w hSw
    (try dsimp only at hSw)
    go_simp
    all_goals with_reducible rfl
  try simp only [Act.put, List.getElem_toArray, List.getElem_cons_succ, List.getElem_cons_zero, List.setIfInBounds_toArray, List.set_cons_zero, List.set_cons_succ]
  refine wpAnyH_take (i := 5) (v := ?_) rfl (by kernel_rfl) (by kernel_rfl) (by kernel_rfl) (fun _ _ _ h => h) (Or.inl ⟨by rfl, ?_⟩) (by assumption) ?_
  rotate_left
  · intro w hSw
    (try dsimp only at hSw)
    go_simp
    all_goals with_reducible rfl
  try simp only [Act.put, List.getElem_toArray, List.getElem_cons_succ, List.getElem_cons_zero, List.setIfInBounds_toArray, List.set_cons_zero, List.set_cons_succ]
  refine wpAnyH_take (i := 6) (v := ?_) rfl (by kernel_rfl) (by kernel_rfl) (by kernel_rfl) (fun _ _ _ h => h) (Or.inl ⟨by rfl, ?_⟩) (by assumption) ?_
  rotate_left
  · intro w hSw
    (try dsimp only at hSw)
    go_simp
    all_goals with_reducible rfl
  try simp only [Act.put, List.getElem_toArray, List.getElem_cons_succ, List.getElem_cons_zero, List.setIfInBounds_toArray, List.set_cons_zero, List.set_cons_succ]
  refine wpAnyH_take (i := 7) (v := ?_) rfl (by kernel_rfl) (by kernel_rfl) (by kernel_rfl) (fun _ _ _ h => h) (Or.inl ⟨by rfl, ?_⟩) (by assumption) ?_
  rotate_left
  · intro w hSw
    (try dsimp only at hSw)
    go_simp
    all_goals with_reducible rfl
  try simp only [Act.put, List.getElem_toArray, List.getElem_cons_succ, List.getElem_cons_zero, List.setIfInBounds_toArray, List.set_cons_zero, List.set_cons_succ]
  have hB0 : Below w9.heap.size w9 w9.drew := Below.drew (Below.refl _ _)
  clear hHeld
  refine wpAnyH_ready (rs := [2]) (by kernel_rfl) (by simp) ?_
  refine AllReadyH.cons rfl (fun K hK => ?_) AllReadyH.nil
  rw [if_pos (by rfl)]
  go_simp
  go_at_call 15
  refine (HALL.out _ hB0).mono ?_
  rintro r wq ⟨rfl, b⟩
  have hB1 := bel2 hB0 b
  have HXq := Lib.hid (HX.out.on hB1)
  clear b hB0 hB1 HALL
  refine hK.out _ _ ?_ (fun hHeld => ?_)
  · exact ⟨HXq.out.px, (PtAt.c (HXq.out.px)).2.2.1, (cell_of_row _ _ 6 _ _ _ (HXq.out.cb)).trans rfl⟩
  clear hK K
  try simp only [Act.put, List.getElem_toArray, List.getElem_cons_succ, List.getElem_cons_zero, List.setIfInBounds_toArray, List.set_cons_zero, List.set_cons_succ]
  refine wpAnyH_take (i := 8) (v := ?_) rfl (by kernel_rfl) (by kernel_rfl) (by kernel_rfl) (fun _ _ _ h => h) (Or.inl ⟨by rfl, ?_⟩) (by assumption) ?_
  rotate_left
  · intro w hSw
    (try dsimp only at hSw)
    go_simp
    all_goals with_reducible rfl
  try simp only [Act.put, List.getElem_toArray, List.getElem_cons_succ, List.getElem_cons_zero, List.setIfInBounds_toArray, List.set_cons_zero, List.set_cons_succ]
  refine wpAnyH_ready (rs := [9]) (by kernel_rfl) (by simp) ?_
  refine AllReadyH.cons rfl (fun K hK => ?_) AllReadyH.nil
  rw [if_pos (by rfl)]
  refine wp_store_mid 26 (.tmp 8) (.tmp 42) (by rfl) (w.heap.size + 2) 0 #[.int .i64 q3.ready, .slice a2 q3.start.length k2, .int .i64 V, .int .i64 U] (by rfl) (by rfl) (there_of_block HXq.out.z1 (by simp)) (by kernel_rfl) (by kernel_rfl) ?_
  have z1 := Lib.hid (heap_setCells_whole (cs := [Value.int .i64 0, .slice none 0 0, .int .i64 0, .int .i64 0]) (#[.int .i64 q3.ready, .slice a2 q3.start.length k2, .int .i64 V, .int .i64 U] : Array Value).toList rfl HXq.out.z1)
  have z2 := Lib.hid ((far_cells (w.heap.size + 3) (w.heap.size + 2) (by omega) (#[.int .i64 q3.ready, .slice a2 q3.start.length k2, .int .i64 V, .int .i64 U] : Array Value).toList 0 wq).trans HXq.out.z2)
  have zp : PtAt (wq.setCells (w.heap.size + 2) 0 (#[.int .i64 q3.ready, .slice a2 q3.start.length k2, .int .i64 V, .int .i64 U] : Array Value).toList) (w.heap.size + 1) ⟨q3.ready, q3.start, V, U⟩ a2 k2 := (far_cells (w.heap.size + 1) (w.heap.size + 2) (by omega) (#[.int .i64 q3.ready, .slice a2 q3.start.length k2, .int .i64 V, .int .i64 U] : Array Value).toList 0 wq).trans HXq.out.px
  have zc := HXq.out.cb.far (q := w.heap.size + 2) (by omega) (#[.int .i64 q3.ready, .slice a2 q3.start.length k2, .int .i64 V, .int .i64 U] : Array Value).toList
  have zb := below_setCells' (w.heap.size + 2) (by omega) (#[.int .i64 q3.ready, .slice a2 q3.start.length k2, .int .i64 V, .int .i64 U] : Array Value).toList 0 HXq.out.bel
  have zr := HXq.out.row.far (q := w.heap.size + 2) (fun b o e => by have := HXq.out.far b o e; omega) (#[.int .i64 q3.ready, .slice a2 q3.start.length k2, .int .i64 V, .int .i64 U] : Array Value).toList
  have ZP := Lib.hid zp
  have ZC := Lib.hid zc
  have ZB := Lib.hid zb
  have ZR := Lib.hid zr
  have ZO := Lib.hid HXq.out.far
  clear zp zc zb zr HXq HX
  generalize wq.setCells (w.heap.size + 2) 0 (#[.int .i64 q3.ready, .slice a2 q3.start.length k2, .int .i64 V, .int .i64 U] : Array Value).toList = ws at z1 z2 ZP ZC ZB ZR ⊢
  refine hK.out _ _ ?_ (fun hHeld => ?_)
  · exact ⟨ZP.out, (PtAt.c (ZP.out)).2.2.1, (cell_of_row _ _ 6 _ _ _ (ZC.out)).trans rfl⟩
  clear hK K
  try simp only [Act.put, List.getElem_toArray, List.getElem_cons_succ, List.getElem_cons_zero, List.setIfInBounds_toArray, List.set_cons_zero, List.set_cons_succ]
  refine wpAnyH_ready (rs := [10]) (by kernel_rfl) (by simp) ?_
  refine AllReadyH.cons rfl (fun K hK => ?_) AllReadyH.nil
  rw [if_pos (by rfl)]
  refine wp_store_mid 31 (.tmp 9) (.tmp 50) (by rfl) (w.heap.size + 3) 0 #[.int .i64 (all ⟨q3.ready, q3.start, V, U⟩), .bool (decide (c.slack < V))] (by rfl) (by rfl) (there_of_block z2.out (by simp)) (by kernel_rfl) (by kernel_rfl) ?_
  have y1 := Lib.hid ((far_cells (w.heap.size + 2) (w.heap.size + 3) (by omega) (#[.int .i64 (all ⟨q3.ready, q3.start, V, U⟩), .bool (decide (c.slack < V))] : Array Value).toList 0 ws).trans z1.out)
  have y2 := Lib.hid (heap_setCells_whole (cs := [Value.int .i64 0, .bool false]) (#[.int .i64 (all ⟨q3.ready, q3.start, V, U⟩), .bool (decide (c.slack < V))] : Array Value).toList rfl z2.out)
  have yp : PtAt (ws.setCells (w.heap.size + 3) 0 (#[.int .i64 (all ⟨q3.ready, q3.start, V, U⟩), .bool (decide (c.slack < V))] : Array Value).toList) (w.heap.size + 1) ⟨q3.ready, q3.start, V, U⟩ a2 k2 := (far_cells (w.heap.size + 1) (w.heap.size + 3) (by omega) (#[.int .i64 (all ⟨q3.ready, q3.start, V, U⟩), .bool (decide (c.slack < V))] : Array Value).toList 0 ws).trans ZP.out
  have yc := ZC.out.far (q := w.heap.size + 3) (by omega) (#[.int .i64 (all ⟨q3.ready, q3.start, V, U⟩), .bool (decide (c.slack < V))] : Array Value).toList
  have yb := Lib.hid (below_setCells' (w.heap.size + 3) (by omega) (#[.int .i64 (all ⟨q3.ready, q3.start, V, U⟩), .bool (decide (c.slack < V))] : Array Value).toList 0 ZB.out)
  have yr := Lib.hid (ZR.out.far (q := w.heap.size + 3) (fun b o e => by have := ZO.out b o e; omega) (#[.int .i64 (all ⟨q3.ready, q3.start, V, U⟩), .bool (decide (c.slack < V))] : Array Value).toList)
  generalize ws.setCells (w.heap.size + 3) 0 (#[.int .i64 (all ⟨q3.ready, q3.start, V, U⟩), .bool (decide (c.slack < V))] : Array Value).toList = wt at y1 y2 yp yc yb yr ⊢
  refine hK.out _ _ ?_ (fun hHeld => ?_)
  · exact ⟨yp, (PtAt.c (yp)).2.2.1, (cell_of_row _ _ 6 _ _ _ (yc)).trans rfl⟩
  clear hK K
  try simp only [Act.put, List.getElem_toArray, List.getElem_cons_succ, List.getElem_cons_zero, List.setIfInBounds_toArray, List.set_cons_zero, List.set_cons_succ]
  refine wpAnyH_done (by kernel_rfl) ?_ _
  clear yp yc hHeld
  go_wp2_with fail
  refine bodyPost_ret (results_two_rows rfl _ _ (w.heap.size + 2) (w.heap.size + 3) _ _ _ _ _ _ _ _ rfl y1.out Try.underlying26 (by rfl) (by kernel_rfl) rfl y2.out Try.underlying31 (by rfl) (by kernel_rfl)) (by rfl) ?_
  have hT := HT.out
  rw [← hL3.out] at hT
  refine ⟨a2, k2, ?_, ?_, fun b o e => by have := ZO.out b o e; omega, yb.out⟩
  · unfold mkV Plt.mark; rw [hT]
  · rw [hT]; exact yr.out
end Go.Proofs.Ytcfehddnccdejaa
