/- PlantTells: the walk. -/
import Derived.Test.YtcfehddnccdejaaQlI
import Derived.Test.YtcfehddnccdejaaQlJ
import Derived.Deep.RegionHeld
import Derived.Deep.CutRange
import Derived.Lib.MinMax
namespace Go.Proofs.Ytcfehddnccdejaa
set_option linter.unusedSimpArgs false
set_option linter.unusedVariables false
open Go.RowKit
open Wir Evn Lim Plt
attribute [local go_sem] Oper.semAt_some

set_option maxRecDepth 100000 in
set_option maxHeartbeats 3200000 in
theorem plantTells_walk (c : Cf) (p : Pt) (a : Option Addr) (k : Nat) (m d : Int) (w : World) (hr : SRw w a k p.start) :
    Calls Try.prog 3 #[cfV c, ptV p a k, .int .i64 m, .int .i64 d] w fun r w' => r = .returned (.bool true) ∧ Below w.heap.size w w' := by
  obtain ⟨hB, hP, hX⟩ := boxes w c p a k hr
  obtain ⟨x, hx⟩ : ∃ x, x = (w.alloc (.cells #[.int .i64 c.min, .int .i64 c.max, .int .i64 c.rate, .int .i64 c.stable, .int .i64 c.cap, .int .i64 c.delay, .int .i64 c.slack, .int .i64 c.window, .int .i64 c.margin, .int .i64 c.ceil, .int .i64 c.probe, .int .i64 c.breach] 23)).alloc (.cells #[.int .i64 p.ready, .slice a p.start.length k, .int .i64 p.wait, .int .i64 p.util] 26) := ⟨_, rfl⟩
  rw [← hx] at hB hP hX
  have HB := Lib.hid hB
  have HP := Lib.hid hP
  have X0 := Lib.hid hX
  have HX := Lib.hid hx
  clear hB hP hX hx hr
  unfold cfV ptV
  go_enter Try.func3, Try.ntmps3
  go_wp2_with fail
  rw [← HX.out]
  refine (qhead_any _).mono ?_
  rintro r w1 ⟨rfl, b⟩
  clear HX
  have HP := Lib.hid (HP.out.on b)
  have X0 := Lib.hid (X0.out.on b)
  have HB := Lib.hid (bel2 HB.out b)
  clear b
  go_wp2_with (first
    | (refine wpList_load_rowG (by first | rfl | kernel_rfl | (simp [Region.wanted, yielded])) 23 (.tmp 4) (by rfl) (w.heap.size) (by rfl) 23 _ (0, 0) _ HP.out Try.underlying23 (by rfl) (by kernel_rfl) ?_)
    | fail)
  refine (dconf_any c _).mono ?_
  rintro r w2 ⟨rfl, b⟩
  have HP := Lib.hid (HP.out.on b)
  have X0 := Lib.hid (X0.out.on b)
  have HB := Lib.hid (bel2 HB.out b)
  clear b
  cases hc9 : confR c
  · clear hc9
    go_wp2
    go_ret
    exact ⟨rfl, HB.out⟩
  have HC := Lib.hid hc9
  clear hc9
  have q0 : w2.cell? ⟨w.heap.size + 1, 0, none⟩ = some (.int .i64 p.ready) := (PtAt.c X0.out.at_).1
  have q1 : w2.cell? ⟨w.heap.size + 1, 1, none⟩ = some (.slice a p.start.length k) := (PtAt.c X0.out.at_).2.1
  have q2 : w2.cell? ⟨w.heap.size + 1, 2, none⟩ = some (.int .i64 p.wait) := (PtAt.c X0.out.at_).2.2.1
  have q3 : w2.cell? ⟨w.heap.size + 1, 3, none⟩ = some (.int .i64 p.util) := (PtAt.c X0.out.at_).2.2.2
  by_cases h8 : 8 < p.start.length
  · have h8' : (8 : Int) < (p.start.length : Int) := by omega
    go_wp2
    go_ret
    exact ⟨rfl, HB.out⟩
  have h8' : decide ((8 : Int) < (p.start.length : Int)) = false := decide_eq_false (by omega)
  clear h8
  go_wp2_with fail
  refine (rtright_any X0.out.row).mono ?_
  rintro r w3 ⟨rfl, b⟩
  have HP := Lib.hid (HP.out.on b)
  have X0 := Lib.hid (X0.out.on b)
  have HB := Lib.hid (bel2 HB.out b)
  clear b
  clear q0 q1 q2 q3
  cases hk9 : okT p
  · clear hk9
    go_wp2
    go_ret
    exact ⟨rfl, HB.out⟩
  have HK := Lib.hid hk9
  clear hk9 h8'
  obtain ⟨r1, l1, t1, u1, hP1⟩ : ∃ pr l pw pu, Plt.step c p m d = ⟨pr, l, pw, pu⟩ := ⟨_, _, _, _, rfl⟩
  obtain ⟨mc1, mb1, hM1⟩ : ∃ mc mb, Plt.mark c p m d = (mc, mb) := ⟨_, _, rfl⟩
  have HP1 := Lib.hid hP1
  have HM1 := Lib.hid hM1
  clear hP1 hM1
  have q0 : w3.cell? ⟨w.heap.size + 1, 0, none⟩ = some (.int .i64 p.ready) := (PtAt.c X0.out.at_).1
  have q1 : w3.cell? ⟨w.heap.size + 1, 1, none⟩ = some (.slice a p.start.length k) := (PtAt.c X0.out.at_).2.1
  have q2 : w3.cell? ⟨w.heap.size + 1, 2, none⟩ = some (.int .i64 p.wait) := (PtAt.c X0.out.at_).2.2.1
  have q3 : w3.cell? ⟨w.heap.size + 1, 3, none⟩ = some (.int .i64 p.util) := (PtAt.c X0.out.at_).2.2.2
  go_wp2_with (first
    | (refine wpList_load_rowG (by first | rfl | kernel_rfl | (simp [Region.wanted, yielded])) 23 (.tmp 4) (by rfl) (w.heap.size) (by rfl) 23 _ (0, 0) _ HP.out Try.underlying23 (by rfl) (by kernel_rfl) ?_)
    | fail)
  refine (pstep_l p HK.out X0.out.row HC.out m d r1 l1 t1 u1 mc1 mb1 l1.length HP1.out HM1.out rfl).mono ?_
  rintro r v1 ⟨a1, k1, rfl, hs2, ho2, b⟩
  have HO1 := Lib.hid ho2
  clear ho2
  have HP := Lib.hid (HP.out.on b)
  have X0 := Lib.hid (X0.out.on b)
  have HB := Lib.hid (bel2 HB.out b)
  clear b
  go_upto_region 5 with fail
  obtain ⟨b, hX, hM⟩ := two_new v1 r1 l1 t1 u1 a1 k1 mc1 mb1 l1.length rfl hs2
  generalize hw9 : (v1.alloc (.cells #[.int .i64 r1, .slice a1 l1.length k1, .int .i64 t1, .int .i64 u1] 26)).alloc (.cells #[.int .i64 mc1, .bool mb1] 31) = x1 at *
  have HP := Lib.hid (HP.out.on b)
  have X0 := Lib.hid (X0.out.on b)
  have HB := Lib.hid (bel2 HB.out b)
  clear b
  have X1 := Lib.hid hX
  have M1 := Lib.hid hM
  clear hX hM hs2 hw9
  clear q0 q1 q2 q3
  have q0 : x1.cell? ⟨w.heap.size + 1, 0, none⟩ = some (.int .i64 p.ready) := (PtAt.c X0.out.at_).1
  have q1 : x1.cell? ⟨w.heap.size + 1, 1, none⟩ = some (.slice a p.start.length k) := (PtAt.c X0.out.at_).2.1
  have q2 : x1.cell? ⟨w.heap.size + 1, 2, none⟩ = some (.int .i64 p.wait) := (PtAt.c X0.out.at_).2.2.1
  have q3 : x1.cell? ⟨w.heap.size + 1, 3, none⟩ = some (.int .i64 p.util) := (PtAt.c X0.out.at_).2.2.2
  go_wp2_with (first
    | (refine wpList_load_rowG (by first | rfl | kernel_rfl | (simp [Region.wanted, yielded])) 23 (.tmp 4) (by rfl) (w.heap.size) (by rfl) 23 _ (0, 0) _ HP.out Try.underlying23 (by rfl) (by kernel_rfl) ?_)
    | fail)
  refine (rstep_l p HK.out X0.out.row HC.out m d r1 l1 t1 u1 mc1 mb1 l1.length HP1.out HM1.out rfl).mono ?_
  rintro r v2 ⟨a2, k2, rfl, hs2, ho2, b⟩
  have HO2 := Lib.hid ho2
  clear ho2
  have HP := Lib.hid (HP.out.on b)
  have X0 := Lib.hid (X0.out.on b)
  have X1 := Lib.hid (X1.out.on b)
  have M1 := Lib.hid (M1.out.on b)
  have HB := Lib.hid (bel2 HB.out b)
  clear b
  go_upto_region 6 with fail
  obtain ⟨b, hX, hM⟩ := two_new v2 r1 l1 t1 u1 a2 k2 mc1 mb1 l1.length rfl hs2
  generalize hw9 : (v2.alloc (.cells #[.int .i64 r1, .slice a2 l1.length k2, .int .i64 t1, .int .i64 u1] 26)).alloc (.cells #[.int .i64 mc1, .bool mb1] 31) = x2 at *
  have HP := Lib.hid (HP.out.on b)
  have X0 := Lib.hid (X0.out.on b)
  have X1 := Lib.hid (X1.out.on b)
  have M1 := Lib.hid (M1.out.on b)
  have HB := Lib.hid (bel2 HB.out b)
  clear b
  have X2 := Lib.hid hX
  have M2 := Lib.hid hM
  clear hX hM hs2 hw9
  clear q0 q1 q2 q3
  have HN := Lib.hid (TOk.n (TOk.of HK.out))
  refine wp_region_held_drew (S := fun wy => PtAt wy v1.heap.size ⟨r1, l1, t1, u1⟩ a1 k1 ∧ PtAt wy v2.heap.size ⟨r1, l1, t1, u1⟩ a2 k2 ∧ PtAt wy (w.heap.size + 1) p a k ∧ MkAt wy (v1.heap.size + 1) (mc1, mb1) ∧ MkAt wy (v2.heap.size + 1) (mc1, mb1)) (by kernel_rfl) (⟨X1.out.at_.on (Below.drew (Below.refl _ _)), X2.out.at_.on (Below.drew (Below.refl _ _)), X0.out.at_.on (Below.drew (Below.refl _ _)), M1.out.on (Below.drew (Below.refl _ _)), M2.out.on (Below.drew (Below.refl _ _))⟩) (fun hHeld => ?_)
  have hB0 : Below x2.heap.size x2 x2.drew := Below.drew (Below.refl _ _)
  refine wpAnyH_take (i := 0) (v := ?_) rfl (by kernel_rfl) (by kernel_rfl) (by kernel_rfl) (fun _ _ _ h => h) (Or.inl ⟨by rfl, ?_⟩) (by assumption) ?_
  rotate_left
  · intro w hSw
    (try dsimp only at hSw)
    go_simp
    all_goals with_reducible rfl
  try simp only [Act.put, List.getElem_toArray, List.getElem_cons_succ, List.getElem_cons_zero, List.setIfInBounds_toArray, List.set_cons_zero, List.set_cons_succ]
  refine wpAnyH_take (i := 1) (v := ?_) rfl (by kernel_rfl) (by kernel_rfl) (by kernel_rfl) (fun _ _ _ h => h) (Or.inl ⟨by rfl, ?_⟩) (by assumption) ?_
  rotate_left
  · intro w hSw
    (try dsimp only at hSw)
    go_simp
    all_goals with_reducible rfl
  try simp only [Act.put, List.getElem_toArray, List.getElem_cons_succ, List.getElem_cons_zero, List.setIfInBounds_toArray, List.set_cons_zero, List.set_cons_succ]
  refine wpAnyH_take (i := 2) (v := .agg #[.int .i64 r1, .slice a1 l1.length k1, .int .i64 t1, .int .i64 u1]) rfl (by kernel_rfl) (by kernel_rfl) (by kernel_rfl) (fun _ _ _ h => h) (Or.inl ⟨by rfl, fun wz hS => exec_rowG 26 (.tmp 10) rfl (v1.heap.size) rfl 26 _ (0, 0) _ (hS.1) Try.underlying26 rfl (by kernel_rfl)⟩) (by assumption) ?_
  try simp only [Act.put, List.getElem_toArray, List.getElem_cons_succ, List.getElem_cons_zero, List.setIfInBounds_toArray, List.set_cons_zero, List.set_cons_succ]
  refine wpAnyH_take (i := 3) (v := .agg #[.int .i64 r1, .slice a2 l1.length k2, .int .i64 t1, .int .i64 u1]) rfl (by kernel_rfl) (by kernel_rfl) (by kernel_rfl) (fun _ _ _ h => h) (Or.inl ⟨by rfl, fun wz hS => exec_rowG 26 (.tmp 12) rfl (v2.heap.size) rfl 26 _ (0, 0) _ (hS.2.1) Try.underlying26 rfl (by kernel_rfl)⟩) (by assumption) ?_
  try simp only [Act.put, List.getElem_toArray, List.getElem_cons_succ, List.getElem_cons_zero, List.setIfInBounds_toArray, List.set_cons_zero, List.set_cons_succ]
  refine wpAnyH_ready (rs := [4]) (by kernel_rfl) (by simp) ?_
  refine AllReadyH.cons rfl (fun K hK => ?_) AllReadyH.nil
  rw [if_pos (by rfl)]
  go_simp
  go_at_call 14
  refine (rtsame_any (p := ⟨r1, l1, t1, u1⟩) (X1.out.row.on hB0) (X2.out.row.on hB0)).mono ?_
  rintro r wq1 ⟨rfl, b⟩
  have hB1 := bel2 hB0 b
  clear b
  refine hK.out _ _ ?_ (fun hHeld => ?_)
  · exact ⟨X1.out.at_.on hB1, X2.out.at_.on hB1, X0.out.at_.on hB1, M1.out.on hB1, M2.out.on hB1⟩
  clear hK K
  try simp only [Act.put, List.getElem_toArray, List.getElem_cons_succ, List.getElem_cons_zero, List.setIfInBounds_toArray, List.set_cons_zero, List.set_cons_succ]
  refine wpAnyH_take (i := 5) (v := ?_) rfl (by kernel_rfl) (by kernel_rfl) (by kernel_rfl) (fun _ _ _ h => h) (Or.inl ⟨by rfl, ?_⟩) (by assumption) ?_
  rotate_left
  · intro w hSw
    (try dsimp only at hSw)
    go_simp
    all_goals with_reducible rfl
  try simp only [Act.put, List.getElem_toArray, List.getElem_cons_succ, List.getElem_cons_zero, List.setIfInBounds_toArray, List.set_cons_zero, List.set_cons_succ]
  refine wpAnyH_take (i := 6) (v := ?_) rfl (by kernel_rfl) (by kernel_rfl) (by kernel_rfl) (fun _ _ _ h => h) (Or.inl ⟨by rfl, ?_⟩) (by assumption) ?_
  rotate_left
  · intro w hSw
    (try dsimp only at hSw)
    go_simp
    all_goals with_reducible rfl
  try simp only [Act.put, List.getElem_toArray, List.getElem_cons_succ, List.getElem_cons_zero, List.setIfInBounds_toArray, List.set_cons_zero, List.set_cons_succ]
  refine wpAnyH_take (i := 7) (v := .agg #[.int .i64 mc1, .bool mb1]) rfl (by kernel_rfl) (by kernel_rfl) (by kernel_rfl) (fun _ _ _ h => h) (Or.inl ⟨by rfl, fun wz hS => exec_rowG 31 (.tmp 11) rfl (v1.heap.size + 1) rfl 31 _ (0, 0) _ (hS.2.2.2.1) Try.underlying31 rfl (by kernel_rfl)⟩) (by assumption) ?_
  try simp only [Act.put, List.getElem_toArray, List.getElem_cons_succ, List.getElem_cons_zero, List.setIfInBounds_toArray, List.set_cons_zero, List.set_cons_succ]
  refine wpAnyH_take (i := 8) (v := .agg #[.int .i64 mc1, .bool mb1]) rfl (by kernel_rfl) (by kernel_rfl) (by kernel_rfl) (fun _ _ _ h => h) (Or.inl ⟨by rfl, fun wz hS => exec_rowG 31 (.tmp 13) rfl (v2.heap.size + 1) rfl 31 _ (0, 0) _ (hS.2.2.2.2) Try.underlying31 rfl (by kernel_rfl)⟩) (by assumption) ?_
  try simp only [Act.put, List.getElem_toArray, List.getElem_cons_succ, List.getElem_cons_zero, List.setIfInBounds_toArray, List.set_cons_zero, List.set_cons_succ]
  refine wpAnyH_take (i := 9) (v := ?_) rfl (by kernel_rfl) (by kernel_rfl) (by kernel_rfl) (fun _ _ _ h => h) (Or.inl ⟨by rfl, ?_⟩) (by assumption) ?_
  rotate_left
  · intro w hSw
    (try dsimp only at hSw)
    go_simp
    all_goals with_reducible rfl
  try simp only [Act.put, List.getElem_toArray, List.getElem_cons_succ, List.getElem_cons_zero, List.setIfInBounds_toArray, List.set_cons_zero, List.set_cons_succ]
  refine wpAnyH_take (i := 10) (v := ?_) rfl (by kernel_rfl) (by kernel_rfl) (by kernel_rfl) (fun _ _ _ h => h) (Or.inl ⟨by rfl, ?_⟩) (by assumption) ?_
  rotate_left
  · intro w hSw
    (try dsimp only at hSw)
    go_simp
    all_goals with_reducible rfl
  try simp only [Act.put, List.getElem_toArray, List.getElem_cons_succ, List.getElem_cons_zero, List.setIfInBounds_toArray, List.set_cons_zero, List.set_cons_succ]
  refine wpAnyH_take (i := 11) (v := ?_) rfl (by kernel_rfl) (by kernel_rfl) (by kernel_rfl) (fun _ _ _ h => h) (Or.inl ⟨by rfl, ?_⟩) (by assumption) ?_
  rotate_left
  · intro w hSw
    (try dsimp only at hSw)
    go_simp
    all_goals with_reducible rfl
  try simp only [Act.put, List.getElem_toArray, List.getElem_cons_succ, List.getElem_cons_zero, List.setIfInBounds_toArray, List.set_cons_zero, List.set_cons_succ]
  refine wpAnyH_take (i := 12) (v := .agg #[.int .i64 p.ready, .slice a p.start.length k, .int .i64 p.wait, .int .i64 p.util]) rfl (by kernel_rfl) (by kernel_rfl) (by kernel_rfl) (fun _ _ _ h => h) (Or.inl ⟨by rfl, fun wz hS => exec_rowG 26 (.tmp 5) rfl (w.heap.size + 1) rfl 26 _ (0, 0) _ (hS.2.2.1) Try.underlying26 rfl (by kernel_rfl)⟩) (by assumption) ?_
  try simp only [Act.put, List.getElem_toArray, List.getElem_cons_succ, List.getElem_cons_zero, List.setIfInBounds_toArray, List.set_cons_zero, List.set_cons_succ]
  refine wpAnyH_take (i := 14) (v := .agg #[.int .i64 p.ready, .slice a p.start.length k, .int .i64 p.wait, .int .i64 p.util]) rfl (by kernel_rfl) (by kernel_rfl) (by kernel_rfl) (fun _ _ _ h => h) (Or.inl ⟨by rfl, fun wz hS => exec_rowG 26 (.tmp 5) rfl (w.heap.size + 1) rfl 26 _ (0, 0) _ (hS.2.2.1) Try.underlying26 rfl (by kernel_rfl)⟩) (by assumption) ?_
  try simp only [Act.put, List.getElem_toArray, List.getElem_cons_succ, List.getElem_cons_zero, List.setIfInBounds_toArray, List.set_cons_zero, List.set_cons_succ]
  refine wpAnyH_ready (rs := [13]) (by kernel_rfl) (by simp) ?_
  refine AllReadyH.cons rfl (fun K hK => ?_) AllReadyH.nil
  rw [if_pos (by rfl)]
  go_simp
  go_at_call 15
  refine (pall_any HN.out (X0.out.row.on hB1)).mono ?_
  rintro r wq2 ⟨rfl, b⟩
  have hB2 := bel2 hB1 b
  clear b
  refine hK.out _ _ ?_ (fun hHeld => ?_)
  · exact ⟨X1.out.at_.on hB2, X2.out.at_.on hB2, X0.out.at_.on hB2, M1.out.on hB2, M2.out.on hB2⟩
  clear hK K
  try simp only [Act.put, List.getElem_toArray, List.getElem_cons_succ, List.getElem_cons_zero, List.setIfInBounds_toArray, List.set_cons_zero, List.set_cons_succ]
  refine wpAnyH_ready (rs := [15]) (by kernel_rfl) (by simp) ?_
  refine AllReadyH.cons rfl (fun K hK => ?_) AllReadyH.nil
  rw [if_pos (by rfl)]
  go_simp
  go_at_call 16
  refine (rall_any HN.out (X0.out.row.on hB2)).mono ?_
  rintro r wq3 ⟨rfl, b⟩
  have hB3 := bel2 hB2 b
  clear b
  refine hK.out _ _ ?_ (fun hHeld => ?_)
  · exact ⟨X1.out.at_.on hB3, X2.out.at_.on hB3, X0.out.at_.on hB3, M1.out.on hB3, M2.out.on hB3⟩
  clear hK K
  try simp only [Act.put, List.getElem_toArray, List.getElem_cons_succ, List.getElem_cons_zero, List.setIfInBounds_toArray, List.set_cons_zero, List.set_cons_succ]
  refine wpAnyH_take (i := 16) (v := ?_) rfl (by kernel_rfl) (by kernel_rfl) (by kernel_rfl) (fun _ _ _ h => h) (Or.inl ⟨by rfl, ?_⟩) (by assumption) ?_
  rotate_left
  · intro w hSw
    (try dsimp only at hSw)
    go_simp
    all_goals with_reducible rfl
  try simp only [Act.put, List.getElem_toArray, List.getElem_cons_succ, List.getElem_cons_zero, List.setIfInBounds_toArray, List.set_cons_zero, List.set_cons_succ]
  refine wpAnyH_take (i := 17) (v := ?_) rfl (by kernel_rfl) (by kernel_rfl) (by kernel_rfl) (fun _ _ _ h => h) (Or.inl ⟨by rfl, ?_⟩) (by assumption) ?_
  rotate_left
  · intro w hSw
    (try dsimp only at hSw)
    go_simp
    all_goals with_reducible rfl
  try simp only [Act.put, List.getElem_toArray, List.getElem_cons_succ, List.getElem_cons_zero, List.setIfInBounds_toArray, List.set_cons_zero, List.set_cons_succ]
  refine wpAnyH_take (i := 18) (v := ?_) rfl (by kernel_rfl) (by kernel_rfl) (by kernel_rfl) (fun _ _ _ h => h) (Or.inl ⟨by rfl, ?_⟩) (by assumption) ?_
  rotate_left
  · intro w hSw
    (try dsimp only at hSw)
    go_simp
    all_goals with_reducible rfl
  try simp only [Act.put, List.getElem_toArray, List.getElem_cons_succ, List.getElem_cons_zero, List.setIfInBounds_toArray, List.set_cons_zero, List.set_cons_succ]
  refine wpAnyH_take (i := 19) (v := ?_) rfl (by kernel_rfl) (by kernel_rfl) (by kernel_rfl) (fun _ _ _ h => h) (Or.inl ⟨by rfl, ?_⟩) (by assumption) ?_
  rotate_left
  · intro w hSw
    (try dsimp only at hSw)
    go_simp
    all_goals with_reducible rfl
  try simp only [Act.put, List.getElem_toArray, List.getElem_cons_succ, List.getElem_cons_zero, List.setIfInBounds_toArray, List.set_cons_zero, List.set_cons_succ]
  refine wpAnyH_take (i := 21) (v := ?_) rfl (by kernel_rfl) (by kernel_rfl) (by kernel_rfl) (fun _ _ _ h => h) (Or.inl ⟨by rfl, ?_⟩) (by assumption) ?_
  rotate_left
  · intro w hSw
    (try dsimp only at hSw)
    go_simp
    all_goals with_reducible rfl
  try simp only [Act.put, List.getElem_toArray, List.getElem_cons_succ, List.getElem_cons_zero, List.setIfInBounds_toArray, List.set_cons_zero, List.set_cons_succ]
  refine wpAnyH_ready (rs := [20]) (by kernel_rfl) (by simp) ?_
  refine AllReadyH.cons rfl (fun K hK => ?_) AllReadyH.nil
  rw [if_pos (by rfl)]
  go_simp
  go_at_call 17
  refine (pnew_l m _ rfl _).mono ?_
  rintro r wq4 ⟨rfl, b⟩
  have hB4 := bel2 hB3 b
  clear b
  refine hK.out _ _ ?_ (fun hHeld => ?_)
  · exact ⟨X1.out.at_.on hB4, X2.out.at_.on hB4, X0.out.at_.on hB4, M1.out.on hB4, M2.out.on hB4⟩
  clear hK K
  try simp only [Act.put, List.getElem_toArray, List.getElem_cons_succ, List.getElem_cons_zero, List.setIfInBounds_toArray, List.set_cons_zero, List.set_cons_succ]
  refine wpAnyH_ready (rs := [22]) (by kernel_rfl) (by simp) ?_
  refine AllReadyH.cons rfl (fun K hK => ?_) AllReadyH.nil
  rw [if_pos (by rfl)]
  go_simp
  go_at_call 18
  refine (rnew_l m _ rfl _).mono ?_
  rintro r wq5 ⟨rfl, b⟩
  have hB5 := bel2 hB4 b
  clear b
  refine hK.out _ _ ?_ (fun hHeld => ?_)
  · exact ⟨X1.out.at_.on hB5, X2.out.at_.on hB5, X0.out.at_.on hB5, M1.out.on hB5, M2.out.on hB5⟩
  clear hK K
  try simp only [Act.put, List.getElem_toArray, List.getElem_cons_succ, List.getElem_cons_zero, List.setIfInBounds_toArray, List.set_cons_zero, List.set_cons_succ]
  refine wpAnyH_ready (rs := [23]) (by kernel_rfl) (by simp) ?_
  refine AllReadyH.cons rfl (fun K hK => ?_) AllReadyH.nil
  rw [if_pos (by rfl)]
  go_simp
  go_at_call 14
  refine (rtsame_any (p := ⟨rep m, [], 0, 0⟩) (SRw.none_ _) (SRw.none_ _)).mono ?_
  rintro r wq6 ⟨rfl, b⟩
  have hB6 := bel2 hB5 b
  clear b
  refine hK.out _ _ ?_ (fun hHeld => ?_)
  · exact ⟨X1.out.at_.on hB6, X2.out.at_.on hB6, X0.out.at_.on hB6, M1.out.on hB6, M2.out.on hB6⟩
  clear hK K
  try simp only [Act.put, List.getElem_toArray, List.getElem_cons_succ, List.getElem_cons_zero, List.setIfInBounds_toArray, List.set_cons_zero, List.set_cons_succ]
  refine wpAnyH_take (i := 24) (v := ?_) rfl (by kernel_rfl) (by kernel_rfl) (by kernel_rfl) (fun _ _ _ h => h) (Or.inl ⟨by rfl, ?_⟩) (by assumption) ?_
  rotate_left
  · intro w hSw
    (try dsimp only at hSw)
    go_simp
    all_goals with_reducible rfl
  try simp only [Act.put, List.getElem_toArray, List.getElem_cons_succ, List.getElem_cons_zero, List.setIfInBounds_toArray, List.set_cons_zero, List.set_cons_succ]
  refine wpAnyH_take (i := 25) (v := ?_) rfl (by kernel_rfl) (by kernel_rfl) (by kernel_rfl) (fun _ _ _ h => h) (Or.inl ⟨by rfl, ?_⟩) (by assumption) ?_
  rotate_left
  · intro w hSw
    (try dsimp only at hSw)
    go_simp
    all_goals with_reducible rfl
  try simp only [Act.put, List.getElem_toArray, List.getElem_cons_succ, List.getElem_cons_zero, List.setIfInBounds_toArray, List.set_cons_zero, List.set_cons_succ]
  refine wpAnyH_done (by kernel_rfl) ?_ _
  go_wp2
  go_ret
  exact ⟨rfl, bel2 HB.out hB6⟩
end Go.Proofs.Ytcfehddnccdejaa
