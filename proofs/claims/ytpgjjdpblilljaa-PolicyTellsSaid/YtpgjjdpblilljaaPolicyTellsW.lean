/- PolicyTells: the walk. -/
import Derived.Test.YtpgjjdpblilljaaPoG
import Derived.Deep.RegionHeld
namespace Go.Proofs.Ytpgjjdpblilljaa
set_option linter.unusedSimpArgs false
set_option linter.unusedVariables false
open Go.RowKit
open Evn Plc
attribute [local go_sem] Oper.semAt_some

theorem pnext_l {w : World} (p : Pl) {a1 a2 : Option Addr} {c1 c2 : Nat} (hok : okP p = true) (h1 : PRow w a1 p.bands.length c1 p.bands) (h2 : PRow w a2 p.slots.length c2 p.slots) (s e : Int) (h : Bool) (c u t : Int) (zs ze : Int) (zh : Bool) (n : Int)
    (hz : carry p (s, e, h) u = (zs, ze, zh)) (hn : many p (s, e, h) c u t = n) :
    Calls Try.prog 11 #[plV p a1 a2 c1 c2, .agg #[.int .i64 s, .int .i64 e, .bool h], .int .i64 c, .int .i64 u, .int .i64 t] w fun r w' =>
      r = .returned (.tuple #[.agg #[.int .i64 zs, .int .i64 ze, .bool zh], .int .i64 n]) ∧ Below w.heap.size w w' := by
  have := pnext_any hok h1 h2 s e h c u t
  rw [hz, hn] at this
  exact this
theorem rpnext_l {w : World} (p : Pl) {a1 a2 : Option Addr} {c1 c2 : Nat} (hok : okP p = true) (h1 : PRow w a1 p.bands.length c1 p.bands) (h2 : PRow w a2 p.slots.length c2 p.slots) (s e : Int) (h : Bool) (c u t : Int) (zs ze : Int) (zh : Bool) (n : Int)
    (hz : carry p (s, e, h) u = (zs, ze, zh)) (hn : many p (s, e, h) c u t = n) :
    Calls Try.prog 12 #[plV p a1 a2 c1 c2, .agg #[.int .i64 s, .int .i64 e, .bool h], .int .i64 c, .int .i64 u, .int .i64 t] w fun r w' =>
      r = .returned (.tuple #[.agg #[.int .i64 zs, .int .i64 ze, .bool zh], .int .i64 n]) ∧ Below w.heap.size w w' := by
  have := rpnext_any hok h1 h2 s e h c u t
  rw [hz, hn] at this
  exact this
set_option maxRecDepth 100000 in
set_option maxHeartbeats 3200000 in
theorem policyTells_walk {w : World} {p : Pl} {a1 a2 : Option Addr} {c1 c2 : Nat} (h1 : PRow w a1 p.bands.length c1 p.bands) (h2 : PRow w a2 p.slots.length c2 p.slots) (s e : Int) (h : Bool) (c u t : Int)  :
    Calls Try.prog 3 #[plV p a1 a2 c1 c2, stV s e h, .int .i64 c, .int .i64 u, .int .i64 t] w fun r w' => r = .returned (.bool true) ∧ Below w.heap.size w w' := by
  obtain ⟨x, hx⟩ : ∃ x, x = (w.alloc (.cells #[.int .i64 p.kind, .int .i64 p.target, .slice a1 p.bands.length c1, .int .i64 p.kp, .int .i64 p.ki, .int .i64 p.kd, .int .i64 p.period, .slice a2 p.slots.length c2] 25)).alloc (.cells #[.int .i64 s, .int .i64 e, .bool h] 27) := ⟨_, rfl⟩
  have hB : Below w.heap.size w x := by rw [hx]; exact bel1 (bel1 (Below.refl _ _) _) _
  have HP : Hid (PBx x w.heap.size p a1 a2 c1 c2) := by show PBx _ _ _ _ _ _ _; rw [hx]; exact (PBx.on (heap_alloc_new w (.cells #[.int .i64 p.kind, .int .i64 p.target, .slice a1 p.bands.length c1, .int .i64 p.kp, .int .i64 p.ki, .int .i64 p.kd, .int .i64 p.period, .slice a2 p.slots.length c2] 25)) (bel1 (Below.refl _ _) _))
  have HS : Hid (StAt x (w.heap.size + 1) s e h) := by show StAt _ _ _ _ _; rw [hx]; exact al2 _ _ _
  have H1 := Lib.hid (h1.on hB)
  have H2 := Lib.hid (h2.on hB)
  have HB := Lib.hid hB
  have HX := Lib.hid hx
  clear hB hx h1 h2
  unfold plV stV
  go_enter Try.func3, Try.ntmps3
  go_wp2_with fail
  rw [← HX.out]
  refine (phead_any _).mono ?_
  rintro r w1 ⟨rfl, b⟩
  clear HX
  have HP := Lib.hid (HP.out.on b)
  have HS := Lib.hid (HS.out.on b)
  have H1 := Lib.hid (H1.out.on b)
  have H2 := Lib.hid (H2.out.on b)
  have HB := Lib.hid (bel2 HB.out b)
  clear b
  go_wp2_with (first
    | (refine wpList_load_rowP (by first | rfl | kernel_rfl | (simp [Region.wanted, yielded])) 25 (.tmp 5) (by rfl) w.heap.size (by rfl) 25 _ (0, 0) _ HP.out Try.underlying25 (by rfl) (by kernel_rfl) ?_)
    | fail)
  refine (pright_any H1.out H2.out).mono ?_
  rintro r w2 ⟨rfl, b⟩
  have HP := Lib.hid (HP.out.on b)
  have HS := Lib.hid (HS.out.on b)
  have H1 := Lib.hid (H1.out.on b)
  have H2 := Lib.hid (H2.out.on b)
  have HB := Lib.hid (bel2 HB.out b)
  clear b
  cases hr : okP p
  · clear hr
    go_wp2
    go_ret
    exact ⟨rfl, HB.out⟩
  have HO := Lib.hid hr
  clear hr
  obtain ⟨zs, ze, zh, zq⟩ : ∃ s1 e1 h1, carry p (s, e, h) u = (s1, e1, h1) := ⟨_, _, _, rfl⟩
  obtain ⟨zn, zm⟩ : ∃ n, many p (s, e, h) c u t = n := ⟨_, rfl⟩
  have zq := Lib.hid zq
  have zm := Lib.hid zm
  obtain ⟨cs0, cs1, cs2, _⟩ := StAt.c HS.out (Below.refl _ _)
  go_wp2_with (first
    | (refine wpList_load_rowP (by first | rfl | kernel_rfl | (simp [Region.wanted, yielded])) 25 (.tmp 5) (by rfl) w.heap.size (by rfl) 25 _ (0, 0) _ HP.out Try.underlying25 (by rfl) (by kernel_rfl) ?_)
    | fail)
  refine (pnext_l p HO.out H1.out H2.out s e h (c) (u) (t) zs ze zh zn zq.out zm.out).mono ?_
  rintro r v9 ⟨rfl, b⟩
  clear cs0 cs1 cs2
  have HP := Lib.hid (HP.out.on b)
  have HS := Lib.hid (HS.out.on b)
  have H1 := Lib.hid (H1.out.on b)
  have H2 := Lib.hid (H2.out.on b)
  have HB := Lib.hid (bel2 HB.out b)
  clear b
  go_upto_region 5 with fail
  have b := bel1 (Below.refl v9.heap.size v9) (.cells #[.int .i64 zs, .int .i64 ze, .bool zh] 27)
  have V1 : Hid (StAt (v9.alloc (.cells #[.int .i64 zs, .int .i64 ze, .bool zh] 27)) v9.heap.size zs ze zh) := heap_alloc_new _ _
  obtain ⟨V1g, hg9⟩ : ∃ g, g = v9.heap.size := ⟨_, rfl⟩
  rw [← hg9] at V1 ⊢
  have HP := Lib.hid (HP.out.on b)
  have HS := Lib.hid (HS.out.on b)
  have H1 := Lib.hid (H1.out.on b)
  have H2 := Lib.hid (H2.out.on b)
  have HB := Lib.hid (bel2 HB.out b)
  clear b
  generalize v9.alloc (.cells #[.int .i64 zs, .int .i64 ze, .bool zh] 27) = w9 at *
  clear hg9
  obtain ⟨cs0, cs1, cs2, _⟩ := StAt.c HS.out (Below.refl _ _)
  go_wp2_with (first
    | (refine wpList_load_rowP (by first | rfl | kernel_rfl | (simp [Region.wanted, yielded])) 25 (.tmp 5) (by rfl) w.heap.size (by rfl) 25 _ (0, 0) _ HP.out Try.underlying25 (by rfl) (by kernel_rfl) ?_)
    | fail)
  refine (rpnext_l p HO.out H1.out H2.out s e h (c) (u) (t) zs ze zh zn zq.out zm.out).mono ?_
  rintro r v9 ⟨rfl, b⟩
  clear cs0 cs1 cs2
  have HP := Lib.hid (HP.out.on b)
  have HS := Lib.hid (HS.out.on b)
  have H1 := Lib.hid (H1.out.on b)
  have H2 := Lib.hid (H2.out.on b)
  have V1 := Lib.hid (V1.out.on b)
  have HB := Lib.hid (bel2 HB.out b)
  clear b
  go_upto_region 6 with fail
  have b := bel1 (Below.refl v9.heap.size v9) (.cells #[.int .i64 zs, .int .i64 ze, .bool zh] 27)
  have V2 : Hid (StAt (v9.alloc (.cells #[.int .i64 zs, .int .i64 ze, .bool zh] 27)) v9.heap.size zs ze zh) := heap_alloc_new _ _
  obtain ⟨V2g, hg9⟩ : ∃ g, g = v9.heap.size := ⟨_, rfl⟩
  rw [← hg9] at V2 ⊢
  have HP := Lib.hid (HP.out.on b)
  have HS := Lib.hid (HS.out.on b)
  have H1 := Lib.hid (H1.out.on b)
  have H2 := Lib.hid (H2.out.on b)
  have V1 := Lib.hid (V1.out.on b)
  have HB := Lib.hid (bel2 HB.out b)
  clear b
  generalize v9.alloc (.cells #[.int .i64 zs, .int .i64 ze, .bool zh] 27) = w9 at *
  clear hg9
  refine wp_region_held_drew (S := fun wy => wy.cell? ⟨V1g, 0, none⟩ = some (.int .i64 zs) ∧ wy.cell? ⟨V1g, 1, none⟩ = some (.int .i64 ze) ∧ wy.cell? ⟨V1g, 2, none⟩ = some (.bool zh) ∧ wy.cell? ⟨V2g, 0, none⟩ = some (.int .i64 zs) ∧ wy.cell? ⟨V2g, 1, none⟩ = some (.int .i64 ze) ∧ wy.cell? ⟨V2g, 2, none⟩ = some (.bool zh) ∧ PBx wy w.heap.size p a1 a2 c1 c2) (by kernel_rfl) (⟨(StAt.c V1.out (Below.drew (Below.refl _ _))).1, (StAt.c V1.out (Below.drew (Below.refl _ _))).2.1, (StAt.c V1.out (Below.drew (Below.refl _ _))).2.2.1, (StAt.c V2.out (Below.drew (Below.refl _ _))).1, (StAt.c V2.out (Below.drew (Below.refl _ _))).2.1, (StAt.c V2.out (Below.drew (Below.refl _ _))).2.2.1, HP.out.on (Below.drew (Below.refl _ _))⟩) (fun hHeld => ?_)
  have hB0 : Below w9.heap.size w9 w9.drew := Below.drew (Below.refl _ _)
  refine wpAnyH_take (i := 0) (v := ?_) rfl (by kernel_rfl) (by kernel_rfl) (by kernel_rfl) (fun _ _ _ h => h) (Or.inl ⟨by rfl, ?_⟩) (by assumption) ?_
  rotate_left
  · intro w hSw
    (try dsimp only at hSw)
    go_simp
    all_goals with_reducible rfl
  try simp only [Act.put, List.getElem_toArray, List.getElem_cons_succ, List.getElem_cons_zero, List.setIfInBounds_toArray, List.set_cons_zero, List.set_cons_succ]
  refine wpAnyH_take (i := 1) (v := ?_) rfl (by kernel_rfl) (by kernel_rfl) (by kernel_rfl) (fun _ _ _ h => h) (Or.inl ⟨by rfl, ?_⟩) (by assumption) ?_
  rotate_left
  · intro w hSw
    (try dsimp only at hSw)
    go_simp
    all_goals with_reducible rfl
  try simp only [Act.put, List.getElem_toArray, List.getElem_cons_succ, List.getElem_cons_zero, List.setIfInBounds_toArray, List.set_cons_zero, List.set_cons_succ]
  refine wpAnyH_take (i := 2) (v := ?_) rfl (by kernel_rfl) (by kernel_rfl) (by kernel_rfl) (fun _ _ _ h => h) (Or.inl ⟨by rfl, ?_⟩) (by assumption) ?_
  rotate_left
  · intro w hSw
    (try dsimp only at hSw)
    go_simp
    all_goals with_reducible rfl
  try simp only [Act.put, List.getElem_toArray, List.getElem_cons_succ, List.getElem_cons_zero, List.setIfInBounds_toArray, List.set_cons_zero, List.set_cons_succ]
  refine wpAnyH_take (i := 3) (v := ?_) rfl (by kernel_rfl) (by kernel_rfl) (by kernel_rfl) (fun _ _ _ h => h) (Or.inl ⟨by rfl, ?_⟩) (by assumption) ?_
  rotate_left
  · intro w hSw
    (try dsimp only at hSw)
    go_simp
    all_goals with_reducible rfl
  try simp only [Act.put, List.getElem_toArray, List.getElem_cons_succ, List.getElem_cons_zero, List.setIfInBounds_toArray, List.set_cons_zero, List.set_cons_succ]
  refine wpAnyH_take (i := 4) (v := ?_) rfl (by kernel_rfl) (by kernel_rfl) (by kernel_rfl) (fun _ _ _ h => h) (Or.inl ⟨by rfl, ?_⟩) (by assumption) ?_
  rotate_left
  · intro w hSw
    (try dsimp only at hSw)
    go_simp
    all_goals with_reducible rfl
  try simp only [Act.put, List.getElem_toArray, List.getElem_cons_succ, List.getElem_cons_zero, List.setIfInBounds_toArray, List.set_cons_zero, List.set_cons_succ]
  refine wpAnyH_take (i := 5) (v := ?_) rfl (by kernel_rfl) (by kernel_rfl) (by kernel_rfl) (fun _ _ _ h => h) (Or.inl ⟨by rfl, ?_⟩) (by assumption) ?_
  rotate_left
  · intro w hSw
    (try dsimp only at hSw)
    go_simp
    all_goals with_reducible rfl
  try simp only [Act.put, List.getElem_toArray, List.getElem_cons_succ, List.getElem_cons_zero, List.setIfInBounds_toArray, List.set_cons_zero, List.set_cons_succ]
  refine wpAnyH_take (i := 6) (v := ?_) rfl (by kernel_rfl) (by kernel_rfl) (by kernel_rfl) (fun _ _ _ h => h) (Or.inl ⟨by rfl, ?_⟩) (by assumption) ?_
  rotate_left
  · intro w hSw
    (try dsimp only at hSw)
    go_simp
    all_goals with_reducible rfl
  try simp only [Act.put, List.getElem_toArray, List.getElem_cons_succ, List.getElem_cons_zero, List.setIfInBounds_toArray, List.set_cons_zero, List.set_cons_succ]
  refine wpAnyH_take (i := 7) (v := ?_) rfl (by kernel_rfl) (by kernel_rfl) (by kernel_rfl) (fun _ _ _ h => h) (Or.inl ⟨by rfl, ?_⟩) (by assumption) ?_
  rotate_left
  · intro w hSw
    (try dsimp only at hSw)
    go_simp
    all_goals with_reducible rfl
  try simp only [Act.put, List.getElem_toArray, List.getElem_cons_succ, List.getElem_cons_zero, List.setIfInBounds_toArray, List.set_cons_zero, List.set_cons_succ]
  refine wpAnyH_take (i := 8) (v := ?_) rfl (by kernel_rfl) (by kernel_rfl) (by kernel_rfl) (fun _ _ _ h => h) (Or.inl ⟨by rfl, ?_⟩) (by assumption) ?_
  rotate_left
  · intro w hSw
    (try dsimp only at hSw)
    go_simp
    all_goals with_reducible rfl
  try simp only [Act.put, List.getElem_toArray, List.getElem_cons_succ, List.getElem_cons_zero, List.setIfInBounds_toArray, List.set_cons_zero, List.set_cons_succ]
  refine wpAnyH_take (i := 9) (v := ?_) rfl (by kernel_rfl) (by kernel_rfl) (by kernel_rfl) (fun _ _ _ h => h) (Or.inl ⟨by rfl, ?_⟩) (by assumption) ?_
  rotate_left
  · intro w hSw
    (try dsimp only at hSw)
    go_simp
    all_goals with_reducible rfl
  try simp only [Act.put, List.getElem_toArray, List.getElem_cons_succ, List.getElem_cons_zero, List.setIfInBounds_toArray, List.set_cons_zero, List.set_cons_succ]
  refine wpAnyH_take (i := 10) (v := ?_) rfl (by kernel_rfl) (by kernel_rfl) (by kernel_rfl) (fun _ _ _ h => h) (Or.inl ⟨by rfl, ?_⟩) (by assumption) ?_
  rotate_left
  · intro w hSw
    (try dsimp only at hSw)
    go_simp
    all_goals with_reducible rfl
  try simp only [Act.put, List.getElem_toArray, List.getElem_cons_succ, List.getElem_cons_zero, List.setIfInBounds_toArray, List.set_cons_zero, List.set_cons_succ]
  refine wpAnyH_take (i := 11) (v := ?_) rfl (by kernel_rfl) (by kernel_rfl) (by kernel_rfl) (fun _ _ _ h => h) (Or.inl ⟨by rfl, ?_⟩) (by assumption) ?_
  rotate_left
  · intro w hSw
    (try dsimp only at hSw)
    go_simp
    all_goals with_reducible rfl
  try simp only [Act.put, List.getElem_toArray, List.getElem_cons_succ, List.getElem_cons_zero, List.setIfInBounds_toArray, List.set_cons_zero, List.set_cons_succ]
  refine wpAnyH_take (i := 12) (v := .agg #[.int .i64 p.kind, .int .i64 p.target, .slice a1 p.bands.length c1, .int .i64 p.kp, .int .i64 p.ki, .int .i64 p.kd, .int .i64 p.period, .slice a2 p.slots.length c2]) rfl (by kernel_rfl) (by kernel_rfl) (by kernel_rfl) (fun _ _ _ h => h) (Or.inl ⟨by rfl, fun wz hS => exec_row 25 (.tmp 5) rfl w.heap.size rfl 25 _ (0, 0) _ (hS.2.2.2.2.2.2) Try.underlying25 rfl (by kernel_rfl)⟩) (by assumption) ?_
  try simp only [Act.put, List.getElem_toArray, List.getElem_cons_succ, List.getElem_cons_zero, List.setIfInBounds_toArray, List.set_cons_zero, List.set_cons_succ]
  refine wpAnyH_take (i := 14) (v := .agg #[.int .i64 p.kind, .int .i64 p.target, .slice a1 p.bands.length c1, .int .i64 p.kp, .int .i64 p.ki, .int .i64 p.kd, .int .i64 p.period, .slice a2 p.slots.length c2]) rfl (by kernel_rfl) (by kernel_rfl) (by kernel_rfl) (fun _ _ _ h => h) (Or.inl ⟨by rfl, fun wz hS => exec_row 25 (.tmp 5) rfl w.heap.size rfl 25 _ (0, 0) _ (hS.2.2.2.2.2.2) Try.underlying25 rfl (by kernel_rfl)⟩) (by assumption) ?_
  try simp only [Act.put, List.getElem_toArray, List.getElem_cons_succ, List.getElem_cons_zero, List.setIfInBounds_toArray, List.set_cons_zero, List.set_cons_succ]
  refine wpAnyH_ready (rs := [13]) (by kernel_rfl) (by simp) ?_
  refine AllReadyH.cons rfl (fun K hK => ?_) AllReadyH.nil
  rw [if_pos (by rfl)]
  go_simp
  go_at_call 13
  refine (pzero_any p a1 a2 c1 c2 _).mono ?_
  rintro r wq ⟨rfl, b⟩
  have hB1 := bel2 hB0 b
  clear b hB0
  refine hK.out _ _ ?_ (fun hHeld => ?_)
  · exact ⟨(StAt.c V1.out hB1).1, (StAt.c V1.out hB1).2.1, (StAt.c V1.out hB1).2.2.1, (StAt.c V2.out hB1).1, (StAt.c V2.out hB1).2.1, (StAt.c V2.out hB1).2.2.1, HP.out.on hB1⟩
  clear hK K
  try simp only [Act.put, List.getElem_toArray, List.getElem_cons_succ, List.getElem_cons_zero, List.setIfInBounds_toArray, List.set_cons_zero, List.set_cons_succ]
  refine wpAnyH_ready (rs := [15]) (by kernel_rfl) (by simp) ?_
  refine AllReadyH.cons rfl (fun K hK => ?_) AllReadyH.nil
  rw [if_pos (by rfl)]
  go_simp
  go_at_call 14
  refine (rpzero_any p a1 a2 c1 c2 _).mono ?_
  rintro r wr ⟨rfl, b⟩
  have hB2 := bel2 hB1 b
  clear b hB1
  refine hK.out _ _ ?_ (fun hHeld => ?_)
  · exact ⟨(StAt.c V1.out hB2).1, (StAt.c V1.out hB2).2.1, (StAt.c V1.out hB2).2.2.1, (StAt.c V2.out hB2).1, (StAt.c V2.out hB2).2.1, (StAt.c V2.out hB2).2.2.1, HP.out.on hB2⟩
  clear hK K
  try simp only [Act.put, List.getElem_toArray, List.getElem_cons_succ, List.getElem_cons_zero, List.setIfInBounds_toArray, List.set_cons_zero, List.set_cons_succ]
  generalize decide (p.kind = 0) = q0 at *
  refine wpAnyH_take (i := 16) (v := ?_) rfl (by kernel_rfl) (by kernel_rfl) (by kernel_rfl) (fun _ _ _ h => h) (Or.inl ⟨by rfl, ?_⟩) (by assumption) ?_
  rotate_left
  · intro w hSw
    (try dsimp only at hSw)
    go_simp
    all_goals with_reducible rfl
  try simp only [Act.put, List.getElem_toArray, List.getElem_cons_succ, List.getElem_cons_zero, List.setIfInBounds_toArray, List.set_cons_zero, List.set_cons_succ]
  refine wpAnyH_take (i := 17) (v := ?_) rfl (by kernel_rfl) (by kernel_rfl) (by kernel_rfl) (fun _ _ _ h => h) (Or.inl ⟨by rfl, ?_⟩) (by assumption) ?_
  rotate_left
  · intro w hSw
    (try dsimp only at hSw)
    go_simp
    all_goals with_reducible rfl
  try simp only [Act.put, List.getElem_toArray, List.getElem_cons_succ, List.getElem_cons_zero, List.setIfInBounds_toArray, List.set_cons_zero, List.set_cons_succ]
  refine wpAnyH_take (i := 18) (v := ?_) rfl (by kernel_rfl) (by kernel_rfl) (by kernel_rfl) (fun _ _ _ h => h) (Or.inl ⟨by rfl, ?_⟩) (by assumption) ?_
  rotate_left
  · intro w hSw
    (try dsimp only at hSw)
    go_simp
    all_goals with_reducible rfl
  try simp only [Act.put, List.getElem_toArray, List.getElem_cons_succ, List.getElem_cons_zero, List.setIfInBounds_toArray, List.set_cons_zero, List.set_cons_succ]
  refine wpAnyH_done (by kernel_rfl) ?_ _
  go_wp2
  go_ret
  exact ⟨rfl, bel2 HB.out hB2⟩
end Go.Proofs.Ytpgjjdpblilljaa
