/- PlantLess: the walk. -/
import Derived.Test.YtcfehddnccdejaaQlI
import Derived.Test.YtcfehddnccdejaaQlJ
import Derived.Deep.RegionHeld
import Derived.Deep.CutRange
import Derived.Lib.MinMax
namespace Go.Proofs.Ytcfehddnccdejaa
set_option linter.unusedSimpArgs false
set_option linter.unusedVariables false
open Go.RowKit
open Wir Evn Lim Plt
attribute [local go_sem] Oper.semAt_some

theorem pall_n {w : World} {r t u : Int} {l : List Int} {a : Option Addr} {k n : Nat} (hn : NOk ⟨r, l, t, u⟩) (h : SRw w a k l) (hl : l.length = n) :
    Calls Try.prog 15 #[.agg #[.int .i64 r, .slice a n k, .int .i64 t, .int .i64 u]] w fun e w' => e = .returned (.int .i64 (all ⟨r, l, t, u⟩)) ∧ Below w.heap.size w w' := by
  subst hl
  exact pall_any (p := ⟨r, l, t, u⟩) hn h
set_option maxRecDepth 100000 in
set_option maxHeartbeats 3200000 in
theorem plantLess_walk (c : Cf) (p : Pt) (a : Option Addr) (k : Nat) (f : Int) (f1 : 0 ≤ f) (f2 : f ≤ 255) (w : World) (hr : SRw w a k p.start) :
    Calls Try.prog 7 #[cfV c, ptV p a k, .int .u8 f] w fun r w' => r = .returned (.bool true) ∧ Below w.heap.size w w' := by
  obtain ⟨hB, hP, hX⟩ := boxes w c p a k hr
  obtain ⟨x, hx⟩ : ∃ x, x = (w.alloc (.cells #[.int .i64 c.min, .int .i64 c.max, .int .i64 c.rate, .int .i64 c.stable, .int .i64 c.cap, .int .i64 c.delay, .int .i64 c.slack, .int .i64 c.window, .int .i64 c.margin, .int .i64 c.ceil, .int .i64 c.probe, .int .i64 c.breach] 23)).alloc (.cells #[.int .i64 p.ready, .slice a p.start.length k, .int .i64 p.wait, .int .i64 p.util] 26) := ⟨_, rfl⟩
  rw [← hx] at hB hP hX
  have HB := Lib.hid hB
  have HP := Lib.hid hP
  have X0 := Lib.hid hX
  have HX := Lib.hid hx
  clear hB hP hX hx hr
  unfold cfV ptV
  go_enter Try.func7, Try.ntmps7
  go_wp2_with fail
  rw [← HX.out]
  refine (qhead_any _).mono ?_
  rintro r w1 ⟨rfl, b⟩
  clear HX
  have HP := Lib.hid (HP.out.on b)
  have X0 := Lib.hid (X0.out.on b)
  have HB := Lib.hid (bel2 HB.out b)
  clear b
  go_wp2_with (first
    | (refine wpList_load_rowG (by first | rfl | kernel_rfl | (simp [Region.wanted, yielded])) 23 (.tmp 3) (by rfl) (w.heap.size) (by rfl) 23 _ (0, 0) _ HP.out Try.underlying23 (by rfl) (by kernel_rfl) ?_)
    | fail)
  refine (dconf_any c _).mono ?_
  rintro r w2 ⟨rfl, b⟩
  have HP := Lib.hid (HP.out.on b)
  have X0 := Lib.hid (X0.out.on b)
  have HB := Lib.hid (bel2 HB.out b)
  clear b
  cases hc9 : confR c
  · clear hc9
    go_wp2
    go_ret
    exact ⟨rfl, HB.out⟩
  have HC := Lib.hid hc9
  clear hc9
  have q0 : w2.cell? ⟨w.heap.size + 1, 0, none⟩ = some (.int .i64 p.ready) := (PtAt.c X0.out.at_).1
  have q1 : w2.cell? ⟨w.heap.size + 1, 1, none⟩ = some (.slice a p.start.length k) := (PtAt.c X0.out.at_).2.1
  have q2 : w2.cell? ⟨w.heap.size + 1, 2, none⟩ = some (.int .i64 p.wait) := (PtAt.c X0.out.at_).2.2.1
  have q3 : w2.cell? ⟨w.heap.size + 1, 3, none⟩ = some (.int .i64 p.util) := (PtAt.c X0.out.at_).2.2.2
  by_cases h8 : 8 < p.start.length
  · have h8' : (8 : Int) < (p.start.length : Int) := by omega
    go_wp2
    go_ret
    exact ⟨rfl, HB.out⟩
  have h8' : decide ((8 : Int) < (p.start.length : Int)) = false := decide_eq_false (by omega)
  clear h8
  go_wp2_with fail
  refine (rtright_any X0.out.row).mono ?_
  rintro r w3 ⟨rfl, b⟩
  have HP := Lib.hid (HP.out.on b)
  have X0 := Lib.hid (X0.out.on b)
  have HB := Lib.hid (bel2 HB.out b)
  clear b
  clear q0 q1 q2 q3
  cases hk9 : okT p
  · clear hk9
    go_wp2
    go_ret
    exact ⟨rfl, HB.out⟩
  have HK := Lib.hid hk9
  clear hk9 h8'
  have wf : IntKind.i64.wrap f = f := by rw [IntKind.wrap_i64]; omega
  have HN := Lib.hid (TOk.n (TOk.of HK.out))
  have ha1 : 0 ≤ all p ∧ all p ≤ 1000 := ⟨by unfold all; have := sm_nn (fun y hy => ((TOk.of HK.out).nums y hy).1); have := (TOk.of HK.out).r1; omega, (TOk.of HK.out).all_⟩
  have e1 : IntKind.i64.wrap (all p - f) = all p - f := by rw [IntKind.wrap_i64]; omega
  obtain ⟨K, hK⟩ : ∃ K, max (all p - f) 0 = K := ⟨_, rfl⟩
  have GK := Lib.hid hK
  clear hK ha1
  obtain ⟨r1, l1, t1, u1, hP1⟩ : ∃ pr l pw pu, Plt.step c p (all p) 0 = ⟨pr, l, pw, pu⟩ := ⟨_, _, _, _, rfl⟩
  obtain ⟨mc1, mb1, hM1⟩ : ∃ mc mb, Plt.mark c p (all p) 0 = (mc, mb) := ⟨_, _, rfl⟩
  have HP1 := Lib.hid hP1
  have HM1 := Lib.hid hM1
  clear hP1 hM1
  obtain ⟨r2, l2, t2, u2, hP2⟩ : ∃ pr l pw pu, Plt.step c p K 0 = ⟨pr, l, pw, pu⟩ := ⟨_, _, _, _, rfl⟩
  obtain ⟨mc2, mb2, hM2⟩ : ∃ mc mb, Plt.mark c p K 0 = (mc, mb) := ⟨_, _, rfl⟩
  have HP2 := Lib.hid hP2
  have HM2 := Lib.hid hM2
  clear hP2 hM2
  have h22 : Plt.step c p (max (all p - f) 0) 0 = ⟨r2, l2, t2, u2⟩ := by rw [GK.out]; exact HP2.out
  obtain ⟨q1, q2, q3, q4, q5⟩ := less_facts (CQ.of HC.out) (TOk.of HK.out) f1 HP1.out h22
  clear h22
  rw [GK.out] at q5
  have G1 := Lib.hid q1
  have G2 := Lib.hid q2
  have G3 := Lib.hid q3
  have G4 := Lib.hid q4
  have G5 := Lib.hid q5
  clear q1 q2 q3 q4 q5
  have q0 : w3.cell? ⟨w.heap.size + 1, 0, none⟩ = some (.int .i64 p.ready) := (PtAt.c X0.out.at_).1
  have q1 : w3.cell? ⟨w.heap.size + 1, 1, none⟩ = some (.slice a p.start.length k) := (PtAt.c X0.out.at_).2.1
  have q2 : w3.cell? ⟨w.heap.size + 1, 2, none⟩ = some (.int .i64 p.wait) := (PtAt.c X0.out.at_).2.2.1
  have q3 : w3.cell? ⟨w.heap.size + 1, 3, none⟩ = some (.int .i64 p.util) := (PtAt.c X0.out.at_).2.2.2
  go_wp2_with fail
  refine (pall_any HN.out X0.out.row).mono ?_
  rintro r w4 ⟨rfl, b⟩
  have HP := Lib.hid (HP.out.on b)
  have X0 := Lib.hid (X0.out.on b)
  have HB := Lib.hid (bel2 HB.out b)
  clear b
  clear q0 q1 q2 q3
  have q0 : w4.cell? ⟨w.heap.size + 1, 0, none⟩ = some (.int .i64 p.ready) := (PtAt.c X0.out.at_).1
  have q1 : w4.cell? ⟨w.heap.size + 1, 1, none⟩ = some (.slice a p.start.length k) := (PtAt.c X0.out.at_).2.1
  have q2 : w4.cell? ⟨w.heap.size + 1, 2, none⟩ = some (.int .i64 p.wait) := (PtAt.c X0.out.at_).2.2.1
  have q3 : w4.cell? ⟨w.heap.size + 1, 3, none⟩ = some (.int .i64 p.util) := (PtAt.c X0.out.at_).2.2.2
  go_wp2_with (first
    | (refine wpList_load_rowG (by first | rfl | kernel_rfl | (simp [Region.wanted, yielded])) 23 (.tmp 3) (by rfl) (w.heap.size) (by rfl) 23 _ (0, 0) _ HP.out Try.underlying23 (by rfl) (by kernel_rfl) ?_)
    | fail)
  refine (pstep_l p HK.out X0.out.row HC.out (all p) 0 r1 l1 t1 u1 mc1 mb1 l1.length HP1.out HM1.out rfl).mono ?_
  rintro r v1 ⟨a1, k1, rfl, hs2, ho2, b⟩
  have HO1 := Lib.hid ho2
  clear ho2
  have HP := Lib.hid (HP.out.on b)
  have X0 := Lib.hid (X0.out.on b)
  have HB := Lib.hid (bel2 HB.out b)
  clear b
  go_upto_region 6 with fail
  obtain ⟨b, hX, hM⟩ := two_new v1 r1 l1 t1 u1 a1 k1 mc1 mb1 l1.length rfl hs2
  generalize hw9 : (v1.alloc (.cells #[.int .i64 r1, .slice a1 l1.length k1, .int .i64 t1, .int .i64 u1] 26)).alloc (.cells #[.int .i64 mc1, .bool mb1] 31) = x1 at *
  have HP := Lib.hid (HP.out.on b)
  have X0 := Lib.hid (X0.out.on b)
  have HB := Lib.hid (bel2 HB.out b)
  clear b
  have X1 := Lib.hid hX
  have M1 := Lib.hid hM
  clear hX hM hs2 hw9
  clear q0 q1 q2 q3
  have hK := GK.out
  go_upto_region 7 with fail
  clear hK
  have q0 : x1.cell? ⟨w.heap.size + 1, 0, none⟩ = some (.int .i64 p.ready) := (PtAt.c X0.out.at_).1
  have q1 : x1.cell? ⟨w.heap.size + 1, 1, none⟩ = some (.slice a p.start.length k) := (PtAt.c X0.out.at_).2.1
  have q2 : x1.cell? ⟨w.heap.size + 1, 2, none⟩ = some (.int .i64 p.wait) := (PtAt.c X0.out.at_).2.2.1
  have q3 : x1.cell? ⟨w.heap.size + 1, 3, none⟩ = some (.int .i64 p.util) := (PtAt.c X0.out.at_).2.2.2
  go_wp2_with (first
    | (refine wpList_load_rowG (by first | rfl | kernel_rfl | (simp [Region.wanted, yielded])) 23 (.tmp 3) (by rfl) (w.heap.size) (by rfl) 23 _ (0, 0) _ HP.out Try.underlying23 (by rfl) (by kernel_rfl) ?_)
    | fail)
  refine (pstep_l p HK.out X0.out.row HC.out K 0 r2 l2 t2 u2 mc2 mb2 l2.length HP2.out HM2.out rfl).mono ?_
  rintro r v2 ⟨a2, k2, rfl, hs2, ho2, b⟩
  have HO2 := Lib.hid ho2
  clear ho2
  have HP := Lib.hid (HP.out.on b)
  have X0 := Lib.hid (X0.out.on b)
  have X1 := Lib.hid (X1.out.on b)
  have HB := Lib.hid (bel2 HB.out b)
  clear b
  go_upto_region 8 with fail
  obtain ⟨b, hX, hM⟩ := two_new v2 r2 l2 t2 u2 a2 k2 mc2 mb2 l2.length rfl hs2
  generalize hw9 : (v2.alloc (.cells #[.int .i64 r2, .slice a2 l2.length k2, .int .i64 t2, .int .i64 u2] 26)).alloc (.cells #[.int .i64 mc2, .bool mb2] 31) = x2 at *
  have HP := Lib.hid (HP.out.on b)
  have X0 := Lib.hid (X0.out.on b)
  have X1 := Lib.hid (X1.out.on b)
  have HB := Lib.hid (bel2 HB.out b)
  clear b
  have X2 := Lib.hid hX
  have M2 := Lib.hid hM
  clear hX hM hs2 hw9
  clear q0 q1 q2 q3
  obtain ⟨n1, hn1⟩ : ∃ n, l1.length = n := ⟨_, rfl⟩
  obtain ⟨n2, hn2⟩ : ∃ n, l2.length = n := ⟨_, rfl⟩
  have HN1 := Lib.hid hn1
  have HN2 := Lib.hid hn2
  clear hn1 hn2
  clear wf e1
  have g1 : decide (r1 < r2) = false := decide_eq_false (by have := G1.out; omega)
  have g3 : decide ((n1 : Int) < (n2 : Int)) = false := decide_eq_false (by have := G3.out.1; have := HN1.out; have := HN2.out; omega)
  have q0 : x2.cell? ⟨v1.heap.size, 0, none⟩ = some (.int .i64 r1) := (PtAt.c X1.out.at_).1
  have q1 : x2.cell? ⟨v1.heap.size, 1, none⟩ = some (.slice a1 n1 k1) := by have := (PtAt.c X1.out.at_).2.1; simp only at this; rw [HN1.out] at this; exact this
  have q2 : x2.cell? ⟨v1.heap.size, 2, none⟩ = some (.int .i64 t1) := (PtAt.c X1.out.at_).2.2.1
  have q3 : x2.cell? ⟨v1.heap.size, 3, none⟩ = some (.int .i64 u1) := (PtAt.c X1.out.at_).2.2.2
  have s0 : x2.cell? ⟨v2.heap.size, 0, none⟩ = some (.int .i64 r2) := (PtAt.c X2.out.at_).1
  have s1 : x2.cell? ⟨v2.heap.size, 1, none⟩ = some (.slice a2 n2 k2) := by have := (PtAt.c X2.out.at_).2.1; simp only at this; rw [HN2.out] at this; exact this
  have s2 : x2.cell? ⟨v2.heap.size, 2, none⟩ = some (.int .i64 t2) := (PtAt.c X2.out.at_).2.2.1
  have s3 : x2.cell? ⟨v2.heap.size, 3, none⟩ = some (.int .i64 u2) := (PtAt.c X2.out.at_).2.2.2
  have ok1 := step_ok (CQ.of HC.out) (TOk.of HK.out) (all p) 0
  rw [HP1.out] at ok1
  have ok2 := step_ok (CQ.of HC.out) (TOk.of HK.out) K 0
  rw [HP2.out] at ok2
  have OK1 := Lib.hid ok1
  have OK2 := Lib.hid ok2
  clear ok1 ok2
  have h21 : n2 ≤ n1 := by have := G3.out.1; have := HN1.out; have := HN2.out; omega
  go_upto_region 8 with fail
  go_cut [78] from 52 to 77 (fun v wx => v = .bool false ∧ wx = x2)
  case first =>
    by_cases hr : r2 < r1
    · have g2 : decide (r2 < r1) = true := decide_eq_true hr
      have e0 : n2 = 0 := by rw [← HN2.out, G2.out hr]; rfl
      clear hr
      go_wp2_with fail
      go_meet
      case rel => exact ⟨by first | rfl | exact congrArg Value.bool (decide_eq_false (by omega)), rfl⟩
    · have g2 : decide (r2 < r1) = false := decide_eq_false hr
      clear hr
      go_wp2_with fail
      go_meet
      case rel => exact ⟨by first | rfl | exact congrArg Value.bool (decide_eq_false (by omega)), rfl⟩
  case rest =>
  obtain ⟨rfl, hw9⟩ := hcut
  obtain rfl := hw9.symm
  clear h21
  go_wp2_with fail
  clear g1 g3
  go_loopw [14] (fun i wx => ∃ j : Nat, j ≤ n2 ∧ i = .int .i64 (j : Int) ∧ PvA wx v1.heap.size ⟨r1, l1, t1, u1⟩ a1 k1 ∧ PvA wx v2.heap.size ⟨r2, l2, t2, u2⟩ a2 k2 ∧ Below w.heap.size w wx) (fun i _ => n2 - (intOf i).toNat)
  case atStart => exact ⟨0, Nat.zero_le _, rfl, X1.out, X2.out, HB.out⟩
  case round =>
    clear X0 X1 X2 HP HB M1 M2
    obtain ⟨j, hj, rfl, hx1, hx2, hb⟩ := hrel
    have X1 := Lib.hid hx1
    have X2 := Lib.hid hx2
    have HB := Lib.hid hb
    clear hx1 hx2 hb
    by_cases hlt : j < n2
    · have hlt' : (j : Int) < (n2 : Int) := by omega
      have hj0 : (0 : Int) ≤ (j : Int) := by omega
      have HLT := Lib.hid hlt
      have hmx := X2.out.row.row.max
      have hle := X2.out.row.row.le
      unfold maxLen at hmx
      simp only at hle
      rw [HN2.out] at hle
      have wj : IntKind.i64.wrap ((j : Int) + 1) = (j : Int) + 1 := by rw [IntKind.wrap_i64]; omega
      clear hmx hle
      have hl2 : j < l2.length := by rw [HN2.out]; exact hlt
      have hl1 : j < l1.length := by have := G3.out.1; omega
      have hl1' : (j : Int) < (n1 : Int) := by rw [HN1.out] at hl1; omega
      obtain ⟨b2, o2, rfl, _, hc2⟩ := X2.out.row.cell hl2
      obtain ⟨b1, o1, rfl, _, hc1⟩ := X1.out.row.cell hl1
      have hd : wr.cell? ⟨v2.heap.size, 1, none⟩ = some (.slice (some ⟨b2, o2, none⟩) n2 k2) := by have := (PtAt.c X2.out.at_).2.1; simp only at this; rw [HN2.out] at this; exact this
      have hc : wr.cell? ⟨v1.heap.size, 1, none⟩ = some (.slice (some ⟨b1, o1, none⟩) n1 k1) := by have := (PtAt.c X1.out.at_).2.1; simp only at this; rw [HN1.out] at this; exact this
      have C1 := Lib.hid hc
      have D1 := Lib.hid hd
      have C2 := Lib.hid hc2
      have CC := Lib.hid hc1
      obtain ⟨f1, f2⟩ := G3.out.2 j hl2
      simp only at C2 CC
      obtain ⟨y, hy⟩ : ∃ y, l2.getD j 0 = y := ⟨_, rfl⟩
      obtain ⟨z, hz⟩ : ∃ z, l1.getD j 0 = z := ⟨_, rfl⟩
      rw [hy] at C2 f1 f2
      rw [hz] at CC f1 f2
      rw [HN2.out] at f2
      clear hc hd hc1 hc2 hlt hl1 hl2 hy hz
      have g1 : decide (z < y) = false := decide_eq_false (by omega)
      have F2 := Lib.hid f2
      clear f2 f1
      have c1 := C1.out
      have d1 := D1.out
      by_cases hyz : y < z
      · have g2 : decide (y < z) = true := decide_eq_true hyz
        have g4 : decide ((j : Int) + 1 < (n2 : Int)) = false := decide_eq_false (by have := F2.out hyz; omega)
        clear hyz
        go_upto_region 13 with fail
        clear c1 d1
        refine wp_region_held_drew (S := fun wy => wy.cell? ⟨v2.heap.size, 1, none⟩ = some (.slice (some ⟨b2, o2, none⟩) n2 k2) ∧ wy.cell? ⟨v1.heap.size, 1, none⟩ = some (.slice (some ⟨b1, o1, none⟩) n1 k1) ∧ wy.cell? ⟨b2, o2 + j, none⟩ = some (.int .i64 y) ∧ wy.cell? ⟨b1, o1 + j, none⟩ = some (.int .i64 z)) (by kernel_rfl) ⟨D1.out, C1.out, C2.out, CC.out⟩ (fun hHeld => ?_)
        refine wpAnyH_take (i := 0) (v := ?_) rfl (by kernel_rfl) (by kernel_rfl) (by kernel_rfl) (fun _ _ _ h => h) (Or.inl ⟨by rfl, ?_⟩) (by assumption) ?_
        rotate_left
        · intro w hSw
          (try dsimp only at hSw)
          go_simp
          all_goals with_reducible rfl
        try simp only [Act.put, List.getElem_toArray, List.getElem_cons_succ, List.getElem_cons_zero, List.setIfInBounds_toArray, List.set_cons_zero, List.set_cons_succ]
        refine wpAnyH_take (i := 1) (v := ?_) rfl (by kernel_rfl) (by kernel_rfl) (by kernel_rfl) (fun _ _ _ h => h) (Or.inl ⟨by rfl, ?_⟩) (by assumption) ?_
        rotate_left
        · intro w hSw
          (try dsimp only at hSw)
          go_simp
          all_goals with_reducible rfl
        try simp only [Act.put, List.getElem_toArray, List.getElem_cons_succ, List.getElem_cons_zero, List.setIfInBounds_toArray, List.set_cons_zero, List.set_cons_succ]
        refine wpAnyH_take (i := 2) (v := ?_) rfl (by kernel_rfl) (by kernel_rfl) (by kernel_rfl) (fun _ _ _ h => h) (Or.inl ⟨by rfl, ?_⟩) (by assumption) ?_
        rotate_left
        · intro w hSw
          (try dsimp only at hSw)
          go_simp
          all_goals with_reducible rfl
        try simp only [Act.put, List.getElem_toArray, List.getElem_cons_succ, List.getElem_cons_zero, List.setIfInBounds_toArray, List.set_cons_zero, List.set_cons_succ]
        refine wpAnyH_take (i := 3) (v := ?_) rfl (by kernel_rfl) (by kernel_rfl) (by kernel_rfl) (fun _ _ _ h => h) (Or.inl ⟨by rfl, ?_⟩) (by assumption) ?_
        rotate_left
        · intro w hSw
          (try dsimp only at hSw)
          go_simp
          all_goals with_reducible rfl
        try simp only [Act.put, List.getElem_toArray, List.getElem_cons_succ, List.getElem_cons_zero, List.setIfInBounds_toArray, List.set_cons_zero, List.set_cons_succ]
        refine wpAnyH_take (i := 4) (v := ?_) rfl (by kernel_rfl) (by kernel_rfl) (by kernel_rfl) (fun _ _ _ h => h) (Or.inl ⟨by rfl, ?_⟩) (by assumption) ?_
        rotate_left
        · intro w hSw
          (try dsimp only at hSw)
          go_simp
          all_goals with_reducible rfl
        try simp only [Act.put, List.getElem_toArray, List.getElem_cons_succ, List.getElem_cons_zero, List.setIfInBounds_toArray, List.set_cons_zero, List.set_cons_succ]
        refine wpAnyH_take (i := 5) (v := ?_) rfl (by kernel_rfl) (by kernel_rfl) (by kernel_rfl) (fun _ _ _ h => h) (Or.inl ⟨by rfl, ?_⟩) (by assumption) ?_
        rotate_left
        · intro w hSw
          (try dsimp only at hSw)
          go_simp
          all_goals with_reducible rfl
        try simp only [Act.put, List.getElem_toArray, List.getElem_cons_succ, List.getElem_cons_zero, List.setIfInBounds_toArray, List.set_cons_zero, List.set_cons_succ]
        refine wpAnyH_take (i := 6) (v := ?_) rfl (by kernel_rfl) (by kernel_rfl) (by kernel_rfl) (fun _ _ _ h => h) (Or.inl ⟨by rfl, ?_⟩) (by assumption) ?_
        rotate_left
        · intro w hSw
          (try dsimp only at hSw)
          go_simp
          all_goals with_reducible rfl
        try simp only [Act.put, List.getElem_toArray, List.getElem_cons_succ, List.getElem_cons_zero, List.setIfInBounds_toArray, List.set_cons_zero, List.set_cons_succ]
        refine wpAnyH_take (i := 7) (v := ?_) rfl (by kernel_rfl) (by kernel_rfl) (by kernel_rfl) (fun _ _ _ h => h) (Or.inl ⟨by rfl, ?_⟩) (by assumption) ?_
        rotate_left
        · intro w hSw
          (try dsimp only at hSw)
          go_simp
          all_goals with_reducible rfl
        try simp only [Act.put, List.getElem_toArray, List.getElem_cons_succ, List.getElem_cons_zero, List.setIfInBounds_toArray, List.set_cons_zero, List.set_cons_succ]
        refine wpAnyH_take (i := 8) (v := ?_) rfl (by kernel_rfl) (by kernel_rfl) (by kernel_rfl) (fun _ _ _ h => h) (Or.inl ⟨by rfl, ?_⟩) (by assumption) ?_
        rotate_left
        · intro w hSw
          (try dsimp only at hSw)
          go_simp
          all_goals with_reducible rfl
        try simp only [Act.put, List.getElem_toArray, List.getElem_cons_succ, List.getElem_cons_zero, List.setIfInBounds_toArray, List.set_cons_zero, List.set_cons_succ]
        refine wpAnyH_take (i := 9) (v := ?_) rfl (by kernel_rfl) (by kernel_rfl) (by kernel_rfl) (fun _ _ _ h => h) (Or.inl ⟨by rfl, ?_⟩) (by assumption) ?_
        rotate_left
        · intro w hSw
          (try dsimp only at hSw)
          go_simp
          all_goals with_reducible rfl
        try simp only [Act.put, List.getElem_toArray, List.getElem_cons_succ, List.getElem_cons_zero, List.setIfInBounds_toArray, List.set_cons_zero, List.set_cons_succ]
        refine wpAnyH_take (i := 10) (v := ?_) rfl (by kernel_rfl) (by kernel_rfl) (by kernel_rfl) (fun _ _ _ h => h) (Or.inl ⟨by rfl, ?_⟩) (by assumption) ?_
        rotate_left
        · intro w hSw
          (try dsimp only at hSw)
          go_simp
          all_goals with_reducible rfl
        try simp only [Act.put, List.getElem_toArray, List.getElem_cons_succ, List.getElem_cons_zero, List.setIfInBounds_toArray, List.set_cons_zero, List.set_cons_succ]
        refine wpAnyH_take (i := 11) (v := ?_) rfl (by kernel_rfl) (by kernel_rfl) (by kernel_rfl) (fun _ _ _ h => h) (Or.inl ⟨by rfl, ?_⟩) (by assumption) ?_
        rotate_left
        · intro w hSw
          (try dsimp only at hSw)
          go_simp
          all_goals with_reducible rfl
        try simp only [Act.put, List.getElem_toArray, List.getElem_cons_succ, List.getElem_cons_zero, List.setIfInBounds_toArray, List.set_cons_zero, List.set_cons_succ]
        refine wpAnyH_take (i := 12) (v := ?_) rfl (by kernel_rfl) (by kernel_rfl) (by kernel_rfl) (fun _ _ _ h => h) (Or.inl ⟨by rfl, ?_⟩) (by assumption) ?_
        rotate_left
        · intro w hSw
          (try dsimp only at hSw)
          go_simp
          all_goals with_reducible rfl
        try simp only [Act.put, List.getElem_toArray, List.getElem_cons_succ, List.getElem_cons_zero, List.setIfInBounds_toArray, List.set_cons_zero, List.set_cons_succ]
        refine wpAnyH_take (i := 13) (v := ?_) rfl (by kernel_rfl) (by kernel_rfl) (by kernel_rfl) (fun _ _ _ h => h) (Or.inl ⟨by rfl, ?_⟩) (by assumption) ?_
        rotate_left
        · intro w hSw
          (try dsimp only at hSw)
          go_simp
          all_goals with_reducible rfl
        try simp only [Act.put, List.getElem_toArray, List.getElem_cons_succ, List.getElem_cons_zero, List.setIfInBounds_toArray, List.set_cons_zero, List.set_cons_succ]
        refine wpAnyH_take (i := 14) (v := ?_) rfl (by kernel_rfl) (by kernel_rfl) (by kernel_rfl) (fun _ _ _ h => h) (Or.inl ⟨by rfl, ?_⟩) (by assumption) ?_
        rotate_left
        · intro w hSw
          (try dsimp only at hSw)
          go_simp
          all_goals with_reducible rfl
        try simp only [Act.put, List.getElem_toArray, List.getElem_cons_succ, List.getElem_cons_zero, List.setIfInBounds_toArray, List.set_cons_zero, List.set_cons_succ]
        refine wpAnyH_take (i := 15) (v := ?_) rfl (by kernel_rfl) (by kernel_rfl) (by kernel_rfl) (fun _ _ _ h => h) (Or.inl ⟨by rfl, ?_⟩) (by assumption) ?_
        rotate_left
        · intro w hSw
          (try dsimp only at hSw)
          go_simp
          all_goals with_reducible rfl
        try simp only [Act.put, List.getElem_toArray, List.getElem_cons_succ, List.getElem_cons_zero, List.setIfInBounds_toArray, List.set_cons_zero, List.set_cons_succ]
        refine wpAnyH_take (i := 16) (v := ?_) rfl (by kernel_rfl) (by kernel_rfl) (by kernel_rfl) (fun _ _ _ h => h) (Or.inl ⟨by rfl, ?_⟩) (by assumption) ?_
        rotate_left
        · intro w hSw
          (try dsimp only at hSw)
          go_simp
          all_goals with_reducible rfl
        try simp only [Act.put, List.getElem_toArray, List.getElem_cons_succ, List.getElem_cons_zero, List.setIfInBounds_toArray, List.set_cons_zero, List.set_cons_succ]
        refine wpAnyH_take (i := 17) (v := ?_) rfl (by kernel_rfl) (by kernel_rfl) (by kernel_rfl) (fun _ _ _ h => h) (Or.inl ⟨by rfl, ?_⟩) (by assumption) ?_
        rotate_left
        · intro w hSw
          (try dsimp only at hSw)
          go_simp
          all_goals with_reducible rfl
        try simp only [Act.put, List.getElem_toArray, List.getElem_cons_succ, List.getElem_cons_zero, List.setIfInBounds_toArray, List.set_cons_zero, List.set_cons_succ]
        refine wpAnyH_take (i := 18) (v := ?_) rfl (by kernel_rfl) (by kernel_rfl) (by kernel_rfl) (fun _ _ _ h => h) (Or.inl ⟨by rfl, ?_⟩) (by assumption) ?_
        rotate_left
        · intro w hSw
          (try dsimp only at hSw)
          go_simp
          all_goals with_reducible rfl
        try simp only [Act.put, List.getElem_toArray, List.getElem_cons_succ, List.getElem_cons_zero, List.setIfInBounds_toArray, List.set_cons_zero, List.set_cons_succ]
        refine wpAnyH_take (i := 19) (v := ?_) rfl (by kernel_rfl) (by kernel_rfl) (by kernel_rfl) (fun _ _ _ h => h) (Or.inl ⟨by rfl, ?_⟩) (by assumption) ?_
        rotate_left
        · intro w hSw
          (try dsimp only at hSw)
          go_simp
          all_goals with_reducible rfl
        try simp only [Act.put, List.getElem_toArray, List.getElem_cons_succ, List.getElem_cons_zero, List.setIfInBounds_toArray, List.set_cons_zero, List.set_cons_succ]
        refine wpAnyH_take (i := 20) (v := ?_) rfl (by kernel_rfl) (by kernel_rfl) (by kernel_rfl) (fun _ _ _ h => h) (Or.inl ⟨by rfl, ?_⟩) (by assumption) ?_
        rotate_left
        · intro w hSw
          (try dsimp only at hSw)
          go_simp
          all_goals with_reducible rfl
        try simp only [Act.put, List.getElem_toArray, List.getElem_cons_succ, List.getElem_cons_zero, List.setIfInBounds_toArray, List.set_cons_zero, List.set_cons_succ]
        refine wpAnyH_take (i := 21) (v := ?_) rfl (by kernel_rfl) (by kernel_rfl) (by kernel_rfl) (fun _ _ _ h => h) (Or.inl ⟨by rfl, ?_⟩) (by assumption) ?_
        rotate_left
        · intro w hSw
          (try dsimp only at hSw)
          go_simp
          all_goals with_reducible rfl
        try simp only [Act.put, List.getElem_toArray, List.getElem_cons_succ, List.getElem_cons_zero, List.setIfInBounds_toArray, List.set_cons_zero, List.set_cons_succ]
        refine wpAnyH_take (i := 22) (v := ?_) rfl (by kernel_rfl) (by kernel_rfl) (by kernel_rfl) (fun _ _ _ h => h) (Or.inl ⟨by rfl, ?_⟩) (by assumption) ?_
        rotate_left
        · intro w hSw
          (try dsimp only at hSw)
          go_simp
          all_goals with_reducible rfl
        try simp only [Act.put, List.getElem_toArray, List.getElem_cons_succ, List.getElem_cons_zero, List.setIfInBounds_toArray, List.set_cons_zero, List.set_cons_succ]
        refine wpAnyH_take (i := 23) (v := ?_) rfl (by kernel_rfl) (by kernel_rfl) (by kernel_rfl) (fun _ _ _ h => h) (Or.inl ⟨by rfl, ?_⟩) (by assumption) ?_
        rotate_left
        · intro w hSw
          (try dsimp only at hSw)
          go_simp
          all_goals with_reducible rfl
        try simp only [Act.put, List.getElem_toArray, List.getElem_cons_succ, List.getElem_cons_zero, List.setIfInBounds_toArray, List.set_cons_zero, List.set_cons_succ]
        refine wpAnyH_take (i := 24) (v := ?_) rfl (by kernel_rfl) (by kernel_rfl) (by kernel_rfl) (fun _ _ _ h => h) (Or.inl ⟨by rfl, ?_⟩) (by assumption) ?_
        rotate_left
        · intro w hSw
          (try dsimp only at hSw)
          go_simp
          all_goals with_reducible rfl
        try simp only [Act.put, List.getElem_toArray, List.getElem_cons_succ, List.getElem_cons_zero, List.setIfInBounds_toArray, List.set_cons_zero, List.set_cons_succ]
        refine wpAnyH_take (i := 25) (v := ?_) rfl (by kernel_rfl) (by kernel_rfl) (by kernel_rfl) (fun _ _ _ h => h) (Or.inl ⟨by rfl, ?_⟩) (by assumption) ?_
        rotate_left
        · intro w hSw
          (try dsimp only at hSw)
          go_simp
          all_goals with_reducible rfl
        try simp only [Act.put, List.getElem_toArray, List.getElem_cons_succ, List.getElem_cons_zero, List.setIfInBounds_toArray, List.set_cons_zero, List.set_cons_succ]
        refine wpAnyH_take (i := 26) (v := ?_) rfl (by kernel_rfl) (by kernel_rfl) (by kernel_rfl) (fun _ _ _ h => h) (Or.inl ⟨by rfl, ?_⟩) (by assumption) ?_
        rotate_left
        · intro w hSw
          (try dsimp only at hSw)
          go_simp
          all_goals with_reducible rfl
        try simp only [Act.put, List.getElem_toArray, List.getElem_cons_succ, List.getElem_cons_zero, List.setIfInBounds_toArray, List.set_cons_zero, List.set_cons_succ]
        refine wpAnyH_take (i := 27) (v := ?_) rfl (by kernel_rfl) (by kernel_rfl) (by kernel_rfl) (fun _ _ _ h => h) (Or.inl ⟨by rfl, ?_⟩) (by assumption) ?_
        rotate_left
        · intro w hSw
          (try dsimp only at hSw)
          go_simp
          all_goals with_reducible rfl
        try simp only [Act.put, List.getElem_toArray, List.getElem_cons_succ, List.getElem_cons_zero, List.setIfInBounds_toArray, List.set_cons_zero, List.set_cons_succ]
        refine wpAnyH_take (i := 28) (v := ?_) rfl (by kernel_rfl) (by kernel_rfl) (by kernel_rfl) (fun _ _ _ h => h) (Or.inl ⟨by rfl, ?_⟩) (by assumption) ?_
        rotate_left
        · intro w hSw
          (try dsimp only at hSw)
          go_simp
          all_goals with_reducible rfl
        try simp only [Act.put, List.getElem_toArray, List.getElem_cons_succ, List.getElem_cons_zero, List.setIfInBounds_toArray, List.set_cons_zero, List.set_cons_succ]
        refine wpAnyH_take (i := 29) (v := ?_) rfl (by kernel_rfl) (by kernel_rfl) (by kernel_rfl) (fun _ _ _ h => h) (Or.inl ⟨by rfl, ?_⟩) (by assumption) ?_
        rotate_left
        · intro w hSw
          (try dsimp only at hSw)
          go_simp
          all_goals with_reducible rfl
        try simp only [Act.put, List.getElem_toArray, List.getElem_cons_succ, List.getElem_cons_zero, List.setIfInBounds_toArray, List.set_cons_zero, List.set_cons_succ]
        refine wpAnyH_take (i := 30) (v := ?_) rfl (by kernel_rfl) (by kernel_rfl) (by kernel_rfl) (fun _ _ _ h => h) (Or.inl ⟨by rfl, ?_⟩) (by assumption) ?_
        rotate_left
        · intro w hSw
          (try dsimp only at hSw)
          go_simp
          all_goals with_reducible rfl
        try simp only [Act.put, List.getElem_toArray, List.getElem_cons_succ, List.getElem_cons_zero, List.setIfInBounds_toArray, List.set_cons_zero, List.set_cons_succ]
        refine wpAnyH_take (i := 31) (v := ?_) rfl (by kernel_rfl) (by kernel_rfl) (by kernel_rfl) (fun _ _ _ h => h) (Or.inl ⟨by rfl, ?_⟩) (by assumption) ?_
        rotate_left
        · intro w hSw
          (try dsimp only at hSw)
          go_simp
          all_goals with_reducible rfl
        try simp only [Act.put, List.getElem_toArray, List.getElem_cons_succ, List.getElem_cons_zero, List.setIfInBounds_toArray, List.set_cons_zero, List.set_cons_succ]
        refine wpAnyH_done (by kernel_rfl) ?_ _
        go_wp2_with fail
        go_roundw
        case rel => exact ⟨j + 1, by have := HLT.out; omega, by go_num, X1.out.on (Below.drew (Below.refl _ _)), X2.out.on (Below.drew (Below.refl _ _)), Below.drew HB.out⟩
        case measure => have := HLT.out; simp [intOf]; omega
      · have g2 : decide (y < z) = false := decide_eq_false hyz
        clear hyz
        go_upto_region 13 with fail
        clear c1 d1
        refine wp_region_held_drew (S := fun wy => wy.cell? ⟨v2.heap.size, 1, none⟩ = some (.slice (some ⟨b2, o2, none⟩) n2 k2) ∧ wy.cell? ⟨v1.heap.size, 1, none⟩ = some (.slice (some ⟨b1, o1, none⟩) n1 k1) ∧ wy.cell? ⟨b2, o2 + j, none⟩ = some (.int .i64 y) ∧ wy.cell? ⟨b1, o1 + j, none⟩ = some (.int .i64 z)) (by kernel_rfl) ⟨D1.out, C1.out, C2.out, CC.out⟩ (fun hHeld => ?_)
        refine wpAnyH_take (i := 0) (v := ?_) rfl (by kernel_rfl) (by kernel_rfl) (by kernel_rfl) (fun _ _ _ h => h) (Or.inl ⟨by rfl, ?_⟩) (by assumption) ?_
        rotate_left
        · intro w hSw
          (try dsimp only at hSw)
          go_simp
          all_goals with_reducible rfl
        try simp only [Act.put, List.getElem_toArray, List.getElem_cons_succ, List.getElem_cons_zero, List.setIfInBounds_toArray, List.set_cons_zero, List.set_cons_succ]
        refine wpAnyH_take (i := 1) (v := ?_) rfl (by kernel_rfl) (by kernel_rfl) (by kernel_rfl) (fun _ _ _ h => h) (Or.inl ⟨by rfl, ?_⟩) (by assumption) ?_
        rotate_left
        · intro w hSw
          (try dsimp only at hSw)
          go_simp
          all_goals with_reducible rfl
        try simp only [Act.put, List.getElem_toArray, List.getElem_cons_succ, List.getElem_cons_zero, List.setIfInBounds_toArray, List.set_cons_zero, List.set_cons_succ]
        refine wpAnyH_take (i := 2) (v := ?_) rfl (by kernel_rfl) (by kernel_rfl) (by kernel_rfl) (fun _ _ _ h => h) (Or.inl ⟨by rfl, ?_⟩) (by assumption) ?_
        rotate_left
        · intro w hSw
          (try dsimp only at hSw)
          go_simp
          all_goals with_reducible rfl
        try simp only [Act.put, List.getElem_toArray, List.getElem_cons_succ, List.getElem_cons_zero, List.setIfInBounds_toArray, List.set_cons_zero, List.set_cons_succ]
        refine wpAnyH_take (i := 3) (v := ?_) rfl (by kernel_rfl) (by kernel_rfl) (by kernel_rfl) (fun _ _ _ h => h) (Or.inl ⟨by rfl, ?_⟩) (by assumption) ?_
        rotate_left
        · intro w hSw
          (try dsimp only at hSw)
          go_simp
          all_goals with_reducible rfl
        try simp only [Act.put, List.getElem_toArray, List.getElem_cons_succ, List.getElem_cons_zero, List.setIfInBounds_toArray, List.set_cons_zero, List.set_cons_succ]
        refine wpAnyH_take (i := 4) (v := ?_) rfl (by kernel_rfl) (by kernel_rfl) (by kernel_rfl) (fun _ _ _ h => h) (Or.inl ⟨by rfl, ?_⟩) (by assumption) ?_
        rotate_left
        · intro w hSw
          (try dsimp only at hSw)
          go_simp
          all_goals with_reducible rfl
        try simp only [Act.put, List.getElem_toArray, List.getElem_cons_succ, List.getElem_cons_zero, List.setIfInBounds_toArray, List.set_cons_zero, List.set_cons_succ]
        refine wpAnyH_take (i := 5) (v := ?_) rfl (by kernel_rfl) (by kernel_rfl) (by kernel_rfl) (fun _ _ _ h => h) (Or.inl ⟨by rfl, ?_⟩) (by assumption) ?_
        rotate_left
        · intro w hSw
          (try dsimp only at hSw)
          go_simp
          all_goals with_reducible rfl
        try simp only [Act.put, List.getElem_toArray, List.getElem_cons_succ, List.getElem_cons_zero, List.setIfInBounds_toArray, List.set_cons_zero, List.set_cons_succ]
        refine wpAnyH_take (i := 6) (v := ?_) rfl (by kernel_rfl) (by kernel_rfl) (by kernel_rfl) (fun _ _ _ h => h) (Or.inl ⟨by rfl, ?_⟩) (by assumption) ?_
        rotate_left
        · intro w hSw
          (try dsimp only at hSw)
          go_simp
          all_goals with_reducible rfl
        try simp only [Act.put, List.getElem_toArray, List.getElem_cons_succ, List.getElem_cons_zero, List.setIfInBounds_toArray, List.set_cons_zero, List.set_cons_succ]
        refine wpAnyH_take (i := 7) (v := ?_) rfl (by kernel_rfl) (by kernel_rfl) (by kernel_rfl) (fun _ _ _ h => h) (Or.inl ⟨by rfl, ?_⟩) (by assumption) ?_
        rotate_left
        · intro w hSw
          (try dsimp only at hSw)
          go_simp
          all_goals with_reducible rfl
        try simp only [Act.put, List.getElem_toArray, List.getElem_cons_succ, List.getElem_cons_zero, List.setIfInBounds_toArray, List.set_cons_zero, List.set_cons_succ]
        refine wpAnyH_take (i := 8) (v := ?_) rfl (by kernel_rfl) (by kernel_rfl) (by kernel_rfl) (fun _ _ _ h => h) (Or.inl ⟨by rfl, ?_⟩) (by assumption) ?_
        rotate_left
        · intro w hSw
          (try dsimp only at hSw)
          go_simp
          all_goals with_reducible rfl
        try simp only [Act.put, List.getElem_toArray, List.getElem_cons_succ, List.getElem_cons_zero, List.setIfInBounds_toArray, List.set_cons_zero, List.set_cons_succ]
        refine wpAnyH_take (i := 9) (v := ?_) rfl (by kernel_rfl) (by kernel_rfl) (by kernel_rfl) (fun _ _ _ h => h) (Or.inl ⟨by rfl, ?_⟩) (by assumption) ?_
        rotate_left
        · intro w hSw
          (try dsimp only at hSw)
          go_simp
          all_goals with_reducible rfl
        try simp only [Act.put, List.getElem_toArray, List.getElem_cons_succ, List.getElem_cons_zero, List.setIfInBounds_toArray, List.set_cons_zero, List.set_cons_succ]
        refine wpAnyH_take (i := 10) (v := ?_) rfl (by kernel_rfl) (by kernel_rfl) (by kernel_rfl) (fun _ _ _ h => h) (Or.inl ⟨by rfl, ?_⟩) (by assumption) ?_
        rotate_left
        · intro w hSw
          (try dsimp only at hSw)
          go_simp
          all_goals with_reducible rfl
        try simp only [Act.put, List.getElem_toArray, List.getElem_cons_succ, List.getElem_cons_zero, List.setIfInBounds_toArray, List.set_cons_zero, List.set_cons_succ]
        refine wpAnyH_take (i := 11) (v := ?_) rfl (by kernel_rfl) (by kernel_rfl) (by kernel_rfl) (fun _ _ _ h => h) (Or.inl ⟨by rfl, ?_⟩) (by assumption) ?_
        rotate_left
        · intro w hSw
          (try dsimp only at hSw)
          go_simp
          all_goals with_reducible rfl
        try simp only [Act.put, List.getElem_toArray, List.getElem_cons_succ, List.getElem_cons_zero, List.setIfInBounds_toArray, List.set_cons_zero, List.set_cons_succ]
        refine wpAnyH_take (i := 12) (v := ?_) rfl (by kernel_rfl) (by kernel_rfl) (by kernel_rfl) (fun _ _ _ h => h) (Or.inl ⟨by rfl, ?_⟩) (by assumption) ?_
        rotate_left
        · intro w hSw
          (try dsimp only at hSw)
          go_simp
          all_goals with_reducible rfl
        try simp only [Act.put, List.getElem_toArray, List.getElem_cons_succ, List.getElem_cons_zero, List.setIfInBounds_toArray, List.set_cons_zero, List.set_cons_succ]
        refine wpAnyH_take (i := 13) (v := ?_) rfl (by kernel_rfl) (by kernel_rfl) (by kernel_rfl) (fun _ _ _ h => h) (Or.inl ⟨by rfl, ?_⟩) (by assumption) ?_
        rotate_left
        · intro w hSw
          (try dsimp only at hSw)
          go_simp
          all_goals with_reducible rfl
        try simp only [Act.put, List.getElem_toArray, List.getElem_cons_succ, List.getElem_cons_zero, List.setIfInBounds_toArray, List.set_cons_zero, List.set_cons_succ]
        refine wpAnyH_take (i := 14) (v := ?_) rfl (by kernel_rfl) (by kernel_rfl) (by kernel_rfl) (fun _ _ _ h => h) (Or.inl ⟨by rfl, ?_⟩) (by assumption) ?_
        rotate_left
        · intro w hSw
          (try dsimp only at hSw)
          go_simp
          all_goals with_reducible rfl
        try simp only [Act.put, List.getElem_toArray, List.getElem_cons_succ, List.getElem_cons_zero, List.setIfInBounds_toArray, List.set_cons_zero, List.set_cons_succ]
        refine wpAnyH_take (i := 15) (v := ?_) rfl (by kernel_rfl) (by kernel_rfl) (by kernel_rfl) (fun _ _ _ h => h) (Or.inl ⟨by rfl, ?_⟩) (by assumption) ?_
        rotate_left
        · intro w hSw
          (try dsimp only at hSw)
          go_simp
          all_goals with_reducible rfl
        try simp only [Act.put, List.getElem_toArray, List.getElem_cons_succ, List.getElem_cons_zero, List.setIfInBounds_toArray, List.set_cons_zero, List.set_cons_succ]
        refine wpAnyH_take (i := 16) (v := ?_) rfl (by kernel_rfl) (by kernel_rfl) (by kernel_rfl) (fun _ _ _ h => h) (Or.inl ⟨by rfl, ?_⟩) (by assumption) ?_
        rotate_left
        · intro w hSw
          (try dsimp only at hSw)
          go_simp
          all_goals with_reducible rfl
        try simp only [Act.put, List.getElem_toArray, List.getElem_cons_succ, List.getElem_cons_zero, List.setIfInBounds_toArray, List.set_cons_zero, List.set_cons_succ]
        refine wpAnyH_take (i := 17) (v := ?_) rfl (by kernel_rfl) (by kernel_rfl) (by kernel_rfl) (fun _ _ _ h => h) (Or.inl ⟨by rfl, ?_⟩) (by assumption) ?_
        rotate_left
        · intro w hSw
          (try dsimp only at hSw)
          go_simp
          all_goals with_reducible rfl
        try simp only [Act.put, List.getElem_toArray, List.getElem_cons_succ, List.getElem_cons_zero, List.setIfInBounds_toArray, List.set_cons_zero, List.set_cons_succ]
        refine wpAnyH_take (i := 18) (v := ?_) rfl (by kernel_rfl) (by kernel_rfl) (by kernel_rfl) (fun _ _ _ h => h) (Or.inl ⟨by rfl, ?_⟩) (by assumption) ?_
        rotate_left
        · intro w hSw
          (try dsimp only at hSw)
          go_simp
          all_goals with_reducible rfl
        try simp only [Act.put, List.getElem_toArray, List.getElem_cons_succ, List.getElem_cons_zero, List.setIfInBounds_toArray, List.set_cons_zero, List.set_cons_succ]
        refine wpAnyH_take (i := 19) (v := ?_) rfl (by kernel_rfl) (by kernel_rfl) (by kernel_rfl) (fun _ _ _ h => h) (Or.inl ⟨by rfl, ?_⟩) (by assumption) ?_
        rotate_left
        · intro w hSw
          (try dsimp only at hSw)
          go_simp
          all_goals with_reducible rfl
        try simp only [Act.put, List.getElem_toArray, List.getElem_cons_succ, List.getElem_cons_zero, List.setIfInBounds_toArray, List.set_cons_zero, List.set_cons_succ]
        refine wpAnyH_take (i := 20) (v := ?_) rfl (by kernel_rfl) (by kernel_rfl) (by kernel_rfl) (fun _ _ _ h => h) (Or.inl ⟨by rfl, ?_⟩) (by assumption) ?_
        rotate_left
        · intro w hSw
          (try dsimp only at hSw)
          go_simp
          all_goals with_reducible rfl
        try simp only [Act.put, List.getElem_toArray, List.getElem_cons_succ, List.getElem_cons_zero, List.setIfInBounds_toArray, List.set_cons_zero, List.set_cons_succ]
        refine wpAnyH_take (i := 21) (v := ?_) rfl (by kernel_rfl) (by kernel_rfl) (by kernel_rfl) (fun _ _ _ h => h) (Or.inl ⟨by rfl, ?_⟩) (by assumption) ?_
        rotate_left
        · intro w hSw
          (try dsimp only at hSw)
          go_simp
          all_goals with_reducible rfl
        try simp only [Act.put, List.getElem_toArray, List.getElem_cons_succ, List.getElem_cons_zero, List.setIfInBounds_toArray, List.set_cons_zero, List.set_cons_succ]
        refine wpAnyH_take (i := 22) (v := ?_) rfl (by kernel_rfl) (by kernel_rfl) (by kernel_rfl) (fun _ _ _ h => h) (Or.inl ⟨by rfl, ?_⟩) (by assumption) ?_
        rotate_left
        · intro w hSw
          (try dsimp only at hSw)
          go_simp
          all_goals with_reducible rfl
        try simp only [Act.put, List.getElem_toArray, List.getElem_cons_succ, List.getElem_cons_zero, List.setIfInBounds_toArray, List.set_cons_zero, List.set_cons_succ]
        refine wpAnyH_take (i := 23) (v := ?_) rfl (by kernel_rfl) (by kernel_rfl) (by kernel_rfl) (fun _ _ _ h => h) (Or.inl ⟨by rfl, ?_⟩) (by assumption) ?_
        rotate_left
        · intro w hSw
          (try dsimp only at hSw)
          go_simp
          all_goals with_reducible rfl
        try simp only [Act.put, List.getElem_toArray, List.getElem_cons_succ, List.getElem_cons_zero, List.setIfInBounds_toArray, List.set_cons_zero, List.set_cons_succ]
        refine wpAnyH_take (i := 24) (v := undef) rfl (by kernel_rfl) (by kernel_rfl) (by kernel_rfl) (fun _ _ _ h => h) (Or.inr ⟨by rfl, rfl⟩) (by assumption) ?_
        try simp only [Act.put, List.getElem_toArray, List.getElem_cons_succ, List.getElem_cons_zero, List.setIfInBounds_toArray, List.set_cons_zero, List.set_cons_succ]
        refine wpAnyH_take (i := 25) (v := undef) rfl (by kernel_rfl) (by kernel_rfl) (by kernel_rfl) (fun _ _ _ h => h) (Or.inr ⟨by rfl, rfl⟩) (by assumption) ?_
        try simp only [Act.put, List.getElem_toArray, List.getElem_cons_succ, List.getElem_cons_zero, List.setIfInBounds_toArray, List.set_cons_zero, List.set_cons_succ]
        refine wpAnyH_take (i := 26) (v := undef) rfl (by kernel_rfl) (by kernel_rfl) (by kernel_rfl) (fun _ _ _ h => h) (Or.inr ⟨by rfl, rfl⟩) (by assumption) ?_
        try simp only [Act.put, List.getElem_toArray, List.getElem_cons_succ, List.getElem_cons_zero, List.setIfInBounds_toArray, List.set_cons_zero, List.set_cons_succ]
        refine wpAnyH_take (i := 27) (v := undef) rfl (by kernel_rfl) (by kernel_rfl) (by kernel_rfl) (fun _ _ _ h => h) (Or.inr ⟨by rfl, rfl⟩) (by assumption) ?_
        try simp only [Act.put, List.getElem_toArray, List.getElem_cons_succ, List.getElem_cons_zero, List.setIfInBounds_toArray, List.set_cons_zero, List.set_cons_succ]
        refine wpAnyH_take (i := 28) (v := undef) rfl (by kernel_rfl) (by kernel_rfl) (by kernel_rfl) (fun _ _ _ h => h) (Or.inr ⟨by rfl, rfl⟩) (by assumption) ?_
        try simp only [Act.put, List.getElem_toArray, List.getElem_cons_succ, List.getElem_cons_zero, List.setIfInBounds_toArray, List.set_cons_zero, List.set_cons_succ]
        refine wpAnyH_take (i := 29) (v := undef) rfl (by kernel_rfl) (by kernel_rfl) (by kernel_rfl) (fun _ _ _ h => h) (Or.inr ⟨by rfl, rfl⟩) (by assumption) ?_
        try simp only [Act.put, List.getElem_toArray, List.getElem_cons_succ, List.getElem_cons_zero, List.setIfInBounds_toArray, List.set_cons_zero, List.set_cons_succ]
        refine wpAnyH_take (i := 30) (v := ?_) rfl (by kernel_rfl) (by kernel_rfl) (by kernel_rfl) (fun _ _ _ h => h) (Or.inl ⟨by rfl, ?_⟩) (by assumption) ?_
        rotate_left
        · intro w hSw
          (try dsimp only at hSw)
          go_simp
          all_goals with_reducible rfl
        try simp only [Act.put, List.getElem_toArray, List.getElem_cons_succ, List.getElem_cons_zero, List.setIfInBounds_toArray, List.set_cons_zero, List.set_cons_succ]
        refine wpAnyH_take (i := 31) (v := ?_) rfl (by kernel_rfl) (by kernel_rfl) (by kernel_rfl) (fun _ _ _ h => h) (Or.inl ⟨by rfl, ?_⟩) (by assumption) ?_
        rotate_left
        · intro w hSw
          (try dsimp only at hSw)
          go_simp
          all_goals with_reducible rfl
        try simp only [Act.put, List.getElem_toArray, List.getElem_cons_succ, List.getElem_cons_zero, List.setIfInBounds_toArray, List.set_cons_zero, List.set_cons_succ]
        refine wpAnyH_done (by kernel_rfl) ?_ _
        go_wp2_with fail
        go_roundw
        case rel => exact ⟨j + 1, by have := HLT.out; omega, by go_num, X1.out.on (Below.drew (Below.refl _ _)), X2.out.on (Below.drew (Below.refl _ _)), Below.drew HB.out⟩
        case measure => have := HLT.out; simp [intOf]; omega
    · have hlt' : ¬ (j : Int) < (n2 : Int) := by omega
      have q0 : wr.cell? ⟨v1.heap.size, 0, none⟩ = some (.int .i64 r1) := (PtAt.c X1.out.at_).1
      have q1 : wr.cell? ⟨v1.heap.size, 1, none⟩ = some (.slice a1 n1 k1) := by have := (PtAt.c X1.out.at_).2.1; simp only at this; rw [HN1.out] at this; exact this
      have q2 : wr.cell? ⟨v1.heap.size, 2, none⟩ = some (.int .i64 t1) := (PtAt.c X1.out.at_).2.2.1
      have q3 : wr.cell? ⟨v1.heap.size, 3, none⟩ = some (.int .i64 u1) := (PtAt.c X1.out.at_).2.2.2
      have s0 : wr.cell? ⟨v2.heap.size, 0, none⟩ = some (.int .i64 r2) := (PtAt.c X2.out.at_).1
      have s1 : wr.cell? ⟨v2.heap.size, 1, none⟩ = some (.slice a2 n2 k2) := by have := (PtAt.c X2.out.at_).2.1; simp only at this; rw [HN2.out] at this; exact this
      have s2 : wr.cell? ⟨v2.heap.size, 2, none⟩ = some (.int .i64 t2) := (PtAt.c X2.out.at_).2.2.1
      have s3 : wr.cell? ⟨v2.heap.size, 3, none⟩ = some (.int .i64 u2) := (PtAt.c X2.out.at_).2.2.2
      go_wp2_with fail
      refine (pall_n (TOk.n (TOk.of OK1.out)) X1.out.row HN1.out).mono ?_
      rintro r y1 ⟨rfl, b⟩
      have X1 := Lib.hid (X1.out.on b)
      have X2 := Lib.hid (X2.out.on b)
      have HB := Lib.hid (bel2 HB.out b)
      clear b
      clear q0 q1 q2 q3
      clear s0 s1 s2 s3
      rw [G4.out]
      have s0 : y1.cell? ⟨v2.heap.size, 0, none⟩ = some (.int .i64 r2) := (PtAt.c X2.out.at_).1
      have s1 : y1.cell? ⟨v2.heap.size, 1, none⟩ = some (.slice a2 n2 k2) := by have := (PtAt.c X2.out.at_).2.1; simp only at this; rw [HN2.out] at this; exact this
      have s2 : y1.cell? ⟨v2.heap.size, 2, none⟩ = some (.int .i64 t2) := (PtAt.c X2.out.at_).2.2.1
      have s3 : y1.cell? ⟨v2.heap.size, 3, none⟩ = some (.int .i64 u2) := (PtAt.c X2.out.at_).2.2.2
      go_wp2_with fail
      refine (pall_n (TOk.n (TOk.of OK2.out)) X2.out.row HN2.out).mono ?_
      rintro r y2 ⟨rfl, b⟩
      have HB := Lib.hid (bel2 HB.out b)
      rw [G5.out]
      go_wp2
      go_ret
      exact ⟨rfl, HB.out⟩
end Go.Proofs.Ytcfehddnccdejaa
