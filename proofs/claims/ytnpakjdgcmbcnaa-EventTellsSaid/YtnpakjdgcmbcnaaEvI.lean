/- May a policy be so, may a configuration. -/
import Derived.Test.YtnpakjdgcmbcnaaEvH
namespace Go.Proofs.Ytnpakjdgcmbcnaa
open Go.RowKit
open Wir Evn
attribute [local go_sem] Oper.semAt_some

theorem bel2 {w0 w w' : World} (h : Below w0.heap.size w0 w) (k : Below w.heap.size w w') : Below w0.heap.size w0 w' := h.trans (k.mono h.size)
theorem belS {w0 w : World} (h : Below w0.heap.size w0 w) (p : Addr) (v : Value) (hp : w0.heap.size ≤ p.block) : Below w0.heap.size w0 (w.setCell p v) := h.setCell hp v
def cfV (c : Cf) : Value := .agg #[.int .i64 c.min, .int .i64 c.max, .int .i64 c.rate, .int .i64 c.stable, .int .i64 c.cap, .int .i64 c.delay, .int .i64 c.slack, .int .i64 c.window, .int .i64 c.margin, .int .i64 c.ceil, .int .i64 c.probe, .int .i64 c.breach]
set_option linter.unusedSimpArgs false in
set_option maxRecDepth 100000 in
set_option maxHeartbeats 6400000 in
theorem conf_any (c : Cf) (w : World) :
    Calls Try.prog 13 #[cfV c] w fun e w' => e = .returned (.bool (confR c)) ∧ Below w.heap.size w w' := by
  obtain ⟨min, max, rate, stable, cap, delay, slack, window, margin, ceil, probe, breach⟩ := c
  unfold cfV
  simp only
  have HZ : Hid (confR ⟨min, max, rate, stable, cap, delay, slack, window, margin, ceil, probe, breach⟩ = decide (((1 ≤ min ∧ min ≤ max)) ∧ ((1 ≤ max ∧ max ≤ 1000) ∧ (1 ≤ rate ∧ rate ≤ 1000)) ∧ ((0 ≤ stable ∧ stable ≤ 1099511627776)) ∧ ((1 ≤ cap ∧ cap ≤ 1000000)) ∧ ((0 ≤ delay ∧ delay ≤ 8)) ∧ ((0 ≤ slack ∧ slack ≤ 1000000000) ∧ (0 ≤ margin ∧ margin ≤ 1000000000)) ∧ ((1 ≤ window ∧ window ≤ 32) ∧ (1 ≤ probe ∧ probe ≤ 32)) ∧ ((0 ≤ ceil ∧ ceil ≤ 32) ∧ (0 ≤ breach ∧ breach ≤ 32)))) := by
    show _ = _
    unfold confR
    simp only
    refine decide_eq_decide.2 ⟨fun h => ?_, fun h => ?_⟩ <;> omega
  go_enter Try.func13, Try.ntmps13
  go_wp2_with fail
  refine (withinI_now 1 max (l := [min]) (by simp) rfl rfl (by simp)).mono ?_
  rintro e w1 ⟨rfl, rfl⟩
  rcases Decidable.em ((1 ≤ min ∧ min ≤ max)) with h0 | h0
  rotate_left
  · have HH := Lib.hid h0
    have hb : winR 1 max [min] = false := by
      apply Bool.eq_false_iff.2
      intro h
      simp only [winR, List.all_cons, List.all_nil, Bool.and_true, Bool.and_eq_true, decide_eq_true_eq] at h
      omega
    rw [hb]
    clear hb h0
    go_wp2
    go_ret
    refine ⟨ret_bool ?_, (bel1 (bel1 (Below.refl _ _) _) _)⟩
    rw [HZ.out]; symm; rw [decide_eq_false_iff_not]; intro h; exact HH.out (by omega)
  have HH := Lib.hid h0
  have hb : winR 1 max [min] = true := by simp only [winR, List.all_cons, List.all_nil, Bool.and_true, Bool.and_eq_true, decide_eq_true_eq]; omega
  rw [hb]
  clear hb h0
  have H0 := HH
  clear HH
  go_wp2_with fail
  refine (withinI_now 1 1000 (l := [max, rate]) (by simp) rfl rfl (by simp)).mono ?_
  rintro e w1 ⟨rfl, rfl⟩
  rcases Decidable.em ((1 ≤ max ∧ max ≤ 1000) ∧ (1 ≤ rate ∧ rate ≤ 1000)) with h1 | h1
  rotate_left
  · have HH := Lib.hid h1
    have hb : winR 1 1000 [max, rate] = false := by
      apply Bool.eq_false_iff.2
      intro h
      simp only [winR, List.all_cons, List.all_nil, Bool.and_true, Bool.and_eq_true, decide_eq_true_eq] at h
      omega
    rw [hb]
    clear hb h1
    go_wp2
    go_ret
    refine ⟨ret_bool ?_, (bel1 (bel1 (bel1 (Below.refl _ _) _) _) _)⟩
    rw [HZ.out]; symm; rw [decide_eq_false_iff_not]; intro h; exact HH.out (by omega)
  have HH := Lib.hid h1
  have hb : winR 1 1000 [max, rate] = true := by simp only [winR, List.all_cons, List.all_nil, Bool.and_true, Bool.and_eq_true, decide_eq_true_eq]; omega
  rw [hb]
  clear hb h1
  have H1 := HH
  clear HH
  go_wp2_with fail
  refine (within64_now 0 1099511627776 (l := [stable]) (by simp) rfl rfl (by simp)).mono ?_
  rintro e w1 ⟨rfl, rfl⟩
  rcases Decidable.em ((0 ≤ stable ∧ stable ≤ 1099511627776)) with h2 | h2
  rotate_left
  · have HH := Lib.hid h2
    have hb : winR 0 1099511627776 [stable] = false := by
      apply Bool.eq_false_iff.2
      intro h
      simp only [winR, List.all_cons, List.all_nil, Bool.and_true, Bool.and_eq_true, decide_eq_true_eq] at h
      omega
    rw [hb]
    clear hb h2
    go_wp2
    go_ret
    refine ⟨ret_bool ?_, (bel1 (bel1 (bel1 (bel1 (Below.refl _ _) _) _) _) _)⟩
    rw [HZ.out]; symm; rw [decide_eq_false_iff_not]; intro h; exact HH.out (by omega)
  have HH := Lib.hid h2
  have hb : winR 0 1099511627776 [stable] = true := by simp only [winR, List.all_cons, List.all_nil, Bool.and_true, Bool.and_eq_true, decide_eq_true_eq]; omega
  rw [hb]
  clear hb h2
  have H2 := HH
  clear HH
  go_wp2_with fail
  refine (within64_now 1 1000000 (l := [cap]) (by simp) rfl rfl (by simp)).mono ?_
  rintro e w1 ⟨rfl, rfl⟩
  rcases Decidable.em ((1 ≤ cap ∧ cap ≤ 1000000)) with h3 | h3
  rotate_left
  · have HH := Lib.hid h3
    have hb : winR 1 1000000 [cap] = false := by
      apply Bool.eq_false_iff.2
      intro h
      simp only [winR, List.all_cons, List.all_nil, Bool.and_true, Bool.and_eq_true, decide_eq_true_eq] at h
      omega
    rw [hb]
    clear hb h3
    go_wp2
    go_ret
    refine ⟨ret_bool ?_, (bel1 (bel1 (bel1 (bel1 (bel1 (Below.refl _ _) _) _) _) _) _)⟩
    rw [HZ.out]; symm; rw [decide_eq_false_iff_not]; intro h; exact HH.out (by omega)
  have HH := Lib.hid h3
  have hb : winR 1 1000000 [cap] = true := by simp only [winR, List.all_cons, List.all_nil, Bool.and_true, Bool.and_eq_true, decide_eq_true_eq]; omega
  rw [hb]
  clear hb h3
  have H3 := HH
  clear HH
  go_wp2_with fail
  refine (withinI_now 0 8 (l := [delay]) (by simp) rfl rfl (by simp)).mono ?_
  rintro e w1 ⟨rfl, rfl⟩
  rcases Decidable.em ((0 ≤ delay ∧ delay ≤ 8)) with h4 | h4
  rotate_left
  · have HH := Lib.hid h4
    have hb : winR 0 8 [delay] = false := by
      apply Bool.eq_false_iff.2
      intro h
      simp only [winR, List.all_cons, List.all_nil, Bool.and_true, Bool.and_eq_true, decide_eq_true_eq] at h
      omega
    rw [hb]
    clear hb h4
    go_wp2
    go_ret
    refine ⟨ret_bool ?_, (bel1 (bel1 (bel1 (bel1 (bel1 (bel1 (Below.refl _ _) _) _) _) _) _) _)⟩
    rw [HZ.out]; symm; rw [decide_eq_false_iff_not]; intro h; exact HH.out (by omega)
  have HH := Lib.hid h4
  have hb : winR 0 8 [delay] = true := by simp only [winR, List.all_cons, List.all_nil, Bool.and_true, Bool.and_eq_true, decide_eq_true_eq]; omega
  rw [hb]
  clear hb h4
  have H4 := HH
  clear HH
  go_wp2_with fail
  refine (within64_now 0 1000000000 (l := [slack, margin]) (by simp) rfl rfl (by simp)).mono ?_
  rintro e w1 ⟨rfl, rfl⟩
  rcases Decidable.em ((0 ≤ slack ∧ slack ≤ 1000000000) ∧ (0 ≤ margin ∧ margin ≤ 1000000000)) with h5 | h5
  rotate_left
  · have HH := Lib.hid h5
    have hb : winR 0 1000000000 [slack, margin] = false := by
      apply Bool.eq_false_iff.2
      intro h
      simp only [winR, List.all_cons, List.all_nil, Bool.and_true, Bool.and_eq_true, decide_eq_true_eq] at h
      omega
    rw [hb]
    clear hb h5
    go_wp2
    go_ret
    refine ⟨ret_bool ?_, (bel1 (bel1 (bel1 (bel1 (bel1 (bel1 (bel1 (Below.refl _ _) _) _) _) _) _) _) _)⟩
    rw [HZ.out]; symm; rw [decide_eq_false_iff_not]; intro h; exact HH.out (by omega)
  have HH := Lib.hid h5
  have hb : winR 0 1000000000 [slack, margin] = true := by simp only [winR, List.all_cons, List.all_nil, Bool.and_true, Bool.and_eq_true, decide_eq_true_eq]; omega
  rw [hb]
  clear hb h5
  have H5 := HH
  clear HH
  go_wp2_with fail
  refine (withinI_now 1 32 (l := [window, probe]) (by simp) rfl rfl (by simp)).mono ?_
  rintro e w1 ⟨rfl, rfl⟩
  rcases Decidable.em ((1 ≤ window ∧ window ≤ 32) ∧ (1 ≤ probe ∧ probe ≤ 32)) with h6 | h6
  rotate_left
  · have HH := Lib.hid h6
    have hb : winR 1 32 [window, probe] = false := by
      apply Bool.eq_false_iff.2
      intro h
      simp only [winR, List.all_cons, List.all_nil, Bool.and_true, Bool.and_eq_true, decide_eq_true_eq] at h
      omega
    rw [hb]
    clear hb h6
    go_wp2
    go_ret
    refine ⟨ret_bool ?_, (bel1 (bel1 (bel1 (bel1 (bel1 (bel1 (bel1 (bel1 (Below.refl _ _) _) _) _) _) _) _) _) _)⟩
    rw [HZ.out]; symm; rw [decide_eq_false_iff_not]; intro h; exact HH.out (by omega)
  have HH := Lib.hid h6
  have hb : winR 1 32 [window, probe] = true := by simp only [winR, List.all_cons, List.all_nil, Bool.and_true, Bool.and_eq_true, decide_eq_true_eq]; omega
  rw [hb]
  clear hb h6
  have H6 := HH
  clear HH
  go_wp2_with fail
  refine (withinI_now 0 32 (l := [ceil, breach]) (by simp) rfl rfl (by simp)).mono ?_
  rintro e w1 ⟨rfl, rfl⟩
  rcases Decidable.em ((0 ≤ ceil ∧ ceil ≤ 32) ∧ (0 ≤ breach ∧ breach ≤ 32)) with h7 | h7
  rotate_left
  · have HH := Lib.hid h7
    have hb : winR 0 32 [ceil, breach] = false := by
      apply Bool.eq_false_iff.2
      intro h
      simp only [winR, List.all_cons, List.all_nil, Bool.and_true, Bool.and_eq_true, decide_eq_true_eq] at h
      omega
    rw [hb]
    clear hb h7
    go_wp2
    go_ret
    refine ⟨ret_bool ?_, (bel1 (bel1 (bel1 (bel1 (bel1 (bel1 (bel1 (bel1 (bel1 (Below.refl _ _) _) _) _) _) _) _) _) _) _)⟩
    rw [HZ.out]; symm; rw [decide_eq_false_iff_not]; intro h; exact HH.out (by omega)
  have HH := Lib.hid h7
  have hb : winR 0 32 [ceil, breach] = true := by simp only [winR, List.all_cons, List.all_nil, Bool.and_true, Bool.and_eq_true, decide_eq_true_eq]; omega
  rw [hb]
  clear hb h7
  have H7 := HH
  clear HH
  go_wp2
  go_ret
  refine ⟨ret_bool ?_, (bel1 (bel1 (bel1 (bel1 (bel1 (bel1 (bel1 (bel1 (bel1 (Below.refl _ _) _) _) _) _) _) _) _) _) _)⟩
  rw [HZ.out, decide_eq_true ⟨H0.out, H1.out, H2.out, H3.out, H4.out, H5.out, H6.out, H7.out⟩]

set_option linter.unusedSimpArgs false in
set_option maxRecDepth 100000 in
set_option maxHeartbeats 6400000 in
theorem policy1 {w : World} {a1 a2 : Option Addr} {c1 c2 : Nat} (target : Int) (bands : List (Int × Int)) (kp ki kd period : Int) (slots : List (Int × Int)) (h1 : PRow w a1 bands.length c1 bands) (h2 : PRow w a2 slots.length c2 slots) :
    Calls Try.prog 11 #[plV ⟨1, target, bands, kp, ki, kd, period, slots⟩ a1 a2 c1 c2] w fun e w' => e = .returned (.bool (polR ⟨1, target, bands, kp, ki, kd, period, slots⟩)) ∧ Below w.heap.size w w' := by
  have HZ : Hid (polR ⟨1, target, bands, kp, ki, kd, period, slots⟩ = (decide (1 ≤ target ∧ target ≤ 1000000000) && zeroR ⟨0, 0, bands, kp, ki, kd, period, slots⟩)) := by show _ = _; rfl
  have HM := Lib.hid (And.intro h1 h2)
  clear h1 h2
  unfold plV
  simp only
  by_cases h0 : 0 < target
  · have d0 : decide (0 < target) = true := by simpa using h0
    have H0 := Lib.hid h0
    clear h0
    go_enter Try.func11, Try.ntmps11
    go_wp2_with fail
    refine (thou_now (l := [target]) (by simp) rfl rfl (by simp)).mono ?_
    rintro e w1 ⟨rfl, rfl⟩
    by_cases hx : -1000000000 ≤ target ∧ target ≤ 1000000000
    · rw [win_yes hx]
      have HX := Lib.hid hx
      clear hx
      go_wp2_with fail
      refine (zero_any ⟨0, 0, bands, kp, ki, kd, period, slots⟩ a1 a2 c1 c2 _).mono ?_
      rintro e w2 ⟨rfl, h2⟩
      have H2 := Lib.hid h2
      clear h2
      go_wp2
      go_ret
      exact ⟨ret_bool (by rw [HZ.out, decide_eq_true (by have := HX.out; have := H0.out; omega)]; rfl), bel2 (bel1 (bel1 (Below.refl _ _) _) _) H2.out⟩
    · rw [win_no hx]
      have HX := Lib.hid hx
      clear hx
      go_wp2
      go_ret
      exact ⟨ret_bool (by rw [HZ.out, decide_eq_false (by have := HX.out; have := H0.out; omega)]; rfl), (bel1 (bel1 (Below.refl _ _) _) _)⟩
  · have d0 : decide (0 < target) = false := by simpa using h0
    have H0 := Lib.hid h0
    clear h0
    go_enter Try.func11, Try.ntmps11
    go_wp2
    go_ret
    exact ⟨ret_bool (by rw [HZ.out, decide_eq_false (by have := H0.out; omega)]; rfl), (bel1 (Below.refl _ _) _)⟩
theorem pidR (t kp ki kd : Int) (h0 : 0 < t) : winR (-1000000000) 1000000000 [t, kp, ki, kd] = (decide (1 ≤ t ∧ t ≤ 1000000000) && (fixR kp && (fixR ki && fixR kd))) := by
  simp only [winR, List.all_cons, List.all_nil, Bool.and_true, fixR]
  congr 1
  exact decide_eq_decide.2 (by omega)
set_option linter.unusedSimpArgs false in
set_option maxRecDepth 100000 in
set_option maxHeartbeats 6400000 in
theorem policy3 {w : World} {a1 a2 : Option Addr} {c1 c2 : Nat} (target : Int) (bands : List (Int × Int)) (kp ki kd period : Int) (slots : List (Int × Int)) (h1 : PRow w a1 bands.length c1 bands) (h2 : PRow w a2 slots.length c2 slots) :
    Calls Try.prog 11 #[plV ⟨3, target, bands, kp, ki, kd, period, slots⟩ a1 a2 c1 c2] w fun e w' => e = .returned (.bool (polR ⟨3, target, bands, kp, ki, kd, period, slots⟩)) ∧ Below w.heap.size w w' := by
  have HZ : Hid (polR ⟨3, target, bands, kp, ki, kd, period, slots⟩ = ((decide (1 ≤ target ∧ target ≤ 1000000000) && (fixR kp && (fixR ki && fixR kd))) && zeroR ⟨0, 0, bands, 0, 0, 0, period, slots⟩)) := by show _ = _; rfl
  have HM := Lib.hid (And.intro h1 h2)
  clear h1 h2
  unfold plV
  simp only
  by_cases h0 : 0 < target
  · have d0 : decide (0 < target) = true := by simpa using h0
    have H0 := Lib.hid h0
    have HP := Lib.hid (pidR target kp ki kd h0)
    clear h0
    go_enter Try.func11, Try.ntmps11
    go_wp2_with fail
    refine (thou_now (l := [target, kp, ki, kd]) (by simp) rfl rfl (by simp)).mono ?_
    rintro e w1 ⟨rfl, rfl⟩
    cases hx : winR (-1000000000) 1000000000 [target, kp, ki, kd]
    · have HX := Lib.hid hx
      clear hx
      go_wp2
      go_ret
      exact ⟨ret_bool (by rw [HZ.out, ← HP.out, HX.out]; rfl), (bel1 (bel1 (Below.refl _ _) _) _)⟩
    · have HX := Lib.hid hx
      clear hx
      go_wp2_with fail
      refine (zero_any ⟨0, 0, bands, 0, 0, 0, period, slots⟩ a1 a2 c1 c2 _).mono ?_
      rintro e w2 ⟨rfl, h2⟩
      have H2 := Lib.hid h2
      clear h2
      go_wp2
      go_ret
      exact ⟨ret_bool (by rw [HZ.out, ← HP.out, HX.out]; rfl), bel2 (bel1 (bel1 (Below.refl _ _) _) _) H2.out⟩
  · have d0 : decide (0 < target) = false := by simpa using h0
    have H0 := Lib.hid h0
    clear h0
    go_enter Try.func11, Try.ntmps11
    go_wp2
    go_ret
    exact ⟨ret_bool (by rw [HZ.out, decide_eq_false (by have := H0.out; omega)]; rfl), (bel1 (Below.refl _ _) _)⟩
set_option linter.unusedSimpArgs false in
set_option maxRecDepth 100000 in
set_option maxHeartbeats 6400000 in
theorem policy2 {w : World} {a1 a2 : Option Addr} {c1 c2 : Nat} (target : Int) (bands : List (Int × Int)) (kp ki kd period : Int) (slots : List (Int × Int)) (h1 : PRow w a1 bands.length c1 bands) (h2 : PRow w a2 slots.length c2 slots) :
    Calls Try.prog 11 #[plV ⟨2, target, bands, kp, ki, kd, period, slots⟩ a1 a2 c1 c2] w fun e w' => e = .returned (.bool (polR ⟨2, target, bands, kp, ki, kd, period, slots⟩)) ∧ Below w.heap.size w w' := by
  have HZ : Hid (polR ⟨2, target, bands, kp, ki, kd, period, slots⟩ = (bandsOk bands && zeroR ⟨0, target, [], kp, ki, kd, period, slots⟩)) := by show _ = _; rfl
  have HM := Lib.hid (And.intro h1 h2)
  clear h1 h2
  unfold plV
  simp only
  have CB := Lib.hid (bands_any (HM.out.1.on ((Below.refl _ _).alloc (Nat.le_refl _) (.cells #[.int .i64 2, .int .i64 target, .slice a1 bands.length c1, .int .i64 kp, .int .i64 ki, .int .i64 kd, .int .i64 period, .slice a2 slots.length c2] 25))))
  go_enter Try.func11, Try.ntmps11
  go_wp2_with fail
  refine CB.out.mono ?_
  rintro e w1 ⟨rfl, h1⟩
  have hB : w1.heap[w.heap.size]? = some (.cells #[.int .i64 2, .int .i64 target, .slice a1 bands.length c1, .int .i64 kp, .int .i64 ki, .int .i64 kd, .int .i64 period, .slice a2 slots.length c2] 25 (0, 0)) := (h1.block _ (by simp)).trans (heap_alloc_new _ _)
  have k0 := cell_of_row _ _ 0 _ _ _ hB
  have z0 := frozen_of_row _ _ 0 _ _ hB
  have k1 := cell_of_row _ _ 1 _ _ _ hB
  have z1 := frozen_of_row _ _ 1 _ _ hB
  have k2 := cell_of_row _ _ 2 _ _ _ hB
  have z2 := frozen_of_row _ _ 2 _ _ hB
  have k3 := cell_of_row _ _ 3 _ _ _ hB
  have z3 := frozen_of_row _ _ 3 _ _ hB
  have k4 := cell_of_row _ _ 4 _ _ _ hB
  have z4 := frozen_of_row _ _ 4 _ _ hB
  have k5 := cell_of_row _ _ 5 _ _ _ hB
  have z5 := frozen_of_row _ _ 5 _ _ hB
  have k6 := cell_of_row _ _ 6 _ _ _ hB
  have z6 := frozen_of_row _ _ 6 _ _ hB
  have k7 := cell_of_row _ _ 7 _ _ _ hB
  have z7 := frozen_of_row _ _ 7 _ _ hB
  simp only [List.getElem?_toArray, List.getElem?_cons_zero, List.getElem?_cons_succ] at k0 k1 k2 k3 k4 k5 k6 k7
  have H1 := Lib.hid (bel2 (bel1 (Below.refl _ _) _) h1)
  clear h1 hB CB
  cases hx : bandsOk bands
  · have HX := Lib.hid hx
    clear hx
    go_wp2
    go_ret
    exact ⟨ret_bool (by rw [HZ.out, HX.out]; rfl), (belS (belS H1.out _ _ (Nat.le_refl _)) _ _ (Nat.le_refl _))⟩
  · have HX := Lib.hid hx
    clear hx
    go_wp2_with fail
    refine (zero_any ⟨0, target, [], kp, ki, kd, period, slots⟩ none a2 0 c2 _).mono ?_
    rintro e w2 ⟨rfl, h2⟩
    have H2 := Lib.hid h2
    clear h2
    go_wp2
    go_ret
    exact ⟨ret_bool (by rw [HZ.out, HX.out]; rfl), bel2 (belS (belS H1.out _ _ (Nat.le_refl _)) _ _ (Nat.le_refl _)) H2.out⟩
set_option linter.unusedSimpArgs false in
set_option maxRecDepth 100000 in
set_option maxHeartbeats 6400000 in
theorem policy4 {w : World} {a1 a2 : Option Addr} {c1 c2 : Nat} (target : Int) (bands : List (Int × Int)) (kp ki kd period : Int) (slots : List (Int × Int)) (h1 : PRow w a1 bands.length c1 bands) (h2 : PRow w a2 slots.length c2 slots) :
    Calls Try.prog 11 #[plV ⟨4, target, bands, kp, ki, kd, period, slots⟩ a1 a2 c1 c2] w fun e w' => e = .returned (.bool (polR ⟨4, target, bands, kp, ki, kd, period, slots⟩)) ∧ Below w.heap.size w w' := by
  have HZ : Hid (polR ⟨4, target, bands, kp, ki, kd, period, slots⟩ = ((decide (1 ≤ period ∧ period ≤ 1099511627776) && slotsOk slots period) && zeroR ⟨0, target, bands, kp, ki, kd, 0, []⟩)) := by show _ = _; rfl
  have HM := Lib.hid (And.intro h1 h2)
  clear h1 h2
  unfold plV
  simp only
  by_cases hp : 1 ≤ period ∧ period ≤ 1099511627776
  · have CB := Lib.hid (slots_any (HM.out.2.on (((Below.refl w.heap.size w).alloc (Nat.le_refl _) (.cells #[.int .i64 4, .int .i64 target, .slice a1 bands.length c1, .int .i64 kp, .int .i64 ki, .int .i64 kd, .int .i64 period, .slice a2 slots.length c2] 25)).alloc (by simp) (.cells #[.int .i64 period] 2))) period hp)
    have HP := Lib.hid hp
    go_enter Try.func11, Try.ntmps11
    go_wp2_with fail
    refine (within64_now 1 1099511627776 (l := [period]) (by simp) rfl rfl (by simp)).mono ?_
    rintro e w0 ⟨rfl, rfl⟩
    rw [win_yes hp]
    clear hp
    go_wp2_with fail
    refine CB.out.mono ?_
    rintro e w1 ⟨rfl, h1⟩
    have hB : w1.heap[w.heap.size]? = some (.cells #[.int .i64 4, .int .i64 target, .slice a1 bands.length c1, .int .i64 kp, .int .i64 ki, .int .i64 kd, .int .i64 period, .slice a2 slots.length c2] 25 (0, 0)) := (h1.block _ (by simp; omega)).trans ((Below.heap_alloc _ _ _ (by simp)).trans (heap_alloc_new _ _))
    have k0 := cell_of_row _ _ 0 _ _ _ hB
    have z0 := frozen_of_row _ _ 0 _ _ hB
    have k1 := cell_of_row _ _ 1 _ _ _ hB
    have z1 := frozen_of_row _ _ 1 _ _ hB
    have k2 := cell_of_row _ _ 2 _ _ _ hB
    have z2 := frozen_of_row _ _ 2 _ _ hB
    have k3 := cell_of_row _ _ 3 _ _ _ hB
    have z3 := frozen_of_row _ _ 3 _ _ hB
    have k4 := cell_of_row _ _ 4 _ _ _ hB
    have z4 := frozen_of_row _ _ 4 _ _ hB
    have k5 := cell_of_row _ _ 5 _ _ _ hB
    have z5 := frozen_of_row _ _ 5 _ _ hB
    have k6 := cell_of_row _ _ 6 _ _ _ hB
    have z6 := frozen_of_row _ _ 6 _ _ hB
    have k7 := cell_of_row _ _ 7 _ _ _ hB
    have z7 := frozen_of_row _ _ 7 _ _ hB
    simp only [List.getElem?_toArray, List.getElem?_cons_zero, List.getElem?_cons_succ] at k0 k1 k2 k3 k4 k5 k6 k7
    have H1 := Lib.hid (bel2 (bel1 (bel1 (Below.refl _ _) _) _) h1)
    clear h1 hB CB
    cases hx : slotsOk slots period
    · have HX := Lib.hid hx
      clear hx
      go_wp2
      go_ret
      exact ⟨ret_bool (by rw [HZ.out, decide_eq_true HP.out, HX.out]; rfl), (belS (belS (belS H1.out _ _ (Nat.le_refl _)) _ _ (Nat.le_refl _)) _ _ (Nat.le_refl _))⟩
    · have HX := Lib.hid hx
      clear hx
      go_wp2_with fail
      refine (zero_any ⟨0, target, bands, kp, ki, kd, 0, []⟩ a1 none c1 0 _).mono ?_
      rintro e w2 ⟨rfl, h2⟩
      have H2 := Lib.hid h2
      clear h2
      go_wp2
      go_ret
      exact ⟨ret_bool (by rw [HZ.out, decide_eq_true HP.out, HX.out]; rfl), bel2 (belS (belS (belS H1.out _ _ (Nat.le_refl _)) _ _ (Nat.le_refl _)) _ _ (Nat.le_refl _)) H2.out⟩
  · have HP := Lib.hid hp
    go_enter Try.func11, Try.ntmps11
    go_wp2_with fail
    refine (within64_now 1 1099511627776 (l := [period]) (by simp) rfl rfl (by simp)).mono ?_
    rintro e w0 ⟨rfl, rfl⟩
    rw [win_no hp]
    clear hp
    go_wp2
    go_ret
    exact ⟨ret_bool (by rw [HZ.out, decide_eq_false HP.out]; rfl), (bel1 (bel1 (Below.refl _ _) _) _)⟩
set_option linter.unusedSimpArgs false in
set_option maxRecDepth 100000 in
set_option maxHeartbeats 6400000 in
theorem policy_any {w : World} {a1 a2 : Option Addr} {c1 c2 : Nat} (p : Pl) (h1 : PRow w a1 p.bands.length c1 p.bands) (h2 : PRow w a2 p.slots.length c2 p.slots) :
    Calls Try.prog 11 #[plV p a1 a2 c1 c2] w fun e w' => e = .returned (.bool (polR p)) ∧ Below w.heap.size w w' := by
  obtain ⟨kind, target, bands, kp, ki, kd, period, slots⟩ := p
  by_cases e1 : kind = 1
  · subst e1; exact policy1 target bands kp ki kd period slots h1 h2
  by_cases e2 : kind = 2
  · subst e2; exact policy2 target bands kp ki kd period slots h1 h2
  by_cases e3 : kind = 3
  · subst e3; exact policy3 target bands kp ki kd period slots h1 h2
  by_cases e4 : kind = 4
  · subst e4; exact policy4 target bands kp ki kd period slots h1 h2
  have HZ : Hid (polR ⟨kind, target, bands, kp, ki, kd, period, slots⟩ = false) := by show _ = _; unfold polR; rw [if_neg e1, if_neg e2, if_neg e3, if_neg e4]
  have n1 : (kind == 1) = false := by simpa using e1
  have n2 : (kind == 2) = false := by simpa using e2
  have n3 : (kind == 3) = false := by simpa using e3
  have n4 : (kind == 4) = false := by simpa using e4
  clear e1 e2 e3 e4 h1 h2
  unfold plV
  simp only
  go_enter Try.func11, Try.ntmps11
  go_wp2
  go_ret
  exact ⟨ret_bool (by rw [HZ.out]), (bel1 (Below.refl _ _) _)⟩
end Go.Proofs.Ytnpakjdgcmbcnaa
