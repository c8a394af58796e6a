/- The document's within and none. -/
import Derived.Test.YtpgjjdpblilljaaPrw
import Derived.Test.YtpgjjdpblilljaaProg
import Derived.Test.YtpgjjdpblilljaaChecked
namespace Go.Proofs.Ytpgjjdpblilljaa
open Go.RowKit
open Wir Evn
attribute [local go_sem] Oper.semAt_some
set_option linter.unusedVariables false
set_option linter.unusedSimpArgs false

theorem dwithin_any (n l m : Int) (w : World) :
    Calls Try.prog 31 #[.int .i64 n, .int .i64 l, .int .i64 m] w fun e w' => e = .returned (.bool (decide (l ≤ n ∧ n ≤ m))) ∧ w' = w := by
  by_cases h1 : l ≤ n
  · by_cases h2 : n ≤ m
    · rw [decide_eq_true ⟨h1, h2⟩]
      go_enter Try.func31, Try.ntmps31
      go_wp2
      go_ret
      exact ⟨rfl, rfl⟩
    · rw [decide_eq_false (fun h => h2 h.2)]
      have h3 : m < n := by omega
      go_enter Try.func31, Try.ntmps31
      go_wp2
      go_ret
      exact ⟨rfl, rfl⟩
  · rw [decide_eq_false (fun h => h1 h.1)]
    have h3 : n < l := by omega
    go_enter Try.func31, Try.ntmps31
    go_wp2
    go_ret
    exact ⟨rfl, rfl⟩
theorem dwithin_to (n l m : Int) (b : Bool) (h : decide (l ≤ n ∧ n ≤ m) = b) (w : World) :
    Calls Try.prog 31 #[.int .i64 n, .int .i64 l, .int .i64 m] w fun e w' => e = .returned (.bool b) ∧ w' = w := h ▸ dwithin_any n l m w
set_option maxRecDepth 100000 in
set_option maxHeartbeats 3200000 in
theorem dnoneA (target : Int) (bands : List (Int × Int)) (kp ki kd period : Int) (slots : List (Int × Int)) (kind : Int) (a1 a2 : Option Addr) (c1 c2 : Nat) (w : World) :
    Calls Try.prog 32 #[.agg #[.int .i64 kind, .int .i64 target, .slice a1 bands.length c1, .int .i64 kp, .int .i64 ki, .int .i64 kd, .int .i64 period, .slice a2 slots.length c2], .bool false, .bool true, .bool true, .bool true] w fun e w' => e = .returned (.bool (zeroR ⟨0, 0, bands, kp, ki, kd, period, slots⟩)) ∧ Below w.heap.size w w' := by
  have HZ : Hid (zeroR ⟨0, 0, bands, kp, ki, kd, period, slots⟩ = decide (bands.length = 0 ∧ kp = 0 ∧ ki = 0 ∧ kd = 0 ∧ period = 0 ∧ slots.length = 0)) := by
    show _ = _
    unfold zeroR
    refine decide_eq_decide.2 ⟨fun h => ?_, fun h => ?_⟩ <;> first | omega | (simp only [List.length_nil, and_true, true_and] at h ⊢; omega) | simp_all
  by_cases h0 : bands.length = 0
  rotate_left
  · have d0 : ((bands.length : Int) == 0) = false := by simpa using h0
    have HH := Lib.hid h0
    clear h0
    go_enter Try.func32, Try.ntmps32
    go_wp2
    go_ret
    refine ⟨ret_bool ?_, bel1 (Below.refl _ _) _⟩
    rw [HZ.out]; symm; rw [decide_eq_false_iff_not]; intro h; exact HH.out (by omega)
  have d0 : ((bands.length : Int) == 0) = true := by simp [h0]
  have H0 := Lib.hid h0
  clear h0
  by_cases h1 : kp = 0
  rotate_left
  · have d1 : (kp == 0) = false := by simpa using h1
    have HH := Lib.hid h1
    clear h1
    go_enter Try.func32, Try.ntmps32
    go_wp2
    go_ret
    refine ⟨ret_bool ?_, bel1 (Below.refl _ _) _⟩
    rw [HZ.out]; symm; rw [decide_eq_false_iff_not]; intro h; exact HH.out (by omega)
  have d1 : (kp == 0) = true := by simp [h1]
  have H1 := Lib.hid h1
  clear h1
  by_cases h2 : ki = 0
  rotate_left
  · have d2 : (ki == 0) = false := by simpa using h2
    have HH := Lib.hid h2
    clear h2
    go_enter Try.func32, Try.ntmps32
    go_wp2
    go_ret
    refine ⟨ret_bool ?_, bel1 (Below.refl _ _) _⟩
    rw [HZ.out]; symm; rw [decide_eq_false_iff_not]; intro h; exact HH.out (by omega)
  have d2 : (ki == 0) = true := by simp [h2]
  have H2 := Lib.hid h2
  clear h2
  by_cases h3 : kd = 0
  rotate_left
  · have d3 : (kd == 0) = false := by simpa using h3
    have HH := Lib.hid h3
    clear h3
    go_enter Try.func32, Try.ntmps32
    go_wp2
    go_ret
    refine ⟨ret_bool ?_, bel1 (Below.refl _ _) _⟩
    rw [HZ.out]; symm; rw [decide_eq_false_iff_not]; intro h; exact HH.out (by omega)
  have d3 : (kd == 0) = true := by simp [h3]
  have H3 := Lib.hid h3
  clear h3
  by_cases h4 : period = 0
  rotate_left
  · have d4 : (period == 0) = false := by simpa using h4
    have HH := Lib.hid h4
    clear h4
    go_enter Try.func32, Try.ntmps32
    go_wp2
    go_ret
    refine ⟨ret_bool ?_, bel1 (Below.refl _ _) _⟩
    rw [HZ.out]; symm; rw [decide_eq_false_iff_not]; intro h; exact HH.out (by omega)
  have d4 : (period == 0) = true := by simp [h4]
  have H4 := Lib.hid h4
  clear h4
  by_cases h5 : slots.length = 0
  rotate_left
  · have d5 : ((slots.length : Int) == 0) = false := by simpa using h5
    have HH := Lib.hid h5
    clear h5
    go_enter Try.func32, Try.ntmps32
    go_wp2
    go_ret
    refine ⟨ret_bool ?_, bel1 (Below.refl _ _) _⟩
    rw [HZ.out]; symm; rw [decide_eq_false_iff_not]; intro h; exact HH.out (by omega)
  have d5 : ((slots.length : Int) == 0) = true := by simp [h5]
  have H5 := Lib.hid h5
  clear h5
  go_enter Try.func32, Try.ntmps32
  go_wp2
  go_ret
  refine ⟨ret_bool ?_, bel1 (Below.refl _ _) _⟩
  rw [HZ.out]; symm; rw [decide_eq_true_eq]; exact ⟨H0.out, H1.out, H2.out, H3.out, H4.out, H5.out⟩
set_option maxRecDepth 100000 in
set_option maxHeartbeats 3200000 in
theorem dnoneB (target : Int) (bands : List (Int × Int)) (kp ki kd period : Int) (slots : List (Int × Int)) (kind : Int) (a1 a2 : Option Addr) (c1 c2 : Nat) (w : World) :
    Calls Try.prog 32 #[.agg #[.int .i64 kind, .int .i64 target, .slice a1 bands.length c1, .int .i64 kp, .int .i64 ki, .int .i64 kd, .int .i64 period, .slice a2 slots.length c2], .bool true, .bool false, .bool true, .bool true] w fun e w' => e = .returned (.bool (zeroR ⟨0, target, [], kp, ki, kd, period, slots⟩)) ∧ Below w.heap.size w w' := by
  have HZ : Hid (zeroR ⟨0, target, [], kp, ki, kd, period, slots⟩ = decide (target = 0 ∧ kp = 0 ∧ ki = 0 ∧ kd = 0 ∧ period = 0 ∧ slots.length = 0)) := by
    show _ = _
    unfold zeroR
    refine decide_eq_decide.2 ⟨fun h => ?_, fun h => ?_⟩ <;> first | omega | (simp only [List.length_nil, and_true, true_and] at h ⊢; omega) | simp_all
  by_cases h0 : target = 0
  rotate_left
  · have d0 : (target == 0) = false := by simpa using h0
    have HH := Lib.hid h0
    clear h0
    go_enter Try.func32, Try.ntmps32
    go_wp2
    go_ret
    refine ⟨ret_bool ?_, bel1 (Below.refl _ _) _⟩
    rw [HZ.out]; symm; rw [decide_eq_false_iff_not]; intro h; exact HH.out (by omega)
  have d0 : (target == 0) = true := by simp [h0]
  have H0 := Lib.hid h0
  clear h0
  by_cases h1 : kp = 0
  rotate_left
  · have d1 : (kp == 0) = false := by simpa using h1
    have HH := Lib.hid h1
    clear h1
    go_enter Try.func32, Try.ntmps32
    go_wp2
    go_ret
    refine ⟨ret_bool ?_, bel1 (Below.refl _ _) _⟩
    rw [HZ.out]; symm; rw [decide_eq_false_iff_not]; intro h; exact HH.out (by omega)
  have d1 : (kp == 0) = true := by simp [h1]
  have H1 := Lib.hid h1
  clear h1
  by_cases h2 : ki = 0
  rotate_left
  · have d2 : (ki == 0) = false := by simpa using h2
    have HH := Lib.hid h2
    clear h2
    go_enter Try.func32, Try.ntmps32
    go_wp2
    go_ret
    refine ⟨ret_bool ?_, bel1 (Below.refl _ _) _⟩
    rw [HZ.out]; symm; rw [decide_eq_false_iff_not]; intro h; exact HH.out (by omega)
  have d2 : (ki == 0) = true := by simp [h2]
  have H2 := Lib.hid h2
  clear h2
  by_cases h3 : kd = 0
  rotate_left
  · have d3 : (kd == 0) = false := by simpa using h3
    have HH := Lib.hid h3
    clear h3
    go_enter Try.func32, Try.ntmps32
    go_wp2
    go_ret
    refine ⟨ret_bool ?_, bel1 (Below.refl _ _) _⟩
    rw [HZ.out]; symm; rw [decide_eq_false_iff_not]; intro h; exact HH.out (by omega)
  have d3 : (kd == 0) = true := by simp [h3]
  have H3 := Lib.hid h3
  clear h3
  by_cases h4 : period = 0
  rotate_left
  · have d4 : (period == 0) = false := by simpa using h4
    have HH := Lib.hid h4
    clear h4
    go_enter Try.func32, Try.ntmps32
    go_wp2
    go_ret
    refine ⟨ret_bool ?_, bel1 (Below.refl _ _) _⟩
    rw [HZ.out]; symm; rw [decide_eq_false_iff_not]; intro h; exact HH.out (by omega)
  have d4 : (period == 0) = true := by simp [h4]
  have H4 := Lib.hid h4
  clear h4
  by_cases h5 : slots.length = 0
  rotate_left
  · have d5 : ((slots.length : Int) == 0) = false := by simpa using h5
    have HH := Lib.hid h5
    clear h5
    go_enter Try.func32, Try.ntmps32
    go_wp2
    go_ret
    refine ⟨ret_bool ?_, bel1 (Below.refl _ _) _⟩
    rw [HZ.out]; symm; rw [decide_eq_false_iff_not]; intro h; exact HH.out (by omega)
  have d5 : ((slots.length : Int) == 0) = true := by simp [h5]
  have H5 := Lib.hid h5
  clear h5
  go_enter Try.func32, Try.ntmps32
  go_wp2
  go_ret
  refine ⟨ret_bool ?_, bel1 (Below.refl _ _) _⟩
  rw [HZ.out]; symm; rw [decide_eq_true_eq]; exact ⟨H0.out, H1.out, H2.out, H3.out, H4.out, H5.out⟩
set_option maxRecDepth 100000 in
set_option maxHeartbeats 3200000 in
theorem dnoneC (target : Int) (bands : List (Int × Int)) (kp ki kd period : Int) (slots : List (Int × Int)) (kind : Int) (a1 a2 : Option Addr) (c1 c2 : Nat) (w : World) :
    Calls Try.prog 32 #[.agg #[.int .i64 kind, .int .i64 target, .slice a1 bands.length c1, .int .i64 kp, .int .i64 ki, .int .i64 kd, .int .i64 period, .slice a2 slots.length c2], .bool false, .bool true, .bool false, .bool true] w fun e w' => e = .returned (.bool (zeroR ⟨0, 0, bands, 0, 0, 0, period, slots⟩)) ∧ Below w.heap.size w w' := by
  have HZ : Hid (zeroR ⟨0, 0, bands, 0, 0, 0, period, slots⟩ = decide (bands.length = 0 ∧ period = 0 ∧ slots.length = 0)) := by
    show _ = _
    unfold zeroR
    refine decide_eq_decide.2 ⟨fun h => ?_, fun h => ?_⟩ <;> first | omega | (simp only [List.length_nil, and_true, true_and] at h ⊢; omega) | simp_all
  by_cases h0 : bands.length = 0
  rotate_left
  · have d0 : ((bands.length : Int) == 0) = false := by simpa using h0
    have HH := Lib.hid h0
    clear h0
    go_enter Try.func32, Try.ntmps32
    go_wp2
    go_ret
    refine ⟨ret_bool ?_, bel1 (Below.refl _ _) _⟩
    rw [HZ.out]; symm; rw [decide_eq_false_iff_not]; intro h; exact HH.out (by omega)
  have d0 : ((bands.length : Int) == 0) = true := by simp [h0]
  have H0 := Lib.hid h0
  clear h0
  by_cases h1 : period = 0
  rotate_left
  · have d1 : (period == 0) = false := by simpa using h1
    have HH := Lib.hid h1
    clear h1
    go_enter Try.func32, Try.ntmps32
    go_wp2
    go_ret
    refine ⟨ret_bool ?_, bel1 (Below.refl _ _) _⟩
    rw [HZ.out]; symm; rw [decide_eq_false_iff_not]; intro h; exact HH.out (by omega)
  have d1 : (period == 0) = true := by simp [h1]
  have H1 := Lib.hid h1
  clear h1
  by_cases h2 : slots.length = 0
  rotate_left
  · have d2 : ((slots.length : Int) == 0) = false := by simpa using h2
    have HH := Lib.hid h2
    clear h2
    go_enter Try.func32, Try.ntmps32
    go_wp2
    go_ret
    refine ⟨ret_bool ?_, bel1 (Below.refl _ _) _⟩
    rw [HZ.out]; symm; rw [decide_eq_false_iff_not]; intro h; exact HH.out (by omega)
  have d2 : ((slots.length : Int) == 0) = true := by simp [h2]
  have H2 := Lib.hid h2
  clear h2
  go_enter Try.func32, Try.ntmps32
  go_wp2
  go_ret
  refine ⟨ret_bool ?_, bel1 (Below.refl _ _) _⟩
  rw [HZ.out]; symm; rw [decide_eq_true_eq]; exact ⟨H0.out, H1.out, H2.out⟩
set_option maxRecDepth 100000 in
set_option maxHeartbeats 3200000 in
theorem dnoneD (target : Int) (bands : List (Int × Int)) (kp ki kd period : Int) (slots : List (Int × Int)) (kind : Int) (a1 a2 : Option Addr) (c1 c2 : Nat) (w : World) :
    Calls Try.prog 32 #[.agg #[.int .i64 kind, .int .i64 target, .slice a1 bands.length c1, .int .i64 kp, .int .i64 ki, .int .i64 kd, .int .i64 period, .slice a2 slots.length c2], .bool true, .bool true, .bool true, .bool false] w fun e w' => e = .returned (.bool (zeroR ⟨0, target, bands, kp, ki, kd, 0, []⟩)) ∧ Below w.heap.size w w' := by
  have HZ : Hid (zeroR ⟨0, target, bands, kp, ki, kd, 0, []⟩ = decide (target = 0 ∧ bands.length = 0 ∧ kp = 0 ∧ ki = 0 ∧ kd = 0)) := by
    show _ = _
    unfold zeroR
    refine decide_eq_decide.2 ⟨fun h => ?_, fun h => ?_⟩ <;> first | omega | (simp only [List.length_nil, and_true, true_and] at h ⊢; omega) | simp_all
  by_cases h0 : target = 0
  rotate_left
  · have d0 : (target == 0) = false := by simpa using h0
    have HH := Lib.hid h0
    clear h0
    go_enter Try.func32, Try.ntmps32
    go_wp2
    go_ret
    refine ⟨ret_bool ?_, bel1 (Below.refl _ _) _⟩
    rw [HZ.out]; symm; rw [decide_eq_false_iff_not]; intro h; exact HH.out (by omega)
  have d0 : (target == 0) = true := by simp [h0]
  have H0 := Lib.hid h0
  clear h0
  by_cases h1 : bands.length = 0
  rotate_left
  · have d1 : ((bands.length : Int) == 0) = false := by simpa using h1
    have HH := Lib.hid h1
    clear h1
    go_enter Try.func32, Try.ntmps32
    go_wp2
    go_ret
    refine ⟨ret_bool ?_, bel1 (Below.refl _ _) _⟩
    rw [HZ.out]; symm; rw [decide_eq_false_iff_not]; intro h; exact HH.out (by omega)
  have d1 : ((bands.length : Int) == 0) = true := by simp [h1]
  have H1 := Lib.hid h1
  clear h1
  by_cases h2 : kp = 0
  rotate_left
  · have d2 : (kp == 0) = false := by simpa using h2
    have HH := Lib.hid h2
    clear h2
    go_enter Try.func32, Try.ntmps32
    go_wp2
    go_ret
    refine ⟨ret_bool ?_, bel1 (Below.refl _ _) _⟩
    rw [HZ.out]; symm; rw [decide_eq_false_iff_not]; intro h; exact HH.out (by omega)
  have d2 : (kp == 0) = true := by simp [h2]
  have H2 := Lib.hid h2
  clear h2
  by_cases h3 : ki = 0
  rotate_left
  · have d3 : (ki == 0) = false := by simpa using h3
    have HH := Lib.hid h3
    clear h3
    go_enter Try.func32, Try.ntmps32
    go_wp2
    go_ret
    refine ⟨ret_bool ?_, bel1 (Below.refl _ _) _⟩
    rw [HZ.out]; symm; rw [decide_eq_false_iff_not]; intro h; exact HH.out (by omega)
  have d3 : (ki == 0) = true := by simp [h3]
  have H3 := Lib.hid h3
  clear h3
  by_cases h4 : kd = 0
  rotate_left
  · have d4 : (kd == 0) = false := by simpa using h4
    have HH := Lib.hid h4
    clear h4
    go_enter Try.func32, Try.ntmps32
    go_wp2
    go_ret
    refine ⟨ret_bool ?_, bel1 (Below.refl _ _) _⟩
    rw [HZ.out]; symm; rw [decide_eq_false_iff_not]; intro h; exact HH.out (by omega)
  have d4 : (kd == 0) = true := by simp [h4]
  have H4 := Lib.hid h4
  clear h4
  go_enter Try.func32, Try.ntmps32
  go_wp2
  go_ret
  refine ⟨ret_bool ?_, bel1 (Below.refl _ _) _⟩
  rw [HZ.out]; symm; rw [decide_eq_true_eq]; exact ⟨H0.out, H1.out, H2.out, H3.out, H4.out⟩
set_option maxRecDepth 100000 in
set_option maxHeartbeats 3200000 in
theorem dnoneE (target : Int) (bands : List (Int × Int)) (kp ki kd period : Int) (slots : List (Int × Int)) (kind : Int) (a1 a2 : Option Addr) (c1 c2 : Nat) (w : World) :
    Calls Try.prog 32 #[.agg #[.int .i64 kind, .int .i64 target, .slice a1 bands.length c1, .int .i64 kp, .int .i64 ki, .int .i64 kd, .int .i64 period, .slice a2 slots.length c2], .bool true, .bool true, .bool true, .bool true] w fun e w' => e = .returned (.bool (zeroR ⟨0, target, bands, kp, ki, kd, period, slots⟩)) ∧ Below w.heap.size w w' := by
  have HZ : Hid (zeroR ⟨0, target, bands, kp, ki, kd, period, slots⟩ = decide (target = 0 ∧ bands.length = 0 ∧ kp = 0 ∧ ki = 0 ∧ kd = 0 ∧ period = 0 ∧ slots.length = 0)) := by
    show _ = _
    unfold zeroR
    refine decide_eq_decide.2 ⟨fun h => ?_, fun h => ?_⟩ <;> first | omega | (simp only [List.length_nil, and_true, true_and] at h ⊢; omega) | simp_all
  by_cases h0 : target = 0
  rotate_left
  · have d0 : (target == 0) = false := by simpa using h0
    have HH := Lib.hid h0
    clear h0
    go_enter Try.func32, Try.ntmps32
    go_wp2
    go_ret
    refine ⟨ret_bool ?_, bel1 (Below.refl _ _) _⟩
    rw [HZ.out]; symm; rw [decide_eq_false_iff_not]; intro h; exact HH.out (by omega)
  have d0 : (target == 0) = true := by simp [h0]
  have H0 := Lib.hid h0
  clear h0
  by_cases h1 : bands.length = 0
  rotate_left
  · have d1 : ((bands.length : Int) == 0) = false := by simpa using h1
    have HH := Lib.hid h1
    clear h1
    go_enter Try.func32, Try.ntmps32
    go_wp2
    go_ret
    refine ⟨ret_bool ?_, bel1 (Below.refl _ _) _⟩
    rw [HZ.out]; symm; rw [decide_eq_false_iff_not]; intro h; exact HH.out (by omega)
  have d1 : ((bands.length : Int) == 0) = true := by simp [h1]
  have H1 := Lib.hid h1
  clear h1
  by_cases h2 : kp = 0
  rotate_left
  · have d2 : (kp == 0) = false := by simpa using h2
    have HH := Lib.hid h2
    clear h2
    go_enter Try.func32, Try.ntmps32
    go_wp2
    go_ret
    refine ⟨ret_bool ?_, bel1 (Below.refl _ _) _⟩
    rw [HZ.out]; symm; rw [decide_eq_false_iff_not]; intro h; exact HH.out (by omega)
  have d2 : (kp == 0) = true := by simp [h2]
  have H2 := Lib.hid h2
  clear h2
  by_cases h3 : ki = 0
  rotate_left
  · have d3 : (ki == 0) = false := by simpa using h3
    have HH := Lib.hid h3
    clear h3
    go_enter Try.func32, Try.ntmps32
    go_wp2
    go_ret
    refine ⟨ret_bool ?_, bel1 (Below.refl _ _) _⟩
    rw [HZ.out]; symm; rw [decide_eq_false_iff_not]; intro h; exact HH.out (by omega)
  have d3 : (ki == 0) = true := by simp [h3]
  have H3 := Lib.hid h3
  clear h3
  by_cases h4 : kd = 0
  rotate_left
  · have d4 : (kd == 0) = false := by simpa using h4
    have HH := Lib.hid h4
    clear h4
    go_enter Try.func32, Try.ntmps32
    go_wp2
    go_ret
    refine ⟨ret_bool ?_, bel1 (Below.refl _ _) _⟩
    rw [HZ.out]; symm; rw [decide_eq_false_iff_not]; intro h; exact HH.out (by omega)
  have d4 : (kd == 0) = true := by simp [h4]
  have H4 := Lib.hid h4
  clear h4
  by_cases h5 : period = 0
  rotate_left
  · have d5 : (period == 0) = false := by simpa using h5
    have HH := Lib.hid h5
    clear h5
    go_enter Try.func32, Try.ntmps32
    go_wp2
    go_ret
    refine ⟨ret_bool ?_, bel1 (Below.refl _ _) _⟩
    rw [HZ.out]; symm; rw [decide_eq_false_iff_not]; intro h; exact HH.out (by omega)
  have d5 : (period == 0) = true := by simp [h5]
  have H5 := Lib.hid h5
  clear h5
  by_cases h6 : slots.length = 0
  rotate_left
  · have d6 : ((slots.length : Int) == 0) = false := by simpa using h6
    have HH := Lib.hid h6
    clear h6
    go_enter Try.func32, Try.ntmps32
    go_wp2
    go_ret
    refine ⟨ret_bool ?_, bel1 (Below.refl _ _) _⟩
    rw [HZ.out]; symm; rw [decide_eq_false_iff_not]; intro h; exact HH.out (by omega)
  have d6 : ((slots.length : Int) == 0) = true := by simp [h6]
  have H6 := Lib.hid h6
  clear h6
  go_enter Try.func32, Try.ntmps32
  go_wp2
  go_ret
  refine ⟨ret_bool ?_, bel1 (Below.refl _ _) _⟩
  rw [HZ.out]; symm; rw [decide_eq_true_eq]; exact ⟨H0.out, H1.out, H2.out, H3.out, H4.out, H5.out, H6.out⟩
end Go.Proofs.Ytpgjjdpblilljaa
