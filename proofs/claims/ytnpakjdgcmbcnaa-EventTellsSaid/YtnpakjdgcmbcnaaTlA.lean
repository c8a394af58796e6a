/- The document's within, none and Zero. The document's bands. The document's slots. The document's Policy. The document's Conf. May an event be so, in the document's order of asking. Policies that are none, as mathematics; rows of pairs of the call's own. The reference's writer: Num, Text, Bytes. The reference's reader: NewReader, End, Num. The reference's reader: Num. The reference's reader: Int, Text. The document's GetPolicy, GetConf. The document's GetConf. The document's PutPolicy, PutConf. Arguments that came in, opened: bytes. Arguments that came in, opened: policies, events. -/
import Derived.Test.YtnpakjdgcmbcnaaEvI
import Derived.Test.YtnpakjdgcmbcnaaEvJ
import Derived.Test.YtnpakjdgcmbcnaaEvHe
import Derived.Test.YtnpakjdgcmbcnaaWrI
import Derived.Test.YtnpakjdgcmbcnaaAp
import Derived.Test.YtnpakjdgcmbcnaaEvO
import Derived.Test.YtnpakjdgcmbcnaaEvK
import Derived.Test.YtnpakjdgcmbcnaaLine
import Derived.Test.YtnpakjdgcmbcnaaProg
import Derived.Test.YtnpakjdgcmbcnaaChecked
import Derived.Deep.QuietTactic
import Derived.BigQuiet
import Derived.Deep.CutRange
import Derived.Deep.DeepCutAuto
import Derived.Maps.AppendAt
import Derived.Laws.AppendOwnNone
import Derived.Laws.Rows
import Derived.Lib.SmallJoins
import Derived.ChangeSlices
import Derived.ProofKit
import Derived.OpenShut
import Derived.Deep.Slices
import Derived.Deep.SlicePairs
namespace Go.Proofs.Ytnpakjdgcmbcnaa
set_option linter.unusedVariables false
set_option linter.unusedSimpArgs false
section
open Go.RowKit
open Wir Evn
attribute [local go_sem] Oper.semAt_some
set_option linter.unusedVariables false
set_option linter.unusedSimpArgs false

theorem dwithin_any (n l m : Int) (w : World) :
    Calls Try.prog 32 #[.int .i64 n, .int .i64 l, .int .i64 m] w fun e w' => e = .returned (.bool (decide (l ≤ n ∧ n ≤ m))) ∧ w' = w := by
  by_cases h1 : l ≤ n
  · by_cases h2 : n ≤ m
    · rw [decide_eq_true ⟨h1, h2⟩]
      go_enter Try.func32, Try.ntmps32
      go_wp2
      go_ret
      exact ⟨rfl, rfl⟩
    · rw [decide_eq_false (fun h => h2 h.2)]
      have h3 : m < n := by omega
      go_enter Try.func32, Try.ntmps32
      go_wp2
      go_ret
      exact ⟨rfl, rfl⟩
  · rw [decide_eq_false (fun h => h1 h.1)]
    have h3 : n < l := by omega
    go_enter Try.func32, Try.ntmps32
    go_wp2
    go_ret
    exact ⟨rfl, rfl⟩
theorem dwithin_to (n l m : Int) (b : Bool) (h : decide (l ≤ n ∧ n ≤ m) = b) (w : World) :
    Calls Try.prog 32 #[.int .i64 n, .int .i64 l, .int .i64 m] w fun e w' => e = .returned (.bool b) ∧ w' = w := h ▸ dwithin_any n l m w
set_option maxRecDepth 100000 in
set_option maxHeartbeats 3200000 in
theorem dnoneA (target : Int) (bands : List (Int × Int)) (kp ki kd period : Int) (slots : List (Int × Int)) (kind : Int) (a1 a2 : Option Addr) (c1 c2 : Nat) (w : World) :
    Calls Try.prog 38 #[.agg #[.int .i64 kind, .int .i64 target, .slice a1 bands.length c1, .int .i64 kp, .int .i64 ki, .int .i64 kd, .int .i64 period, .slice a2 slots.length c2], .bool false, .bool true, .bool true, .bool true] w fun e w' => e = .returned (.bool (zeroR ⟨0, 0, bands, kp, ki, kd, period, slots⟩)) ∧ Below w.heap.size w w' := by
  have HZ : Hid (zeroR ⟨0, 0, bands, kp, ki, kd, period, slots⟩ = decide (bands.length = 0 ∧ kp = 0 ∧ ki = 0 ∧ kd = 0 ∧ period = 0 ∧ slots.length = 0)) := by
    show _ = _
    unfold zeroR
    refine decide_eq_decide.2 ⟨fun h => ?_, fun h => ?_⟩ <;> first | omega | (simp only [List.length_nil, and_true, true_and] at h ⊢; omega) | simp_all
  by_cases h0 : bands.length = 0
  rotate_left
  · have d0 : ((bands.length : Int) == 0) = false := by simpa using h0
    have HH := Lib.hid h0
    clear h0
    go_enter Try.func38, Try.ntmps38
    go_wp2
    go_ret
    refine ⟨ret_bool ?_, bel1 (Below.refl _ _) _⟩
    rw [HZ.out]; symm; rw [decide_eq_false_iff_not]; intro h; exact HH.out (by omega)
  have d0 : ((bands.length : Int) == 0) = true := by simp [h0]
  have H0 := Lib.hid h0
  clear h0
  by_cases h1 : kp = 0
  rotate_left
  · have d1 : (kp == 0) = false := by simpa using h1
    have HH := Lib.hid h1
    clear h1
    go_enter Try.func38, Try.ntmps38
    go_wp2
    go_ret
    refine ⟨ret_bool ?_, bel1 (Below.refl _ _) _⟩
    rw [HZ.out]; symm; rw [decide_eq_false_iff_not]; intro h; exact HH.out (by omega)
  have d1 : (kp == 0) = true := by simp [h1]
  have H1 := Lib.hid h1
  clear h1
  by_cases h2 : ki = 0
  rotate_left
  · have d2 : (ki == 0) = false := by simpa using h2
    have HH := Lib.hid h2
    clear h2
    go_enter Try.func38, Try.ntmps38
    go_wp2
    go_ret
    refine ⟨ret_bool ?_, bel1 (Below.refl _ _) _⟩
    rw [HZ.out]; symm; rw [decide_eq_false_iff_not]; intro h; exact HH.out (by omega)
  have d2 : (ki == 0) = true := by simp [h2]
  have H2 := Lib.hid h2
  clear h2
  by_cases h3 : kd = 0
  rotate_left
  · have d3 : (kd == 0) = false := by simpa using h3
    have HH := Lib.hid h3
    clear h3
    go_enter Try.func38, Try.ntmps38
    go_wp2
    go_ret
    refine ⟨ret_bool ?_, bel1 (Below.refl _ _) _⟩
    rw [HZ.out]; symm; rw [decide_eq_false_iff_not]; intro h; exact HH.out (by omega)
  have d3 : (kd == 0) = true := by simp [h3]
  have H3 := Lib.hid h3
  clear h3
  by_cases h4 : period = 0
  rotate_left
  · have d4 : (period == 0) = false := by simpa using h4
    have HH := Lib.hid h4
    clear h4
    go_enter Try.func38, Try.ntmps38
    go_wp2
    go_ret
    refine ⟨ret_bool ?_, bel1 (Below.refl _ _) _⟩
    rw [HZ.out]; symm; rw [decide_eq_false_iff_not]; intro h; exact HH.out (by omega)
  have d4 : (period == 0) = true := by simp [h4]
  have H4 := Lib.hid h4
  clear h4
  by_cases h5 : slots.length = 0
  rotate_left
  · have d5 : ((slots.length : Int) == 0) = false := by simpa using h5
    have HH := Lib.hid h5
    clear h5
    go_enter Try.func38, Try.ntmps38
    go_wp2
    go_ret
    refine ⟨ret_bool ?_, bel1 (Below.refl _ _) _⟩
    rw [HZ.out]; symm; rw [decide_eq_false_iff_not]; intro h; exact HH.out (by omega)
  have d5 : ((slots.length : Int) == 0) = true := by simp [h5]
  have H5 := Lib.hid h5
  clear h5
  go_enter Try.func38, Try.ntmps38
  go_wp2
  go_ret
  refine ⟨ret_bool ?_, bel1 (Below.refl _ _) _⟩
  rw [HZ.out]; symm; rw [decide_eq_true_eq]; exact ⟨H0.out, H1.out, H2.out, H3.out, H4.out, H5.out⟩
set_option maxRecDepth 100000 in
set_option maxHeartbeats 3200000 in
theorem dnoneB (target : Int) (bands : List (Int × Int)) (kp ki kd period : Int) (slots : List (Int × Int)) (kind : Int) (a1 a2 : Option Addr) (c1 c2 : Nat) (w : World) :
    Calls Try.prog 38 #[.agg #[.int .i64 kind, .int .i64 target, .slice a1 bands.length c1, .int .i64 kp, .int .i64 ki, .int .i64 kd, .int .i64 period, .slice a2 slots.length c2], .bool true, .bool false, .bool true, .bool true] w fun e w' => e = .returned (.bool (zeroR ⟨0, target, [], kp, ki, kd, period, slots⟩)) ∧ Below w.heap.size w w' := by
  have HZ : Hid (zeroR ⟨0, target, [], kp, ki, kd, period, slots⟩ = decide (target = 0 ∧ kp = 0 ∧ ki = 0 ∧ kd = 0 ∧ period = 0 ∧ slots.length = 0)) := by
    show _ = _
    unfold zeroR
    refine decide_eq_decide.2 ⟨fun h => ?_, fun h => ?_⟩ <;> first | omega | (simp only [List.length_nil, and_true, true_and] at h ⊢; omega) | simp_all
  by_cases h0 : target = 0
  rotate_left
  · have d0 : (target == 0) = false := by simpa using h0
    have HH := Lib.hid h0
    clear h0
    go_enter Try.func38, Try.ntmps38
    go_wp2
    go_ret
    refine ⟨ret_bool ?_, bel1 (Below.refl _ _) _⟩
    rw [HZ.out]; symm; rw [decide_eq_false_iff_not]; intro h; exact HH.out (by omega)
  have d0 : (target == 0) = true := by simp [h0]
  have H0 := Lib.hid h0
  clear h0
  by_cases h1 : kp = 0
  rotate_left
  · have d1 : (kp == 0) = false := by simpa using h1
    have HH := Lib.hid h1
    clear h1
    go_enter Try.func38, Try.ntmps38
    go_wp2
    go_ret
    refine ⟨ret_bool ?_, bel1 (Below.refl _ _) _⟩
    rw [HZ.out]; symm; rw [decide_eq_false_iff_not]; intro h; exact HH.out (by omega)
  have d1 : (kp == 0) = true := by simp [h1]
  have H1 := Lib.hid h1
  clear h1
  by_cases h2 : ki = 0
  rotate_left
  · have d2 : (ki == 0) = false := by simpa using h2
    have HH := Lib.hid h2
    clear h2
    go_enter Try.func38, Try.ntmps38
    go_wp2
    go_ret
    refine ⟨ret_bool ?_, bel1 (Below.refl _ _) _⟩
    rw [HZ.out]; symm; rw [decide_eq_false_iff_not]; intro h; exact HH.out (by omega)
  have d2 : (ki == 0) = true := by simp [h2]
  have H2 := Lib.hid h2
  clear h2
  by_cases h3 : kd = 0
  rotate_left
  · have d3 : (kd == 0) = false := by simpa using h3
    have HH := Lib.hid h3
    clear h3
    go_enter Try.func38, Try.ntmps38
    go_wp2
    go_ret
    refine ⟨ret_bool ?_, bel1 (Below.refl _ _) _⟩
    rw [HZ.out]; symm; rw [decide_eq_false_iff_not]; intro h; exact HH.out (by omega)
  have d3 : (kd == 0) = true := by simp [h3]
  have H3 := Lib.hid h3
  clear h3
  by_cases h4 : period = 0
  rotate_left
  · have d4 : (period == 0) = false := by simpa using h4
    have HH := Lib.hid h4
    clear h4
    go_enter Try.func38, Try.ntmps38
    go_wp2
    go_ret
    refine ⟨ret_bool ?_, bel1 (Below.refl _ _) _⟩
    rw [HZ.out]; symm; rw [decide_eq_false_iff_not]; intro h; exact HH.out (by omega)
  have d4 : (period == 0) = true := by simp [h4]
  have H4 := Lib.hid h4
  clear h4
  by_cases h5 : slots.length = 0
  rotate_left
  · have d5 : ((slots.length : Int) == 0) = false := by simpa using h5
    have HH := Lib.hid h5
    clear h5
    go_enter Try.func38, Try.ntmps38
    go_wp2
    go_ret
    refine ⟨ret_bool ?_, bel1 (Below.refl _ _) _⟩
    rw [HZ.out]; symm; rw [decide_eq_false_iff_not]; intro h; exact HH.out (by omega)
  have d5 : ((slots.length : Int) == 0) = true := by simp [h5]
  have H5 := Lib.hid h5
  clear h5
  go_enter Try.func38, Try.ntmps38
  go_wp2
  go_ret
  refine ⟨ret_bool ?_, bel1 (Below.refl _ _) _⟩
  rw [HZ.out]; symm; rw [decide_eq_true_eq]; exact ⟨H0.out, H1.out, H2.out, H3.out, H4.out, H5.out⟩
set_option maxRecDepth 100000 in
set_option maxHeartbeats 3200000 in
theorem dnoneC (target : Int) (bands : List (Int × Int)) (kp ki kd period : Int) (slots : List (Int × Int)) (kind : Int) (a1 a2 : Option Addr) (c1 c2 : Nat) (w : World) :
    Calls Try.prog 38 #[.agg #[.int .i64 kind, .int .i64 target, .slice a1 bands.length c1, .int .i64 kp, .int .i64 ki, .int .i64 kd, .int .i64 period, .slice a2 slots.length c2], .bool false, .bool true, .bool false, .bool true] w fun e w' => e = .returned (.bool (zeroR ⟨0, 0, bands, 0, 0, 0, period, slots⟩)) ∧ Below w.heap.size w w' := by
  have HZ : Hid (zeroR ⟨0, 0, bands, 0, 0, 0, period, slots⟩ = decide (bands.length = 0 ∧ period = 0 ∧ slots.length = 0)) := by
    show _ = _
    unfold zeroR
    refine decide_eq_decide.2 ⟨fun h => ?_, fun h => ?_⟩ <;> first | omega | (simp only [List.length_nil, and_true, true_and] at h ⊢; omega) | simp_all
  by_cases h0 : bands.length = 0
  rotate_left
  · have d0 : ((bands.length : Int) == 0) = false := by simpa using h0
    have HH := Lib.hid h0
    clear h0
    go_enter Try.func38, Try.ntmps38
    go_wp2
    go_ret
    refine ⟨ret_bool ?_, bel1 (Below.refl _ _) _⟩
    rw [HZ.out]; symm; rw [decide_eq_false_iff_not]; intro h; exact HH.out (by omega)
  have d0 : ((bands.length : Int) == 0) = true := by simp [h0]
  have H0 := Lib.hid h0
  clear h0
  by_cases h1 : period = 0
  rotate_left
  · have d1 : (period == 0) = false := by simpa using h1
    have HH := Lib.hid h1
    clear h1
    go_enter Try.func38, Try.ntmps38
    go_wp2
    go_ret
    refine ⟨ret_bool ?_, bel1 (Below.refl _ _) _⟩
    rw [HZ.out]; symm; rw [decide_eq_false_iff_not]; intro h; exact HH.out (by omega)
  have d1 : (period == 0) = true := by simp [h1]
  have H1 := Lib.hid h1
  clear h1
  by_cases h2 : slots.length = 0
  rotate_left
  · have d2 : ((slots.length : Int) == 0) = false := by simpa using h2
    have HH := Lib.hid h2
    clear h2
    go_enter Try.func38, Try.ntmps38
    go_wp2
    go_ret
    refine ⟨ret_bool ?_, bel1 (Below.refl _ _) _⟩
    rw [HZ.out]; symm; rw [decide_eq_false_iff_not]; intro h; exact HH.out (by omega)
  have d2 : ((slots.length : Int) == 0) = true := by simp [h2]
  have H2 := Lib.hid h2
  clear h2
  go_enter Try.func38, Try.ntmps38
  go_wp2
  go_ret
  refine ⟨ret_bool ?_, bel1 (Below.refl _ _) _⟩
  rw [HZ.out]; symm; rw [decide_eq_true_eq]; exact ⟨H0.out, H1.out, H2.out⟩
set_option maxRecDepth 100000 in
set_option maxHeartbeats 3200000 in
theorem dnoneD (target : Int) (bands : List (Int × Int)) (kp ki kd period : Int) (slots : List (Int × Int)) (kind : Int) (a1 a2 : Option Addr) (c1 c2 : Nat) (w : World) :
    Calls Try.prog 38 #[.agg #[.int .i64 kind, .int .i64 target, .slice a1 bands.length c1, .int .i64 kp, .int .i64 ki, .int .i64 kd, .int .i64 period, .slice a2 slots.length c2], .bool true, .bool true, .bool true, .bool false] w fun e w' => e = .returned (.bool (zeroR ⟨0, target, bands, kp, ki, kd, 0, []⟩)) ∧ Below w.heap.size w w' := by
  have HZ : Hid (zeroR ⟨0, target, bands, kp, ki, kd, 0, []⟩ = decide (target = 0 ∧ bands.length = 0 ∧ kp = 0 ∧ ki = 0 ∧ kd = 0)) := by
    show _ = _
    unfold zeroR
    refine decide_eq_decide.2 ⟨fun h => ?_, fun h => ?_⟩ <;> first | omega | (simp only [List.length_nil, and_true, true_and] at h ⊢; omega) | simp_all
  by_cases h0 : target = 0
  rotate_left
  · have d0 : (target == 0) = false := by simpa using h0
    have HH := Lib.hid h0
    clear h0
    go_enter Try.func38, Try.ntmps38
    go_wp2
    go_ret
    refine ⟨ret_bool ?_, bel1 (Below.refl _ _) _⟩
    rw [HZ.out]; symm; rw [decide_eq_false_iff_not]; intro h; exact HH.out (by omega)
  have d0 : (target == 0) = true := by simp [h0]
  have H0 := Lib.hid h0
  clear h0
  by_cases h1 : bands.length = 0
  rotate_left
  · have d1 : ((bands.length : Int) == 0) = false := by simpa using h1
    have HH := Lib.hid h1
    clear h1
    go_enter Try.func38, Try.ntmps38
    go_wp2
    go_ret
    refine ⟨ret_bool ?_, bel1 (Below.refl _ _) _⟩
    rw [HZ.out]; symm; rw [decide_eq_false_iff_not]; intro h; exact HH.out (by omega)
  have d1 : ((bands.length : Int) == 0) = true := by simp [h1]
  have H1 := Lib.hid h1
  clear h1
  by_cases h2 : kp = 0
  rotate_left
  · have d2 : (kp == 0) = false := by simpa using h2
    have HH := Lib.hid h2
    clear h2
    go_enter Try.func38, Try.ntmps38
    go_wp2
    go_ret
    refine ⟨ret_bool ?_, bel1 (Below.refl _ _) _⟩
    rw [HZ.out]; symm; rw [decide_eq_false_iff_not]; intro h; exact HH.out (by omega)
  have d2 : (kp == 0) = true := by simp [h2]
  have H2 := Lib.hid h2
  clear h2
  by_cases h3 : ki = 0
  rotate_left
  · have d3 : (ki == 0) = false := by simpa using h3
    have HH := Lib.hid h3
    clear h3
    go_enter Try.func38, Try.ntmps38
    go_wp2
    go_ret
    refine ⟨ret_bool ?_, bel1 (Below.refl _ _) _⟩
    rw [HZ.out]; symm; rw [decide_eq_false_iff_not]; intro h; exact HH.out (by omega)
  have d3 : (ki == 0) = true := by simp [h3]
  have H3 := Lib.hid h3
  clear h3
  by_cases h4 : kd = 0
  rotate_left
  · have d4 : (kd == 0) = false := by simpa using h4
    have HH := Lib.hid h4
    clear h4
    go_enter Try.func38, Try.ntmps38
    go_wp2
    go_ret
    refine ⟨ret_bool ?_, bel1 (Below.refl _ _) _⟩
    rw [HZ.out]; symm; rw [decide_eq_false_iff_not]; intro h; exact HH.out (by omega)
  have d4 : (kd == 0) = true := by simp [h4]
  have H4 := Lib.hid h4
  clear h4
  go_enter Try.func38, Try.ntmps38
  go_wp2
  go_ret
  refine ⟨ret_bool ?_, bel1 (Below.refl _ _) _⟩
  rw [HZ.out]; symm; rw [decide_eq_true_eq]; exact ⟨H0.out, H1.out, H2.out, H3.out, H4.out⟩
set_option maxRecDepth 100000 in
set_option maxHeartbeats 3200000 in
theorem dnoneE (target : Int) (bands : List (Int × Int)) (kp ki kd period : Int) (slots : List (Int × Int)) (kind : Int) (a1 a2 : Option Addr) (c1 c2 : Nat) (w : World) :
    Calls Try.prog 38 #[.agg #[.int .i64 kind, .int .i64 target, .slice a1 bands.length c1, .int .i64 kp, .int .i64 ki, .int .i64 kd, .int .i64 period, .slice a2 slots.length c2], .bool true, .bool true, .bool true, .bool true] w fun e w' => e = .returned (.bool (zeroR ⟨0, target, bands, kp, ki, kd, period, slots⟩)) ∧ Below w.heap.size w w' := by
  have HZ : Hid (zeroR ⟨0, target, bands, kp, ki, kd, period, slots⟩ = decide (target = 0 ∧ bands.length = 0 ∧ kp = 0 ∧ ki = 0 ∧ kd = 0 ∧ period = 0 ∧ slots.length = 0)) := by
    show _ = _
    unfold zeroR
    refine decide_eq_decide.2 ⟨fun h => ?_, fun h => ?_⟩ <;> first | omega | (simp only [List.length_nil, and_true, true_and] at h ⊢; omega) | simp_all
  by_cases h0 : target = 0
  rotate_left
  · have d0 : (target == 0) = false := by simpa using h0
    have HH := Lib.hid h0
    clear h0
    go_enter Try.func38, Try.ntmps38
    go_wp2
    go_ret
    refine ⟨ret_bool ?_, bel1 (Below.refl _ _) _⟩
    rw [HZ.out]; symm; rw [decide_eq_false_iff_not]; intro h; exact HH.out (by omega)
  have d0 : (target == 0) = true := by simp [h0]
  have H0 := Lib.hid h0
  clear h0
  by_cases h1 : bands.length = 0
  rotate_left
  · have d1 : ((bands.length : Int) == 0) = false := by simpa using h1
    have HH := Lib.hid h1
    clear h1
    go_enter Try.func38, Try.ntmps38
    go_wp2
    go_ret
    refine ⟨ret_bool ?_, bel1 (Below.refl _ _) _⟩
    rw [HZ.out]; symm; rw [decide_eq_false_iff_not]; intro h; exact HH.out (by omega)
  have d1 : ((bands.length : Int) == 0) = true := by simp [h1]
  have H1 := Lib.hid h1
  clear h1
  by_cases h2 : kp = 0
  rotate_left
  · have d2 : (kp == 0) = false := by simpa using h2
    have HH := Lib.hid h2
    clear h2
    go_enter Try.func38, Try.ntmps38
    go_wp2
    go_ret
    refine ⟨ret_bool ?_, bel1 (Below.refl _ _) _⟩
    rw [HZ.out]; symm; rw [decide_eq_false_iff_not]; intro h; exact HH.out (by omega)
  have d2 : (kp == 0) = true := by simp [h2]
  have H2 := Lib.hid h2
  clear h2
  by_cases h3 : ki = 0
  rotate_left
  · have d3 : (ki == 0) = false := by simpa using h3
    have HH := Lib.hid h3
    clear h3
    go_enter Try.func38, Try.ntmps38
    go_wp2
    go_ret
    refine ⟨ret_bool ?_, bel1 (Below.refl _ _) _⟩
    rw [HZ.out]; symm; rw [decide_eq_false_iff_not]; intro h; exact HH.out (by omega)
  have d3 : (ki == 0) = true := by simp [h3]
  have H3 := Lib.hid h3
  clear h3
  by_cases h4 : kd = 0
  rotate_left
  · have d4 : (kd == 0) = false := by simpa using h4
    have HH := Lib.hid h4
    clear h4
    go_enter Try.func38, Try.ntmps38
    go_wp2
    go_ret
    refine ⟨ret_bool ?_, bel1 (Below.refl _ _) _⟩
    rw [HZ.out]; symm; rw [decide_eq_false_iff_not]; intro h; exact HH.out (by omega)
  have d4 : (kd == 0) = true := by simp [h4]
  have H4 := Lib.hid h4
  clear h4
  by_cases h5 : period = 0
  rotate_left
  · have d5 : (period == 0) = false := by simpa using h5
    have HH := Lib.hid h5
    clear h5
    go_enter Try.func38, Try.ntmps38
    go_wp2
    go_ret
    refine ⟨ret_bool ?_, bel1 (Below.refl _ _) _⟩
    rw [HZ.out]; symm; rw [decide_eq_false_iff_not]; intro h; exact HH.out (by omega)
  have d5 : (period == 0) = true := by simp [h5]
  have H5 := Lib.hid h5
  clear h5
  by_cases h6 : slots.length = 0
  rotate_left
  · have d6 : ((slots.length : Int) == 0) = false := by simpa using h6
    have HH := Lib.hid h6
    clear h6
    go_enter Try.func38, Try.ntmps38
    go_wp2
    go_ret
    refine ⟨ret_bool ?_, bel1 (Below.refl _ _) _⟩
    rw [HZ.out]; symm; rw [decide_eq_false_iff_not]; intro h; exact HH.out (by omega)
  have d6 : ((slots.length : Int) == 0) = true := by simp [h6]
  have H6 := Lib.hid h6
  clear h6
  go_enter Try.func38, Try.ntmps38
  go_wp2
  go_ret
  refine ⟨ret_bool ?_, bel1 (Below.refl _ _) _⟩
  rw [HZ.out]; symm; rw [decide_eq_true_eq]; exact ⟨H0.out, H1.out, H2.out, H3.out, H4.out, H5.out, H6.out⟩
set_option maxRecDepth 100000 in
set_option maxHeartbeats 3200000 in
theorem dzero_any (p : Pl) (a1 a2 : Option Addr) (c1 c2 : Nat) (w : World) :
    Calls Try.prog 31 #[plV p a1 a2 c1 c2] w fun e w' => e = .returned (.bool (zeroR p)) ∧ Below w.heap.size w w' := by
  obtain ⟨kind, target, bands, kp, ki, kd, period, slots⟩ := p
  unfold plV
  simp only
  by_cases h1 : kind = 0
  · subst h1
    go_enter Try.func31, Try.ntmps31
    go_wp2_with fail
    refine (dnoneE target bands kp ki kd period slots 0 a1 a2 c1 c2 _).mono ?_
    rintro e w1 ⟨rfl, hb⟩
    have HB := Lib.hid (bel2 (bel1 (Below.refl _ _) _) hb)
    clear hb
    go_wp2
    go_ret
    exact ⟨rfl, HB.out⟩
  · have n1 : (kind == 0) = false := by simpa using h1
    have HN := Lib.hid h1
    clear h1
    go_enter Try.func31, Try.ntmps31
    go_wp2
    go_ret
    exact ⟨ret_bool (by symm; unfold zeroR; rw [decide_eq_false_iff_not]; intro h; exact HN.out h.1), bel1 (Below.refl _ _) _⟩
end
section
open Go.RowKit
open Wir Evn
attribute [local go_sem] Oper.semAt_some
set_option linter.unusedVariables false
set_option linter.unusedSimpArgs false

theorem below_drewN {B : Nat} {a w : World} {n : Nat} (h : Below B a w) : Below B a (w.drewN n) := ⟨h.os, h.tape, h.output, h.size, h.block⟩
set_option maxRecDepth 100000 in
set_option maxHeartbeats 3200000 in
theorem dbands_any {w : World} {a : Option Addr} {n c : Nat} {l : List (Int × Int)} (h : PRow w a n c l) :
    Calls Try.prog 39 #[.slice a n c] w fun e w' => e = .returned (.bool (bandsOk l)) ∧ Below w.heap.size w w' := by
  have HZ : Hid (bandsOk l = (decide (1 ≤ n ∧ n ≤ 8) && bandsR 0 l)) := by show _ = _; unfold bandsOk; rw [h.2]
  have HR := Lib.hid h
  have hmax : n ≤ 9223372036854775807 := by have h1 := h.1.le; have h2 := h.1.max; unfold maxLen at h2; omega
  clear h
  go_enter Try.func39, Try.ntmps39
  go_wp2_with fail
  go_loopw [3] (fun i wx => ∃ (k : Nat) (q : Int), k ≤ n ∧ i = .int .i64 (k : Int) ∧ bandsR 0 l = bandsR q (l.drop k) ∧ ((k = 0 ∧ q = 0) ∨ (0 < k ∧ q = (l.getD (k - 1) (0, 0)).1 + 1 ∧ 0 ≤ q - 1 ∧ q - 1 ≤ 1000000000)) ∧ Below w.heap.size w wx) (fun i _ => n - (intOf i).toNat)
  case atStart => exact ⟨0, 0, Nat.zero_le _, rfl, rfl, .inl ⟨rfl, rfl⟩, Below.refl _ _⟩
  case round =>
    obtain ⟨k, q, hk, rfl, hu, hq, hb⟩ := hrel
    by_cases hlt : k < n
    · have hlt' : (k : Int) < (n : Int) := by omega
      obtain ⟨b, o, rfl, hbl, hc⟩ := HR.out.cell (by omega)
      have hlk : k < l.length := by have := HR.out.2; omega
      have hd : l.drop k = l.getD k (0, 0) :: l.drop (k + 1) := by rw [List.drop_eq_getElem_cons hlk, List.getD_eq_getElem?_getD, List.getElem?_eq_getElem hlk]; rfl
      have HX1 : Hid ((l.getD (k + 1 - 1) (0, 0)) = l.getD k (0, 0)) := by show _ = _; rw [Nat.add_sub_cancel]
      have c0 := (hb.cell (p := ⟨b, o + k * 2, none⟩) hbl).trans (hc k hlt).1
      have c1 := (hb.cell (p := ⟨b, o + k * 2 + 1, none⟩) hbl).trans (hc k hlt).2
      rw [hd] at hu
      generalize hx : l.getD k (0, 0) = x at hu c0 c1 HX1
      obtain ⟨x, y⟩ := x
      simp only at c0 c1
      have HB := Lib.hid hb
      have d1 : (k : Int) < 9223372036854775807 := by omega
      have hk0 : (0 : Int) ≤ (k : Int) := by omega
      by_cases k0 : k = 0
      · have hq0 : q = 0 := by omega
        subst hq0
        have HU := Lib.hid hu
        have HK := Lib.hid (And.intro k0 hlt)
        have dk : decide (0 < k) = false := by simp; omega
        clear hu hd hc hlk hb hk hx hq k0
        by_cases hx : 0 ≤ x ∧ x ≤ 1000000000
        · have W1 := Lib.hid (dwithin_to x 0 1000000000 true (by simpa using hx))
          by_cases hy : -1000 ≤ y ∧ y ≤ 1000
          · have W2 := Lib.hid (dwithin_to y (-1000) 1000 true (by simpa using hy))
            have HX := Lib.hid (And.intro hx hy)
            clear hx hy
            go_wp2_with fail
            go_quiet ((first | (go_at_call 32; with_reducible exact Calls.quiet_of_same (W1.out _)) | (go_at_call 32; with_reducible exact Calls.quiet_of_same (W2.out _))))
            go_wp2_with fail
            go_roundw
            case rel =>
              refine ⟨k + 1, x + 1, by have := HK.out; omega, by go_num, ?_, .inr ⟨by omega, by rw [HX1.out], by have := HX.out; omega, by have := HX.out; omega⟩, below_drewN HB.out⟩
              rw [HU.out]; simp only [bandsR]; rw [decide_eq_true HX.out.1, decide_eq_true HX.out.2]; rfl
            case measure => have := HK.out; simp [intOf]; omega
          · have W2 := Lib.hid (dwithin_to y (-1000) 1000 false (by simpa using hy))
            have HX := Lib.hid hy
            clear hx hy
            go_wp2_with fail
            go_quiet ((first | (go_at_call 32; with_reducible exact Calls.quiet_of_same (W1.out _)) | (go_at_call 32; with_reducible exact Calls.quiet_of_same (W2.out _))))
            go_wp2
            go_ret
            refine ⟨ret_bool ?_, below_drewN HB.out⟩
            rw [HZ.out, HU.out]; simp only [bandsR]; rw [decide_eq_false HX.out]; simp
        · have W1 := Lib.hid (dwithin_to x 0 1000000000 false (by simpa using hx))
          have HX := Lib.hid hx
          clear hx
          go_wp2_with fail
          go_quiet ((go_at_call 32; with_reducible exact Calls.quiet_of_same (W1.out _)))
          go_wp2
          go_ret
          refine ⟨ret_bool ?_, below_drewN HB.out⟩
          rw [HZ.out, HU.out]; simp only [bandsR]; rw [decide_eq_false HX.out]; simp
      · have k1 : (0 : Int) < (k : Int) := by omega
        obtain ⟨hq1, hq2, hq3⟩ : q = (l.getD (k - 1) (0, 0)).1 + 1 ∧ 0 ≤ q - 1 ∧ q - 1 ≤ 1000000000 := by omega
        have hwk : IntKind.i64.wrap ((k : Int) - 1) = ((k - 1 : Nat) : Int) := by rw [IntKind.wrap_i64]; omega
        have cp := (hb.cell (p := ⟨b, o + (k - 1) * 2, none⟩) hbl).trans (hc (k - 1) (by omega)).1
        have hp1 : ((k - 1 : Nat) : Int) < (n : Int) := by omega
        have hp0 : (0 : Int) ≤ ((k - 1 : Nat) : Int) := by omega
        have hpn : ((k - 1 : Nat) : Int).toNat = k - 1 := by omega
        generalize (l.getD (k - 1) (0, 0)).1 = v at *
        have HU := Lib.hid (And.intro hu (And.intro hq1 (And.intro hq2 hq3)))
        have HK := Lib.hid (And.intro hk hlt)
        clear hu hd hc hlk hb hk hx hq hq1 hq2 hq3
        generalize k - 1 = kp at *
        have dk : decide (0 < k) = true := by simp; omega
        by_cases hx : 0 ≤ x ∧ x ≤ 1000000000
        · have W1 := Lib.hid (dwithin_to x 0 1000000000 true (by simpa using hx))
          by_cases hv : x ≤ v
          · have HX := Lib.hid (And.intro hx hv)
            clear hx
            go_wp2_with fail
            go_quiet ((go_at_call 32; with_reducible exact Calls.quiet_of_same (W1.out _)))
            go_wp2
            go_ret
            refine ⟨ret_bool ?_, below_drewN HB.out⟩
            rw [HZ.out, HU.out.1]; simp only [bandsR]; rw [decide_eq_false (show ¬ (q ≤ x ∧ x ≤ 1000000000) by have := HX.out; have := HU.out.2; omega)]; simp
          · have dv : decide (x ≤ v) = false := by simp; omega
            by_cases hy : -1000 ≤ y ∧ y ≤ 1000
            · have W2 := Lib.hid (dwithin_to y (-1000) 1000 true (by simpa using hy))
              have HX := Lib.hid (And.intro hx (And.intro hy hv))
              clear hx hy hv
              go_wp2_with fail
              go_quiet ((first | (go_at_call 32; with_reducible exact Calls.quiet_of_same (W1.out _)) | (go_at_call 32; with_reducible exact Calls.quiet_of_same (W2.out _))))
              go_wp2_with fail
              go_roundw
              case rel =>
                refine ⟨k + 1, x + 1, by have := HK.out; omega, by go_num, ?_, .inr ⟨by omega, by rw [HX1.out], by have := HX.out; omega, by have := HX.out; omega⟩, below_drewN HB.out⟩
                rw [HU.out.1]; simp only [bandsR]; rw [decide_eq_true (show q ≤ x ∧ x ≤ 1000000000 by have := HX.out; have := HU.out.2; omega), decide_eq_true HX.out.2.1]; rfl
              case measure => have := HK.out; simp [intOf]; omega
            · have W2 := Lib.hid (dwithin_to y (-1000) 1000 false (by simpa using hy))
              have HX := Lib.hid hy
              clear hx hy hv
              go_wp2_with fail
              go_quiet ((first | (go_at_call 32; with_reducible exact Calls.quiet_of_same (W1.out _)) | (go_at_call 32; with_reducible exact Calls.quiet_of_same (W2.out _))))
              go_wp2
              go_ret
              refine ⟨ret_bool ?_, below_drewN HB.out⟩
              rw [HZ.out, HU.out.1]; simp only [bandsR]; rw [decide_eq_false HX.out]; simp
        · have W1 := Lib.hid (dwithin_to x 0 1000000000 false (by simpa using hx))
          have HX := Lib.hid hx
          clear hx
          go_wp2_with fail
          go_quiet ((go_at_call 32; with_reducible exact Calls.quiet_of_same (W1.out _)))
          go_wp2
          go_ret
          refine ⟨ret_bool ?_, below_drewN HB.out⟩
          rw [HZ.out, HU.out.1]; simp only [bandsR]; rw [decide_eq_false (show ¬ (q ≤ x ∧ x ≤ 1000000000) by have := HX.out; have := HU.out.2; omega)]; simp
    · have hlt' : ¬ (k : Int) < (n : Int) := by omega
      have ek : k = n := by omega
      subst ek
      have e9 : l.drop k = [] := List.drop_eq_nil_of_le (by have := HR.out.2; omega)
      have HB := Lib.hid (And.intro hu hb)
      have HE := Lib.hid e9
      clear hu hb e9 hq hlt hk
      by_cases n1 : 1 ≤ k
      · have n1' : (1 : Int) ≤ (k : Int) := by omega
        by_cases n8 : k ≤ 8
        · have n8' : (k : Int) ≤ 8 := by omega
          have HN := Lib.hid (And.intro n1 n8)
          go_wp2
          go_ret
          refine ⟨ret_bool ?_, HB.out.2⟩
          rw [HZ.out, HB.out.1, HE.out, decide_eq_true HN.out]; rfl
        · have n8' : ¬ ((k : Int) ≤ 8) := by omega
          have d8 : decide ((k : Int) ≤ 8) = false := by simp; omega
          have HN := Lib.hid n8
          clear n8 n8'
          go_wp2
          go_ret
          refine ⟨ret_bool ?_, HB.out.2⟩
          rw [HZ.out, decide_eq_false (fun h => HN.out h.2)]; rfl
      · have e0 : k = 0 := by omega
        have HN := Lib.hid n1
        have d8 : decide ((1 : Int) ≤ (k : Int)) = false := by simp; omega
        clear n1
        go_wp2
        go_ret
        refine ⟨ret_bool ?_, HB.out.2⟩
        rw [HZ.out, decide_eq_false (fun h => HN.out h.1)]; rfl
end
section
open Go.RowKit
open Wir Evn
attribute [local go_sem] Oper.semAt_some
set_option linter.unusedVariables false
set_option linter.unusedSimpArgs false

def dslR (l : List (Int × Int)) (period : Int) : Bool := decide (1 ≤ period ∧ period ≤ 1099511627776) && slotsOk l period
set_option maxRecDepth 100000 in
set_option maxHeartbeats 3200000 in
theorem dslots_any {w : World} {a : Option Addr} {n c : Nat} {l : List (Int × Int)} (h : PRow w a n c l) (period : Int) :
    Calls Try.prog 40 #[.slice a n c, .int .i64 period] w fun e w' => e = .returned (.bool (dslR l period)) ∧ Below w.heap.size w w' := by
  have HZ : Hid (slotsOk l period = (decide (1 ≤ n ∧ n ≤ 8) && (decide ((l.getD 0 (1, 0)).1 = 0) && slotsR period 0 l))) := by show _ = _; unfold slotsOk; rw [h.2]
  have HR := Lib.hid h
  have HB0 := Lib.hid (Below.refl w.heap.size w)
  clear h
  by_cases n1 : n < 1
  · have n1' : (n : Int) < 1 := by omega
    have HN := Lib.hid n1
    clear n1
    go_enter Try.func40, Try.ntmps40
    go_wp2
    go_ret
    exact ⟨ret_bool (by unfold dslR; rw [HZ.out, decide_eq_false (show ¬ (1 ≤ n ∧ n ≤ 8) by have := HN.out; omega)]; simp), HB0.out⟩
  by_cases n8 : 8 < n
  · have n8' : (8 : Int) < (n : Int) := by omega
    have d1 : decide ((n : Int) < 1) = false := by simp; omega
    have HN := Lib.hid n8
    clear n8 n1
    go_enter Try.func40, Try.ntmps40
    go_wp2
    go_ret
    exact ⟨ret_bool (by unfold dslR; rw [HZ.out, decide_eq_false (show ¬ (1 ≤ n ∧ n ≤ 8) by have := HN.out; omega)]; simp), HB0.out⟩
  have d1 : decide ((n : Int) < 1) = false := by simp; omega
  have d8 : decide ((8 : Int) < (n : Int)) = false := by simp; omega
  have hn : 1 ≤ n ∧ n ≤ 8 := by omega
  have HN := Lib.hid hn
  have hn0 : 0 < n := by omega
  have hn0' : (0 : Int) < (n : Int) := by omega
  have hn8 : n ≤ 8 := by omega
  obtain ⟨b, o, rfl, hbl, hc⟩ := HR.out.cell hn0
  have c0 := (hc 0 hn0).1
  have hl0 : 0 < l.length := by have := HR.out.2; omega
  have e0 : l.getD 0 (1, 0) = l.getD 0 (0, 0) := by rw [List.getD_eq_getElem?_getD, List.getD_eq_getElem?_getD, List.getElem?_eq_getElem hl0]; rfl
  rw [← e0] at c0
  have c00 : w.cell? ⟨b, o, none⟩ = some (.int .i64 (l.getD 0 (1, 0)).1) := by simpa using c0
  clear c0 e0 hl0
  have HC := Lib.hid hc
  have HBL := Lib.hid hbl
  clear hc
  generalize hf : (l.getD 0 (1, 0)).1 = f at c00
  rw [hf] at HZ
  clear hf
  by_cases hf0 : f = 0
  rotate_left
  · have ne : (f != 0) = true := by simpa using hf0
    have HF0 := Lib.hid hf0
    clear hf0 n1 n8 hn hbl
    go_enter Try.func40, Try.ntmps40
    go_wp2
    go_ret
    exact ⟨ret_bool (by unfold dslR; rw [HZ.out, decide_eq_false HF0.out]; simp), HB0.out⟩
  subst hf0
  by_cases hp : 1 ≤ period ∧ period ≤ 1099511627776
  rotate_left
  · have WP := Lib.hid (dwithin_to period 1 1099511627776 false (by simpa using hp))
    have HP := Lib.hid hp
    clear hp n1 n8 hn hbl
    go_enter Try.func40, Try.ntmps40
    go_wp2_with fail
    refine (WP.out _).mono ?_
    rintro e w9 ⟨rfl, hw9⟩
    rw [hw9]
    clear hw9
    go_wp2
    go_ret
    exact ⟨ret_bool (by unfold dslR; rw [decide_eq_false HP.out]; simp), HB0.out⟩
  have WP := Lib.hid (dwithin_to period 1 1099511627776 true (by simpa using hp))
  have HPT : Hid (decide (1 ≤ period ∧ period ≤ 1099511627776) = true) := by show _ = _; simpa using hp
  have HWP : Hid (IntKind.i64.wrap (period - 1) = period - 1) := by show _ = _; rw [IntKind.wrap_i64]; omega
  have HF : Hid (decide ((0 : Int) = 0) = true) := rfl
  have HY : Hid (dslR l period = slotsR period 0 l) := by show _ = _; unfold dslR; rw [HPT.out, HZ.out, decide_eq_true HN.out]; simp
  clear HZ
  have HZ := HY
  clear HY
  have hmax : n ≤ 9223372036854775807 := by omega
  have HP := Lib.hid hp
  clear hp n1 n8 hn hbl HPT
  go_enter Try.func40, Try.ntmps40
  go_wp2_with fail
  refine (WP.out _).mono ?_
  rintro e w9 ⟨rfl, hw9⟩
  rw [hw9]
  clear hw9
  go_wp2_with fail
  go_loopw [5] (fun i wx => ∃ (k : Nat) (q : Int), k ≤ n ∧ i = .int .i64 (k : Int) ∧ slotsR period 0 l = slotsR period q (l.drop k) ∧ ((k = 0 ∧ q = 0) ∨ (0 < k ∧ q = (l.getD (k - 1) (0, 0)).1 + 1 ∧ 0 ≤ q - 1 ∧ q - 1 ≤ period - 1)) ∧ Below w.heap.size w wx) (fun i _ => n - (intOf i).toNat)
  case atStart => exact ⟨0, 0, Nat.zero_le _, rfl, rfl, .inl ⟨rfl, rfl⟩, HB0.out⟩
  case round =>
    obtain ⟨k, q, hk, rfl, hu, hq, hb⟩ := hrel
    by_cases hlt : k < n
    · have hlt' : (k : Int) < (n : Int) := by omega
      have hbl := HBL.out
      have hc := HC.out
      have hlk : k < l.length := by have := HR.out.2; omega
      have hd : l.drop k = l.getD k (0, 0) :: l.drop (k + 1) := by rw [List.drop_eq_getElem_cons hlk, List.getD_eq_getElem?_getD, List.getElem?_eq_getElem hlk]; rfl
      have HX1 : Hid ((l.getD (k + 1 - 1) (0, 0)) = l.getD k (0, 0)) := by show _ = _; rw [Nat.add_sub_cancel]
      have c0 := (hb.cell (p := ⟨b, o + k * 2, none⟩) hbl).trans (hc k hlt).1
      have c1 := (hb.cell (p := ⟨b, o + k * 2 + 1, none⟩) hbl).trans (hc k hlt).2
      rw [hd] at hu
      generalize hx : l.getD k (0, 0) = x at hu c0 c1 HX1
      obtain ⟨x, y⟩ := x
      simp only at c0 c1
      have HB := Lib.hid hb
      have d1 : (k : Int) < 9223372036854775807 := by omega
      have hwp : IntKind.i64.wrap (period - 1) = period - 1 := HWP.out
      have hk0 : (0 : Int) ≤ (k : Int) := by omega
      by_cases k0 : k = 0
      · have hq0 : q = 0 := by omega
        subst hq0
        have HU := Lib.hid hu
        have HK := Lib.hid (And.intro k0 hlt)
        have dk : decide (0 < k) = false := by simp; omega
        clear hu hd hc hlk hb hk hx hq k0
        by_cases hx : 0 ≤ x ∧ x ≤ period - 1
        · have W1 := Lib.hid (dwithin_to x 0 (period - 1) true (by simpa using hx))
          by_cases hy : 0 ≤ y ∧ y ≤ 1000
          · have W2 := Lib.hid (dwithin_to y 0 1000 true (by simpa using hy))
            have HX := Lib.hid (And.intro hx hy)
            clear hx hy
            go_wp2_with fail
            go_quiet ((first | (go_at_call 32; with_reducible exact Calls.quiet_of_same (W1.out _)) | (go_at_call 32; with_reducible exact Calls.quiet_of_same (W2.out _))))
            go_wp2_with fail
            go_roundw
            case rel =>
              refine ⟨k + 1, x + 1, by have := HK.out; omega, by go_num, ?_, .inr ⟨by omega, by rw [HX1.out], by have := HX.out; omega, by have := HX.out; omega⟩, below_drewN HB.out⟩
              rw [HU.out]; simp only [slotsR]; rw [decide_eq_true HX.out.1, decide_eq_true HX.out.2]; rfl
            case measure => have := HK.out; simp [intOf]; omega
          · have W2 := Lib.hid (dwithin_to y 0 1000 false (by simpa using hy))
            have HX := Lib.hid hy
            clear hx hy
            go_wp2_with fail
            go_quiet ((first | (go_at_call 32; with_reducible exact Calls.quiet_of_same (W1.out _)) | (go_at_call 32; with_reducible exact Calls.quiet_of_same (W2.out _))))
            go_wp2
            go_ret
            refine ⟨ret_bool ?_, below_drewN HB.out⟩
            rw [HZ.out, HU.out]; simp only [slotsR]; rw [decide_eq_false HX.out]; simp
        · have W1 := Lib.hid (dwithin_to x 0 (period - 1) false (by simpa using hx))
          have HX := Lib.hid hx
          clear hx
          go_wp2_with fail
          go_quiet ((go_at_call 32; with_reducible exact Calls.quiet_of_same (W1.out _)))
          go_wp2
          go_ret
          refine ⟨ret_bool ?_, below_drewN HB.out⟩
          rw [HZ.out, HU.out]; simp only [slotsR]; rw [decide_eq_false HX.out]; simp
      · have k1 : (0 : Int) < (k : Int) := by omega
        obtain ⟨hq1, hq2, hq3⟩ : q = (l.getD (k - 1) (0, 0)).1 + 1 ∧ 0 ≤ q - 1 ∧ q - 1 ≤ period - 1 := by omega
        have hwk : IntKind.i64.wrap ((k : Int) - 1) = ((k - 1 : Nat) : Int) := by rw [IntKind.wrap_i64]; omega
        have cp := (hb.cell (p := ⟨b, o + (k - 1) * 2, none⟩) hbl).trans (hc (k - 1) (by omega)).1
        have hp1 : ((k - 1 : Nat) : Int) < (n : Int) := by omega
        have hp0 : (0 : Int) ≤ ((k - 1 : Nat) : Int) := by omega
        have hpn : ((k - 1 : Nat) : Int).toNat = k - 1 := by omega
        generalize (l.getD (k - 1) (0, 0)).1 = v at hq1 cp
        have HU := Lib.hid (And.intro hu (And.intro hq1 (And.intro hq2 hq3)))
        have HK := Lib.hid (And.intro hk hlt)
        clear hu hd hc hlk hb hk hx hq hq1 hq2 hq3
        generalize k - 1 = kp at *
        have dk : decide (0 < k) = true := by simp; omega
        by_cases hx : 0 ≤ x ∧ x ≤ period - 1
        · have W1 := Lib.hid (dwithin_to x 0 (period - 1) true (by simpa using hx))
          by_cases hv : x ≤ v
          · have HX := Lib.hid (And.intro hx hv)
            clear hx
            go_wp2_with fail
            go_quiet ((go_at_call 32; with_reducible exact Calls.quiet_of_same (W1.out _)))
            go_wp2
            go_ret
            refine ⟨ret_bool ?_, below_drewN HB.out⟩
            rw [HZ.out, HU.out.1]; simp only [slotsR]; rw [decide_eq_false (show ¬ (q ≤ x ∧ x ≤ period - 1) by have := HX.out; have := HU.out.2; omega)]; simp
          · have dv : decide (x ≤ v) = false := by simp; omega
            by_cases hy : 0 ≤ y ∧ y ≤ 1000
            · have W2 := Lib.hid (dwithin_to y 0 1000 true (by simpa using hy))
              have HX := Lib.hid (And.intro hx (And.intro hy hv))
              clear hx hy hv
              go_wp2_with fail
              go_quiet ((first | (go_at_call 32; with_reducible exact Calls.quiet_of_same (W1.out _)) | (go_at_call 32; with_reducible exact Calls.quiet_of_same (W2.out _))))
              go_wp2_with fail
              go_roundw
              case rel =>
                refine ⟨k + 1, x + 1, by have := HK.out; omega, by go_num, ?_, .inr ⟨by omega, by rw [HX1.out], by have := HX.out; omega, by have := HX.out; omega⟩, below_drewN HB.out⟩
                rw [HU.out.1]; simp only [slotsR]; rw [decide_eq_true (show q ≤ x ∧ x ≤ period - 1 by have := HX.out; have := HU.out.2; omega), decide_eq_true HX.out.2.1]; rfl
              case measure => have := HK.out; simp [intOf]; omega
            · have W2 := Lib.hid (dwithin_to y 0 1000 false (by simpa using hy))
              have HX := Lib.hid hy
              clear hx hy hv
              go_wp2_with fail
              go_quiet ((first | (go_at_call 32; with_reducible exact Calls.quiet_of_same (W1.out _)) | (go_at_call 32; with_reducible exact Calls.quiet_of_same (W2.out _))))
              go_wp2
              go_ret
              refine ⟨ret_bool ?_, below_drewN HB.out⟩
              rw [HZ.out, HU.out.1]; simp only [slotsR]; rw [decide_eq_false HX.out]; simp
        · have W1 := Lib.hid (dwithin_to x 0 (period - 1) false (by simpa using hx))
          have HX := Lib.hid hx
          clear hx
          go_wp2_with fail
          go_quiet ((go_at_call 32; with_reducible exact Calls.quiet_of_same (W1.out _)))
          go_wp2
          go_ret
          refine ⟨ret_bool ?_, below_drewN HB.out⟩
          rw [HZ.out, HU.out.1]; simp only [slotsR]; rw [decide_eq_false (show ¬ (q ≤ x ∧ x ≤ period - 1) by have := HX.out; have := HU.out.2; omega)]; simp
    · have hlt' : ¬ (k : Int) < (n : Int) := by omega
      have ek : k = n := by omega
      subst ek
      have e9 : l.drop k = [] := List.drop_eq_nil_of_le (by have := HR.out.2; omega)
      have HB := Lib.hid (And.intro hu hb)
      have HE := Lib.hid e9
      clear hu hb e9 hq hlt hk
      go_wp2
      go_ret
      refine ⟨ret_bool ?_, HB.out.2⟩
      rw [HZ.out, HB.out.1, HE.out]; rfl
end
section
open Go.RowKit
open Wir Evn
attribute [local go_sem] Oper.semAt_some
set_option linter.unusedVariables false
set_option linter.unusedSimpArgs false

set_option maxRecDepth 100000 in
set_option maxHeartbeats 3200000 in
theorem dpol1 {w : World} {a1 a2 : Option Addr} {c1 c2 : Nat} (target : Int) (bands : List (Int × Int)) (kp ki kd period : Int) (slots : List (Int × Int)) (h1 : PRow w a1 bands.length c1 bands) (h2 : PRow w a2 slots.length c2 slots) :
    Calls Try.prog 12 #[plV ⟨1, target, bands, kp, ki, kd, period, slots⟩ a1 a2 c1 c2] w fun e w' => e = .returned (.bool (polR ⟨1, target, bands, kp, ki, kd, period, slots⟩)) ∧ Below w.heap.size w w' := by
  have HZ : Hid (polR ⟨1, target, bands, kp, ki, kd, period, slots⟩ = (decide (1 ≤ target ∧ target ≤ 1000000000) && zeroR ⟨0, 0, bands, kp, ki, kd, period, slots⟩)) := by
    show _ = _
    rfl
  have HM := Lib.hid (And.intro h1 h2)
  clear h1 h2
  unfold plV
  simp only
  go_enter Try.func12, Try.ntmps12
  go_wp2_with fail
  refine (dwithin_any target 1 1000000000 _).mono ?_
  rintro e w9 ⟨rfl, rfl⟩
  cases hx : decide (1 ≤ target ∧ target ≤ 1000000000)
  · have HX := Lib.hid hx
    clear hx
    go_wp2
    go_ret
    exact ⟨ret_bool (by rw [HZ.out]; simp [HX.out]), bel1 (Below.refl _ _) _⟩
  have HX0 := Lib.hid hx
  clear hx
  go_wp2_with fail
  refine (dnoneA target bands kp ki kd period slots 1 a1 a2 c1 c2 _).mono ?_
  rintro e xl ⟨rfl, hb⟩
  have HBl := Lib.hid (bel2 (bel1 (Below.refl _ _) _) hb)
  clear hb
  go_wp2
  go_ret
  exact ⟨ret_bool (by rw [HZ.out]; simp [HX0.out]), HBl.out⟩
set_option maxRecDepth 100000 in
set_option maxHeartbeats 3200000 in
theorem dpol2 {w : World} {a1 a2 : Option Addr} {c1 c2 : Nat} (target : Int) (bands : List (Int × Int)) (kp ki kd period : Int) (slots : List (Int × Int)) (h1 : PRow w a1 bands.length c1 bands) (h2 : PRow w a2 slots.length c2 slots) :
    Calls Try.prog 12 #[plV ⟨2, target, bands, kp, ki, kd, period, slots⟩ a1 a2 c1 c2] w fun e w' => e = .returned (.bool (polR ⟨2, target, bands, kp, ki, kd, period, slots⟩)) ∧ Below w.heap.size w w' := by
  have HZ : Hid (polR ⟨2, target, bands, kp, ki, kd, period, slots⟩ = (bandsOk bands && zeroR ⟨0, target, [], kp, ki, kd, period, slots⟩)) := by
    show _ = _
    rfl
  have HM := Lib.hid (And.intro h1 h2)
  clear h1 h2
  unfold plV
  simp only
  go_enter Try.func12, Try.ntmps12
  go_wp2_with fail
  refine (dbands_any (HM.out.1.on (bel1 (Below.refl _ _) _))).mono ?_
  rintro e x0 ⟨rfl, hb⟩
  have HB0 := Lib.hid (bel2 (bel1 (Below.refl _ _) _) hb)
  have HK := Lib.hid hb
  have hk := (HK.out.block w.heap.size (by simp)).trans (heap_alloc_new w (.cells #[.int .i64 2, .int .i64 target, .slice a1 bands.length c1, .int .i64 kp, .int .i64 ki, .int .i64 kd, .int .i64 period, .slice a2 slots.length c2] 25))
  have k0 := cell_of_row _ _ 0 _ _ _ hk
  have k1 := cell_of_row _ _ 1 _ _ _ hk
  have k2 := cell_of_row _ _ 2 _ _ _ hk
  have k3 := cell_of_row _ _ 3 _ _ _ hk
  have k4 := cell_of_row _ _ 4 _ _ _ hk
  have k5 := cell_of_row _ _ 5 _ _ _ hk
  have k6 := cell_of_row _ _ 6 _ _ _ hk
  have k7 := cell_of_row _ _ 7 _ _ _ hk
  simp only [List.getElem?_toArray, List.getElem?_cons_zero, List.getElem?_cons_succ] at k0 k1 k2 k3 k4 k5 k6 k7
  clear hb hk HK
  cases hx : bandsOk bands
  · have HX := Lib.hid hx
    clear hx
    go_wp2
    go_ret
    exact ⟨ret_bool (by rw [HZ.out]; simp [HX.out]), HB0.out⟩
  have HX0 := Lib.hid hx
  clear hx
  go_wp2_with fail
  refine (dnoneB target bands kp ki kd period slots 2 a1 a2 c1 c2 _).mono ?_
  rintro e xl ⟨rfl, hb⟩
  have HBl := Lib.hid (bel2 (HB0.out) hb)
  clear hb
  go_wp2
  go_ret
  exact ⟨ret_bool (by rw [HZ.out]; simp [HX0.out]), HBl.out⟩
set_option maxRecDepth 100000 in
set_option maxHeartbeats 3200000 in
theorem dpol3 {w : World} {a1 a2 : Option Addr} {c1 c2 : Nat} (target : Int) (bands : List (Int × Int)) (kp ki kd period : Int) (slots : List (Int × Int)) (h1 : PRow w a1 bands.length c1 bands) (h2 : PRow w a2 slots.length c2 slots) :
    Calls Try.prog 12 #[plV ⟨3, target, bands, kp, ki, kd, period, slots⟩ a1 a2 c1 c2] w fun e w' => e = .returned (.bool (polR ⟨3, target, bands, kp, ki, kd, period, slots⟩)) ∧ Below w.heap.size w w' := by
  have HZ : Hid (polR ⟨3, target, bands, kp, ki, kd, period, slots⟩ = (((decide (-1000000000 ≤ kp ∧ kp ≤ 1000000000) && decide (-1000000000 ≤ ki ∧ ki ≤ 1000000000)) && decide (-1000000000 ≤ kd ∧ kd ≤ 1000000000)) && decide (1 ≤ target ∧ target ≤ 1000000000) && zeroR ⟨0, 0, bands, 0, 0, 0, period, slots⟩)) := by
    show _ = _
    unfold polR fixR
    simp only [show ¬ ((3 : Int) = 1) from by decide, show ¬ ((3 : Int) = 2) from by decide, if_false, if_true]
    generalize decide (1 ≤ target ∧ target ≤ 1000000000) = a
    generalize decide (-1000000000 ≤ kp ∧ kp ≤ 1000000000) = b
    generalize decide (-1000000000 ≤ ki ∧ ki ≤ 1000000000) = c
    generalize decide (-1000000000 ≤ kd ∧ kd ≤ 1000000000) = d
    cases a <;> cases b <;> cases c <;> cases d <;> rfl
  have HM := Lib.hid (And.intro h1 h2)
  clear h1 h2
  unfold plV
  simp only
  go_enter Try.func12, Try.ntmps12
  go_wp2_with fail
  refine (dwithin_any kp (-1000000000) 1000000000 _).mono ?_
  rintro e w9 ⟨rfl, rfl⟩
  cases hx : decide (-1000000000 ≤ kp ∧ kp ≤ 1000000000)
  · have HX := Lib.hid hx
    clear hx
    go_wp2
    go_ret
    exact ⟨ret_bool (by rw [HZ.out]; simp [HX.out]), bel1 (Below.refl _ _) _⟩
  have HX0 := Lib.hid hx
  clear hx
  go_wp2_with fail
  refine (dwithin_any ki (-1000000000) 1000000000 _).mono ?_
  rintro e w9 ⟨rfl, rfl⟩
  cases hx : decide (-1000000000 ≤ ki ∧ ki ≤ 1000000000)
  · have HX := Lib.hid hx
    clear hx
    go_wp2
    go_ret
    exact ⟨ret_bool (by rw [HZ.out]; simp [HX.out]), bel1 (Below.refl _ _) _⟩
  have HX1 := Lib.hid hx
  clear hx
  go_wp2_with fail
  refine (dwithin_any kd (-1000000000) 1000000000 _).mono ?_
  rintro e w9 ⟨rfl, rfl⟩
  cases hx : decide (-1000000000 ≤ kd ∧ kd ≤ 1000000000)
  · have HX := Lib.hid hx
    clear hx
    go_wp2
    go_ret
    exact ⟨ret_bool (by rw [HZ.out]; simp [HX.out]), bel1 (Below.refl _ _) _⟩
  have HX2 := Lib.hid hx
  clear hx
  go_wp2_with fail
  refine (dwithin_any target 1 1000000000 _).mono ?_
  rintro e w9 ⟨rfl, rfl⟩
  cases hx : decide (1 ≤ target ∧ target ≤ 1000000000)
  · have HX := Lib.hid hx
    clear hx
    go_wp2
    go_ret
    exact ⟨ret_bool (by rw [HZ.out]; simp [HX.out]), bel1 (Below.refl _ _) _⟩
  have HX3 := Lib.hid hx
  clear hx
  go_wp2_with fail
  refine (dnoneC target bands kp ki kd period slots 3 a1 a2 c1 c2 _).mono ?_
  rintro e xl ⟨rfl, hb⟩
  have HBl := Lib.hid (bel2 (bel1 (Below.refl _ _) _) hb)
  clear hb
  go_wp2
  go_ret
  exact ⟨ret_bool (by rw [HZ.out]; simp [HX0.out, HX1.out, HX2.out, HX3.out]), HBl.out⟩
set_option maxRecDepth 100000 in
set_option maxHeartbeats 3200000 in
theorem dpol4 {w : World} {a1 a2 : Option Addr} {c1 c2 : Nat} (target : Int) (bands : List (Int × Int)) (kp ki kd period : Int) (slots : List (Int × Int)) (h1 : PRow w a1 bands.length c1 bands) (h2 : PRow w a2 slots.length c2 slots) :
    Calls Try.prog 12 #[plV ⟨4, target, bands, kp, ki, kd, period, slots⟩ a1 a2 c1 c2] w fun e w' => e = .returned (.bool (polR ⟨4, target, bands, kp, ki, kd, period, slots⟩)) ∧ Below w.heap.size w w' := by
  have HZ : Hid (polR ⟨4, target, bands, kp, ki, kd, period, slots⟩ = (dslR slots period && zeroR ⟨0, target, bands, kp, ki, kd, 0, []⟩)) := by
    show _ = _
    rfl
  have HM := Lib.hid (And.intro h1 h2)
  clear h1 h2
  unfold plV
  simp only
  go_enter Try.func12, Try.ntmps12
  go_wp2_with fail
  refine (dslots_any (HM.out.2.on (bel1 (Below.refl _ _) _)) period).mono ?_
  rintro e x0 ⟨rfl, hb⟩
  have HB0 := Lib.hid (bel2 (bel1 (Below.refl _ _) _) hb)
  have HK := Lib.hid hb
  have hk := (HK.out.block w.heap.size (by simp)).trans (heap_alloc_new w (.cells #[.int .i64 4, .int .i64 target, .slice a1 bands.length c1, .int .i64 kp, .int .i64 ki, .int .i64 kd, .int .i64 period, .slice a2 slots.length c2] 25))
  have k0 := cell_of_row _ _ 0 _ _ _ hk
  have k1 := cell_of_row _ _ 1 _ _ _ hk
  have k2 := cell_of_row _ _ 2 _ _ _ hk
  have k3 := cell_of_row _ _ 3 _ _ _ hk
  have k4 := cell_of_row _ _ 4 _ _ _ hk
  have k5 := cell_of_row _ _ 5 _ _ _ hk
  have k6 := cell_of_row _ _ 6 _ _ _ hk
  have k7 := cell_of_row _ _ 7 _ _ _ hk
  simp only [List.getElem?_toArray, List.getElem?_cons_zero, List.getElem?_cons_succ] at k0 k1 k2 k3 k4 k5 k6 k7
  clear hb hk HK
  cases hx : dslR slots period
  · have HX := Lib.hid hx
    clear hx
    go_wp2
    go_ret
    exact ⟨ret_bool (by rw [HZ.out]; simp [HX.out]), HB0.out⟩
  have HX0 := Lib.hid hx
  clear hx
  go_wp2_with fail
  refine (dnoneD target bands kp ki kd period slots 4 a1 a2 c1 c2 _).mono ?_
  rintro e xl ⟨rfl, hb⟩
  have HBl := Lib.hid (bel2 (HB0.out) hb)
  clear hb
  go_wp2
  go_ret
  exact ⟨ret_bool (by rw [HZ.out]; simp [HX0.out]), HBl.out⟩
set_option maxRecDepth 100000 in
set_option maxHeartbeats 3200000 in
theorem dpolN {w : World} {a1 a2 : Option Addr} {c1 c2 : Nat} (target : Int) (bands : List (Int × Int)) (kp ki kd period : Int) (slots : List (Int × Int)) (h1 : PRow w a1 bands.length c1 bands) (h2 : PRow w a2 slots.length c2 slots) (kind : Int) (hk : kind ≠ 1 ∧ kind ≠ 2 ∧ kind ≠ 3 ∧ kind ≠ 4) :
    Calls Try.prog 12 #[plV ⟨kind, target, bands, kp, ki, kd, period, slots⟩ a1 a2 c1 c2] w fun e w' => e = .returned (.bool (polR ⟨kind, target, bands, kp, ki, kd, period, slots⟩)) ∧ Below w.heap.size w w' := by
  have HZ : Hid (polR ⟨kind, target, bands, kp, ki, kd, period, slots⟩ = false) := by
    show _ = _
    unfold polR
    simp only [hk.1, hk.2.1, hk.2.2.1, hk.2.2.2, if_false]
  obtain ⟨k1, k2, k3, k4⟩ := hk
  have n1 : (kind == 1) = false := by simpa using k1
  have n2 : (kind == 2) = false := by simpa using k2
  have n3 : (kind == 3) = false := by simpa using k3
  have n4 : (kind == 4) = false := by simpa using k4
  clear k1 k2 k3 k4 h1 h2
  unfold plV
  simp only
  go_enter Try.func12, Try.ntmps12
  go_wp2
  go_ret
  exact ⟨ret_bool HZ.out.symm, bel1 (Below.refl _ _) _⟩
theorem dpol_any {w : World} {a1 a2 : Option Addr} {c1 c2 : Nat} (p : Pl) (h1 : PRow w a1 p.bands.length c1 p.bands) (h2 : PRow w a2 p.slots.length c2 p.slots) :
    Calls Try.prog 12 #[plV p a1 a2 c1 c2] w fun e w' => e = .returned (.bool (polR p)) ∧ Below w.heap.size w w' := by
  obtain ⟨kind, target, bands, kp, ki, kd, period, slots⟩ := p
  by_cases e1 : kind = 1
  · subst e1; exact dpol1 target bands kp ki kd period slots h1 h2
  by_cases e2 : kind = 2
  · subst e2; exact dpol2 target bands kp ki kd period slots h1 h2
  by_cases e3 : kind = 3
  · subst e3; exact dpol3 target bands kp ki kd period slots h1 h2
  by_cases e4 : kind = 4
  · subst e4; exact dpol4 target bands kp ki kd period slots h1 h2
  exact dpolN target bands kp ki kd period slots h1 h2 kind ⟨e1, e2, e3, e4⟩
end
section
open Go.RowKit
open Wir Evn
attribute [local go_sem] Oper.semAt_some
set_option linter.unusedVariables false
set_option linter.unusedSimpArgs false

set_option maxRecDepth 100000 in
set_option maxHeartbeats 3200000 in
theorem dconf_any (c : Cf) (w : World) :
    Calls Try.prog 14 #[cfV c] w fun e w' => e = .returned (.bool (confR c)) ∧ Below w.heap.size w w' := by
  obtain ⟨min, max, rate, stable, cap, delay, slack, window, margin, ceil, probe, breach⟩ := c
  have HZ : Hid (confR ⟨min, max, rate, stable, cap, delay, slack, window, margin, ceil, probe, breach⟩ = (decide (1 ≤ min ∧ min ≤ max ∧ max ≤ 1000 ∧ 1 ≤ rate ∧ rate ≤ 1000) && decide ((0 ≤ stable ∧ stable ≤ 1099511627776) ∧ (1 ≤ cap ∧ cap ≤ 1000000) ∧ 0 ≤ delay ∧ delay ≤ 8 ∧ (0 ≤ slack ∧ slack ≤ 1000000000)) && decide (1 ≤ window ∧ window ≤ 32 ∧ (0 ≤ margin ∧ margin ≤ 1000000000) ∧ 0 ≤ ceil ∧ ceil ≤ 32 ∧ 1 ≤ probe ∧ probe ≤ 32 ∧ 0 ≤ breach ∧ breach ≤ 32))) := by
    show _ = _
    unfold confR
    simp only
    rw [← Bool.decide_and, ← Bool.decide_and]
    refine decide_eq_decide.2 ⟨fun h => ?_, fun h => ?_⟩ <;> omega
  unfold cfV
  simp only
  go_enter Try.func14, Try.ntmps14
  go_upto_region 1 with fail
  go_cut [3] from 6 to 30 (fun v wx => v = .bool (decide (1 ≤ min ∧ min ≤ max ∧ max ≤ 1000 ∧ 1 ≤ rate ∧ rate ≤ 1000)) ∧ wx = w.alloc (.cells #[.int .i64 min, .int .i64 max, .int .i64 rate, .int .i64 stable, .int .i64 cap, .int .i64 delay, .int .i64 slack, .int .i64 window, .int .i64 margin, .int .i64 ceil, .int .i64 probe, .int .i64 breach] 27))
  case first =>
    by_cases h : 1 ≤ min
    rotate_left
    · have d0 : decide (1 ≤ min) = false := decide_eq_false h
      have HH := Lib.hid h
      clear h
      go_wp2_with fail
      go_meet
      case rel => exact ⟨congrArg Value.bool (decide_eq_false (fun h => by have := HH.out; omega)).symm, rfl⟩
    have d0 : decide (1 ≤ min) = true := decide_eq_true h
    have H0 := Lib.hid h
    clear h
    by_cases h : min ≤ max
    rotate_left
    · have d1 : decide (min ≤ max) = false := decide_eq_false h
      have HH := Lib.hid h
      clear h
      go_wp2_with fail
      go_meet
      case rel => exact ⟨congrArg Value.bool (decide_eq_false (fun h => by have := HH.out; omega)).symm, rfl⟩
    have d1 : decide (min ≤ max) = true := decide_eq_true h
    have H1 := Lib.hid h
    clear h
    by_cases h : max ≤ 1000
    rotate_left
    · have d2 : decide (max ≤ 1000) = false := decide_eq_false h
      have HH := Lib.hid h
      clear h
      go_wp2_with fail
      go_meet
      case rel => exact ⟨congrArg Value.bool (decide_eq_false (fun h => by have := HH.out; omega)).symm, rfl⟩
    have d2 : decide (max ≤ 1000) = true := decide_eq_true h
    have H2 := Lib.hid h
    clear h
    by_cases h : 1 ≤ rate
    rotate_left
    · have d3 : decide (1 ≤ rate) = false := decide_eq_false h
      have HH := Lib.hid h
      clear h
      go_wp2_with fail
      go_meet
      case rel => exact ⟨congrArg Value.bool (decide_eq_false (fun h => by have := HH.out; omega)).symm, rfl⟩
    have d3 : decide (1 ≤ rate) = true := decide_eq_true h
    have H3 := Lib.hid h
    clear h
    by_cases h : rate ≤ 1000
    rotate_left
    · have d4 : decide (rate ≤ 1000) = false := decide_eq_false h
      have HH := Lib.hid h
      clear h
      go_wp2_with fail
      go_meet
      case rel => exact ⟨congrArg Value.bool (decide_eq_false (fun h => by have := HH.out; omega)).symm, rfl⟩
    have d4 : decide (rate ≤ 1000) = true := decide_eq_true h
    have H4 := Lib.hid h
    clear h
    go_wp2_with fail
    go_meet
    case rel => exact ⟨congrArg Value.bool (decide_eq_true (by have h0 := H0.out; have h1 := H1.out; have h2 := H2.out; have h3 := H3.out; have h4 := H4.out; omega)).symm, rfl⟩
  case rest =>
    obtain ⟨rfl, rfl⟩ := hcut
    generalize hs1 : decide (1 ≤ min ∧ min ≤ max ∧ max ≤ 1000 ∧ 1 ≤ rate ∧ rate ≤ 1000) = s1 at *
    clear hs1
    go_upto_region 2 with fail
    go_cut [4] from 31 to 53 (fun v wx => v = .bool (decide ((0 ≤ stable ∧ stable ≤ 1099511627776) ∧ (1 ≤ cap ∧ cap ≤ 1000000) ∧ 0 ≤ delay ∧ delay ≤ 8 ∧ (0 ≤ slack ∧ slack ≤ 1000000000))) ∧ wx = w.alloc (.cells #[.int .i64 min, .int .i64 max, .int .i64 rate, .int .i64 stable, .int .i64 cap, .int .i64 delay, .int .i64 slack, .int .i64 window, .int .i64 margin, .int .i64 ceil, .int .i64 probe, .int .i64 breach] 27))
    case first =>
      go_wp2_with fail
      refine (dwithin_any stable 0 1099511627776 _).mono ?_
      rintro e w9 ⟨rfl, rfl⟩
      by_cases h : 0 ≤ stable ∧ stable ≤ 1099511627776
      rotate_left
      · rw [decide_eq_false h]
        have HH := Lib.hid h
        clear h
        go_wp2_with fail
        go_meet
        case rel => exact ⟨congrArg Value.bool (decide_eq_false (fun h => by have := HH.out; omega)).symm, rfl⟩
      rw [decide_eq_true h]
      have H0 := Lib.hid h
      clear h
      go_wp2_with fail
      refine (dwithin_any cap 1 1000000 _).mono ?_
      rintro e w9 ⟨rfl, rfl⟩
      by_cases h : 1 ≤ cap ∧ cap ≤ 1000000
      rotate_left
      · rw [decide_eq_false h]
        have HH := Lib.hid h
        clear h
        go_wp2_with fail
        go_meet
        case rel => exact ⟨congrArg Value.bool (decide_eq_false (fun h => by have := HH.out; omega)).symm, rfl⟩
      rw [decide_eq_true h]
      have H1 := Lib.hid h
      clear h
      by_cases h : 0 ≤ delay
      rotate_left
      · have d2 : decide (0 ≤ delay) = false := decide_eq_false h
        have HH := Lib.hid h
        clear h
        go_wp2_with fail
        go_meet
        case rel => exact ⟨congrArg Value.bool (decide_eq_false (fun h => by have := HH.out; omega)).symm, rfl⟩
      have d2 : decide (0 ≤ delay) = true := decide_eq_true h
      have H2 := Lib.hid h
      clear h
      by_cases h : delay ≤ 8
      rotate_left
      · have d3 : decide (delay ≤ 8) = false := decide_eq_false h
        have HH := Lib.hid h
        clear h
        go_wp2_with fail
        go_meet
        case rel => exact ⟨congrArg Value.bool (decide_eq_false (fun h => by have := HH.out; omega)).symm, rfl⟩
      have d3 : decide (delay ≤ 8) = true := decide_eq_true h
      have H3 := Lib.hid h
      clear h
      go_wp2_with fail
      refine (dwithin_any slack 0 1000000000 _).mono ?_
      rintro e w9 ⟨rfl, rfl⟩
      by_cases h : 0 ≤ slack ∧ slack ≤ 1000000000
      rotate_left
      · rw [decide_eq_false h]
        have HH := Lib.hid h
        clear h
        go_wp2_with fail
        go_meet
        case rel => exact ⟨congrArg Value.bool (decide_eq_false (fun h => by have := HH.out; omega)).symm, rfl⟩
      rw [decide_eq_true h]
      have H4 := Lib.hid h
      clear h
      go_wp2_with fail
      go_meet
      case rel => exact ⟨congrArg Value.bool (decide_eq_true (by have h0 := H0.out; have h1 := H1.out; have h2 := H2.out; have h3 := H3.out; have h4 := H4.out; omega)).symm, rfl⟩
    case rest =>
      obtain ⟨rfl, rfl⟩ := hcut
      generalize hs2 : decide ((0 ≤ stable ∧ stable ≤ 1099511627776) ∧ (1 ≤ cap ∧ cap ≤ 1000000) ∧ 0 ≤ delay ∧ delay ≤ 8 ∧ (0 ≤ slack ∧ slack ≤ 1000000000)) = s2 at *
      clear hs2
      go_upto_region 3 with fail
      go_cut [5] from 54 to 96 (fun v wx => v = .bool (decide (1 ≤ window ∧ window ≤ 32 ∧ (0 ≤ margin ∧ margin ≤ 1000000000) ∧ 0 ≤ ceil ∧ ceil ≤ 32 ∧ 1 ≤ probe ∧ probe ≤ 32 ∧ 0 ≤ breach ∧ breach ≤ 32)) ∧ wx = w.alloc (.cells #[.int .i64 min, .int .i64 max, .int .i64 rate, .int .i64 stable, .int .i64 cap, .int .i64 delay, .int .i64 slack, .int .i64 window, .int .i64 margin, .int .i64 ceil, .int .i64 probe, .int .i64 breach] 27))
      case first =>
        by_cases h : 1 ≤ window
        rotate_left
        · have d0 : decide (1 ≤ window) = false := decide_eq_false h
          have HH := Lib.hid h
          clear h
          go_wp2_with fail
          go_meet
          case rel => exact ⟨congrArg Value.bool (decide_eq_false (fun h => by have := HH.out; omega)).symm, rfl⟩
        have d0 : decide (1 ≤ window) = true := decide_eq_true h
        have H0 := Lib.hid h
        clear h
        by_cases h : window ≤ 32
        rotate_left
        · have d1 : decide (window ≤ 32) = false := decide_eq_false h
          have HH := Lib.hid h
          clear h
          go_wp2_with fail
          go_meet
          case rel => exact ⟨congrArg Value.bool (decide_eq_false (fun h => by have := HH.out; omega)).symm, rfl⟩
        have d1 : decide (window ≤ 32) = true := decide_eq_true h
        have H1 := Lib.hid h
        clear h
        go_wp2_with fail
        refine (dwithin_any margin 0 1000000000 _).mono ?_
        rintro e w9 ⟨rfl, rfl⟩
        by_cases h : 0 ≤ margin ∧ margin ≤ 1000000000
        rotate_left
        · rw [decide_eq_false h]
          have HH := Lib.hid h
          clear h
          go_wp2_with fail
          go_meet
          case rel => exact ⟨congrArg Value.bool (decide_eq_false (fun h => by have := HH.out; omega)).symm, rfl⟩
        rw [decide_eq_true h]
        have H2 := Lib.hid h
        clear h
        by_cases h : 0 ≤ ceil
        rotate_left
        · have d3 : decide (0 ≤ ceil) = false := decide_eq_false h
          have HH := Lib.hid h
          clear h
          go_wp2_with fail
          go_meet
          case rel => exact ⟨congrArg Value.bool (decide_eq_false (fun h => by have := HH.out; omega)).symm, rfl⟩
        have d3 : decide (0 ≤ ceil) = true := decide_eq_true h
        have H3 := Lib.hid h
        clear h
        by_cases h : ceil ≤ 32
        rotate_left
        · have d4 : decide (ceil ≤ 32) = false := decide_eq_false h
          have HH := Lib.hid h
          clear h
          go_wp2_with fail
          go_meet
          case rel => exact ⟨congrArg Value.bool (decide_eq_false (fun h => by have := HH.out; omega)).symm, rfl⟩
        have d4 : decide (ceil ≤ 32) = true := decide_eq_true h
        have H4 := Lib.hid h
        clear h
        by_cases h : 1 ≤ probe
        rotate_left
        · have d5 : decide (1 ≤ probe) = false := decide_eq_false h
          have HH := Lib.hid h
          clear h
          go_wp2_with fail
          go_meet
          case rel => exact ⟨congrArg Value.bool (decide_eq_false (fun h => by have := HH.out; omega)).symm, rfl⟩
        have d5 : decide (1 ≤ probe) = true := decide_eq_true h
        have H5 := Lib.hid h
        clear h
        by_cases h : probe ≤ 32
        rotate_left
        · have d6 : decide (probe ≤ 32) = false := decide_eq_false h
          have HH := Lib.hid h
          clear h
          go_wp2_with fail
          go_meet
          case rel => exact ⟨congrArg Value.bool (decide_eq_false (fun h => by have := HH.out; omega)).symm, rfl⟩
        have d6 : decide (probe ≤ 32) = true := decide_eq_true h
        have H6 := Lib.hid h
        clear h
        by_cases h : 0 ≤ breach
        rotate_left
        · have d7 : decide (0 ≤ breach) = false := decide_eq_false h
          have HH := Lib.hid h
          clear h
          go_wp2_with fail
          go_meet
          case rel => exact ⟨congrArg Value.bool (decide_eq_false (fun h => by have := HH.out; omega)).symm, rfl⟩
        have d7 : decide (0 ≤ breach) = true := decide_eq_true h
        have H7 := Lib.hid h
        clear h
        by_cases h : breach ≤ 32
        rotate_left
        · have d8 : decide (breach ≤ 32) = false := decide_eq_false h
          have HH := Lib.hid h
          clear h
          go_wp2_with fail
          go_meet
          case rel => exact ⟨congrArg Value.bool (decide_eq_false (fun h => by have := HH.out; omega)).symm, rfl⟩
        have d8 : decide (breach ≤ 32) = true := decide_eq_true h
        have H8 := Lib.hid h
        clear h
        go_wp2_with fail
        go_meet
        case rel => exact ⟨congrArg Value.bool (decide_eq_true (by have h0 := H0.out; have h1 := H1.out; have h2 := H2.out; have h3 := H3.out; have h4 := H4.out; have h5 := H5.out; have h6 := H6.out; have h7 := H7.out; have h8 := H8.out; omega)).symm, rfl⟩
      case rest =>
        obtain ⟨rfl, rfl⟩ := hcut
        generalize hs3 : decide (1 ≤ window ∧ window ≤ 32 ∧ (0 ≤ margin ∧ margin ≤ 1000000000) ∧ 0 ≤ ceil ∧ ceil ≤ 32 ∧ 1 ≤ probe ∧ probe ≤ 32 ∧ 0 ≤ breach ∧ breach ≤ 32) = s3 at *
        clear hs3
        have HB := Lib.hid (bel1 (Below.refl w.heap.size w) (.cells #[.int .i64 min, .int .i64 max, .int .i64 rate, .int .i64 stable, .int .i64 cap, .int .i64 delay, .int .i64 slack, .int .i64 window, .int .i64 margin, .int .i64 ceil, .int .i64 probe, .int .i64 breach] 27))
        cases s1
        · go_wp2
          go_ret
          exact ⟨ret_bool (by rw [HZ.out]; rfl), HB.out⟩
        · cases s2
          · go_wp2
            go_ret
            exact ⟨ret_bool (by rw [HZ.out]; rfl), HB.out⟩
          · cases s3
            · go_wp2
              go_ret
              exact ⟨ret_bool (by rw [HZ.out]; rfl), HB.out⟩
            · go_wp2
              go_ret
              exact ⟨ret_bool (by rw [HZ.out]; rfl), HB.out⟩
end
section
open Go.RowKit
open Wir Evn
attribute [local go_sem] Oper.semAt_some
set_option linter.unusedVariables false
set_option linter.unusedSimpArgs false

def smpR (e : Ev) : Bool := decide (e.util = 0 ∧ e.demand = 0)
def rstR (e : Ev) : Bool := zeroR e.pol && (cfZero e.conf && decide (e.body.length = 0))
theorem dright_is1 {e : Ev} (h : e.kind = 1) : rightR e = true ↔ rstR e = true ∧ e.t = 0 ∧ e.id = 0 ∧ e.n = 0 := by
  have hz : zeroR zeroPl = true := rfl
  have hc : cfZero zeroCf = true := rfl
  simp only [rightR, boundedR, clearE, nothingR, rstR, smpR, placeR, h]
  simp [hz, hc]
  try grind
theorem dright_is2 {e : Ev} (h : e.kind = 2) : rightR e = true ↔ rstR e = true ∧ smpR e = true ∧ e.id = 0 ∧ e.n = 0 := by
  have hz : zeroR zeroPl = true := rfl
  have hc : cfZero zeroCf = true := rfl
  simp only [rightR, boundedR, clearE, nothingR, rstR, smpR, placeR, h]
  simp [hz, hc]
  try grind
theorem dright_is3 {e : Ev} (h : e.kind = 3) : rightR e = true ↔ (polR e.pol || (decide (e.id ≠ 0) && zeroR e.pol)) = true ∧ 0 ≤ e.id ∧ e.id ≤ 3 ∧ smpR e = true ∧ e.t = 0 ∧ e.n = 0 ∧ cfZero e.conf = true ∧ e.body.length = 0 := by
  have hz : zeroR zeroPl = true := rfl
  have hc : cfZero zeroCf = true := rfl
  simp only [rightR, boundedR, clearE, nothingR, rstR, smpR, placeR, h]
  simp [hz, hc]
  try grind
theorem dright_is4 {e : Ev} (h : e.kind = 4) : rightR e = true ↔ confR e.conf = true ∧ smpR e = true ∧ e.t = 0 ∧ e.id = 0 ∧ e.n = 0 ∧ zeroR e.pol = true ∧ e.body.length = 0 := by
  have hz : zeroR zeroPl = true := rfl
  have hc : cfZero zeroCf = true := rfl
  simp only [rightR, boundedR, clearE, nothingR, rstR, smpR, placeR, h]
  simp [hz, hc]
  try grind
theorem dright_is5 {e : Ev} (h : e.kind = 5) : rightR e = true ↔ rstR e = true ∧ smpR e = true ∧ e.id = 0 ∧ (0 ≤ e.t ∧ e.t ≤ 1099511627776) ∧ 0 ≤ e.n ∧ e.n ≤ 1000 := by
  have hz : zeroR zeroPl = true := rfl
  have hc : cfZero zeroCf = true := rfl
  simp only [rightR, boundedR, clearE, nothingR, rstR, smpR, placeR, h]
  simp [hz, hc]
  try grind
theorem dright_is6 {e : Ev} (h : e.kind = 6) : rightR e = true ↔ rstR e = true ∧ smpR e = true ∧ e.t = 0 ∧ e.n = 0 ∧ 0 ≤ e.id ∧ e.id ≤ 3 := by
  have hz : zeroR zeroPl = true := rfl
  have hc : cfZero zeroCf = true := rfl
  simp only [rightR, boundedR, clearE, nothingR, rstR, smpR, placeR, h]
  simp [hz, hc]
  try grind
theorem dright_is7 {e : Ev} (h : e.kind = 7) : rightR e = true ↔ rstR e = true ∧ smpR e = true ∧ e.t = 0 ∧ e.n = 0 ∧ 0 ≤ e.id ∧ e.id ≤ 3 := by
  have hz : zeroR zeroPl = true := rfl
  have hc : cfZero zeroCf = true := rfl
  simp only [rightR, boundedR, clearE, nothingR, rstR, smpR, placeR, h]
  simp [hz, hc]
  try grind
theorem dright_is8 {e : Ev} (h : e.kind = 8) : rightR e = true ↔ smpR e = true ∧ e.t = 0 ∧ e.id = 0 ∧ e.n = 0 ∧ zeroR e.pol = true ∧ cfZero e.conf = true ∧ e.body.length ≤ 1700 := by
  have hz : zeroR zeroPl = true := rfl
  have hc : cfZero zeroCf = true := rfl
  simp only [rightR, boundedR, clearE, nothingR, rstR, smpR, placeR, h]
  simp [hz, hc]
  try grind
theorem dright_no {e : Ev} (h : ¬ (1 ≤ e.kind ∧ e.kind ≤ 8)) : rightR e = false := by
  have hb : boundedR e = false := by unfold boundedR; rw [if_neg (by omega), if_neg (by omega), if_neg (by omega), if_neg (by omega), if_neg (by omega), if_neg (by omega)]
  unfold rightR
  rw [hb]
  rfl
end
section
open Go.RowKit
open Wir Evn
set_option linter.unusedVariables false
set_option linter.unusedSimpArgs false

namespace Evn
theorem bandsR_le : ∀ (l : List (Int × Int)) (m : Int) (x : Int × Int), bandsR m (l ++ [x]) = true → m ≤ x.1 ∧ ∀ y ∈ l, y.1 < x.1
  | [], m, x, h => by
    simp [bandsR] at h
    exact ⟨h.1.1, by simp⟩
  | a :: l, m, x, h => by
    simp only [List.cons_append, bandsR, Bool.and_eq_true, decide_eq_true_eq] at h
    obtain ⟨h1, h2⟩ := bandsR_le l (a.1 + 1) x h.2.2
    refine ⟨by omega, fun y hy => ?_⟩
    rcases List.mem_cons.1 hy with rfl | hy
    · omega
    · exact h2 y hy
theorem slotsR_le : ∀ (l : List (Int × Int)) (p m : Int) (x : Int × Int), slotsR p m (l ++ [x]) = true → m ≤ x.1 ∧ x.1 ≤ p - 1 ∧ ∀ y ∈ l, y.1 < x.1
  | [], p, m, x, h => by
    simp [slotsR] at h
    exact ⟨h.1.1, h.1.2, by simp⟩
  | a :: l, p, m, x, h => by
    simp only [List.cons_append, slotsR, Bool.and_eq_true, decide_eq_true_eq] at h
    obtain ⟨h1, h2, h3⟩ := slotsR_le l p (a.1 + 1) x h.2.2
    refine ⟨by omega, h2, fun y hy => ?_⟩
    rcases List.mem_cons.1 hy with rfl | hy
    · omega
    · exact h3 y hy
theorem bandsR_up : ∀ (l : List (Int × Int)) (m : Int) (k : Nat), bandsR m l = true → k + 1 < l.length → (l.getD k (0, 0)).1 < (l.getD (k + 1) (0, 0)).1
  | [], _, _, _, hk => by simp at hk
  | [_], _, _, _, hk => by simp at hk
  | a :: b :: r, m, 0, h, _ => by
    simp only [bandsR, Bool.and_eq_true, decide_eq_true_eq] at h
    show a.1 < b.1
    omega
  | a :: b :: r, m, k + 1, h, hk => by
    have h' : bandsR (a.1 + 1) (b :: r) = true := by
      rw [bandsR, Bool.and_eq_true, Bool.and_eq_true] at h
      exact h.2.2
    exact bandsR_up (b :: r) (a.1 + 1) k h' (by simpa using hk)
theorem last_mem {l : List (Int × Int)} (h : 0 < l.length) : l.getD (l.length - 1) (0, 0) ∈ l := by
  rw [List.getD_eq_getElem?_getD, List.getElem?_eq_getElem (by omega)]
  exact List.getElem_mem _
theorem last_split {l : List (Int × Int)} (h : 0 < l.length) : ∃ r, l = r ++ [l.getD (l.length - 1) (0, 0)] := by
  refine ⟨l.take (l.length - 1), ?_⟩
  apply List.ext_getElem?
  intro j
  by_cases h1 : j < l.length - 1
  · rw [List.getElem?_append_left (by simp; omega), List.getElem?_take, if_pos h1]
  · by_cases h2 : j = l.length - 1
    · subst h2
      rw [List.getElem?_append_right (by simp), List.getD_eq_getElem?_getD, List.getElem?_eq_getElem (by omega)]
      simp
    · rw [List.getElem?_eq_none (by omega), List.getElem?_eq_none (by rw [List.length_append, List.length_take]; simp; omega)]
/-- Two neighbours, the other way round. -/
def sw (l : List (Int × Int)) (k : Nat) : List (Int × Int) := (l.set k (l.getD (k + 1) (0, 0))).set (k + 1) (l.getD k (0, 0))
theorem sw_len (l : List (Int × Int)) (k : Nat) : (sw l k).length = l.length := by simp [sw]
theorem sw_bad {l : List (Int × Int)} {m : Int} {k : Nat} (h : bandsR m l = true) (hk : k + 1 < l.length) (m' : Int) : bandsR m' (sw l k) = false := by
  cases hs : bandsR m' (sw l k)
  · rfl
  · have h1 := bandsR_up l m k h hk
    have h2 := bandsR_up (sw l k) m' k hs (by rw [sw_len]; exact hk)
    have e1 : (sw l k).getD k (0, 0) = l.getD (k + 1) (0, 0) := by
      rw [List.getD_eq_getElem?_getD]
      unfold sw
      rw [List.getElem?_set_ne (by omega), List.getElem?_set_self (by omega)]
      rfl
    have e2 : (sw l k).getD (k + 1) (0, 0) = l.getD k (0, 0) := by
      rw [List.getD_eq_getElem?_getD]
      unfold sw
      rw [List.getElem?_set_self (by simp; omega)]
      rfl
    rw [e1, e2] at h2
    omega
theorem bandsOk_twice {l : List (Int × Int)} (h : 0 < l.length) : bandsOk (l ++ [l.getD (l.length - 1) (0, 0)]) = false := by
  unfold bandsOk
  cases hs : bandsR 0 (l ++ [l.getD (l.length - 1) (0, 0)])
  · simp
  · have := (bandsR_le _ _ _ hs).2 _ (last_mem h)
    omega
theorem slotsOk_twice {l : List (Int × Int)} (p : Int) (h : 0 < l.length) : slotsOk (l ++ [l.getD (l.length - 1) (0, 0)]) p = false := by
  unfold slotsOk
  cases hs : slotsR p 0 (l ++ [l.getD (l.length - 1) (0, 0)])
  · simp
  · have := (slotsR_le _ _ _ _ hs).2.2 _ (last_mem h)
    omega
theorem slotsOk_period {l : List (Int × Int)} (h : 0 < l.length) : slotsOk l (l.getD (l.length - 1) (0, 0)).1 = false := by
  unfold slotsOk
  obtain ⟨r, hr⟩ := last_split h
  cases hs : slotsR (l.getD (l.length - 1) (0, 0)).1 0 l
  · simp
  · rw [hr] at hs
    rw [← hr] at hs
    generalize he : l.getD (l.length - 1) (0, 0) = x at hr hs
    rw [hr] at hs
    have := (slotsR_le _ _ _ _ hs).2.1
    omega
theorem pol_kinds {p : Pl} (h : polR p = true) : p.kind = 1 ∨ p.kind = 2 ∨ p.kind = 3 ∨ p.kind = 4 := by
  unfold polR at h
  split at h
  · omega
  split at h
  · omega
  split at h
  · omega
  split at h
  · omega
  · cases h
theorem pol_two {p : Pl} (h : polR p = true) (hk : p.kind = 2) : 1 ≤ p.bands.length ∧ p.bands.length ≤ 8 ∧ bandsR 0 p.bands = true ∧ p.slots = [] := by
  unfold polR at h
  rw [if_neg (by omega), if_pos hk] at h
  unfold bandsOk zeroR at h
  simp only [Bool.and_eq_true, decide_eq_true_eq] at h
  exact ⟨h.1.1.1, h.1.1.2, h.1.2, List.eq_nil_of_length_eq_zero h.2.2.2.2.2.2.2.2⟩
theorem pol_four {p : Pl} (h : polR p = true) (hk : p.kind = 4) : 1 ≤ p.slots.length ∧ p.slots.length ≤ 8 ∧ p.bands = [] := by
  unfold polR at h
  rw [if_neg (by omega), if_neg (by omega), if_neg (by omega), if_pos hk] at h
  unfold slotsOk zeroR at h
  simp only [Bool.and_eq_true, decide_eq_true_eq] at h
  exact ⟨h.1.2.1.1, h.1.2.1.2, List.eq_nil_of_length_eq_zero h.2.2.2.2.2.2.2.1⟩
theorem pol_plain {p : Pl} (h : polR p = true) (hk : p.kind ≠ 2) (hk' : p.kind ≠ 4) : polR { p with target := 0 } = false ∧ p.bands = [] ∧ p.slots = [] := by
  have h4 := pol_kinds h
  have h5 : p.kind = 1 ∨ p.kind = 3 := by omega
  unfold polR zeroR at *
  rcases h5 with h5 | h5 <;> simp [h5] at h ⊢
  · exact ⟨h.2.2.2.2.2.1, h.2.2.2.2.2.2⟩
  · exact ⟨h.2.2.1, h.2.2.2⟩
theorem pol_twice_b {p : Pl} (h : polR p = true) (hk : p.kind = 2) : polR { p with bands := p.bands ++ [p.bands.getD (p.bands.length - 1) (0, 0)] } = false := by
  have h2 := bandsOk_twice (l := p.bands) (by have := pol_two h hk; omega)
  unfold polR
  simp only [hk, h2]
  simp
theorem pol_twice_s {p : Pl} (h : polR p = true) (hk : p.kind = 4) : polR { p with slots := p.slots ++ [p.slots.getD (p.slots.length - 1) (0, 0)] } = false := by
  have h2 := slotsOk_twice (l := p.slots) p.period (by have := pol_four h hk; omega)
  unfold polR
  simp only [hk, h2]
  simp
theorem pol_swap {p : Pl} {k : Nat} (h : polR p = true) (hk : p.kind = 2) (hl : k + 1 < p.bands.length) : polR { p with bands := sw p.bands k } = false := by
  have h2 : bandsOk (sw p.bands k) = false := by
    unfold bandsOk
    rw [sw_bad (pol_two h hk).2.2.1 hl]
    simp
  unfold polR
  simp only [hk, h2]
  simp
theorem pol_period {p : Pl} (h : polR p = true) (hk : p.kind = 4) : polR { p with period := (p.slots.getD (p.slots.length - 1) (0, 0)).1 } = false := by
  have h2 := slotsOk_period (l := p.slots) (by have := pol_four h hk; omega)
  unfold polR
  simp only [hk, h2]
  simp
end Evn

/-- Pairs as cells. -/
def pcells (l : List (Int × Int)) : List Value := (pairs l).map fun n => .int .i64 n
theorem pcells_len (l : List (Int × Int)) : (pcells l).length = l.length * 2 := by rw [pcells, List.length_map, pairs_len]; omega
theorem pcells_append (a b : List (Int × Int)) : pcells (a ++ b) = pcells a ++ pcells b := by simp [pcells, pairs_append]
theorem pcells_one (l : List (Int × Int)) : ∀ u ∈ pcells l, u.oneCell' = true := by
  intro u hu
  obtain ⟨n, _, rfl⟩ := List.mem_map.1 hu
  rfl
theorem pcells_get (l : List (Int × Int)) (j : Nat) (hj : j < l.length * 2) : (pcells l)[j]? = some (intsC (pairs l) j) := by
  have : j < (pairs l).length := by rw [pairs_len]; omega
  simp [pcells, intsC, List.getElem?_eq_getElem this]
theorem PRow.news {w : World} {ad : Addr} {m c : Nat} {l : List (Int × Int)} (h : PRow w (some ad) m c l) : ∀ j u, (pcells l)[j]? = some u → w.cell? (ad.add j) = some u := by
  intro j u hu
  have hj : j < m * 2 := by
    have := (List.getElem?_eq_some_iff.1 hu).1
    rw [pcells_len, h.2] at this
    exact this
  obtain ⟨b, o, e, _, hc⟩ := h.1.at_ (by omega)
  have he : ad = ⟨b, o, none⟩ := by injection e
  subst he
  rw [Addr.add_mid, hc j (by omega), ← pcells_get l j (by rw [h.2]; exact hj), hu]
/-- v owns these pairs. -/
def OwnP (w : World) (base : Nat) (e : TypeId) (v : Value) (l : List (Int × Int)) : Prop := w.ownsRow base e 2 v l.length (pcells l)
theorem OwnP.prow {w : World} {base : Nat} {e : TypeId} {v : Value} {l : List (Int × Int)} (h : OwnP w base e v l) : ∃ a cap, v = .slice a l.length cap ∧ PRow w a l.length cap l := by
  rcases h.2 with ⟨rfl, h0⟩ | ⟨g, cap, cur, rfl, hb, hh, hn, hc, hsz, htk⟩
  · have : l = [] := List.eq_nil_of_length_eq_zero h0
    subst this
    exact ⟨none, 0, rfl, ⟨Nat.le_refl _, by simp [maxLen], fun hp => absurd hp (by simp)⟩, rfl⟩
  · refine ⟨_, cap, rfl, ⟨hn, hc, fun _ => ⟨g, 0, rfl, lt_of_heap hh, fun j hj => ?_⟩⟩, rfl⟩
    rw [Nat.zero_add, World.ownsRow.cellAt h j hj, pcells_get l j hj]
theorem OwnP.below {w w' : World} {base : Nat} {e : TypeId} {v : Value} {l : List (Int × Int)} (h : OwnP w base e v l) (hb : Below w.heap.size w w') : OwnP w' base e v l :=
  World.ownsRow.kept h (grown_of_below hb none) (by cases hv : v.ownBlock <;> simp)
theorem OwnP.lit_ (w : World) (base : Nat) (e : TypeId) (hb : base ≤ w.heap.size) : OwnP (w.alloc (.cells #[] e)) base e (.slice (some ⟨w.heap.size, 0, none⟩) 0 0) [] := by
  have := World.ownsRow_lit (base := base) (e := e) (size := 2) w #[] 0 hb (by simp [maxLen]) rfl
  exact this
theorem run_append_none2 {P : Program} {w : World} (base : Nat) (t ty e : TypeId) (i : TypeInfo) (size c : Nat) (ht : P.underlying t = some (.slice e)) (hi : P.info? e = some i)
    (v : Value) (n : Nat) (xs : List Value) (hown : w.ownsRow base e size v n xs) :
    (Builtin.append_ #[t, t] ty #[v, .slice none 0 c]).run P w = .ok v w := by
  rcases hown.2 with ⟨rfl, rfl⟩ | ⟨g, cap, cur, rfl, _, _, hnc, _⟩
  · simp [Builtin.append_, run_underlying ht, sizeOf, typeInfo, hi, Builtin.lenOf, Builtin.firstCells]
  · simp [Builtin.append_, run_underlying ht, sizeOf, typeInfo, hi, Builtin.lenOf, Builtin.firstCells, hnc, storeCells]
/-- 'append(v, x...)' of pairs onto pairs of the call's own, x any slice, nil too. -/
theorem wp_append_pairs {P : Program} {w : World} {o : Oper} {a : Act} {K : Act → World → Prop} {Q : Exit → Act → World → Prop} (s x : Operand) (t : TypeId)
    (ho : o.op = .call { callee := .builtin .append, args := #[s, x], argTypes := #[t, t] })
    (base : Nat) (e : TypeId) (ht : P.underlying t = some (.slice e)) (hi : (P.info? e).map (fun i => (i.zero, i.size, i.bytes)) = some (some (.agg #[.int .i64 0, .int .i64 0]), 2, 16))
    (v : Value) (l : List (Int × Int)) (hs : a.eval s = v) (hown : OwnP w base e v l)
    (A : Option Addr) (m c : Nat) (l2 : List (Int × Int)) (hx : a.eval x = .slice A m c) (hc : PRow w A m c l2)
    (hbytes : l.length + m ≤ 1000000) (hbase : base ≤ w.heap.size)
    (h : ∀ v' w', OwnP w' base e v' (l ++ l2) → w.grownBy w' v.ownBlock → (v'.ownBlock = v.ownBlock ∨ v'.ownBlock = some w.heap.size) → K (a.put o.dst v') w') : o.wp P a w K Q := by
  obtain ⟨i, hi, hz0, hz1, hz2⟩ := info_parts hi
  cases A with
  | none =>
    have hm0 : m = 0 := by
      cases Nat.eq_zero_or_pos m with
      | inl h => exact h
      | inr h =>
        obtain ⟨b, o, e, _⟩ := hc.1.at_ h
        cases e
    subst hm0
    have hcs : l2 = [] := List.eq_nil_of_length_eq_zero hc.2
    subst hcs
    have hr := run_append_none2 (P := P) (w := w) base t o.type e i 2 c ht hi v _ _ hown
    unfold Oper.wp execOp
    simp only [ho, resolve, invoke, builtin, Sem.run_bind, Sem.run_pure, Result.andThen_ok, List.map_toArray, List.map_cons, List.map_nil, hs, hx, hr]
    exact h v w (by simpa using hown) (World.grownBy.refl w _) (.inl rfl)
  | some ad =>
    obtain ⟨v', w', hr, h2, h3, h4, h5⟩ := run_append_own_at (P := P) w base t o.type e i (.agg #[.int .i64 0, .int .i64 0]) 2 16 ht hi hz0 hz1 hz2 rfl (by decide) v l.length (pcells l) hown ad m c (pcells l2) (by rw [pcells_len, hc.2]) hc.news (pcells_one l2)
      (by unfold maxLen; omega) (by omega) hbase
    unfold Oper.wp execOp
    simp only [ho, resolve, invoke, builtin, Sem.run_bind, Sem.run_pure, Result.andThen_ok, List.map_toArray, List.map_cons, List.map_nil, hs, hx, hr]
    refine h v' w' ?_ h3 h5
    unfold OwnP
    rw [pcells_append, List.length_append, hc.2]
    exact h2
theorem wpList_append_pairs {P : Program} {w : World} {ops : Array Oper} {rest : List Oper} {o : Oper} {a : Act} {Q : Exit → Act → World → Prop} (hgd : o.guard = none) (s x : Operand) (t : TypeId)
    (ho : o.op = .call { callee := .builtin .append, args := #[s, x], argTypes := #[t, t] })
    (base : Nat) (e : TypeId) (ht : P.underlying t = some (.slice e)) (hi : (P.info? e).map (fun i => (i.zero, i.size, i.bytes)) = some (some (.agg #[.int .i64 0, .int .i64 0]), 2, 16))
    (v : Value) (l : List (Int × Int)) (hs : a.eval s = v) (hown : OwnP w base e v l)
    (A : Option Addr) (m c : Nat) (l2 : List (Int × Int)) (hx : a.eval x = .slice A m c) (hc : PRow w A m c l2)
    (hbytes : l.length + m ≤ 1000000) (hbase : base ≤ w.heap.size)
    (h : ∀ v' w', OwnP w' base e v' (l ++ l2) → w.grownBy w' v.ownBlock → (v'.ownBlock = v.ownBlock ∨ v'.ownBlock = some w.heap.size) → wpList P ops Q rest (a.put o.dst v') w') :
    wpList P ops Q (o :: rest) a w :=
  wpList_plain hgd fun _ hK => wp_append_pairs s x t ho base e ht hi v l hs hown A m c l2 hx hc hbytes hbase fun v' w' h1 h2 h3 => hK _ _ (h v' w' h1 h2 h3)
end
section
open Go.RowKit
open Wir

set_option linter.unusedSimpArgs false in
set_option maxRecDepth 100000 in
set_option maxHeartbeats 1600000 in
theorem rwnum_any {w : World} {p : Nat} {bs : List Nat} {O : Nat → Prop} (h : Wtr 77 w p bs O) (n : Int) (h1 : -9223372036854775808 ≤ n) (h2 : n ≤ 9223372036854775807) (hlen : bs.length ≤ 1000000000) :
    Calls Try.prog 43 #[.pointer (some ⟨p, 0, none⟩), .int .i64 n] w fun e w' => e = .returned (.tuple #[]) ∧ WMv 77 w p (bs ++ dg (cnt n)) O w' := by
  have hcl := cnt_lt h1 h2
  have hdl := dg_le hcl
  have HS := Lib.hid (WMv.start h)
  clear h
  have LOOP : Calls Try.prog 43 #[.pointer (some ⟨p, 0, none⟩), .int .i64 n] w fun e w' => e = .returned (.tuple #[]) ∧ WMv 77 w p (bs ++ dg (cnt n)) O w' := by
    by_cases hn : n < 0
    · have e1 : IntKind.i64.wrap (n + 1) = n + 1 := by rw [IntKind.wrap_i64]; omega
      have e2 : IntKind.i64.wrap (-(n + 1)) = -(n + 1) := by rw [IntKind.wrap_i64]; omega
      have e3 : IntKind.u64.wrap (-(n + 1)) = -(n + 1) := by rw [IntKind.wrap_u64]; omega
      have e4 : IntKind.u64.wrap (-(n + 1) * 2) = -(n + 1) * 2 := by rw [IntKind.wrap_u64]; omega
      have e5 : IntKind.u64.wrap (-(n + 1) * 2 + 1) = ((cnt n : Nat) : Int) := by rw [IntKind.wrap_u64]; unfold cnt; rw [if_neg (by omega)]; omega
      generalize cnt n = C at *
      go_enter Try.func43, Try.ntmps43
      go_wp2_with fail
      go_loopw [4] (fun i wx => ∃ (c : Nat) (ds : List Nat), i = .int .u64 (c : Int) ∧ c ≤ C ∧ dg C = ds ++ dg c ∧ WMv 77 w p (bs ++ ds) O wx) (fun i _ => (intOf i).toNat)
      case atStart => exact ⟨C, [], rfl, Nat.le_refl _, rfl, by simpa using HS.out⟩
      case round =>
        obtain ⟨c, ds, rfl, hcC, hds, O1, ⟨v, hv⟩, hbut, hnew⟩ := hrel
        have hdl2 : ds.length ≤ 10 := by have := congrArg List.length hds; simp at this; omega
        have k0 := cell_of_row _ _ 0 _ _ _ hv.cells
        have z0 := frozen_of_row _ _ 0 _ _ hv.cells
        simp at k0
        have hpl := hv.lt p hv.pO
        have hown := hv.own
        have HV := Lib.hid (And.intro hv (And.intro hbut hnew))
        have Hd := Lib.hid hds
        have hbl : (bs ++ ds).length ≤ 1000000010 := by simp; omega
        clear hv hbut hnew hds
        generalize hB : bs ++ ds = B at hown HV hbl
        have HB := Lib.hid hB
        clear hB
        by_cases hc : c < 128
        · have hc' : ¬ (128 : Int) ≤ (c : Int) := by omega
          have hw : IntKind.u8.wrap (c : Int) = (c : Int) := by rw [IntKind.wrap_u8]; omega
          have HX := Lib.hid (dg_lo hc)
          go_wp2_with (at_builtin; refine wpList_append_sl rfl (.tmp 37) (.tmp 40) _ rfl (p + 1) _ Try.underlying28 info_u8 v B rfl (hown.alloc _) _ (some ⟨wr.heap.size, 0, none⟩) 1 1 [c] rfl (Sl.one _ _ (by omega)) (by simp; omega) (by simp; omega) ?_; intro v1 w3 hown1 hg1 hat1; obtain ⟨k3, z3⟩ := HV.out.1.cell3 ((Below.refl _ _).alloc (Nat.le_refl _) _) hg1; have H3 := Lib.hid (And.intro hown1 (And.intro hg1 hat1)); obtain ⟨a1, n1, y1, rfl⟩ := hown1.form; clear hown1 hg1 hat1 k0 z0 hown)
          go_end0
          obtain ⟨q1, q2, q3⟩ := HV.out
          refine ⟨rfl, WMv.then_ q2 q3 ?_⟩
          have := q1.put (cs := [c]) ((Below.refl _ _).alloc (Nat.le_refl _) _) H3.out.1 H3.out.2.1 H3.out.2.2 (by simp; omega)
          rw [Hd.out, HX.out, ← List.append_assoc, HB.out]
          exact this
        · have hc' : (128 : Int) ≤ (c : Int) := by omega
          obtain ⟨x, hx⟩ : ∃ x, x = c % 128 + 128 := ⟨_, rfl⟩
          have hor : IntKind.u64.wrap ((c : Int) % 128 + 128) = (x : Int) := by rw [IntKind.wrap_u64]; omega
          have hor2 : IntKind.u8.wrap (x : Int) = (x : Int) := by rw [IntKind.wrap_u8]; omega
          have hxl : x < 256 := by omega
          have HX := Lib.hid (dg_hi hc)
          rw [← hx] at HX
          clear hx
          go_wp2_with (at_builtin; refine wpList_append_sl rfl (.tmp 22) (.tmp 27) _ rfl (p + 1) _ Try.underlying28 info_u8 v B rfl (hown.alloc _) _ (some ⟨wr.heap.size, 0, none⟩) 1 1 [x] rfl (Sl.one _ _ hxl) (by simp; omega) (by simp; omega) ?_; intro v1 w3 hown1 hg1 hat1; obtain ⟨k3, z3⟩ := HV.out.1.cell3 ((Below.refl _ _).alloc (Nat.le_refl _) _) hg1; have H3 := Lib.hid (And.intro hown1 (And.intro hg1 hat1)); obtain ⟨a1, n1, y1, rfl⟩ := hown1.form; clear hown1 hg1 hat1 k0 z0 hown)
          go_roundw
          case rel =>
            obtain ⟨q1, q2, q3⟩ := HV.out
            have := q1.put (cs := [x]) ((Below.refl _ _).alloc (Nat.le_refl _) _) H3.out.1 H3.out.2.1 H3.out.2.2 (by simp; omega)
            exact ⟨c / 128, ds ++ [x], by go_num, by omega, by rw [Hd.out, HX.out, List.append_assoc]; rfl, WMv.then_ q2 q3 (by rw [← List.append_assoc, HB.out]; exact this)⟩
          case measure => simp [intOf]; omega
    · have e3 : IntKind.u64.wrap n = n := by rw [IntKind.wrap_u64]; omega
      have e4 : IntKind.u64.wrap (n * 2) = ((cnt n : Nat) : Int) := by rw [IntKind.wrap_u64]; unfold cnt; rw [if_pos (by omega)]; omega
      generalize cnt n = C at *
      go_enter Try.func43, Try.ntmps43
      go_wp2_with fail
      go_loopw [4] (fun i wx => ∃ (c : Nat) (ds : List Nat), i = .int .u64 (c : Int) ∧ c ≤ C ∧ dg C = ds ++ dg c ∧ WMv 77 w p (bs ++ ds) O wx) (fun i _ => (intOf i).toNat)
      case atStart => exact ⟨C, [], rfl, Nat.le_refl _, rfl, by simpa using HS.out⟩
      case round =>
        obtain ⟨c, ds, rfl, hcC, hds, O1, ⟨v, hv⟩, hbut, hnew⟩ := hrel
        have hdl2 : ds.length ≤ 10 := by have := congrArg List.length hds; simp at this; omega
        have k0 := cell_of_row _ _ 0 _ _ _ hv.cells
        have z0 := frozen_of_row _ _ 0 _ _ hv.cells
        simp at k0
        have hpl := hv.lt p hv.pO
        have hown := hv.own
        have HV := Lib.hid (And.intro hv (And.intro hbut hnew))
        have Hd := Lib.hid hds
        have hbl : (bs ++ ds).length ≤ 1000000010 := by simp; omega
        clear hv hbut hnew hds
        generalize hB : bs ++ ds = B at hown HV hbl
        have HB := Lib.hid hB
        clear hB
        by_cases hc : c < 128
        · have hc' : ¬ (128 : Int) ≤ (c : Int) := by omega
          have hw : IntKind.u8.wrap (c : Int) = (c : Int) := by rw [IntKind.wrap_u8]; omega
          have HX := Lib.hid (dg_lo hc)
          go_wp2_with (at_builtin; refine wpList_append_sl rfl (.tmp 37) (.tmp 40) _ rfl (p + 1) _ Try.underlying28 info_u8 v B rfl (hown.alloc _) _ (some ⟨wr.heap.size, 0, none⟩) 1 1 [c] rfl (Sl.one _ _ (by omega)) (by simp; omega) (by simp; omega) ?_; intro v1 w3 hown1 hg1 hat1; obtain ⟨k3, z3⟩ := HV.out.1.cell3 ((Below.refl _ _).alloc (Nat.le_refl _) _) hg1; have H3 := Lib.hid (And.intro hown1 (And.intro hg1 hat1)); obtain ⟨a1, n1, y1, rfl⟩ := hown1.form; clear hown1 hg1 hat1 k0 z0 hown)
          go_end0
          obtain ⟨q1, q2, q3⟩ := HV.out
          refine ⟨rfl, WMv.then_ q2 q3 ?_⟩
          have := q1.put (cs := [c]) ((Below.refl _ _).alloc (Nat.le_refl _) _) H3.out.1 H3.out.2.1 H3.out.2.2 (by simp; omega)
          rw [Hd.out, HX.out, ← List.append_assoc, HB.out]
          exact this
        · have hc' : (128 : Int) ≤ (c : Int) := by omega
          obtain ⟨x, hx⟩ : ∃ x, x = c % 128 + 128 := ⟨_, rfl⟩
          have hor : IntKind.u64.wrap ((c : Int) % 128 + 128) = (x : Int) := by rw [IntKind.wrap_u64]; omega
          have hor2 : IntKind.u8.wrap (x : Int) = (x : Int) := by rw [IntKind.wrap_u8]; omega
          have hxl : x < 256 := by omega
          have HX := Lib.hid (dg_hi hc)
          rw [← hx] at HX
          clear hx
          go_wp2_with (at_builtin; refine wpList_append_sl rfl (.tmp 22) (.tmp 27) _ rfl (p + 1) _ Try.underlying28 info_u8 v B rfl (hown.alloc _) _ (some ⟨wr.heap.size, 0, none⟩) 1 1 [x] rfl (Sl.one _ _ hxl) (by simp; omega) (by simp; omega) ?_; intro v1 w3 hown1 hg1 hat1; obtain ⟨k3, z3⟩ := HV.out.1.cell3 ((Below.refl _ _).alloc (Nat.le_refl _) _) hg1; have H3 := Lib.hid (And.intro hown1 (And.intro hg1 hat1)); obtain ⟨a1, n1, y1, rfl⟩ := hown1.form; clear hown1 hg1 hat1 k0 z0 hown)
          go_roundw
          case rel =>
            obtain ⟨q1, q2, q3⟩ := HV.out
            have := q1.put (cs := [x]) ((Below.refl _ _).alloc (Nat.le_refl _) _) H3.out.1 H3.out.2.1 H3.out.2.2 (by simp; omega)
            exact ⟨c / 128, ds ++ [x], by go_num, by omega, by rw [Hd.out, HX.out, List.append_assoc]; rfl, WMv.then_ q2 q3 (by rw [← List.append_assoc, HB.out]; exact this)⟩
          case measure => simp [intOf]; omega
  exact LOOP
set_option linter.unusedSimpArgs false in
set_option maxRecDepth 100000 in
set_option maxHeartbeats 1600000 in
theorem rwtext_any {w : World} {p : Nat} {bs : List Nat} {O : Nat → Prop} (h : Wtr 77 w p bs O) (a : Option Addr) (len cap : Nat) (t : List Nat) (hs : Sl w w.heap.size a len cap t) (hfar : 0 < len → ∀ b o, a = some ⟨b, o, none⟩ → ¬ O b)
    (hlen : bs.length ≤ 1000000000) (hl : len ≤ 1000000000) :
    Calls Try.prog 46 #[.pointer (some ⟨p, 0, none⟩), .slice a len cap] w fun e w' => e = .returned (.tuple #[]) ∧ WMv 77 w p (bs ++ (dg (cnt (len : Int)) ++ t)) O w' := by
  have NU := Lib.hid (rwnum_any h (len : Int) (by omega) (by omega) hlen)
  have hdl := dg_le (cnt_lt (n := (len : Int)) (by omega) (by omega))
  have htl := hs.length
  have hS := Lib.hid (And.intro hs hfar)
  clear h hs hfar
  go_enter Try.func46, Try.ntmps46
  go_wp2_with fail
  refine NU.out.mono ?_
  rintro e w1 ⟨rfl, O1, ⟨v, hv⟩, hbut, hnew⟩
  have k0 := cell_of_row _ _ 0 _ _ _ hv.cells
  simp at k0
  have hpl := hv.lt p hv.pO
  have hown := hv.own
  have hs1 := hS.out.1.same_ hbut.size (fun hp b o e => hbut.block b (by obtain ⟨b', o', e', hlt, _⟩ := hS.out.1.at_ hp; rw [e] at e'; injection e' with e'; injection e' with e'; omega) (hS.out.2 hp b o e))
  have HT := Lib.hid hs1.byte
  have HV := Lib.hid (And.intro hv (And.intro hbut hnew))
  have hbl : (bs ++ dg (cnt (len : Int))).length ≤ 1000000010 := by simp; omega
  clear hv hbut hnew
  generalize hB : bs ++ dg (cnt (len : Int)) = B at hown HV hbl
  have HB := Lib.hid hB
  clear hB
  go_wp2_with (at_builtin; refine wpList_append_sl rfl (.tmp 12) (.tmp 13) _ rfl (p + 1) _ Try.underlying28 info_u8 v B rfl hown _ a len cap t rfl hs1 (by omega) (by omega) ?_; intro v1 w3 hown1 hg1 hat1; obtain ⟨k3, z3⟩ := HV.out.1.cell3 (Below.refl _ _) hg1; have H3 := Lib.hid (And.intro hown1 (And.intro hg1 hat1)); obtain ⟨a1, n1, y1, rfl⟩ := hown1.form; clear hown1 hg1 hat1 k0 hown hs1)
  go_end0
  obtain ⟨q1, q2, q3⟩ := HV.out
  refine ⟨rfl, WMv.then_ q2 q3 ?_⟩
  have := q1.put (cs := t) (Below.refl _ _) H3.out.1 H3.out.2.1 H3.out.2.2 HT.out
  rw [← List.append_assoc, HB.out]
  exact this
end
section
open Go.RowKit
open Wir

theorem num_stop13 {rest : List Nat} {k : Nat} (h : ∀ j, j < k → 128 ≤ rest.getD j 0) (hl : rest.length = k) (hk : k ≤ 9) : num rest = (0, 0, 13) := by
  unfold num
  rw [fst_no (fun j _ hj => h j (by omega))]
  simp only
  rw [if_pos (by omega)]
theorem num_stop12 {rest : List Nat} (h : ∀ j, j < 9 → 128 ≤ rest.getD j 0) (hl : 9 < rest.length) (h1 : 1 < rest.getD 9 0) : num rest = (0, 0, 12) := by
  by_cases hx : rest.getD 9 0 < 128
  · unfold num
    rw [fst_is (k := 9) (by omega) hl hx h]
    simp only
    rw [if_pos (by first | exact .inl ⟨rfl, h1⟩ | exact .inl ⟨trivial, h1⟩)]
  · unfold num
    rw [fst_no (fun j hj _ => by
      by_cases e : j = 9
      · subst e; omega
      · exact h j (by omega))]
    simp only
    rw [if_neg (by omega)]
theorem num_zero {rest : List Nat} {k : Nat} (h : ∀ j, j < k → 128 ≤ rest.getD j 0) (hl : k < rest.length) (hk : k ≤ 9) (h0 : rest.getD k 0 = 0) (hk0 : 0 < k) : num rest = (0, 0, 12) := by
  unfold num
  rw [fst_is (k := k) (by omega) hl (by omega) h]
  simp only
  rw [if_pos (.inr ⟨hk0, h0⟩)]
theorem num_yes {rest : List Nat} {k : Nat} (h : ∀ j, j < k → 128 ≤ rest.getD j 0) (hl : k < rest.length) (hk : k ≤ 9) (hx : rest.getD k 0 < 128) (h9 : ¬ (k = 9 ∧ 1 < rest.getD k 0)) (h0 : ¬ (rest.getD k 0 = 0 ∧ 0 < k)) :
    num rest = (unc (sm (rest.take (k + 1))), k + 1, 0) := by
  unfold num
  rw [fst_is (k := k) (by omega) hl hx h]
  simp only
  rw [if_neg (by omega)]
theorem sm_small {rest : List Nat} {k : Nat} (hl : k < rest.length) (hk : k ≤ 9) (h9 : ¬ (k = 9 ∧ 1 < rest.getD k 0)) : sm (rest.take (k + 1)) < 18446744073709551616 := by
  have h1 := sm_take rest k hl
  have h2 := sm_lt (rest.take k)
  rw [List.length_take, Nat.min_eq_left (by omega)] at h2
  by_cases h : k = 9
  · subst h
    have h4 : (128 : Nat) ^ 9 = 9223372036854775808 := by decide
    rw [h1]
    have : rest.getD 9 0 % 128 ≤ 1 := by omega
    omega
  · have h3 : 128 ^ k ≤ 128 ^ 8 := Nat.pow_le_pow_right (by decide) (by omega)
    have h4 : (128 : Nat) ^ 8 = 72057594037927936 := by decide
    have h5 : 128 ^ k * (rest.getD k 0 % 128) ≤ 128 ^ k * 127 := Nat.mul_le_mul_left _ (by omega)
    omega
theorem add_next (v d i : Nat) (hs : v + 128 ^ i * d < 18446744073709551616) : IntKind.u64.wrap ((v : Int) + IntKind.u64.wrap ((d : Int) * 2 ^ (7 * i))) = ((v + 128 ^ i * d : Nat) : Int) := by
  have hp : (128 : Nat) ^ i = 2 ^ (7 * i) := by rw [Nat.pow_mul]
  rw [hp] at hs ⊢
  have e1 : (d : Int) * 2 ^ (7 * i) = ((2 ^ (7 * i) * d : Nat) : Int) := by rw [Nat.mul_comm (2 ^ (7 * i)) d, Int.natCast_mul, Int.natCast_pow]; rfl
  rw [e1, IntKind.wrap_u64, IntKind.wrap_u64]
  omega
set_option linter.unusedSimpArgs false in
theorem rnewReader_any (a : Option Addr) (len cap : Nat) (bs : List Nat) (w : World) (hs : Sl w w.heap.size a len cap bs) (hlen : len ≤ 1000000000) :
    Calls Try.prog 23 #[.slice a len cap] w fun e w' => ∃ g O, e = .returned (.pointer (some ⟨g, 0, none⟩)) ∧ Rdr 100 w' g ⟨bs, 0, 0⟩ O ∧ Below w.heap.size w w' ∧ ∀ k, O k → w.heap.size ≤ k := by
  have hl := hs.length
  have hby := Lib.hid hs.byte
  have hown0 : OwnB (w.alloc (.cells #[] 5)) w.heap.size 5 (.slice (some ⟨w.heap.size, 0, none⟩) 0 0) [] := OwnB.lit _ [] (Nat.le_refl _) (by decide)
  have hs2 := hs.below ((Below.refl _ w).alloc (Nat.le_refl _) (.cells #[] 5)) (Nat.le_refl _)
  clear hs
  go_enter Try.func23, Try.ntmps23
  go_wp2_with (at_builtin; refine wpList_append_sl rfl (.tmp 3) (.tmp 4) _ rfl w.heap.size _ Try.underlying28 info_u8 (.slice (some ⟨w.heap.size, 0, none⟩) 0 0) [] rfl hown0 _ a len cap bs rfl hs2 (by simp; omega) (by simp) ?_; intro v1 w3 hown1 hg1 hat1; have H3 := Lib.hid (And.intro hown1 (And.intro hg1 hat1)); obtain ⟨a1, n1, y1, rfl⟩ := hown1.form; clear hown1 hg1 hat1 hown0 hs2)
  go_ret
  obtain ⟨q1, q2, _⟩ := H3.out
  rw [List.nil_append] at q1
  obtain ⟨ba, bc, e4, h1, h3⟩ := q1.sl_base hby.out
  injection e4 with e5 e6 e7
  subst e5 e6 e7
  have h2 : Below w.heap.size w w3 := ((Below.refl _ w).alloc (Nat.le_refl _) _).grown q2 (by simp) (fun k hk => by simp [Value.ownBlock] at hk; omega)
  have hlt : ∀ b o, 0 < bs.length → a1 = some ⟨b, o, none⟩ → b < w3.heap.size := fun b o hp e => by
    obtain ⟨b', o', e', hlt, _⟩ := h1.at_ hp
    rw [e] at e'; injection e' with e'; injection e' with e'; omega
  refine ⟨w3.heap.size, fun k => k = w3.heap.size ∨ (w.heap.size ≤ k ∧ k < w3.heap.size), rfl, ⟨⟨Nat.zero_le _, hby.out, by show 0 < 100; decide⟩, by show bs.length ≤ _; omega, ⟨a1, y1, ?_, ?_, fun hp b o e => ⟨.inr ⟨h3 b o e, hlt b o hp e⟩, by have := hlt b o hp e; omega⟩⟩, .inl rfl, fun k hk => ?_⟩, ?_, fun k hk => ?_⟩
  · exact heap_alloc_new _ _
  · exact (h1.below ((Below.refl _ _).alloc (Nat.le_refl _) _) (Nat.le_refl _)).more (by simp)
  · rcases hk with rfl | hk
    · simp
    · simp; omega
  · exact h2.alloc h2.size _
  · rcases hk with rfl | hk
    · exact h2.size
    · exact hk.1
set_option linter.unusedSimpArgs false in
theorem rend_any {w : World} {g : Nat} {s : RS} {O : Nat → Prop} (h : Rdr 100 w g s O) :
    Calls Try.prog 28 #[.pointer (some ⟨g, 0, none⟩)] w fun e w' => e = .returned (.int .i64 ((s.end_ : Nat) : Int)) ∧ Below w.heap.size w w' := by
  have hno := h.ok.le
  obtain ⟨a, c, hc, hs, hfar⟩ := h.ex
  have k0 := cell_of_row _ _ 0 _ _ _ hc
  have k1 := cell_of_row _ _ 1 _ _ _ hc
  have k2 := cell_of_row _ _ 2 _ _ _ hc
  simp at k0 k1 k2
  have hbig := h.big
  by_cases he : s.e = 0
  · have e0 : ((s.e : Nat) : Int) = 0 := by omega
    rw [e0] at k2
    by_cases hlt : s.n < s.bs.length
    · have hlt' : (s.n : Int) < (s.bs.length : Int) := by omega
      have hT : Hid (s.end_ = 12) := by show _ = _; unfold RS.end_; rw [if_pos ⟨he, hlt⟩]
      clear hs hfar h hc he e0
      go_enter Try.func28, Try.ntmps28
      go_wp2_with fail
      go_region
      all_goals
        go_wp2
        go_ret
        exact ⟨by rw [hT.out]; rfl, Below.drew (Below.refl _ _)⟩
    · have hlt' : ¬ (s.n : Int) < (s.bs.length : Int) := by omega
      have hT : Hid (s.end_ = 0) := by show _ = _; unfold RS.end_; rw [if_neg (by omega), he]
      clear hs hfar h hc he e0
      go_enter Try.func28, Try.ntmps28
      go_wp2_with fail
      go_region
      all_goals
        go_wp2
        go_ret
        exact ⟨by rw [hT.out]; rfl, Below.drew (Below.refl _ _)⟩
  · have he' : ¬ ((s.e : Nat) : Int) = 0 := by omega
    have hT : Hid (s.end_ = s.e) := by show _ = _; unfold RS.end_; rw [if_neg (by omega)]
    have y0 : (((s.e : Nat) : Int) == 0) = false := by simp; omega
    clear hs hfar h hc he
    go_enter Try.func28, Try.ntmps28
    go_wp2_with fail
    refine wp_region_held_drew (S := fun x => x.cell? ⟨g, 2, none⟩ = some (.int .i64 ((s.e : Nat) : Int))) (by kernel_rfl) k2 (fun hHeld => ?_)
    refine wpAnyH_take (i := 0) (v := ?_) rfl (by kernel_rfl) (by kernel_rfl) (by kernel_rfl) (fun _ _ _ h => h) (Or.inl ⟨by rfl, ?_⟩) (by assumption) ?_
    rotate_left
    · intro w hSw
      (try dsimp only at hSw)
      go_simp
      all_goals with_reducible rfl
    try simp only [Act.put, List.getElem_toArray, List.getElem_cons_succ, List.getElem_cons_zero, List.setIfInBounds_toArray, List.set_cons_zero, List.set_cons_succ]
    refine wpAnyH_take (i := 1) (v := ?_) rfl (by kernel_rfl) (by kernel_rfl) (by kernel_rfl) (fun _ _ _ h => h) (Or.inl ⟨by rfl, ?_⟩) (by assumption) ?_
    rotate_left
    · intro w hSw
      (try dsimp only at hSw)
      go_simp
      all_goals with_reducible rfl
    try simp only [Act.put, List.getElem_toArray, List.getElem_cons_succ, List.getElem_cons_zero, List.setIfInBounds_toArray, List.set_cons_zero, List.set_cons_succ]
    refine wpAnyH_take (i := 2) (v := ?_) rfl (by kernel_rfl) (by kernel_rfl) (by kernel_rfl) (fun _ _ _ h => h) (Or.inl ⟨by rfl, ?_⟩) (by assumption) ?_
    rotate_left
    · intro w hSw
      (try dsimp only at hSw)
      go_simp
      all_goals with_reducible rfl
    try simp only [Act.put, List.getElem_toArray, List.getElem_cons_succ, List.getElem_cons_zero, List.setIfInBounds_toArray, List.set_cons_zero, List.set_cons_succ]
    refine wpAnyH_take (i := 3) (v := ?_) rfl (by kernel_rfl) (by kernel_rfl) (by kernel_rfl) (fun _ _ _ h => h) (Or.inl ⟨by rfl, ?_⟩) (by assumption) ?_
    rotate_left
    · intro w hSw
      (try dsimp only at hSw)
      go_simp
      all_goals with_reducible rfl
    try simp only [Act.put, List.getElem_toArray, List.getElem_cons_succ, List.getElem_cons_zero, List.setIfInBounds_toArray, List.set_cons_zero, List.set_cons_succ]
    refine wpAnyH_take (i := 4) (v := ?_) rfl (by kernel_rfl) (by kernel_rfl) (by kernel_rfl) (fun _ _ _ h => h) (Or.inl ⟨by rfl, ?_⟩) (by assumption) ?_
    rotate_left
    · intro w hSw
      (try dsimp only at hSw)
      go_simp
      all_goals with_reducible rfl
    try simp only [Act.put, List.getElem_toArray, List.getElem_cons_succ, List.getElem_cons_zero, List.setIfInBounds_toArray, List.set_cons_zero, List.set_cons_succ]
    refine wpAnyH_take (i := 5) (v := ?_) rfl (by kernel_rfl) (by kernel_rfl) (by kernel_rfl) (fun _ _ _ h => h) (Or.inl ⟨by rfl, ?_⟩) (by assumption) ?_
    rotate_left
    · intro w hSw
      (try dsimp only at hSw)
      go_simp
      all_goals with_reducible rfl
    try simp only [Act.put, List.getElem_toArray, List.getElem_cons_succ, List.getElem_cons_zero, List.setIfInBounds_toArray, List.set_cons_zero, List.set_cons_succ]
    refine wpAnyH_take (i := 6) (v := undef) rfl (by kernel_rfl) (by kernel_rfl) (by kernel_rfl) (fun _ _ _ h => h) (Or.inr ⟨by rfl, rfl⟩) (by assumption) ?_
    try simp only [Act.put, List.getElem_toArray, List.getElem_cons_succ, List.getElem_cons_zero, List.setIfInBounds_toArray, List.set_cons_zero, List.set_cons_succ]
    refine wpAnyH_take (i := 7) (v := undef) rfl (by kernel_rfl) (by kernel_rfl) (by kernel_rfl) (fun _ _ _ h => h) (Or.inr ⟨by rfl, rfl⟩) (by assumption) ?_
    try simp only [Act.put, List.getElem_toArray, List.getElem_cons_succ, List.getElem_cons_zero, List.setIfInBounds_toArray, List.set_cons_zero, List.set_cons_succ]
    refine wpAnyH_take (i := 8) (v := undef) rfl (by kernel_rfl) (by kernel_rfl) (by kernel_rfl) (fun _ _ _ h => h) (Or.inr ⟨by rfl, rfl⟩) (by assumption) ?_
    try simp only [Act.put, List.getElem_toArray, List.getElem_cons_succ, List.getElem_cons_zero, List.setIfInBounds_toArray, List.set_cons_zero, List.set_cons_succ]
    refine wpAnyH_take (i := 9) (v := undef) rfl (by kernel_rfl) (by kernel_rfl) (by kernel_rfl) (fun _ _ _ h => h) (Or.inr ⟨by rfl, rfl⟩) (by assumption) ?_
    try simp only [Act.put, List.getElem_toArray, List.getElem_cons_succ, List.getElem_cons_zero, List.setIfInBounds_toArray, List.set_cons_zero, List.set_cons_succ]
    refine wpAnyH_take (i := 10) (v := undef) rfl (by kernel_rfl) (by kernel_rfl) (by kernel_rfl) (fun _ _ _ h => h) (Or.inr ⟨by rfl, rfl⟩) (by assumption) ?_
    try simp only [Act.put, List.getElem_toArray, List.getElem_cons_succ, List.getElem_cons_zero, List.setIfInBounds_toArray, List.set_cons_zero, List.set_cons_succ]
    refine wpAnyH_take (i := 11) (v := undef) rfl (by kernel_rfl) (by kernel_rfl) (by kernel_rfl) (fun _ _ _ h => h) (Or.inr ⟨by rfl, rfl⟩) (by assumption) ?_
    try simp only [Act.put, List.getElem_toArray, List.getElem_cons_succ, List.getElem_cons_zero, List.setIfInBounds_toArray, List.set_cons_zero, List.set_cons_succ]
    refine wpAnyH_take (i := 12) (v := undef) rfl (by kernel_rfl) (by kernel_rfl) (by kernel_rfl) (fun _ _ _ h => h) (Or.inr ⟨by rfl, rfl⟩) (by assumption) ?_
    try simp only [Act.put, List.getElem_toArray, List.getElem_cons_succ, List.getElem_cons_zero, List.setIfInBounds_toArray, List.set_cons_zero, List.set_cons_succ]
    refine wpAnyH_take (i := 13) (v := undef) rfl (by kernel_rfl) (by kernel_rfl) (by kernel_rfl) (fun _ _ _ h => h) (Or.inr ⟨by rfl, rfl⟩) (by assumption) ?_
    try simp only [Act.put, List.getElem_toArray, List.getElem_cons_succ, List.getElem_cons_zero, List.setIfInBounds_toArray, List.set_cons_zero, List.set_cons_succ]
    refine wpAnyH_take (i := 14) (v := undef) rfl (by kernel_rfl) (by kernel_rfl) (by kernel_rfl) (fun _ _ _ h => h) (Or.inr ⟨by rfl, rfl⟩) (by assumption) ?_
    try simp only [Act.put, List.getElem_toArray, List.getElem_cons_succ, List.getElem_cons_zero, List.setIfInBounds_toArray, List.set_cons_zero, List.set_cons_succ]
    refine wpAnyH_take (i := 15) (v := undef) rfl (by kernel_rfl) (by kernel_rfl) (by kernel_rfl) (fun _ _ _ h => h) (Or.inr ⟨by rfl, rfl⟩) (by assumption) ?_
    try simp only [Act.put, List.getElem_toArray, List.getElem_cons_succ, List.getElem_cons_zero, List.setIfInBounds_toArray, List.set_cons_zero, List.set_cons_succ]
    refine wpAnyH_take (i := 16) (v := ?_) rfl (by kernel_rfl) (by kernel_rfl) (by kernel_rfl) (fun _ _ _ h => h) (Or.inl ⟨by rfl, ?_⟩) (by assumption) ?_
    rotate_left
    · intro w hSw
      (try dsimp only at hSw)
      go_simp
      all_goals with_reducible rfl
    try simp only [Act.put, List.getElem_toArray, List.getElem_cons_succ, List.getElem_cons_zero, List.setIfInBounds_toArray, List.set_cons_zero, List.set_cons_succ]
    refine wpAnyH_done (by kernel_rfl) ?_ _
    clear hHeld
    go_wp2
    go_ret
    exact ⟨ret_i64 (by rw [hT.out]), Below.drew (Below.refl _ _)⟩
end
section
open Go.RowKit
open Wir

set_option linter.unusedSimpArgs false in
set_option maxRecDepth 100000 in
set_option maxHeartbeats 3200000 in
theorem rnum_any {w : World} {g : Nat} {s : RS} {O : Nat → Prop} (h : Rdr 100 w g s O) :
    Calls Try.prog 24 #[.pointer (some ⟨g, 0, none⟩)] w fun e w' => e = .returned (.int .i64 s.num.1) ∧ Rdr 100 w' g s.num.2 O ∧ But O w w' := by
  have hno := h.ok.le
  have hbig := h.big
  obtain ⟨a, c, hc, hs, hfar⟩ := h.ex
  have k2 := cell_of_row _ _ 2 _ _ _ hc
  simp at k2
  have hle := hs.le
  by_cases he : s.e = 0
  · have e0 : ((s.e : Nat) : Int) = 0 := by omega
    have hT : Hid (s.num = if (num (s.bs.drop s.n)).2.2 ≠ 0 then (0, { s with e := (num (s.bs.drop s.n)).2.2 }) else ((num (s.bs.drop s.n)).1, { s with n := s.n + (num (s.bs.drop s.n)).2.1 })) := by
      show _ = _
      unfold RS.num RS.told
      rw [if_neg (by omega)]
    rw [e0] at k2
    have CELLS : Hid (∀ x, Below w.heap.size w x → x.cell? ⟨g, 0, none⟩ = some (.slice a s.bs.length c) ∧ x.cell? ⟨g, 1, none⟩ = some (.int .i64 (s.n : Int)) ∧ x.frozen? ⟨g, 1, none⟩ = false ∧ x.frozen? ⟨g, 2, none⟩ = false ∧ x.cell? ⟨g, 2, none⟩ = some (.int .i64 0)) := fun x hx => by
      have hb := (hx.block g (lt_of_heap hc)).trans hc
      exact ⟨by rw [cell_of_row _ _ 0 _ _ _ hb]; rfl, by rw [cell_of_row _ _ 1 _ _ _ hb]; rfl, frozen_of_row _ _ 1 _ _ hb, frozen_of_row _ _ 2 _ _ hb, by rw [cell_of_row _ _ 2 _ _ _ hb, ← e0]; rfl⟩
    have BYTE : Hid (∀ x, Below w.heap.size w x → ∀ k, s.n + k < s.bs.length → ∃ b o, a = some ⟨b, o, none⟩ ∧ x.cell? ⟨b, o + (s.n + k), none⟩ = some (.int .u8 (((s.bs.drop s.n).getD k 0 : Nat) : Int)) ∧ (s.bs.drop s.n).getD k 0 < 256) := fun x hx k hk => by
      obtain ⟨b, o, e1, hlt, hcc⟩ := ((hs.below hx (Nat.le_refl _)).more hx.size).at_ (by omega)
      refine ⟨b, o, e1, ?_, ?_⟩
      · rw [hcc (s.n + k) hk, List.getD_eq_getElem?_getD, List.getD_eq_getElem?_getD, List.getElem?_drop]
      · rw [List.getD_eq_getElem?_getD, List.getElem?_drop, ← List.getD_eq_getElem?_getD]
        exact hs.lt hk
    have H := Lib.hid h
    have hrl : (s.bs.drop s.n).length = s.bs.length - s.n := List.length_drop
    generalize s.bs.drop s.n = rest at hT BYTE hrl
    have Hrl := Lib.hid hrl
    clear hs hfar he e0 hc h hrl
    go_enter Try.func24, Try.ntmps24
    go_wp2_with fail
    go_loopw [3, 4] (fun v i wr => ∃ k : Nat, k ≤ 9 ∧ i = .int .i64 (k : Int) ∧ v = .int .u64 ((sm (rest.take k) : Nat) : Int) ∧ (∀ j, j < k → 128 ≤ rest.getD j 0) ∧ s.n + k ≤ s.bs.length ∧ Below w.heap.size w wr) (fun _ i _ => 10 - (intOf i).toNat)
    case atStart => exact ⟨0, by omega, rfl, rfl, fun j hj => absurd hj (by omega), by omega, Below.refl _ _⟩
    case round =>
      obtain ⟨k, hk, rfl, rfl, hj, hkn, hB⟩ := hrel
      have HJ := Lib.hid hj
      have HB := Lib.hid hB
      obtain ⟨d0, d1, z1, z2, d2⟩ := CELLS.out wr hB
      have hwa : IntKind.i64.wrap ((s.n : Int) + (k : Int)) = (s.n : Int) + (k : Int) := by rw [IntKind.wrap_i64]; omega
      clear hj hB k2
      by_cases hend : s.n + k = s.bs.length
      · have hend' : (s.bs.length : Int) ≤ (s.n : Int) + (k : Int) := by omega
        have hT2 := hT.out
        rw [num_stop13 HJ.out (by have := Hrl.out; omega) hk] at hT2
        simp only at hT2
        rw [if_pos (by simp)] at hT2
        have HT2 := Lib.hid hT2
        have HN := Lib.hid (H.out.sete (Below.drew HB.out) 13 (by decide))
        clear hT2
        go_wp2_with fail
        go_region
        all_goals
          go_wp2
          go_ret
          rw [HT2.out]
          exact ⟨rfl, HN.out.1, HN.out.2⟩
      · have hlt : s.n + k < s.bs.length := by omega
        have hend' : (s.n : Int) + (k : Int) < (s.bs.length : Int) := by omega
        obtain ⟨b, o, rfl, cb, hx256⟩ := BYTE.out wr HB.out k hlt
        have hkr : k < rest.length := by have := Hrl.out; omega
        have hx9 := sm_small (rest := rest) (k := k) hkr hk
        have Hk := Lib.hid hkr
        by_cases hbad : k = 9 ∧ 1 < rest.getD k 0
        · obtain ⟨rfl, hb1⟩ := hbad
          have hT2 := hT.out
          rw [num_stop12 HJ.out hkr hb1] at hT2
          simp only at hT2
          rw [if_pos (by simp)] at hT2
          have HT2 := Lib.hid hT2
          have HN := Lib.hid (H.out.sete (Below.drew (Below.drew HB.out)) 12 (by decide))
          generalize rest.getD 9 0 = x at *
          have hb1' : (1 : Int) < (x : Int) := by omega
          clear hT2 hx9
          go_wp2_with fail
          go_region
          all_goals
            go_wp2_with fail
            go_region
            all_goals
              go_wp2
              go_ret
              rw [HT2.out]
              exact ⟨rfl, HN.out.1, HN.out.2⟩
        · have hsm := Lib.hid (hx9 hbad)
          have htk := sm_take rest k hkr
          have hAD := add_next (sm (rest.take k)) (rest.getD k 0 % 128) k (by have := hsm.out; omega)
          rw [← htk] at hAD
          have hYES := Lib.hid (fun h1 h2 => num_yes (rest := rest) (k := k) HJ.out hkr hk h1 hbad h2)
          have hZ := Lib.hid (fun h1 h2 => num_zero (rest := rest) (k := k) HJ.out hkr hk h1 h2)
          have hNJ : Hid (¬ rest.getD k 0 < 128 → ∀ j, j < k + 1 → 128 ≤ rest.getD j 0) := fun h j hj => by
            by_cases e : j = k
            · subst e; omega
            · exact HJ.out j (by omega)
          have hk8 : ¬ rest.getD k 0 < 128 → k ≤ 8 := fun h => by omega
          have hdec : k = 9 ∧ rest.getD k 0 ≤ 1 ∨ k ≤ 8 := by omega
          have HTK := Lib.hid htk
          clear htk hx9 hbad
          generalize hv : sm (rest.take k) = v at *
          have Hv := Lib.hid hv
          clear hv
          generalize hV : sm (rest.take (k + 1)) = V at *
          have HV := Lib.hid hV
          clear hV
          generalize rest.getD k 0 = x at *
          have hxx : ((x % 128 : Nat) : Int) = (x : Int) % 128 := by omega
          rw [hxx] at hAD
          have w7 : IntKind.i64.wrap (7 * (k : Int)) = 7 * (k : Int) := by rw [IntKind.wrap_i64]; omega
          have SH := fun y => shl_any ((x : Int) % 128) k hk y
          rcases hdec with ⟨rfl, hx1⟩ | h8
          · have hwa' : IntKind.i64.wrap ((s.n : Int) + 9) = (s.n : Int) + 9 := by rw [IntKind.wrap_i64]; omega
            have hend'' : (s.n : Int) + 9 < (s.bs.length : Int) := by omega
            clear hwa hend' w7 SH
            by_cases h0 : x = 0
            · subst h0
              have SH0 : ∀ y, (Op.shift .shl .u64 0 .i64 63).run Try.prog y = .ok (.int .u64 0) y := fun _ => rfl
              clear hAD hxx
              have hT2 := hT.out
              rw [hZ.out rfl (by omega)] at hT2
              simp only at hT2
              rw [if_pos (by simp)] at hT2
              have HT2 := Lib.hid hT2
              have HN := Lib.hid (H.out.sete (Below.drew (Below.drew HB.out)) 12 (by decide))
              clear hT2
              go_wp2_with fail
              go_region
              all_goals
                go_wp2_with fail
                go_region
                all_goals
                  go_wp2
                  go_ret
                  rw [HT2.out]
                  exact ⟨rfl, HN.out.1, HN.out.2⟩
            · obtain rfl : x = 1 := by omega
              have SH1 : ∀ y, (Op.shift .shl .u64 1 .i64 63).run Try.prog y = .ok (.int .u64 9223372036854775808) y := fun _ => rfl
              have hAD9 : IntKind.u64.wrap ((v : Int) + 9223372036854775808) = (V : Int) := by rw [← hAD]; rfl
              clear hAD hxx
              have hT2 := hT.out
              rw [hYES.out (by omega) (by omega)] at hT2
              simp only at hT2
              rw [if_neg (by simp)] at hT2
              have HT2 := Lib.hid hT2
              have HN := H.out.setn (Below.drew (Below.drew HB.out)) (s.n + (9 + 1)) (by omega)
              rw [show ((s.n + (9 + 1) : Nat) : Int) = (s.n : Int) + 9 + 1 from by omega] at HN
              have HN := Lib.hid HN
              have hwb : IntKind.i64.wrap ((s.n : Int) + 9 + 1) = (s.n : Int) + 9 + 1 := by rw [IntKind.wrap_i64]; omega
              have hVs := hsm.out
              have e1 : IntKind.i64.wrap ((V : Int) / 2) = (V : Int) / 2 := by rw [IntKind.wrap_i64]; omega
              clear hT2
              by_cases hp : V % 2 = 1
              · have p0 : (V : Int) % 2 = 1 := by omega
                have e2 : IntKind.i64.wrap (-((V : Int) / 2)) = -((V : Int) / 2) := by rw [IntKind.wrap_i64]; omega
                have e3 : IntKind.i64.wrap (-((V : Int) / 2) - 1) = unc V := by rw [IntKind.wrap_i64]; unfold unc; rw [if_pos hp]; omega
                go_wp2_with fail
                go_region
                all_goals
                  go_wp2_with fail
                  go_region
                  all_goals
                    go_wp2
                    go_ret
                    rw [HT2.out]
                    exact ⟨ret_i64 rfl, HN.out.1, HN.out.2⟩
              · have p0 : (V : Int) % 2 = 0 := by omega
                have e3 : unc V = (V : Int) / 2 := by unfold unc; rw [if_neg hp]; omega
                have E3 := Lib.hid e3
                clear e3
                go_wp2_with fail
                go_region
                all_goals
                  go_wp2_with fail
                  go_region
                  all_goals
                    go_wp2
                    go_ret
                    rw [HT2.out]
                    exact ⟨ret_i64 E3.out.symm, HN.out.1, HN.out.2⟩
          · have y9 : ((k : Int) == 9) = false := by simp; omega
            by_cases hlo : x < 128
            · have hlo' : (x : Int) < 128 := by omega
              by_cases h0 : x = 0
              · subst h0
                by_cases hk0 : 0 < k
                · have k0' : (0 : Int) < (k : Int) := by omega
                  have SH0 : ∀ y, (Op.shift .shl .u64 0 .i64 (7 * (k : Int))).run Try.prog y = .ok (.int .u64 0) y := fun y => by
                    have := shl_any 0 k hk y
                    rw [Int.zero_mul] at this
                    exact this
                  have hvv : IntKind.u64.wrap (v : Int) = (v : Int) := by have := hsm.out; have := HTK.out; rw [IntKind.wrap_u64]; omega
                  clear SH hAD hxx
                  have hT2 := hT.out
                  rw [hZ.out rfl hk0] at hT2
                  simp only at hT2
                  rw [if_pos (by simp)] at hT2
                  have HT2 := Lib.hid hT2
                  have HN := Lib.hid (H.out.sete (Below.drew (Below.drew HB.out)) 12 (by decide))
                  clear hT2
                  go_wp2_with fail
                  go_region
                  all_goals
                    go_wp2_with fail
                    go_region
                    all_goals
                      go_wp2
                      go_ret
                      rw [HT2.out]
                      exact ⟨rfl, HN.out.1, HN.out.2⟩
                · obtain rfl : k = 0 := by omega
                  have hv0 : v = 0 := Hv.out.symm
                  have hV0 : V = 0 := by have := HTK.out; omega
                  subst hv0
                  have hU : Hid (unc V = 0) := by show _ = _; rw [hV0]; rfl
                  have SH0 : ∀ y, (Op.shift .shl .u64 0 .i64 0).run Try.prog y = .ok (.int .u64 0) y := fun _ => rfl
                  have hT2 := hT.out
                  rw [hYES.out hlo (by omega)] at hT2
                  simp only at hT2
                  rw [if_neg (by simp)] at hT2
                  have HT2 := Lib.hid hT2
                  have HN := H.out.setn (Below.drew (Below.drew HB.out)) (s.n + (0 + 1)) (by omega)
                  rw [show ((s.n + (0 + 1) : Nat) : Int) = (s.n : Int) + 1 from by omega] at HN
                  have HN := Lib.hid HN
                  have hwb : IntKind.i64.wrap ((s.n : Int) + 1) = (s.n : Int) + 1 := by rw [IntKind.wrap_i64]; omega
                  have hwc : IntKind.i64.wrap (s.n : Int) = (s.n : Int) := by rw [IntKind.wrap_i64]; omega
                  have hendc : (s.n : Int) < (s.bs.length : Int) := by omega
                  rw [Nat.add_zero] at cb
                  clear hT2 SH hAD hxx hwa hend' hV0 w7
                  go_wp2_with fail
                  go_region
                  all_goals
                    go_wp2_with fail
                    go_region
                    all_goals
                      go_wp2
                      go_ret
                      rw [HT2.out]
                      exact ⟨ret_i64 hU.out.symm, HN.out.1, HN.out.2⟩
              · have x0 : ((x : Int) == 0) = false := by simp; omega
                have hT2 := hT.out
                rw [hYES.out hlo (by omega)] at hT2
                simp only at hT2
                rw [if_neg (by simp)] at hT2
                have HT2 := Lib.hid hT2
                have HN := H.out.setn (Below.drew (Below.drew HB.out)) (s.n + (k + 1)) (by omega)
                rw [show ((s.n + (k + 1) : Nat) : Int) = (s.n : Int) + (k : Int) + 1 from by omega] at HN
                have HN := Lib.hid HN
                have hwb : IntKind.i64.wrap ((s.n : Int) + (k : Int) + 1) = (s.n : Int) + (k : Int) + 1 := by rw [IntKind.wrap_i64]; omega
                have hVs := hsm.out
                have e1 : IntKind.i64.wrap ((V : Int) / 2) = (V : Int) / 2 := by rw [IntKind.wrap_i64]; omega
                clear hT2
                by_cases hp : V % 2 = 1
                · have p0 : (V : Int) % 2 = 1 := by omega
                  have e2 : IntKind.i64.wrap (-((V : Int) / 2)) = -((V : Int) / 2) := by rw [IntKind.wrap_i64]; omega
                  have e3 : IntKind.i64.wrap (-((V : Int) / 2) - 1) = unc V := by rw [IntKind.wrap_i64]; unfold unc; rw [if_pos hp]; omega
                  go_wp2_with fail
                  go_region
                  all_goals
                    go_wp2_with fail
                    go_region
                    all_goals
                      go_wp2
                      go_ret
                      rw [HT2.out]
                      exact ⟨ret_i64 rfl, HN.out.1, HN.out.2⟩
                · have p0 : (V : Int) % 2 = 0 := by omega
                  have e3 : unc V = (V : Int) / 2 := by unfold unc; rw [if_neg hp]; omega
                  have E3 := Lib.hid e3
                  clear e3
                  go_wp2_with fail
                  go_region
                  all_goals
                    go_wp2_with fail
                    go_region
                    all_goals
                      go_wp2
                      go_ret
                      rw [HT2.out]
                      exact ⟨ret_i64 E3.out.symm, HN.out.1, HN.out.2⟩
            · have hlo' : ¬ (x : Int) < 128 := by omega
              go_wp2_with fail
              go_region
              all_goals
                go_wp2_with fail
                go_region
                all_goals
                  go_wp2
                  go_roundw
                  case rel => exact ⟨k + 1, by have := hk8 hlo; omega, by go_num, by rw [HV.out], hNJ.out hlo, by omega, Below.drew (Below.drew HB.out)⟩
                  case measure => simp [intOf]; omega
  · have hT : Hid (s.num = (0, s)) := by show _ = _; unfold RS.num RS.told; rw [if_pos he]
    have he' : ¬ ((s.e : Nat) : Int) = 0 := by omega
    have H := Lib.hid h
    clear hs hfar h hc
    go_enter Try.func24, Try.ntmps24
    go_wp2
    go_ret
    rw [hT.out]
    exact ⟨rfl, H.out, But.refl _ _⟩
end
section
open Go.RowKit
open Wir

theorem int_num (s : RS) (l m : Int) : s.int l m = if s.num.2.e ≠ 0 then (0, s.num.2) else if s.num.1 < l ∨ m < s.num.1 then (0, { s.num.2 with n := s.n, e := 12 }) else (s.num.1, s.num.2) := by
  unfold RS.int RS.num RS.told wi
  by_cases h1 : s.e ≠ 0
  · simp [h1]
  · by_cases h2 : (num (s.bs.drop s.n)).2.2 ≠ 0
    · simp [h1, h2]
    · by_cases h3 : (num (s.bs.drop s.n)).1 < l ∨ m < (num (s.bs.drop s.n)).1
      · have h1' : s.e = 0 := by omega
        simp [h2, h3, h1']
      · have h1' : s.e = 0 := by omega
        simp [h2, h3, h1']
theorem Rdr.cells {T : TypeId} {w : World} {g : Nat} {s : RS} {O : Nat → Prop} (h : Rdr T w g s O) : (∃ a c, w.cell? ⟨g, 0, none⟩ = some (.slice a s.bs.length c) ∧ Sl w w.heap.size a s.bs.length c s.bs) ∧ w.cell? ⟨g, 1, none⟩ = some (.int .i64 (s.n : Int)) ∧ w.cell? ⟨g, 2, none⟩ = some (.int .i64 (s.e : Int)) ∧
    (∀ j, w.frozen? ⟨g, j, none⟩ = false) := by
  obtain ⟨a, c, h1, h2, _⟩ := h.ex
  exact ⟨⟨a, c, by rw [cell_of_row _ _ 0 _ _ _ h1]; rfl, h2⟩, by rw [cell_of_row _ _ 1 _ _ _ h1]; rfl, by rw [cell_of_row _ _ 2 _ _ _ h1]; rfl, fun j => frozen_of_row _ _ j _ _ h1⟩
set_option linter.unusedSimpArgs false in
set_option maxRecDepth 100000 in
set_option maxHeartbeats 1600000 in
theorem rint_any {w : World} {g : Nat} {s : RS} {O : Nat → Prop} (h : Rdr 100 w g s O) (l m : Int) :
    Calls Try.prog 50 #[.pointer (some ⟨g, 0, none⟩), .int .i64 l, .int .i64 m] w fun e w' => e = .returned (.int .i64 (s.int l m).1) ∧ Rdr 100 w' g (s.int l m).2 O ∧ But O w w' := by
  have NU := Lib.hid (rnum_any h)
  obtain ⟨_, k1, _, _⟩ := h.cells
  have hI := Lib.hid (int_num s l m)
  have hok := h.ok.num
  have hno := h.ok.le
  have H := Lib.hid h
  clear h
  have hnb := hok.2
  generalize s.num = r at *
  obtain ⟨v, s1⟩ := r
  simp only at hnb
  go_enter Try.func50, Try.ntmps50
  go_wp2_with fail
  refine NU.out.mono ?_
  rintro e w2 ⟨rfl, h2, b2⟩
  obtain ⟨_, d1, d2, z⟩ := h2.cells
  have z1 := z 1
  have z2 := z 2
  have HH := Lib.hid (And.intro h2 b2)
  clear h2 b2 z NU k1
  by_cases he : s1.e = 0
  · have e0 : ((s1.e : Nat) : Int) = 0 := by omega
    rw [e0] at d2
    by_cases hout : v < l ∨ m < v
    · have hR : Hid (s.int l m = (0, { s1 with n := s.n, e := 12 })) := by
        have := hI.out
        try simp only at this
        rw [if_neg (by omega), if_pos hout] at this
        exact this
      have HN : Hid (Rdr 100 ((w2.setCell ⟨g, 2, none⟩ (.int .i64 12)).setCell ⟨g, 1, none⟩ (.int .i64 (s.n : Int))) g { s1 with n := s.n, e := 12 } O ∧ But O w ((w2.setCell ⟨g, 2, none⟩ (.int .i64 12)).setCell ⟨g, 1, none⟩ (.int .i64 (s.n : Int)))) := by
        have x1 := HH.out.1.sete (Below.refl _ _) 12 (by decide)
        have x2 := x1.1.setn (Below.refl _ _) s.n (by simp only; rw [hnb]; exact hno)
        exact ⟨x2.1, (HH.out.2.trans x1.2 (fun i hi => .inl hi)).trans x2.2 (fun i hi => .inl hi)⟩
      have hdec : v < l ∨ (l ≤ v ∧ m < v) := by omega
      clear hI hok
      rcases hdec with h1 | ⟨h1, h3⟩
      all_goals
        go_wp2
        go_ret
        rw [hR.out]
        exact ⟨rfl, HN.out⟩
    · have hR : Hid (s.int l m = (v, s1)) := by
        have := hI.out
        try simp only at this
        rw [if_neg (by omega), if_neg hout] at this
        exact this
      have h1 : l ≤ v := by omega
      have h3 : v ≤ m := by omega
      clear hI hok
      go_wp2
      go_ret
      rw [hR.out]
      exact ⟨rfl, HH.out⟩
  · have he' : ¬ ((s1.e : Nat) : Int) = 0 := by omega
    have y0 : (((s1.e : Nat) : Int) == 0) = false := by simp; omega
    have hR : Hid (s.int l m = (0, s1)) := by
      have := hI.out
      try simp only at this
      rw [if_pos he] at this
      exact this
    clear hI hok
    go_wp2
    go_ret
    rw [hR.out]
    exact ⟨rfl, HH.out⟩
theorem text_int (s : RS) (m : Int) (ho : s.Ok) : ((s.int 0 m).2.e = 0 → 0 ≤ (s.int 0 m).1 ∧ (s.int 0 m).1 ≤ 9223372036854775807) ∧ s.text m = if (s.int 0 m).2.e ≠ 0 then ([], (s.int 0 m).2) else
    if s.bs.length - (s.int 0 m).2.n < (s.int 0 m).1.toNat then ([], { (s.int 0 m).2 with n := s.n, e := 13 }) else ((s.bs.drop (s.int 0 m).2.n).take (s.int 0 m).1.toNat, { (s.int 0 m).2 with n := (s.int 0 m).2.n + (s.int 0 m).1.toNat }) := by
  have hle := ho.le
  have hnl := num_le ho.drop
  by_cases h1 : s.e ≠ 0
  · have e1 : s.int 0 m = (0, s) := by unfold RS.int RS.told; rw [if_pos h1]
    have e2 : s.text m = ([], s) := by unfold RS.text RS.told; rw [if_pos h1]
    rw [e1, e2]
    exact ⟨fun h => absurd h h1, by simp only; rw [if_pos h1]⟩
  · have h0 : s.e = 0 := by omega
    by_cases h2 : (wi 0 m (s.bs.drop s.n)).2.2 = 0
    · have hw := wi_ok h2
      have hwl := wi_le (l := 0) (m := m) ho.drop
      have hv : (wi 0 m (s.bs.drop s.n)).1 ≤ 9223372036854775807 := by
        unfold wi
        split
        · exact (by decide : (0 : Int) ≤ 9223372036854775807)
        split
        · exact (by decide : (0 : Int) ≤ 9223372036854775807)
        · exact hnl.2.2.2
      rcases hx : wi 0 m (s.bs.drop s.n) with ⟨v, k, e⟩
      rw [hx] at h2 hw hwl hv
      simp only at h2 hw hwl hv
      subst h2
      have e1 : s.int 0 m = (v, { s with n := s.n + k }) := by unfold RS.int RS.told; rw [if_neg h1, hx]; simp
      rw [e1]
      refine ⟨fun _ => ⟨hw, hv⟩, ?_⟩
      simp only
      rw [if_neg h1]
      rw [List.length_drop] at hwl
      have htx : tx m (s.bs.drop s.n) = if (s.bs.drop s.n).length - k < v.toNat then ([], 0, 13) else (((s.bs.drop s.n).drop k).take v.toNat, k + v.toNat, 0) := by
        unfold tx
        rw [hx]
        simp only
        rw [if_neg (by simp)]
      unfold RS.text RS.told
      rw [if_neg h1, htx, List.length_drop]
      by_cases h3 : s.bs.length - (s.n + k) < v.toNat
      · rw [if_pos h3, if_pos (show s.bs.length - s.n - k < v.toNat by omega)]
        simp
      · rw [if_neg h3, if_neg (show ¬ s.bs.length - s.n - k < v.toNat by omega)]
        simp [List.drop_drop, Nat.add_assoc]
    · have e1 : s.int 0 m = (0, { s with e := (wi 0 m (s.bs.drop s.n)).2.2 }) := by unfold RS.int RS.told; rw [if_neg h1, if_pos h2]
      rw [e1]
      refine ⟨fun h => absurd h h2, ?_⟩
      simp only
      rw [if_pos h2]
      unfold RS.text RS.told tx
      rw [if_neg h1, if_pos h2]
      simp only
      rw [if_pos h2]
set_option linter.unusedSimpArgs false in
set_option maxRecDepth 100000 in
set_option maxHeartbeats 1600000 in
theorem rtext_any {w : World} {g : Nat} {s : RS} {O : Nat → Prop} (h : Rdr 100 w g s O) (m : Int) :
    Calls Try.prog 27 #[.pointer (some ⟨g, 0, none⟩), .int .i64 m] w fun e w' => ∃ a c, e = .returned (.slice a (s.text m).1.length c) ∧ Sl w' w'.heap.size a (s.text m).1.length c (s.text m).1 ∧
      (∀ b o, a = some ⟨b, o, none⟩ → w.heap.size ≤ b) ∧ Rdr 100 w' g (s.text m).2 O ∧ But O w w' := by
  have NU := Lib.hid (rint_any h 0 m)
  obtain ⟨_, k1, _, _⟩ := h.cells
  obtain ⟨hpos, hI⟩ := text_int s m h.ok
  have hI := Lib.hid hI
  have hok := h.ok.int 0 m
  have hno := h.ok.le
  have hbig := h.big
  have hgl := h.lt g h.gO
  clear h
  have hnb := hok.2
  have hle1 := hok.1.le
  generalize s.int 0 m = r at *
  obtain ⟨v, s1⟩ := r
  simp only at hnb hpos hle1
  go_enter Try.func27, Try.ntmps27
  go_wp2_with fail
  refine NU.out.mono ?_
  rintro e w2 ⟨rfl, h2, b2⟩
  obtain ⟨⟨a, c, d0, hsl⟩, d1, d2, z⟩ := h2.cells
  have z1 := z 1
  have z2 := z 2
  have HH := Lib.hid (And.intro h2 b2)
  have hgl2 := h2.lt g h2.gO
  have hz2 := b2.size
  clear h2 b2 z NU k1
  by_cases he : s1.e = 0
  · have e0 : ((s1.e : Nat) : Int) = 0 := by omega
    rw [e0] at d2
    obtain ⟨hp1, hp2⟩ := hpos he
    obtain ⟨n, rfl⟩ := Int.eq_ofNat_of_zero_le hp1
    rw [hnb] at hsl d0 hle1
    have hsub : IntKind.i64.wrap ((s.bs.length : Int) - (s1.n : Int)) = ((s.bs.length - s1.n : Nat) : Int) := by rw [IntKind.wrap_i64]; omega
    obtain ⟨R, hR⟩ : ∃ R, R = s.bs.length - s1.n := ⟨_, rfl⟩
    rw [← hR] at hsub
    by_cases hsh : R < n
    · have hT : Hid (s.text m = ([], { s1 with n := s.n, e := 13 })) := by
        have := hI.out
        try simp only at this
        rw [if_neg (by omega), if_pos (by omega)] at this
        exact this
      have HN : Hid (∀ x, Below w2.heap.size w2 x → Rdr 100 ((x.setCell ⟨g, 2, none⟩ (.int .i64 13)).setCell ⟨g, 1, none⟩ (.int .i64 (s.n : Int))) g { s1 with n := s.n, e := 13 } O ∧ But O w ((x.setCell ⟨g, 2, none⟩ (.int .i64 13)).setCell ⟨g, 1, none⟩ (.int .i64 (s.n : Int)))) := fun x hx => by
        have x1 := HH.out.1.sete hx 13 (by decide)
        have x2 := x1.1.setn (Below.refl _ _) s.n (by simp only; rw [hnb]; exact hno)
        exact ⟨x2.1, (HH.out.2.trans x1.2 (fun i hi => .inl hi)).trans x2.2 (fun i hi => .inl hi)⟩
      have hsh' : (R : Int) < (n : Int) := by omega
      clear hI hok hR hsl
      go_wp2_with fail
      go_region
      all_goals
        go_wp2
        go_ret
        rw [hT.out]
        exact ⟨none, 0, rfl, Sl.nil_, (fun b o hb => by cases hb), (HN.out _ (Below.drew (Below.refl _ _))).1, (HN.out _ (Below.drew (Below.refl _ _))).2⟩
    · have hT : Hid (s.text m = ((s.bs.drop s1.n).take n, { s1 with n := s1.n + n })) := by
        have := hI.out
        try simp only at this
        rw [if_neg (by omega), if_neg (by omega)] at this
        exact this
      have hsh' : (n : Int) ≤ (R : Int) := by omega
      have hadd : IntKind.i64.wrap ((s1.n : Int) + (n : Int)) = ((s1.n + n : Nat) : Int) := by rw [IntKind.wrap_i64]; omega
      have hnn : s1.n + n ≤ s.bs.length := by omega
      have c5 := run_cut_mid (P := Try.prog) 28 5 Try.underlying28 info_u8 a s.bs.length c s1.n (s1.n + n) (by omega) (by have := hsl.le; omega)
      change ∀ x, _ = Result.ok (Value.slice (fromA a c s1.n) (s1.n + n - s1.n) (c - s1.n)) x at c5
      have s5 := hsl.mid (j := s1.n) (k := s1.n + n) (by omega) hnn
      have hX : (s.bs.take (s1.n + n)).drop s1.n = (s.bs.drop s1.n).take n := by rw [List.drop_take]; congr 1; omega
      rw [hX, show s1.n + n - s1.n = n from by omega] at s5
      rw [show s1.n + n - s1.n = n from by omega] at c5
      have hn9 : n ≤ s.bs.length := by omega
      obtain ⟨N, hN⟩ : ∃ N, N = s1.n + n := ⟨_, rfl⟩
      rw [← hN] at c5 hadd hT hnn
      have HNN := Lib.hid hN
      generalize fromA a c s1.n = a5 at c5 s5
      generalize c - s1.n = k5 at c5 s5
      generalize hXX : (s.bs.drop s1.n).take n = X at hT s5
      have S5 := Lib.hid s5
      clear hI hok hR hsl hX hN s5 hXX
      go_wp2_with fail
      go_region
      all_goals
        go_wp2_with fail
        refine wp_region_held_drew (S := fun x => x.cell? ⟨g, 0, none⟩ = some (.slice a s.bs.length c) ∧ x.cell? ⟨g, 1, none⟩ = some (.int .i64 (s1.n : Int))) (by kernel_rfl) ⟨d0, d1⟩ (fun hHeld => ?_)
        refine wpAnyH_take (i := 1) (v := ?_) rfl (by kernel_rfl) (by kernel_rfl) (by kernel_rfl) (fun _ _ _ h => h) (Or.inl ⟨by rfl, ?_⟩) (by assumption) ?_
        rotate_left
        · intro w hSw
          (try dsimp only at hSw)
          go_simp
          all_goals with_reducible rfl
        try simp only [Act.put, List.getElem_toArray, List.getElem_cons_succ, List.getElem_cons_zero, List.setIfInBounds_toArray, List.set_cons_zero, List.set_cons_succ]
        refine wpAnyH_take (i := 2) (v := ?_) rfl (by kernel_rfl) (by kernel_rfl) (by kernel_rfl) (fun _ _ _ h => h) (Or.inl ⟨by rfl, ?_⟩) (by assumption) ?_
        rotate_left
        · intro w hSw
          (try dsimp only at hSw)
          go_simp
          all_goals with_reducible rfl
        try simp only [Act.put, List.getElem_toArray, List.getElem_cons_succ, List.getElem_cons_zero, List.setIfInBounds_toArray, List.set_cons_zero, List.set_cons_succ]
        refine wpAnyH_take (i := 3) (v := ?_) rfl (by kernel_rfl) (by kernel_rfl) (by kernel_rfl) (fun _ _ _ h => h) (Or.inl ⟨by rfl, ?_⟩) (by assumption) ?_
        rotate_left
        · intro w hSw
          (try dsimp only at hSw)
          go_simp
          all_goals with_reducible rfl
        try simp only [Act.put, List.getElem_toArray, List.getElem_cons_succ, List.getElem_cons_zero, List.setIfInBounds_toArray, List.set_cons_zero, List.set_cons_succ]
        refine wpAnyH_take (i := 4) (v := ?_) rfl (by kernel_rfl) (by kernel_rfl) (by kernel_rfl) (fun _ _ _ h => h) (Or.inl ⟨by rfl, ?_⟩) (by assumption) ?_
        rotate_left
        · intro w hSw
          (try dsimp only at hSw)
          go_simp
          all_goals with_reducible rfl
        try simp only [Act.put, List.getElem_toArray, List.getElem_cons_succ, List.getElem_cons_zero, List.setIfInBounds_toArray, List.set_cons_zero, List.set_cons_succ]
        refine wpAnyH_take (i := 5) (v := ?_) rfl (by kernel_rfl) (by kernel_rfl) (by kernel_rfl) (fun _ _ _ h => h) (Or.inl ⟨by rfl, ?_⟩) (by assumption) ?_
        rotate_left
        · intro w hSw
          (try dsimp only at hSw)
          go_simp
          all_goals with_reducible rfl
        try simp only [Act.put, List.getElem_toArray, List.getElem_cons_succ, List.getElem_cons_zero, List.setIfInBounds_toArray, List.set_cons_zero, List.set_cons_succ]
        refine wpAnyH_take (i := 6) (v := ?_) rfl (by kernel_rfl) (by kernel_rfl) (by kernel_rfl) (fun _ _ _ h => h) (Or.inl ⟨by rfl, ?_⟩) (by assumption) ?_
        rotate_left
        · intro w hSw
          (try dsimp only at hSw)
          go_simp
          all_goals with_reducible rfl
        try simp only [Act.put, List.getElem_toArray, List.getElem_cons_succ, List.getElem_cons_zero, List.setIfInBounds_toArray, List.set_cons_zero, List.set_cons_succ]
        refine wpAnyH_take (i := 7) (v := ?_) rfl (by kernel_rfl) (by kernel_rfl) (by kernel_rfl) (fun _ _ _ h => h) (Or.inl ⟨by rfl, ?_⟩) (by assumption) ?_
        rotate_left
        · intro w hSw
          (try dsimp only at hSw)
          go_simp
          all_goals with_reducible rfl
        try simp only [Act.put, List.getElem_toArray, List.getElem_cons_succ, List.getElem_cons_zero, List.setIfInBounds_toArray, List.set_cons_zero, List.set_cons_succ]
        refine wpAnyH_take (i := 8) (v := ?_) rfl (by kernel_rfl) (by kernel_rfl) (by kernel_rfl) (fun _ _ _ h => h) (Or.inl ⟨by rfl, ?_⟩) (by assumption) ?_
        rotate_left
        · intro w hSw
          (try dsimp only at hSw)
          go_simp
          all_goals with_reducible rfl
        try simp only [Act.put, List.getElem_toArray, List.getElem_cons_succ, List.getElem_cons_zero, List.setIfInBounds_toArray, List.set_cons_zero, List.set_cons_succ]
        refine wpAnyH_take (i := 9) (v := ?_) rfl (by kernel_rfl) (by kernel_rfl) (by kernel_rfl) (fun _ _ _ h => h) (Or.inl ⟨by rfl, ?_⟩) (by assumption) ?_
        rotate_left
        · intro w hSw
          (try dsimp only at hSw)
          go_simp
          all_goals with_reducible rfl
        try simp only [Act.put, List.getElem_toArray, List.getElem_cons_succ, List.getElem_cons_zero, List.setIfInBounds_toArray, List.set_cons_zero, List.set_cons_succ]
        refine wpAnyH_take (i := 10) (v := ?_) rfl (by kernel_rfl) (by kernel_rfl) (by kernel_rfl) (fun _ _ _ h => h) (Or.inl ⟨by rfl, ?_⟩) (by assumption) ?_
        rotate_left
        · intro w hSw
          (try dsimp only at hSw)
          go_simp
          all_goals with_reducible rfl
        try simp only [Act.put, List.getElem_toArray, List.getElem_cons_succ, List.getElem_cons_zero, List.setIfInBounds_toArray, List.set_cons_zero, List.set_cons_succ]
        refine wpAnyH_take (i := 11) (v := ?_) rfl (by kernel_rfl) (by kernel_rfl) (by kernel_rfl) (fun _ _ _ h => h) (Or.inl ⟨by rfl, ?_⟩) (by assumption) ?_
        rotate_left
        · intro w hSw
          (try dsimp only at hSw)
          go_simp
          all_goals with_reducible rfl
        try simp only [Act.put, List.getElem_toArray, List.getElem_cons_succ, List.getElem_cons_zero, List.setIfInBounds_toArray, List.set_cons_zero, List.set_cons_succ]
        refine wpAnyH_take (i := 12) (v := ?_) rfl (by kernel_rfl) (by kernel_rfl) (by kernel_rfl) (fun _ _ _ h => h) (Or.inl ⟨by rfl, ?_⟩) (by assumption) ?_
        rotate_left
        · intro w hSw
          (try dsimp only at hSw)
          go_simp
          all_goals with_reducible rfl
        try simp only [Act.put, List.getElem_toArray, List.getElem_cons_succ, List.getElem_cons_zero, List.setIfInBounds_toArray, List.set_cons_zero, List.set_cons_succ]
        refine wpAnyH_take (i := 13) (v := ?_) rfl (by kernel_rfl) (by kernel_rfl) (by kernel_rfl) (fun _ _ _ h => h) (Or.inl ⟨by rfl, ?_⟩) (by assumption) ?_
        rotate_left
        · intro w hSw
          (try dsimp only at hSw)
          go_simp
          all_goals with_reducible rfl
        try simp only [Act.put, List.getElem_toArray, List.getElem_cons_succ, List.getElem_cons_zero, List.setIfInBounds_toArray, List.set_cons_zero, List.set_cons_succ]
        refine wpAnyH_take (i := 14) (v := ?_) rfl (by kernel_rfl) (by kernel_rfl) (by kernel_rfl) (fun _ _ _ h => h) (Or.inl ⟨by rfl, ?_⟩) (by assumption) ?_
        rotate_left
        · intro w hSw
          (try dsimp only at hSw)
          go_simp
          all_goals with_reducible rfl
        try simp only [Act.put, List.getElem_toArray, List.getElem_cons_succ, List.getElem_cons_zero, List.setIfInBounds_toArray, List.set_cons_zero, List.set_cons_succ]
        refine wpAnyH_take (i := 15) (v := ?_) rfl (by kernel_rfl) (by kernel_rfl) (by kernel_rfl) (fun _ _ _ h => h) (Or.inl ⟨by rfl, ?_⟩) (by assumption) ?_
        rotate_left
        · intro w hSw
          (try dsimp only at hSw)
          go_simp
          all_goals with_reducible rfl
        try simp only [Act.put, List.getElem_toArray, List.getElem_cons_succ, List.getElem_cons_zero, List.setIfInBounds_toArray, List.set_cons_zero, List.set_cons_succ]
        have hbA : Below w2.heap.size w2 (w2.drew.drew.alloc (.cells #[] 5)) := (Below.drew (Below.drew (Below.refl _ _))).alloc (Nat.le_refl _) _
        have hown0 : OwnB (w2.drew.drew.alloc (.cells #[] 5)) w2.heap.size 5 (.slice (some ⟨w2.heap.size, 0, none⟩) 0 0) [] := OwnB.lit (w := w2.drew.drew) _ [] (Nat.le_refl _) (by decide)
        have f0 := (hbA.cell (p := ⟨g, 0, none⟩) hgl2).trans d0
        have f1 := (hbA.cell (p := ⟨g, 1, none⟩) hgl2).trans d1
        have zA := (hbA.frozen (p := ⟨g, 1, none⟩) hgl2).trans z1
        refine wpAnyH_ready (rs := [0]) (by kernel_rfl) (by simp) ?_
        refine AllReadyH.cons rfl (fun K hK => ?_) AllReadyH.nil
        rw [if_pos (by rfl)]
        go_simp
        refine hK.out _ _ ?_ (fun hHeld => ?_)
        · exact ⟨f0, f1⟩
        clear hK K
        try simp only [Act.put, List.getElem_toArray, List.getElem_cons_succ, List.getElem_cons_zero, List.setIfInBounds_toArray, List.set_cons_zero, List.set_cons_succ]
        refine wpAnyH_ready (rs := [16]) (by kernel_rfl) (by simp) ?_
        refine AllReadyH.cons rfl (fun K hK => ?_) AllReadyH.nil
        rw [if_pos (by rfl)]
        refine wp_append_sl (.tmp 39) (.tmp 54) _ rfl w2.heap.size _ Try.underlying28 info_u8 (.slice (some ⟨w2.heap.size, 0, none⟩) 0 0) [] rfl hown0 _ a5 n k5 X rfl (S5.out.below hbA (Nat.le_refl _)) (by simp; omega) (by simp) ?_
        intro v1 w3 ho1 hg1 hat1
        rw [List.nil_append] at ho1
        have hb3 : Below w2.heap.size w2 w3 := hbA.grown hg1 (by simp) (fun k hk => by simp [Value.ownBlock] at hk; omega)
        have g0 := (hb3.cell (p := ⟨g, 0, none⟩) hgl2).trans d0
        have g1 := (hb3.cell (p := ⟨g, 1, none⟩) hgl2).trans d1
        have zB := (hb3.frozen (p := ⟨g, 1, none⟩) hgl2).trans z1
        refine hK.out _ _ ?_ (fun hHeld => ?_)
        · exact ⟨g0, g1⟩
        clear hK K
        try simp only [Act.put, List.getElem_toArray, List.getElem_cons_succ, List.getElem_cons_zero, List.setIfInBounds_toArray, List.set_cons_zero, List.set_cons_succ]
        obtain ⟨ba, bc, hv1, hs4, hbb⟩ := ho1.sl_base S5.out.byte
        subst hv1
        refine wpAnyH_take (i := 17) (v := ?_) rfl (by kernel_rfl) (by kernel_rfl) (by kernel_rfl) (fun _ _ _ h => h) (Or.inl ⟨by rfl, ?_⟩) (by assumption) ?_
        rotate_left
        · intro w hSw
          (try dsimp only at hSw)
          go_simp
          all_goals with_reducible rfl
        try simp only [Act.put, List.getElem_toArray, List.getElem_cons_succ, List.getElem_cons_zero, List.setIfInBounds_toArray, List.set_cons_zero, List.set_cons_succ]
        refine wpAnyH_done (by kernel_rfl) ?_ _
        have HN := Lib.hid (HH.out.1.setn hb3 N (by rw [hnb]; exact hnn))
        have HS := Lib.hid (hs4.far_ hbb hgl2 (j := 1) (.int .i64 ((N : Nat) : Int)))
        have HBB := Lib.hid (show ∀ b o, ba = some ⟨b, o, none⟩ → w.heap.size ≤ b from fun b o hb => Nat.le_trans hz2 (hbb b o hb))
        clear hHeld f0 f1 zA hbA hown0 hb3 ho1 hg1 hat1 hs4 hbb d0 d1 d2 z1 z2 g0
        go_wp2
        go_ret
        rw [hT.out]
        exact ⟨ba, bc, rfl, HS.out, HBB.out, HN.out.1, HH.out.2.trans HN.out.2 (fun i hi => .inl hi)⟩
  · have he' : ¬ ((s1.e : Nat) : Int) = 0 := by omega
    have hT : Hid (s.text m = ([], s1)) := by
      have := hI.out
      try simp only at this
      rw [if_pos he] at this
      exact this
    clear hI hok
    go_wp2
    go_ret
    rw [hT.out]
    exact ⟨none, 0, rfl, Sl.nil_, (fun b o hb => by cases hb), HH.out⟩
end
section
open Go.RowKit
open Wir Evn
attribute [local go_sem] Oper.semAt_some
set_option linter.unusedVariables false
set_option linter.unusedSimpArgs false

/-- A struct that is filled by a reader: block b, and the result's block, a zero one, behind w. -/
structure GP (Z : Array Value) (U : TypeId) (w wx : World) (g b : Nat) (s : RS) (O : Nat → Prop) (cs : Array Value) : Prop where
  rdr : Rdr 100 wx g s O
  blk : wx.heap[b]? = some (.cells cs U (0, 0))
  res : wx.heap[w.heap.size]? = some (.cells Z U (0, 0))
  but : But O w wx
  hb : w.heap.size < b
  lt : ∀ k, O k → k < w.heap.size
section
variable {Z : Array Value} {U : TypeId} {w wx x : World} {g b : Nat} {s s' : RS} {O : Nat → Prop} {cs : Array Value}
theorem GP.read (h : GP Z U w wx g b s O cs) (hr : Rdr 100 x g s' O) (hx : But O wx x) : GP Z U w x g b s' O cs :=
  ⟨hr, (hx.block b (lt_of_heap h.blk) (fun ho => by have := h.lt _ ho; have := h.hb; omega)).trans h.blk, (hx.block _ (lt_of_heap h.res) (fun ho => by have := h.lt _ ho; omega)).trans h.res, h.but.trans hx (fun i hi => .inl hi), h.hb, h.lt⟩
theorem GP.below (h : GP Z U w wx g b s O cs) (hx : Below wx.heap.size wx x) : GP Z U w x g b s O cs := h.read (h.rdr.below hx) (But.of_below hx)
theorem GP.set (h : GP Z U w wx g b s O cs) (j : Nat) (v : Value) : GP Z U w (wx.setCell ⟨b, j, none⟩ v) g b s O (cs.setIfInBounds j v) := by
  have hb := h.hb
  refine ⟨h.rdr.same (fun k hk => Below.heap_setCell wx ⟨b, j, none⟩ v k (fun e => by have := h.lt k hk; have e2 : k = b := e; omega)) (by simp [World.setCell]), heap_setCell_same _ _ _ _ _ _ h.blk,
    (Below.heap_setCell wx ⟨b, j, none⟩ v _ (fun e => by have e2 : w.heap.size = b := e; omega)).trans h.res, h.but.setCell (p := ⟨b, j, none⟩) (.inr (by show w.heap.size ≤ b; omega)) v, h.hb, h.lt⟩
theorem GP.grown (h : GP Z U w wx g b s O cs) {v : Value} (hg : wx.grownBy x v.ownBlock) (hv : ∀ k, v.ownBlock = some k → b < k) : GP Z U w x g b s O cs := by
  have hb := h.hb
  have hB : But (fun k => v.ownBlock = some k) wx x := But.grown hg (fun k hk => hk)
  refine ⟨h.rdr.but hB (fun k hk e => by have := h.lt k hk; have := hv k e; omega), (hB.block b (lt_of_heap h.blk) (fun e => by have := hv b e; omega)).trans h.blk,
    (hB.block _ (lt_of_heap h.res) (fun e => by have := hv _ e; omega)).trans h.res, h.but.trans hB (fun i hi => .inr (by have := hv i hi; omega)), h.hb, h.lt⟩
theorem GP.cell (h : GP Z U w wx g b s O cs) {j : Nat} {v : Value} (hv : cs[j]? = some v) : wx.cell? ⟨b, j, none⟩ = some v ∧ wx.frozen? ⟨b, j, none⟩ = false :=
  ⟨by rw [cell_of_row _ _ j _ _ _ h.blk]; exact hv, frozen_of_row _ _ j _ _ h.blk⟩
theorem GP.num (h : GP Z U w wx g b s O cs) :
    Calls Try.prog 24 #[.pointer (some ⟨g, 0, none⟩)] wx fun e w' => e = .returned (.int .i64 s.num.1) ∧ GP Z U w w' g b s.num.2 O cs ∧ But O wx w' :=
  (rnum_any h.rdr).mono fun e w' hh => ⟨hh.1, h.read hh.2.1 hh.2.2, hh.2.2⟩
theorem GP.int (h : GP Z U w wx g b s O cs) (l m : Int) :
    Calls Try.prog 50 #[.pointer (some ⟨g, 0, none⟩), .int .i64 l, .int .i64 m] wx fun e w' => e = .returned (.int .i64 (s.int l m).1) ∧ GP Z U w w' g b (s.int l m).2 O cs ∧ But O wx w' :=
  (rint_any h.rdr l m).mono fun e w' hh => ⟨hh.1, h.read hh.2.1 hh.2.2, hh.2.2⟩
end
theorem OwnP.same {w w' : World} {base : Nat} {e : TypeId} {v : Value} {l : List (Int × Int)} (h : OwnP w base e v l) (hk : ∀ b, v.ownBlock = some b → w'.heap[b]? = w.heap[b]?) : OwnP w' base e v l := by
  refine ⟨h.1, ?_⟩
  rcases h.2 with h1 | ⟨g, cap, cur, rfl, h2, h3, h4⟩
  · exact .inl h1
  · exact .inr ⟨g, cap, cur, rfl, h2, (hk g rfl).trans h3, h4⟩
theorem OwnP.at_base {w : World} {base : Nat} {e : TypeId} {v : Value} {l : List (Int × Int)} (h : OwnP w base e v l) {b : Nat} (hb : v.ownBlock = some b) : base ≤ b ∧ b < w.heap.size := by
  rcases h.2 with ⟨rfl, _⟩ | ⟨g, cap, cur, rfl, h2, h3, h4⟩
  · cases hb
  · injection hb with hb
    subst hb
    exact ⟨h2, lt_of_heap h3⟩
theorem OwnP.typ {w : World} {base : Nat} {e : TypeId} {v : Value} {l : List (Int × Int)} (h : OwnP w base e v l) {b : Nat} (hb : v.ownBlock = some b) : ∃ cur, w.heap[b]? = some (.cells cur e (0, 0)) := by
  rcases h.2 with ⟨rfl, _⟩ | ⟨g, cap, cur, rfl, h2, h3, h4⟩
  · cases hb
  · injection hb with hb
    subst hb
    exact ⟨cur, h3⟩
theorem OwnP.nil_ (w : World) (base : Nat) (e : TypeId) : OwnP w base e (.slice none 0 0) [] := ⟨rfl, .inl ⟨rfl, rfl⟩⟩
theorem OwnP.form {w : World} {base : Nat} {e : TypeId} {v : Value} {l : List (Int × Int)} (h : OwnP w base e v l) : ∃ a n c, v = .slice a n c := by
  obtain ⟨a, c, e, _⟩ := h.prow
  exact ⟨_, _, _, e⟩
/-- Rows of two types lie in two blocks. -/
theorem own_two {w : World} {b1 b2 : Nat} {e1 e2 : TypeId} {v1 v2 : Value} {l1 l2 : List (Int × Int)} (h1 : OwnP w b1 e1 v1 l1) (h2 : OwnP w b2 e2 v2 l2) (hne : e1 ≠ e2) {k : Nat} (k1 : v1.ownBlock = some k) : v2.ownBlock ≠ some k := fun k2 => by
  obtain ⟨c1, q1⟩ := h1.typ k1
  obtain ⟨c2, q2⟩ := h2.typ k2
  rw [q1] at q2
  injection q2 with q2
  injection q2 with q3 q4
  exact hne q4
theorem rowA_one (x y : Int) : rowA 1 [(x, y)] = #[.int .i64 x, .int .i64 y] := by
  have h := rowA_put 1 [] x y (by decide)
  rw [← rowA_made] at h
  exact h.symm.trans (by kernel_rfl)
theorem prow_one (w : World) (x y : Int) (U : TypeId) : PRow (w.alloc (.cells #[.int .i64 x, .int .i64 y] U)) (some ⟨w.heap.size, 0, none⟩) 1 1 [(x, y)] :=
  PRow.new_ (T := U) (by rw [heap_alloc_new, rowA_one]) rfl (by unfold maxLen; omega)
theorem store_row {w : World} {g : Nat} {T : TypeId} {cs cs' : Array Value} (h : w.heap[g]? = some (.cells cs T (0, 0))) (hl : cs.size = cs'.size) : (w.setCells g 0 cs'.toList).heap[g]? = some (.cells cs' T (0, 0)) := store27 h hl
set_option maxRecDepth 100000 in
set_option maxHeartbeats 3200000 in
theorem dgetPol_any {w : World} {g : Nat} {s : RS} {O : Nat → Prop} (h : Rdr 100 w g s O) :
    Calls Try.prog 25 #[.pointer (some ⟨g, 0, none⟩)] w fun e w' => ∃ a1 a2 c1 c2, e = .returned (plV (getPl s).1 a1 a2 c1 c2) ∧ Rdr 100 w' g (getPl s).2 O ∧ But O w w' ∧
      PRow w' a1 (getPl s).1.bands.length c1 (getPl s).1.bands ∧ PRow w' a2 (getPl s).1.slots.length c2 (getPl s).1.slots ∧ (∀ k o, a1 = some ⟨k, o, none⟩ ∨ a2 = some ⟨k, o, none⟩ → w.heap.size ≤ k) := by
  have hlt := h.lt
  have hZ : (w.alloc (.cells #[.int .i64 0, .int .i64 0, .slice none 0 0, .int .i64 0, .int .i64 0, .int .i64 0, .int .i64 0, .slice none 0 0] 25)).heap[w.heap.size]? = some (.cells #[.int .i64 0, .int .i64 0, .slice none 0 0, .int .i64 0, .int .i64 0, .int .i64 0, .int .i64 0, .slice none 0 0] 25 (0, 0)) := heap_alloc_new _ _
  have hA := bel1 (Below.refl w.heap.size w) (.cells #[.int .i64 0, .int .i64 0, .slice none 0 0, .int .i64 0, .int .i64 0, .int .i64 0, .int .i64 0, .slice none 0 0] 25)
  have R0 := Lib.hid (h.below hA)
  have HA := Lib.hid (And.intro hA (And.intro hZ hlt))
  obtain ⟨k, t1, hk⟩ : ∃ k t1, s.num = (k, t1) := ⟨_, _, rfl⟩
  obtain ⟨t, t2, ht⟩ : ∃ t t2, t1.num = (t, t2) := ⟨_, _, rfl⟩
  obtain ⟨n, t3, hn⟩ : ∃ n t3, t2.int 0 8 = (n, t3) := ⟨_, _, rfl⟩
  have hin := int_in t2 8 (by decide)
  rw [hn] at hin
  simp only at hin
  obtain ⟨nn, hnn⟩ : ∃ nn : Nat, n = (nn : Int) := ⟨n.toNat, by omega⟩
  subst hnn
  obtain ⟨lb, t4, hb⟩ : ∃ lb t4, rowsR nn t3 = (lb, t4) := ⟨_, _, rfl⟩
  obtain ⟨kp, t5, hkp⟩ : ∃ kp t5, t4.num = (kp, t5) := ⟨_, _, rfl⟩
  obtain ⟨ki, t6, hki⟩ : ∃ ki t6, t5.num = (ki, t6) := ⟨_, _, rfl⟩
  obtain ⟨kd, t7, hkd⟩ : ∃ kd t7, t6.num = (kd, t7) := ⟨_, _, rfl⟩
  obtain ⟨pp, t8, hpp⟩ : ∃ pp t8, t7.num = (pp, t8) := ⟨_, _, rfl⟩
  obtain ⟨m, t9, hm⟩ : ∃ m t9, t8.int 0 8 = (m, t9) := ⟨_, _, rfl⟩
  have him := int_in t8 8 (by decide)
  rw [hm] at him
  simp only at him
  obtain ⟨mm, hmm⟩ : ∃ mm : Nat, m = (mm : Int) := ⟨m.toNat, by omega⟩
  subst hmm
  obtain ⟨ls, t10, hs⟩ : ∃ ls t10, rowsR mm t9 = (ls, t10) := ⟨_, _, rfl⟩
  have hG : getPl s = (⟨k, t, lb, kp, ki, kd, pp, ls⟩, t10) := by
    unfold getPl getRows
    simp only [hk, ht, hn, hb, hkp, hki, hkd, hpp, hm, hs, Int.toNat_natCast]
  rw [hG]
  simp only
  have HK := Lib.hid hk
  have HT := Lib.hid ht
  have HN := Lib.hid hn
  have HBd := Lib.hid hb
  have HKP := Lib.hid hkp
  have HKI := Lib.hid hki
  have HKD := Lib.hid hkd
  have HPP := Lib.hid hpp
  have HM := Lib.hid hm
  have HSl := Lib.hid hs
  have hn8 : nn ≤ 8 := by omega
  have hm8 : mm ≤ 8 := by omega
  clear hlt hZ hA h hk ht hn hb hkp hki hkd hpp hm hs hG hin him
  go_enter Try.func25, Try.ntmps25
  go_wp2_with fail
  refine (rnum_any R0.out).mono ?_
  rintro e w1 ⟨rfl, hr, hbt⟩
  rw [HK.out] at hr ⊢
  simp only at hr ⊢
  have hsz := hbt.size
  have hw1 : w.heap.size < w1.heap.size := by have := lt_of_heap HA.out.2.1; omega
  have hGP0 : GP #[.int .i64 0, .int .i64 0, .slice none 0 0, .int .i64 0, .int .i64 0, .int .i64 0, .int .i64 0, .slice none 0 0] 25 w (w1.alloc (.cells #[.int .i64 k, .int .i64 0, .slice none 0 0, .int .i64 0, .int .i64 0, .int .i64 0, .int .i64 0, .slice none 0 0] 25)) g w1.heap.size t1 O #[.int .i64 k, .int .i64 0, .slice none 0 0, .int .i64 0, .int .i64 0, .int .i64 0, .int .i64 0, .slice none 0 0] := ⟨hr.below (bel1 (Below.refl _ _) _), heap_alloc_new _ _, (Below.heap_alloc _ _ _ hw1).trans ((hbt.block _ (lt_of_heap HA.out.2.1) (fun ho => by have := HA.out.2.2 _ ho; omega)).trans HA.out.2.1), ((But.of_below (O := O) HA.out.1).trans hbt (fun i hi => .inl hi)).alloc _, hw1, HA.out.2.2⟩
  have HG := Lib.hid hGP0
  clear hr hbt hGP0 hsz
  go_wp2_with fail
  refine (HG.out.num).mono ?_
  rintro e x1 ⟨rfl, hg, hq⟩
  rw [HT.out] at hg ⊢
  simp only at hg ⊢
  clear HG
  have HG := Lib.hid hg
  obtain ⟨q1, z1⟩ := HG.out.cell (j := 1) (v := .int .i64 0) rfl
  have hn : GP #[.int .i64 0, .int .i64 0, .slice none 0 0, .int .i64 0, .int .i64 0, .int .i64 0, .int .i64 0, .slice none 0 0] 25 w (x1.setCell ⟨w1.heap.size, 1, none⟩ (.int .i64 t)) g w1.heap.size t2 O #[.int .i64 k, .int .i64 t, .slice none 0 0, .int .i64 0, .int .i64 0, .int .i64 0, .int .i64 0, .slice none 0 0] := HG.out.set 1 (.int .i64 t)
  clear HG hg hq
  have HG := Lib.hid hn
  clear hn
  go_wp2_with fail
  clear q1 z1
  refine (HG.out.int 0 8).mono ?_
  rintro e x2 ⟨rfl, hg, hq⟩
  rw [HN.out] at hg ⊢
  simp only at hg ⊢
  clear HG hq
  have HG := Lib.hid hg
  clear hg
  go_wp2_with fail
  go_loopw [5] (fun i wx => ∃ (kk : Nat) (vb : Value), kk ≤ nn ∧ i = .int .i64 (kk : Int) ∧ GP #[.int .i64 0, .int .i64 0, .slice none 0 0, .int .i64 0, .int .i64 0, .int .i64 0, .int .i64 0, .slice none 0 0] 25 w (wx) g w1.heap.size (rowsR kk t3).2 O #[.int .i64 k, .int .i64 t, vb, .int .i64 0, .int .i64 0, .int .i64 0, .int .i64 0, .slice none 0 0] ∧ OwnP wx (w1.heap.size + 1) 44 vb (rowsR kk t3).1) (fun i _ => nn - (intOf i).toNat)
  case atStart => exact ⟨0, .slice none 0 0, Nat.zero_le _, rfl, HG.out, OwnP.nil_ _ _ _⟩
  case round =>
    obtain ⟨kk, vb, hk, rfl, hg, hown⟩ := hrel
    have HL := Lib.hid hk
    clear HG
    by_cases hlt : kk < nn
    · have hlt' : (kk : Int) < (nn : Int) := by omega
      have HLT := Lib.hid hlt
      have HZ := Lib.hid (rowsR_snoc kk t3)
      have HLn := Lib.hid (rowsR_len kk t3)
      obtain ⟨l0, s0, he⟩ : ∃ l0 s0, rowsR kk t3 = (l0, s0) := ⟨_, _, rfl⟩
      rw [he] at hg hown HZ HLn
      simp only at hg hown HZ HLn
      obtain ⟨xx, s1, hx⟩ : ∃ xx s1, s0.num = (xx, s1) := ⟨_, _, rfl⟩
      obtain ⟨yy, s2, hy⟩ : ∃ yy s2, s1.num = (yy, s2) := ⟨_, _, rfl⟩
      rw [hx] at HZ
      simp only at HZ
      rw [hy] at HZ
      simp only at HZ
      have HX := Lib.hid hx
      have HY := Lib.hid hy
      have HG := Lib.hid hg
      have HO := Lib.hid hown
      clear he hx hy hg hown hk hlt
      go_wp2_with fail
      refine (HG.out.num).mono ?_
      rintro e y1 ⟨rfl, hg, hq⟩
      rw [HX.out] at hg ⊢
      simp only at hg ⊢
      have ho2 := HO.out.same (fun k hk => hq.block k (HO.out.at_base hk).2 (fun ho => by have h1 := (HO.out.at_base hk).1; have h2 := HG.out.hb; have h3 := HG.out.lt _ ho; omega))
      clear HG HO
      have HG := Lib.hid hg
      have HO := Lib.hid ho2
      clear hg hq ho2
      go_wp2_with fail
      refine (HG.out.num).mono ?_
      rintro e y2 ⟨rfl, hg, hq⟩
      rw [HY.out] at hg ⊢
      simp only at hg ⊢
      have ho2 := HO.out.same (fun k hk => hq.block k (HO.out.at_base hk).2 (fun ho => by have h1 := (HO.out.at_base hk).1; have h2 := HG.out.hb; have h3 := HG.out.lt _ ho; omega))
      clear HG HO
      have HG := Lib.hid hg
      have HO := Lib.hid ho2
      clear hg hq ho2
      obtain ⟨k2, z2⟩ := HG.out.cell (j := 2) (v := vb) rfl
      have hA := bel1 (Below.refl y2.heap.size y2) (.cells #[.int .i64 xx, .int .i64 yy] 44)
      have HGA := Lib.hid (HG.out.below hA)
      have HOA := Lib.hid (HO.out.below hA)
      have HP1 := Lib.hid (prow_one y2 xx yy 44)
      have HSZ : Hid (w1.heap.size + 1 ≤ (y2.alloc (.cells #[.int .i64 xx, .int .i64 yy] 44)).heap.size) := by show _ ≤ _; have h1 := lt_of_heap HG.out.blk; have h2 := hA.size; omega
      clear hA HG HO
      go_wp2_with (at_builtin; refine wpList_append_pairs rfl (.tmp 30) (.tmp 34) 22 rfl (w1.heap.size + 1) 44 Try.underlying22 info_band vb l0 (by rfl) HOA.out (some ⟨y2.heap.size, 0, none⟩) 1 1 [(xx, yy)] (by rfl) HP1.out (by have := HLn.out; have := HLT.out; omega) HSZ.out ?_; intro v1 w3 hown1 hg1 hat1; have hG3 := HGA.out.grown hg1 (fun k hk => by have := (HOA.out.at_base hk).1; omega); obtain ⟨k9, z9⟩ := hG3.cell (j := 2) (v := vb) rfl; have hG4 : GP #[.int .i64 0, .int .i64 0, .slice none 0 0, .int .i64 0, .int .i64 0, .int .i64 0, .int .i64 0, .slice none 0 0] 25 w (w3.setCell ⟨w1.heap.size, 2, none⟩ v1) g w1.heap.size s2 O #[.int .i64 k, .int .i64 t, v1, .int .i64 0, .int .i64 0, .int .i64 0, .int .i64 0, .slice none 0 0] := hG3.set 2 v1; have ho4 : OwnP (w3.setCell ⟨w1.heap.size, 2, none⟩ v1) (w1.heap.size + 1) 44 v1 (l0 ++ [(xx, yy)]) := hown1.same (fun k hk => Below.heap_setCell w3 ⟨w1.heap.size, 2, none⟩ v1 k (fun e => by have h1 := (hown1.at_base hk).1; have h2 : k = w1.heap.size := e; omega)); have HG4 := Lib.hid (And.intro hG4 ho4); obtain ⟨a1, n1, y1, rfl⟩ := hown1.form; clear hown1 hg1 hat1 hG3 hG4 ho4 k2 z2 HGA HOA)
      go_roundw
      case rel => exact ⟨kk + 1, _, by have := HLT.out; omega, by go_num, by rw [HZ.out]; exact HG4.out.1, by rw [HZ.out]; exact HG4.out.2⟩
      case measure => have := HLT.out; simp [intOf]; omega
    · have hlt' : ¬ (kk : Int) < (nn : Int) := by omega
      have ek : kk = nn := by omega
      subst ek
      rw [HBd.out] at hg hown
      simp only at hg hown
      obtain ⟨a1, c1, rfl, hpr⟩ := hown.prow
      clear hpr hk hlt
      have HG := Lib.hid hg
      have HE := Lib.hid hown
      clear hg hown
      go_wp2_with fail
      refine (HG.out.num).mono ?_
      rintro e x3 ⟨rfl, hg, hq⟩
      rw [HKP.out] at hg ⊢
      simp only at hg ⊢
      have he2 := HE.out.same (fun k hk => hq.block k (HE.out.at_base hk).2 (fun ho => by have h1 := (HE.out.at_base hk).1; have h2 := HG.out.hb; have h3 := HG.out.lt _ ho; omega))
      clear HG HE
      have HG := Lib.hid hg
      have HE := Lib.hid he2
      clear hg hq he2
      obtain ⟨q3, z3⟩ := HG.out.cell (j := 3) (v := .int .i64 0) rfl
      have hn : GP #[.int .i64 0, .int .i64 0, .slice none 0 0, .int .i64 0, .int .i64 0, .int .i64 0, .int .i64 0, .slice none 0 0] 25 w (x3.setCell ⟨w1.heap.size, 3, none⟩ (.int .i64 kp)) g w1.heap.size t5 O #[.int .i64 k, .int .i64 t, .slice a1 lb.length c1, .int .i64 kp, .int .i64 0, .int .i64 0, .int .i64 0, .slice none 0 0] := HG.out.set 3 (.int .i64 kp)
      have he2 : OwnP (x3.setCell ⟨w1.heap.size, 3, none⟩ (.int .i64 kp)) (w1.heap.size + 1) 44 (.slice a1 lb.length c1) lb := HE.out.same (fun k hk => Below.heap_setCell x3 ⟨w1.heap.size, 3, none⟩ (.int .i64 kp) k (fun e => by have h1 := (HE.out.at_base hk).1; have h2 : k = w1.heap.size := e; omega))
      clear HG HE
      have HG := Lib.hid hn
      have HE := Lib.hid he2
      clear hn he2
      go_wp2_with fail
      clear q3 z3
      refine (HG.out.num).mono ?_
      rintro e x4 ⟨rfl, hg, hq⟩
      rw [HKI.out] at hg ⊢
      simp only at hg ⊢
      have he2 := HE.out.same (fun k hk => hq.block k (HE.out.at_base hk).2 (fun ho => by have h1 := (HE.out.at_base hk).1; have h2 := HG.out.hb; have h3 := HG.out.lt _ ho; omega))
      clear HG HE
      have HG := Lib.hid hg
      have HE := Lib.hid he2
      clear hg hq he2
      obtain ⟨q4, z4⟩ := HG.out.cell (j := 4) (v := .int .i64 0) rfl
      have hn : GP #[.int .i64 0, .int .i64 0, .slice none 0 0, .int .i64 0, .int .i64 0, .int .i64 0, .int .i64 0, .slice none 0 0] 25 w (x4.setCell ⟨w1.heap.size, 4, none⟩ (.int .i64 ki)) g w1.heap.size t6 O #[.int .i64 k, .int .i64 t, .slice a1 lb.length c1, .int .i64 kp, .int .i64 ki, .int .i64 0, .int .i64 0, .slice none 0 0] := HG.out.set 4 (.int .i64 ki)
      have he2 : OwnP (x4.setCell ⟨w1.heap.size, 4, none⟩ (.int .i64 ki)) (w1.heap.size + 1) 44 (.slice a1 lb.length c1) lb := HE.out.same (fun k hk => Below.heap_setCell x4 ⟨w1.heap.size, 4, none⟩ (.int .i64 ki) k (fun e => by have h1 := (HE.out.at_base hk).1; have h2 : k = w1.heap.size := e; omega))
      clear HG HE
      have HG := Lib.hid hn
      have HE := Lib.hid he2
      clear hn he2
      go_wp2_with fail
      clear q4 z4
      refine (HG.out.num).mono ?_
      rintro e x5 ⟨rfl, hg, hq⟩
      rw [HKD.out] at hg ⊢
      simp only at hg ⊢
      have he2 := HE.out.same (fun k hk => hq.block k (HE.out.at_base hk).2 (fun ho => by have h1 := (HE.out.at_base hk).1; have h2 := HG.out.hb; have h3 := HG.out.lt _ ho; omega))
      clear HG HE
      have HG := Lib.hid hg
      have HE := Lib.hid he2
      clear hg hq he2
      obtain ⟨q5, z5⟩ := HG.out.cell (j := 5) (v := .int .i64 0) rfl
      have hn : GP #[.int .i64 0, .int .i64 0, .slice none 0 0, .int .i64 0, .int .i64 0, .int .i64 0, .int .i64 0, .slice none 0 0] 25 w (x5.setCell ⟨w1.heap.size, 5, none⟩ (.int .i64 kd)) g w1.heap.size t7 O #[.int .i64 k, .int .i64 t, .slice a1 lb.length c1, .int .i64 kp, .int .i64 ki, .int .i64 kd, .int .i64 0, .slice none 0 0] := HG.out.set 5 (.int .i64 kd)
      have he2 : OwnP (x5.setCell ⟨w1.heap.size, 5, none⟩ (.int .i64 kd)) (w1.heap.size + 1) 44 (.slice a1 lb.length c1) lb := HE.out.same (fun k hk => Below.heap_setCell x5 ⟨w1.heap.size, 5, none⟩ (.int .i64 kd) k (fun e => by have h1 := (HE.out.at_base hk).1; have h2 : k = w1.heap.size := e; omega))
      clear HG HE
      have HG := Lib.hid hn
      have HE := Lib.hid he2
      clear hn he2
      go_wp2_with fail
      clear q5 z5
      refine (HG.out.num).mono ?_
      rintro e x6 ⟨rfl, hg, hq⟩
      rw [HPP.out] at hg ⊢
      simp only at hg ⊢
      have he2 := HE.out.same (fun k hk => hq.block k (HE.out.at_base hk).2 (fun ho => by have h1 := (HE.out.at_base hk).1; have h2 := HG.out.hb; have h3 := HG.out.lt _ ho; omega))
      clear HG HE
      have HG := Lib.hid hg
      have HE := Lib.hid he2
      clear hg hq he2
      obtain ⟨q6, z6⟩ := HG.out.cell (j := 6) (v := .int .i64 0) rfl
      have hn : GP #[.int .i64 0, .int .i64 0, .slice none 0 0, .int .i64 0, .int .i64 0, .int .i64 0, .int .i64 0, .slice none 0 0] 25 w (x6.setCell ⟨w1.heap.size, 6, none⟩ (.int .i64 pp)) g w1.heap.size t8 O #[.int .i64 k, .int .i64 t, .slice a1 lb.length c1, .int .i64 kp, .int .i64 ki, .int .i64 kd, .int .i64 pp, .slice none 0 0] := HG.out.set 6 (.int .i64 pp)
      have he2 : OwnP (x6.setCell ⟨w1.heap.size, 6, none⟩ (.int .i64 pp)) (w1.heap.size + 1) 44 (.slice a1 lb.length c1) lb := HE.out.same (fun k hk => Below.heap_setCell x6 ⟨w1.heap.size, 6, none⟩ (.int .i64 pp) k (fun e => by have h1 := (HE.out.at_base hk).1; have h2 : k = w1.heap.size := e; omega))
      clear HG HE
      have HG := Lib.hid hn
      have HE := Lib.hid he2
      clear hn he2
      go_wp2_with fail
      clear q6 z6
      refine (HG.out.int 0 8).mono ?_
      rintro e x7 ⟨rfl, hg, hq⟩
      rw [HM.out] at hg ⊢
      simp only at hg ⊢
      have he2 := HE.out.same (fun k hk => hq.block k (HE.out.at_base hk).2 (fun ho => by have h1 := (HE.out.at_base hk).1; have h2 := HG.out.hb; have h3 := HG.out.lt _ ho; omega))
      clear HG HE
      have HG := Lib.hid hg
      have HE := Lib.hid he2
      clear hg hq he2
      go_wp2_with fail
      go_loopw [9] (fun i wx => ∃ (kk : Nat) (vb : Value), kk ≤ mm ∧ i = .int .i64 (kk : Int) ∧ GP #[.int .i64 0, .int .i64 0, .slice none 0 0, .int .i64 0, .int .i64 0, .int .i64 0, .int .i64 0, .slice none 0 0] 25 w (wx) g w1.heap.size (rowsR kk t9).2 O #[.int .i64 k, .int .i64 t, .slice a1 lb.length c1, .int .i64 kp, .int .i64 ki, .int .i64 kd, .int .i64 pp, vb] ∧ OwnP wx (w1.heap.size + 1) 83 vb (rowsR kk t9).1 ∧ OwnP wx (w1.heap.size + 1) 44 (.slice a1 lb.length c1) lb) (fun i _ => mm - (intOf i).toNat)
      case atStart => exact ⟨0, .slice none 0 0, Nat.zero_le _, rfl, HG.out, OwnP.nil_ _ _ _, HE.out⟩
      case round =>
        obtain ⟨kk, vb, hk, rfl, hg, hown, hex⟩ := hrel
        have HL := Lib.hid hk
        clear HG
        by_cases hlt : kk < mm
        · have hlt' : (kk : Int) < (mm : Int) := by omega
          have HLT := Lib.hid hlt
          have HZ := Lib.hid (rowsR_snoc kk t9)
          have HLn := Lib.hid (rowsR_len kk t9)
          obtain ⟨l0, s0, he⟩ : ∃ l0 s0, rowsR kk t9 = (l0, s0) := ⟨_, _, rfl⟩
          rw [he] at hg hown HZ HLn
          simp only at hg hown HZ HLn
          obtain ⟨xx, s1, hx⟩ : ∃ xx s1, s0.num = (xx, s1) := ⟨_, _, rfl⟩
          obtain ⟨yy, s2, hy⟩ : ∃ yy s2, s1.num = (yy, s2) := ⟨_, _, rfl⟩
          rw [hx] at HZ
          simp only at HZ
          rw [hy] at HZ
          simp only at HZ
          have HX := Lib.hid hx
          have HY := Lib.hid hy
          have HG := Lib.hid hg
          have HO := Lib.hid hown
          have HE := Lib.hid hex
          clear he hx hy hg hown hk hlt hex
          go_wp2_with fail
          refine (HG.out.num).mono ?_
          rintro e y1 ⟨rfl, hg, hq⟩
          rw [HX.out] at hg ⊢
          simp only at hg ⊢
          have ho2 := HO.out.same (fun k hk => hq.block k (HO.out.at_base hk).2 (fun ho => by have h1 := (HO.out.at_base hk).1; have h2 := HG.out.hb; have h3 := HG.out.lt _ ho; omega))
          have hx2 := HE.out.same (fun k hk => hq.block k (HE.out.at_base hk).2 (fun ho => by have h1 := (HE.out.at_base hk).1; have h2 := HG.out.hb; have h3 := HG.out.lt _ ho; omega))
          clear HG HO HE
          have HG := Lib.hid hg
          have HO := Lib.hid ho2
          have HE := Lib.hid hx2
          clear hg hq ho2 hx2
          go_wp2_with fail
          refine (HG.out.num).mono ?_
          rintro e y2 ⟨rfl, hg, hq⟩
          rw [HY.out] at hg ⊢
          simp only at hg ⊢
          have ho2 := HO.out.same (fun k hk => hq.block k (HO.out.at_base hk).2 (fun ho => by have h1 := (HO.out.at_base hk).1; have h2 := HG.out.hb; have h3 := HG.out.lt _ ho; omega))
          have hx2 := HE.out.same (fun k hk => hq.block k (HE.out.at_base hk).2 (fun ho => by have h1 := (HE.out.at_base hk).1; have h2 := HG.out.hb; have h3 := HG.out.lt _ ho; omega))
          clear HG HO HE
          have HG := Lib.hid hg
          have HO := Lib.hid ho2
          have HE := Lib.hid hx2
          clear hg hq ho2 hx2
          obtain ⟨k7, z7⟩ := HG.out.cell (j := 7) (v := vb) rfl
          have hA := bel1 (Below.refl y2.heap.size y2) (.cells #[.int .i64 xx, .int .i64 yy] 83)
          have HGA := Lib.hid (HG.out.below hA)
          have HOA := Lib.hid (HO.out.below hA)
          have HEA := Lib.hid (HE.out.below hA)
          have HP1 := Lib.hid (prow_one y2 xx yy 83)
          have HSZ : Hid (w1.heap.size + 1 ≤ (y2.alloc (.cells #[.int .i64 xx, .int .i64 yy] 83)).heap.size) := by show _ ≤ _; have h1 := lt_of_heap HG.out.blk; have h2 := hA.size; omega
          clear hA HG HO HE
          go_wp2_with (at_builtin; refine wpList_append_pairs rfl (.tmp 61) (.tmp 65) 23 rfl (w1.heap.size + 1) 83 Try.underlying23 info_slot vb l0 (by rfl) HOA.out (some ⟨y2.heap.size, 0, none⟩) 1 1 [(xx, yy)] (by rfl) HP1.out (by have := HLn.out; have := HLT.out; omega) HSZ.out ?_; intro v1 w3 hown1 hg1 hat1; have hG3 := HGA.out.grown hg1 (fun k hk => by have := (HOA.out.at_base hk).1; omega); obtain ⟨k9, z9⟩ := hG3.cell (j := 7) (v := vb) rfl; have hG4 : GP #[.int .i64 0, .int .i64 0, .slice none 0 0, .int .i64 0, .int .i64 0, .int .i64 0, .int .i64 0, .slice none 0 0] 25 w (w3.setCell ⟨w1.heap.size, 7, none⟩ v1) g w1.heap.size s2 O #[.int .i64 k, .int .i64 t, .slice a1 lb.length c1, .int .i64 kp, .int .i64 ki, .int .i64 kd, .int .i64 pp, v1] := hG3.set 7 v1; have ho4 : OwnP (w3.setCell ⟨w1.heap.size, 7, none⟩ v1) (w1.heap.size + 1) 83 v1 (l0 ++ [(xx, yy)]) := hown1.same (fun k hk => Below.heap_setCell w3 ⟨w1.heap.size, 7, none⟩ v1 k (fun e => by have h1 := (hown1.at_base hk).1; have h2 : k = w1.heap.size := e; omega)); have hx4 := (HEA.out.same (fun k hk => (Below.heap_setCell w3 ⟨w1.heap.size, 7, none⟩ v1 k (fun e => by have h1 := (HEA.out.at_base hk).1; have h2 : k = w1.heap.size := e; omega)).trans (hg1.block k (HEA.out.at_base hk).2 (fun e => own_two HEA.out HOA.out (by decide) hk e.symm))) : OwnP (w3.setCell ⟨w1.heap.size, 7, none⟩ v1) (w1.heap.size + 1) 44 (.slice a1 lb.length c1) lb); have HG4 := Lib.hid (And.intro hG4 (And.intro ho4 hx4)); obtain ⟨a1, n1, y1, rfl⟩ := hown1.form; clear hown1 hg1 hat1 hG3 hG4 ho4 k7 z7 HGA HOA HEA hx4)
          go_roundw
          case rel => exact ⟨kk + 1, _, by have := HLT.out; omega, by go_num, by rw [HZ.out]; exact HG4.out.1, by rw [HZ.out]; exact HG4.out.2.1, HG4.out.2.2⟩
          case measure => have := HLT.out; simp [intOf]; omega
        · have hlt' : ¬ (kk : Int) < (mm : Int) := by omega
          have ek : kk = mm := by omega
          subst ek
          rw [HSl.out] at hg hown
          simp only at hg hown
          obtain ⟨a2, c2, rfl, hpr⟩ := hown.prow
          obtain ⟨a1_, c1_, hf_, hpb⟩ := hex.prow
          injection hf_ with f1 f2 f3
          subst f1
          subst f3
          have HF := Lib.hid (And.intro hg (And.intro hpr (And.intro hpb (And.intro (fun k o (e : a1 = some ⟨k, o, none⟩) => (hex.at_base (b := k) (by rw [e]; rfl)).1) (fun k o (e : a2 = some ⟨k, o, none⟩) => (hown.at_base (b := k) (by rw [e]; rfl)).1)))))
          clear hg hown hex hpr hpb hk hlt
          go_wp2_with (first
            | (refine wpList_load_row (by rfl) 25 (.tmp 3) (by rfl) w1.heap.size (by rfl) 25 (#[.int .i64 k, .int .i64 t, .slice a1 lb.length c1, .int .i64 kp, .int .i64 ki, .int .i64 kd, .int .i64 pp, .slice a2 ls.length c2]) (0, 0) _ HF.out.1.blk Try.underlying25 (by rfl) (by kernel_rfl) ?_)
            | (refine wpList_store_mid (by rfl) 25 (.tmp 2) (.tmp 68) (by rfl) w.heap.size 0 (#[.int .i64 k, .int .i64 t, .slice a1 lb.length c1, .int .i64 kp, .int .i64 ki, .int .i64 kd, .int .i64 pp, .slice a2 ls.length c2]) (by rfl) (by rfl) (there_of_block HF.out.1.res (Nat.le_refl 8)) (by kernel_rfl) (by kernel_rfl) ?_))
          refine bodyPost_ret (results_cell_row rfl _ _ w.heap.size _ _ _ _ rfl (store27 HF.out.1.res rfl) Try.underlying25 (by rfl) (by kernel_rfl)) (by rfl) ?_
          have hgp := HF.out.1
          have hbs := but_setCells w.heap.size (#[.int .i64 k, .int .i64 t, .slice a1 lb.length c1, .int .i64 kp, .int .i64 ki, .int .i64 kd, .int .i64 pp, .slice a2 ls.length c2]).toList 0 wr
          have hw := hgp.hb
          refine ⟨a1, a2, c1, c2, rfl, hgp.rdr.but hbs (fun k hk e => by have := hgp.lt k hk; omega), hgp.but.trans hbs (fun i hi => .inr (by omega)), HF.out.2.2.1.keep hbs (fun _ k o e h => by have := HF.out.2.2.2.1 k o e; omega), HF.out.2.1.keep hbs (fun _ k o e h => by have := HF.out.2.2.2.2 k o e; omega), fun k o e => by rcases e with e | e; (have := HF.out.2.2.2.1 k o e; omega); (have := HF.out.2.2.2.2 k o e; omega)⟩
end
section
open Go.RowKit
open Wir Evn
attribute [local go_sem] Oper.semAt_some
set_option linter.unusedVariables false
set_option linter.unusedSimpArgs false

set_option maxRecDepth 100000 in
set_option maxHeartbeats 6400000 in
theorem dgetConf_any {w : World} {g : Nat} {s : RS} {O : Nat → Prop} (h : Rdr 100 w g s O) :
    Calls Try.prog 26 #[.pointer (some ⟨g, 0, none⟩)] w fun e w' => e = .returned (cfV (getCf s).1) ∧ Rdr 100 w' g (getCf s).2 O ∧ But O w w' := by
  have hlt := h.lt
  have hZ : (w.alloc (.cells #[.int .i64 0, .int .i64 0, .int .i64 0, .int .i64 0, .int .i64 0, .int .i64 0, .int .i64 0, .int .i64 0, .int .i64 0, .int .i64 0, .int .i64 0, .int .i64 0] 27)).heap[w.heap.size]? = some (.cells #[.int .i64 0, .int .i64 0, .int .i64 0, .int .i64 0, .int .i64 0, .int .i64 0, .int .i64 0, .int .i64 0, .int .i64 0, .int .i64 0, .int .i64 0, .int .i64 0] 27 (0, 0)) := heap_alloc_new _ _
  have hA := bel1 (Below.refl w.heap.size w) (.cells #[.int .i64 0, .int .i64 0, .int .i64 0, .int .i64 0, .int .i64 0, .int .i64 0, .int .i64 0, .int .i64 0, .int .i64 0, .int .i64 0, .int .i64 0, .int .i64 0] 27)
  have R0 := Lib.hid (h.below hA)
  have HA := Lib.hid (And.intro hA (And.intro hZ hlt))
  obtain ⟨v0, s0, h0⟩ : ∃ v0 s0, s.num = (v0, s0) := ⟨_, _, rfl⟩
  obtain ⟨v1, s1, h1⟩ : ∃ v1 s1, s0.num = (v1, s1) := ⟨_, _, rfl⟩
  obtain ⟨v2, s2, h2⟩ : ∃ v2 s2, s1.num = (v2, s2) := ⟨_, _, rfl⟩
  obtain ⟨v3, s3, h3⟩ : ∃ v3 s3, s2.num = (v3, s3) := ⟨_, _, rfl⟩
  obtain ⟨v4, s4, h4⟩ : ∃ v4 s4, s3.num = (v4, s4) := ⟨_, _, rfl⟩
  obtain ⟨v5, s5, h5⟩ : ∃ v5 s5, s4.num = (v5, s5) := ⟨_, _, rfl⟩
  obtain ⟨v6, s6, h6⟩ : ∃ v6 s6, s5.num = (v6, s6) := ⟨_, _, rfl⟩
  obtain ⟨v7, s7, h7⟩ : ∃ v7 s7, s6.num = (v7, s7) := ⟨_, _, rfl⟩
  obtain ⟨v8, s8, h8⟩ : ∃ v8 s8, s7.num = (v8, s8) := ⟨_, _, rfl⟩
  obtain ⟨v9, s9, h9⟩ : ∃ v9 s9, s8.num = (v9, s9) := ⟨_, _, rfl⟩
  obtain ⟨v10, s10, h10⟩ : ∃ v10 s10, s9.num = (v10, s10) := ⟨_, _, rfl⟩
  obtain ⟨v11, s11, h11⟩ : ∃ v11 s11, s10.num = (v11, s11) := ⟨_, _, rfl⟩
  have hG : getCf s = (⟨v0, v1, v2, v3, v4, v5, v6, v7, v8, v9, v10, v11⟩, s11) := by
    unfold getCf
    simp only [h0, h1, h2, h3, h4, h5, h6, h7, h8, h9, h10, h11]
  rw [hG]
  simp only
  have K0 := Lib.hid h0
  have K1 := Lib.hid h1
  have K2 := Lib.hid h2
  have K3 := Lib.hid h3
  have K4 := Lib.hid h4
  have K5 := Lib.hid h5
  have K6 := Lib.hid h6
  have K7 := Lib.hid h7
  have K8 := Lib.hid h8
  have K9 := Lib.hid h9
  have K10 := Lib.hid h10
  have K11 := Lib.hid h11
  clear hlt hZ hA h hG h0 h1 h2 h3 h4 h5 h6 h7 h8 h9 h10 h11
  go_enter Try.func26, Try.ntmps26
  go_wp2_with fail
  refine (rnum_any R0.out).mono ?_
  rintro e w1 ⟨rfl, hr, hbt⟩
  rw [K0.out] at hr ⊢
  simp only at hr ⊢
  have hsz := hbt.size
  have hw1 : w.heap.size < w1.heap.size := by have := lt_of_heap HA.out.2.1; omega
  have hGP0 : GP #[.int .i64 0, .int .i64 0, .int .i64 0, .int .i64 0, .int .i64 0, .int .i64 0, .int .i64 0, .int .i64 0, .int .i64 0, .int .i64 0, .int .i64 0, .int .i64 0] 27 w (w1.alloc (.cells #[.int .i64 v0, .int .i64 0, .int .i64 0, .int .i64 0, .int .i64 0, .int .i64 0, .int .i64 0, .int .i64 0, .int .i64 0, .int .i64 0, .int .i64 0, .int .i64 0] 27)) g w1.heap.size s0 O #[.int .i64 v0, .int .i64 0, .int .i64 0, .int .i64 0, .int .i64 0, .int .i64 0, .int .i64 0, .int .i64 0, .int .i64 0, .int .i64 0, .int .i64 0, .int .i64 0] := ⟨hr.below (bel1 (Below.refl _ _) _), heap_alloc_new _ _, (Below.heap_alloc _ _ _ hw1).trans ((hbt.block _ (lt_of_heap HA.out.2.1) (fun ho => by have := HA.out.2.2 _ ho; omega)).trans HA.out.2.1), ((But.of_below (O := O) HA.out.1).trans hbt (fun i hi => .inl hi)).alloc _, hw1, HA.out.2.2⟩
  have HG := Lib.hid hGP0
  clear hr hbt hGP0 hsz
  go_wp2_with fail
  refine (HG.out.num).mono ?_
  rintro e x1 ⟨rfl, hg, hq⟩
  rw [K1.out] at hg ⊢
  simp only at hg ⊢
  clear HG
  have HG := Lib.hid hg
  obtain ⟨q1, z1⟩ := HG.out.cell (j := 1) (v := .int .i64 0) rfl
  have hn : GP #[.int .i64 0, .int .i64 0, .int .i64 0, .int .i64 0, .int .i64 0, .int .i64 0, .int .i64 0, .int .i64 0, .int .i64 0, .int .i64 0, .int .i64 0, .int .i64 0] 27 w (x1.setCell ⟨w1.heap.size, 1, none⟩ (.int .i64 v1)) g w1.heap.size s1 O #[.int .i64 v0, .int .i64 v1, .int .i64 0, .int .i64 0, .int .i64 0, .int .i64 0, .int .i64 0, .int .i64 0, .int .i64 0, .int .i64 0, .int .i64 0, .int .i64 0] := HG.out.set 1 (.int .i64 v1)
  clear HG hg hq
  have HG := Lib.hid hn
  clear hn
  go_wp2_with fail
  clear q1 z1
  refine (HG.out.num).mono ?_
  rintro e x2 ⟨rfl, hg, hq⟩
  rw [K2.out] at hg ⊢
  simp only at hg ⊢
  clear HG
  have HG := Lib.hid hg
  obtain ⟨q2, z2⟩ := HG.out.cell (j := 2) (v := .int .i64 0) rfl
  have hn : GP #[.int .i64 0, .int .i64 0, .int .i64 0, .int .i64 0, .int .i64 0, .int .i64 0, .int .i64 0, .int .i64 0, .int .i64 0, .int .i64 0, .int .i64 0, .int .i64 0] 27 w (x2.setCell ⟨w1.heap.size, 2, none⟩ (.int .i64 v2)) g w1.heap.size s2 O #[.int .i64 v0, .int .i64 v1, .int .i64 v2, .int .i64 0, .int .i64 0, .int .i64 0, .int .i64 0, .int .i64 0, .int .i64 0, .int .i64 0, .int .i64 0, .int .i64 0] := HG.out.set 2 (.int .i64 v2)
  clear HG hg hq
  have HG := Lib.hid hn
  clear hn
  go_wp2_with fail
  clear q2 z2
  refine (HG.out.num).mono ?_
  rintro e x3 ⟨rfl, hg, hq⟩
  rw [K3.out] at hg ⊢
  simp only at hg ⊢
  clear HG
  have HG := Lib.hid hg
  obtain ⟨q3, z3⟩ := HG.out.cell (j := 3) (v := .int .i64 0) rfl
  have hn : GP #[.int .i64 0, .int .i64 0, .int .i64 0, .int .i64 0, .int .i64 0, .int .i64 0, .int .i64 0, .int .i64 0, .int .i64 0, .int .i64 0, .int .i64 0, .int .i64 0] 27 w (x3.setCell ⟨w1.heap.size, 3, none⟩ (.int .i64 v3)) g w1.heap.size s3 O #[.int .i64 v0, .int .i64 v1, .int .i64 v2, .int .i64 v3, .int .i64 0, .int .i64 0, .int .i64 0, .int .i64 0, .int .i64 0, .int .i64 0, .int .i64 0, .int .i64 0] := HG.out.set 3 (.int .i64 v3)
  clear HG hg hq
  have HG := Lib.hid hn
  clear hn
  go_wp2_with fail
  clear q3 z3
  refine (HG.out.num).mono ?_
  rintro e x4 ⟨rfl, hg, hq⟩
  rw [K4.out] at hg ⊢
  simp only at hg ⊢
  clear HG
  have HG := Lib.hid hg
  obtain ⟨q4, z4⟩ := HG.out.cell (j := 4) (v := .int .i64 0) rfl
  have hn : GP #[.int .i64 0, .int .i64 0, .int .i64 0, .int .i64 0, .int .i64 0, .int .i64 0, .int .i64 0, .int .i64 0, .int .i64 0, .int .i64 0, .int .i64 0, .int .i64 0] 27 w (x4.setCell ⟨w1.heap.size, 4, none⟩ (.int .i64 v4)) g w1.heap.size s4 O #[.int .i64 v0, .int .i64 v1, .int .i64 v2, .int .i64 v3, .int .i64 v4, .int .i64 0, .int .i64 0, .int .i64 0, .int .i64 0, .int .i64 0, .int .i64 0, .int .i64 0] := HG.out.set 4 (.int .i64 v4)
  clear HG hg hq
  have HG := Lib.hid hn
  clear hn
  go_wp2_with fail
  clear q4 z4
  refine (HG.out.num).mono ?_
  rintro e x5 ⟨rfl, hg, hq⟩
  rw [K5.out] at hg ⊢
  simp only at hg ⊢
  clear HG
  have HG := Lib.hid hg
  obtain ⟨q5, z5⟩ := HG.out.cell (j := 5) (v := .int .i64 0) rfl
  have hn : GP #[.int .i64 0, .int .i64 0, .int .i64 0, .int .i64 0, .int .i64 0, .int .i64 0, .int .i64 0, .int .i64 0, .int .i64 0, .int .i64 0, .int .i64 0, .int .i64 0] 27 w (x5.setCell ⟨w1.heap.size, 5, none⟩ (.int .i64 v5)) g w1.heap.size s5 O #[.int .i64 v0, .int .i64 v1, .int .i64 v2, .int .i64 v3, .int .i64 v4, .int .i64 v5, .int .i64 0, .int .i64 0, .int .i64 0, .int .i64 0, .int .i64 0, .int .i64 0] := HG.out.set 5 (.int .i64 v5)
  clear HG hg hq
  have HG := Lib.hid hn
  clear hn
  go_wp2_with fail
  clear q5 z5
  refine (HG.out.num).mono ?_
  rintro e x6 ⟨rfl, hg, hq⟩
  rw [K6.out] at hg ⊢
  simp only at hg ⊢
  clear HG
  have HG := Lib.hid hg
  obtain ⟨q6, z6⟩ := HG.out.cell (j := 6) (v := .int .i64 0) rfl
  have hn : GP #[.int .i64 0, .int .i64 0, .int .i64 0, .int .i64 0, .int .i64 0, .int .i64 0, .int .i64 0, .int .i64 0, .int .i64 0, .int .i64 0, .int .i64 0, .int .i64 0] 27 w (x6.setCell ⟨w1.heap.size, 6, none⟩ (.int .i64 v6)) g w1.heap.size s6 O #[.int .i64 v0, .int .i64 v1, .int .i64 v2, .int .i64 v3, .int .i64 v4, .int .i64 v5, .int .i64 v6, .int .i64 0, .int .i64 0, .int .i64 0, .int .i64 0, .int .i64 0] := HG.out.set 6 (.int .i64 v6)
  clear HG hg hq
  have HG := Lib.hid hn
  clear hn
  go_wp2_with fail
  clear q6 z6
  refine (HG.out.num).mono ?_
  rintro e x7 ⟨rfl, hg, hq⟩
  rw [K7.out] at hg ⊢
  simp only at hg ⊢
  clear HG
  have HG := Lib.hid hg
  obtain ⟨q7, z7⟩ := HG.out.cell (j := 7) (v := .int .i64 0) rfl
  have hn : GP #[.int .i64 0, .int .i64 0, .int .i64 0, .int .i64 0, .int .i64 0, .int .i64 0, .int .i64 0, .int .i64 0, .int .i64 0, .int .i64 0, .int .i64 0, .int .i64 0] 27 w (x7.setCell ⟨w1.heap.size, 7, none⟩ (.int .i64 v7)) g w1.heap.size s7 O #[.int .i64 v0, .int .i64 v1, .int .i64 v2, .int .i64 v3, .int .i64 v4, .int .i64 v5, .int .i64 v6, .int .i64 v7, .int .i64 0, .int .i64 0, .int .i64 0, .int .i64 0] := HG.out.set 7 (.int .i64 v7)
  clear HG hg hq
  have HG := Lib.hid hn
  clear hn
  go_wp2_with fail
  clear q7 z7
  refine (HG.out.num).mono ?_
  rintro e x8 ⟨rfl, hg, hq⟩
  rw [K8.out] at hg ⊢
  simp only at hg ⊢
  clear HG
  have HG := Lib.hid hg
  obtain ⟨q8, z8⟩ := HG.out.cell (j := 8) (v := .int .i64 0) rfl
  have hn : GP #[.int .i64 0, .int .i64 0, .int .i64 0, .int .i64 0, .int .i64 0, .int .i64 0, .int .i64 0, .int .i64 0, .int .i64 0, .int .i64 0, .int .i64 0, .int .i64 0] 27 w (x8.setCell ⟨w1.heap.size, 8, none⟩ (.int .i64 v8)) g w1.heap.size s8 O #[.int .i64 v0, .int .i64 v1, .int .i64 v2, .int .i64 v3, .int .i64 v4, .int .i64 v5, .int .i64 v6, .int .i64 v7, .int .i64 v8, .int .i64 0, .int .i64 0, .int .i64 0] := HG.out.set 8 (.int .i64 v8)
  clear HG hg hq
  have HG := Lib.hid hn
  clear hn
  go_wp2_with fail
  clear q8 z8
  refine (HG.out.num).mono ?_
  rintro e x9 ⟨rfl, hg, hq⟩
  rw [K9.out] at hg ⊢
  simp only at hg ⊢
  clear HG
  have HG := Lib.hid hg
  obtain ⟨q9, z9⟩ := HG.out.cell (j := 9) (v := .int .i64 0) rfl
  have hn : GP #[.int .i64 0, .int .i64 0, .int .i64 0, .int .i64 0, .int .i64 0, .int .i64 0, .int .i64 0, .int .i64 0, .int .i64 0, .int .i64 0, .int .i64 0, .int .i64 0] 27 w (x9.setCell ⟨w1.heap.size, 9, none⟩ (.int .i64 v9)) g w1.heap.size s9 O #[.int .i64 v0, .int .i64 v1, .int .i64 v2, .int .i64 v3, .int .i64 v4, .int .i64 v5, .int .i64 v6, .int .i64 v7, .int .i64 v8, .int .i64 v9, .int .i64 0, .int .i64 0] := HG.out.set 9 (.int .i64 v9)
  clear HG hg hq
  have HG := Lib.hid hn
  clear hn
  go_wp2_with fail
  clear q9 z9
  refine (HG.out.num).mono ?_
  rintro e x10 ⟨rfl, hg, hq⟩
  rw [K10.out] at hg ⊢
  simp only at hg ⊢
  clear HG
  have HG := Lib.hid hg
  obtain ⟨q10, z10⟩ := HG.out.cell (j := 10) (v := .int .i64 0) rfl
  have hn : GP #[.int .i64 0, .int .i64 0, .int .i64 0, .int .i64 0, .int .i64 0, .int .i64 0, .int .i64 0, .int .i64 0, .int .i64 0, .int .i64 0, .int .i64 0, .int .i64 0] 27 w (x10.setCell ⟨w1.heap.size, 10, none⟩ (.int .i64 v10)) g w1.heap.size s10 O #[.int .i64 v0, .int .i64 v1, .int .i64 v2, .int .i64 v3, .int .i64 v4, .int .i64 v5, .int .i64 v6, .int .i64 v7, .int .i64 v8, .int .i64 v9, .int .i64 v10, .int .i64 0] := HG.out.set 10 (.int .i64 v10)
  clear HG hg hq
  have HG := Lib.hid hn
  clear hn
  go_wp2_with fail
  clear q10 z10
  refine (HG.out.num).mono ?_
  rintro e x11 ⟨rfl, hg, hq⟩
  rw [K11.out] at hg ⊢
  simp only at hg ⊢
  clear HG
  have HG := Lib.hid hg
  obtain ⟨q11, z11⟩ := HG.out.cell (j := 11) (v := .int .i64 0) rfl
  have hn : GP #[.int .i64 0, .int .i64 0, .int .i64 0, .int .i64 0, .int .i64 0, .int .i64 0, .int .i64 0, .int .i64 0, .int .i64 0, .int .i64 0, .int .i64 0, .int .i64 0] 27 w (x11.setCell ⟨w1.heap.size, 11, none⟩ (.int .i64 v11)) g w1.heap.size s11 O #[.int .i64 v0, .int .i64 v1, .int .i64 v2, .int .i64 v3, .int .i64 v4, .int .i64 v5, .int .i64 v6, .int .i64 v7, .int .i64 v8, .int .i64 v9, .int .i64 v10, .int .i64 v11] := HG.out.set 11 (.int .i64 v11)
  clear HG hg hq
  have HG := Lib.hid hn
  clear hn
  go_wp2_with (first
    | (refine wpList_load_row (by rfl) 27 (.tmp 3) (by rfl) w1.heap.size (by rfl) 27 (#[.int .i64 v0, .int .i64 v1, .int .i64 v2, .int .i64 v3, .int .i64 v4, .int .i64 v5, .int .i64 v6, .int .i64 v7, .int .i64 v8, .int .i64 v9, .int .i64 v10, .int .i64 v11]) (0, 0) _ HG.out.blk Try.underlying27 (by rfl) (by kernel_rfl) ?_)
    | (refine wpList_store_mid (by rfl) 27 (.tmp 2) (.tmp 40) (by rfl) w.heap.size 0 (#[.int .i64 v0, .int .i64 v1, .int .i64 v2, .int .i64 v3, .int .i64 v4, .int .i64 v5, .int .i64 v6, .int .i64 v7, .int .i64 v8, .int .i64 v9, .int .i64 v10, .int .i64 v11]) (by rfl) (by rfl) (there_of_block HG.out.res (Nat.le_refl 12)) (by kernel_rfl) (by kernel_rfl) ?_))
  refine bodyPost_ret (results_cell_row rfl _ _ w.heap.size _ _ _ _ rfl (store27 HG.out.res rfl) Try.underlying27 (by rfl) (by kernel_rfl)) (by rfl) ?_
  have hgp := HG.out
  have hw := hgp.hb
  have hbs := fun (l : List Value) (wz : World) => but_setCells w.heap.size l 0 wz
  exact ⟨rfl, hgp.rdr.but (hbs _ _) (fun k hk e => by have := hgp.lt k hk; omega), hgp.but.trans (hbs _ _) (fun i hi => .inr (by omega))⟩
end
section
open Go.RowKit
open Wir Evn
attribute [local go_sem] Oper.semAt_some
set_option linter.unusedVariables false
set_option linter.unusedSimpArgs false

theorem All64.snoc {l : List Int} {n : Int} (h : All64 l) (hn : I64 n) : All64 (l ++ [n]) := fun x hx => by
  rcases List.mem_append.1 hx with hx | hx
  · exact h x hx
  · simp at hx; subst hx; exact hn
/-- A writer that has written the numbers ks behind bs. -/
structure Wn (w0 : World) (p : Nat) (bs : List Nat) (ks : List Int) (O : Nat → Prop) (w : World) : Prop where
  mv : WMv 77 w0 p (bs ++ nb ks) O w
  all : All64 ks
theorem Wn.start {w : World} {p : Nat} {bs : List Nat} {O : Nat → Prop} (h : Wtr 77 w p bs O) : Wn w p bs [] O w := ⟨by simpa [nb] using WMv.start h, fun _ h => absurd h (by simp)⟩
theorem Wn.num {w0 w : World} {p : Nat} {bs : List Nat} {ks : List Int} {O : Nat → Prop} (h : Wn w0 p bs ks O w) (n : Int) (hn : I64 n) (hl : ks.length ≤ 1000) (hb : bs.length ≤ 100000) :
    Calls Try.prog 43 #[.pointer (some ⟨p, 0, none⟩), .int .i64 n] w fun e w' => e = .returned (.tuple #[]) ∧ Wn w0 p bs (ks ++ [n]) O w' := by
  obtain ⟨O1, h1, h2, h3⟩ := h.mv
  have hnl := nb_len ks h.all
  refine (rwnum_any h1 n hn.1 hn.2 (by rw [List.length_append]; omega)).mono fun e w' hh => ⟨hh.1, ?_, All64.snoc h.all hn⟩
  have := WMv.then_ h2 h3 hh.2
  rw [List.append_assoc] at this
  rw [nb_append]
  simpa [nb] using this
theorem Wn.to {w0 w1 w2 : World} {p : Nat} {bs : List Nat} {ks : List Int} {O : Nat → Prop} (hb : Below w0.heap.size w0 w1) (k : Wn w1 p bs ks O w2) : WMv 77 w0 p (bs ++ nb ks) O w2 := WMv.then_ (But.of_below (O := O) hb) (fun i hi => .inl hi) k.mv
set_option maxRecDepth 100000 in
set_option maxHeartbeats 3200000 in
theorem dputPol_any {w : World} {p : Nat} {bs : List Nat} {O : Nat → Prop} {a1 a2 : Option Addr} {c1 c2 : Nat} (P : Pl) (h : Wtr 77 w p bs O) (h1 : PRow w a1 P.bands.length c1 P.bands) (h2 : PRow w a2 P.slots.length c2 P.slots)
    (f1 : 0 < P.bands.length → ∀ k o, a1 = some ⟨k, o, none⟩ → ¬ O k) (f2 : 0 < P.slots.length → ∀ k o, a2 = some ⟨k, o, none⟩ → ¬ O k) (v : All64 [P.kind, P.target, P.kp, P.ki, P.kd, P.period]) (v1 : All64 (pairs P.bands)) (v2 : All64 (pairs P.slots))
    (hn1 : P.bands.length ≤ 100) (hn2 : P.slots.length ≤ 100) (hlen : bs.length ≤ 1000) :
    Calls Try.prog 44 #[.pointer (some ⟨p, 0, none⟩), plV P a1 a2 c1 c2] w fun e w' => e = .returned (.tuple #[]) ∧ WMv 77 w p (bs ++ nb (polN P)) O w' := by
  obtain ⟨kind, target, bands, kp, ki, kd, period, slots⟩ := P
  unfold plV
  simp only at *
  have hA := bel1 (Below.refl w.heap.size w) (.cells #[.int .i64 kind, .int .i64 target, .slice a1 bands.length c1, .int .i64 kp, .int .i64 ki, .int .i64 kd, .int .i64 period, .slice a2 slots.length c2] 25)
  have hbO : ¬ O w.heap.size := fun ho => absurd (h.lt _ ho) (by omega)
  have hblk : (w.alloc (.cells #[.int .i64 kind, .int .i64 target, .slice a1 bands.length c1, .int .i64 kp, .int .i64 ki, .int .i64 kd, .int .i64 period, .slice a2 slots.length c2] 25)).heap[w.heap.size]? = some (.cells #[.int .i64 kind, .int .i64 target, .slice a1 bands.length c1, .int .i64 kp, .int .i64 ki, .int .i64 kd, .int .i64 period, .slice a2 slots.length c2] 25 (0, 0)) := heap_alloc_new _ _
  have HC0 : Hid (∀ ks x, Wn (w.alloc (.cells #[.int .i64 kind, .int .i64 target, .slice a1 bands.length c1, .int .i64 kp, .int .i64 ki, .int .i64 kd, .int .i64 period, .slice a2 slots.length c2] 25)) p bs ks O x → x.cell? ⟨w.heap.size, 0, none⟩ = some (.int .i64 kind)) := fun ks x hx => hx.mv.cell (by rw [cell_of_row _ _ 0 _ _ _ hblk]; rfl) hbO
  have HC1 : Hid (∀ ks x, Wn (w.alloc (.cells #[.int .i64 kind, .int .i64 target, .slice a1 bands.length c1, .int .i64 kp, .int .i64 ki, .int .i64 kd, .int .i64 period, .slice a2 slots.length c2] 25)) p bs ks O x → x.cell? ⟨w.heap.size, 1, none⟩ = some (.int .i64 target)) := fun ks x hx => hx.mv.cell (by rw [cell_of_row _ _ 1 _ _ _ hblk]; rfl) hbO
  have HC2 : Hid (∀ ks x, Wn (w.alloc (.cells #[.int .i64 kind, .int .i64 target, .slice a1 bands.length c1, .int .i64 kp, .int .i64 ki, .int .i64 kd, .int .i64 period, .slice a2 slots.length c2] 25)) p bs ks O x → x.cell? ⟨w.heap.size, 2, none⟩ = some (.slice a1 bands.length c1)) := fun ks x hx => hx.mv.cell (by rw [cell_of_row _ _ 2 _ _ _ hblk]; rfl) hbO
  have HC3 : Hid (∀ ks x, Wn (w.alloc (.cells #[.int .i64 kind, .int .i64 target, .slice a1 bands.length c1, .int .i64 kp, .int .i64 ki, .int .i64 kd, .int .i64 period, .slice a2 slots.length c2] 25)) p bs ks O x → x.cell? ⟨w.heap.size, 3, none⟩ = some (.int .i64 kp)) := fun ks x hx => hx.mv.cell (by rw [cell_of_row _ _ 3 _ _ _ hblk]; rfl) hbO
  have HC4 : Hid (∀ ks x, Wn (w.alloc (.cells #[.int .i64 kind, .int .i64 target, .slice a1 bands.length c1, .int .i64 kp, .int .i64 ki, .int .i64 kd, .int .i64 period, .slice a2 slots.length c2] 25)) p bs ks O x → x.cell? ⟨w.heap.size, 4, none⟩ = some (.int .i64 ki)) := fun ks x hx => hx.mv.cell (by rw [cell_of_row _ _ 4 _ _ _ hblk]; rfl) hbO
  have HC5 : Hid (∀ ks x, Wn (w.alloc (.cells #[.int .i64 kind, .int .i64 target, .slice a1 bands.length c1, .int .i64 kp, .int .i64 ki, .int .i64 kd, .int .i64 period, .slice a2 slots.length c2] 25)) p bs ks O x → x.cell? ⟨w.heap.size, 5, none⟩ = some (.int .i64 kd)) := fun ks x hx => hx.mv.cell (by rw [cell_of_row _ _ 5 _ _ _ hblk]; rfl) hbO
  have HC6 : Hid (∀ ks x, Wn (w.alloc (.cells #[.int .i64 kind, .int .i64 target, .slice a1 bands.length c1, .int .i64 kp, .int .i64 ki, .int .i64 kd, .int .i64 period, .slice a2 slots.length c2] 25)) p bs ks O x → x.cell? ⟨w.heap.size, 6, none⟩ = some (.int .i64 period)) := fun ks x hx => hx.mv.cell (by rw [cell_of_row _ _ 6 _ _ _ hblk]; rfl) hbO
  have HC7 : Hid (∀ ks x, Wn (w.alloc (.cells #[.int .i64 kind, .int .i64 target, .slice a1 bands.length c1, .int .i64 kp, .int .i64 ki, .int .i64 kd, .int .i64 period, .slice a2 slots.length c2] 25)) p bs ks O x → x.cell? ⟨w.heap.size, 7, none⟩ = some (.slice a2 slots.length c2)) := fun ks x hx => hx.mv.cell (by rw [cell_of_row _ _ 7 _ _ _ hblk]; rfl) hbO
  have H0 := Lib.hid (Wn.start (h.below hA))
  have HP1 := Lib.hid (h1.on hA)
  have HP2 := Lib.hid (h2.on hA)
  have HF := Lib.hid (And.intro f1 f2)
  have HV := Lib.hid (And.intro v (And.intro v1 v2))
  have HN := Lib.hid (And.intro hn1 (And.intro hn2 hlen))
  have hb63 : (bands.length : Int) ≤ 100 := by omega
  have hs63 : (slots.length : Int) ≤ 100 := by omega
  have HA := Lib.hid hA
  clear hA hbO hblk h h1 h2 f1 f2 v v1 v2 hn1 hn2 hlen
  go_enter Try.func44, Try.ntmps44
  go_wp2_with fail
  refine (H0.out.num kind (HV.out.1 _ (by simp)) (by simp) (by have := HN.out.2.2; omega)).mono ?_
  rintro e x1 ⟨rfl, hh⟩
  have H1 := Lib.hid hh
  clear hh H0
  have k1 := HC1.out _ _ H1.out
  go_wp2_with fail
  refine (H1.out.num target (HV.out.1 _ (by simp)) (by simp) (by have := HN.out.2.2; omega)).mono ?_
  rintro e x2 ⟨rfl, hh⟩
  have H2 := Lib.hid hh
  clear hh H1
  clear k1
  have k2 := HC2.out _ _ H2.out
  go_wp2_with fail
  refine (H2.out.num (bands.length : Int) (⟨by omega, by omega⟩) (by simp) (by have := HN.out.2.2; omega)).mono ?_
  rintro e x3 ⟨rfl, hh⟩
  have H3 := Lib.hid hh
  clear hh H2
  clear k2
  have k2 := HC2.out _ _ H3.out
  go_wp2_with fail
  go_loopw [4] (fun i wx => ∃ k : Nat, k ≤ bands.length ∧ i = .int .i64 (k : Int) ∧ Wn (w.alloc (.cells #[.int .i64 kind, .int .i64 target, .slice a1 bands.length c1, .int .i64 kp, .int .i64 ki, .int .i64 kd, .int .i64 period, .slice a2 slots.length c2] 25)) p bs (([] ++ [kind] ++ [target] ++ [(bands.length : Int)]) ++ pairs (bands.take k)) O wx) (fun i _ => bands.length - (intOf i).toNat)
  case atStart => exact ⟨0, Nat.zero_le _, rfl, by simpa [pairs] using H3.out⟩
  case round =>
    obtain ⟨k, hk, rfl, hm⟩ := hrel
    clear k2
    have k2 := HC2.out _ _ hm
    have Hm := Lib.hid hm
    by_cases hlt : k < bands.length
    · have hlt' : (k : Int) < (bands.length : Int) := by omega
      have HLT := Lib.hid (And.intro hk hlt)
      obtain ⟨b2, o2, rfl, hb2, hcell⟩ := HP1.out.cell (by omega)
      have hno := HF.out.1 (by omega) b2 o2 rfl
      have hmem := pairs_mem bands k hlt
      have HX := Lib.hid (HV.out.2.1 _ hmem.1)
      have HY := Lib.hid (HV.out.2.1 _ hmem.2)
      have HZ := Lib.hid (pairs_snoc bands k hlt)
      have HL : Hid ((([] ++ [kind] ++ [target] ++ [(bands.length : Int)]) ++ pairs (bands.take k)).length ≤ 500) := by show _ ≤ _; have htk := List.length_take_le k bands; rw [List.length_append, pairs_len]; simp only [List.length_append, List.length_cons, List.length_nil, pairs_len]; have := HN.out; omega
      have HG0 := Lib.hid (fun ks x (hx : Wn _ p bs ks O x) => hx.mv.cell (hcell k hlt).1 hno)
      have HG1 := Lib.hid (fun ks x (hx : Wn _ p bs ks O x) => hx.mv.cell (hcell k hlt).2 hno)
      have g0 := HG0.out _ _ hm
      generalize bands.getD k (0, 0) = xy at HX HY HZ HG0 HG1 g0
      obtain ⟨xx, yy⟩ := xy
      try simp only at g0
      clear hcell hno hmem hm hk hlt
      go_wp2_with fail
      refine (Hm.out.num xx HX.out (by have := HL.out; omega) (by have := HN.out.2.2; omega)).mono ?_
      rintro e y1 ⟨rfl, hh⟩
      have Hm1 := Lib.hid hh
      clear hh g0 k2
      have k2 := HC2.out _ _ Hm1.out
      have g1 := HG1.out _ _ Hm1.out
      try simp only at g1
      go_wp2_with fail
      refine (Hm1.out.num yy HY.out (by have := HL.out; rw [List.length_append]; simp only [List.length_cons, List.length_nil]; omega) (by have := HN.out.2.2; omega)).mono ?_
      rintro e y2 ⟨rfl, hh⟩
      have Hm2 := Lib.hid hh
      clear hh g1 k2
      go_wp2
      go_roundw
      case rel =>
        refine ⟨k + 1, by have := HLT.out; omega, by go_num, ?_⟩
        have h9 := Hm2.out
        rw [HZ.out, ← List.append_assoc]
        rw [List.append_assoc] at h9
        simpa [List.append_assoc] using h9
      case measure => have := HLT.out; simp [intOf]; omega
    · have hlt' : ¬ (k : Int) < (bands.length : Int) := by omega
      have ek : k = bands.length := by omega
      have HE : Hid (bands.take k = bands) := List.take_of_length_le (by omega)
      clear hk hlt hm
      rw [HE.out] at Hm
      have H100 := Hm
      clear Hm
      have k3 := HC3.out _ _ H100.out
      go_wp2_with fail
      refine (H100.out.num kp (HV.out.1 _ (by simp)) (by simp only [List.length_append, List.length_cons, List.length_nil, pairs_len]; have := HN.out; omega) (by have := HN.out.2.2; omega)).mono ?_
      rintro e x101 ⟨rfl, hh⟩
      have H101 := Lib.hid hh
      clear hh H100
      clear k2 k3
      have k4 := HC4.out _ _ H101.out
      go_wp2_with fail
      refine (H101.out.num ki (HV.out.1 _ (by simp)) (by simp only [List.length_append, List.length_cons, List.length_nil, pairs_len]; have := HN.out; omega) (by have := HN.out.2.2; omega)).mono ?_
      rintro e x102 ⟨rfl, hh⟩
      have H102 := Lib.hid hh
      clear hh H101
      clear k4
      have k5 := HC5.out _ _ H102.out
      go_wp2_with fail
      refine (H102.out.num kd (HV.out.1 _ (by simp)) (by simp only [List.length_append, List.length_cons, List.length_nil, pairs_len]; have := HN.out; omega) (by have := HN.out.2.2; omega)).mono ?_
      rintro e x103 ⟨rfl, hh⟩
      have H103 := Lib.hid hh
      clear hh H102
      clear k5
      have k6 := HC6.out _ _ H103.out
      go_wp2_with fail
      refine (H103.out.num period (HV.out.1 _ (by simp)) (by simp only [List.length_append, List.length_cons, List.length_nil, pairs_len]; have := HN.out; omega) (by have := HN.out.2.2; omega)).mono ?_
      rintro e x104 ⟨rfl, hh⟩
      have H104 := Lib.hid hh
      clear hh H103
      clear k6
      have k7 := HC7.out _ _ H104.out
      go_wp2_with fail
      refine (H104.out.num (slots.length : Int) (⟨by omega, by omega⟩) (by simp only [List.length_append, List.length_cons, List.length_nil, pairs_len]; have := HN.out; omega) (by have := HN.out.2.2; omega)).mono ?_
      rintro e x105 ⟨rfl, hh⟩
      have H105 := Lib.hid hh
      clear hh H104
      clear k7
      have k7 := HC7.out _ _ H105.out
      go_wp2_with fail
      go_loopw [5] (fun i wx => ∃ k : Nat, k ≤ slots.length ∧ i = .int .i64 (k : Int) ∧ Wn (w.alloc (.cells #[.int .i64 kind, .int .i64 target, .slice a1 bands.length c1, .int .i64 kp, .int .i64 ki, .int .i64 kd, .int .i64 period, .slice a2 slots.length c2] 25)) p bs ((([] ++ [kind] ++ [target] ++ [(bands.length : Int)] ++ pairs bands) ++ [kp] ++ [ki] ++ [kd] ++ [period] ++ [(slots.length : Int)]) ++ pairs (slots.take k)) O wx) (fun i _ => slots.length - (intOf i).toNat)
      case atStart => exact ⟨0, Nat.zero_le _, rfl, by simpa [pairs] using H105.out⟩
      case round =>
        obtain ⟨k, hk, rfl, hm⟩ := hrel
        clear k7
        have k7 := HC7.out _ _ hm
        have Hm := Lib.hid hm
        by_cases hlt : k < slots.length
        · have hlt' : (k : Int) < (slots.length : Int) := by omega
          have HLT := Lib.hid (And.intro hk hlt)
          obtain ⟨b2, o2, rfl, hb2, hcell⟩ := HP2.out.cell (by omega)
          have hno := HF.out.2 (by omega) b2 o2 rfl
          have hmem := pairs_mem slots k hlt
          have HX := Lib.hid (HV.out.2.2 _ hmem.1)
          have HY := Lib.hid (HV.out.2.2 _ hmem.2)
          have HZ := Lib.hid (pairs_snoc slots k hlt)
          have HL : Hid (((([] ++ [kind] ++ [target] ++ [(bands.length : Int)] ++ pairs bands) ++ [kp] ++ [ki] ++ [kd] ++ [period] ++ [(slots.length : Int)]) ++ pairs (slots.take k)).length ≤ 500) := by show _ ≤ _; have htk := List.length_take_le k slots; rw [List.length_append, pairs_len]; simp only [List.length_append, List.length_cons, List.length_nil, pairs_len]; have := HN.out; omega
          have HG0 := Lib.hid (fun ks x (hx : Wn _ p bs ks O x) => hx.mv.cell (hcell k hlt).1 hno)
          have HG1 := Lib.hid (fun ks x (hx : Wn _ p bs ks O x) => hx.mv.cell (hcell k hlt).2 hno)
          have g0 := HG0.out _ _ hm
          generalize slots.getD k (0, 0) = xy at HX HY HZ HG0 HG1 g0
          obtain ⟨xx, yy⟩ := xy
          try simp only at g0
          clear hcell hno hmem hm hk hlt
          go_wp2_with fail
          refine (Hm.out.num xx HX.out (by have := HL.out; omega) (by have := HN.out.2.2; omega)).mono ?_
          rintro e y1 ⟨rfl, hh⟩
          have Hm1 := Lib.hid hh
          clear hh g0 k7
          have k7 := HC7.out _ _ Hm1.out
          have g1 := HG1.out _ _ Hm1.out
          try simp only at g1
          go_wp2_with fail
          refine (Hm1.out.num yy HY.out (by have := HL.out; rw [List.length_append]; simp only [List.length_cons, List.length_nil]; omega) (by have := HN.out.2.2; omega)).mono ?_
          rintro e y2 ⟨rfl, hh⟩
          have Hm2 := Lib.hid hh
          clear hh g1 k7
          go_wp2
          go_roundw
          case rel =>
            refine ⟨k + 1, by have := HLT.out; omega, by go_num, ?_⟩
            have h9 := Hm2.out
            rw [HZ.out, ← List.append_assoc]
            rw [List.append_assoc] at h9
            simpa [List.append_assoc] using h9
          case measure => have := HLT.out; simp [intOf]; omega
        · have hlt' : ¬ (k : Int) < (slots.length : Int) := by omega
          have ek : k = slots.length := by omega
          have HE : Hid (slots.take k = slots) := List.take_of_length_le (by omega)
          clear hk hlt hm
          rw [HE.out] at Hm
          go_wp2
          go_end0
          refine ⟨rfl, ?_⟩
          have h9 := Wn.to HA.out Hm.out
          have e9 : nb (polN ⟨kind, target, bands, kp, ki, kd, period, slots⟩) = nb ((([] ++ [kind] ++ [target] ++ [(bands.length : Int)] ++ pairs bands) ++ [kp] ++ [ki] ++ [kd] ++ [period] ++ [(slots.length : Int)]) ++ pairs slots) := by congr 1; simp [polN, List.append_assoc]
          rw [e9]
          exact h9
set_option maxRecDepth 100000 in
set_option maxHeartbeats 3200000 in
theorem dputConf_any {w : World} {p : Nat} {bs : List Nat} {O : Nat → Prop} (c : Cf) (h : Wtr 77 w p bs O) (v : All64 (confN c)) (hlen : bs.length ≤ 1000) :
    Calls Try.prog 45 #[.pointer (some ⟨p, 0, none⟩), cfV c] w fun e w' => e = .returned (.tuple #[]) ∧ WMv 77 w p (bs ++ nb (confN c)) O w' := by
  obtain ⟨min, max, rate, stable, cap, delay, slack, window, margin, ceil, probe, breach⟩ := c
  unfold cfV
  simp only at *
  have hA := bel1 (bel1 (Below.refl w.heap.size w) (.cells #[.int .i64 min, .int .i64 max, .int .i64 rate, .int .i64 stable, .int .i64 cap, .int .i64 delay, .int .i64 slack, .int .i64 window, .int .i64 margin, .int .i64 ceil, .int .i64 probe, .int .i64 breach] 27)) (.cells #[.int .i64 min, .int .i64 max, .int .i64 rate, .int .i64 stable, .int .i64 cap, .int .i64 delay, .int .i64 slack, .int .i64 window, .int .i64 margin, .int .i64 ceil, .int .i64 probe, .int .i64 breach] 2)
  have hg : w.heap.size + 1 = (w.alloc (.cells #[.int .i64 min, .int .i64 max, .int .i64 rate, .int .i64 stable, .int .i64 cap, .int .i64 delay, .int .i64 slack, .int .i64 window, .int .i64 margin, .int .i64 ceil, .int .i64 probe, .int .i64 breach] 27)).heap.size := by simp
  have hbO : ¬ O (w.heap.size + 1) := fun ho => absurd (h.lt _ ho) (by omega)
  have hcell : ∀ k, k < 12 → ((w.alloc (.cells #[.int .i64 min, .int .i64 max, .int .i64 rate, .int .i64 stable, .int .i64 cap, .int .i64 delay, .int .i64 slack, .int .i64 window, .int .i64 margin, .int .i64 ceil, .int .i64 probe, .int .i64 breach] 27)).alloc (.cells #[.int .i64 min, .int .i64 max, .int .i64 rate, .int .i64 stable, .int .i64 cap, .int .i64 delay, .int .i64 slack, .int .i64 window, .int .i64 margin, .int .i64 ceil, .int .i64 probe, .int .i64 breach] 2)).cell? ⟨w.heap.size + 1, k, none⟩ = some (.int .i64 ((confN ⟨min, max, rate, stable, cap, delay, slack, window, margin, ceil, probe, breach⟩).getD k 0)) := by
    intro k hk
    rw [hg, cell_of_row _ _ k _ _ _ (heap_alloc_new _ _)]
    have : k = 0 ∨ k = 1 ∨ k = 2 ∨ k = 3 ∨ k = 4 ∨ k = 5 ∨ k = 6 ∨ k = 7 ∨ k = 8 ∨ k = 9 ∨ k = 10 ∨ k = 11 := by omega
    rcases this with rfl | rfl | rfl | rfl | rfl | rfl | rfl | rfl | rfl | rfl | rfl | rfl <;> rfl
  have H0 := Lib.hid (Wn.start (h.below hA))
  generalize hks : confN ⟨min, max, rate, stable, cap, delay, slack, window, margin, ceil, probe, breach⟩ = ks at *
  have hkl : ks.length = 12 := by rw [← hks]; rfl
  have HKL := Lib.hid hkl
  have HC : Hid (∀ ls x k, Wn ((w.alloc (.cells #[.int .i64 min, .int .i64 max, .int .i64 rate, .int .i64 stable, .int .i64 cap, .int .i64 delay, .int .i64 slack, .int .i64 window, .int .i64 margin, .int .i64 ceil, .int .i64 probe, .int .i64 breach] 27)).alloc (.cells #[.int .i64 min, .int .i64 max, .int .i64 rate, .int .i64 stable, .int .i64 cap, .int .i64 delay, .int .i64 slack, .int .i64 window, .int .i64 margin, .int .i64 ceil, .int .i64 probe, .int .i64 breach] 2)) p bs ls O x → k < 12 → x.cell? ⟨w.heap.size + 1, k, none⟩ = some (.int .i64 (ks.getD k 0))) := fun ls x k hx hk => hx.mv.cell (hcell k hk) hbO
  have HV := Lib.hid v
  have HA := Lib.hid hA
  have HN := Lib.hid hlen
  clear hA hg hbO hcell h v hlen hks hkl
  go_enter Try.func45, Try.ntmps45
  go_wp2_with fail
  go_loopw [5] (fun i wx => ∃ k : Nat, k ≤ 12 ∧ i = .int .i64 (k : Int) ∧ Wn ((w.alloc (.cells #[.int .i64 min, .int .i64 max, .int .i64 rate, .int .i64 stable, .int .i64 cap, .int .i64 delay, .int .i64 slack, .int .i64 window, .int .i64 margin, .int .i64 ceil, .int .i64 probe, .int .i64 breach] 27)).alloc (.cells #[.int .i64 min, .int .i64 max, .int .i64 rate, .int .i64 stable, .int .i64 cap, .int .i64 delay, .int .i64 slack, .int .i64 window, .int .i64 margin, .int .i64 ceil, .int .i64 probe, .int .i64 breach] 2)) p bs (ks.take k) O wx) (fun i _ => 12 - (intOf i).toNat)
  case atStart => exact ⟨0, Nat.zero_le _, rfl, by simpa using H0.out⟩
  case round =>
    obtain ⟨k, hk, rfl, hm⟩ := hrel
    have Hm := Lib.hid hm
    by_cases hlt : k < 12
    · have hlt' : (k : Int) < (12 : Int) := by omega
      have HLT := Lib.hid (And.intro hk hlt)
      have g0 := HC.out _ _ k hm hlt
      have hkk : k < ks.length := by have := HKL.out; omega
      have HX : Hid (I64 (ks.getD k 0)) := HV.out _ (by rw [List.getD_eq_getElem?_getD, List.getElem?_eq_getElem hkk]; exact List.getElem_mem hkk)
      have HZ : Hid (ks.take (k + 1) = ks.take k ++ [ks.getD k 0]) := by
        show _ = _
        rw [List.take_add_one, List.getElem?_eq_getElem hkk, List.getD_eq_getElem?_getD, List.getElem?_eq_getElem hkk]; rfl
      have HL : Hid ((ks.take k).length ≤ 12) := by show _ ≤ _; rw [List.length_take]; omega
      generalize ks.getD k 0 = xx at HX HZ g0
      clear hm hk hlt hkk
      go_wp2_with fail
      refine (Hm.out.num xx HX.out (by have := HL.out; omega) (by have := HN.out; omega)).mono ?_
      rintro e y1 ⟨rfl, hh⟩
      have Hm1 := Lib.hid hh
      clear hh g0
      go_wp2
      go_roundw
      case rel => exact ⟨k + 1, by have := HLT.out; omega, by go_num, by rw [HZ.out]; exact Hm1.out⟩
      case measure => have := HLT.out; simp [intOf]; omega
    · have hlt' : ¬ (k : Int) < (12 : Int) := by omega
      have HE : Hid (ks.take k = ks) := List.take_of_length_le (by have := HKL.out; omega)
      clear hm hk hlt
      rw [HE.out] at Hm
      go_wp2
      go_end0
      exact ⟨rfl, Wn.to HA.out Hm.out⟩
end
section
open Go.ChangeShapes Go.WideShapes Go.RowKit

section
variable {H : Type} {enc : TypeId × Value → H}

set_option maxRecDepth 100000 in
/-- A slice of bytes, cell by cell. -/
theorem open_bytes {W : World} {fuel : Nat} {v : Value} {x : DataW H × List MemPlace} (h : DataW.trod enc Try.prog W 0 (fun _ => true) true fuel 28 [v] = some x) :
    ∃ a cap bs, v = .slice a bs.length cap ∧ Sl W W.heap.size a bs.length cap bs := by
  rcases open_ints Try.underlying28 Try.underlying5 (by kernel_rfl) h with ⟨hcs, _⟩ | ⟨a, l, c, zs, hcs, _, hl, hm, hz, _, hcell, hwz⟩
  · simp at hcs
    subst hcs
    exact ⟨none, 0, [], rfl, Sl.nil_⟩
  · simp at hcs
    subst hcs
    obtain ⟨bs, hs⟩ := Sl.of_row (w := W) (a := some a) (len := l) (cap := c) (zs := zs) (.inr ⟨a, rfl, hl, hm, by simpa using hz, hcell, hwz⟩)
    have := hs.length
    subst this
    exact ⟨some a, c, bs, rfl, hs⟩
set_option maxRecDepth 100000 in
theorem open_bytes1 {W : World} {r : Reach} {b0 : Nat} {v : Value} {d : DataW H} {p : List MemPlace} (hv : Value.okWide Try.prog W r b0 28 v) (h : DataW.Trod enc Try.prog W 0 (fun _ => true) true 28 v d p) :
    ∃ a cap bs, v = .slice a bs.length cap ∧ Sl W W.heap.size a bs.length cap bs := by
  obtain ⟨a, l, c, rfl⟩ := okWide_slice Try.underlying28 hv
  obtain ⟨fuel, hf⟩ := h
  exact open_bytes (by simpa [Value.cells] using hf)
end
end
section
open Go.ChangeShapes Go.WideShapes Go.RowKit
open Wir Evn

section
variable {H : Type} {enc : TypeId × Value → H}
theorem i64_of {n : Int} (h : (Lit.int .i64 n).wf = true) : I64 n := bounds_i64 h
set_option maxRecDepth 100000 in
/-- A slice of pairs, cell by cell. -/
theorem open_bands {W : World} {fuel : Nat} {v : Value} {x : DataW H × List MemPlace} (h : DataW.trod enc Try.prog W 0 (fun _ => true) true fuel 22 [v] = some x) :
    ∃ a cap l, v = .slice a (List.length l) cap ∧ PRow W a (List.length l) cap l ∧ All64 (pairs l) := by
  rcases Deep.open_slice Try.underlying22 h with ⟨hcs, _⟩ | ⟨x, len, cap, m, n, D, Pl, hcs, _, hl, hm, hmm, hx, hV⟩
  · simp at hcs
    subst hcs
    exact ⟨none, 0, [], rfl, PRow.nil_, all64_nil⟩
  · simp at hcs
    subst hcs
    simp at hmm
    have hc2 : Try.prog.cellsOf 44 = 2 := by kernel_rfl
    obtain ⟨F, hF⟩ := Deep.choose_lt (α := Int × Int) (n := len) (p := fun i q => (∀ j, j < 2 → W.cell? ((x.add (i * 2)).add j) = [Value.int .i64 q.1, .int .i64 q.2][j]?) ∧ I64 q.1 ∧ I64 q.2) (fun i hi => by
      obtain ⟨cs', hc, ht⟩ := hV i (by omega)
      rw [hc2] at hc
      obtain ⟨_, _, hat⟩ := World.cells?_some hc
      obtain ⟨xs, n', _, hx', hcl, hxl, hf⟩ := DataW.trod_struct Try.underlying44 ht
      have hcl : cs'.length = 2 := hcl.trans (by kernel_rfl)
      have hxl : xs.length = 2 := hxl
      match cs', hcl, xs, hxl with
      | [c0, c1], _, [y0, y1], _ =>
        have g0 : DataW.trod enc Try.prog W 0 (fun _ => true) true n' 2 [c0] = some y0 := hf 0 _ rfl
        have g1 : DataW.trod enc Try.prog W 0 (fun _ => true) true n' 3 [c1] = some y1 := hf 1 _ rfl
        obtain ⟨e0, q0, _, w0⟩ := DataW.trod_int Try.underlying2 g0
        obtain ⟨e1, q1, _, w1⟩ := DataW.trod_int Try.underlying3 g1
        simp at q0 q1
        subst q0 q1
        exact ⟨(e0, e1), fun j hj => hat j hj, i64_of w0, i64_of w1⟩)
    have hlen : ((List.range len).map F).length = len := by simp
    have hg : ∀ k, k < len → ((List.range len).map F).getD k (0, 0) = F k := fun k hk => by
      rw [List.getD_eq_getElem?_getD, List.getElem?_map, List.getElem?_range hk]; rfl
    refine ⟨some x, cap, (List.range len).map F, by rw [hlen], ⟨⟨by rw [hlen]; exact hl, hm, fun hp => ?_⟩, rfl⟩, fun z hz => ?_⟩
    · rw [hlen] at hp ⊢
      obtain ⟨b, off, spot⟩ := x
      have h0 := (hF 0 hp).1 0 (by decide)
      have hs : spot = none := by simpa [Addr.add] using World.cell?_spot h0
      subst hs
      refine ⟨b, off, rfl, by have := block_lt_of_cell h0; simpa [Addr.add] using this, fun j hj => ?_⟩
      have hk := (hF (j / 2) (by omega)).1 (j % 2) (Nat.mod_lt _ (by decide))
      rw [Addr.add_mid, Addr.add_mid, Nat.add_assoc, show j / 2 * 2 + j % 2 = j from by omega] at hk
      rw [hk]
      have h3 : j % 2 = 0 ∨ j % 2 = 1 := by omega
      have hp := pairs_get ((List.range len).map F) (j / 2)
      rw [hg _ (by omega)] at hp
      simp only [intsC]
      rcases h3 with h | h
      · rw [h]
        have : j = j / 2 * 2 := by omega
        conv => rhs; rw [this]
        rw [hp.1]; rfl
      · rw [h]
        have : j = j / 2 * 2 + 1 := by omega
        conv => rhs; rw [this]
        rw [hp.2]; rfl
    · unfold pairs at hz
      obtain ⟨q, hq, hz⟩ := List.mem_flatMap.1 hz
      obtain ⟨i, hi, rfl⟩ := List.mem_map.1 hq
      have := (hF i (List.mem_range.1 hi)).2
      simp only [List.mem_cons, List.not_mem_nil, or_false] at hz
      rcases hz with rfl | rfl
      · exact this.1
      · exact this.2
set_option maxRecDepth 100000 in
/-- A slice of pairs, cell by cell. -/
theorem open_slots {W : World} {fuel : Nat} {v : Value} {x : DataW H × List MemPlace} (h : DataW.trod enc Try.prog W 0 (fun _ => true) true fuel 23 [v] = some x) :
    ∃ a cap l, v = .slice a (List.length l) cap ∧ PRow W a (List.length l) cap l ∧ All64 (pairs l) := by
  rcases Deep.open_slice Try.underlying23 h with ⟨hcs, _⟩ | ⟨x, len, cap, m, n, D, Pl, hcs, _, hl, hm, hmm, hx, hV⟩
  · simp at hcs
    subst hcs
    exact ⟨none, 0, [], rfl, PRow.nil_, all64_nil⟩
  · simp at hcs
    subst hcs
    simp at hmm
    have hc2 : Try.prog.cellsOf 83 = 2 := by kernel_rfl
    obtain ⟨F, hF⟩ := Deep.choose_lt (α := Int × Int) (n := len) (p := fun i q => (∀ j, j < 2 → W.cell? ((x.add (i * 2)).add j) = [Value.int .i64 q.1, .int .i64 q.2][j]?) ∧ I64 q.1 ∧ I64 q.2) (fun i hi => by
      obtain ⟨cs', hc, ht⟩ := hV i (by omega)
      rw [hc2] at hc
      obtain ⟨_, _, hat⟩ := World.cells?_some hc
      obtain ⟨xs, n', _, hx', hcl, hxl, hf⟩ := DataW.trod_struct Try.underlying83 ht
      have hcl : cs'.length = 2 := hcl.trans (by kernel_rfl)
      have hxl : xs.length = 2 := hxl
      match cs', hcl, xs, hxl with
      | [c0, c1], _, [y0, y1], _ =>
        have g0 : DataW.trod enc Try.prog W 0 (fun _ => true) true n' 2 [c0] = some y0 := hf 0 _ rfl
        have g1 : DataW.trod enc Try.prog W 0 (fun _ => true) true n' 3 [c1] = some y1 := hf 1 _ rfl
        obtain ⟨e0, q0, _, w0⟩ := DataW.trod_int Try.underlying2 g0
        obtain ⟨e1, q1, _, w1⟩ := DataW.trod_int Try.underlying3 g1
        simp at q0 q1
        subst q0 q1
        exact ⟨(e0, e1), fun j hj => hat j hj, i64_of w0, i64_of w1⟩)
    have hlen : ((List.range len).map F).length = len := by simp
    have hg : ∀ k, k < len → ((List.range len).map F).getD k (0, 0) = F k := fun k hk => by
      rw [List.getD_eq_getElem?_getD, List.getElem?_map, List.getElem?_range hk]; rfl
    refine ⟨some x, cap, (List.range len).map F, by rw [hlen], ⟨⟨by rw [hlen]; exact hl, hm, fun hp => ?_⟩, rfl⟩, fun z hz => ?_⟩
    · rw [hlen] at hp ⊢
      obtain ⟨b, off, spot⟩ := x
      have h0 := (hF 0 hp).1 0 (by decide)
      have hs : spot = none := by simpa [Addr.add] using World.cell?_spot h0
      subst hs
      refine ⟨b, off, rfl, by have := block_lt_of_cell h0; simpa [Addr.add] using this, fun j hj => ?_⟩
      have hk := (hF (j / 2) (by omega)).1 (j % 2) (Nat.mod_lt _ (by decide))
      rw [Addr.add_mid, Addr.add_mid, Nat.add_assoc, show j / 2 * 2 + j % 2 = j from by omega] at hk
      rw [hk]
      have h3 : j % 2 = 0 ∨ j % 2 = 1 := by omega
      have hp := pairs_get ((List.range len).map F) (j / 2)
      rw [hg _ (by omega)] at hp
      simp only [intsC]
      rcases h3 with h | h
      · rw [h]
        have : j = j / 2 * 2 := by omega
        conv => rhs; rw [this]
        rw [hp.1]; rfl
      · rw [h]
        have : j = j / 2 * 2 + 1 := by omega
        conv => rhs; rw [this]
        rw [hp.2]; rfl
    · unfold pairs at hz
      obtain ⟨q, hq, hz⟩ := List.mem_flatMap.1 hz
      obtain ⟨i, hi, rfl⟩ := List.mem_map.1 hq
      have := (hF i (List.mem_range.1 hi)).2
      simp only [List.mem_cons, List.not_mem_nil, or_false] at hz
      rcases hz with rfl | rfl
      · exact this.1
      · exact this.2
theorem all64_6 {a b c d e f : Int} (h1 : I64 a) (h2 : I64 b) (h3 : I64 c) (h4 : I64 d) (h5 : I64 e) (h6 : I64 f) : All64 [a, b, c, d, e, f] :=
  all64_cons h1 (all64_cons h2 (all64_cons h3 (all64_cons h4 (all64_cons h5 (all64_cons h6 all64_nil)))))
def plL (p : Pl) (a1 a2 : Option Addr) (c1 c2 : Nat) : List Value := [.int .i64 p.kind, .int .i64 p.target, .slice a1 p.bands.length c1, .int .i64 p.kp, .int .i64 p.ki, .int .i64 p.kd, .int .i64 p.period, .slice a2 p.slots.length c2]
structure PlM (w : World) (a1 a2 : Option Addr) (c1 c2 : Nat) (p : Pl) : Prop where
  bands : PRow w a1 p.bands.length c1 p.bands
  slots : PRow w a2 p.slots.length c2 p.slots
  nums : All64 [p.kind, p.target, p.kp, p.ki, p.kd, p.period]
  b64 : All64 (pairs p.bands)
  s64 : All64 (pairs p.slots)
set_option maxRecDepth 100000 in
set_option maxHeartbeats 1600000 in
theorem open_pol0 {W : World} {n : Nat} {cs : List Value} {x : DataW H × List MemPlace} (h : DataW.trod enc Try.prog W 0 (fun _ => true) true n 25 cs = some x) :
    ∃ (p : Pl) (a1 a2 : Option Addr) (c1 c2 : Nat), cs = plL p a1 a2 c1 c2 ∧ PlM W a1 a2 c1 c2 p := by
  obtain ⟨xs, n', _, hx, hcl, hxl, hf⟩ := DataW.trod_struct Try.underlying25 h
  have hcl : cs.length = 8 := hcl.trans (by kernel_rfl)
  have hxl : xs.length = 8 := hxl
  match cs, hcl, xs, hxl with
  | [c0, c1, c2, c3, c4, c5, c6, c7], _, [y0, y1, y2, y3, y4, y5, y6, y7], _ =>
    have g0 : DataW.trod enc Try.prog W 0 (fun _ => true) true n' 3 [c0] = some y0 := hf 0 _ rfl
    obtain ⟨e0, q0, _, w0⟩ := DataW.trod_int Try.underlying3 g0
    have g1 : DataW.trod enc Try.prog W 0 (fun _ => true) true n' 2 [c1] = some y1 := hf 1 _ rfl
    obtain ⟨e1, q1, _, w1⟩ := DataW.trod_int Try.underlying2 g1
    have g2 : DataW.trod enc Try.prog W 0 (fun _ => true) true n' 22 [c2] = some y2 := hf 2 _ rfl
    obtain ⟨a1, k1, l1, q2, hb1, hw1⟩ := open_bands g2
    have g3 : DataW.trod enc Try.prog W 0 (fun _ => true) true n' 2 [c3] = some y3 := hf 3 _ rfl
    obtain ⟨e3, q3, _, w3⟩ := DataW.trod_int Try.underlying2 g3
    have g4 : DataW.trod enc Try.prog W 0 (fun _ => true) true n' 2 [c4] = some y4 := hf 4 _ rfl
    obtain ⟨e4, q4, _, w4⟩ := DataW.trod_int Try.underlying2 g4
    have g5 : DataW.trod enc Try.prog W 0 (fun _ => true) true n' 2 [c5] = some y5 := hf 5 _ rfl
    obtain ⟨e5, q5, _, w5⟩ := DataW.trod_int Try.underlying2 g5
    have g6 : DataW.trod enc Try.prog W 0 (fun _ => true) true n' 2 [c6] = some y6 := hf 6 _ rfl
    obtain ⟨e6, q6, _, w6⟩ := DataW.trod_int Try.underlying2 g6
    have g7 : DataW.trod enc Try.prog W 0 (fun _ => true) true n' 23 [c7] = some y7 := hf 7 _ rfl
    obtain ⟨a2, k2, l2, q7, hb2, hw2⟩ := open_slots g7
    simp at q0 q1 q3 q4 q5 q6
    subst q0 q1 q3 q4 q5 q6
    subst q2 q7
    exact ⟨⟨e0, e1, l1, e3, e4, e5, e6, l2⟩, a1, a2, k1, k2, rfl, hb1, hb2, all64_6 (i64_of w0) (i64_of w1) (i64_of w3) (i64_of w4) (i64_of w5) (i64_of w6), hw1, hw2⟩
def cfL (c : Cf) : List Value := [.int .i64 c.min, .int .i64 c.max, .int .i64 c.rate, .int .i64 c.stable, .int .i64 c.cap, .int .i64 c.delay, .int .i64 c.slack, .int .i64 c.window, .int .i64 c.margin, .int .i64 c.ceil, .int .i64 c.probe, .int .i64 c.breach]
set_option maxRecDepth 100000 in
set_option maxHeartbeats 1600000 in
theorem open_conf0 {W : World} {n : Nat} {cs : List Value} {x : DataW H × List MemPlace} (h : DataW.trod enc Try.prog W 0 (fun _ => true) true n 27 cs = some x) :
    ∃ c : Cf, cs = cfL c ∧ All64 (confN c) := by
  obtain ⟨xs, n', _, hx, hcl, hxl, hf⟩ := DataW.trod_struct Try.underlying27 h
  have hcl : cs.length = 12 := hcl.trans (by kernel_rfl)
  have hxl : xs.length = 12 := hxl
  match cs, hcl, xs, hxl with
  | [c0, c1, c2, c3, c4, c5, c6, c7, c8, c9, c10, c11], _, [y0, y1, y2, y3, y4, y5, y6, y7, y8, y9, y10, y11], _ =>
    have g0 : DataW.trod enc Try.prog W 0 (fun _ => true) true n' 3 [c0] = some y0 := hf 0 _ rfl
    obtain ⟨e0, q0, _, w0⟩ := DataW.trod_int Try.underlying3 g0
    have g1 : DataW.trod enc Try.prog W 0 (fun _ => true) true n' 3 [c1] = some y1 := hf 1 _ rfl
    obtain ⟨e1, q1, _, w1⟩ := DataW.trod_int Try.underlying3 g1
    have g2 : DataW.trod enc Try.prog W 0 (fun _ => true) true n' 3 [c2] = some y2 := hf 2 _ rfl
    obtain ⟨e2, q2, _, w2⟩ := DataW.trod_int Try.underlying3 g2
    have g3 : DataW.trod enc Try.prog W 0 (fun _ => true) true n' 2 [c3] = some y3 := hf 3 _ rfl
    obtain ⟨e3, q3, _, w3⟩ := DataW.trod_int Try.underlying2 g3
    have g4 : DataW.trod enc Try.prog W 0 (fun _ => true) true n' 2 [c4] = some y4 := hf 4 _ rfl
    obtain ⟨e4, q4, _, w4⟩ := DataW.trod_int Try.underlying2 g4
    have g5 : DataW.trod enc Try.prog W 0 (fun _ => true) true n' 3 [c5] = some y5 := hf 5 _ rfl
    obtain ⟨e5, q5, _, w5⟩ := DataW.trod_int Try.underlying3 g5
    have g6 : DataW.trod enc Try.prog W 0 (fun _ => true) true n' 2 [c6] = some y6 := hf 6 _ rfl
    obtain ⟨e6, q6, _, w6⟩ := DataW.trod_int Try.underlying2 g6
    have g7 : DataW.trod enc Try.prog W 0 (fun _ => true) true n' 3 [c7] = some y7 := hf 7 _ rfl
    obtain ⟨e7, q7, _, w7⟩ := DataW.trod_int Try.underlying3 g7
    have g8 : DataW.trod enc Try.prog W 0 (fun _ => true) true n' 2 [c8] = some y8 := hf 8 _ rfl
    obtain ⟨e8, q8, _, w8⟩ := DataW.trod_int Try.underlying2 g8
    have g9 : DataW.trod enc Try.prog W 0 (fun _ => true) true n' 3 [c9] = some y9 := hf 9 _ rfl
    obtain ⟨e9, q9, _, w9⟩ := DataW.trod_int Try.underlying3 g9
    have g10 : DataW.trod enc Try.prog W 0 (fun _ => true) true n' 3 [c10] = some y10 := hf 10 _ rfl
    obtain ⟨e10, q10, _, w10⟩ := DataW.trod_int Try.underlying3 g10
    have g11 : DataW.trod enc Try.prog W 0 (fun _ => true) true n' 3 [c11] = some y11 := hf 11 _ rfl
    obtain ⟨e11, q11, _, w11⟩ := DataW.trod_int Try.underlying3 g11
    simp at q0 q1 q2 q3 q4 q5 q6 q7 q8 q9 q10 q11
    subst q0 q1 q2 q3 q4 q5 q6 q7 q8 q9 q10 q11
    exact ⟨⟨e0, e1, e2, e3, e4, e5, e6, e7, e8, e9, e10, e11⟩, rfl, all64_cons (i64_of w0) (all64_cons (i64_of w1) (all64_cons (i64_of w2) (all64_cons (i64_of w3) (all64_cons (i64_of w4) (all64_cons (i64_of w5) (all64_cons (i64_of w6) (all64_cons (i64_of w7) (all64_cons (i64_of w8) (all64_cons (i64_of w9) (all64_cons (i64_of w10) (all64_cons (i64_of w11) (all64_nil))))))))))))⟩
set_option maxRecDepth 100000 in
set_option maxHeartbeats 1600000 in
theorem open_event0 {W : World} {n : Nat} {cs : List Value} {x : DataW H × List MemPlace} (h : DataW.trod enc Try.prog W 0 (fun _ => true) true n 30 cs = some x) :
    ∃ (e : Ev) (a1 a2 a3 : Option Addr) (c1 c2 c3 : Nat), cs = (evC e a1 a2 a3 c1 c2 c3).toList ∧ EvM W a1 a2 a3 c1 c2 c3 e := by
  obtain ⟨xs, n', _, hx, hcl, hxl, hf⟩ := DataW.trod_struct Try.underlying30 h
  have hcl : cs.length = 27 := hcl.trans (by kernel_rfl)
  have hxl : xs.length = 9 := hxl
  match cs, hcl, xs, hxl with
  | [c0, c1, c2, c3, c4, c5, c6, c7, c8, c9, c10, c11, c12, c13, c14, c15, c16, c17, c18, c19, c20, c21, c22, c23, c24, c25, c26], _, [y0, y1, y2, y3, y4, y5, y6, y7, y8], _ =>
    have g0 : DataW.trod enc Try.prog W 0 (fun _ => true) true n' 3 [c0] = some y0 := hf 0 _ rfl
    obtain ⟨e0, q0, _, w0⟩ := DataW.trod_int Try.underlying3 g0
    have g1 : DataW.trod enc Try.prog W 0 (fun _ => true) true n' 2 [c1] = some y1 := hf 1 _ rfl
    obtain ⟨e1, q1, _, w1⟩ := DataW.trod_int Try.underlying2 g1
    have g2 : DataW.trod enc Try.prog W 0 (fun _ => true) true n' 2 [c2] = some y2 := hf 2 _ rfl
    obtain ⟨e2, q2, _, w2⟩ := DataW.trod_int Try.underlying2 g2
    have g3 : DataW.trod enc Try.prog W 0 (fun _ => true) true n' 2 [c3] = some y3 := hf 3 _ rfl
    obtain ⟨e3, q3, _, w3⟩ := DataW.trod_int Try.underlying2 g3
    have g4 : DataW.trod enc Try.prog W 0 (fun _ => true) true n' 3 [c4] = some y4 := hf 4 _ rfl
    obtain ⟨e4, q4, _, w4⟩ := DataW.trod_int Try.underlying3 g4
    have g5 : DataW.trod enc Try.prog W 0 (fun _ => true) true n' 3 [c5] = some y5 := hf 5 _ rfl
    obtain ⟨e5, q5, _, w5⟩ := DataW.trod_int Try.underlying3 g5
    have g6 : DataW.trod enc Try.prog W 0 (fun _ => true) true n' 25 [c6, c7, c8, c9, c10, c11, c12, c13] = some y6 := hf 6 _ rfl
    obtain ⟨pp, a1, a2, k1, k2, qp, hp⟩ := open_pol0 g6
    have g7 : DataW.trod enc Try.prog W 0 (fun _ => true) true n' 27 [c14, c15, c16, c17, c18, c19, c20, c21, c22, c23, c24, c25] = some y7 := hf 7 _ rfl
    obtain ⟨cc, qc, hc⟩ := open_conf0 g7
    have g8 : DataW.trod enc Try.prog W 0 (fun _ => true) true n' 28 [c26] = some y8 := hf 8 _ rfl
    obtain ⟨a3, k3, bs, qb, hs⟩ := open_bytes g8
    simp at q0 q1 q2 q3 q4 q5
    subst q0 q1 q2 q3 q4 q5
    subst qb
    unfold plL at qp
    unfold cfL at qc
    simp only [List.cons.injEq, and_true] at qp qc
    obtain ⟨r6, r7, r8, r9, r10, r11, r12, r13⟩ := qp
    obtain ⟨r14, r15, r16, r17, r18, r19, r20, r21, r22, r23, r24, r25⟩ := qc
    subst r6 r7 r8 r9 r10 r11 r12 r13 r14 r15 r16 r17 r18 r19 r20 r21 r22 r23 r24 r25
    exact ⟨⟨e0, e1, e2, e3, e4, e5, pp, cc, bs⟩, a1, a2, a3, k1, k2, k3, rfl, hp.bands, hp.slots, hs, all64_6 (i64_of w0) (i64_of w1) (i64_of w2) (i64_of w3) (i64_of w4) (i64_of w5), hp.nums, hp.b64, hp.s64, hc, hs.byte⟩
set_option maxRecDepth 100000 in
theorem open_event {W : World} {r : Reach} {b0 : Nat} {v : Value} {d : DataW H} {p : List MemPlace} (hv : Value.okWide Try.prog W r b0 30 v) (h : DataW.Trod enc Try.prog W 0 (fun _ => true) true 30 v d p) :
    ∃ (e : Ev) (a1 a2 a3 : Option Addr) (c1 c2 c3 : Nat), v = evV e a1 a2 a3 c1 c2 c3 ∧ EvM W a1 a2 a3 c1 c2 c3 e := by
  obtain ⟨cs, rfl, hsz⟩ := okWide_struct Try.underlying30 hv
  obtain ⟨fuel, hf⟩ := h
  obtain ⟨e, a1, a2, a3, c1, c2, c3, hc, hm⟩ := open_event0 (by simpa [Value.cells] using hf)
  have : cs = evC e a1 a2 a3 c1 c2 c3 := Array.toList_inj.1 hc
  subst this
  exact ⟨e, a1, a2, a3, c1, c2, c3, rfl, hm⟩
set_option maxRecDepth 100000 in
theorem open_pol {W : World} {r : Reach} {b0 : Nat} {v : Value} {d : DataW H} {p : List MemPlace} (hv : Value.okWide Try.prog W r b0 25 v) (h : DataW.Trod enc Try.prog W 0 (fun _ => true) true 25 v d p) :
    ∃ (q : Pl) (a1 a2 : Option Addr) (c1 c2 : Nat), v = plV q a1 a2 c1 c2 ∧ PlM W a1 a2 c1 c2 q := by
  obtain ⟨cs, rfl, hsz⟩ := okWide_struct Try.underlying25 hv
  obtain ⟨fuel, hf⟩ := h
  obtain ⟨q, a1, a2, c1, c2, hc, hm⟩ := open_pol0 (by simpa [Value.cells] using hf)
  have : cs = (plL q a1 a2 c1 c2).toArray := Array.toList_inj.1 hc
  subst this
  exact ⟨q, a1, a2, c1, c2, rfl, hm⟩
end
end
end Go.Proofs.Ytnpakjdgcmbcnaa
