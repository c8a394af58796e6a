/- The document's Conf. -/
import Derived.Test.YtcfehddnccdejaaEwW
import Derived.Deep.CutRange
import Derived.Deep.DeepCutAuto
namespace Go.Proofs.Ytcfehddnccdejaa
open Go.RowKit
open Wir Evn
attribute [local go_sem] Oper.semAt_some
set_option linter.unusedVariables false
set_option linter.unusedSimpArgs false

set_option maxRecDepth 100000 in
set_option maxHeartbeats 3200000 in
theorem dconf_any (c : Cf) (w : World) :
    Calls Try.prog 10 #[cfV c] w fun e w' => e = .returned (.bool (confR c)) ∧ Below w.heap.size w w' := by
  obtain ⟨min, max, rate, stable, cap, delay, slack, window, margin, ceil, probe, breach⟩ := c
  have HZ : Hid (confR ⟨min, max, rate, stable, cap, delay, slack, window, margin, ceil, probe, breach⟩ = (decide (1 ≤ min ∧ min ≤ max ∧ max ≤ 1000 ∧ 1 ≤ rate ∧ rate ≤ 1000) && decide ((0 ≤ stable ∧ stable ≤ 1099511627776) ∧ (1 ≤ cap ∧ cap ≤ 1000000) ∧ 0 ≤ delay ∧ delay ≤ 8 ∧ (0 ≤ slack ∧ slack ≤ 1000000000)) && decide (1 ≤ window ∧ window ≤ 32 ∧ (0 ≤ margin ∧ margin ≤ 1000000000) ∧ 0 ≤ ceil ∧ ceil ≤ 32 ∧ 1 ≤ probe ∧ probe ≤ 32 ∧ 0 ≤ breach ∧ breach ≤ 32))) := by
    show _ = _
    unfold confR
    simp only
    rw [← Bool.decide_and, ← Bool.decide_and]
    refine decide_eq_decide.2 ⟨fun h => ?_, fun h => ?_⟩ <;> omega
  unfold cfV
  simp only
  go_enter Try.func10, Try.ntmps10
  go_upto_region 1 with fail
  go_cut [3] from 6 to 30 (fun v wx => v = .bool (decide (1 ≤ min ∧ min ≤ max ∧ max ≤ 1000 ∧ 1 ≤ rate ∧ rate ≤ 1000)) ∧ wx = w.alloc (.cells #[.int .i64 min, .int .i64 max, .int .i64 rate, .int .i64 stable, .int .i64 cap, .int .i64 delay, .int .i64 slack, .int .i64 window, .int .i64 margin, .int .i64 ceil, .int .i64 probe, .int .i64 breach] 23))
  case first =>
    by_cases h : 1 ≤ min
    rotate_left
    · have d0 : decide (1 ≤ min) = false := decide_eq_false h
      have HH := Lib.hid h
      clear h
      go_wp2_with fail
      go_meet
      case rel => exact ⟨congrArg Value.bool (decide_eq_false (fun h => by have := HH.out; omega)).symm, rfl⟩
    have d0 : decide (1 ≤ min) = true := decide_eq_true h
    have H0 := Lib.hid h
    clear h
    by_cases h : min ≤ max
    rotate_left
    · have d1 : decide (min ≤ max) = false := decide_eq_false h
      have HH := Lib.hid h
      clear h
      go_wp2_with fail
      go_meet
      case rel => exact ⟨congrArg Value.bool (decide_eq_false (fun h => by have := HH.out; omega)).symm, rfl⟩
    have d1 : decide (min ≤ max) = true := decide_eq_true h
    have H1 := Lib.hid h
    clear h
    by_cases h : max ≤ 1000
    rotate_left
    · have d2 : decide (max ≤ 1000) = false := decide_eq_false h
      have HH := Lib.hid h
      clear h
      go_wp2_with fail
      go_meet
      case rel => exact ⟨congrArg Value.bool (decide_eq_false (fun h => by have := HH.out; omega)).symm, rfl⟩
    have d2 : decide (max ≤ 1000) = true := decide_eq_true h
    have H2 := Lib.hid h
    clear h
    by_cases h : 1 ≤ rate
    rotate_left
    · have d3 : decide (1 ≤ rate) = false := decide_eq_false h
      have HH := Lib.hid h
      clear h
      go_wp2_with fail
      go_meet
      case rel => exact ⟨congrArg Value.bool (decide_eq_false (fun h => by have := HH.out; omega)).symm, rfl⟩
    have d3 : decide (1 ≤ rate) = true := decide_eq_true h
    have H3 := Lib.hid h
    clear h
    by_cases h : rate ≤ 1000
    rotate_left
    · have d4 : decide (rate ≤ 1000) = false := decide_eq_false h
      have HH := Lib.hid h
      clear h
      go_wp2_with fail
      go_meet
      case rel => exact ⟨congrArg Value.bool (decide_eq_false (fun h => by have := HH.out; omega)).symm, rfl⟩
    have d4 : decide (rate ≤ 1000) = true := decide_eq_true h
    have H4 := Lib.hid h
    clear h
    go_wp2_with fail
    go_meet
    case rel => exact ⟨congrArg Value.bool (decide_eq_true (by have h0 := H0.out; have h1 := H1.out; have h2 := H2.out; have h3 := H3.out; have h4 := H4.out; omega)).symm, rfl⟩
  case rest =>
    obtain ⟨rfl, rfl⟩ := hcut
    generalize hs1 : decide (1 ≤ min ∧ min ≤ max ∧ max ≤ 1000 ∧ 1 ≤ rate ∧ rate ≤ 1000) = s1 at *
    clear hs1
    go_upto_region 2 with fail
    go_cut [4] from 31 to 53 (fun v wx => v = .bool (decide ((0 ≤ stable ∧ stable ≤ 1099511627776) ∧ (1 ≤ cap ∧ cap ≤ 1000000) ∧ 0 ≤ delay ∧ delay ≤ 8 ∧ (0 ≤ slack ∧ slack ≤ 1000000000))) ∧ wx = w.alloc (.cells #[.int .i64 min, .int .i64 max, .int .i64 rate, .int .i64 stable, .int .i64 cap, .int .i64 delay, .int .i64 slack, .int .i64 window, .int .i64 margin, .int .i64 ceil, .int .i64 probe, .int .i64 breach] 23))
    case first =>
      go_wp2_with fail
      refine (dwithin_any stable 0 1099511627776 _).mono ?_
      rintro e w9 ⟨rfl, rfl⟩
      by_cases h : 0 ≤ stable ∧ stable ≤ 1099511627776
      rotate_left
      · rw [decide_eq_false h]
        have HH := Lib.hid h
        clear h
        go_wp2_with fail
        go_meet
        case rel => exact ⟨congrArg Value.bool (decide_eq_false (fun h => by have := HH.out; omega)).symm, rfl⟩
      rw [decide_eq_true h]
      have H0 := Lib.hid h
      clear h
      go_wp2_with fail
      refine (dwithin_any cap 1 1000000 _).mono ?_
      rintro e w9 ⟨rfl, rfl⟩
      by_cases h : 1 ≤ cap ∧ cap ≤ 1000000
      rotate_left
      · rw [decide_eq_false h]
        have HH := Lib.hid h
        clear h
        go_wp2_with fail
        go_meet
        case rel => exact ⟨congrArg Value.bool (decide_eq_false (fun h => by have := HH.out; omega)).symm, rfl⟩
      rw [decide_eq_true h]
      have H1 := Lib.hid h
      clear h
      by_cases h : 0 ≤ delay
      rotate_left
      · have d2 : decide (0 ≤ delay) = false := decide_eq_false h
        have HH := Lib.hid h
        clear h
        go_wp2_with fail
        go_meet
        case rel => exact ⟨congrArg Value.bool (decide_eq_false (fun h => by have := HH.out; omega)).symm, rfl⟩
      have d2 : decide (0 ≤ delay) = true := decide_eq_true h
      have H2 := Lib.hid h
      clear h
      by_cases h : delay ≤ 8
      rotate_left
      · have d3 : decide (delay ≤ 8) = false := decide_eq_false h
        have HH := Lib.hid h
        clear h
        go_wp2_with fail
        go_meet
        case rel => exact ⟨congrArg Value.bool (decide_eq_false (fun h => by have := HH.out; omega)).symm, rfl⟩
      have d3 : decide (delay ≤ 8) = true := decide_eq_true h
      have H3 := Lib.hid h
      clear h
      go_wp2_with fail
      refine (dwithin_any slack 0 1000000000 _).mono ?_
      rintro e w9 ⟨rfl, rfl⟩
      by_cases h : 0 ≤ slack ∧ slack ≤ 1000000000
      rotate_left
      · rw [decide_eq_false h]
        have HH := Lib.hid h
        clear h
        go_wp2_with fail
        go_meet
        case rel => exact ⟨congrArg Value.bool (decide_eq_false (fun h => by have := HH.out; omega)).symm, rfl⟩
      rw [decide_eq_true h]
      have H4 := Lib.hid h
      clear h
      go_wp2_with fail
      go_meet
      case rel => exact ⟨congrArg Value.bool (decide_eq_true (by have h0 := H0.out; have h1 := H1.out; have h2 := H2.out; have h3 := H3.out; have h4 := H4.out; omega)).symm, rfl⟩
    case rest =>
      obtain ⟨rfl, rfl⟩ := hcut
      generalize hs2 : decide ((0 ≤ stable ∧ stable ≤ 1099511627776) ∧ (1 ≤ cap ∧ cap ≤ 1000000) ∧ 0 ≤ delay ∧ delay ≤ 8 ∧ (0 ≤ slack ∧ slack ≤ 1000000000)) = s2 at *
      clear hs2
      go_upto_region 3 with fail
      go_cut [5] from 54 to 96 (fun v wx => v = .bool (decide (1 ≤ window ∧ window ≤ 32 ∧ (0 ≤ margin ∧ margin ≤ 1000000000) ∧ 0 ≤ ceil ∧ ceil ≤ 32 ∧ 1 ≤ probe ∧ probe ≤ 32 ∧ 0 ≤ breach ∧ breach ≤ 32)) ∧ wx = w.alloc (.cells #[.int .i64 min, .int .i64 max, .int .i64 rate, .int .i64 stable, .int .i64 cap, .int .i64 delay, .int .i64 slack, .int .i64 window, .int .i64 margin, .int .i64 ceil, .int .i64 probe, .int .i64 breach] 23))
      case first =>
        by_cases h : 1 ≤ window
        rotate_left
        · have d0 : decide (1 ≤ window) = false := decide_eq_false h
          have HH := Lib.hid h
          clear h
          go_wp2_with fail
          go_meet
          case rel => exact ⟨congrArg Value.bool (decide_eq_false (fun h => by have := HH.out; omega)).symm, rfl⟩
        have d0 : decide (1 ≤ window) = true := decide_eq_true h
        have H0 := Lib.hid h
        clear h
        by_cases h : window ≤ 32
        rotate_left
        · have d1 : decide (window ≤ 32) = false := decide_eq_false h
          have HH := Lib.hid h
          clear h
          go_wp2_with fail
          go_meet
          case rel => exact ⟨congrArg Value.bool (decide_eq_false (fun h => by have := HH.out; omega)).symm, rfl⟩
        have d1 : decide (window ≤ 32) = true := decide_eq_true h
        have H1 := Lib.hid h
        clear h
        go_wp2_with fail
        refine (dwithin_any margin 0 1000000000 _).mono ?_
        rintro e w9 ⟨rfl, rfl⟩
        by_cases h : 0 ≤ margin ∧ margin ≤ 1000000000
        rotate_left
        · rw [decide_eq_false h]
          have HH := Lib.hid h
          clear h
          go_wp2_with fail
          go_meet
          case rel => exact ⟨congrArg Value.bool (decide_eq_false (fun h => by have := HH.out; omega)).symm, rfl⟩
        rw [decide_eq_true h]
        have H2 := Lib.hid h
        clear h
        by_cases h : 0 ≤ ceil
        rotate_left
        · have d3 : decide (0 ≤ ceil) = false := decide_eq_false h
          have HH := Lib.hid h
          clear h
          go_wp2_with fail
          go_meet
          case rel => exact ⟨congrArg Value.bool (decide_eq_false (fun h => by have := HH.out; omega)).symm, rfl⟩
        have d3 : decide (0 ≤ ceil) = true := decide_eq_true h
        have H3 := Lib.hid h
        clear h
        by_cases h : ceil ≤ 32
        rotate_left
        · have d4 : decide (ceil ≤ 32) = false := decide_eq_false h
          have HH := Lib.hid h
          clear h
          go_wp2_with fail
          go_meet
          case rel => exact ⟨congrArg Value.bool (decide_eq_false (fun h => by have := HH.out; omega)).symm, rfl⟩
        have d4 : decide (ceil ≤ 32) = true := decide_eq_true h
        have H4 := Lib.hid h
        clear h
        by_cases h : 1 ≤ probe
        rotate_left
        · have d5 : decide (1 ≤ probe) = false := decide_eq_false h
          have HH := Lib.hid h
          clear h
          go_wp2_with fail
          go_meet
          case rel => exact ⟨congrArg Value.bool (decide_eq_false (fun h => by have := HH.out; omega)).symm, rfl⟩
        have d5 : decide (1 ≤ probe) = true := decide_eq_true h
        have H5 := Lib.hid h
        clear h
        by_cases h : probe ≤ 32
        rotate_left
        · have d6 : decide (probe ≤ 32) = false := decide_eq_false h
          have HH := Lib.hid h
          clear h
          go_wp2_with fail
          go_meet
          case rel => exact ⟨congrArg Value.bool (decide_eq_false (fun h => by have := HH.out; omega)).symm, rfl⟩
        have d6 : decide (probe ≤ 32) = true := decide_eq_true h
        have H6 := Lib.hid h
        clear h
        by_cases h : 0 ≤ breach
        rotate_left
        · have d7 : decide (0 ≤ breach) = false := decide_eq_false h
          have HH := Lib.hid h
          clear h
          go_wp2_with fail
          go_meet
          case rel => exact ⟨congrArg Value.bool (decide_eq_false (fun h => by have := HH.out; omega)).symm, rfl⟩
        have d7 : decide (0 ≤ breach) = true := decide_eq_true h
        have H7 := Lib.hid h
        clear h
        by_cases h : breach ≤ 32
        rotate_left
        · have d8 : decide (breach ≤ 32) = false := decide_eq_false h
          have HH := Lib.hid h
          clear h
          go_wp2_with fail
          go_meet
          case rel => exact ⟨congrArg Value.bool (decide_eq_false (fun h => by have := HH.out; omega)).symm, rfl⟩
        have d8 : decide (breach ≤ 32) = true := decide_eq_true h
        have H8 := Lib.hid h
        clear h
        go_wp2_with fail
        go_meet
        case rel => exact ⟨congrArg Value.bool (decide_eq_true (by have h0 := H0.out; have h1 := H1.out; have h2 := H2.out; have h3 := H3.out; have h4 := H4.out; have h5 := H5.out; have h6 := H6.out; have h7 := H7.out; have h8 := H8.out; omega)).symm, rfl⟩
      case rest =>
        obtain ⟨rfl, rfl⟩ := hcut
        generalize hs3 : decide (1 ≤ window ∧ window ≤ 32 ∧ (0 ≤ margin ∧ margin ≤ 1000000000) ∧ 0 ≤ ceil ∧ ceil ≤ 32 ∧ 1 ≤ probe ∧ probe ≤ 32 ∧ 0 ≤ breach ∧ breach ≤ 32) = s3 at *
        clear hs3
        have HB := Lib.hid (bel1 (Below.refl w.heap.size w) (.cells #[.int .i64 min, .int .i64 max, .int .i64 rate, .int .i64 stable, .int .i64 cap, .int .i64 delay, .int .i64 slack, .int .i64 window, .int .i64 margin, .int .i64 ceil, .int .i64 probe, .int .i64 breach] 23))
        cases s1
        · go_wp2
          go_ret
          exact ⟨ret_bool (by rw [HZ.out]; rfl), HB.out⟩
        · cases s2
          · go_wp2
            go_ret
            exact ⟨ret_bool (by rw [HZ.out]; rfl), HB.out⟩
          · cases s3
            · go_wp2
              go_ret
              exact ⟨ret_bool (by rw [HZ.out]; rfl), HB.out⟩
            · go_wp2
              go_ret
              exact ⟨ret_bool (by rw [HZ.out]; rfl), HB.out⟩
end Go.Proofs.Ytcfehddnccdejaa
