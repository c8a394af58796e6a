/- The document's Right: kinds [1, 2, 5]. The document's Right: kinds [6, 7, 4]. -/
import Derived.Test.YtnpakjdgcmbcnaaTlA
import Derived.Test.YtnpakjdgcmbcnaaEvZ
import Derived.Deep.CutRange
import Derived.Deep.DeepCutAuto
namespace Go.Proofs.Ytnpakjdgcmbcnaa
set_option linter.unusedVariables false
set_option linter.unusedSimpArgs false
section
open Go.RowKit
open Wir Evn
attribute [local go_sem] Oper.semAt_some
set_option linter.unusedVariables false
set_option linter.unusedSimpArgs false

set_option maxRecDepth 100000 in
set_option maxHeartbeats 3200000 in
theorem dright_a {w : World} {a1 a2 a3 : Option Addr} {c1 c2 c3 : Nat} (e : Ev) (h1 : PRow w a1 e.pol.bands.length c1 e.pol.bands) (h2 : PRow w a2 e.pol.slots.length c2 e.pol.slots) (hkk : e.kind = 1 ∨ e.kind = 2 ∨ e.kind = 5) :
    Calls Try.prog 10 #[evV e a1 a2 a3 c1 c2 c3] w fun r w' => r = .returned (.bool (rightR e)) ∧ Below w.heap.size w w' := by
  have HM := Lib.hid (And.intro h1 h2)
  clear h1 h2
  have HK0 : Hid ((w.alloc (.cells (evC e a1 a2 a3 c1 c2 c3) 30)).heap[w.heap.size]? = some (.cells (evC e a1 a2 a3 c1 c2 c3) 30 (0, 0))) := heap_alloc_new _ _
  have HB0 := Lib.hid (bel1 (Below.refl w.heap.size w) (.cells (evC e a1 a2 a3 c1 c2 c3) 30))
  have k1 : World.cell? (w.alloc (.cells (evC e a1 a2 a3 c1 c2 c3) 30)) ⟨w.heap.size, 1, none⟩ = some (.int .i64 e.util) := evC_cell HK0.out 1 _ rfl
  have k2 : World.cell? (w.alloc (.cells (evC e a1 a2 a3 c1 c2 c3) 30)) ⟨w.heap.size, 2, none⟩ = some (.int .i64 e.demand) := evC_cell HK0.out 2 _ rfl
  have k6 : World.cell? (w.alloc (.cells (evC e a1 a2 a3 c1 c2 c3) 30)) ⟨w.heap.size, 6, none⟩ = some (.int .i64 e.pol.kind) := evC_cell HK0.out 6 _ rfl
  have k7 : World.cell? (w.alloc (.cells (evC e a1 a2 a3 c1 c2 c3) 30)) ⟨w.heap.size, 7, none⟩ = some (.int .i64 e.pol.target) := evC_cell HK0.out 7 _ rfl
  have k8 : World.cell? (w.alloc (.cells (evC e a1 a2 a3 c1 c2 c3) 30)) ⟨w.heap.size, 8, none⟩ = some (.slice a1 e.pol.bands.length c1) := evC_cell HK0.out 8 _ rfl
  have k9 : World.cell? (w.alloc (.cells (evC e a1 a2 a3 c1 c2 c3) 30)) ⟨w.heap.size, 9, none⟩ = some (.int .i64 e.pol.kp) := evC_cell HK0.out 9 _ rfl
  have k10 : World.cell? (w.alloc (.cells (evC e a1 a2 a3 c1 c2 c3) 30)) ⟨w.heap.size, 10, none⟩ = some (.int .i64 e.pol.ki) := evC_cell HK0.out 10 _ rfl
  have k11 : World.cell? (w.alloc (.cells (evC e a1 a2 a3 c1 c2 c3) 30)) ⟨w.heap.size, 11, none⟩ = some (.int .i64 e.pol.kd) := evC_cell HK0.out 11 _ rfl
  have k12 : World.cell? (w.alloc (.cells (evC e a1 a2 a3 c1 c2 c3) 30)) ⟨w.heap.size, 12, none⟩ = some (.int .i64 e.pol.period) := evC_cell HK0.out 12 _ rfl
  have k13 : World.cell? (w.alloc (.cells (evC e a1 a2 a3 c1 c2 c3) 30)) ⟨w.heap.size, 13, none⟩ = some (.slice a2 e.pol.slots.length c2) := evC_cell HK0.out 13 _ rfl
  have k14 : World.cell? (w.alloc (.cells (evC e a1 a2 a3 c1 c2 c3) 30)) ⟨w.heap.size, 14, none⟩ = some (.int .i64 e.conf.min) := evC_cell HK0.out 14 _ rfl
  have k15 : World.cell? (w.alloc (.cells (evC e a1 a2 a3 c1 c2 c3) 30)) ⟨w.heap.size, 15, none⟩ = some (.int .i64 e.conf.max) := evC_cell HK0.out 15 _ rfl
  have k16 : World.cell? (w.alloc (.cells (evC e a1 a2 a3 c1 c2 c3) 30)) ⟨w.heap.size, 16, none⟩ = some (.int .i64 e.conf.rate) := evC_cell HK0.out 16 _ rfl
  have k17 : World.cell? (w.alloc (.cells (evC e a1 a2 a3 c1 c2 c3) 30)) ⟨w.heap.size, 17, none⟩ = some (.int .i64 e.conf.stable) := evC_cell HK0.out 17 _ rfl
  have k18 : World.cell? (w.alloc (.cells (evC e a1 a2 a3 c1 c2 c3) 30)) ⟨w.heap.size, 18, none⟩ = some (.int .i64 e.conf.cap) := evC_cell HK0.out 18 _ rfl
  have k19 : World.cell? (w.alloc (.cells (evC e a1 a2 a3 c1 c2 c3) 30)) ⟨w.heap.size, 19, none⟩ = some (.int .i64 e.conf.delay) := evC_cell HK0.out 19 _ rfl
  have k20 : World.cell? (w.alloc (.cells (evC e a1 a2 a3 c1 c2 c3) 30)) ⟨w.heap.size, 20, none⟩ = some (.int .i64 e.conf.slack) := evC_cell HK0.out 20 _ rfl
  have k21 : World.cell? (w.alloc (.cells (evC e a1 a2 a3 c1 c2 c3) 30)) ⟨w.heap.size, 21, none⟩ = some (.int .i64 e.conf.window) := evC_cell HK0.out 21 _ rfl
  have k22 : World.cell? (w.alloc (.cells (evC e a1 a2 a3 c1 c2 c3) 30)) ⟨w.heap.size, 22, none⟩ = some (.int .i64 e.conf.margin) := evC_cell HK0.out 22 _ rfl
  have k23 : World.cell? (w.alloc (.cells (evC e a1 a2 a3 c1 c2 c3) 30)) ⟨w.heap.size, 23, none⟩ = some (.int .i64 e.conf.ceil) := evC_cell HK0.out 23 _ rfl
  have k24 : World.cell? (w.alloc (.cells (evC e a1 a2 a3 c1 c2 c3) 30)) ⟨w.heap.size, 24, none⟩ = some (.int .i64 e.conf.probe) := evC_cell HK0.out 24 _ rfl
  have k25 : World.cell? (w.alloc (.cells (evC e a1 a2 a3 c1 c2 c3) 30)) ⟨w.heap.size, 25, none⟩ = some (.int .i64 e.conf.breach) := evC_cell HK0.out 25 _ rfl
  have k26 : World.cell? (w.alloc (.cells (evC e a1 a2 a3 c1 c2 c3) 30)) ⟨w.heap.size, 26, none⟩ = some (.slice a3 e.body.length c3) := evC_cell HK0.out 26 _ rfl
  have HKK := Lib.hid hkk
  clear hkk
  unfold evV
  go_enter Try.func10, Try.ntmps10
  go_upto_region 1 with fail
  go_cut [3] from 6 to 13 (fun v wx => v = .bool (smpR e) ∧ wx = w.alloc (.cells (evC e a1 a2 a3 c1 c2 c3) 30))
  case first =>
    by_cases h : e.util = 0
    rotate_left
    · have d : (e.util == 0) = false := by simpa using h
      have HH := Lib.hid h
      clear h
      go_wp2_with fail
      go_meet
      case rel => exact ⟨congrArg Value.bool (decide_eq_false (fun h => HH.out h.1)).symm, rfl⟩
    have d : (e.util == 0) = true := by simp [h]
    have H0 := Lib.hid h
    clear h
    by_cases h : e.demand = 0
    rotate_left
    · have d1 : (e.demand == 0) = false := by simpa using h
      have HH := Lib.hid h
      clear h
      go_wp2_with fail
      go_meet
      case rel => exact ⟨congrArg Value.bool (decide_eq_false (fun h => HH.out h.2)).symm, rfl⟩
    have d1 : (e.demand == 0) = true := by simp [h]
    have H1 := Lib.hid h
    clear h
    go_wp2_with fail
    go_meet
    case rel => exact ⟨congrArg Value.bool (decide_eq_true ⟨H0.out, H1.out⟩).symm, rfl⟩
  case rest =>
    obtain ⟨rfl, rfl⟩ := hcut
    generalize hS : smpR e = sS at *
    have HS := Lib.hid hS
    clear hS
    clear k1 k2
    go_upto_region 2 with fail
    go_cut [4] from 14 to 28 (fun v wx => v = .bool (rstR e) ∧ Below w.heap.size w wx ∧ wx.heap[w.heap.size]? = some (.cells (evC e a1 a2 a3 c1 c2 c3) 30 (0, 0)))
    case first =>
      go_wp2_with fail
      refine (dzero_any e.pol a1 a2 c1 c2 _).mono ?_
      rintro r y1 ⟨rfl, hb⟩
      clear k6 k7 k8 k9 k10 k11 k12 k13 k14 k15 k16 k17 k18 k19 k20 k21 k22 k23 k24 k25 k26
      have HB1 := Lib.hid (bel2 HB0.out hb)
      have HK1 := Lib.hid ((hb.block _ (lt_of_heap HK0.out)).trans HK0.out)
      clear hb
      have k14 : World.cell? (y1) ⟨w.heap.size, 14, none⟩ = some (.int .i64 e.conf.min) := evC_cell HK1.out 14 _ rfl
      have k15 : World.cell? (y1) ⟨w.heap.size, 15, none⟩ = some (.int .i64 e.conf.max) := evC_cell HK1.out 15 _ rfl
      have k16 : World.cell? (y1) ⟨w.heap.size, 16, none⟩ = some (.int .i64 e.conf.rate) := evC_cell HK1.out 16 _ rfl
      have k17 : World.cell? (y1) ⟨w.heap.size, 17, none⟩ = some (.int .i64 e.conf.stable) := evC_cell HK1.out 17 _ rfl
      have k18 : World.cell? (y1) ⟨w.heap.size, 18, none⟩ = some (.int .i64 e.conf.cap) := evC_cell HK1.out 18 _ rfl
      have k19 : World.cell? (y1) ⟨w.heap.size, 19, none⟩ = some (.int .i64 e.conf.delay) := evC_cell HK1.out 19 _ rfl
      have k20 : World.cell? (y1) ⟨w.heap.size, 20, none⟩ = some (.int .i64 e.conf.slack) := evC_cell HK1.out 20 _ rfl
      have k21 : World.cell? (y1) ⟨w.heap.size, 21, none⟩ = some (.int .i64 e.conf.window) := evC_cell HK1.out 21 _ rfl
      have k22 : World.cell? (y1) ⟨w.heap.size, 22, none⟩ = some (.int .i64 e.conf.margin) := evC_cell HK1.out 22 _ rfl
      have k23 : World.cell? (y1) ⟨w.heap.size, 23, none⟩ = some (.int .i64 e.conf.ceil) := evC_cell HK1.out 23 _ rfl
      have k24 : World.cell? (y1) ⟨w.heap.size, 24, none⟩ = some (.int .i64 e.conf.probe) := evC_cell HK1.out 24 _ rfl
      have k25 : World.cell? (y1) ⟨w.heap.size, 25, none⟩ = some (.int .i64 e.conf.breach) := evC_cell HK1.out 25 _ rfl
      have k26 : World.cell? (y1) ⟨w.heap.size, 26, none⟩ = some (.slice a3 e.body.length c3) := evC_cell HK1.out 26 _ rfl
      cases hx : zeroR e.pol
      · have HX := Lib.hid hx
        clear hx
        go_wp2_with fail
        go_meet
        case rel => exact ⟨congrArg Value.bool (by unfold rstR; rw [HX.out]; rfl), HB1.out, HK1.out⟩
      have HX := Lib.hid hx
      clear hx
      by_cases h : e.conf.min = 0
      rotate_left
      · have dz0 : (e.conf.min == 0) = false := by simpa using h
        have HH : Hid (cfZero e.conf = false) := decide_eq_false (fun h2 => h (by omega))
        clear h
        go_wp2_with fail
        go_meet
        case rel => exact ⟨congrArg Value.bool (by unfold rstR; rw [HX.out, HH.out]; rfl), HB1.out, HK1.out⟩
      have dz0 : (e.conf.min == 0) = true := by simp [h]
      have Z0 := Lib.hid h
      clear h
      by_cases h : e.conf.max = 0
      rotate_left
      · have dz1 : (e.conf.max == 0) = false := by simpa using h
        have HH : Hid (cfZero e.conf = false) := decide_eq_false (fun h2 => h (by omega))
        clear h
        go_wp2_with fail
        go_meet
        case rel => exact ⟨congrArg Value.bool (by unfold rstR; rw [HX.out, HH.out]; rfl), HB1.out, HK1.out⟩
      have dz1 : (e.conf.max == 0) = true := by simp [h]
      have Z1 := Lib.hid h
      clear h
      by_cases h : e.conf.rate = 0
      rotate_left
      · have dz2 : (e.conf.rate == 0) = false := by simpa using h
        have HH : Hid (cfZero e.conf = false) := decide_eq_false (fun h2 => h (by omega))
        clear h
        go_wp2_with fail
        go_meet
        case rel => exact ⟨congrArg Value.bool (by unfold rstR; rw [HX.out, HH.out]; rfl), HB1.out, HK1.out⟩
      have dz2 : (e.conf.rate == 0) = true := by simp [h]
      have Z2 := Lib.hid h
      clear h
      by_cases h : e.conf.stable = 0
      rotate_left
      · have dz3 : (e.conf.stable == 0) = false := by simpa using h
        have HH : Hid (cfZero e.conf = false) := decide_eq_false (fun h2 => h (by omega))
        clear h
        go_wp2_with fail
        go_meet
        case rel => exact ⟨congrArg Value.bool (by unfold rstR; rw [HX.out, HH.out]; rfl), HB1.out, HK1.out⟩
      have dz3 : (e.conf.stable == 0) = true := by simp [h]
      have Z3 := Lib.hid h
      clear h
      by_cases h : e.conf.cap = 0
      rotate_left
      · have dz4 : (e.conf.cap == 0) = false := by simpa using h
        have HH : Hid (cfZero e.conf = false) := decide_eq_false (fun h2 => h (by omega))
        clear h
        go_wp2_with fail
        go_meet
        case rel => exact ⟨congrArg Value.bool (by unfold rstR; rw [HX.out, HH.out]; rfl), HB1.out, HK1.out⟩
      have dz4 : (e.conf.cap == 0) = true := by simp [h]
      have Z4 := Lib.hid h
      clear h
      by_cases h : e.conf.delay = 0
      rotate_left
      · have dz5 : (e.conf.delay == 0) = false := by simpa using h
        have HH : Hid (cfZero e.conf = false) := decide_eq_false (fun h2 => h (by omega))
        clear h
        go_wp2_with fail
        go_meet
        case rel => exact ⟨congrArg Value.bool (by unfold rstR; rw [HX.out, HH.out]; rfl), HB1.out, HK1.out⟩
      have dz5 : (e.conf.delay == 0) = true := by simp [h]
      have Z5 := Lib.hid h
      clear h
      by_cases h : e.conf.slack = 0
      rotate_left
      · have dz6 : (e.conf.slack == 0) = false := by simpa using h
        have HH : Hid (cfZero e.conf = false) := decide_eq_false (fun h2 => h (by omega))
        clear h
        go_wp2_with fail
        go_meet
        case rel => exact ⟨congrArg Value.bool (by unfold rstR; rw [HX.out, HH.out]; rfl), HB1.out, HK1.out⟩
      have dz6 : (e.conf.slack == 0) = true := by simp [h]
      have Z6 := Lib.hid h
      clear h
      by_cases h : e.conf.window = 0
      rotate_left
      · have dz7 : (e.conf.window == 0) = false := by simpa using h
        have HH : Hid (cfZero e.conf = false) := decide_eq_false (fun h2 => h (by omega))
        clear h
        go_wp2_with fail
        go_meet
        case rel => exact ⟨congrArg Value.bool (by unfold rstR; rw [HX.out, HH.out]; rfl), HB1.out, HK1.out⟩
      have dz7 : (e.conf.window == 0) = true := by simp [h]
      have Z7 := Lib.hid h
      clear h
      by_cases h : e.conf.margin = 0
      rotate_left
      · have dz8 : (e.conf.margin == 0) = false := by simpa using h
        have HH : Hid (cfZero e.conf = false) := decide_eq_false (fun h2 => h (by omega))
        clear h
        go_wp2_with fail
        go_meet
        case rel => exact ⟨congrArg Value.bool (by unfold rstR; rw [HX.out, HH.out]; rfl), HB1.out, HK1.out⟩
      have dz8 : (e.conf.margin == 0) = true := by simp [h]
      have Z8 := Lib.hid h
      clear h
      by_cases h : e.conf.ceil = 0
      rotate_left
      · have dz9 : (e.conf.ceil == 0) = false := by simpa using h
        have HH : Hid (cfZero e.conf = false) := decide_eq_false (fun h2 => h (by omega))
        clear h
        go_wp2_with fail
        go_meet
        case rel => exact ⟨congrArg Value.bool (by unfold rstR; rw [HX.out, HH.out]; rfl), HB1.out, HK1.out⟩
      have dz9 : (e.conf.ceil == 0) = true := by simp [h]
      have Z9 := Lib.hid h
      clear h
      by_cases h : e.conf.probe = 0
      rotate_left
      · have dz10 : (e.conf.probe == 0) = false := by simpa using h
        have HH : Hid (cfZero e.conf = false) := decide_eq_false (fun h2 => h (by omega))
        clear h
        go_wp2_with fail
        go_meet
        case rel => exact ⟨congrArg Value.bool (by unfold rstR; rw [HX.out, HH.out]; rfl), HB1.out, HK1.out⟩
      have dz10 : (e.conf.probe == 0) = true := by simp [h]
      have Z10 := Lib.hid h
      clear h
      by_cases h : e.conf.breach = 0
      rotate_left
      · have dz11 : (e.conf.breach == 0) = false := by simpa using h
        have HH : Hid (cfZero e.conf = false) := decide_eq_false (fun h2 => h (by omega))
        clear h
        go_wp2_with fail
        go_meet
        case rel => exact ⟨congrArg Value.bool (by unfold rstR; rw [HX.out, HH.out]; rfl), HB1.out, HK1.out⟩
      have dz11 : (e.conf.breach == 0) = true := by simp [h]
      have Z11 := Lib.hid h
      clear h
      have HC : Hid (cfZero e.conf = true) := decide_eq_true ⟨Z0.out, Z1.out, Z2.out, Z3.out, Z4.out, Z5.out, Z6.out, Z7.out, Z8.out, Z9.out, Z10.out, Z11.out⟩
      by_cases h : e.body.length = 0
      rotate_left
      · have d : ((e.body.length : Int) == 0) = false := by simpa using h
        have HH := Lib.hid h
        clear h
        go_wp2_with fail
        go_meet
        case rel => exact ⟨congrArg Value.bool (by unfold rstR; rw [HX.out, HC.out, decide_eq_false HH.out]; rfl), HB1.out, HK1.out⟩
      have d : ((e.body.length : Int) == 0) = true := by simp [h]
      have HH := Lib.hid h
      clear h
      go_wp2_with fail
      go_meet
      case rel => exact ⟨congrArg Value.bool (by unfold rstR; rw [HX.out, HC.out, decide_eq_true HH.out]; rfl), HB1.out, HK1.out⟩
    case rest =>
      obtain ⟨rfl, hbc, hkc⟩ := hcut
      clear k6 k7 k8 k9 k10 k11 k12 k13 k14 k15 k16 k17 k18 k19 k20 k21 k22 k23 k24 k25 k26
      have HBC := Lib.hid hbc
      have HKC := Lib.hid hkc
      clear hbc hkc HB0 HK0
      generalize hR : rstR e = sR at *
      have HR := Lib.hid hR
      clear hR
      have hkk := HKK.out
      clear HKK
      rcases hkk with hk | hk | hk
      · have HI := Lib.hid (dright_is1 hk)
        have k0 : World.cell? (wc) ⟨w.heap.size, 0, none⟩ = some (.int .i64 e.kind) := evC_cell HKC.out 0 _ rfl
        have k3 : World.cell? (wc) ⟨w.heap.size, 3, none⟩ = some (.int .i64 e.t) := evC_cell HKC.out 3 _ rfl
        have k4 : World.cell? (wc) ⟨w.heap.size, 4, none⟩ = some (.int .i64 e.id) := evC_cell HKC.out 4 _ rfl
        have k5 : World.cell? (wc) ⟨w.heap.size, 5, none⟩ = some (.int .i64 e.n) := evC_cell HKC.out 5 _ rfl
        cases sR
        · have HH : Hid (¬ (rstR e = true)) := fun h => by rw [HR.out] at h; cases h
          go_wp2
          go_ret
          refine ⟨ret_bool (Bool.eq_false_iff.2 (fun h => HH.out (HI.out.1 h).1)).symm, HBC.out⟩
        have H0 := Lib.hid HR.out
        by_cases h : e.t = 0
        rotate_left
        · have d1 : (e.t == 0) = false := by simpa using h
          have HH := Lib.hid h
          clear h
          go_wp2
          go_ret
          refine ⟨ret_bool (Bool.eq_false_iff.2 (fun h => HH.out (HI.out.1 h).2.1)).symm, HBC.out⟩
        have d1 : (e.t == 0) = true := by simp [h]
        have H1 := Lib.hid h
        clear h
        by_cases h : e.id = 0
        rotate_left
        · have d2 : (e.id == 0) = false := by simpa using h
          have HH := Lib.hid h
          clear h
          go_wp2
          go_ret
          refine ⟨ret_bool (Bool.eq_false_iff.2 (fun h => HH.out (HI.out.1 h).2.2.1)).symm, HBC.out⟩
        have d2 : (e.id == 0) = true := by simp [h]
        have H2 := Lib.hid h
        clear h
        by_cases h : e.n = 0
        rotate_left
        · have d3 : (e.n == 0) = false := by simpa using h
          have HH := Lib.hid h
          clear h
          go_wp2
          go_ret
          refine ⟨ret_bool (Bool.eq_false_iff.2 (fun h => HH.out (HI.out.1 h).2.2.2)).symm, HBC.out⟩
        have d3 : (e.n == 0) = true := by simp [h]
        have H3 := Lib.hid h
        clear h
        go_wp2
        go_ret
        exact ⟨ret_bool (HI.out.2 ⟨H0.out, H1.out, H2.out, H3.out⟩).symm, HBC.out⟩
      · have HI := Lib.hid (dright_is2 hk)
        have k0 : World.cell? (wc) ⟨w.heap.size, 0, none⟩ = some (.int .i64 e.kind) := evC_cell HKC.out 0 _ rfl
        have k4 : World.cell? (wc) ⟨w.heap.size, 4, none⟩ = some (.int .i64 e.id) := evC_cell HKC.out 4 _ rfl
        have k5 : World.cell? (wc) ⟨w.heap.size, 5, none⟩ = some (.int .i64 e.n) := evC_cell HKC.out 5 _ rfl
        cases sR
        · have HH : Hid (¬ (rstR e = true)) := fun h => by rw [HR.out] at h; cases h
          go_wp2
          go_ret
          refine ⟨ret_bool (Bool.eq_false_iff.2 (fun h => HH.out (HI.out.1 h).1)).symm, HBC.out⟩
        have H0 := Lib.hid HR.out
        cases sS
        · have HH : Hid (¬ (smpR e = true)) := fun h => by rw [HS.out] at h; cases h
          go_wp2
          go_ret
          refine ⟨ret_bool (Bool.eq_false_iff.2 (fun h => HH.out (HI.out.1 h).2.1)).symm, HBC.out⟩
        have H1 := Lib.hid HS.out
        by_cases h : e.id = 0
        rotate_left
        · have d2 : (e.id == 0) = false := by simpa using h
          have HH := Lib.hid h
          clear h
          go_wp2
          go_ret
          refine ⟨ret_bool (Bool.eq_false_iff.2 (fun h => HH.out (HI.out.1 h).2.2.1)).symm, HBC.out⟩
        have d2 : (e.id == 0) = true := by simp [h]
        have H2 := Lib.hid h
        clear h
        by_cases h : e.n = 0
        rotate_left
        · have d3 : (e.n == 0) = false := by simpa using h
          have HH := Lib.hid h
          clear h
          go_wp2
          go_ret
          refine ⟨ret_bool (Bool.eq_false_iff.2 (fun h => HH.out (HI.out.1 h).2.2.2)).symm, HBC.out⟩
        have d3 : (e.n == 0) = true := by simp [h]
        have H3 := Lib.hid h
        clear h
        go_wp2
        go_ret
        exact ⟨ret_bool (HI.out.2 ⟨H0.out, H1.out, H2.out, H3.out⟩).symm, HBC.out⟩
      · have HI := Lib.hid (dright_is5 hk)
        have k0 : World.cell? (wc) ⟨w.heap.size, 0, none⟩ = some (.int .i64 e.kind) := evC_cell HKC.out 0 _ rfl
        have k4 : World.cell? (wc) ⟨w.heap.size, 4, none⟩ = some (.int .i64 e.id) := evC_cell HKC.out 4 _ rfl
        have k3 : World.cell? (wc) ⟨w.heap.size, 3, none⟩ = some (.int .i64 e.t) := evC_cell HKC.out 3 _ rfl
        have k5 : World.cell? (wc) ⟨w.heap.size, 5, none⟩ = some (.int .i64 e.n) := evC_cell HKC.out 5 _ rfl
        cases sR
        · have HH : Hid (¬ (rstR e = true)) := fun h => by rw [HR.out] at h; cases h
          go_wp2
          go_ret
          refine ⟨ret_bool (Bool.eq_false_iff.2 (fun h => HH.out (HI.out.1 h).1)).symm, HBC.out⟩
        have H0 := Lib.hid HR.out
        cases sS
        · have HH : Hid (¬ (smpR e = true)) := fun h => by rw [HS.out] at h; cases h
          go_wp2
          go_ret
          refine ⟨ret_bool (Bool.eq_false_iff.2 (fun h => HH.out (HI.out.1 h).2.1)).symm, HBC.out⟩
        have H1 := Lib.hid HS.out
        by_cases h : e.id = 0
        rotate_left
        · have d2 : (e.id == 0) = false := by simpa using h
          have HH := Lib.hid h
          clear h
          go_wp2
          go_ret
          refine ⟨ret_bool (Bool.eq_false_iff.2 (fun h => HH.out (HI.out.1 h).2.2.1)).symm, HBC.out⟩
        have d2 : (e.id == 0) = true := by simp [h]
        have H2 := Lib.hid h
        clear h
        go_wp2_with fail
        refine (dwithin_any (e.t) 0 1099511627776 _).mono ?_
        rintro r w9 ⟨rfl, rfl⟩
        by_cases h : 0 ≤ e.t ∧ e.t ≤ 1099511627776
        rotate_left
        · rw [decide_eq_false h]
          have HH : Hid (¬ (0 ≤ e.t ∧ e.t ≤ 1099511627776)) := h
          clear h
          go_wp2
          go_ret
          refine ⟨ret_bool (Bool.eq_false_iff.2 (fun h => HH.out (HI.out.1 h).2.2.2.1)).symm, HBC.out⟩
        rw [decide_eq_true h]
        have H3 := Lib.hid h
        clear h
        by_cases h : 0 ≤ e.n
        rotate_left
        · have d4 : decide (0 ≤ e.n) = false := decide_eq_false h
          have HH : Hid (¬ (0 ≤ e.n)) := h
          clear h
          go_wp2
          go_ret
          refine ⟨ret_bool (Bool.eq_false_iff.2 (fun h => by have h2 := (HI.out.1 h).2.2.2.2.1; have := HH.out; omega)).symm, HBC.out⟩
        have d4 : decide (0 ≤ e.n) = true := decide_eq_true h
        have H4 := Lib.hid h
        clear h
        by_cases h : e.n ≤ 1000
        rotate_left
        · have d5 : decide (e.n ≤ 1000) = false := decide_eq_false h
          have HH : Hid (¬ (e.n ≤ 1000)) := h
          clear h
          go_wp2
          go_ret
          refine ⟨ret_bool (Bool.eq_false_iff.2 (fun h => by have h2 := (HI.out.1 h).2.2.2.2.2; have := HH.out; omega)).symm, HBC.out⟩
        have d5 : decide (e.n ≤ 1000) = true := decide_eq_true h
        have H5 := Lib.hid h
        clear h
        go_wp2
        go_ret
        exact ⟨ret_bool (HI.out.2 ⟨H0.out, H1.out, H2.out, H3.out, H4.out, H5.out⟩).symm, HBC.out⟩
end
section
open Go.RowKit
open Wir Evn
attribute [local go_sem] Oper.semAt_some
set_option linter.unusedVariables false
set_option linter.unusedSimpArgs false

set_option maxRecDepth 100000 in
set_option maxHeartbeats 3200000 in
theorem dright_b {w : World} {a1 a2 a3 : Option Addr} {c1 c2 c3 : Nat} (e : Ev) (h1 : PRow w a1 e.pol.bands.length c1 e.pol.bands) (h2 : PRow w a2 e.pol.slots.length c2 e.pol.slots) (hkk : e.kind = 6 ∨ e.kind = 7 ∨ e.kind = 4) :
    Calls Try.prog 10 #[evV e a1 a2 a3 c1 c2 c3] w fun r w' => r = .returned (.bool (rightR e)) ∧ Below w.heap.size w w' := by
  have HM := Lib.hid (And.intro h1 h2)
  clear h1 h2
  have HK0 : Hid ((w.alloc (.cells (evC e a1 a2 a3 c1 c2 c3) 30)).heap[w.heap.size]? = some (.cells (evC e a1 a2 a3 c1 c2 c3) 30 (0, 0))) := heap_alloc_new _ _
  have HB0 := Lib.hid (bel1 (Below.refl w.heap.size w) (.cells (evC e a1 a2 a3 c1 c2 c3) 30))
  have k1 : World.cell? (w.alloc (.cells (evC e a1 a2 a3 c1 c2 c3) 30)) ⟨w.heap.size, 1, none⟩ = some (.int .i64 e.util) := evC_cell HK0.out 1 _ rfl
  have k2 : World.cell? (w.alloc (.cells (evC e a1 a2 a3 c1 c2 c3) 30)) ⟨w.heap.size, 2, none⟩ = some (.int .i64 e.demand) := evC_cell HK0.out 2 _ rfl
  have k6 : World.cell? (w.alloc (.cells (evC e a1 a2 a3 c1 c2 c3) 30)) ⟨w.heap.size, 6, none⟩ = some (.int .i64 e.pol.kind) := evC_cell HK0.out 6 _ rfl
  have k7 : World.cell? (w.alloc (.cells (evC e a1 a2 a3 c1 c2 c3) 30)) ⟨w.heap.size, 7, none⟩ = some (.int .i64 e.pol.target) := evC_cell HK0.out 7 _ rfl
  have k8 : World.cell? (w.alloc (.cells (evC e a1 a2 a3 c1 c2 c3) 30)) ⟨w.heap.size, 8, none⟩ = some (.slice a1 e.pol.bands.length c1) := evC_cell HK0.out 8 _ rfl
  have k9 : World.cell? (w.alloc (.cells (evC e a1 a2 a3 c1 c2 c3) 30)) ⟨w.heap.size, 9, none⟩ = some (.int .i64 e.pol.kp) := evC_cell HK0.out 9 _ rfl
  have k10 : World.cell? (w.alloc (.cells (evC e a1 a2 a3 c1 c2 c3) 30)) ⟨w.heap.size, 10, none⟩ = some (.int .i64 e.pol.ki) := evC_cell HK0.out 10 _ rfl
  have k11 : World.cell? (w.alloc (.cells (evC e a1 a2 a3 c1 c2 c3) 30)) ⟨w.heap.size, 11, none⟩ = some (.int .i64 e.pol.kd) := evC_cell HK0.out 11 _ rfl
  have k12 : World.cell? (w.alloc (.cells (evC e a1 a2 a3 c1 c2 c3) 30)) ⟨w.heap.size, 12, none⟩ = some (.int .i64 e.pol.period) := evC_cell HK0.out 12 _ rfl
  have k13 : World.cell? (w.alloc (.cells (evC e a1 a2 a3 c1 c2 c3) 30)) ⟨w.heap.size, 13, none⟩ = some (.slice a2 e.pol.slots.length c2) := evC_cell HK0.out 13 _ rfl
  have k14 : World.cell? (w.alloc (.cells (evC e a1 a2 a3 c1 c2 c3) 30)) ⟨w.heap.size, 14, none⟩ = some (.int .i64 e.conf.min) := evC_cell HK0.out 14 _ rfl
  have k15 : World.cell? (w.alloc (.cells (evC e a1 a2 a3 c1 c2 c3) 30)) ⟨w.heap.size, 15, none⟩ = some (.int .i64 e.conf.max) := evC_cell HK0.out 15 _ rfl
  have k16 : World.cell? (w.alloc (.cells (evC e a1 a2 a3 c1 c2 c3) 30)) ⟨w.heap.size, 16, none⟩ = some (.int .i64 e.conf.rate) := evC_cell HK0.out 16 _ rfl
  have k17 : World.cell? (w.alloc (.cells (evC e a1 a2 a3 c1 c2 c3) 30)) ⟨w.heap.size, 17, none⟩ = some (.int .i64 e.conf.stable) := evC_cell HK0.out 17 _ rfl
  have k18 : World.cell? (w.alloc (.cells (evC e a1 a2 a3 c1 c2 c3) 30)) ⟨w.heap.size, 18, none⟩ = some (.int .i64 e.conf.cap) := evC_cell HK0.out 18 _ rfl
  have k19 : World.cell? (w.alloc (.cells (evC e a1 a2 a3 c1 c2 c3) 30)) ⟨w.heap.size, 19, none⟩ = some (.int .i64 e.conf.delay) := evC_cell HK0.out 19 _ rfl
  have k20 : World.cell? (w.alloc (.cells (evC e a1 a2 a3 c1 c2 c3) 30)) ⟨w.heap.size, 20, none⟩ = some (.int .i64 e.conf.slack) := evC_cell HK0.out 20 _ rfl
  have k21 : World.cell? (w.alloc (.cells (evC e a1 a2 a3 c1 c2 c3) 30)) ⟨w.heap.size, 21, none⟩ = some (.int .i64 e.conf.window) := evC_cell HK0.out 21 _ rfl
  have k22 : World.cell? (w.alloc (.cells (evC e a1 a2 a3 c1 c2 c3) 30)) ⟨w.heap.size, 22, none⟩ = some (.int .i64 e.conf.margin) := evC_cell HK0.out 22 _ rfl
  have k23 : World.cell? (w.alloc (.cells (evC e a1 a2 a3 c1 c2 c3) 30)) ⟨w.heap.size, 23, none⟩ = some (.int .i64 e.conf.ceil) := evC_cell HK0.out 23 _ rfl
  have k24 : World.cell? (w.alloc (.cells (evC e a1 a2 a3 c1 c2 c3) 30)) ⟨w.heap.size, 24, none⟩ = some (.int .i64 e.conf.probe) := evC_cell HK0.out 24 _ rfl
  have k25 : World.cell? (w.alloc (.cells (evC e a1 a2 a3 c1 c2 c3) 30)) ⟨w.heap.size, 25, none⟩ = some (.int .i64 e.conf.breach) := evC_cell HK0.out 25 _ rfl
  have k26 : World.cell? (w.alloc (.cells (evC e a1 a2 a3 c1 c2 c3) 30)) ⟨w.heap.size, 26, none⟩ = some (.slice a3 e.body.length c3) := evC_cell HK0.out 26 _ rfl
  have HKK := Lib.hid hkk
  clear hkk
  unfold evV
  go_enter Try.func10, Try.ntmps10
  go_upto_region 1 with fail
  go_cut [3] from 6 to 13 (fun v wx => v = .bool (smpR e) ∧ wx = w.alloc (.cells (evC e a1 a2 a3 c1 c2 c3) 30))
  case first =>
    by_cases h : e.util = 0
    rotate_left
    · have d : (e.util == 0) = false := by simpa using h
      have HH := Lib.hid h
      clear h
      go_wp2_with fail
      go_meet
      case rel => exact ⟨congrArg Value.bool (decide_eq_false (fun h => HH.out h.1)).symm, rfl⟩
    have d : (e.util == 0) = true := by simp [h]
    have H0 := Lib.hid h
    clear h
    by_cases h : e.demand = 0
    rotate_left
    · have d1 : (e.demand == 0) = false := by simpa using h
      have HH := Lib.hid h
      clear h
      go_wp2_with fail
      go_meet
      case rel => exact ⟨congrArg Value.bool (decide_eq_false (fun h => HH.out h.2)).symm, rfl⟩
    have d1 : (e.demand == 0) = true := by simp [h]
    have H1 := Lib.hid h
    clear h
    go_wp2_with fail
    go_meet
    case rel => exact ⟨congrArg Value.bool (decide_eq_true ⟨H0.out, H1.out⟩).symm, rfl⟩
  case rest =>
    obtain ⟨rfl, rfl⟩ := hcut
    generalize hS : smpR e = sS at *
    have HS := Lib.hid hS
    clear hS
    clear k1 k2
    go_upto_region 2 with fail
    go_cut [4] from 14 to 28 (fun v wx => v = .bool (rstR e) ∧ Below w.heap.size w wx ∧ wx.heap[w.heap.size]? = some (.cells (evC e a1 a2 a3 c1 c2 c3) 30 (0, 0)))
    case first =>
      go_wp2_with fail
      refine (dzero_any e.pol a1 a2 c1 c2 _).mono ?_
      rintro r y1 ⟨rfl, hb⟩
      clear k6 k7 k8 k9 k10 k11 k12 k13 k14 k15 k16 k17 k18 k19 k20 k21 k22 k23 k24 k25 k26
      have HB1 := Lib.hid (bel2 HB0.out hb)
      have HK1 := Lib.hid ((hb.block _ (lt_of_heap HK0.out)).trans HK0.out)
      clear hb
      have k14 : World.cell? (y1) ⟨w.heap.size, 14, none⟩ = some (.int .i64 e.conf.min) := evC_cell HK1.out 14 _ rfl
      have k15 : World.cell? (y1) ⟨w.heap.size, 15, none⟩ = some (.int .i64 e.conf.max) := evC_cell HK1.out 15 _ rfl
      have k16 : World.cell? (y1) ⟨w.heap.size, 16, none⟩ = some (.int .i64 e.conf.rate) := evC_cell HK1.out 16 _ rfl
      have k17 : World.cell? (y1) ⟨w.heap.size, 17, none⟩ = some (.int .i64 e.conf.stable) := evC_cell HK1.out 17 _ rfl
      have k18 : World.cell? (y1) ⟨w.heap.size, 18, none⟩ = some (.int .i64 e.conf.cap) := evC_cell HK1.out 18 _ rfl
      have k19 : World.cell? (y1) ⟨w.heap.size, 19, none⟩ = some (.int .i64 e.conf.delay) := evC_cell HK1.out 19 _ rfl
      have k20 : World.cell? (y1) ⟨w.heap.size, 20, none⟩ = some (.int .i64 e.conf.slack) := evC_cell HK1.out 20 _ rfl
      have k21 : World.cell? (y1) ⟨w.heap.size, 21, none⟩ = some (.int .i64 e.conf.window) := evC_cell HK1.out 21 _ rfl
      have k22 : World.cell? (y1) ⟨w.heap.size, 22, none⟩ = some (.int .i64 e.conf.margin) := evC_cell HK1.out 22 _ rfl
      have k23 : World.cell? (y1) ⟨w.heap.size, 23, none⟩ = some (.int .i64 e.conf.ceil) := evC_cell HK1.out 23 _ rfl
      have k24 : World.cell? (y1) ⟨w.heap.size, 24, none⟩ = some (.int .i64 e.conf.probe) := evC_cell HK1.out 24 _ rfl
      have k25 : World.cell? (y1) ⟨w.heap.size, 25, none⟩ = some (.int .i64 e.conf.breach) := evC_cell HK1.out 25 _ rfl
      have k26 : World.cell? (y1) ⟨w.heap.size, 26, none⟩ = some (.slice a3 e.body.length c3) := evC_cell HK1.out 26 _ rfl
      cases hx : zeroR e.pol
      · have HX := Lib.hid hx
        clear hx
        go_wp2_with fail
        go_meet
        case rel => exact ⟨congrArg Value.bool (by unfold rstR; rw [HX.out]; rfl), HB1.out, HK1.out⟩
      have HX := Lib.hid hx
      clear hx
      by_cases h : e.conf.min = 0
      rotate_left
      · have dz0 : (e.conf.min == 0) = false := by simpa using h
        have HH : Hid (cfZero e.conf = false) := decide_eq_false (fun h2 => h (by omega))
        clear h
        go_wp2_with fail
        go_meet
        case rel => exact ⟨congrArg Value.bool (by unfold rstR; rw [HX.out, HH.out]; rfl), HB1.out, HK1.out⟩
      have dz0 : (e.conf.min == 0) = true := by simp [h]
      have Z0 := Lib.hid h
      clear h
      by_cases h : e.conf.max = 0
      rotate_left
      · have dz1 : (e.conf.max == 0) = false := by simpa using h
        have HH : Hid (cfZero e.conf = false) := decide_eq_false (fun h2 => h (by omega))
        clear h
        go_wp2_with fail
        go_meet
        case rel => exact ⟨congrArg Value.bool (by unfold rstR; rw [HX.out, HH.out]; rfl), HB1.out, HK1.out⟩
      have dz1 : (e.conf.max == 0) = true := by simp [h]
      have Z1 := Lib.hid h
      clear h
      by_cases h : e.conf.rate = 0
      rotate_left
      · have dz2 : (e.conf.rate == 0) = false := by simpa using h
        have HH : Hid (cfZero e.conf = false) := decide_eq_false (fun h2 => h (by omega))
        clear h
        go_wp2_with fail
        go_meet
        case rel => exact ⟨congrArg Value.bool (by unfold rstR; rw [HX.out, HH.out]; rfl), HB1.out, HK1.out⟩
      have dz2 : (e.conf.rate == 0) = true := by simp [h]
      have Z2 := Lib.hid h
      clear h
      by_cases h : e.conf.stable = 0
      rotate_left
      · have dz3 : (e.conf.stable == 0) = false := by simpa using h
        have HH : Hid (cfZero e.conf = false) := decide_eq_false (fun h2 => h (by omega))
        clear h
        go_wp2_with fail
        go_meet
        case rel => exact ⟨congrArg Value.bool (by unfold rstR; rw [HX.out, HH.out]; rfl), HB1.out, HK1.out⟩
      have dz3 : (e.conf.stable == 0) = true := by simp [h]
      have Z3 := Lib.hid h
      clear h
      by_cases h : e.conf.cap = 0
      rotate_left
      · have dz4 : (e.conf.cap == 0) = false := by simpa using h
        have HH : Hid (cfZero e.conf = false) := decide_eq_false (fun h2 => h (by omega))
        clear h
        go_wp2_with fail
        go_meet
        case rel => exact ⟨congrArg Value.bool (by unfold rstR; rw [HX.out, HH.out]; rfl), HB1.out, HK1.out⟩
      have dz4 : (e.conf.cap == 0) = true := by simp [h]
      have Z4 := Lib.hid h
      clear h
      by_cases h : e.conf.delay = 0
      rotate_left
      · have dz5 : (e.conf.delay == 0) = false := by simpa using h
        have HH : Hid (cfZero e.conf = false) := decide_eq_false (fun h2 => h (by omega))
        clear h
        go_wp2_with fail
        go_meet
        case rel => exact ⟨congrArg Value.bool (by unfold rstR; rw [HX.out, HH.out]; rfl), HB1.out, HK1.out⟩
      have dz5 : (e.conf.delay == 0) = true := by simp [h]
      have Z5 := Lib.hid h
      clear h
      by_cases h : e.conf.slack = 0
      rotate_left
      · have dz6 : (e.conf.slack == 0) = false := by simpa using h
        have HH : Hid (cfZero e.conf = false) := decide_eq_false (fun h2 => h (by omega))
        clear h
        go_wp2_with fail
        go_meet
        case rel => exact ⟨congrArg Value.bool (by unfold rstR; rw [HX.out, HH.out]; rfl), HB1.out, HK1.out⟩
      have dz6 : (e.conf.slack == 0) = true := by simp [h]
      have Z6 := Lib.hid h
      clear h
      by_cases h : e.conf.window = 0
      rotate_left
      · have dz7 : (e.conf.window == 0) = false := by simpa using h
        have HH : Hid (cfZero e.conf = false) := decide_eq_false (fun h2 => h (by omega))
        clear h
        go_wp2_with fail
        go_meet
        case rel => exact ⟨congrArg Value.bool (by unfold rstR; rw [HX.out, HH.out]; rfl), HB1.out, HK1.out⟩
      have dz7 : (e.conf.window == 0) = true := by simp [h]
      have Z7 := Lib.hid h
      clear h
      by_cases h : e.conf.margin = 0
      rotate_left
      · have dz8 : (e.conf.margin == 0) = false := by simpa using h
        have HH : Hid (cfZero e.conf = false) := decide_eq_false (fun h2 => h (by omega))
        clear h
        go_wp2_with fail
        go_meet
        case rel => exact ⟨congrArg Value.bool (by unfold rstR; rw [HX.out, HH.out]; rfl), HB1.out, HK1.out⟩
      have dz8 : (e.conf.margin == 0) = true := by simp [h]
      have Z8 := Lib.hid h
      clear h
      by_cases h : e.conf.ceil = 0
      rotate_left
      · have dz9 : (e.conf.ceil == 0) = false := by simpa using h
        have HH : Hid (cfZero e.conf = false) := decide_eq_false (fun h2 => h (by omega))
        clear h
        go_wp2_with fail
        go_meet
        case rel => exact ⟨congrArg Value.bool (by unfold rstR; rw [HX.out, HH.out]; rfl), HB1.out, HK1.out⟩
      have dz9 : (e.conf.ceil == 0) = true := by simp [h]
      have Z9 := Lib.hid h
      clear h
      by_cases h : e.conf.probe = 0
      rotate_left
      · have dz10 : (e.conf.probe == 0) = false := by simpa using h
        have HH : Hid (cfZero e.conf = false) := decide_eq_false (fun h2 => h (by omega))
        clear h
        go_wp2_with fail
        go_meet
        case rel => exact ⟨congrArg Value.bool (by unfold rstR; rw [HX.out, HH.out]; rfl), HB1.out, HK1.out⟩
      have dz10 : (e.conf.probe == 0) = true := by simp [h]
      have Z10 := Lib.hid h
      clear h
      by_cases h : e.conf.breach = 0
      rotate_left
      · have dz11 : (e.conf.breach == 0) = false := by simpa using h
        have HH : Hid (cfZero e.conf = false) := decide_eq_false (fun h2 => h (by omega))
        clear h
        go_wp2_with fail
        go_meet
        case rel => exact ⟨congrArg Value.bool (by unfold rstR; rw [HX.out, HH.out]; rfl), HB1.out, HK1.out⟩
      have dz11 : (e.conf.breach == 0) = true := by simp [h]
      have Z11 := Lib.hid h
      clear h
      have HC : Hid (cfZero e.conf = true) := decide_eq_true ⟨Z0.out, Z1.out, Z2.out, Z3.out, Z4.out, Z5.out, Z6.out, Z7.out, Z8.out, Z9.out, Z10.out, Z11.out⟩
      by_cases h : e.body.length = 0
      rotate_left
      · have d : ((e.body.length : Int) == 0) = false := by simpa using h
        have HH := Lib.hid h
        clear h
        go_wp2_with fail
        go_meet
        case rel => exact ⟨congrArg Value.bool (by unfold rstR; rw [HX.out, HC.out, decide_eq_false HH.out]; rfl), HB1.out, HK1.out⟩
      have d : ((e.body.length : Int) == 0) = true := by simp [h]
      have HH := Lib.hid h
      clear h
      go_wp2_with fail
      go_meet
      case rel => exact ⟨congrArg Value.bool (by unfold rstR; rw [HX.out, HC.out, decide_eq_true HH.out]; rfl), HB1.out, HK1.out⟩
    case rest =>
      obtain ⟨rfl, hbc, hkc⟩ := hcut
      clear k6 k7 k8 k9 k10 k11 k12 k13 k14 k15 k16 k17 k18 k19 k20 k21 k22 k23 k24 k25 k26
      have HBC := Lib.hid hbc
      have HKC := Lib.hid hkc
      clear hbc hkc HB0 HK0
      generalize hR : rstR e = sR at *
      have HR := Lib.hid hR
      clear hR
      have hkk := HKK.out
      clear HKK
      rcases hkk with hk | hk | hk
      · have HI := Lib.hid (dright_is6 hk)
        have k0 : World.cell? (wc) ⟨w.heap.size, 0, none⟩ = some (.int .i64 e.kind) := evC_cell HKC.out 0 _ rfl
        have k3 : World.cell? (wc) ⟨w.heap.size, 3, none⟩ = some (.int .i64 e.t) := evC_cell HKC.out 3 _ rfl
        have k4 : World.cell? (wc) ⟨w.heap.size, 4, none⟩ = some (.int .i64 e.id) := evC_cell HKC.out 4 _ rfl
        have k5 : World.cell? (wc) ⟨w.heap.size, 5, none⟩ = some (.int .i64 e.n) := evC_cell HKC.out 5 _ rfl
        cases sR
        · have HH : Hid (¬ (rstR e = true)) := fun h => by rw [HR.out] at h; cases h
          go_wp2
          go_ret
          refine ⟨ret_bool (Bool.eq_false_iff.2 (fun h => HH.out (HI.out.1 h).1)).symm, HBC.out⟩
        have H0 := Lib.hid HR.out
        cases sS
        · have HH : Hid (¬ (smpR e = true)) := fun h => by rw [HS.out] at h; cases h
          go_wp2
          go_ret
          refine ⟨ret_bool (Bool.eq_false_iff.2 (fun h => HH.out (HI.out.1 h).2.1)).symm, HBC.out⟩
        have H1 := Lib.hid HS.out
        by_cases h : e.t = 0
        rotate_left
        · have d2 : (e.t == 0) = false := by simpa using h
          have HH := Lib.hid h
          clear h
          go_wp2
          go_ret
          refine ⟨ret_bool (Bool.eq_false_iff.2 (fun h => HH.out (HI.out.1 h).2.2.1)).symm, HBC.out⟩
        have d2 : (e.t == 0) = true := by simp [h]
        have H2 := Lib.hid h
        clear h
        by_cases h : e.n = 0
        rotate_left
        · have d3 : (e.n == 0) = false := by simpa using h
          have HH := Lib.hid h
          clear h
          go_wp2
          go_ret
          refine ⟨ret_bool (Bool.eq_false_iff.2 (fun h => HH.out (HI.out.1 h).2.2.2.1)).symm, HBC.out⟩
        have d3 : (e.n == 0) = true := by simp [h]
        have H3 := Lib.hid h
        clear h
        by_cases h : 0 ≤ e.id
        rotate_left
        · have d4 : decide (0 ≤ e.id) = false := decide_eq_false h
          have HH : Hid (¬ (0 ≤ e.id)) := h
          clear h
          go_wp2
          go_ret
          refine ⟨ret_bool (Bool.eq_false_iff.2 (fun h => by have h2 := (HI.out.1 h).2.2.2.2.1; have := HH.out; omega)).symm, HBC.out⟩
        have d4 : decide (0 ≤ e.id) = true := decide_eq_true h
        have H4 := Lib.hid h
        clear h
        by_cases h : e.id ≤ 3
        rotate_left
        · have d5 : decide (e.id ≤ 3) = false := decide_eq_false h
          have HH : Hid (¬ (e.id ≤ 3)) := h
          clear h
          go_wp2
          go_ret
          refine ⟨ret_bool (Bool.eq_false_iff.2 (fun h => by have h2 := (HI.out.1 h).2.2.2.2.2; have := HH.out; omega)).symm, HBC.out⟩
        have d5 : decide (e.id ≤ 3) = true := decide_eq_true h
        have H5 := Lib.hid h
        clear h
        go_wp2
        go_ret
        exact ⟨ret_bool (HI.out.2 ⟨H0.out, H1.out, H2.out, H3.out, H4.out, H5.out⟩).symm, HBC.out⟩
      · have HI := Lib.hid (dright_is7 hk)
        have k0 : World.cell? (wc) ⟨w.heap.size, 0, none⟩ = some (.int .i64 e.kind) := evC_cell HKC.out 0 _ rfl
        have k3 : World.cell? (wc) ⟨w.heap.size, 3, none⟩ = some (.int .i64 e.t) := evC_cell HKC.out 3 _ rfl
        have k4 : World.cell? (wc) ⟨w.heap.size, 4, none⟩ = some (.int .i64 e.id) := evC_cell HKC.out 4 _ rfl
        have k5 : World.cell? (wc) ⟨w.heap.size, 5, none⟩ = some (.int .i64 e.n) := evC_cell HKC.out 5 _ rfl
        cases sR
        · have HH : Hid (¬ (rstR e = true)) := fun h => by rw [HR.out] at h; cases h
          go_wp2
          go_ret
          refine ⟨ret_bool (Bool.eq_false_iff.2 (fun h => HH.out (HI.out.1 h).1)).symm, HBC.out⟩
        have H0 := Lib.hid HR.out
        cases sS
        · have HH : Hid (¬ (smpR e = true)) := fun h => by rw [HS.out] at h; cases h
          go_wp2
          go_ret
          refine ⟨ret_bool (Bool.eq_false_iff.2 (fun h => HH.out (HI.out.1 h).2.1)).symm, HBC.out⟩
        have H1 := Lib.hid HS.out
        by_cases h : e.t = 0
        rotate_left
        · have d2 : (e.t == 0) = false := by simpa using h
          have HH := Lib.hid h
          clear h
          go_wp2
          go_ret
          refine ⟨ret_bool (Bool.eq_false_iff.2 (fun h => HH.out (HI.out.1 h).2.2.1)).symm, HBC.out⟩
        have d2 : (e.t == 0) = true := by simp [h]
        have H2 := Lib.hid h
        clear h
        by_cases h : e.n = 0
        rotate_left
        · have d3 : (e.n == 0) = false := by simpa using h
          have HH := Lib.hid h
          clear h
          go_wp2
          go_ret
          refine ⟨ret_bool (Bool.eq_false_iff.2 (fun h => HH.out (HI.out.1 h).2.2.2.1)).symm, HBC.out⟩
        have d3 : (e.n == 0) = true := by simp [h]
        have H3 := Lib.hid h
        clear h
        by_cases h : 0 ≤ e.id
        rotate_left
        · have d4 : decide (0 ≤ e.id) = false := decide_eq_false h
          have HH : Hid (¬ (0 ≤ e.id)) := h
          clear h
          go_wp2
          go_ret
          refine ⟨ret_bool (Bool.eq_false_iff.2 (fun h => by have h2 := (HI.out.1 h).2.2.2.2.1; have := HH.out; omega)).symm, HBC.out⟩
        have d4 : decide (0 ≤ e.id) = true := decide_eq_true h
        have H4 := Lib.hid h
        clear h
        by_cases h : e.id ≤ 3
        rotate_left
        · have d5 : decide (e.id ≤ 3) = false := decide_eq_false h
          have HH : Hid (¬ (e.id ≤ 3)) := h
          clear h
          go_wp2
          go_ret
          refine ⟨ret_bool (Bool.eq_false_iff.2 (fun h => by have h2 := (HI.out.1 h).2.2.2.2.2; have := HH.out; omega)).symm, HBC.out⟩
        have d5 : decide (e.id ≤ 3) = true := decide_eq_true h
        have H5 := Lib.hid h
        clear h
        go_wp2
        go_ret
        exact ⟨ret_bool (HI.out.2 ⟨H0.out, H1.out, H2.out, H3.out, H4.out, H5.out⟩).symm, HBC.out⟩
      · have HI := Lib.hid (dright_is4 hk)
        have k0 : World.cell? (wc) ⟨w.heap.size, 0, none⟩ = some (.int .i64 e.kind) := evC_cell HKC.out 0 _ rfl
        have k14 : World.cell? (wc) ⟨w.heap.size, 14, none⟩ = some (.int .i64 e.conf.min) := evC_cell HKC.out 14 _ rfl
        have k15 : World.cell? (wc) ⟨w.heap.size, 15, none⟩ = some (.int .i64 e.conf.max) := evC_cell HKC.out 15 _ rfl
        have k16 : World.cell? (wc) ⟨w.heap.size, 16, none⟩ = some (.int .i64 e.conf.rate) := evC_cell HKC.out 16 _ rfl
        have k17 : World.cell? (wc) ⟨w.heap.size, 17, none⟩ = some (.int .i64 e.conf.stable) := evC_cell HKC.out 17 _ rfl
        have k18 : World.cell? (wc) ⟨w.heap.size, 18, none⟩ = some (.int .i64 e.conf.cap) := evC_cell HKC.out 18 _ rfl
        have k19 : World.cell? (wc) ⟨w.heap.size, 19, none⟩ = some (.int .i64 e.conf.delay) := evC_cell HKC.out 19 _ rfl
        have k20 : World.cell? (wc) ⟨w.heap.size, 20, none⟩ = some (.int .i64 e.conf.slack) := evC_cell HKC.out 20 _ rfl
        have k21 : World.cell? (wc) ⟨w.heap.size, 21, none⟩ = some (.int .i64 e.conf.window) := evC_cell HKC.out 21 _ rfl
        have k22 : World.cell? (wc) ⟨w.heap.size, 22, none⟩ = some (.int .i64 e.conf.margin) := evC_cell HKC.out 22 _ rfl
        have k23 : World.cell? (wc) ⟨w.heap.size, 23, none⟩ = some (.int .i64 e.conf.ceil) := evC_cell HKC.out 23 _ rfl
        have k24 : World.cell? (wc) ⟨w.heap.size, 24, none⟩ = some (.int .i64 e.conf.probe) := evC_cell HKC.out 24 _ rfl
        have k25 : World.cell? (wc) ⟨w.heap.size, 25, none⟩ = some (.int .i64 e.conf.breach) := evC_cell HKC.out 25 _ rfl
        have k3 : World.cell? (wc) ⟨w.heap.size, 3, none⟩ = some (.int .i64 e.t) := evC_cell HKC.out 3 _ rfl
        have k4 : World.cell? (wc) ⟨w.heap.size, 4, none⟩ = some (.int .i64 e.id) := evC_cell HKC.out 4 _ rfl
        have k5 : World.cell? (wc) ⟨w.heap.size, 5, none⟩ = some (.int .i64 e.n) := evC_cell HKC.out 5 _ rfl
        have k6 : World.cell? (wc) ⟨w.heap.size, 6, none⟩ = some (.int .i64 e.pol.kind) := evC_cell HKC.out 6 _ rfl
        have k7 : World.cell? (wc) ⟨w.heap.size, 7, none⟩ = some (.int .i64 e.pol.target) := evC_cell HKC.out 7 _ rfl
        have k8 : World.cell? (wc) ⟨w.heap.size, 8, none⟩ = some (.slice a1 e.pol.bands.length c1) := evC_cell HKC.out 8 _ rfl
        have k9 : World.cell? (wc) ⟨w.heap.size, 9, none⟩ = some (.int .i64 e.pol.kp) := evC_cell HKC.out 9 _ rfl
        have k10 : World.cell? (wc) ⟨w.heap.size, 10, none⟩ = some (.int .i64 e.pol.ki) := evC_cell HKC.out 10 _ rfl
        have k11 : World.cell? (wc) ⟨w.heap.size, 11, none⟩ = some (.int .i64 e.pol.kd) := evC_cell HKC.out 11 _ rfl
        have k12 : World.cell? (wc) ⟨w.heap.size, 12, none⟩ = some (.int .i64 e.pol.period) := evC_cell HKC.out 12 _ rfl
        have k13 : World.cell? (wc) ⟨w.heap.size, 13, none⟩ = some (.slice a2 e.pol.slots.length c2) := evC_cell HKC.out 13 _ rfl
        have k26 : World.cell? (wc) ⟨w.heap.size, 26, none⟩ = some (.slice a3 e.body.length c3) := evC_cell HKC.out 26 _ rfl
        go_wp2_with fail
        refine (dconf_any e.conf _).mono ?_
        rintro r y1 ⟨rfl, hb⟩
        clear k0 k14 k15 k16 k17 k18 k19 k20 k21 k22 k23 k24 k25 k3 k4 k5 k6 k7 k8 k9 k10 k11 k12 k13 k26
        have HB1 := Lib.hid (bel2 HBC.out hb)
        have HK1 := Lib.hid ((hb.block _ (lt_of_heap HKC.out)).trans HKC.out)
        clear hb
        have k0 : World.cell? (y1) ⟨w.heap.size, 0, none⟩ = some (.int .i64 e.kind) := evC_cell HK1.out 0 _ rfl
        have k3 : World.cell? (y1) ⟨w.heap.size, 3, none⟩ = some (.int .i64 e.t) := evC_cell HK1.out 3 _ rfl
        have k4 : World.cell? (y1) ⟨w.heap.size, 4, none⟩ = some (.int .i64 e.id) := evC_cell HK1.out 4 _ rfl
        have k5 : World.cell? (y1) ⟨w.heap.size, 5, none⟩ = some (.int .i64 e.n) := evC_cell HK1.out 5 _ rfl
        have k6 : World.cell? (y1) ⟨w.heap.size, 6, none⟩ = some (.int .i64 e.pol.kind) := evC_cell HK1.out 6 _ rfl
        have k7 : World.cell? (y1) ⟨w.heap.size, 7, none⟩ = some (.int .i64 e.pol.target) := evC_cell HK1.out 7 _ rfl
        have k8 : World.cell? (y1) ⟨w.heap.size, 8, none⟩ = some (.slice a1 e.pol.bands.length c1) := evC_cell HK1.out 8 _ rfl
        have k9 : World.cell? (y1) ⟨w.heap.size, 9, none⟩ = some (.int .i64 e.pol.kp) := evC_cell HK1.out 9 _ rfl
        have k10 : World.cell? (y1) ⟨w.heap.size, 10, none⟩ = some (.int .i64 e.pol.ki) := evC_cell HK1.out 10 _ rfl
        have k11 : World.cell? (y1) ⟨w.heap.size, 11, none⟩ = some (.int .i64 e.pol.kd) := evC_cell HK1.out 11 _ rfl
        have k12 : World.cell? (y1) ⟨w.heap.size, 12, none⟩ = some (.int .i64 e.pol.period) := evC_cell HK1.out 12 _ rfl
        have k13 : World.cell? (y1) ⟨w.heap.size, 13, none⟩ = some (.slice a2 e.pol.slots.length c2) := evC_cell HK1.out 13 _ rfl
        have k26 : World.cell? (y1) ⟨w.heap.size, 26, none⟩ = some (.slice a3 e.body.length c3) := evC_cell HK1.out 26 _ rfl
        cases hx : confR e.conf
        · have HH : Hid (¬ (confR e.conf = true)) := fun h => by rw [hx] at h; cases h
          clear hx
          go_wp2
          go_ret
          refine ⟨ret_bool (Bool.eq_false_iff.2 (fun h => HH.out (HI.out.1 h).1)).symm, HB1.out⟩
        have H0 := Lib.hid hx
        clear hx
        cases sS
        · have HH : Hid (¬ (smpR e = true)) := fun h => by rw [HS.out] at h; cases h
          go_wp2
          go_ret
          refine ⟨ret_bool (Bool.eq_false_iff.2 (fun h => HH.out (HI.out.1 h).2.1)).symm, HB1.out⟩
        have H1 := Lib.hid HS.out
        by_cases h : e.t = 0
        rotate_left
        · have d2 : (e.t == 0) = false := by simpa using h
          have HH := Lib.hid h
          clear h
          go_wp2
          go_ret
          refine ⟨ret_bool (Bool.eq_false_iff.2 (fun h => HH.out (HI.out.1 h).2.2.1)).symm, HB1.out⟩
        have d2 : (e.t == 0) = true := by simp [h]
        have H2 := Lib.hid h
        clear h
        by_cases h : e.id = 0
        rotate_left
        · have d3 : (e.id == 0) = false := by simpa using h
          have HH := Lib.hid h
          clear h
          go_wp2
          go_ret
          refine ⟨ret_bool (Bool.eq_false_iff.2 (fun h => HH.out (HI.out.1 h).2.2.2.1)).symm, HB1.out⟩
        have d3 : (e.id == 0) = true := by simp [h]
        have H3 := Lib.hid h
        clear h
        by_cases h : e.n = 0
        rotate_left
        · have d4 : (e.n == 0) = false := by simpa using h
          have HH := Lib.hid h
          clear h
          go_wp2
          go_ret
          refine ⟨ret_bool (Bool.eq_false_iff.2 (fun h => HH.out (HI.out.1 h).2.2.2.2.1)).symm, HB1.out⟩
        have d4 : (e.n == 0) = true := by simp [h]
        have H4 := Lib.hid h
        clear h
        go_wp2_with fail
        refine (dzero_any e.pol a1 a2 c1 c2 _).mono ?_
        rintro r y2 ⟨rfl, hb⟩
        clear k0 k3 k4 k5 k6 k7 k8 k9 k10 k11 k12 k13 k26
        have HB2 := Lib.hid (bel2 HB1.out hb)
        have HK2 := Lib.hid ((hb.block _ (lt_of_heap HK1.out)).trans HK1.out)
        clear hb
        have k26 : World.cell? (y2) ⟨w.heap.size, 26, none⟩ = some (.slice a3 e.body.length c3) := evC_cell HK2.out 26 _ rfl
        cases hx : zeroR e.pol
        · have HH : Hid (¬ (zeroR e.pol = true)) := fun h => by rw [hx] at h; cases h
          clear hx
          go_wp2
          go_ret
          refine ⟨ret_bool (Bool.eq_false_iff.2 (fun h => HH.out (HI.out.1 h).2.2.2.2.2.1)).symm, HB2.out⟩
        have H5 := Lib.hid hx
        clear hx
        by_cases h : e.body.length = 0
        rotate_left
        · have d6 : ((e.body.length : Int) == 0) = false := by simpa using h
          have HH := Lib.hid h
          clear h
          go_wp2
          go_ret
          refine ⟨ret_bool (Bool.eq_false_iff.2 (fun h => HH.out (HI.out.1 h).2.2.2.2.2.2)).symm, HB2.out⟩
        have d6 : ((e.body.length : Int) == 0) = true := by simp [h]
        have H6 := Lib.hid h
        clear h
        go_wp2
        go_ret
        exact ⟨ret_bool (HI.out.2 ⟨H0.out, H1.out, H2.out, H3.out, H4.out, H5.out, H6.out⟩).symm, HB2.out⟩
end
end Go.Proofs.Ytnpakjdgcmbcnaa
