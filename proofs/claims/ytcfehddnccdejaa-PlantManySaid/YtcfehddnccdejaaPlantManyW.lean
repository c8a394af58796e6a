/- PlantMany: the walk. -/
import Derived.Test.YtcfehddnccdejaaQlI
import Derived.Test.YtcfehddnccdejaaQlJ
import Derived.Deep.RegionHeld
import Derived.Deep.CutRange
import Derived.Lib.MinMax
namespace Go.Proofs.Ytcfehddnccdejaa
set_option linter.unusedSimpArgs false
set_option linter.unusedVariables false
open Go.RowKit
open Wir Evn Lim Plt
attribute [local go_sem] Oper.semAt_some

set_option maxRecDepth 100000 in
set_option maxHeartbeats 3200000 in
theorem plantMany_walk (c : Cf) (p : Pt) (a : Option Addr) (k : Nat) (m d : Int) (b16 : -32768 ≤ m ∧ m ≤ 32767) (w : World) (hr : SRw w a k p.start) :
    Calls Try.prog 4 #[cfV c, ptV p a k, .int .i16 m, .int .i64 d] w fun r w' => r = .returned (.bool true) ∧ Below w.heap.size w w' := by
  obtain ⟨hB, hP, hX⟩ := boxes w c p a k hr
  obtain ⟨x, hx⟩ : ∃ x, x = (w.alloc (.cells #[.int .i64 c.min, .int .i64 c.max, .int .i64 c.rate, .int .i64 c.stable, .int .i64 c.cap, .int .i64 c.delay, .int .i64 c.slack, .int .i64 c.window, .int .i64 c.margin, .int .i64 c.ceil, .int .i64 c.probe, .int .i64 c.breach] 23)).alloc (.cells #[.int .i64 p.ready, .slice a p.start.length k, .int .i64 p.wait, .int .i64 p.util] 26) := ⟨_, rfl⟩
  rw [← hx] at hB hP hX
  have HB := Lib.hid hB
  have HP := Lib.hid hP
  have X0 := Lib.hid hX
  have HX := Lib.hid hx
  clear hB hP hX hx hr
  unfold cfV ptV
  go_enter Try.func4, Try.ntmps4
  go_wp2_with fail
  rw [← HX.out]
  refine (qhead_any _).mono ?_
  rintro r w1 ⟨rfl, b⟩
  clear HX
  have HP := Lib.hid (HP.out.on b)
  have X0 := Lib.hid (X0.out.on b)
  have HB := Lib.hid (bel2 HB.out b)
  clear b
  go_wp2_with (first
    | (refine wpList_load_rowG (by first | rfl | kernel_rfl | (simp [Region.wanted, yielded])) 23 (.tmp 4) (by rfl) (w.heap.size) (by rfl) 23 _ (0, 0) _ HP.out Try.underlying23 (by rfl) (by kernel_rfl) ?_)
    | fail)
  refine (dconf_any c _).mono ?_
  rintro r w2 ⟨rfl, b⟩
  have HP := Lib.hid (HP.out.on b)
  have X0 := Lib.hid (X0.out.on b)
  have HB := Lib.hid (bel2 HB.out b)
  clear b
  cases hc9 : confR c
  · clear hc9
    go_wp2
    go_ret
    exact ⟨rfl, HB.out⟩
  have HC := Lib.hid hc9
  clear hc9
  have q0 : w2.cell? ⟨w.heap.size + 1, 0, none⟩ = some (.int .i64 p.ready) := (PtAt.c X0.out.at_).1
  have q1 : w2.cell? ⟨w.heap.size + 1, 1, none⟩ = some (.slice a p.start.length k) := (PtAt.c X0.out.at_).2.1
  have q2 : w2.cell? ⟨w.heap.size + 1, 2, none⟩ = some (.int .i64 p.wait) := (PtAt.c X0.out.at_).2.2.1
  have q3 : w2.cell? ⟨w.heap.size + 1, 3, none⟩ = some (.int .i64 p.util) := (PtAt.c X0.out.at_).2.2.2
  by_cases h8 : 8 < p.start.length
  · have h8' : (8 : Int) < (p.start.length : Int) := by omega
    go_wp2
    go_ret
    exact ⟨rfl, HB.out⟩
  have h8' : decide ((8 : Int) < (p.start.length : Int)) = false := decide_eq_false (by omega)
  clear h8
  go_wp2_with fail
  refine (rtright_any X0.out.row).mono ?_
  rintro r w3 ⟨rfl, b⟩
  have HP := Lib.hid (HP.out.on b)
  have X0 := Lib.hid (X0.out.on b)
  have HB := Lib.hid (bel2 HB.out b)
  clear b
  clear q0 q1 q2 q3
  cases hk9 : okT p
  · clear hk9
    go_wp2
    go_ret
    exact ⟨rfl, HB.out⟩
  have HK := Lib.hid hk9
  clear hk9 h8'
  have wm : IntKind.i64.wrap m = m := by rw [IntKind.wrap_i64]; omega
  obtain ⟨N, hN⟩ : ∃ N, min (max m 0) 1000 = N := ⟨_, rfl⟩
  have hok := step_ok (CQ.of HC.out) (TOk.of HK.out) m d
  have hal := step_all (CQ.of HC.out) (TOk.of HK.out) m d
  rw [show rep m = N from hN] at hal
  obtain ⟨r1, l1, t1, u1, hP1⟩ : ∃ pr l pw pu, Plt.step c p m d = ⟨pr, l, pw, pu⟩ := ⟨_, _, _, _, rfl⟩
  rw [hP1] at hok hal
  obtain ⟨mb, hmb⟩ : ∃ b, decide (c.slack < t1) = b := ⟨_, rfl⟩
  have hM1 : Plt.mark c p m d = (N, mb) := by unfold Plt.mark; rw [hP1, hal]; simp only [hmb]
  have HP1 := Lib.hid hP1
  have HM1 := Lib.hid hM1
  have HOK := Lib.hid hok
  have HAL := Lib.hid hal
  have HMB := Lib.hid hmb
  clear hP1 hM1 hok hal hmb
  have q0 : w3.cell? ⟨w.heap.size + 1, 0, none⟩ = some (.int .i64 p.ready) := (PtAt.c X0.out.at_).1
  have q1 : w3.cell? ⟨w.heap.size + 1, 1, none⟩ = some (.slice a p.start.length k) := (PtAt.c X0.out.at_).2.1
  have q2 : w3.cell? ⟨w.heap.size + 1, 2, none⟩ = some (.int .i64 p.wait) := (PtAt.c X0.out.at_).2.2.1
  have q3 : w3.cell? ⟨w.heap.size + 1, 3, none⟩ = some (.int .i64 p.util) := (PtAt.c X0.out.at_).2.2.2
  go_wp2_with (first
    | (refine wpList_load_rowG (by first | rfl | kernel_rfl | (simp [Region.wanted, yielded])) 23 (.tmp 4) (by rfl) (w.heap.size) (by rfl) 23 _ (0, 0) _ HP.out Try.underlying23 (by rfl) (by kernel_rfl) ?_)
    | fail)
  refine (pstep_l p HK.out X0.out.row HC.out m d r1 l1 t1 u1 N mb l1.length HP1.out HM1.out rfl).mono ?_
  rintro r v1 ⟨a1, k1, rfl, hs2, ho2, b⟩
  have HO1 := Lib.hid ho2
  clear ho2
  have HP := Lib.hid (HP.out.on b)
  have X0 := Lib.hid (X0.out.on b)
  have HB := Lib.hid (bel2 HB.out b)
  clear b
  go_upto_region 5 with fail
  obtain ⟨b, hX, hM⟩ := two_new v1 r1 l1 t1 u1 a1 k1 N mb l1.length rfl hs2
  generalize hw9 : (v1.alloc (.cells #[.int .i64 r1, .slice a1 l1.length k1, .int .i64 t1, .int .i64 u1] 26)).alloc (.cells #[.int .i64 N, .bool mb] 31) = x1 at *
  have HP := Lib.hid (HP.out.on b)
  have X0 := Lib.hid (X0.out.on b)
  have HB := Lib.hid (bel2 HB.out b)
  clear b
  have X1 := Lib.hid hX
  have M1 := Lib.hid hM
  clear hX hM hs2 hw9
  clear q0 q1 q2 q3
  have hN9 := hN
  go_upto_region 6 with fail
  skip
  have q0 : x1.cell? ⟨v1.heap.size, 0, none⟩ = some (.int .i64 r1) := (PtAt.c X1.out.at_).1
  have q1 : x1.cell? ⟨v1.heap.size, 1, none⟩ = some (.slice a1 l1.length k1) := (PtAt.c X1.out.at_).2.1
  have q2 : x1.cell? ⟨v1.heap.size, 2, none⟩ = some (.int .i64 t1) := (PtAt.c X1.out.at_).2.2.1
  have q3 : x1.cell? ⟨v1.heap.size, 3, none⟩ = some (.int .i64 u1) := (PtAt.c X1.out.at_).2.2.2
  go_wp2_with fail
  refine (rtright_any (p := ⟨r1, l1, t1, u1⟩) X1.out.row).mono ?_
  rintro r y1 ⟨rfl, b⟩
  have HP := Lib.hid (HP.out.on b)
  have X1 := Lib.hid (X1.out.on b)
  have M1 := Lib.hid (M1.out.on b)
  have HB := Lib.hid (bel2 HB.out b)
  clear b
  clear q0 q1 q2 q3
  rw [HOK.out]
  have q0 : y1.cell? ⟨v1.heap.size, 0, none⟩ = some (.int .i64 r1) := (PtAt.c X1.out.at_).1
  have q1 : y1.cell? ⟨v1.heap.size, 1, none⟩ = some (.slice a1 l1.length k1) := (PtAt.c X1.out.at_).2.1
  have q2 : y1.cell? ⟨v1.heap.size, 2, none⟩ = some (.int .i64 t1) := (PtAt.c X1.out.at_).2.2.1
  have q3 : y1.cell? ⟨v1.heap.size, 3, none⟩ = some (.int .i64 u1) := (PtAt.c X1.out.at_).2.2.2
  go_wp2_with fail
  refine (pall_any (p := ⟨r1, l1, t1, u1⟩) (TOk.n (TOk.of HOK.out)) X1.out.row).mono ?_
  rintro r y2 ⟨rfl, b⟩
  have HP := Lib.hid (HP.out.on b)
  have X1 := Lib.hid (X1.out.on b)
  have M1 := Lib.hid (M1.out.on b)
  have HB := Lib.hid (bel2 HB.out b)
  clear b
  clear q0 q1 q2 q3
  rw [HAL.out]
  have q0 : y2.cell? ⟨v1.heap.size, 0, none⟩ = some (.int .i64 r1) := (PtAt.c X1.out.at_).1
  have q1 : y2.cell? ⟨v1.heap.size, 1, none⟩ = some (.slice a1 l1.length k1) := (PtAt.c X1.out.at_).2.1
  have q2 : y2.cell? ⟨v1.heap.size, 2, none⟩ = some (.int .i64 t1) := (PtAt.c X1.out.at_).2.2.1
  have q3 : y2.cell? ⟨v1.heap.size, 3, none⟩ = some (.int .i64 u1) := (PtAt.c X1.out.at_).2.2.2
  have m0 : y2.cell? ⟨v1.heap.size + 1, 0, none⟩ = some (.int .i64 N) := (MkAt.c M1.out).1
  have m1 : y2.cell? ⟨v1.heap.size + 1, 1, none⟩ = some (.bool mb) := (MkAt.c M1.out).2
  have hsl : y2.cell? ⟨w.heap.size, 6, none⟩ = some (.int .i64 c.slack) := (cell_of_row _ _ _ _ _ _ HP.out).trans rfl
  by_cases hs : c.slack < t1
  · obtain rfl : mb = true := HMB.out.symm.trans (decide_eq_true hs)
    go_wp2
    go_ret
    exact ⟨rfl, HB.out⟩
  · obtain rfl : mb = false := HMB.out.symm.trans (decide_eq_false hs)
    have hs3 : decide (c.slack < t1) = false := decide_eq_false hs
    clear hs
    go_wp2
    go_ret
    exact ⟨rfl, HB.out⟩
end Go.Proofs.Ytcfehddnccdejaa
