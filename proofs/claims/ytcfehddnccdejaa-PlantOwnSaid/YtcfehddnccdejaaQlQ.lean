/- The program's plant: within, New, work, withoutNoughts, slices.Clone, further. -/
import Derived.Test.YtcfehddnccdejaaQlE
import Derived.Test.YtcfehddnccdejaaApI
import Derived.Test.YtcfehddnccdejaaFxMd
import Derived.Test.YtcfehddnccdejaaFxOa
import Derived.Test.YtcfehddnccdejaaFxOb
import Derived.Deep.CutRange
import Derived.Deep.RegionHeld
import Derived.Lib.MinMax
import Derived.StillTailTactics
namespace Go.Proofs.Ytcfehddnccdejaa
set_option linter.unusedSimpArgs false
set_option linter.unusedVariables false
open Go.RowKit
open Evn Plt
attribute [local go_sem] Oper.semAt_some

theorem pwithin_any (n m : Int) (w : World) : Calls Try.prog 22 #[.int .i64 n, .int .i64 m] w fun r w' => r = .returned (.int .i64 (max 0 (min n m))) ∧ w' = w := by
  go_enter Try.func22, Try.ntmps22
  go_wp2
  go_ret
  exact ⟨rfl, rfl⟩
theorem pwithin64_any (n m : Int) (w : World) : Calls Try.prog 27 #[.int .i64 n, .int .i64 m] w fun r w' => r = .returned (.int .i64 (max 0 (min n m))) ∧ w' = w := by
  go_enter Try.func27, Try.ntmps27
  go_wp2
  go_ret
  exact ⟨rfl, rfl⟩
set_option maxRecDepth 100000 in
set_option maxHeartbeats 3200000 in
theorem pnew_any (n : Int) (w : World) :
    Calls Try.prog 17 #[.int .i64 n] w fun r w' => r = .returned (ptV (new n) none 0) ∧ Below w.heap.size w w' := by
  obtain ⟨N, hN⟩ : ∃ N, max 0 (min n 1000) = N := ⟨_, rfl⟩
  have HV : Hid (new n = ⟨N, [], 0, 0⟩) := by show _ = _; rw [← hN]; unfold new rep; congr 1; omega
  have WT := Lib.hid (fun y => pwithin_any n 1000 y)
  rw [hN] at WT
  clear hN
  go_enter Try.func17, Try.ntmps17
  go_wp2_with (first | (go_at_call 22; refine (WT.out _).mono ?_; rintro e w9 ⟨rfl, rfl⟩) | fail)
  refine bodyPost_ret (results_cell_row rfl _ _ (w.heap.size) _ _ _ _ rfl (heap_alloc_new _ _) Try.underlying26 (by rfl) (by kernel_rfl)) (by rfl) ?_
  exact ⟨by rw [HV.out] <;> rfl, bel1 (Below.refl _ _) _⟩
theorem sat_can {M : Int} (h : 0 ≤ M ∧ M ≤ 1000000000) : Fx.sat M = M := by unfold Fx.sat; omega
theorem sub_left {T K : Int} (hT : -1000000000 ≤ T ∧ T ≤ 1000000000) (hK : 0 ≤ K ∧ K ≤ 1000000000) : max 0 (Fx.sub T K) = max (T - K) 0 := by
  unfold Fx.sub Fx.sat
  omega
set_option maxRecDepth 100000 in
set_option maxHeartbeats 3200000 in
theorem pwork_any (q : Pt) (a : Option Addr) (k : Nat) (hr : 0 ≤ q.ready ∧ q.ready ≤ 1000) (cap d : Int) (hc : 1 ≤ cap ∧ cap ≤ 1000000) (w : World) :
    Calls Try.prog 26 #[ptV q a k, .int .i64 cap, .int .i64 d] w fun r w' => r = .returned (.tuple #[.int .i64 (max (Fx.add q.wait d - min (q.ready * cap) 1000000000) 0), .int .i64 (Fx.div (Fx.add q.wait d) (min (q.ready * cap) 1000000000))]) ∧ Below w.heap.size w w' := by
  obtain ⟨M, hM⟩ : ∃ M, q.ready * cap = M := ⟨_, rfl⟩
  have hMb : 0 ≤ M ∧ M ≤ 1000000000 := by
    rw [← hM]
    exact ⟨Int.mul_nonneg hr.1 (by omega), Int.le_trans (Int.mul_le_mul hr.2 hc.2 (by omega) (by omega)) (by decide)⟩
  have hmin : min M 1000000000 = M := by omega
  have wM : IntKind.i64.wrap M = M := by rw [IntKind.wrap_i64]; omega
  rw [hM, hmin]
  obtain ⟨T, hT⟩ : ∃ T, Fx.add q.wait d = T := ⟨_, rfl⟩
  have hTb := Fx.add_le q.wait d
  rw [hT] at hTb ⊢
  have HS := Lib.hid (sub_left hTb hMb)
  have AD := Lib.hid (fun y => add_any q.wait d y)
  rw [hT] at AD
  have SA := Lib.hid (fun y => sat_any M y)
  rw [sat_can hMb] at SA
  have SU := Lib.hid (fun y => sub_any T M y)
  have DI := Lib.hid (fun y => div_any T M y)
  generalize Fx.sub T M = U at *
  generalize Fx.div T M = V at *
  clear hT hTb hMb hmin hr hc
  unfold ptV
  go_enter Try.func26, Try.ntmps26
  go_wp2_with (first | (go_at_call 33; refine (AD.out _).mono ?_; rintro e w9 ⟨rfl, rfl⟩) | (go_at_call 34; refine (SA.out _).mono ?_; rintro e w9 ⟨rfl, rfl⟩) | (go_at_call 35; refine (SU.out _).mono ?_; rintro e w9 ⟨rfl, rfl⟩) | (go_at_call 36; refine (DI.out _).mono ?_; rintro e w9 ⟨rfl, b9⟩) | fail)
  go_ret2
  exact ⟨by rw [HS.out]; rfl, bel2 (bel1 (Below.refl _ _) _) b9⟩
end Go.Proofs.Ytcfehddnccdejaa
