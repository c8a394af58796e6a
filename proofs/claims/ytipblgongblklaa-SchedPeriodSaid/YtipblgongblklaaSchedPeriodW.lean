/- SchedPeriod: the walk. -/
import Derived.Test.YtipblgongblklaaSdC
namespace Go.Proofs.Ytipblgongblklaa
set_option linter.unusedSimpArgs false
open Go.RowKit
open Wir Evn Stp Sdl
attribute [local go_sem] Oper.semAt_some
set_option linter.unusedVariables false

set_option maxRecDepth 100000 in
set_option maxHeartbeats 3200000 in
theorem schedPeriod_walk {w : World} {a : Option Addr} {n c : Nat} {l : List (Int × Int)} (h : PRow w a n c l) (p : Int) (t k : Int) (ht : -2147483648 ≤ t ∧ t ≤ 2147483647) (hk : -32768 ≤ k ∧ k ≤ 32767) :
    Calls Try.prog 4 #[.int .i64 p, .slice a n c, .int .i32 t, .int .i16 k] w fun e w' => e = .returned (.bool true) ∧ Below w.heap.size w w' := by
  have hmx := h.1.max
  have hle := h.1.le
  unfold maxLen at hmx
  have HR := Lib.hid h
  clear h
  go_enter Try.func4, Try.ntmps4
  go_wp2_with fail
  refine (head_any _).mono ?_
  rintro e w1 ⟨rfl, b1⟩
  have B1 := Lib.hid b1
  clear b1
  go_wp2_with fail
  refine (right_n (HR.out.on B1.out) p).mono ?_
  rintro e w2 ⟨rfl, b2⟩
  have B2 := Lib.hid (bel2 B1.out b2)
  clear b2 B1
  cases hr : rightD p l
  · clear hr
    go_wp2
    go_ret
    exact ⟨rfl, B2.out⟩
  have HS := Lib.hid (rightD_ hr)
  have HL := Lib.hid HR.out.2
  have HN5 : Hid (n ≤ 100000) := by show _ ≤ _; have := HS.out.few; have := HL.out; omega
  have P1 := HS.out.p1
  have P2 := HS.out.p2
  clear hr
  obtain ⟨M, hM⟩ : ∃ M, k * p = M := ⟨_, rfl⟩
  have hM1 : -36028797018963968 ≤ M ∧ M ≤ 36028797018963968 := by
    rw [← hM]
    have h1 : k * p ≤ 32767 * p := Int.mul_le_mul_of_nonneg_right hk.2 (by omega)
    have h2 : -32768 * p ≤ k * p := Int.mul_le_mul_of_nonneg_right hk.1 (by omega)
    omega
  have e1 : IntKind.i64.wrap t = t := by rw [IntKind.wrap_i64]; omega
  have e2 : IntKind.i64.wrap k = k := by rw [IntKind.wrap_i64]; omega
  have e3 : IntKind.i64.wrap M = M := by rw [IntKind.wrap_i64]; omega
  have e4 : IntKind.i64.wrap (t + M) = t + M := by rw [IntKind.wrap_i64]; omega
  have HT : Hid (tod p (t + M) = tod p t) := by show _ = _; rw [← hM]; exact tod_later p t k
  have HI := Lib.hid (tod_in P1 t)
  have HZ := Lib.hid (tod_sub p t)
  go_wp2_with fail
  refine (at_any HS.out.p1 HS.out.p2 t _).mono ?_
  rintro e w9 ⟨rfl, h9⟩
  obtain rfl := h9.symm
  obtain ⟨i1, i2⟩ := HI.out
  generalize hN : tod p t = N at *
  have HN := Lib.hid hN
  clear hN
  have hp0 : p ≠ 0 := by omega
  have e5 : IntKind.i64.wrap (t - N) = t - N := by rw [IntKind.wrap_i64]; omega
  have z1 := HZ.out
  have z2 : IntKind.i64.wrap ((t - N).tmod p) = 0 := by rw [z1]; rfl
  go_wp2_with fail
  refine (at_to HS.out.p1 HS.out.p2 (t + M) N _ HT.out).mono ?_
  rintro e w9 ⟨rfl, h9⟩
  obtain rfl := h9.symm
  go_wp2_with fail
  refine (want_to (HR.out.on B2.out) HN5.out HS.out.p1 HS.out.p2 (t + M) (swn l N) (by rw [HT.out])).mono ?_
  rintro e w3 ⟨rfl, b3⟩
  have B3 := Lib.hid (bel2 B2.out b3)
  clear B2 b3
  go_wp2_with fail
  refine (want_to (HR.out.on B3.out) HN5.out HS.out.p1 HS.out.p2 t (swn l N) (by rw [HN.out])).mono ?_
  rintro e w4 ⟨rfl, b4⟩
  have B4 := Lib.hid (bel2 B3.out b4)
  clear B3 b4
  generalize swn l N = m at *
  go_wp2
  go_ret
  exact ⟨rfl, B4.out⟩
end Go.Proofs.Ytipblgongblklaa
