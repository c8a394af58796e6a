/- TrackEnough: the walk. -/
import Derived.Test.YtpmciookldlooaaTkB
namespace Go.Proofs.Ytpmciookldlooaa
open Go.RowKit
open Fx Tk

set_option linter.unusedSimpArgs false
set_option linter.unusedVariables false
set_option maxRecDepth 100000 in
set_option maxHeartbeats 3200000 in
theorem trackEnough_walk (a b c : Int) (ha1 : 0 ≤ a) (ha2 : a ≤ 4294967295) (hb1 : 0 ≤ b) (hb2 : b ≤ 65535) (hc1 : 0 ≤ c) (hc2 : c ≤ 4294967295) (w : World) :
    Calls Try.prog 6 #[.int .u32 a, .int .u16 b, .int .u32 c] w fun e w' => e = .returned (.bool true) ∧ Below w.heap.size w w' := by
  obtain ⟨T, hT⟩ : ∃ T, T = 1 + a % 10000 := ⟨_, rfl⟩
  obtain ⟨C, hC⟩ : ∃ C, C = b % 1001 := ⟨_, rfl⟩
  obtain ⟨U, hU⟩ : ∃ U, U = c % 10000 := ⟨_, rfl⟩
  have t1 : 1 ≤ T := by omega
  have t2 : T ≤ 10000 := by omega
  have c1 : 0 ≤ C := by omega
  have c2 : C ≤ 1000 := by omega
  have u1 : 0 ≤ U := by omega
  have u2 : U ≤ 10000 := by omega
  have hn := wt_le T C U
  have g := Lib.hid (fun h => wt_enough t1 t2 c1 c2 u1 u2 h)
  have p0 : 0 ≤ C * U := Int.mul_nonneg c1 u1
  have p1 : C * U ≤ 1000 * 10000 := Int.mul_le_mul c2 u2 u1 (by omega)
  have m1 : a % 10000 = T - 1 := by omega
  have m3 : IntKind.i64.wrap (1 + a % 10000) = T := by rw [IntKind.wrap_i64]; omega
  have m4 : 1 + (T - 1) = T := by omega
  have m5 : c % 10000 = U := by omega
  have m2 : b % 1001 = C := by omega
  clear hT hC hU
  go_enter Try.func6, Try.ntmps6
  go_wp2_with fail
  refine (head_any _).mono ?_
  rintro e w1 ⟨rfl, b1⟩
  have B1 := Lib.hid b1
  clear b1
  go_wp2_with fail
  refine (want_any T C U _).mono ?_
  rintro e w2 ⟨rfl, b2⟩
  have B2 := Lib.hid (B1.out.trans (b2.mono B1.out.size))
  clear B1 b2
  generalize wt T C U = n at *
  obtain ⟨hn1, hn2⟩ := hn
  by_cases h : 1000 ≤ n
  · clear g
    go_wp2
    go_ret
    exact ⟨rfl, B2.out⟩
  have h' : n < 1000 := by omega
  obtain ⟨e1, e2⟩ := g.out h'
  clear g
  have q0 : 0 ≤ n * T := Int.mul_nonneg hn1 (by omega)
  have q1 : n * T ≤ 1000 * 10000 := Int.mul_le_mul hn2 t2 (by omega) (by omega)
  have q2 : (n - 1) * T = n * T - T := by rw [Int.sub_mul]; omega
  rw [q2] at e2
  have k1 : 1000 * n * T = 1000 * (n * T) := Int.mul_assoc _ _ _
  have k2 : 1000 * C * U = 1000 * (C * U) := Int.mul_assoc _ _ _
  have w1 : IntKind.i64.wrap (1000 * n) = 1000 * n := by rw [IntKind.wrap_i64]; omega
  have w2 : IntKind.i64.wrap (1000 * n * T) = 1000 * (n * T) := by rw [k1, IntKind.wrap_i64]; omega
  have w3 : IntKind.i64.wrap (1000 * C) = 1000 * C := by rw [IntKind.wrap_i64]; omega
  have w4 : IntKind.i64.wrap (1000 * C * U) = 1000 * (C * U) := by rw [k2, IntKind.wrap_i64]; omega
  have w5 : IntKind.i64.wrap (C * U) = C * U := by rw [IntKind.wrap_i64]; omega
  have w6 : IntKind.i64.wrap ((n - 1) * T) = n * T - T := by rw [q2, IntKind.wrap_i64]; omega
  clear k1 k2 q2
  by_cases n0 : n = 0
  · subst n0
    clear e2
    go_wp2
    go_ret
    exact ⟨rfl, B2.out⟩
  have e3 := e2 n0
  clear e2
  go_wp2
  go_ret
  exact ⟨rfl, B2.out⟩
end Go.Proofs.Ytpmciookldlooaa
