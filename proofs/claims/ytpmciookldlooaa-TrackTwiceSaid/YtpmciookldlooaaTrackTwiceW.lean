/- TrackTwice: the walk. -/
import Derived.Test.YtpmciookldlooaaTkB
namespace Go.Proofs.Ytpmciookldlooaa
open Go.RowKit
open Fx Tk

set_option linter.unusedSimpArgs false
set_option linter.unusedVariables false
set_option maxRecDepth 100000 in
set_option maxHeartbeats 3200000 in
theorem trackTwice_walk (a b c : Int) (ha1 : 0 ≤ a) (ha2 : a ≤ 4294967295) (hb1 : 0 ≤ b) (hb2 : b ≤ 65535) (hc1 : 0 ≤ c) (hc2 : c ≤ 4294967295) (w : World) :
    Calls Try.prog 8 #[.int .u32 a, .int .u16 b, .int .u32 c] w fun e w' => e = .returned (.bool true) ∧ Below w.heap.size w w' := by
  obtain ⟨T, hT⟩ : ∃ T, T = 1 + a % 10000 := ⟨_, rfl⟩
  obtain ⟨C, hC⟩ : ∃ C, C = 1 + b % 400 := ⟨_, rfl⟩
  obtain ⟨U, hU⟩ : ∃ U, U = c % 10000 := ⟨_, rfl⟩
  have t1 : 1 ≤ T := by omega
  have t2 : T ≤ 10000 := by omega
  have c1 : 0 ≤ C := by omega
  have c2 : C ≤ 1000 := by omega
  have u1 : 0 ≤ U := by omega
  have u2 : U ≤ 10000 := by omega
  have hn := wt_le T C U
  have g := Lib.hid (fun h0 h => wt_twice t1 t2 c1 c2 u1 u2 h0 h)
  have p0 : 0 ≤ C * U := Int.mul_nonneg c1 u1
  have p1 : C * U ≤ 1000 * 10000 := Int.mul_le_mul c2 u2 u1 (by omega)
  have w5 : IntKind.i64.wrap (C * U) = C * U := by rw [IntKind.wrap_i64]; omega
  have m1 : a % 10000 = T - 1 := by omega
  have m3 : IntKind.i64.wrap (1 + a % 10000) = T := by rw [IntKind.wrap_i64]; omega
  have m4 : 1 + (T - 1) = T := by omega
  have m5 : c % 10000 = U := by omega
  have m2 : b % 400 = C - 1 := by omega
  have m6 : 1 + (C - 1) = C := by omega
  clear hT hC hU
  go_enter Try.func8, Try.ntmps8
  go_wp2_with fail
  refine (head_any _).mono ?_
  rintro e w1 ⟨rfl, b1⟩
  have B1 := Lib.hid b1
  clear b1
  go_wp2_with fail
  refine (want_any T C U _).mono ?_
  rintro e w2 ⟨rfl, b2⟩
  have B2 := Lib.hid (B1.out.trans (b2.mono B1.out.size))
  clear B1 b2
  generalize wt T C U = n at *
  obtain ⟨hn1, hn2⟩ := hn
  by_cases h : 1000 ≤ n
  · clear g
    have n0 : (n == 0) = false := by simp; omega
    go_wp2
    go_ret
    exact ⟨rfl, B2.out⟩
  have h' : n < 1000 := by omega
  by_cases n0 : n = 0
  · clear g
    subst n0
    go_wp2
    go_ret
    exact ⟨rfl, B2.out⟩
  have g' := g.out n0 h'
  clear g
  have n1 : 0 < n := by omega
  have n2 : (n == 0) = false := by simp; omega
  have q0 : 0 ≤ C * U / n := Int.ediv_nonneg p0 hn1
  have q1 : C * U / n ≤ C * U := Int.ediv_le_self _ p0
  have w6 : IntKind.i64.wrap ((C * U).tdiv n) = C * U / n := by rw [Int.tdiv_eq_ediv_of_nonneg p0, IntKind.wrap_i64]; omega
  go_wp2_with fail
  refine (want_any T n (C * U / n) _).mono ?_
  rintro e w3 ⟨rfl, b3⟩
  have B3 := Lib.hid (B2.out.trans (b3.mono B2.out.size))
  clear B2 b3
  generalize wt T n (C * U / n) = m at *
  go_wp2
  go_ret
  exact ⟨rfl, B3.out⟩
end Go.Proofs.Ytpmciookldlooaa
