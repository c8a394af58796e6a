/- Contracts of the document's fixed: Div, Up. -/
import Derived.Test.YtpgjjdpblilljaaFxU
namespace Go.Proofs.Ytpgjjdpblilljaa
set_option linter.unusedSimpArgs false
set_option linter.unusedVariables false
open Go.RowKit
open Fx

set_option maxHeartbeats 1600000 in
theorem rdiv_any (a b : Int) (w : World) :
    Calls Try.prog 24 #[.int .i64 a, .int .i64 b] w fun e w' => e = .returned (.int .i64 (div a b)) ∧ w' = w := by
  have hx := sat_le a
  have hy := sat_le b
  by_cases h0 : sat b = 0
  · have HS := Lib.hid (div_none a b h0)
    go_enter Try.func24, Try.ntmps24
    go_wp2_with fail
    refine (rsat_any a _).mono ?_
    rintro e w1 ⟨rfl, rfl⟩
    go_wp2_with fail
    refine (rsat_any b _).mono ?_
    rintro e w1 ⟨rfl, rfl⟩
    generalize sat a = x at *
    rw [h0]
    clear hy h0
    by_cases h1 : 0 < x
    · go_wp2
      go_ret
      exact ⟨by rw [HS.out, if_pos h1]; rfl, rfl⟩
    · have h1' : x ≤ 0 := by omega
      by_cases h2 : x < 0
      · go_wp2
        go_ret
        exact ⟨by rw [HS.out, if_neg (by omega), if_pos h2]; rfl, rfl⟩
      · have h2' : 0 ≤ x := by omega
        go_wp2
        go_ret
        exact ⟨by rw [HS.out, if_neg (by omega), if_neg (by omega)]; rfl, rfl⟩
  · have HS := Lib.hid (div_tdiv a b h0)
    have hw : IntKind.i64.wrap (1000 * sat a) = 1000 * sat a := by rw [IntKind.wrap_i64]; omega
    have hq : IntKind.i64.wrap ((1000 * sat a).tdiv (sat b)) = (1000 * sat a).tdiv (sat b) := by
      have h1 : ((1000 * sat a).tdiv (sat b)).natAbs ≤ (1000 * sat a).natAbs := by
        rw [Int.natAbs_tdiv]
        exact Nat.div_le_self _ _
      generalize (1000 * sat a).tdiv (sat b) = k at *
      rw [IntKind.wrap_i64]; omega
    clear hy
    go_enter Try.func24, Try.ntmps24
    go_wp2_with fail
    refine (rsat_any a _).mono ?_
    rintro e w1 ⟨rfl, rfl⟩
    go_wp2_with fail
    refine (rsat_any b _).mono ?_
    rintro e w1 ⟨rfl, rfl⟩
    generalize sat a = x at *
    generalize sat b = y at *
    go_wp2_with fail
    refine (rsat_any ((1000 * x).tdiv y) _).mono ?_
    rintro e w1 ⟨rfl, rfl⟩
    rw [HS.out]
    go_wp2
    go_ret
    exact ⟨rfl, rfl⟩
set_option maxHeartbeats 800000 in
theorem rup_any (n : Int) (w : World) :
    Calls Try.prog 23 #[.int .i64 n] w fun e w' => e = .returned (.int .i64 (up n)) ∧ w' = w := by
  have hs := sat_le n
  have HS : Hid (up n = -(-(sat n) / 1000)) := rfl
  go_enter Try.func23, Try.ntmps23
  go_wp2_with fail
  refine (rsat_any n _).mono ?_
  rintro e w1 ⟨rfl, rfl⟩
  generalize sat n = x at *
  obtain ⟨h1, h2⟩ := hs
  by_cases h0 : 0 ≤ x
  · by_cases hm : x % 1000 = 0
    · have hm' : ¬ (x / 1000 * 1000 < x) := by omega
      go_wp2
      go_ret
      exact ⟨by rw [HS.out, show -(-x / 1000) = x / 1000 from by omega]; rfl, rfl⟩
    · have hm' : x / 1000 * 1000 < x := by omega
      go_wp2
      go_ret
      exact ⟨by rw [HS.out, show -(-x / 1000) = x / 1000 + 1 from by omega]; rfl, rfl⟩
  · have hw : IntKind.i64.wrap (x.tdiv 1000) = -(-x / 1000) := by rw [tdiv_eq_if, if_neg h0, IntKind.wrap_i64]; omega
    have hm' : ¬ (-(-x / 1000) * 1000 < x) := by omega
    have hw2 : IntKind.i64.wrap (-(-x / 1000) * 1000) = -(-x / 1000) * 1000 := by rw [IntKind.wrap_i64]; omega
    go_wp2
    go_ret
    exact ⟨by rw [HS.out]; rfl, rfl⟩
end Go.Proofs.Ytpgjjdpblilljaa
