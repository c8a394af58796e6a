/- Contracts of the document's fixed: Div, Up. -/
import Derived.Test.YtcfehddnccdejaaFxU0
namespace Go.Proofs.Ytcfehddnccdejaa
set_option linter.unusedSimpArgs false
set_option linter.unusedVariables false
open Go.RowKit
open Fx

set_option maxHeartbeats 1600000 in
theorem rdiv_any (a b : Int) (w : World) :
    Calls Try.prog 30 #[.int .i64 a, .int .i64 b] w fun e w' => e = .returned (.int .i64 (div a b)) ∧ w' = w := by
  have hx := sat_le a
  have hy := sat_le b
  by_cases h0 : sat b = 0
  · have HS := Lib.hid (div_none a b h0)
    go_enter Try.func30, Try.ntmps30
    go_wp2_with fail
    refine (rsat_any a _).mono ?_
    rintro e w1 ⟨rfl, rfl⟩
    go_wp2_with fail
    refine (rsat_any b _).mono ?_
    rintro e w1 ⟨rfl, rfl⟩
    generalize sat a = x at *
    rw [h0]
    clear hy h0
    by_cases h1 : 0 < x
    · go_wp2
      go_ret
      exact ⟨by rw [HS.out, if_pos h1]; rfl, rfl⟩
    · have h1' : x ≤ 0 := by omega
      by_cases h2 : x < 0
      · go_wp2
        go_ret
        exact ⟨by rw [HS.out, if_neg (by omega), if_pos h2]; rfl, rfl⟩
      · have h2' : 0 ≤ x := by omega
        go_wp2
        go_ret
        exact ⟨by rw [HS.out, if_neg (by omega), if_neg (by omega)]; rfl, rfl⟩
  · have HS := Lib.hid (div_tdiv a b h0)
    have hw : IntKind.i64.wrap (1000 * sat a) = 1000 * sat a := by rw [IntKind.wrap_i64]; omega
    have hq : IntKind.i64.wrap ((1000 * sat a).tdiv (sat b)) = (1000 * sat a).tdiv (sat b) := by
      have h1 : ((1000 * sat a).tdiv (sat b)).natAbs ≤ (1000 * sat a).natAbs := by
        rw [Int.natAbs_tdiv]
        exact Nat.div_le_self _ _
      generalize (1000 * sat a).tdiv (sat b) = k at *
      rw [IntKind.wrap_i64]; omega
    clear hy
    go_enter Try.func30, Try.ntmps30
    go_wp2_with fail
    refine (rsat_any a _).mono ?_
    rintro e w1 ⟨rfl, rfl⟩
    go_wp2_with fail
    refine (rsat_any b _).mono ?_
    rintro e w1 ⟨rfl, rfl⟩
    generalize sat a = x at *
    generalize sat b = y at *
    go_wp2_with fail
    refine (rsat_any ((1000 * x).tdiv y) _).mono ?_
    rintro e w1 ⟨rfl, rfl⟩
    rw [HS.out]
    go_wp2
    go_ret
    exact ⟨rfl, rfl⟩
end Go.Proofs.Ytcfehddnccdejaa
