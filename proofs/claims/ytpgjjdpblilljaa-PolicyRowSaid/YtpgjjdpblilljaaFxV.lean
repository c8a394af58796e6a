/- Contracts of the document's fixed: Add, Sub, Near. -/
import Derived.Test.YtpgjjdpblilljaaFxU
namespace Go.Proofs.Ytpgjjdpblilljaa
set_option linter.unusedSimpArgs false
set_option linter.unusedVariables false
open Go.RowKit
open Fx

set_option maxHeartbeats 800000 in
theorem radd_any (a b : Int) (w : World) :
    Calls Try.prog 29 #[.int .i64 a, .int .i64 b] w fun e w' => e = .returned (.int .i64 (add a b)) ∧ w' = w := by
  have ha := sat_le a
  have hb := sat_le b
  have HS : Hid (sat (sat a + sat b) = add a b) := rfl
  go_enter Try.func29, Try.ntmps29
  go_wp2_with fail
  refine (rsat_any a _).mono ?_
  rintro e w1 ⟨rfl, rfl⟩
  go_wp2_with fail
  refine (rsat_any b _).mono ?_
  rintro e w1 ⟨rfl, rfl⟩
  generalize sat a = x at *
  generalize sat b = y at *
  go_wp2_with fail
  refine (rsat_any (x + y) _).mono ?_
  rintro e w1 ⟨rfl, rfl⟩
  rw [HS.out]
  go_wp2
  go_ret
  exact ⟨rfl, rfl⟩
set_option maxHeartbeats 800000 in
theorem rsub_any (a b : Int) (w : World) :
    Calls Try.prog 28 #[.int .i64 a, .int .i64 b] w fun e w' => e = .returned (.int .i64 (sub a b)) ∧ w' = w := by
  have ha := sat_le a
  have hb := sat_le b
  have HS : Hid (sat (sat a - sat b) = sub a b) := rfl
  go_enter Try.func28, Try.ntmps28
  go_wp2_with fail
  refine (rsat_any a _).mono ?_
  rintro e w1 ⟨rfl, rfl⟩
  go_wp2_with fail
  refine (rsat_any b _).mono ?_
  rintro e w1 ⟨rfl, rfl⟩
  generalize sat a = x at *
  generalize sat b = y at *
  go_wp2_with fail
  refine (rsat_any (x - y) _).mono ?_
  rintro e w1 ⟨rfl, rfl⟩
  rw [HS.out]
  go_wp2
  go_ret
  exact ⟨rfl, rfl⟩
set_option maxHeartbeats 800000 in
theorem rnear_any (n : Int) (w : World) :
    Calls Try.prog 30 #[.int .i64 n] w fun e w' => e = .returned (.int .i64 (near n)) ∧ w' = w := by
  have hs := sat_le n
  have HS : Hid (near n = if sat n < 0 then -((-sat n + 500) / 1000) else (sat n + 500) / 1000) := rfl
  go_enter Try.func30, Try.ntmps30
  go_wp2_with fail
  refine (rsat_any n _).mono ?_
  rintro e w1 ⟨rfl, rfl⟩
  generalize sat n = x at *
  obtain ⟨h1, h2⟩ := hs
  by_cases h0 : x < 0
  · go_wp2
    go_ret
    exact ⟨by rw [HS.out, if_pos h0]; rfl, rfl⟩
  · have h0' : 0 ≤ x := by omega
    go_wp2
    go_ret
    exact ⟨by rw [HS.out, if_neg (by omega)]; rfl, rfl⟩
end Go.Proofs.Ytpgjjdpblilljaa
