/- Contracts of the document's fixed: Add, Sub, Near. -/
import Derived.Test.YtcfehddnccdejaaFxU0
namespace Go.Proofs.Ytcfehddnccdejaa
set_option linter.unusedSimpArgs false
set_option linter.unusedVariables false
open Go.RowKit
open Fx

set_option maxHeartbeats 800000 in
theorem radd_any (a b : Int) (w : World) :
    Calls Try.prog 29 #[.int .i64 a, .int .i64 b] w fun e w' => e = .returned (.int .i64 (add a b)) ∧ w' = w := by
  have ha := sat_le a
  have hb := sat_le b
  have HS : Hid (sat (sat a + sat b) = add a b) := rfl
  go_enter Try.func29, Try.ntmps29
  go_wp2_with fail
  refine (rsat_any a _).mono ?_
  rintro e w1 ⟨rfl, rfl⟩
  go_wp2_with fail
  refine (rsat_any b _).mono ?_
  rintro e w1 ⟨rfl, rfl⟩
  generalize sat a = x at *
  generalize sat b = y at *
  go_wp2_with fail
  refine (rsat_any (x + y) _).mono ?_
  rintro e w1 ⟨rfl, rfl⟩
  rw [HS.out]
  go_wp2
  go_ret
  exact ⟨rfl, rfl⟩
end Go.Proofs.Ytcfehddnccdejaa
