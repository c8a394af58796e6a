/- Contracts of the program's fixed, Add, Sub, Near: what each call tells. -/
import Derived.Test.YtcfehddnccdejaaFxS
namespace Go.Proofs.Ytcfehddnccdejaa
set_option linter.unusedSimpArgs false
set_option linter.unusedVariables false
open Go.RowKit
open Fx

set_option maxHeartbeats 800000 in
theorem add_any (a b : Int) (w : World) :
    Calls Try.prog 33 #[.int .i64 a, .int .i64 b] w fun e w' => e = .returned (.int .i64 (add a b)) ∧ w' = w := by
  have ha := sat_le a
  have hb := sat_le b
  have HS : Hid (sat (sat a + sat b) = add a b) := rfl
  go_enter Try.func33, Try.ntmps33
  go_wp2_with fail
  refine (sat_any a _).mono ?_
  rintro e w1 ⟨rfl, rfl⟩
  go_wp2_with fail
  refine (sat_any b _).mono ?_
  rintro e w1 ⟨rfl, rfl⟩
  generalize sat a = x at *
  generalize sat b = y at *
  go_wp2_with fail
  refine (sat_any (x + y) _).mono ?_
  rintro e w1 ⟨rfl, rfl⟩
  rw [HS.out]
  go_wp2
  go_ret
  exact ⟨rfl, rfl⟩
end Go.Proofs.Ytcfehddnccdejaa
