/- Contract of the program's fixed, Sub. -/
import Derived.Test.YtcfehddnccdejaaFxOa
namespace Go.Proofs.Ytcfehddnccdejaa
set_option linter.unusedSimpArgs false
set_option linter.unusedVariables false
open Go.RowKit
open Fx

set_option maxHeartbeats 800000 in
theorem sub_any (a b : Int) (w : World) :
    Calls Try.prog 35 #[.int .i64 a, .int .i64 b] w fun e w' => e = .returned (.int .i64 (sub a b)) ∧ w' = w := by
  have ha := sat_le a
  have hb := sat_le b
  have HS : Hid (sat (sat a - sat b) = sub a b) := rfl
  go_enter Try.func35, Try.ntmps35
  go_wp2_with fail
  refine (sat_any a _).mono ?_
  rintro e w1 ⟨rfl, rfl⟩
  go_wp2_with fail
  refine (sat_any b _).mono ?_
  rintro e w1 ⟨rfl, rfl⟩
  generalize sat a = x at *
  generalize sat b = y at *
  go_wp2_with fail
  refine (sat_any (x - y) _).mono ?_
  rintro e w1 ⟨rfl, rfl⟩
  rw [HS.out]
  go_wp2
  go_ret
  exact ⟨rfl, rfl⟩
end Go.Proofs.Ytcfehddnccdejaa
