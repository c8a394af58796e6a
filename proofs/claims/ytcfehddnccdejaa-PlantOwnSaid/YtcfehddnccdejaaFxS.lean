/- Contract of the program's fixed.Sat. -/
import Derived.Test.YtcfehddnccdejaaFxA
import Derived.Test.YtcfehddnccdejaaMem
import Derived.Test.YtcfehddnccdejaaChecked
import Derived.Lib.MinMax
namespace Go.Proofs.Ytcfehddnccdejaa
set_option linter.unusedSimpArgs false
set_option linter.unusedVariables false
open Go.RowKit
open Fx

theorem max_min_sat (n : Int) : max (-1000000000) (min n 1000000000) = sat n := by unfold sat; split <;> (try split) <;> omega
theorem sat_any (n : Int) (w : World) :
    Calls Try.prog 34 #[.int .i64 n] w fun e w' => e = .returned (.int .i64 (sat n)) ∧ w' = w := by
  have hs := max_min_sat n
  go_enter Try.func34, Try.ntmps34
  go_wp2
  go_ret
  exact ⟨rfl, rfl⟩
end Go.Proofs.Ytcfehddnccdejaa
