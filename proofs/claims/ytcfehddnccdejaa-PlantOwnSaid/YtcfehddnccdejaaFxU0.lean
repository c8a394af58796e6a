/- Contracts of the document's fixed: Sat, Mul. -/
import Derived.Test.YtcfehddnccdejaaFxA
import Derived.Test.YtcfehddnccdejaaMem
import Derived.Test.YtcfehddnccdejaaChecked
import Derived.Lib.MinMax
namespace Go.Proofs.Ytcfehddnccdejaa
set_option linter.unusedSimpArgs false
set_option linter.unusedVariables false
open Go.RowKit
open Fx

theorem rsat_any (n : Int) (w : World) :
    Calls Try.prog 37 #[.int .i64 n] w fun e w' => e = .returned (.int .i64 (sat n)) ∧ w' = w := by
  by_cases h1 : 1000000000 < n
  · have hs : Hid (sat n = 1000000000) := by show _ = _; unfold sat; rw [if_neg (by omega), if_pos h1]
    go_enter Try.func37, Try.ntmps37
    go_wp2
    go_ret
    exact ⟨by rw [hs.out]; rfl, rfl⟩
  · have h1' : n ≤ 1000000000 := by omega
    by_cases h2 : n < -1000000000
    · have hs : Hid (sat n = -1000000000) := if_pos h2
      go_enter Try.func37, Try.ntmps37
      go_wp2
      go_ret
      exact ⟨by rw [hs.out]; rfl, rfl⟩
    · have h2' : -1000000000 ≤ n := by omega
      have hs : Hid (sat n = n) := sat_id h2' h1'
      go_enter Try.func37, Try.ntmps37
      go_wp2
      go_ret
      exact ⟨by rw [hs.out]; rfl, rfl⟩
end Go.Proofs.Ytcfehddnccdejaa
