/- Contracts of the document's fixed: Sat, Mul. -/
import Derived.Test.YtpgjjdpblilljaaFxA
import Derived.Test.YtpgjjdpblilljaaMem
import Derived.Test.YtpgjjdpblilljaaChecked
import Derived.Lib.MinMax
namespace Go.Proofs.Ytpgjjdpblilljaa
set_option linter.unusedSimpArgs false
set_option linter.unusedVariables false
open Go.RowKit
open Fx

theorem rsat_any (n : Int) (w : World) :
    Calls Try.prog 45 #[.int .i64 n] w fun e w' => e = .returned (.int .i64 (sat n)) ∧ w' = w := by
  by_cases h1 : 1000000000 < n
  · have hs : Hid (sat n = 1000000000) := by show _ = _; unfold sat; rw [if_neg (by omega), if_pos h1]
    go_enter Try.func45, Try.ntmps45
    go_wp2
    go_ret
    exact ⟨by rw [hs.out]; rfl, rfl⟩
  · have h1' : n ≤ 1000000000 := by omega
    by_cases h2 : n < -1000000000
    · have hs : Hid (sat n = -1000000000) := if_pos h2
      go_enter Try.func45, Try.ntmps45
      go_wp2
      go_ret
      exact ⟨by rw [hs.out]; rfl, rfl⟩
    · have h2' : -1000000000 ≤ n := by omega
      have hs : Hid (sat n = n) := sat_id h2' h1'
      go_enter Try.func45, Try.ntmps45
      go_wp2
      go_ret
      exact ⟨by rw [hs.out]; rfl, rfl⟩
set_option maxHeartbeats 800000 in
theorem rmul_any (a b : Int) (w : World) :
    Calls Try.prog 25 #[.int .i64 a, .int .i64 b] w fun e w' => e = .returned (.int .i64 (mul a b)) ∧ w' = w := by
  have hp := prod_le (x := sat a) (y := sat b) (M := 1000000000) (N := 1000000000) (sat_le a) (sat_le b)
  have HS : Hid (sat (cut (sat a * sat b)) = mul a b) := (mul_cut a b).symm
  have hw : IntKind.i64.wrap (sat a * sat b) = sat a * sat b := by rw [IntKind.wrap_i64]; omega
  have hq : IntKind.i64.wrap ((sat a * sat b).tdiv 1000) = cut (sat a * sat b) := by
    rw [cut_tdiv]
    have h1 := cut_mono hp.1
    have h2 := cut_mono hp.2
    have e1 : cut (-((1000000000 * 1000000000 : Nat) : Int)) = -1000000000000000 := by decide +kernel
    have e2 : cut (((1000000000 * 1000000000 : Nat) : Int)) = 1000000000000000 := by decide +kernel
    rw [e1] at h1
    rw [e2] at h2
    rw [IntKind.wrap_i64]; omega
  clear hp
  go_enter Try.func25, Try.ntmps25
  go_wp2_with fail
  refine (rsat_any a _).mono ?_
  rintro e w1 ⟨rfl, rfl⟩
  go_wp2_with fail
  refine (rsat_any b _).mono ?_
  rintro e w1 ⟨rfl, rfl⟩
  generalize sat a = x at *
  generalize sat b = y at *
  go_wp2_with fail
  refine (rsat_any (cut (x * y)) _).mono ?_
  rintro e w1 ⟨rfl, rfl⟩
  rw [HS.out]
  go_wp2
  go_ret
  exact ⟨rfl, rfl⟩
end Go.Proofs.Ytpgjjdpblilljaa
