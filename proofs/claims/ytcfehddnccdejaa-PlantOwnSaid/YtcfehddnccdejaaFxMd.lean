/- Contracts of the program's fixed, Up and Div: what each call tells; memory is made, none is changed. -/
import Derived.Test.YtcfehddnccdejaaFxNs
namespace Go.Proofs.Ytcfehddnccdejaa
set_option linter.unusedSimpArgs false
set_option linter.unusedVariables false
open Go.RowKit
open Fx

theorem does_div : Does 41 divS where
  enter := fun a b x => by kernel_rfl
  call := fun a b x h1 h2 h3 h4 => by
    by_cases hb : b = 0
    · have hd : Hid (divS a b = a * 1000000000) := if_pos hb
      have hw : IntKind.i64.wrap (a * 1000000000) = a * 1000000000 := by rw [IntKind.wrap_i64]; omega
      subst hb
      go_enter Try.func41, Try.ntmps41
      go_wp2
      go_ret
      exact ⟨by rw [hd.out]; rfl, rfl⟩
    · have hd : Hid (divS a b = a * 1000 / b) := if_neg hb
      have hw : IntKind.i64.wrap (a * 1000) = a * 1000 := by rw [IntKind.wrap_i64]; omega
      have q0 := Int.ediv_nonneg (a := a * 1000) (b := b) (by omega) (by omega)
      have q1 := Int.ediv_le_self (a := a * 1000) b (by omega)
      have hq : IntKind.i64.wrap ((a * 1000).tdiv b) = a * 1000 / b := by rw [Int.tdiv_eq_ediv_of_nonneg (by omega), IntKind.wrap_i64]; omega
      clear q0 q1
      go_enter Try.func41, Try.ntmps41
      go_wp2
      go_ret
      exact ⟨by rw [hd.out]; rfl, rfl⟩
set_option maxHeartbeats 800000 in
theorem div_any (a b : Int) (w : World) :
    Calls Try.prog 36 #[.int .i64 a, .int .i64 b] w fun e w' => e = .returned (.int .i64 (div a b)) ∧ Below w.heap.size w w' := by
  have hC := Lib.hid (bySizes_any does_div (sat a) (sat b) w (sat_le a).1 (sat_le a).2 (sat_le b).1 (sat_le b).2)
  change Hid (Calls _ _ _ _ fun e w' => e = .returned (.int .i64 (div a b)) ∧ _) at hC
  go_enter Try.func36, Try.ntmps36
  go_wp2_with fail
  refine (sat_any a _).mono ?_
  rintro e w1 ⟨rfl, rfl⟩
  go_wp2_with fail
  refine (sat_any b _).mono ?_
  rintro e w1 ⟨rfl, rfl⟩
  go_wp2_with fail
  refine hC.out.mono ?_
  rintro e w1 ⟨rfl, b1⟩
  have B1 := Lib.hid b1
  clear hC b1
  go_wp2
  go_ret
  exact ⟨rfl, B1.out⟩
end Go.Proofs.Ytcfehddnccdejaa
