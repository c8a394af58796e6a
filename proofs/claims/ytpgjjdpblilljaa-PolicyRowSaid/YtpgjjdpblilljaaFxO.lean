/- Contracts of the program's fixed, Add, Sub, Near: what each call tells. -/
import Derived.Test.YtpgjjdpblilljaaFxS
namespace Go.Proofs.Ytpgjjdpblilljaa
set_option linter.unusedSimpArgs false
set_option linter.unusedVariables false
open Go.RowKit
open Fx

set_option maxHeartbeats 800000 in
theorem add_any (a b : Int) (w : World) :
    Calls Try.prog 54 #[.int .i64 a, .int .i64 b] w fun e w' => e = .returned (.int .i64 (add a b)) ∧ w' = w := by
  have ha := sat_le a
  have hb := sat_le b
  have HS : Hid (sat (sat a + sat b) = add a b) := rfl
  go_enter Try.func54, Try.ntmps54
  go_wp2_with fail
  refine (sat_any a _).mono ?_
  rintro e w1 ⟨rfl, rfl⟩
  go_wp2_with fail
  refine (sat_any b _).mono ?_
  rintro e w1 ⟨rfl, rfl⟩
  generalize sat a = x at *
  generalize sat b = y at *
  go_wp2_with fail
  refine (sat_any (x + y) _).mono ?_
  rintro e w1 ⟨rfl, rfl⟩
  rw [HS.out]
  go_wp2
  go_ret
  exact ⟨rfl, rfl⟩
set_option maxHeartbeats 800000 in
theorem sub_any (a b : Int) (w : World) :
    Calls Try.prog 53 #[.int .i64 a, .int .i64 b] w fun e w' => e = .returned (.int .i64 (sub a b)) ∧ w' = w := by
  have ha := sat_le a
  have hb := sat_le b
  have HS : Hid (sat (sat a - sat b) = sub a b) := rfl
  go_enter Try.func53, Try.ntmps53
  go_wp2_with fail
  refine (sat_any a _).mono ?_
  rintro e w1 ⟨rfl, rfl⟩
  go_wp2_with fail
  refine (sat_any b _).mono ?_
  rintro e w1 ⟨rfl, rfl⟩
  generalize sat a = x at *
  generalize sat b = y at *
  go_wp2_with fail
  refine (sat_any (x - y) _).mono ?_
  rintro e w1 ⟨rfl, rfl⟩
  rw [HS.out]
  go_wp2
  go_ret
  exact ⟨rfl, rfl⟩
theorem near1_any (a : Int) (h1 : 0 ≤ a) (h2 : a ≤ 1000000000) (w : World) :
    Calls Try.prog 66 #[.int .i64 a] w fun e w' => e = .returned (.int .i64 (nearS a)) ∧ w' = w := by
  have hn : Hid (nearS a = (a + 500) / 1000) := rfl
  go_enter Try.func66, Try.ntmps66
  go_wp2
  go_ret
  exact ⟨by rw [hn.out]; rfl, rfl⟩
set_option maxHeartbeats 800000 in
theorem bySizeNear_any (n : Int) (h1 : -1000000000 ≤ n) (h2 : n ≤ 1000000000) (w : World) :
    Calls Try.prog 65 #[.int .i64 n, .func (.func 66) #[] #[]] w fun e w' => e = .returned (.int .i64 (bys n nearS)) ∧ w' = w := by
  have c1 : ∀ m x, (callFunc 66 #[.int .i64 m]).run Try.prog x = .ok (.enter 66 #[.int .i64 m]) x := fun m x => by kernel_rfl
  by_cases h : n < 0
  · have hb : Hid (bys n nearS = -(nearS (-n))) := if_pos h
    have hr : 0 ≤ nearS (-n) ∧ nearS (-n) ≤ 1000000000 := by unfold nearS; omega
    obtain ⟨hr1, hr2⟩ := hr
    have hC := Lib.hid (near1_any (-n) (by omega) (by omega) w)
    go_enter Try.func65, Try.ntmps65
    go_wp2_with fail
    refine hC.out.mono ?_
    rintro e w1 ⟨rfl, rfl⟩
    generalize nearS (-n) = v at *
    go_wp2
    go_ret
    exact ⟨by rw [hb.out]; rfl, rfl⟩
  · have hb : Hid (bys n nearS = nearS n) := if_neg h
    have h' : 0 ≤ n := by omega
    have hC := Lib.hid (near1_any n h' h2 w)
    go_enter Try.func65, Try.ntmps65
    go_wp2_with fail
    refine hC.out.mono ?_
    rintro e w1 ⟨rfl, rfl⟩
    go_wp2
    go_ret
    exact ⟨by rw [hb.out]; rfl, rfl⟩
set_option maxHeartbeats 800000 in
theorem near_any (n : Int) (w : World) :
    Calls Try.prog 55 #[.int .i64 n] w fun e w' => e = .returned (.int .i64 (near n)) ∧ w' = w := by
  have hC := Lib.hid (bySizeNear_any (sat n) (sat_le n).1 (sat_le n).2 w)
  change Hid (Calls _ _ _ _ fun e w' => e = .returned (.int .i64 (near n)) ∧ _) at hC
  go_enter Try.func55, Try.ntmps55
  go_wp2_with fail
  refine (sat_any n _).mono ?_
  rintro e w1 ⟨rfl, rfl⟩
  go_wp2_with fail
  refine hC.out.mono ?_
  rintro e w1 ⟨rfl, rfl⟩
  go_wp2
  go_ret
  exact ⟨rfl, rfl⟩
end Go.Proofs.Ytpgjjdpblilljaa
