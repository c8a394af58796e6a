/- FixedBounds: the walk. -/
import Derived.Test.YtnegicbdkmcjhaaFxC
namespace Go.Proofs.Ytnegicbdkmcjhaa
open Go.RowKit
open Fx

set_option linter.unusedSimpArgs false in
set_option maxRecDepth 100000 in
set_option maxHeartbeats 3200000 in
theorem fixedBounds_walk (a b c : Int) (w : World) :
    Calls Try.prog 4 #[.int .i64 a, .int .i64 b, .int .i64 c] w fun e w' => e = .returned (.bool true) ∧ Below w.heap.size w w' := by
  have hx := clamp_le a b c
  have hin : Hid (sat b ≤ sat c → sat b ≤ clamp a b c ∧ clamp a b c ≤ sat c) := by
    show _ → _
    intro h
    unfold clamp
    split <;> (try split) <;> omega
  have Hx := Lib.hid hx
  clear hx
  have hid : Hid ((-1000000000 ≤ a ∧ a ≤ 1000000000) → sat a = a) := (fun h => sat_id h.1 h.2 : (-1000000000 ≤ a ∧ a ≤ 1000000000) → sat a = a)
  go_enter Try.func4, Try.ntmps4
  go_wp2_with fail
  refine (head_any _).mono ?_
  rintro e w1 ⟨rfl, b1⟩
  have B1 := Lib.hid b1
  clear b1
  go_wp2_with fail
  refine (clamp_any a b c _).mono ?_
  rintro e w9 ⟨rfl, rfl⟩
  generalize clamp a b c = x at *
  go_wp2_with fail
  refine (sat_any b _).mono ?_
  rintro e w9 ⟨rfl, rfl⟩
  go_wp2_with fail
  refine (sat_any c _).mono ?_
  rintro e w9 ⟨rfl, rfl⟩
  have hin := hin.out
  have Lx := Lib.hid Hx.out
  clear Hx
  have SB := Lib.hid (fun w => sat_any b w)
  have SC := Lib.hid (fun w => sat_any c w)
  generalize sat b = y at *
  generalize sat c = z at *
  by_cases hbc : z < y
  · clear hin
    go_wp2_with fail
    refine (sat_any a _).mono ?_
    rintro e w9 ⟨rfl, rfl⟩
    go_wp2_with fail
    refine (right_yes _ _ (sat_le a)).mono ?_
    rintro e w9 ⟨rfl, rfl⟩
    go_wp2_with fail
    refine (add_any a b _).mono ?_
    rintro e w9 ⟨rfl, rfl⟩
    go_wp2_with fail
    refine (right_yes _ _ (add_le a b)).mono ?_
    rintro e w9 ⟨rfl, rfl⟩
    go_wp2_with fail
    refine (sub_any a b _).mono ?_
    rintro e w9 ⟨rfl, rfl⟩
    go_wp2_with fail
    refine (right_yes _ _ (sub_le a b)).mono ?_
    rintro e w9 ⟨rfl, rfl⟩
    go_wp2_with fail
    refine (mul_any a b _).mono ?_
    rintro e w2 ⟨rfl, b2⟩
    have B2 := Lib.hid (B1.out.trans (b2.mono B1.out.size))
    clear B1 b2
    go_wp2_with fail
    refine (right_yes _ _ (mul_le a b)).mono ?_
    rintro e w9 ⟨rfl, rfl⟩
    go_wp2_with fail
    refine (div_any a b _).mono ?_
    rintro e w3 ⟨rfl, b3⟩
    have B3 := Lib.hid (B2.out.trans (b3.mono B2.out.size))
    clear B2 b3
    go_wp2_with fail
    refine (right_yes _ _ (div_le a b)).mono ?_
    rintro e w9 ⟨rfl, rfl⟩
    go_wp2_with fail
    refine (right_yes _ _ Lx.out).mono ?_
    rintro e w9 ⟨rfl, rfl⟩
    go_wp2_with fail
    refine (up_any a _).mono ?_
    rintro e w9 ⟨rfl, rfl⟩
    go_wp2_with fail
    refine (right_yes _ _ (by have := up_le a; omega)).mono ?_
    rintro e w9 ⟨rfl, rfl⟩
    go_wp2_with fail
    refine (near_any a _).mono ?_
    rintro e w9 ⟨rfl, rfl⟩
    go_wp2_with fail
    refine (right_yes _ _ (by have := near_le a; omega)).mono ?_
    rintro e w9 ⟨rfl, rfl⟩
    by_cases hr : -1000000000 ≤ a ∧ a ≤ 1000000000
    · go_wp2_with fail
      refine (right_yes _ _ hr).mono ?_
      rintro e w9 ⟨rfl, rfl⟩
      go_wp2_with fail
      refine (sat_any a _).mono ?_
      rintro e w9 ⟨rfl, rfl⟩
      rw [hid.out hr]
      go_wp2
      go_ret
      exact ⟨rfl, B3.out⟩
    · go_wp2_with fail
      refine (right_no _ _ hr).mono ?_
      rintro e w9 ⟨rfl, rfl⟩
      go_wp2
      go_ret
      exact ⟨rfl, B3.out⟩
  · have hbc' : y ≤ z := by omega
    obtain ⟨hi1, hi2⟩ := hin hbc'
    clear hin
    go_wp2_with fail
    refine (SB.out _).mono ?_
    rintro e w9 ⟨rfl, rfl⟩
    go_wp2_with fail
    refine (SC.out _).mono ?_
    rintro e w9 ⟨rfl, rfl⟩
    go_wp2_with fail
    refine (sat_any a _).mono ?_
    rintro e w9 ⟨rfl, rfl⟩
    go_wp2_with fail
    refine (right_yes _ _ (sat_le a)).mono ?_
    rintro e w9 ⟨rfl, rfl⟩
    go_wp2_with fail
    refine (add_any a b _).mono ?_
    rintro e w9 ⟨rfl, rfl⟩
    go_wp2_with fail
    refine (right_yes _ _ (add_le a b)).mono ?_
    rintro e w9 ⟨rfl, rfl⟩
    go_wp2_with fail
    refine (sub_any a b _).mono ?_
    rintro e w9 ⟨rfl, rfl⟩
    go_wp2_with fail
    refine (right_yes _ _ (sub_le a b)).mono ?_
    rintro e w9 ⟨rfl, rfl⟩
    go_wp2_with fail
    refine (mul_any a b _).mono ?_
    rintro e w2 ⟨rfl, b2⟩
    have B2 := Lib.hid (B1.out.trans (b2.mono B1.out.size))
    clear B1 b2
    go_wp2_with fail
    refine (right_yes _ _ (mul_le a b)).mono ?_
    rintro e w9 ⟨rfl, rfl⟩
    go_wp2_with fail
    refine (div_any a b _).mono ?_
    rintro e w3 ⟨rfl, b3⟩
    have B3 := Lib.hid (B2.out.trans (b3.mono B2.out.size))
    clear B2 b3
    go_wp2_with fail
    refine (right_yes _ _ (div_le a b)).mono ?_
    rintro e w9 ⟨rfl, rfl⟩
    go_wp2_with fail
    refine (right_yes _ _ Lx.out).mono ?_
    rintro e w9 ⟨rfl, rfl⟩
    go_wp2_with fail
    refine (up_any a _).mono ?_
    rintro e w9 ⟨rfl, rfl⟩
    go_wp2_with fail
    refine (right_yes _ _ (by have := up_le a; omega)).mono ?_
    rintro e w9 ⟨rfl, rfl⟩
    go_wp2_with fail
    refine (near_any a _).mono ?_
    rintro e w9 ⟨rfl, rfl⟩
    go_wp2_with fail
    refine (right_yes _ _ (by have := near_le a; omega)).mono ?_
    rintro e w9 ⟨rfl, rfl⟩
    by_cases hr : -1000000000 ≤ a ∧ a ≤ 1000000000
    · go_wp2_with fail
      refine (right_yes _ _ hr).mono ?_
      rintro e w9 ⟨rfl, rfl⟩
      go_wp2_with fail
      refine (sat_any a _).mono ?_
      rintro e w9 ⟨rfl, rfl⟩
      rw [hid.out hr]
      go_wp2
      go_ret
      exact ⟨rfl, B3.out⟩
    · go_wp2_with fail
      refine (right_no _ _ hr).mono ?_
      rintro e w9 ⟨rfl, rfl⟩
      go_wp2
      go_ret
      exact ⟨rfl, B3.out⟩
end Go.Proofs.Ytnegicbdkmcjhaa
