/- FixedWhole: the walk. -/
import Derived.Test.YtnegicbdkmcjhaaFxC
namespace Go.Proofs.Ytnegicbdkmcjhaa
open Go.RowKit
open Fx

set_option linter.unusedSimpArgs false in
set_option maxRecDepth 100000 in
set_option maxHeartbeats 3200000 in
theorem fixedWhole_walk (a : Int) (w : World) :
    Calls Try.prog 7 #[.int .i64 a] w fun e w' => e = .returned (.bool true) ∧ Below w.heap.size w w' := by
  have hs := sat_le a
  have hn := near_le a
  have hu := up_le a
  have f : sat a ≤ 1000 * up a ∧ 1000 * (up a - 1) < sat a ∧ -500 ≤ 1000 * near a - sat a ∧ 1000 * near a - sat a ≤ 500 ∧ (1000 * near a - sat a = 500 → 0 < sat a) ∧ (1000 * near a - sat a = -500 → sat a < 0) := by
    unfold up near bys nearS
    split <;> omega
  go_enter Try.func7, Try.ntmps7
  go_wp2_with fail
  refine (head_any _).mono ?_
  rintro e w1 ⟨rfl, b1⟩
  have B1 := Lib.hid b1
  clear b1
  go_wp2_with fail
  refine (sat_any a _).mono ?_
  rintro e w9 ⟨rfl, rfl⟩
  go_wp2_with fail
  refine (up_any a _).mono ?_
  rintro e w9 ⟨rfl, rfl⟩
  go_wp2_with fail
  refine (near_any a _).mono ?_
  rintro e w9 ⟨rfl, rfl⟩
  generalize sat a = x at *
  generalize up a = u at *
  generalize near a = n at *
  obtain ⟨hs1, hs2⟩ := hs
  obtain ⟨hn1, hn2⟩ := hn
  obtain ⟨hu1, hu2⟩ := hu
  obtain ⟨f1, f2, f3, f4, f5, f6⟩ := f
  by_cases d5 : 1000 * n - x = 500
  · have p := f5 d5
    have d6 : ¬ (1000 * n - x = -500) := by omega
    clear f5 f6
    go_wp2
    go_ret
    exact ⟨rfl, B1.out⟩
  · by_cases d6 : 1000 * n - x = -500
    · have p := f6 d6
      clear f5 f6
      go_wp2
      go_ret
      exact ⟨rfl, B1.out⟩
    · clear f5 f6
      go_wp2
      go_ret
      exact ⟨rfl, B1.out⟩
end Go.Proofs.Ytnegicbdkmcjhaa
