/- The head of the statements on fixed: it is true. -/
import Derived.Test.YtnegicbdkmcjhaaFxB
namespace Go.Proofs.Ytnegicbdkmcjhaa
open Go.RowKit
open Fx

section
variable (a b v : Int) (w : World)
theorem sat_to (h : sat a = v) : Calls Try.prog 10 #[.int .i64 a] w fun e w' => e = .returned (.int .i64 v) ∧ w' = w := h ▸ sat_any a w
theorem add_to (h : add a b = v) : Calls Try.prog 12 #[.int .i64 a, .int .i64 b] w fun e w' => e = .returned (.int .i64 v) ∧ w' = w := h ▸ add_any a b w
theorem sub_to (h : sub a b = v) : Calls Try.prog 14 #[.int .i64 a, .int .i64 b] w fun e w' => e = .returned (.int .i64 v) ∧ w' = w := h ▸ sub_any a b w
theorem mul_to (h : mul a b = v) : Calls Try.prog 16 #[.int .i64 a, .int .i64 b] w fun e w' => e = .returned (.int .i64 v) ∧ Below w.heap.size w w' := h ▸ mul_any a b w
theorem div_to (h : div a b = v) : Calls Try.prog 18 #[.int .i64 a, .int .i64 b] w fun e w' => e = .returned (.int .i64 v) ∧ Below w.heap.size w w' := h ▸ div_any a b w
theorem up_to (h : up a = v) : Calls Try.prog 22 #[.int .i64 a] w fun e w' => e = .returned (.int .i64 v) ∧ w' = w := h ▸ up_any a w
theorem near_to (h : near a = v) : Calls Try.prog 24 #[.int .i64 a] w fun e w' => e = .returned (.int .i64 v) ∧ w' = w := h ▸ near_any a w
end
theorem clamp_to (n l m v : Int) (w : World) (h : clamp n l m = v) : Calls Try.prog 20 #[.int .i64 n, .int .i64 l, .int .i64 m] w fun e w' => e = .returned (.int .i64 v) ∧ w' = w := h ▸ clamp_any n l m w

set_option maxRecDepth 100000 in
set_option maxHeartbeats 3200000 in
theorem head_any (w : World) :
    Calls Try.prog 9 #[] w fun e w' => e = .returned (.bool true) ∧ Below w.heap.size w w' := by
  have B0 := Lib.hid (Below.refl w.heap.size w)
  go_enter Try.func9, Try.ntmps9
  go_wp2_with fail
  refine (sat_to 4611686018427387904 1000000000 _ (by decide +kernel)).mono ?_
  rintro e w1 ⟨rfl, rfl⟩
  go_wp2_with fail
  refine (sat_to (-5) (-5) _ (by decide +kernel)).mono ?_
  rintro e w1 ⟨rfl, rfl⟩
  go_wp2_with fail
  refine (add_to 999999999 5 1000000000 _ (by decide +kernel)).mono ?_
  rintro e w1 ⟨rfl, rfl⟩
  go_wp2_with fail
  refine (sub_to 1 3 (-2) _ (by decide +kernel)).mono ?_
  rintro e w1 ⟨rfl, rfl⟩
  go_wp2_with fail
  refine (mul_to 1500 (-1500) (-2250) _ (by decide +kernel)).mono ?_
  rintro e w1 ⟨rfl, b1⟩
  have B1 := Lib.hid (B0.out.trans (b1.mono B0.out.size))
  clear B0 b1
  go_wp2_with fail
  refine (mul_to (-1) 999 0 _ (by decide +kernel)).mono ?_
  rintro e w2 ⟨rfl, b2⟩
  have B2 := Lib.hid (B1.out.trans (b2.mono B1.out.size))
  clear B1 b2
  go_wp2_with fail
  refine (div_to 1000 3000 333 _ (by decide +kernel)).mono ?_
  rintro e w3 ⟨rfl, b3⟩
  have B3 := Lib.hid (B2.out.trans (b3.mono B2.out.size))
  clear B2 b3
  go_wp2_with fail
  refine (div_to (-1) 0 (-1000000000) _ (by decide +kernel)).mono ?_
  rintro e w4 ⟨rfl, b4⟩
  have B4 := Lib.hid (B3.out.trans (b4.mono B3.out.size))
  clear B3 b4
  go_wp2_with fail
  refine (div_to 0 0 0 _ (by decide +kernel)).mono ?_
  rintro e w5 ⟨rfl, b5⟩
  have B5 := Lib.hid (B4.out.trans (b5.mono B4.out.size))
  clear B4 b5
  go_wp2_with fail
  refine (clamp_to 5 7 9 7 _ (by decide +kernel)).mono ?_
  rintro e w6 ⟨rfl, rfl⟩
  go_wp2_with fail
  refine (clamp_to 5 7 3 7 _ (by decide +kernel)).mono ?_
  rintro e w6 ⟨rfl, rfl⟩
  go_wp2_with fail
  refine (up_to 1001 2 _ (by decide +kernel)).mono ?_
  rintro e w6 ⟨rfl, rfl⟩
  go_wp2_with fail
  refine (up_to (-1001) (-1) _ (by decide +kernel)).mono ?_
  rintro e w6 ⟨rfl, rfl⟩
  go_wp2_with fail
  refine (near_to 1500 2 _ (by decide +kernel)).mono ?_
  rintro e w6 ⟨rfl, rfl⟩
  go_wp2_with fail
  refine (near_to (-1500) (-2) _ (by decide +kernel)).mono ?_
  rintro e w6 ⟨rfl, rfl⟩
  go_wp2_with fail
  refine (near_to 1499 1 _ (by decide +kernel)).mono ?_
  rintro e w6 ⟨rfl, rfl⟩
  go_wp2
  go_ret
  exact ⟨rfl, B5.out⟩
theorem right_any (n : Int) (w : World) :
    Calls Try.prog 26 #[.int .i64 n] w fun e w' => e = .returned (.bool (decide (-1000000000 ≤ n ∧ n ≤ 1000000000))) ∧ w' = w := by
  by_cases h1 : -1000000000 ≤ n
  · by_cases h2 : n ≤ 1000000000
    · rw [decide_eq_true ⟨h1, h2⟩]
      go_enter Try.func26, Try.ntmps26
      go_wp2
      go_ret
      exact ⟨rfl, rfl⟩
    · rw [decide_eq_false (fun h => h2 h.2)]
      have h3 : 1000000000 < n := by omega
      go_enter Try.func26, Try.ntmps26
      go_wp2
      go_ret
      exact ⟨rfl, rfl⟩
  · rw [decide_eq_false (fun h => h1 h.1)]
    have h3 : n < -1000000000 := by omega
    go_enter Try.func26, Try.ntmps26
    go_wp2
    go_ret
    exact ⟨rfl, rfl⟩
theorem right_yes (n : Int) (w : World) (h : -1000000000 ≤ n ∧ n ≤ 1000000000) :
    Calls Try.prog 26 #[.int .i64 n] w fun e w' => e = .returned (.bool true) ∧ w' = w :=
  (right_any n w).mono fun e w' ⟨he, hw⟩ => ⟨by rw [he, decide_eq_true h], hw⟩
theorem right_no (n : Int) (w : World) (h : ¬ (-1000000000 ≤ n ∧ n ≤ 1000000000)) :
    Calls Try.prog 26 #[.int .i64 n] w fun e w' => e = .returned (.bool false) ∧ w' = w :=
  (right_any n w).mono fun e w' ⟨he, hw⟩ => ⟨by rw [he, decide_eq_false h], hw⟩
end Go.Proofs.Ytnegicbdkmcjhaa
