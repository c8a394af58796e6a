/- FixedBack: the walk. -/
import Derived.Test.YtnegicbdkmcjhaaFxC
namespace Go.Proofs.Ytnegicbdkmcjhaa
open Go.RowKit
open Fx

set_option linter.unusedSimpArgs false in
set_option maxRecDepth 100000 in
set_option maxHeartbeats 3200000 in
theorem fixedBack_walk (a b : Int) (ha0 : -2147483648 ≤ a ∧ a ≤ 2147483647) (hb00 : -2147483648 ≤ b ∧ b ≤ 2147483647) (w : World) :
    Calls Try.prog 8 #[.int .i32 a, .int .i32 b] w fun e w' => e = .returned (.bool true) ∧ Below w.heap.size w w' := by
  obtain ⟨ha01, ha02⟩ := ha0
  obtain ⟨hb01, hb02⟩ := hb00
  have hd := div_le a b
  have hb : Hid (-1000000000 ≤ a → a ≤ 1000000000 → -1000000000 ≤ b → b ≤ 1000000000 → b ≠ 0 → -1000000000 < div a b → div a b < 1000000000 → 1000 * a - div a b * b < max b (-b) ∧ -(max b (-b)) < 1000 * a - div a b * b ∧ (1000 * a - div a b * b = 0 ∨ (0 < 1000 * a - div a b * b ↔ 0 < a))) := fun h1 h2 h3 h4 h5 h6 h7 => div_back h1 h2 h3 h4 h5 h6 h7
  go_enter Try.func8, Try.ntmps8
  go_wp2_with fail
  refine (head_any _).mono ?_
  rintro e w1 ⟨rfl, b1⟩
  have B1 := Lib.hid b1
  clear b1
  go_wp2_with fail
  refine (div_any a b _).mono ?_
  rintro e w2 ⟨rfl, b2⟩
  have B2 := Lib.hid (B1.out.trans (b2.mono B1.out.size))
  clear B1 b2
  generalize div a b = q at *
  obtain ⟨hd1, hd2⟩ := hd
  by_cases hb0 : b = 0
  · subst hb0
    go_wp2
    go_ret
    exact ⟨rfl, B2.out⟩
  · by_cases ha : -1000000000 ≤ a ∧ a ≤ 1000000000
    · go_wp2_with fail
      refine (right_yes a _ ha).mono ?_
      rintro e w9 ⟨rfl, rfl⟩
      by_cases hbr : -1000000000 ≤ b ∧ b ≤ 1000000000
      · go_wp2_with fail
        refine (right_yes b _ hbr).mono ?_
        rintro e w9 ⟨rfl, rfl⟩
        by_cases hq1 : 1000000000 ≤ q
        · go_wp2
          go_ret
          exact ⟨rfl, B2.out⟩
        · have hq1' : q < 1000000000 := by omega
          by_cases hq2 : q ≤ -1000000000
          · go_wp2
            go_ret
            exact ⟨rfl, B2.out⟩
          · have hq2' : -1000000000 < q := by omega
            obtain ⟨ha1, ha2⟩ := ha
            obtain ⟨hb1, hb2⟩ := hbr
            obtain ⟨l1, l2, l3⟩ := hb.out ha1 ha2 hb1 hb2 hb0 hq2' hq1'
            have hp := prod_le (x := q) (y := b) (M := 1000000000) (N := 1000000000) (by omega) (by omega)
            have hw1 : IntKind.i64.wrap (q * b) = q * b := by rw [IntKind.wrap_i64]; omega
            obtain ⟨m, hm⟩ : ∃ m, m = 1000 * a - q * b := ⟨_, rfl⟩
            have hw2 : IntKind.i64.wrap (1000 * a - q * b) = m := by rw [hm, IntKind.wrap_i64]; omega
            have hw3 : IntKind.i64.wrap (-b) = -b := by rw [IntKind.wrap_i64]; omega
            have hw4 : IntKind.i64.wrap (-(max b (-b))) = -(max b (-b)) := by rw [IntKind.wrap_i64]; omega
            rw [← hm] at l1 l2 l3
            clear hp hm
            have d1 : decide (1000000000 ≤ q) = false := by simp; omega
            have d2 : decide (q ≤ -1000000000) = false := by simp; omega
            skip
            by_cases m0 : m = 0
            · subst m0
              clear l3
              go_wp2
              go_ret
              exact ⟨rfl, B2.out⟩
            · by_cases m1 : 0 < m
              · have a1 : 0 < a := by omega
                clear l3
                go_wp2
                go_ret
                exact ⟨rfl, B2.out⟩
              · have a1 : decide (0 < a) = false := by simp; omega
                have a2 : decide (0 < m) = false := by simp; omega
                clear l3
                go_wp2
                go_ret
                exact ⟨rfl, B2.out⟩
      · go_wp2_with fail
        refine (right_no b _ hbr).mono ?_
        rintro e w9 ⟨rfl, rfl⟩
        go_wp2
        go_ret
        exact ⟨rfl, B2.out⟩
    · go_wp2_with fail
      refine (right_no a _ ha).mono ?_
      rintro e w9 ⟨rfl, rfl⟩
      go_wp2
      go_ret
      exact ⟨rfl, B2.out⟩
end Go.Proofs.Ytnegicbdkmcjhaa
