/- FixedTurns: the walk. -/
import Derived.Test.YtnegicbdkmcjhaaFxC
namespace Go.Proofs.Ytnegicbdkmcjhaa
open Go.RowKit
open Fx

set_option linter.unusedSimpArgs false in
set_option maxRecDepth 100000 in
set_option maxHeartbeats 3200000 in
theorem fixedTurns_walk (a b : Int) (w : World) :
    Calls Try.prog 5 #[.int .i64 a, .int .i64 b] w fun e w' => e = .returned (.bool true) ∧ Below w.heap.size w w' := by
  have hx := sat_le a
  have hy := sat_le b
  go_enter Try.func5, Try.ntmps5
  go_wp2_with fail
  refine (head_any _).mono ?_
  rintro e w1 ⟨rfl, b1⟩
  have B1 := Lib.hid b1
  clear b1
  go_wp2_with fail
  refine (sat_any a _).mono ?_
  rintro e w9 ⟨rfl, rfl⟩
  go_wp2_with fail
  refine (sat_any b _).mono ?_
  rintro e w9 ⟨rfl, rfl⟩
  generalize sat a = x at *
  generalize sat b = y at *
  obtain ⟨hx1, hx2⟩ := hx
  obtain ⟨hy1, hy2⟩ := hy
  have c1 : Hid (add y x = add x y) := (by show add y x = _; unfold add; rw [Int.add_comm])
  have c2 : Hid (mul y x = mul x y) := mul_comm _ _
  have c3 : Hid (sub y x = -sub x y) := (by show sub y x = _; unfold sub; rw [← sat_neg]; congr 1; omega)
  have c4 : Hid (add (-x) (-y) = -add x y) := (by show sat (sat (-x) + sat (-y)) = -sat (sat x + sat y); rw [sat_neg x, sat_neg y, ← sat_neg (sat x + sat y)]; congr 1; omega)
  have c5 : Hid (mul (-x) y = -mul x y) := mul_neg _ _
  have c6 : Hid (div (-x) y = -div x y) := div_neg _ _
  have c7 : Hid (near (-x) = -near x) := near_neg _
  have c8 : Hid (add x (-y) = sub x y) := (by show add x (-y) = _; unfold add sub; rw [sat_neg]; congr 1)
  have c9 : Hid (mul x 1000 = x) := mul_thousand hx1 hx2
  have c10 : Hid (div x 1000 = x) := div_thousand hx1 hx2
  have A1 := Lib.hid (fun w => add_any x y w)
  have M1 := Lib.hid (fun w => mul_any x y w)
  have S1 := Lib.hid (fun w => sub_any x y w)
  have D1 := Lib.hid (fun w => div_any x y w)
  have N1 := Lib.hid (fun w => near_any x w)
  have r1 := add_le x y
  have r2 := mul_le x y
  have r3 := sub_le x y
  have r4 := div_le x y
  have r5 := near_le x
  generalize add x y = A at *
  generalize mul x y = P at *
  generalize sub x y = S at *
  generalize div x y = D at *
  generalize near x = N at *
  obtain ⟨r11, r12⟩ := r1
  obtain ⟨r21, r22⟩ := r2
  obtain ⟨r31, r32⟩ := r3
  obtain ⟨r41, r42⟩ := r4
  obtain ⟨r51, r52⟩ := r5
  go_wp2_with fail
  refine (A1.out _).mono ?_
  rintro e w9 ⟨rfl, rfl⟩
  go_wp2_with fail
  refine (add_to y x A _ c1.out).mono ?_
  rintro e w9 ⟨rfl, rfl⟩
  go_wp2_with fail
  refine (M1.out _).mono ?_
  rintro e w2 ⟨rfl, b2⟩
  have B2 := Lib.hid (B1.out.trans (b2.mono B1.out.size))
  clear B1 b2
  go_wp2_with fail
  refine (mul_to y x P _ c2.out).mono ?_
  rintro e w3 ⟨rfl, b3⟩
  have B3 := Lib.hid (B2.out.trans (b3.mono B2.out.size))
  clear B2 b3
  go_wp2_with fail
  refine (S1.out _).mono ?_
  rintro e w9 ⟨rfl, rfl⟩
  go_wp2_with fail
  refine (sub_to y x (-S) _ c3.out).mono ?_
  rintro e w9 ⟨rfl, rfl⟩
  go_wp2_with fail
  refine (add_to (-x) (-y) (-A) _ c4.out).mono ?_
  rintro e w9 ⟨rfl, rfl⟩
  go_wp2_with fail
  refine (A1.out _).mono ?_
  rintro e w9 ⟨rfl, rfl⟩
  go_wp2_with fail
  refine (mul_to (-x) y (-P) _ c5.out).mono ?_
  rintro e w4 ⟨rfl, b4⟩
  have B4 := Lib.hid (B3.out.trans (b4.mono B3.out.size))
  clear B3 b4
  go_wp2_with fail
  refine (M1.out _).mono ?_
  rintro e w5 ⟨rfl, b5⟩
  have B5 := Lib.hid (B4.out.trans (b5.mono B4.out.size))
  clear B4 b5
  go_wp2_with fail
  refine (div_to (-x) y (-D) _ c6.out).mono ?_
  rintro e w6 ⟨rfl, b6⟩
  have B6 := Lib.hid (B5.out.trans (b6.mono B5.out.size))
  clear B5 b6
  go_wp2_with fail
  refine (D1.out _).mono ?_
  rintro e w7 ⟨rfl, b7⟩
  have B7 := Lib.hid (B6.out.trans (b7.mono B6.out.size))
  clear B6 b7
  go_wp2_with fail
  refine (near_to (-x) (-N) _ c7.out).mono ?_
  rintro e w9 ⟨rfl, rfl⟩
  go_wp2_with fail
  refine (N1.out _).mono ?_
  rintro e w9 ⟨rfl, rfl⟩
  go_wp2_with fail
  refine (S1.out _).mono ?_
  rintro e w9 ⟨rfl, rfl⟩
  go_wp2_with fail
  refine (add_to x (-y) S _ c8.out).mono ?_
  rintro e w9 ⟨rfl, rfl⟩
  go_wp2_with fail
  refine (mul_to x 1000 x _ c9.out).mono ?_
  rintro e w8 ⟨rfl, b8⟩
  have B8 := Lib.hid (B7.out.trans (b8.mono B7.out.size))
  clear B7 b8
  go_wp2_with fail
  refine (div_to x 1000 x _ c10.out).mono ?_
  rintro e w9 ⟨rfl, b9⟩
  have B9 := Lib.hid (B8.out.trans (b9.mono B8.out.size))
  clear B8 b9
  go_wp2
  go_ret
  exact ⟨rfl, B9.out⟩
end Go.Proofs.Ytnegicbdkmcjhaa
