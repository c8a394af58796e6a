/- FixedOrder: the walk. -/
import Derived.Test.YtnegicbdkmcjhaaFxC
namespace Go.Proofs.Ytnegicbdkmcjhaa
open Go.RowKit
open Fx

set_option linter.unusedSimpArgs false in
set_option maxRecDepth 100000 in
set_option maxHeartbeats 3200000 in
theorem fixedOrder_walk (a b c : Int) (w : World) :
    Calls Try.prog 6 #[.int .i64 a, .int .i64 b, .int .i64 c] w fun e w' => e = .returned (.bool true) ∧ Below w.heap.size w w' := by
  have hxy : sat (min a b) ≤ sat (max a b) := sat_mono (by omega)
  go_enter Try.func6, Try.ntmps6
  go_wp2_with fail
  refine (head_any _).mono ?_
  rintro e w1 ⟨rfl, b1⟩
  have B1 := Lib.hid b1
  clear b1
  go_wp2_with fail
  refine (sat_any (min a b) _).mono ?_
  rintro e w9 ⟨rfl, rfl⟩
  go_wp2_with fail
  refine (sat_any (max a b) _).mono ?_
  rintro e w9 ⟨rfl, rfl⟩
  go_wp2_with fail
  refine (sat_any c _).mono ?_
  rintro e w9 ⟨rfl, rfl⟩
  generalize sat (min a b) = x at *
  generalize sat (max a b) = y at *
  generalize sat c = z at *
  have g1 : add x z ≤ add y z := (by unfold add; exact sat_mono (by have := sat_mono hxy; omega))
  have g2 : sub z y ≤ sub z x := (by unfold sub; exact sat_mono (by have := sat_mono hxy; omega))
  have g3 := up_mono hxy
  have g4 := near_mono hxy
  have g5 : Hid (0 ≤ z → mul x z ≤ mul y z ∧ div x z ≤ div y z) := (fun h => ⟨mul_mono hxy h, div_mono hxy h⟩ : 0 ≤ z → mul x z ≤ mul y z ∧ div x z ≤ div y z)
  have g6 : Hid (z ≤ 0 → mul y z ≤ mul x z) := (fun h => mul_anti hxy h : z ≤ 0 → mul y z ≤ mul x z)
  clear hxy
  go_wp2_with fail
  refine (add_any x z _).mono ?_
  rintro e w9 ⟨rfl, rfl⟩
  go_wp2_with fail
  refine (add_any y z _).mono ?_
  rintro e w9 ⟨rfl, rfl⟩
  go_wp2_with fail
  refine (sub_any z x _).mono ?_
  rintro e w9 ⟨rfl, rfl⟩
  go_wp2_with fail
  refine (sub_any z y _).mono ?_
  rintro e w9 ⟨rfl, rfl⟩
  go_wp2_with fail
  refine (up_any x _).mono ?_
  rintro e w9 ⟨rfl, rfl⟩
  go_wp2_with fail
  refine (up_any y _).mono ?_
  rintro e w9 ⟨rfl, rfl⟩
  go_wp2_with fail
  refine (near_any x _).mono ?_
  rintro e w9 ⟨rfl, rfl⟩
  go_wp2_with fail
  refine (near_any y _).mono ?_
  rintro e w9 ⟨rfl, rfl⟩
  by_cases hz : z < 0
  · have g := g6.out (by omega)
    go_wp2_with fail
    refine (mul_any x z _).mono ?_
    rintro e w2 ⟨rfl, b2⟩
    have B2 := Lib.hid (B1.out.trans (b2.mono B1.out.size))
    clear B1 b2
    go_wp2_with fail
    refine (mul_any y z _).mono ?_
    rintro e w3 ⟨rfl, b3⟩
    have B3 := Lib.hid (B2.out.trans (b3.mono B2.out.size))
    clear B2 b3
    go_wp2
    go_ret
    exact ⟨rfl, B3.out⟩
  · have hz' : 0 ≤ z := by omega
    obtain ⟨gm, gd⟩ := g5.out hz'
    go_wp2_with fail
    refine (mul_any x z _).mono ?_
    rintro e w2 ⟨rfl, b2⟩
    have B2 := Lib.hid (B1.out.trans (b2.mono B1.out.size))
    clear B1 b2
    go_wp2_with fail
    refine (mul_any y z _).mono ?_
    rintro e w3 ⟨rfl, b3⟩
    have B3 := Lib.hid (B2.out.trans (b3.mono B2.out.size))
    clear B2 b3
    go_wp2_with fail
    refine (div_any x z _).mono ?_
    rintro e w4 ⟨rfl, b4⟩
    have B4 := Lib.hid (B3.out.trans (b4.mono B3.out.size))
    clear B3 b4
    go_wp2_with fail
    refine (div_any y z _).mono ?_
    rintro e w5 ⟨rfl, b5⟩
    have B5 := Lib.hid (B4.out.trans (b5.mono B4.out.size))
    clear B4 b5
    go_wp2
    go_ret
    exact ⟨rfl, B5.out⟩
end Go.Proofs.Ytnegicbdkmcjhaa
