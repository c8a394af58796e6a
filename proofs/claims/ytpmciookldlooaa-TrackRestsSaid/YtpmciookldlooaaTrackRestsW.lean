/- TrackRests: the walk. -/
import Derived.Test.YtpmciookldlooaaTkB
namespace Go.Proofs.Ytpmciookldlooaa
open Go.RowKit
open Fx Tk

set_option linter.unusedSimpArgs false
set_option linter.unusedVariables false
set_option maxRecDepth 100000 in
set_option maxHeartbeats 3200000 in
theorem trackRests_walk (a b : Int) (ha1 : 0 ≤ a) (ha2 : a ≤ 4294967295) (hb1 : 0 ≤ b) (hb2 : b ≤ 65535) (w : World) :
    Calls Try.prog 5 #[.int .u32 a, .int .u16 b] w fun e w' => e = .returned (.bool true) ∧ Below w.heap.size w w' := by
  obtain ⟨T, hT⟩ : ∃ T, T = 1 + a % 10000 := ⟨_, rfl⟩
  obtain ⟨C, hC⟩ : ∃ C, C = b % 1001 := ⟨_, rfl⟩
  have t1 : 1 ≤ T := by omega
  have t2 : T ≤ 10000 := by omega
  have c1 : 0 ≤ C := by omega
  have c2 : C ≤ 1000 := by omega
  have g0 : Hid (wt T C T = C) := wt_rest t1 t2 c1 c2
  have g1 : Hid (wt T C (T / 2) ≤ C) := Int.le_trans (wt_grows (Int.le_refl _) (Int.le_refl _) (by omega)) (Int.le_of_eq g0)
  have g2 : Hid (C ≤ wt T C (2 * T)) := Int.le_trans (Int.le_of_eq (Eq.symm g0)) (wt_grows (Int.le_refl _) (Int.le_refl _) (by omega))
  have m1 : a % 10000 = T - 1 := by omega
  have m2 : b % 1001 = C := by omega
  have m3 : IntKind.i64.wrap (1 + a % 10000) = T := by rw [IntKind.wrap_i64]; omega
  have m4 : 1 + (T - 1) = T := by omega
  clear hT hC
  go_enter Try.func5, Try.ntmps5
  go_wp2_with fail
  refine (head_any _).mono ?_
  rintro e w1 ⟨rfl, b1⟩
  have B1 := Lib.hid b1
  clear b1
  have B2 := Lib.hid B1.out
  clear B1
  go_wp2_with fail
  refine (want_to T C T C _ g0.out).mono ?_
  rintro e w3 ⟨rfl, b3⟩
  have B3 := Lib.hid (B2.out.trans (b3.mono B2.out.size))
  clear B2 b3
  go_wp2_with fail
  refine (want_any T C (T / 2) _).mono ?_
  rintro e w4 ⟨rfl, b4⟩
  have B4 := Lib.hid (B3.out.trans (b4.mono B3.out.size))
  clear B3 b4
  have g1 := g1.out
  generalize wt T C (T / 2) = n1 at *
  go_wp2_with fail
  refine (want_any T C (2 * T) _).mono ?_
  rintro e w5 ⟨rfl, b5⟩
  have B5 := Lib.hid (B4.out.trans (b5.mono B4.out.size))
  clear B4 b5
  have g2 := g2.out
  generalize wt T C (2 * T) = n2 at *
  go_wp2
  go_ret
  exact ⟨rfl, B5.out⟩
end Go.Proofs.Ytpmciookldlooaa
