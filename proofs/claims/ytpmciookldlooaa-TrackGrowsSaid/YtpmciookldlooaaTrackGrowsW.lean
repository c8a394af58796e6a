/- TrackGrows: the walk. -/
import Derived.Test.YtpmciookldlooaaTkB
namespace Go.Proofs.Ytpmciookldlooaa
open Go.RowKit
open Fx Tk

set_option linter.unusedSimpArgs false
set_option linter.unusedVariables false
set_option maxRecDepth 100000 in
set_option maxHeartbeats 3200000 in
theorem trackGrows_walk (a b c k : Int) (hb1 : -9223372036854775808 ≤ b) (ha1 : -9223372036854775808 ≤ a) (hc1 : -9223372036854775808 ≤ c) (hk1 : 0 ≤ k) (hk2 : k ≤ 65535) (w : World) :
    Calls Try.prog 4 #[.int .i64 a, .int .i64 b, .int .i64 c, .int .u16 k] w fun e w' => e = .returned (.bool true) ∧ Below w.heap.size w w' := by
  have hn := wt_le a b c
  have g1 : Hid (wt a b c ≤ wt a b (c + k)) := wt_grows (Int.le_refl _) (Int.le_refl _) (by omega)
  have g2 : Hid (wt a b c ≤ wt a (b + k) c) := wt_grows (Int.le_refl _) (by omega) (Int.le_refl _)
  have g3 : Hid (wt (a + k) b c ≤ wt a b c) := wt_grows (by omega) (Int.le_refl _) (Int.le_refl _)
  go_enter Try.func4, Try.ntmps4
  go_wp2_with fail
  refine (head_any _).mono ?_
  rintro e w1 ⟨rfl, b1⟩
  have B1 := Lib.hid b1
  clear b1
  go_wp2_with fail
  refine (want_any a b c _).mono ?_
  rintro e w2 ⟨rfl, b2⟩
  have B2 := Lib.hid (B1.out.trans (b2.mono B1.out.size))
  clear B1 b2
  generalize wt a b c = n at *
  obtain ⟨hn1, hn2⟩ := hn
  by_cases ha : 1099511627776 < a
  · clear g1 g2 g3
    go_wp2
    go_ret
    exact ⟨rfl, B2.out⟩
  have ha' : a ≤ 1099511627776 := by omega
  by_cases hb : 1099511627776 < b
  · clear g1 g2 g3
    go_wp2
    go_ret
    exact ⟨rfl, B2.out⟩
  have hb' : b ≤ 1099511627776 := by omega
  by_cases hc : 1099511627776 < c
  · clear g1 g2 g3
    go_wp2
    go_ret
    exact ⟨rfl, B2.out⟩
  have hc' : c ≤ 1099511627776 := by omega
  have w1 : IntKind.i64.wrap (c + k) = c + k := by rw [IntKind.wrap_i64]; omega
  have w2 : IntKind.i64.wrap (b + k) = b + k := by rw [IntKind.wrap_i64]; omega
  have w3 : IntKind.i64.wrap (a + k) = a + k := by rw [IntKind.wrap_i64]; omega
  go_wp2_with fail
  refine (want_any a b (c + k) _).mono ?_
  rintro e w3 ⟨rfl, b3⟩
  have B3 := Lib.hid (B2.out.trans (b3.mono B2.out.size))
  clear B2 b3
  have g1 := g1.out
  generalize wt a b (c + k) = n1 at *
  go_wp2_with fail
  refine (want_any a (b + k) c _).mono ?_
  rintro e w4 ⟨rfl, b4⟩
  have B4 := Lib.hid (B3.out.trans (b4.mono B3.out.size))
  clear B3 b4
  have g2 := g2.out
  generalize wt a (b + k) c = n2 at *
  go_wp2_with fail
  refine (want_any (a + k) b c _).mono ?_
  rintro e w5 ⟨rfl, b5⟩
  have B5 := Lib.hid (B4.out.trans (b5.mono B4.out.size))
  clear B4 b5
  have g3 := g3.out
  generalize wt (a + k) b c = n3 at *
  go_wp2
  go_ret
  exact ⟨rfl, B5.out⟩
end Go.Proofs.Ytpmciookldlooaa
