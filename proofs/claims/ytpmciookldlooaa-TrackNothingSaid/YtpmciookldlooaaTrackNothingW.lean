/- TrackNothing: the walk. -/
import Derived.Test.YtpmciookldlooaaTkB
namespace Go.Proofs.Ytpmciookldlooaa
open Go.RowKit
open Fx Tk

set_option linter.unusedSimpArgs false
set_option linter.unusedVariables false
set_option maxRecDepth 100000 in
set_option maxHeartbeats 3200000 in
theorem trackNothing_walk (a b c : Int) (w : World) :
    Calls Try.prog 7 #[.int .i64 a, .int .i64 b, .int .i64 c] w fun e w' => e = .returned (.bool true) ∧ Below w.heap.size w w' := by
  have hn := wt_le a b c
  have g := Lib.hid (fun (h1 : 0 < b) (h2 : 0 < c) => wt_none (t := a) h1 h2)
  have z := Lib.hid (fun (h : b ≤ 0 ∨ c ≤ 0) => wt_zero (t := a) h)
  go_enter Try.func7, Try.ntmps7
  go_wp2_with fail
  refine (head_any _).mono ?_
  rintro e w1 ⟨rfl, b1⟩
  have B1 := Lib.hid b1
  clear b1
  go_wp2_with fail
  refine (want_any a b c _).mono ?_
  rintro e w2 ⟨rfl, b2⟩
  have B2 := Lib.hid (B1.out.trans (b2.mono B1.out.size))
  clear B1 b2
  by_cases hb : b ≤ 0
  · rw [z.out (.inl hb)]
    clear g z hn
    go_wp2
    go_ret
    exact ⟨rfl, B2.out⟩
  have hb' : 0 < b := by omega
  by_cases hc : c ≤ 0
  · rw [z.out (.inr hc)]
    clear g z hn
    go_wp2
    go_ret
    exact ⟨rfl, B2.out⟩
  have hc' : 0 < c := by omega
  have g' := g.out hb' hc'
  clear g z
  generalize wt a b c = n at *
  obtain ⟨hn1, hn2⟩ := hn
  obtain ⟨C, hC⟩ : ∃ C, C = min b 1000 := ⟨_, rfl⟩
  obtain ⟨U, hU⟩ : ∃ U, U = min c 1000000000 := ⟨_, rfl⟩
  obtain ⟨T, hT⟩ : ∃ T, T = min (max a 1) 1000000000 := ⟨_, rfl⟩
  rw [← hC, ← hU, ← hT] at g'
  have m1 := hC.symm
  have m2 := hU.symm
  have m3 := hT.symm
  have c1 : 0 < C := by omega
  have c2 : C ≤ 1000 := by omega
  have u1 : 0 < U := by omega
  have u2 : U ≤ 1000000000 := by omega
  have t1 : 1 ≤ T := by omega
  have t2 : T ≤ 1000000000 := by omega
  clear hC hU hT
  have p0 : 0 ≤ C * U := Int.mul_nonneg (by omega) (by omega)
  have p1 : C * U ≤ 1000 * 1000000000 := Int.mul_le_mul c2 u2 (by omega) (by omega)
  have k1 : 1000 * C * U = 1000 * (C * U) := Int.mul_assoc _ _ _
  rw [k1] at g'
  have w1 : IntKind.i64.wrap (1000 * C) = 1000 * C := by rw [IntKind.wrap_i64]; omega
  have w2 : IntKind.i64.wrap (1000 * C * U) = 1000 * (C * U) := by rw [k1, IntKind.wrap_i64]; omega
  clear k1
  by_cases n0 : n = 0
  · have l := g'.1 n0
    clear g'
    have d1 : (n == 0) = true := by simp [n0]
    have d2 : decide (1000 * (C * U) < T) = true := by simp [l]
    clear n0
    go_wp2
    go_ret
    exact ⟨rfl, B2.out⟩
  have l : ¬ (1000 * (C * U) < T) := fun h => n0 (g'.2 h)
  clear g'
  have d1 : (n == 0) = false := by simp [n0]
  have d2 : decide (1000 * (C * U) < T) = false := by simp; omega
  go_wp2
  go_ret
  exact ⟨rfl, B2.out⟩
end Go.Proofs.Ytpmciookldlooaa
