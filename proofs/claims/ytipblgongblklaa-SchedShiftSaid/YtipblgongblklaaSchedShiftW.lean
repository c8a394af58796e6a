/- SchedShift: the walk. -/
import Derived.Test.YtipblgongblklaaSdC
namespace Go.Proofs.Ytipblgongblklaa
set_option linter.unusedSimpArgs false
open Go.RowKit
open Wir Evn Stp Sdl
attribute [local go_sem] Oper.semAt_some
set_option linter.unusedVariables false

set_option maxRecDepth 100000 in
set_option maxHeartbeats 3200000 in
theorem schedShift_walk {w : World} {a : Option Addr} {n c : Nat} {l : List (Int × Int)} (h : PRow w a n c l) (p : Int) (t : Int) (ht : -2147483648 ≤ t ∧ t ≤ 2147483647) :
    Calls Try.prog 8 #[.int .i64 p, .slice a n c, .int .i32 t] w fun e w' => e = .returned (.bool true) ∧ Below w.heap.size w w' := by
  have hmx := h.1.max
  have hle := h.1.le
  unfold maxLen at hmx
  have HR := Lib.hid h
  clear h
  go_enter Try.func8, Try.ntmps8
  go_wp2_with fail
  refine (head_any _).mono ?_
  rintro e w1 ⟨rfl, b1⟩
  have B1 := Lib.hid b1
  clear b1
  go_wp2_with fail
  refine (right_n (HR.out.on B1.out) p).mono ?_
  rintro e w2 ⟨rfl, b2⟩
  have B2 := Lib.hid (bel2 B1.out b2)
  clear b2 B1
  cases hr : rightD p l
  · clear hr
    go_wp2
    go_ret
    exact ⟨rfl, B2.out⟩
  have HS := Lib.hid (rightD_ hr)
  have HL := Lib.hid HR.out.2
  have HN5 : Hid (n ≤ 100000) := by show _ ≤ _; have := HS.out.few; have := HL.out; omega
  have P1 := HS.out.p1
  have P2 := HS.out.p2
  clear hr
  have e1 : IntKind.i64.wrap t = t := by rw [IntKind.wrap_i64]; omega
  have e2 : IntKind.i64.wrap (t + 1) = t + 1 := by rw [IntKind.wrap_i64]; omega
  have HI := Lib.hid (tod_in P1 t)
  have HX := Lib.hid (tod_next P1 t)
  have HD := Lib.hid (tod_tod p t)
  go_wp2_with fail
  refine (at_any HS.out.p1 HS.out.p2 t _).mono ?_
  rintro e w9 ⟨rfl, h9⟩
  obtain rfl := h9.symm
  obtain ⟨i1, i2⟩ := HI.out
  generalize hN : tod p t = N at *
  have HN := Lib.hid hN
  clear hN
  go_wp2_with fail
  refine (at_any HS.out.p1 HS.out.p2 (t + 1) _).mono ?_
  rintro e w9 ⟨rfl, h9⟩
  obtain rfl := h9.symm
  generalize tod p (t + 1) = N1 at *
  have e3 : IntKind.i64.wrap (N + 1) = N + 1 := by rw [IntKind.wrap_i64]; omega
  have e4 : IntKind.i64.wrap (p - 1) = p - 1 := by rw [IntKind.wrap_i64]; omega
  rcases HX.out with hx | ⟨hx, hy⟩
  · subst hx
    go_wp2_with fail
    refine (want_to (HR.out.on B2.out) HN5.out HS.out.p1 HS.out.p2 N (swn l N) (by rw [HD.out])).mono ?_
    rintro e w3 ⟨rfl, b3⟩
    have B3 := Lib.hid (bel2 B2.out b3)
    clear B2 b3
    go_wp2_with fail
    refine (want_to (HR.out.on B3.out) HN5.out HS.out.p1 HS.out.p2 t (swn l N) (by rw [HN.out])).mono ?_
    rintro e w4 ⟨rfl, b4⟩
    have B4 := Lib.hid (bel2 B3.out b4)
    clear B3 b4
    generalize swn l N = m at *
    go_wp2
    go_ret
    exact ⟨rfl, B4.out⟩
  · subst hy
    have d0 : ((0 : Int) == N + 1) = false := by simp; omega
    have d1 : (N == p - 1) = true := by simpa using hx
    clear hx
    go_wp2_with fail
    refine (want_to (HR.out.on B2.out) HN5.out HS.out.p1 HS.out.p2 N (swn l N) (by rw [HD.out])).mono ?_
    rintro e w3 ⟨rfl, b3⟩
    have B3 := Lib.hid (bel2 B2.out b3)
    clear B2 b3
    go_wp2_with fail
    refine (want_to (HR.out.on B3.out) HN5.out HS.out.p1 HS.out.p2 t (swn l N) (by rw [HN.out])).mono ?_
    rintro e w4 ⟨rfl, b4⟩
    have B4 := Lib.hid (bel2 B3.out b4)
    clear B3 b4
    generalize swn l N = m at *
    go_wp2
    go_ret
    exact ⟨rfl, B4.out⟩
end Go.Proofs.Ytipblgongblklaa
