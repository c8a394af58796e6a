/- SchedTells: the walk. -/
import Derived.Test.YtipblgongblklaaSdC
namespace Go.Proofs.Ytipblgongblklaa
set_option linter.unusedSimpArgs false
open Go.RowKit
open Wir Evn Stp Sdl
attribute [local go_sem] Oper.semAt_some
set_option linter.unusedVariables false

set_option maxRecDepth 100000 in
set_option maxHeartbeats 3200000 in
theorem schedTells_walk {w : World} {a : Option Addr} {n c : Nat} {l : List (Int × Int)} (h : PRow w a n c l) (p : Int) (t : Int) :
    Calls Try.prog 3 #[.int .i64 p, .slice a n c, .int .i64 t] w fun e w' => e = .returned (.bool true) ∧ Below w.heap.size w w' := by
  have hmx := h.1.max
  have hle := h.1.le
  unfold maxLen at hmx
  have HR := Lib.hid h
  clear h
  go_enter Try.func3, Try.ntmps3
  go_wp2_with fail
  refine (head_any _).mono ?_
  rintro e w1 ⟨rfl, b1⟩
  have B1 := Lib.hid b1
  clear b1
  go_wp2_with fail
  refine (right_n (HR.out.on B1.out) p).mono ?_
  rintro e w2 ⟨rfl, b2⟩
  have B2 := Lib.hid (bel2 B1.out b2)
  clear b2 B1
  cases hr : rightD p l
  · clear hr
    go_wp2
    go_ret
    exact ⟨rfl, B2.out⟩
  have HS := Lib.hid (rightD_ hr)
  have HL := Lib.hid HR.out.2
  have HN5 : Hid (n ≤ 100000) := by show _ ≤ _; have := HS.out.few; have := HL.out; omega
  have P1 := HS.out.p1
  have P2 := HS.out.p2
  clear hr
  go_wp2_with fail
  refine (at_any HS.out.p1 HS.out.p2 t _).mono ?_
  rintro e w9 ⟨rfl, h9⟩
  obtain rfl := h9.symm
  go_wp2_with fail
  refine (rat_any HS.out.p1 HS.out.p2 t _).mono ?_
  rintro e w9 ⟨rfl, h9⟩
  obtain rfl := h9.symm
  go_wp2_with fail
  refine (want_any (HR.out.on B2.out) HN5.out HS.out.p1 HS.out.p2 t).mono ?_
  rintro e w3 ⟨rfl, b3⟩
  have B3 := Lib.hid (bel2 B2.out b3)
  clear B2 b3
  go_wp2_with fail
  refine (rwant_any (HR.out.on B3.out) HS.out.p1 HS.out.p2 t).mono ?_
  rintro e w9 ⟨rfl, h9⟩
  obtain rfl := h9.symm
  generalize swn l (tod p t) = m at *
  generalize tod p t = u at *
  go_wp2
  go_ret
  exact ⟨rfl, B3.out⟩
end Go.Proofs.Ytipblgongblklaa
