/- StepTells: the walk. -/
import Derived.Test.YtdlgjnkfinbdoaaStC
namespace Go.Proofs.Ytdlgjnkfinbdoaa
set_option linter.unusedSimpArgs false
set_option linter.unusedVariables false
open Go.RowKit
open Wir Evn Stp
attribute [local go_sem] Oper.semAt_some

set_option maxRecDepth 100000 in
set_option maxHeartbeats 3200000 in
theorem stepTells_walk {w : World} {a : Option Addr} {n c : Nat} {l : List (Int × Int)} (h : PRow w a n c l) (r u : Int) :
    Calls Try.prog 3 #[.slice a n c, .int .i64 r, .int .i64 u] w fun e w' => e = .returned (.bool true) ∧ Below w.heap.size w w' := by
  have hmx := h.1.max
  have hle := h.1.le
  unfold maxLen at hmx
  have HR := Lib.hid h
  clear h
  go_enter Try.func3, Try.ntmps3
  go_wp2_with fail
  refine (head_any _).mono ?_
  rintro e w1 ⟨rfl, b1⟩
  have B1 := Lib.hid b1
  clear b1
  go_wp2_with fail
  refine (right_n (HR.out.on B1.out)).mono ?_
  rintro e w2 ⟨rfl, b2⟩
  have B2 := Lib.hid (bel2 B1.out b2)
  clear b2 B1
  cases hr : rightS l
  · clear hr
    go_wp2
    go_ret
    exact ⟨rfl, B2.out⟩
  have HS := Lib.hid (rightS_ hr)
  have HL := Lib.hid HR.out.2
  have HN6 : Hid (n ≤ 1000000) := by show _ ≤ _; have := HS.out.2.1; have := HL.out; omega
  clear hr
  go_wp2_with fail
  refine (find_any (HR.out.on B2.out) HS.out.2.2.1 HN6.out u).mono ?_
  rintro e w3 ⟨rfl, b3⟩
  have B3 := Lib.hid (bel2 B2.out b3)
  clear B2 b3
  go_wp2_with fail
  refine (rfind_any (HR.out.on B3.out) u).mono ?_
  rintro e w9 ⟨rfl, rfl⟩
  generalize fnd l u = f at *
  go_wp2_with fail
  refine (want_any (HR.out.on B3.out) HS.out.2.2.1 HN6.out HS.out.2.2.2.1 r u).mono ?_
  rintro e w4 ⟨rfl, b4⟩
  have B4 := Lib.hid (bel2 B3.out b4)
  clear B3 b4
  go_wp2_with fail
  refine (rwant_any (HR.out.on B4.out) HS.out.2.2.2.1 r u).mono ?_
  rintro e w9 ⟨rfl, rfl⟩
  generalize wnt l r u = m at *
  go_wp2
  go_ret
  exact ⟨rfl, B4.out⟩
end Go.Proofs.Ytdlgjnkfinbdoaa
