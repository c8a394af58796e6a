/- StepEdges: the walk. -/
import Derived.Test.YtdlgjnkfinbdoaaStC
namespace Go.Proofs.Ytdlgjnkfinbdoaa
set_option linter.unusedSimpArgs false
set_option linter.unusedVariables false
open Go.RowKit
open Wir Evn Stp
attribute [local go_sem] Oper.semAt_some

set_option maxRecDepth 100000 in
set_option maxHeartbeats 3200000 in
theorem stepEdges_walk {w : World} {a : Option Addr} {n c : Nat} {l : List (Int × Int)} (h : PRow w a n c l) (q : Int) (hq : 0 ≤ q ∧ q ≤ 255) :
    Calls Try.prog 5 #[.slice a n c, .int .u8 q] w fun e w' => e = .returned (.bool true) ∧ Below w.heap.size w w' := by
  have hmx := h.1.max
  have hle := h.1.le
  unfold maxLen at hmx
  have HR := Lib.hid h
  clear h
  go_enter Try.func5, Try.ntmps5
  go_wp2_with fail
  refine (head_any _).mono ?_
  rintro e w1 ⟨rfl, b1⟩
  have B1 := Lib.hid b1
  clear b1
  go_wp2_with fail
  refine (right_n (HR.out.on B1.out)).mono ?_
  rintro e w2 ⟨rfl, b2⟩
  have B2 := Lib.hid (bel2 B1.out b2)
  clear b2 B1
  cases hr : rightS l
  · clear hr
    go_wp2
    go_ret
    exact ⟨rfl, B2.out⟩
  have HS := Lib.hid (rightS_ hr)
  have HL := Lib.hid HR.out.2
  have HN6 : Hid (n ≤ 1000000) := by show _ ≤ _; have := HS.out.2.1; have := HL.out; omega
  clear hr
  have hn0 : 0 < n := by have := HS.out.1; have := HL.out; omega
  have hn1 : (n : Int) ≠ 0 := by omega
  obtain ⟨k, hk⟩ : ∃ k : Nat, q.tmod (n : Int) = (k : Int) ∧ k < n := ⟨(q.tmod (n : Int)).toNat, by rw [Int.tmod_eq_emod_of_nonneg hq.1]; have := Int.emod_nonneg q hn1; omega, by rw [Int.tmod_eq_emod_of_nonneg hq.1]; have := Int.emod_nonneg q hn1; have := Int.emod_lt_of_pos q (show (0 : Int) < n by omega); omega⟩
  obtain ⟨hk, hkn⟩ := hk
  have hk' : q % (n : Int) = (k : Int) := by rw [← Int.tmod_eq_emod_of_nonneg hq.1]; exact hk
  have hlt' : (k : Int) < (n : Int) := by omega
  have hk0 : (0 : Int) ≤ (k : Int) := by omega
  have hkl : k < l.length := by have := HL.out; omega
  have hab := HS.out.2.2.2.2 k hkl
  have F1 := Lib.hid (fnd_at HS.out.2.2.1 hkl)
  have F2 := Lib.hid (fnd_below HS.out.2.2.1 hkl)
  obtain ⟨b, o, rfl, hbl, hc⟩ := HR.out.cell (by omega)
  have c0 := (hc k hkn).1
  have e0 : (l.getD k (0, 0)).1 = ab l k := rfl
  rw [e0] at c0
  clear hc e0
  generalize ab l k = x at *
  have wx : IntKind.i64.wrap (x - 1) = x - 1 := by rw [IntKind.wrap_i64]; omega
  have wk : IntKind.i64.wrap ((k : Int) - 1) = (k : Int) - 1 := by rw [IntKind.wrap_i64]; omega
  have wq : IntKind.i64.wrap (k : Int) = (k : Int) := by rw [IntKind.wrap_i64]; omega
  have c2 := (B2.out.cell (p := ⟨b, o + k * 2, none⟩) hbl).trans c0
  have C0 := Lib.hid c0
  clear c0 hkl hab
  go_wp2_with fail
  refine (find_to (HR.out.on B2.out) HS.out.2.2.1 HN6.out x _ F1.out).mono ?_
  rintro e w3 ⟨rfl, b3⟩
  have B3 := Lib.hid (bel2 B2.out b3)
  clear B2 b3
  have c3 := (B3.out.cell (p := ⟨b, o + k * 2, none⟩) hbl).trans C0.out
  go_wp2_with fail
  refine (find_to (HR.out.on B3.out) HS.out.2.2.1 HN6.out (x - 1) _ F2.out).mono ?_
  rintro e w4 ⟨rfl, b4⟩
  have B4 := Lib.hid (bel2 B3.out b4)
  clear B3 b4
  go_wp2
  go_ret
  exact ⟨rfl, B4.out⟩
end Go.Proofs.Ytdlgjnkfinbdoaa
