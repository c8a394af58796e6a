/- StepDeltas: the walk. -/
import Derived.Test.YtdlgjnkfinbdoaaStC
namespace Go.Proofs.Ytdlgjnkfinbdoaa
set_option linter.unusedSimpArgs false
set_option linter.unusedVariables false
open Go.RowKit
open Wir Evn Stp
attribute [local go_sem] Oper.semAt_some

set_option maxRecDepth 100000 in
set_option maxHeartbeats 3200000 in
theorem stepDeltas_walk {w : World} {a : Option Addr} {n c : Nat} {l : List (Int × Int)} (h : PRow w a n c l) (q u : Int) (hq : 0 ≤ q ∧ q ≤ 65535) :
    Calls Try.prog 6 #[.slice a n c, .int .u16 q, .int .i64 u] w fun e w' => e = .returned (.bool true) ∧ Below w.heap.size w w' := by
  have hmx := h.1.max
  have hle := h.1.le
  unfold maxLen at hmx
  have HR := Lib.hid h
  clear h
  go_enter Try.func6, Try.ntmps6
  go_wp2_with fail
  refine (head_any _).mono ?_
  rintro e w1 ⟨rfl, b1⟩
  have B1 := Lib.hid b1
  clear b1
  go_wp2_with fail
  refine (right_n (HR.out.on B1.out)).mono ?_
  rintro e w2 ⟨rfl, b2⟩
  have B2 := Lib.hid (bel2 B1.out b2)
  clear b2 B1
  cases hr : rightS l
  · clear hr
    go_wp2
    go_ret
    exact ⟨rfl, B2.out⟩
  have HS := Lib.hid (rightS_ hr)
  have HL := Lib.hid HR.out.2
  have HN6 : Hid (n ≤ 1000000) := by show _ ≤ _; have := HS.out.2.1; have := HL.out; omega
  clear hr
  obtain ⟨C, hC⟩ : ∃ C, C = q % 1001 := ⟨_, rfl⟩
  have hC0 : 0 ≤ C := by omega
  have hC1 : C ≤ 1000 := by omega
  have hc1 := hC.symm
  clear hC
  have HW : Hid (wnt l C u = if 0 ≤ fnd l u then bnd 0 1000 (C + de l (fnd l u).toNat) else C) := by show _ = _; unfold wnt; rw [bnd_id hC0 hC1]
  go_wp2_with fail
  refine (want_any (HR.out.on B2.out) HS.out.2.2.1 HN6.out HS.out.2.2.2.1 C u).mono ?_
  rintro e w3 ⟨rfl, b3⟩
  have B3 := Lib.hid (bel2 B2.out b3)
  clear B2 b3
  go_wp2_with fail
  refine (rfind_any (HR.out.on B3.out) u).mono ?_
  rintro e w9 ⟨rfl, rfl⟩
  have hf := fnd_le l u
  rw [HL.out] at hf
  by_cases h0 : 0 ≤ fnd l u
  · obtain ⟨k, hk⟩ : ∃ k : Nat, fnd l u = (k : Int) := ⟨(fnd l u).toNat, by omega⟩
    have hkn : k < n := by omega
    have hd := HS.out.2.2.2.1 k (by have := HL.out; omega)
    obtain ⟨b, o, rfl, hbl, hc⟩ := (HR.out.on B3.out).cell (by omega)
    have c1 := (hc k hkn).2
    have e0 : (l.getD k (0, 0)).2 = de l k := rfl
    rw [e0] at c1
    have HW' : Hid (wnt l C u = bnd 0 1000 (C + de l k)) := by show _ = _; rw [HW.out, if_pos h0, hk]; rfl
    rw [HW'.out, hk]
    clear HW HW' h0 hk e0 hc hbl hf
    generalize de l k = D at *
    have hlt' : (k : Int) < (n : Int) := by omega
    have hk0 : (0 : Int) ≤ (k : Int) := by omega
    have w3' : IntKind.i64.wrap (C + D) = C + D := by rw [IntKind.wrap_i64]; omega
    have w4' : min (max (C + D) 0) 1000 = bnd 0 1000 (C + D) := by unfold bnd; omega
    generalize bnd 0 1000 (C + D) = E at *
    go_wp2
    go_ret
    exact ⟨rfl, B3.out⟩
  have HW' : Hid (wnt l C u = C) := by show _ = _; rw [HW.out, if_neg h0]
  rw [HW'.out]
  have hn : fnd l u < 0 := by omega
  clear HW HW' h0
  generalize fnd l u = f at *
  go_wp2
  go_ret
  exact ⟨rfl, B3.out⟩
end Go.Proofs.Ytdlgjnkfinbdoaa
