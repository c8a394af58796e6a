/- StepFinds: the walk. -/
import Derived.Test.YtdlgjnkfinbdoaaStC
namespace Go.Proofs.Ytdlgjnkfinbdoaa
set_option linter.unusedSimpArgs false
set_option linter.unusedVariables false
open Go.RowKit
open Wir Evn Stp
attribute [local go_sem] Oper.semAt_some

set_option maxRecDepth 100000 in
set_option maxHeartbeats 3200000 in
theorem stepFinds_walk {w : World} {a : Option Addr} {n c : Nat} {l : List (Int × Int)} (h : PRow w a n c l) (u : Int) :
    Calls Try.prog 4 #[.slice a n c, .int .i64 u] w fun e w' => e = .returned (.bool true) ∧ Below w.heap.size w w' := by
  have hmx := h.1.max
  have hle := h.1.le
  unfold maxLen at hmx
  have HR := Lib.hid h
  clear h
  go_enter Try.func4, Try.ntmps4
  go_wp2_with fail
  refine (head_any _).mono ?_
  rintro e w1 ⟨rfl, b1⟩
  have B1 := Lib.hid b1
  clear b1
  go_wp2_with fail
  refine (right_n (HR.out.on B1.out)).mono ?_
  rintro e w2 ⟨rfl, b2⟩
  have B2 := Lib.hid (bel2 B1.out b2)
  clear b2 B1
  cases hr : rightS l
  · clear hr
    go_wp2
    go_ret
    exact ⟨rfl, B2.out⟩
  have HS := Lib.hid (rightS_ hr)
  have HL := Lib.hid HR.out.2
  have HN6 : Hid (n ≤ 1000000) := by show _ ≤ _; have := HS.out.2.1; have := HL.out; omega
  clear hr
  go_wp2_with fail
  refine (find_any (HR.out.on B2.out) HS.out.2.2.1 HN6.out u).mono ?_
  rintro e w3 ⟨rfl, b3⟩
  have B3 := Lib.hid (bel2 B2.out b3)
  clear B2 b3
  have hf := fnd_le l u
  have HI := Lib.hid (fun (i : Nat) (hi : i < l.length) => fnd_iff HS.out.2.2.1 u hi)
  generalize fnd l u = f at *
  rw [HL.out] at hf
  go_wp2_with fail
  go_loopw [7] (fun i wx => ∃ k : Nat, k ≤ n ∧ i = .int .i64 (k : Int) ∧ wx = w3) (fun i _ => n - (intOf i).toNat)
  case atStart => exact ⟨0, Nat.zero_le _, rfl, rfl⟩
  case round =>
    obtain ⟨k, hk, rfl, rfl⟩ := hrel
    by_cases hlt : k < n
    · have hlt' : (k : Int) < (n : Int) := by omega
      have hk0 : (0 : Int) ≤ (k : Int) := by omega
      have hi := HI.out k (by have := HL.out; omega)
      obtain ⟨b, o, rfl, hbl, hc⟩ := (HR.out.on B3.out).cell (by omega)
      have c0 := (hc k hlt).1
      have e0 : (l.getD k (0, 0)).1 = ab l k := rfl
      rw [e0] at c0
      clear hc hbl e0
      generalize ab l k = x at *
      have HK := Lib.hid hlt
      by_cases hx : x ≤ u
      · have hy := hi.1 hx
        have d1 : decide (x ≤ u) = true := decide_eq_true hx
        have d2 : decide ((k : Int) ≤ f) = true := decide_eq_true hy
        clear hi
        go_wp2
        go_roundw
        case rel => exact ⟨k + 1, HK.out, by go_num, by trivial⟩
        case measure => have := HK.out; simp [intOf]; omega
      · have hy : ¬ (k : Int) ≤ f := fun h => hx (hi.2 h)
        have d1 : decide (x ≤ u) = false := decide_eq_false hx
        have d2 : decide ((k : Int) ≤ f) = false := decide_eq_false hy
        clear hi
        go_wp2
        go_roundw
        case rel => exact ⟨k + 1, HK.out, by go_num, by trivial⟩
        case measure => have := HK.out; simp [intOf]; omega
    · have hlt' : ¬ (k : Int) < (n : Int) := by omega
      obtain ⟨hf1, hf2⟩ := hf
      go_wp2
      go_ret
      exact ⟨rfl, B3.out⟩
end Go.Proofs.Ytdlgjnkfinbdoaa
