/- Contracts of the program's wire: countOf, numberOf, the first byte below 128, number. -/
import Derived.Test.YtnpakjdgcmbcnaaWrA
import Derived.Test.YtnpakjdgcmbcnaaProg
import Derived.Test.YtnpakjdgcmbcnaaChecked
namespace Go.Proofs.Ytnpakjdgcmbcnaa
open Go.RowKit
open Wir

theorem countOf_any (n : Int) (h1 : -9223372036854775808 ≤ n) (h2 : n ≤ 9223372036854775807) (w : World) :
    Calls Try.prog 105 #[.int .i64 n] w fun e w' => e = .returned (.int .u64 ((cnt n : Nat) : Int)) ∧ w' = w := by
  by_cases h0 : n < 0
  · have e1 : IntKind.i64.wrap (n + 1) = n + 1 := by rw [IntKind.wrap_i64]; omega
    have e2 : IntKind.i64.wrap (-(n + 1)) = -(n + 1) := by rw [IntKind.wrap_i64]; omega
    have e3 : IntKind.u64.wrap (-(n + 1)) = -(n + 1) := by rw [IntKind.wrap_u64]; omega
    have e4 : IntKind.u64.wrap (2 * -(n + 1)) = 2 * -(n + 1) := by rw [IntKind.wrap_u64]; omega
    have e5 : IntKind.u64.wrap (2 * -(n + 1) + 1) = ((cnt n : Nat) : Int) := by rw [IntKind.wrap_u64]; unfold cnt; rw [if_neg (by omega)]; omega
    go_enter Try.func105, Try.ntmps105
    go_wp2
    go_ret
    exact ⟨by first | rfl | (rw [e5]) | trace_state, rfl⟩
  · have e3 : IntKind.u64.wrap n = n := by rw [IntKind.wrap_u64]; omega
    have e4 : IntKind.u64.wrap (2 * n) = ((cnt n : Nat) : Int) := by rw [IntKind.wrap_u64]; unfold cnt; rw [if_pos (by omega)]; omega
    go_enter Try.func105, Try.ntmps105
    go_wp2
    go_ret
    exact ⟨by first | rfl | (rw [e4]) | trace_state, rfl⟩
theorem numberOf_any (c : Nat) (h : c < 18446744073709551616) (w : World) :
    Calls Try.prog 85 #[.int .u64 (c : Int)] w fun e w' => e = .returned (.int .i64 (unc c)) ∧ w' = w := by
  have e1 : IntKind.i64.wrap ((c : Int) / 2) = (c : Int) / 2 := by rw [IntKind.wrap_i64]; omega
  by_cases h0 : c % 2 = 1
  · have e0 : (c : Int) % 2 = 1 := by omega
    have e2 : IntKind.i64.wrap (-((c : Int) / 2)) = -((c : Int) / 2) := by rw [IntKind.wrap_i64]; omega
    have e3 : IntKind.i64.wrap (-((c : Int) / 2) - 1) = unc c := by rw [IntKind.wrap_i64]; unfold unc; rw [if_pos h0]; omega
    go_enter Try.func85, Try.ntmps85
    go_wp2
    go_ret
    exact ⟨by first | rfl | (rw [e3]) | trace_state, rfl⟩
  · have e0 : (c : Int) % 2 = 0 := by omega
    have e3 : unc c = (c : Int) / 2 := by unfold unc; rw [if_neg h0]; omega
    go_enter Try.func85, Try.ntmps85
    go_wp2
    go_ret
    exact ⟨ret_i64 e3.symm, rfl⟩
theorem lo_any (c : Nat) (w : World) : Calls Try.prog 84 #[.int .u8 (c : Int)] w fun e w' => e = .returned (.bool (decide (c < 128))) ∧ w' = w := by
  by_cases h : c < 128
  · have h' : (c : Int) < 128 := by omega
    go_enter Try.func84, Try.ntmps84
    go_wp2
    go_ret
    exact ⟨ret_bool (decide_eq_true h).symm, rfl⟩
  · have h' : ¬ (c : Int) < 128 := by omega
    go_enter Try.func84, Try.ntmps84
    go_wp2
    go_ret
    exact ⟨ret_bool (by first | rfl | exact (decide_eq_false h).symm), rfl⟩
/-- The index of the first byte below 128, or -1. -/
def ixI : Option Nat → Int
  | none => -1
  | some k => (k : Int)
theorem find_stop {bs : List Nat} {k : Nat} (hk : k < bs.length) (h1 : bs.getD k 0 < 128) (h2 : ∀ j, j < k → 128 ≤ bs.getD j 0) : bs.findIdx? (fun c => decide (c < 128)) = some k := by
  refine List.findIdx?_eq_some_iff_getElem.2 ⟨hk, ?_, fun j hj => ?_⟩
  · rw [List.getD_eq_getElem?_getD, List.getElem?_eq_getElem hk] at h1
    simpa using h1
  · have := h2 j hj
    rw [List.getD_eq_getElem?_getD, List.getElem?_eq_getElem (by omega)] at this
    simpa using this
theorem find_no {bs : List Nat} (h2 : ∀ j, j < bs.length → 128 ≤ bs.getD j 0) : bs.findIdx? (fun c => decide (c < 128)) = none := by
  refine List.findIdx?_eq_none_iff.2 fun c hc => ?_
  obtain ⟨j, hj, rfl⟩ := List.mem_iff_getElem.1 hc
  have := h2 j hj
  rw [List.getD_eq_getElem?_getD, List.getElem?_eq_getElem hj] at this
  simpa using this
set_option maxHeartbeats 800000 in
theorem ixf_any (a : Option Addr) (len cap : Nat) (bs : List Nat) (w : World) (hs : Sl w w.heap.size a len cap bs) :
    Calls Try.prog 83 #[.slice a len cap, .func (.func 84) #[] #[]] w fun e w' => e = .returned (.int .i64 (ixI (bs.findIdx? fun c => decide (c < 128)))) ∧ w' = w := by
  have hl := hs.length
  have hle := hs.le
  have hmx := hs.max
  unfold maxLen at hmx
  go_enter Try.func83, Try.ntmps83
  go_wp2_with fail
  go_loopw [8] (fun i wr => ∃ k : Nat, k ≤ len ∧ i = .int .i64 (k : Int) ∧ (∀ j, j < k → 128 ≤ bs.getD j 0) ∧ wr = w) (fun i _ => len - (intOf i).toNat)
  case atStart => exact ⟨0, by omega, rfl, fun j hj => absurd hj (by omega), rfl⟩
  case round =>
    obtain ⟨k, hk, rfl, hj, rfl⟩ := hrel
    by_cases hlt : k < len
    · obtain ⟨b, o, rfl, hbl, hc⟩ := hs.at_ (by omega)
      have c1 := hc k hlt
      have hcb := hs.lt (k := k) hlt
      have HJ := Lib.hid hj
      have HX : Hid (bs.getD k 0 < 128 → bs.findIdx? (fun c => decide (c < 128)) = some k) := fun h => find_stop (by omega) h hj
      have HY : Hid (¬ bs.getD k 0 < 128 → ∀ j, j < k + 1 → 128 ≤ bs.getD j 0) := fun h j hj' => by
        by_cases e : j = k
        · subst e; omega
        · exact hj j (by omega)
      clear hc hj
      generalize bs.getD k 0 = c at c1 hcb HX HY
      have LO := Lib.hid (lo_any c wr)
      go_wp2_with fail
      refine LO.out.mono ?_
      rintro e w1 ⟨rfl, rfl⟩
      by_cases hc128 : c < 128
      · rw [decide_eq_true hc128]
        go_wp2
        go_ret
        exact ⟨by rw [HX.out hc128]; rfl, rfl⟩
      · rw [decide_eq_false hc128]
        go_wp2
        go_roundw
        case rel => exact ⟨k + 1, by omega, by go_num, HY.out hc128, by trivial⟩
        case measure => simp [intOf]; omega
    · have hkn : k = len := by omega
      subst hkn
      have HX := Lib.hid (find_no (bs := bs) (fun j hj' => hj j (by omega)))
      clear hj
      go_wp2
      go_ret
      exact ⟨by rw [HX.out]; rfl, rfl⟩
end Go.Proofs.Ytnpakjdgcmbcnaa
