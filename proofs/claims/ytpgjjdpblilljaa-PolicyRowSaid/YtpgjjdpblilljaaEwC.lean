/- The document's slots. -/
import Derived.Test.YtpgjjdpblilljaaEwB
namespace Go.Proofs.Ytpgjjdpblilljaa
open Go.RowKit
open Wir Evn
attribute [local go_sem] Oper.semAt_some
set_option linter.unusedVariables false
set_option linter.unusedSimpArgs false

def dslR (l : List (Int × Int)) (period : Int) : Bool := decide (1 ≤ period ∧ period ≤ 1099511627776) && slotsOk l period
set_option maxRecDepth 100000 in
set_option maxHeartbeats 3200000 in
theorem dslots_any {w : World} {a : Option Addr} {n c : Nat} {l : List (Int × Int)} (h : PRow w a n c l) (period : Int) :
    Calls Try.prog 34 #[.slice a n c, .int .i64 period] w fun e w' => e = .returned (.bool (dslR l period)) ∧ Below w.heap.size w w' := by
  have HZ : Hid (slotsOk l period = (decide (1 ≤ n ∧ n ≤ 8) && (decide ((l.getD 0 (1, 0)).1 = 0) && slotsR period 0 l))) := by show _ = _; unfold slotsOk; rw [h.2]
  have HR := Lib.hid h
  have HB0 := Lib.hid (Below.refl w.heap.size w)
  clear h
  by_cases n1 : n < 1
  · have n1' : (n : Int) < 1 := by omega
    have HN := Lib.hid n1
    clear n1
    go_enter Try.func34, Try.ntmps34
    go_wp2
    go_ret
    exact ⟨ret_bool (by unfold dslR; rw [HZ.out, decide_eq_false (show ¬ (1 ≤ n ∧ n ≤ 8) by have := HN.out; omega)]; simp), HB0.out⟩
  by_cases n8 : 8 < n
  · have n8' : (8 : Int) < (n : Int) := by omega
    have d1 : decide ((n : Int) < 1) = false := by simp; omega
    have HN := Lib.hid n8
    clear n8 n1
    go_enter Try.func34, Try.ntmps34
    go_wp2
    go_ret
    exact ⟨ret_bool (by unfold dslR; rw [HZ.out, decide_eq_false (show ¬ (1 ≤ n ∧ n ≤ 8) by have := HN.out; omega)]; simp), HB0.out⟩
  have d1 : decide ((n : Int) < 1) = false := by simp; omega
  have d8 : decide ((8 : Int) < (n : Int)) = false := by simp; omega
  have hn : 1 ≤ n ∧ n ≤ 8 := by omega
  have HN := Lib.hid hn
  have hn0 : 0 < n := by omega
  have hn0' : (0 : Int) < (n : Int) := by omega
  have hn8 : n ≤ 8 := by omega
  obtain ⟨b, o, rfl, hbl, hc⟩ := HR.out.cell hn0
  have c0 := (hc 0 hn0).1
  have hl0 : 0 < l.length := by have := HR.out.2; omega
  have e0 : l.getD 0 (1, 0) = l.getD 0 (0, 0) := by rw [List.getD_eq_getElem?_getD, List.getD_eq_getElem?_getD, List.getElem?_eq_getElem hl0]; rfl
  rw [← e0] at c0
  have c00 : w.cell? ⟨b, o, none⟩ = some (.int .i64 (l.getD 0 (1, 0)).1) := by simpa using c0
  clear c0 e0 hl0
  have HC := Lib.hid hc
  have HBL := Lib.hid hbl
  clear hc
  generalize hf : (l.getD 0 (1, 0)).1 = f at c00
  rw [hf] at HZ
  clear hf
  by_cases hf0 : f = 0
  rotate_left
  · have ne : (f != 0) = true := by simpa using hf0
    have HF0 := Lib.hid hf0
    clear hf0 n1 n8 hn hbl
    go_enter Try.func34, Try.ntmps34
    go_wp2
    go_ret
    exact ⟨ret_bool (by unfold dslR; rw [HZ.out, decide_eq_false HF0.out]; simp), HB0.out⟩
  subst hf0
  by_cases hp : 1 ≤ period ∧ period ≤ 1099511627776
  rotate_left
  · have WP := Lib.hid (dwithin_to period 1 1099511627776 false (by simpa using hp))
    have HP := Lib.hid hp
    clear hp n1 n8 hn hbl
    go_enter Try.func34, Try.ntmps34
    go_wp2_with fail
    refine (WP.out _).mono ?_
    rintro e w9 ⟨rfl, hw9⟩
    rw [hw9]
    clear hw9
    go_wp2
    go_ret
    exact ⟨ret_bool (by unfold dslR; rw [decide_eq_false HP.out]; simp), HB0.out⟩
  have WP := Lib.hid (dwithin_to period 1 1099511627776 true (by simpa using hp))
  have HPT : Hid (decide (1 ≤ period ∧ period ≤ 1099511627776) = true) := by show _ = _; simpa using hp
  have HWP : Hid (IntKind.i64.wrap (period - 1) = period - 1) := by show _ = _; rw [IntKind.wrap_i64]; omega
  have HF : Hid (decide ((0 : Int) = 0) = true) := rfl
  have HY : Hid (dslR l period = slotsR period 0 l) := by show _ = _; unfold dslR; rw [HPT.out, HZ.out, decide_eq_true HN.out]; simp
  clear HZ
  have HZ := HY
  clear HY
  have hmax : n ≤ 9223372036854775807 := by omega
  have HP := Lib.hid hp
  clear hp n1 n8 hn hbl HPT
  go_enter Try.func34, Try.ntmps34
  go_wp2_with fail
  refine (WP.out _).mono ?_
  rintro e w9 ⟨rfl, hw9⟩
  rw [hw9]
  clear hw9
  go_wp2_with fail
  go_loopw [5] (fun i wx => ∃ (k : Nat) (q : Int), k ≤ n ∧ i = .int .i64 (k : Int) ∧ slotsR period 0 l = slotsR period q (l.drop k) ∧ ((k = 0 ∧ q = 0) ∨ (0 < k ∧ q = (l.getD (k - 1) (0, 0)).1 + 1 ∧ 0 ≤ q - 1 ∧ q - 1 ≤ period - 1)) ∧ Below w.heap.size w wx) (fun i _ => n - (intOf i).toNat)
  case atStart => exact ⟨0, 0, Nat.zero_le _, rfl, rfl, .inl ⟨rfl, rfl⟩, HB0.out⟩
  case round =>
    obtain ⟨k, q, hk, rfl, hu, hq, hb⟩ := hrel
    by_cases hlt : k < n
    · have hlt' : (k : Int) < (n : Int) := by omega
      have hbl := HBL.out
      have hc := HC.out
      have hlk : k < l.length := by have := HR.out.2; omega
      have hd : l.drop k = l.getD k (0, 0) :: l.drop (k + 1) := by rw [List.drop_eq_getElem_cons hlk, List.getD_eq_getElem?_getD, List.getElem?_eq_getElem hlk]; rfl
      have HX1 : Hid ((l.getD (k + 1 - 1) (0, 0)) = l.getD k (0, 0)) := by show _ = _; rw [Nat.add_sub_cancel]
      have c0 := (hb.cell (p := ⟨b, o + k * 2, none⟩) hbl).trans (hc k hlt).1
      have c1 := (hb.cell (p := ⟨b, o + k * 2 + 1, none⟩) hbl).trans (hc k hlt).2
      rw [hd] at hu
      generalize hx : l.getD k (0, 0) = x at hu c0 c1 HX1
      obtain ⟨x, y⟩ := x
      simp only at c0 c1
      have HB := Lib.hid hb
      have d1 : (k : Int) < 9223372036854775807 := by omega
      have hwp : IntKind.i64.wrap (period - 1) = period - 1 := HWP.out
      have hk0 : (0 : Int) ≤ (k : Int) := by omega
      by_cases k0 : k = 0
      · have hq0 : q = 0 := by omega
        subst hq0
        have HU := Lib.hid hu
        have HK := Lib.hid (And.intro k0 hlt)
        have dk : decide (0 < k) = false := by simp; omega
        clear hu hd hc hlk hb hk hx hq k0
        by_cases hx : 0 ≤ x ∧ x ≤ period - 1
        · have W1 := Lib.hid (dwithin_to x 0 (period - 1) true (by simpa using hx))
          by_cases hy : 0 ≤ y ∧ y ≤ 1000
          · have W2 := Lib.hid (dwithin_to y 0 1000 true (by simpa using hy))
            have HX := Lib.hid (And.intro hx hy)
            clear hx hy
            go_wp2_with fail
            go_quiet ((first | (go_at_call 31; with_reducible exact Calls.quiet_of_same (W1.out _)) | (go_at_call 31; with_reducible exact Calls.quiet_of_same (W2.out _))))
            go_wp2_with fail
            go_roundw
            case rel =>
              refine ⟨k + 1, x + 1, by have := HK.out; omega, by go_num, ?_, .inr ⟨by omega, by rw [HX1.out], by have := HX.out; omega, by have := HX.out; omega⟩, below_drewN HB.out⟩
              rw [HU.out]; simp only [slotsR]; rw [decide_eq_true HX.out.1, decide_eq_true HX.out.2]; rfl
            case measure => have := HK.out; simp [intOf]; omega
          · have W2 := Lib.hid (dwithin_to y 0 1000 false (by simpa using hy))
            have HX := Lib.hid hy
            clear hx hy
            go_wp2_with fail
            go_quiet ((first | (go_at_call 31; with_reducible exact Calls.quiet_of_same (W1.out _)) | (go_at_call 31; with_reducible exact Calls.quiet_of_same (W2.out _))))
            go_wp2
            go_ret
            refine ⟨ret_bool ?_, below_drewN HB.out⟩
            rw [HZ.out, HU.out]; simp only [slotsR]; rw [decide_eq_false HX.out]; simp
        · have W1 := Lib.hid (dwithin_to x 0 (period - 1) false (by simpa using hx))
          have HX := Lib.hid hx
          clear hx
          go_wp2_with fail
          go_quiet ((go_at_call 31; with_reducible exact Calls.quiet_of_same (W1.out _)))
          go_wp2
          go_ret
          refine ⟨ret_bool ?_, below_drewN HB.out⟩
          rw [HZ.out, HU.out]; simp only [slotsR]; rw [decide_eq_false HX.out]; simp
      · have k1 : (0 : Int) < (k : Int) := by omega
        obtain ⟨hq1, hq2, hq3⟩ : q = (l.getD (k - 1) (0, 0)).1 + 1 ∧ 0 ≤ q - 1 ∧ q - 1 ≤ period - 1 := by omega
        have hwk : IntKind.i64.wrap ((k : Int) - 1) = ((k - 1 : Nat) : Int) := by rw [IntKind.wrap_i64]; omega
        have cp := (hb.cell (p := ⟨b, o + (k - 1) * 2, none⟩) hbl).trans (hc (k - 1) (by omega)).1
        have hp1 : ((k - 1 : Nat) : Int) < (n : Int) := by omega
        have hp0 : (0 : Int) ≤ ((k - 1 : Nat) : Int) := by omega
        have hpn : ((k - 1 : Nat) : Int).toNat = k - 1 := by omega
        generalize (l.getD (k - 1) (0, 0)).1 = v at hq1 cp
        have HU := Lib.hid (And.intro hu (And.intro hq1 (And.intro hq2 hq3)))
        have HK := Lib.hid (And.intro hk hlt)
        clear hu hd hc hlk hb hk hx hq hq1 hq2 hq3
        generalize k - 1 = kp at *
        have dk : decide (0 < k) = true := by simp; omega
        by_cases hx : 0 ≤ x ∧ x ≤ period - 1
        · have W1 := Lib.hid (dwithin_to x 0 (period - 1) true (by simpa using hx))
          by_cases hv : x ≤ v
          · have HX := Lib.hid (And.intro hx hv)
            clear hx
            go_wp2_with fail
            go_quiet ((go_at_call 31; with_reducible exact Calls.quiet_of_same (W1.out _)))
            go_wp2
            go_ret
            refine ⟨ret_bool ?_, below_drewN HB.out⟩
            rw [HZ.out, HU.out.1]; simp only [slotsR]; rw [decide_eq_false (show ¬ (q ≤ x ∧ x ≤ period - 1) by have := HX.out; have := HU.out.2; omega)]; simp
          · have dv : decide (x ≤ v) = false := by simp; omega
            by_cases hy : 0 ≤ y ∧ y ≤ 1000
            · have W2 := Lib.hid (dwithin_to y 0 1000 true (by simpa using hy))
              have HX := Lib.hid (And.intro hx (And.intro hy hv))
              clear hx hy hv
              go_wp2_with fail
              go_quiet ((first | (go_at_call 31; with_reducible exact Calls.quiet_of_same (W1.out _)) | (go_at_call 31; with_reducible exact Calls.quiet_of_same (W2.out _))))
              go_wp2_with fail
              go_roundw
              case rel =>
                refine ⟨k + 1, x + 1, by have := HK.out; omega, by go_num, ?_, .inr ⟨by omega, by rw [HX1.out], by have := HX.out; omega, by have := HX.out; omega⟩, below_drewN HB.out⟩
                rw [HU.out.1]; simp only [slotsR]; rw [decide_eq_true (show q ≤ x ∧ x ≤ period - 1 by have := HX.out; have := HU.out.2; omega), decide_eq_true HX.out.2.1]; rfl
              case measure => have := HK.out; simp [intOf]; omega
            · have W2 := Lib.hid (dwithin_to y 0 1000 false (by simpa using hy))
              have HX := Lib.hid hy
              clear hx hy hv
              go_wp2_with fail
              go_quiet ((first | (go_at_call 31; with_reducible exact Calls.quiet_of_same (W1.out _)) | (go_at_call 31; with_reducible exact Calls.quiet_of_same (W2.out _))))
              go_wp2
              go_ret
              refine ⟨ret_bool ?_, below_drewN HB.out⟩
              rw [HZ.out, HU.out.1]; simp only [slotsR]; rw [decide_eq_false HX.out]; simp
        · have W1 := Lib.hid (dwithin_to x 0 (period - 1) false (by simpa using hx))
          have HX := Lib.hid hx
          clear hx
          go_wp2_with fail
          go_quiet ((go_at_call 31; with_reducible exact Calls.quiet_of_same (W1.out _)))
          go_wp2
          go_ret
          refine ⟨ret_bool ?_, below_drewN HB.out⟩
          rw [HZ.out, HU.out.1]; simp only [slotsR]; rw [decide_eq_false (show ¬ (q ≤ x ∧ x ≤ period - 1) by have := HX.out; have := HU.out.2; omega)]; simp
    · have hlt' : ¬ (k : Int) < (n : Int) := by omega
      have ek : k = n := by omega
      subst ek
      have e9 : l.drop k = [] := List.drop_eq_nil_of_le (by have := HR.out.2; omega)
      have HB := Lib.hid (And.intro hu hb)
      have HE := Lib.hid e9
      clear hu hb e9 hq hlt hk
      go_wp2
      go_ret
      refine ⟨ret_bool ?_, HB.out.2⟩
      rw [HZ.out, HB.out.1, HE.out]; rfl
end Go.Proofs.Ytpgjjdpblilljaa
