/- The document's bands. -/
import Derived.Test.YtpgjjdpblilljaaEwA
import Derived.Deep.QuietTactic
import Derived.BigQuiet
namespace Go.Proofs.Ytpgjjdpblilljaa
open Go.RowKit
open Wir Evn
attribute [local go_sem] Oper.semAt_some
set_option linter.unusedVariables false
set_option linter.unusedSimpArgs false

theorem below_drewN {B : Nat} {a w : World} {n : Nat} (h : Below B a w) : Below B a (w.drewN n) := ⟨h.os, h.tape, h.output, h.size, h.block⟩
set_option maxRecDepth 100000 in
set_option maxHeartbeats 3200000 in
theorem dbands_any {w : World} {a : Option Addr} {n c : Nat} {l : List (Int × Int)} (h : PRow w a n c l) :
    Calls Try.prog 33 #[.slice a n c] w fun e w' => e = .returned (.bool (bandsOk l)) ∧ Below w.heap.size w w' := by
  have HZ : Hid (bandsOk l = (decide (1 ≤ n ∧ n ≤ 8) && bandsR 0 l)) := by show _ = _; unfold bandsOk; rw [h.2]
  have HR := Lib.hid h
  have hmax : n ≤ 9223372036854775807 := by have h1 := h.1.le; have h2 := h.1.max; unfold maxLen at h2; omega
  clear h
  go_enter Try.func33, Try.ntmps33
  go_wp2_with fail
  go_loopw [3] (fun i wx => ∃ (k : Nat) (q : Int), k ≤ n ∧ i = .int .i64 (k : Int) ∧ bandsR 0 l = bandsR q (l.drop k) ∧ ((k = 0 ∧ q = 0) ∨ (0 < k ∧ q = (l.getD (k - 1) (0, 0)).1 + 1 ∧ 0 ≤ q - 1 ∧ q - 1 ≤ 1000000000)) ∧ Below w.heap.size w wx) (fun i _ => n - (intOf i).toNat)
  case atStart => exact ⟨0, 0, Nat.zero_le _, rfl, rfl, .inl ⟨rfl, rfl⟩, Below.refl _ _⟩
  case round =>
    obtain ⟨k, q, hk, rfl, hu, hq, hb⟩ := hrel
    by_cases hlt : k < n
    · have hlt' : (k : Int) < (n : Int) := by omega
      obtain ⟨b, o, rfl, hbl, hc⟩ := HR.out.cell (by omega)
      have hlk : k < l.length := by have := HR.out.2; omega
      have hd : l.drop k = l.getD k (0, 0) :: l.drop (k + 1) := by rw [List.drop_eq_getElem_cons hlk, List.getD_eq_getElem?_getD, List.getElem?_eq_getElem hlk]; rfl
      have HX1 : Hid ((l.getD (k + 1 - 1) (0, 0)) = l.getD k (0, 0)) := by show _ = _; rw [Nat.add_sub_cancel]
      have c0 := (hb.cell (p := ⟨b, o + k * 2, none⟩) hbl).trans (hc k hlt).1
      have c1 := (hb.cell (p := ⟨b, o + k * 2 + 1, none⟩) hbl).trans (hc k hlt).2
      rw [hd] at hu
      generalize hx : l.getD k (0, 0) = x at hu c0 c1 HX1
      obtain ⟨x, y⟩ := x
      simp only at c0 c1
      have HB := Lib.hid hb
      have d1 : (k : Int) < 9223372036854775807 := by omega
      have hk0 : (0 : Int) ≤ (k : Int) := by omega
      by_cases k0 : k = 0
      · have hq0 : q = 0 := by omega
        subst hq0
        have HU := Lib.hid hu
        have HK := Lib.hid (And.intro k0 hlt)
        have dk : decide (0 < k) = false := by simp; omega
        clear hu hd hc hlk hb hk hx hq k0
        by_cases hx : 0 ≤ x ∧ x ≤ 1000000000
        · have W1 := Lib.hid (dwithin_to x 0 1000000000 true (by simpa using hx))
          by_cases hy : -1000 ≤ y ∧ y ≤ 1000
          · have W2 := Lib.hid (dwithin_to y (-1000) 1000 true (by simpa using hy))
            have HX := Lib.hid (And.intro hx hy)
            clear hx hy
            go_wp2_with fail
            go_quiet ((first | (go_at_call 31; with_reducible exact Calls.quiet_of_same (W1.out _)) | (go_at_call 31; with_reducible exact Calls.quiet_of_same (W2.out _))))
            go_wp2_with fail
            go_roundw
            case rel =>
              refine ⟨k + 1, x + 1, by have := HK.out; omega, by go_num, ?_, .inr ⟨by omega, by rw [HX1.out], by have := HX.out; omega, by have := HX.out; omega⟩, below_drewN HB.out⟩
              rw [HU.out]; simp only [bandsR]; rw [decide_eq_true HX.out.1, decide_eq_true HX.out.2]; rfl
            case measure => have := HK.out; simp [intOf]; omega
          · have W2 := Lib.hid (dwithin_to y (-1000) 1000 false (by simpa using hy))
            have HX := Lib.hid hy
            clear hx hy
            go_wp2_with fail
            go_quiet ((first | (go_at_call 31; with_reducible exact Calls.quiet_of_same (W1.out _)) | (go_at_call 31; with_reducible exact Calls.quiet_of_same (W2.out _))))
            go_wp2
            go_ret
            refine ⟨ret_bool ?_, below_drewN HB.out⟩
            rw [HZ.out, HU.out]; simp only [bandsR]; rw [decide_eq_false HX.out]; simp
        · have W1 := Lib.hid (dwithin_to x 0 1000000000 false (by simpa using hx))
          have HX := Lib.hid hx
          clear hx
          go_wp2_with fail
          go_quiet ((go_at_call 31; with_reducible exact Calls.quiet_of_same (W1.out _)))
          go_wp2
          go_ret
          refine ⟨ret_bool ?_, below_drewN HB.out⟩
          rw [HZ.out, HU.out]; simp only [bandsR]; rw [decide_eq_false HX.out]; simp
      · have k1 : (0 : Int) < (k : Int) := by omega
        obtain ⟨hq1, hq2, hq3⟩ : q = (l.getD (k - 1) (0, 0)).1 + 1 ∧ 0 ≤ q - 1 ∧ q - 1 ≤ 1000000000 := by omega
        have hwk : IntKind.i64.wrap ((k : Int) - 1) = ((k - 1 : Nat) : Int) := by rw [IntKind.wrap_i64]; omega
        have cp := (hb.cell (p := ⟨b, o + (k - 1) * 2, none⟩) hbl).trans (hc (k - 1) (by omega)).1
        have hp1 : ((k - 1 : Nat) : Int) < (n : Int) := by omega
        have hp0 : (0 : Int) ≤ ((k - 1 : Nat) : Int) := by omega
        have hpn : ((k - 1 : Nat) : Int).toNat = k - 1 := by omega
        generalize (l.getD (k - 1) (0, 0)).1 = v at *
        have HU := Lib.hid (And.intro hu (And.intro hq1 (And.intro hq2 hq3)))
        have HK := Lib.hid (And.intro hk hlt)
        clear hu hd hc hlk hb hk hx hq hq1 hq2 hq3
        generalize k - 1 = kp at *
        have dk : decide (0 < k) = true := by simp; omega
        by_cases hx : 0 ≤ x ∧ x ≤ 1000000000
        · have W1 := Lib.hid (dwithin_to x 0 1000000000 true (by simpa using hx))
          by_cases hv : x ≤ v
          · have HX := Lib.hid (And.intro hx hv)
            clear hx
            go_wp2_with fail
            go_quiet ((go_at_call 31; with_reducible exact Calls.quiet_of_same (W1.out _)))
            go_wp2
            go_ret
            refine ⟨ret_bool ?_, below_drewN HB.out⟩
            rw [HZ.out, HU.out.1]; simp only [bandsR]; rw [decide_eq_false (show ¬ (q ≤ x ∧ x ≤ 1000000000) by have := HX.out; have := HU.out.2; omega)]; simp
          · have dv : decide (x ≤ v) = false := by simp; omega
            by_cases hy : -1000 ≤ y ∧ y ≤ 1000
            · have W2 := Lib.hid (dwithin_to y (-1000) 1000 true (by simpa using hy))
              have HX := Lib.hid (And.intro hx (And.intro hy hv))
              clear hx hy hv
              go_wp2_with fail
              go_quiet ((first | (go_at_call 31; with_reducible exact Calls.quiet_of_same (W1.out _)) | (go_at_call 31; with_reducible exact Calls.quiet_of_same (W2.out _))))
              go_wp2_with fail
              go_roundw
              case rel =>
                refine ⟨k + 1, x + 1, by have := HK.out; omega, by go_num, ?_, .inr ⟨by omega, by rw [HX1.out], by have := HX.out; omega, by have := HX.out; omega⟩, below_drewN HB.out⟩
                rw [HU.out.1]; simp only [bandsR]; rw [decide_eq_true (show q ≤ x ∧ x ≤ 1000000000 by have := HX.out; have := HU.out.2; omega), decide_eq_true HX.out.2.1]; rfl
              case measure => have := HK.out; simp [intOf]; omega
            · have W2 := Lib.hid (dwithin_to y (-1000) 1000 false (by simpa using hy))
              have HX := Lib.hid hy
              clear hx hy hv
              go_wp2_with fail
              go_quiet ((first | (go_at_call 31; with_reducible exact Calls.quiet_of_same (W1.out _)) | (go_at_call 31; with_reducible exact Calls.quiet_of_same (W2.out _))))
              go_wp2
              go_ret
              refine ⟨ret_bool ?_, below_drewN HB.out⟩
              rw [HZ.out, HU.out.1]; simp only [bandsR]; rw [decide_eq_false HX.out]; simp
        · have W1 := Lib.hid (dwithin_to x 0 1000000000 false (by simpa using hx))
          have HX := Lib.hid hx
          clear hx
          go_wp2_with fail
          go_quiet ((go_at_call 31; with_reducible exact Calls.quiet_of_same (W1.out _)))
          go_wp2
          go_ret
          refine ⟨ret_bool ?_, below_drewN HB.out⟩
          rw [HZ.out, HU.out.1]; simp only [bandsR]; rw [decide_eq_false (show ¬ (q ≤ x ∧ x ≤ 1000000000) by have := HX.out; have := HU.out.2; omega)]; simp
    · have hlt' : ¬ (k : Int) < (n : Int) := by omega
      have ek : k = n := by omega
      subst ek
      have e9 : l.drop k = [] := List.drop_eq_nil_of_le (by have := HR.out.2; omega)
      have HB := Lib.hid (And.intro hu hb)
      have HE := Lib.hid e9
      clear hu hb e9 hq hlt hk
      by_cases n1 : 1 ≤ k
      · have n1' : (1 : Int) ≤ (k : Int) := by omega
        by_cases n8 : k ≤ 8
        · have n8' : (k : Int) ≤ 8 := by omega
          have HN := Lib.hid (And.intro n1 n8)
          go_wp2
          go_ret
          refine ⟨ret_bool ?_, HB.out.2⟩
          rw [HZ.out, HB.out.1, HE.out, decide_eq_true HN.out]; rfl
        · have n8' : ¬ ((k : Int) ≤ 8) := by omega
          have d8 : decide ((k : Int) ≤ 8) = false := by simp; omega
          have HN := Lib.hid n8
          clear n8 n8'
          go_wp2
          go_ret
          refine ⟨ret_bool ?_, HB.out.2⟩
          rw [HZ.out, decide_eq_false (fun h => HN.out h.2)]; rfl
      · have e0 : k = 0 := by omega
        have HN := Lib.hid n1
        have d8 : decide ((1 : Int) ≤ (k : Int)) = false := by simp; omega
        clear n1
        go_wp2
        go_ret
        refine ⟨ret_bool ?_, HB.out.2⟩
        rw [HZ.out, decide_eq_false (fun h => HN.out h.1)]; rfl
end Go.Proofs.Ytpgjjdpblilljaa
