/- StepGrows: the walk. -/
import Derived.Test.YtdlgjnkfinbdoaaStC
import Derived.BigQuiet
import Derived.Deep.QuietTactic
namespace Go.Proofs.Ytdlgjnkfinbdoaa
set_option linter.unusedSimpArgs false
set_option linter.unusedVariables false
open Go.RowKit
open Wir Evn Stp
attribute [local go_sem] Oper.semAt_some

set_option maxRecDepth 100000 in
set_option maxHeartbeats 3200000 in
theorem stepGrows_walk {w : World} {a : Option Addr} {n c : Nat} {l : List (Int × Int)} (h : PRow w a n c l) (r u m : Int) (hr : -32768 ≤ r ∧ r ≤ 32767) (hul : -9223372036854775808 ≤ u) (hm : 0 ≤ m ∧ m ≤ 65535) :
    Calls Try.prog 7 #[.slice a n c, .int .i16 r, .int .i64 u, .int .u16 m] w fun e w' => e = .returned (.bool true) ∧ Below w.heap.size w w' := by
  have hmx := h.1.max
  have hle := h.1.le
  unfold maxLen at hmx
  have HR := Lib.hid h
  clear h
  go_enter Try.func7, Try.ntmps7
  go_wp2_with fail
  refine (head_any _).mono ?_
  rintro e w1 ⟨rfl, b1⟩
  have B1 := Lib.hid b1
  clear b1
  go_wp2_with fail
  refine (right_n (HR.out.on B1.out)).mono ?_
  rintro e w2 ⟨rfl, b2⟩
  have B2 := Lib.hid (bel2 B1.out b2)
  clear b2 B1
  cases hr : rightS l
  · clear hr
    go_wp2
    go_ret
    exact ⟨rfl, B2.out⟩
  have HS := Lib.hid (rightS_ hr)
  have HL := Lib.hid HR.out.2
  have HN6 : Hid (n ≤ 1000000) := by show _ ≤ _; have := HS.out.2.1; have := HL.out; omega
  clear hr
  have G1 := Lib.hid (fun (h0 : ∀ i, i < l.length → 0 ≤ de l i) (hd : ∀ i j, i ≤ j → j < l.length → de l i ≤ de l j) => wnt_load (c := r) HS.out.2.2.1 h0 hd (show u ≤ u + m by omega))
  have G2 := Lib.hid (wnt_cur (l := l) (c := r) (d := r + m) (u := u) (by omega))
  by_cases hu : 1125899906842624 < u
  · clear G1 G2
    go_wp2
    go_ret
    exact ⟨rfl, B2.out⟩
  have hu' : u ≤ 1125899906842624 := by omega
  have B3 := Lib.hid B2.out
  clear B2
  go_wp2_with fail
  go_loopw [10, 11] (fun z i wx => ∃ (k : Nat) (t : Bool), k ≤ n ∧ i = .int .i64 (k : Int) ∧ z = .bool t ∧ (t = true ↔ (∀ j, j < k → (j = 0 → 0 ≤ de l 0) ∧ (0 < j → de l (j - 1) ≤ de l j))) ∧ Below w.heap.size w wx) (fun _ i _ => n - (intOf i).toNat)
  case atStart => exact ⟨0, true, Nat.zero_le _, rfl, rfl, ⟨fun _ j hj => absurd hj (by omega), fun _ => rfl⟩, B3.out⟩
  case round =>
    obtain ⟨k, t, hk, rfl, rfl, ht, hx⟩ := hrel
    have HX := Lib.hid hx
    have HT := Lib.hid ht
    by_cases hlt : k < n
    · have hlt' : (k : Int) < (n : Int) := by omega
      have hk0 : (0 : Int) ≤ (k : Int) := by omega
      have HK := Lib.hid hlt
      obtain ⟨b, o, rfl, hbl, hc⟩ := HR.out.cell (by omega)
      have c1 := (hx.cell (p := ⟨b, o + k * 2 + 1, none⟩) hbl).trans (hc k hlt).2
      have e0 : (l.getD k (0, 0)).2 = de l k := rfl
      rw [e0] at c1
      cases t
      · have HF : Hid (¬ (∀ j, j < k → (j = 0 → 0 ≤ de l 0) ∧ (0 < j → de l (j - 1) ≤ de l j))) := fun h => by have := HT.out.2 h; cases this
        clear hx ht HT c1 hc e0 hlt
        go_wp2_with fail
        go_quiet (fail)
        go_wp2_with fail
        go_roundw
        case rel => exact ⟨k + 1, false, HK.out, by go_num, rfl, ⟨fun h => absurd h (by simp), fun h => absurd (fun j hj => h j (by omega)) HF.out⟩, below_drewN HX.out⟩
        case measure => have := HK.out; simp [intOf]; omega
      · have HF : Hid (∀ j, j < k → (j = 0 → 0 ≤ de l 0) ∧ (0 < j → de l (j - 1) ≤ de l j)) := HT.out.1 rfl
        by_cases k0 : k = 0
        · subst k0
          have dk : decide (0 < (0 : Nat)) = false := by simp
          by_cases hd : 0 ≤ de l 0
          · generalize de l 0 = D at c1 hd
            have HD := Lib.hid hd
            have dd : decide (0 ≤ D) = true := decide_eq_true hd
            clear hx ht HT hc e0 hlt hk
            go_wp2_with fail
            go_quiet (fail)
            go_wp2_with fail
            go_roundw
            case rel => exact ⟨0 + 1, true, HK.out, by go_num, rfl, ⟨fun _ j hj => ⟨fun _ => HD.out, fun h => absurd h (by omega)⟩, fun _ => rfl⟩, below_drewN HX.out⟩
            case measure => have := HK.out; simp [intOf]; omega
          · generalize de l 0 = D at c1 hd
            have HD := Lib.hid hd
            have dd : decide (0 ≤ D) = false := decide_eq_false hd
            clear hx ht HT hc e0 hlt hk
            go_wp2_with fail
            go_quiet (fail)
            go_wp2_with fail
            go_roundw
            case rel => exact ⟨0 + 1, false, HK.out, by go_num, rfl, ⟨fun h => absurd h (by simp), fun h => absurd ((h 0 (by omega)).1 rfl) (by have := HD.out; omega)⟩, below_drewN HX.out⟩
            case measure => have := HK.out; simp [intOf]; omega
        · have k1 : 0 < k := by omega
          have k1' : (0 : Int) < (k : Int) := by omega
          have hwk : IntKind.i64.wrap ((k : Int) - 1) = ((k - 1 : Nat) : Int) := by rw [IntKind.wrap_i64]; omega
          have cp := (hx.cell (p := ⟨b, o + (k - 1) * 2 + 1, none⟩) hbl).trans (hc (k - 1) (by omega)).2
          have e1 : (l.getD (k - 1) (0, 0)).2 = de l (k - 1) := rfl
          rw [e1] at cp
          have hp1 : ((k - 1 : Nat) : Int) < (n : Int) := by omega
          have hp0 : (0 : Int) ≤ ((k - 1 : Nat) : Int) := by omega
          have hpn : ((k - 1 : Nat) : Int).toNat = k - 1 := by omega
          have dk : decide (0 < k) = true := by simp; omega
          have K1 := Lib.hid k1
          have HE : Hid (de l (k - 1) ≤ de l k → (∀ j, j < k + 1 → (j = 0 → 0 ≤ de l 0) ∧ (0 < j → de l (j - 1) ≤ de l j))) := fun h j hj => by
            rcases Nat.lt_or_ge j k with g | g
            · exact HF.out j g
            · have : j = k := by omega
              subst this
              exact ⟨fun g => absurd g k0, fun _ => h⟩
          have HG : Hid (¬ de l (k - 1) ≤ de l k → ¬ (∀ j, j < k + 1 → (j = 0 → 0 ≤ de l 0) ∧ (0 < j → de l (j - 1) ≤ de l j))) := fun h g => h ((g k (by omega)).2 k1)
          generalize de l k = D at c1 HE HG
          generalize de l (k - 1) = E at cp HE HG
          generalize k - 1 = kp at *
          clear hx ht HT hc e0 e1 hlt hk HF
          by_cases hd : E ≤ D
          · have HD := Lib.hid hd
            have dd : decide (E ≤ D) = true := decide_eq_true hd
            go_wp2_with fail
            go_quiet (fail)
            go_wp2_with fail
            go_roundw
            case rel => exact ⟨k + 1, true, HK.out, by go_num, rfl, ⟨fun _ => HE.out HD.out, fun _ => rfl⟩, below_drewN HX.out⟩
            case measure => have := HK.out; simp [intOf]; omega
          · have HD := Lib.hid hd
            have dd : decide (E ≤ D) = false := decide_eq_false hd
            go_wp2_with fail
            go_quiet (fail)
            go_wp2_with fail
            go_roundw
            case rel => exact ⟨k + 1, false, HK.out, by go_num, rfl, ⟨fun h => absurd h (by simp), fun h => absurd h (HG.out (by have := HD.out; omega))⟩, below_drewN HX.out⟩
            case measure => have := HK.out; simp [intOf]; omega
    · have hlt' : ¬ (k : Int) < (n : Int) := by omega
      have ek : k = n := by omega
      have B4 := Lib.hid HX.out
      have HT2 : Hid (t = true → wnt l r u ≤ wnt l r (u + m)) := fun h => by
        have h1 := HT.out.1 h
        have h2 : ∀ d i, i + d < l.length → de l i ≤ de l (i + d) := fun d => by
          induction d with
          | zero => intro i _; exact Int.le_refl _
          | succ d ih =>
            intro i hi
            have g1 := ih i (by omega)
            have g2 := (h1 (i + (d + 1)) (by have := HL.out; omega)).2 (by omega)
            have e : i + (d + 1) - 1 = i + d := by omega
            rw [e] at g2
            omega
        refine G1.out (fun i hi => ?_) (fun i j hij hj => ?_)
        · have g1 := h2 i 0 (by omega)
          have g2 := (h1 0 (by have := HL.out; omega)).1 rfl
          rw [Nat.zero_add] at g1
          omega
        · have g1 := h2 (j - i) i (by omega)
          rw [show i + (j - i) = j from by omega] at g1
          exact g1
      clear hx ht HT ek G1 HX B3 hlt hk
      go_wp2_with fail
      refine (want_any (HR.out.on B4.out) HS.out.2.2.1 HN6.out HS.out.2.2.2.1 r u).mono ?_
      rintro e w5 ⟨rfl, b5⟩
      have B5 := Lib.hid (bel2 B4.out b5)
      clear B4 b5
      generalize hx1 : wnt l r u = x1 at *
      clear hx1
      have wm : IntKind.i64.wrap (u + m) = u + m := by rw [IntKind.wrap_i64]; omega
      have wr : IntKind.i64.wrap (r + m) = r + m := by rw [IntKind.wrap_i64]; omega
      cases t
      · clear HT2
        go_wp2_with fail
        refine (want_any (HR.out.on B5.out) HS.out.2.2.1 HN6.out HS.out.2.2.2.1 (r + m) u).mono ?_
        rintro e w6 ⟨rfl, b6⟩
        have B6 := Lib.hid (bel2 B5.out b6)
        clear B5 b6
        have g2 := G2.out
        generalize wnt l (r + m) u = x2 at *
        go_wp2
        go_ret
        exact ⟨rfl, B6.out⟩
      · go_wp2_with fail
        refine (want_any (HR.out.on B5.out) HS.out.2.2.1 HN6.out HS.out.2.2.2.1 r (u + m)).mono ?_
        rintro e w6 ⟨rfl, b6⟩
        have B6 := Lib.hid (bel2 B5.out b6)
        clear B5 b6
        have g1 := HT2.out (by trivial)
        generalize wnt l r (u + m) = x3 at *
        go_wp2_with fail
        refine (want_any (HR.out.on B6.out) HS.out.2.2.1 HN6.out HS.out.2.2.2.1 (r + m) u).mono ?_
        rintro e w7 ⟨rfl, b7⟩
        have B7 := Lib.hid (bel2 B6.out b7)
        clear B6 b7
        have g2 := G2.out
        generalize wnt l (r + m) u = x2 at *
        go_wp2
        go_ret
        exact ⟨rfl, B7.out⟩
end Go.Proofs.Ytdlgjnkfinbdoaa
