/- Contracts of step.Want, of the document's step, and of what its statements ask of bands. -/
import Derived.Test.YtdlgjnkfinbdoaaStB
namespace Go.Proofs.Ytdlgjnkfinbdoaa
set_option linter.unusedSimpArgs false
set_option linter.unusedVariables false
open Go.RowKit
open Wir Evn Stp
attribute [local go_sem] Oper.semAt_some

/-- Deltas that a policy may have. -/
def Del (l : List (Int × Int)) : Prop := ∀ i, i < l.length → -1000 ≤ de l i ∧ de l i ≤ 1000
set_option maxRecDepth 100000 in
set_option maxHeartbeats 800000 in
theorem want_any {w : World} {a : Option Addr} {n c : Nat} {l : List (Int × Int)} (h : PRow w a n c l) (hu : Up l) (hn6 : n ≤ 1000000) (hd : Del l) (r u : Int) :
    Calls Try.prog 13 #[.slice a n c, .int .i64 r, .int .i64 u] w fun e w' => e = .returned (.int .i64 (wnt l r u)) ∧ Below w.heap.size w w' := by
  have hf := fnd_le l u
  have hl := h.2
  have hmx := h.1.max
  have hle := h.1.le
  unfold maxLen at hmx
  have hr := bnd_le 0 1000 r (by omega)
  have HW : Hid (wnt l r u = if 0 ≤ fnd l u then bnd 0 1000 (bnd 0 1000 r + de l (fnd l u).toNat) else bnd 0 1000 r) := rfl
  have F := Lib.hid (fun x b => find_any (h.on (w' := x) b) hu hn6 u)
  have HR := Lib.hid h
  have HD := Lib.hid hd
  have HL := Lib.hid hl
  have HF := Lib.hid hf
  clear h hu hd hl hf
  go_enter Try.func13, Try.ntmps13
  go_wp2_with fail
  refine (into_any 0 1000 r _).mono ?_
  rintro e w9 ⟨rfl, rfl⟩
  generalize bnd 0 1000 r = R at *
  go_wp2_with fail
  refine (F.out _ (Below.refl _ _)).mono ?_
  rintro e w1 ⟨rfl, b1⟩
  have B1 := Lib.hid b1
  by_cases h0 : 0 ≤ fnd l u
  · obtain ⟨k, hk⟩ : ∃ k : Nat, fnd l u = (k : Int) := ⟨(fnd l u).toNat, by omega⟩
    have hkn : k < n := by have := HF.out; have := HL.out; omega
    have hkl : k < l.length := by have := HL.out; omega
    have hd := HD.out k hkl
    obtain ⟨b, o, rfl, hbl, hc⟩ := HR.out.cell (by omega)
    have c1 := (b1.cell (p := ⟨b, o + k * 2 + 1, none⟩) hbl).trans (hc k hkn).2
    have HW' : Hid (wnt l r u = bnd 0 1000 (R + de l k)) := by
      show _ = _
      rw [HW.out, if_pos h0, hk]; rfl
    have e0 : (l.getD k (0, 0)).2 = de l k := rfl
    rw [e0] at c1
    rw [hk]
    clear HW h0 hk e0 hc hbl b1 hkl HF
    generalize de l k = D at *
    have hlt' : (k : Int) < (n : Int) := by omega
    have hk0 : (0 : Int) ≤ (k : Int) := by omega
    have w1' : IntKind.i64.wrap (-R) = -R := by rw [IntKind.wrap_i64]; omega
    have w2' : IntKind.i64.wrap (1000 - R) = 1000 - R := by rw [IntKind.wrap_i64]; omega
    have w3' : IntKind.i64.wrap (R + bnd (-R) (1000 - R) D) = bnd 0 1000 (R + D) := by rw [IntKind.wrap_i64]; unfold bnd; omega
    go_wp2_with fail
    refine (into_any (-R) (1000 - R) D _).mono ?_
    rintro e w9 ⟨rfl, rfl⟩
    generalize bnd (-R) (1000 - R) D = E at *
    go_wp2
    go_ret
    exact ⟨ret_i64 HW'.out.symm, B1.out⟩
  · have hn : fnd l u < 0 := by omega
    have HW' : Hid (wnt l r u = R) := by
      show _ = _
      rw [HW.out, if_neg h0]
    clear HW h0 b1
    generalize fnd l u = f at *
    go_wp2
    go_ret
    exact ⟨ret_i64 HW'.out.symm, B1.out⟩
set_option maxRecDepth 100000 in
set_option maxHeartbeats 800000 in
theorem rfind_any {w : World} {a : Option Addr} {n c : Nat} {l : List (Int × Int)} (h : PRow w a n c l) (u : Int) :
    Calls Try.prog 12 #[.slice a n c, .int .i64 u] w fun e w' => e = .returned (.int .i64 (fnd l u)) ∧ w' = w := by
  have hl := h.2
  have hmx := h.1.max
  have hle := h.1.le
  unfold maxLen at hmx
  have HR := Lib.hid h
  have HL := Lib.hid hl
  clear h hl
  go_enter Try.func12, Try.ntmps12
  go_wp2_with fail
  go_loopw [5, 6] (fun z i wx => ∃ k : Nat, k ≤ n ∧ i = .int .i64 (k : Int) ∧ z = .int .i64 (fndTo l u k) ∧ wx = w) (fun _ i _ => n - (intOf i).toNat)
  case atStart => exact ⟨0, Nat.zero_le _, rfl, rfl, rfl⟩
  case round =>
    obtain ⟨k, hk, rfl, rfl, rfl⟩ := hrel
    by_cases hlt : k < n
    · have hlt' : (k : Int) < (n : Int) := by omega
      have hk0 : (0 : Int) ≤ (k : Int) := by omega
      obtain ⟨b, o, rfl, hbl, hc⟩ := HR.out.cell (by omega)
      have c0 := (hc k hlt).1
      have e0 : (l.getD k (0, 0)).1 = ab l k := rfl
      rw [e0] at c0
      have HS : Hid (fndTo l u (k + 1) = if ab l k ≤ u then (k : Int) else fndTo l u k) := rfl
      clear hc hbl e0
      generalize ab l k = x at *
      have HK := Lib.hid hlt
      by_cases hx : x ≤ u
      · have HX := Lib.hid hx
        go_wp2
        go_roundw
        case rel => exact ⟨k + 1, HK.out, by go_num, by rw [HS.out, if_pos HX.out], by trivial⟩
        case measure => have := HK.out; simp [intOf]; omega
      · have HX := Lib.hid hx
        go_wp2
        go_roundw
        case rel => exact ⟨k + 1, HK.out, by go_num, by rw [HS.out, if_neg HX.out], by trivial⟩
        case measure => have := HK.out; simp [intOf]; omega
    · have ek : k = n := by omega
      have hlt' : ¬ (k : Int) < (n : Int) := by omega
      have HE : Hid (fnd l u = fndTo l u k) := by show _ = _; unfold fnd; rw [HL.out, ek]
      clear ek
      generalize fndTo l u k = f at *
      go_wp2
      go_ret
      exact ⟨ret_i64 HE.out.symm, rfl⟩
set_option maxRecDepth 100000 in
set_option maxHeartbeats 800000 in
theorem rwant_any {w : World} {a : Option Addr} {n c : Nat} {l : List (Int × Int)} (h : PRow w a n c l) (hd : Del l) (r u : Int) :
    Calls Try.prog 14 #[.slice a n c, .int .i64 r, .int .i64 u] w fun e w' => e = .returned (.int .i64 (wnt l r u)) ∧ w' = w := by
  have hf := fnd_le l u
  have hl := h.2
  have hmx := h.1.max
  have hle := h.1.le
  unfold maxLen at hmx
  have hr := bnd_le 0 1000 r (by omega)
  have e1 : min (max r 0) 1000 = bnd 0 1000 r := by unfold bnd; omega
  have HW : Hid (wnt l r u = if 0 ≤ fnd l u then bnd 0 1000 (bnd 0 1000 r + de l (fnd l u).toNat) else bnd 0 1000 r) := rfl
  have F := Lib.hid (rfind_any h u)
  have HR := Lib.hid h
  have HD := Lib.hid hd
  have HL := Lib.hid hl
  have HF := Lib.hid hf
  clear h hd hl hf
  generalize bnd 0 1000 r = R at *
  have wR : IntKind.i64.wrap R = R := by rw [IntKind.wrap_i64]; omega
  go_enter Try.func14, Try.ntmps14
  go_wp2_with fail
  refine F.out.mono ?_
  rintro e w1 ⟨rfl, rfl⟩
  by_cases h0 : 0 ≤ fnd l u
  · obtain ⟨k, hk⟩ : ∃ k : Nat, fnd l u = (k : Int) := ⟨(fnd l u).toNat, by omega⟩
    have hkn : k < n := by have := HF.out; have := HL.out; omega
    have hkl : k < l.length := by have := HL.out; omega
    have hd := HD.out k hkl
    obtain ⟨b, o, rfl, hbl, hc⟩ := HR.out.cell (by omega)
    have c1 := (hc k hkn).2
    have HW' : Hid (wnt l r u = bnd 0 1000 (R + de l k)) := by
      show _ = _
      rw [HW.out, if_pos h0, hk]; rfl
    have e0 : (l.getD k (0, 0)).2 = de l k := rfl
    rw [e0] at c1
    rw [hk]
    clear HW h0 hk e0 hc hbl hkl HF
    generalize de l k = D at *
    have hlt' : (k : Int) < (n : Int) := by omega
    have hk0 : (0 : Int) ≤ (k : Int) := by omega
    have w3' : IntKind.i64.wrap (R + D) = R + D := by rw [IntKind.wrap_i64]; omega
    have w4' : min (max (R + D) 0) 1000 = bnd 0 1000 (R + D) := by unfold bnd; omega
    go_wp2
    go_ret
    exact ⟨ret_i64 HW'.out.symm, rfl⟩
  · have hn : fnd l u < 0 := by omega
    have HW' : Hid (wnt l r u = R) := by
      show _ = _
      rw [HW.out, if_neg h0]
    clear HW h0
    generalize fnd l u = f at *
    have w4' : min (max R 0) 1000 = R := by omega
    go_wp2
    go_ret
    exact ⟨ret_i64 HW'.out.symm, rfl⟩
/-- May bands be a policy's. -/
def rightS (l : List (Int × Int)) : Bool := decide (l.length ≤ 8) && bandsOk l
theorem rightS_ {l : List (Int × Int)} (h : rightS l = true) : 0 < l.length ∧ l.length ≤ 8 ∧ Up l ∧ Del l ∧ ∀ i, i < l.length → 0 ≤ ab l i ∧ ab l i ≤ 1000000000 := by
  unfold rightS bandsOk at h
  simp only [Bool.and_eq_true, decide_eq_true_eq] at h
  have g := bandsR_ge l 0 h.2.2
  exact ⟨by omega, by omega, bandsR_Up l 0 h.2.2, fun i hi => ⟨(g i hi).2.2.1, (g i hi).2.2.2⟩, fun i hi => ⟨(g i hi).1, (g i hi).2.1⟩⟩
set_option maxRecDepth 100000 in
set_option maxHeartbeats 800000 in
theorem right_any {w : World} {a : Option Addr} {c : Nat} {l : List (Int × Int)} (h : PRow w a l.length c l) :
    Calls Try.prog 10 #[.slice a l.length c] w fun e w' => e = .returned (.bool (rightS l)) ∧ Below w.heap.size w w' := by
  have hmx := h.1.max
  have hle := h.1.le
  unfold maxLen at hmx
  have PO := Lib.hid (dpol2 (w := w) (a1 := a) (a2 := none) (c1 := c) (c2 := 0) 0 l 0 0 0 0 [] h PRow.nil_)
  have HP : Hid (polR ⟨2, 0, l, 0, 0, 0, 0, []⟩ = bandsOk l) := by
    show _ = _
    have : polR ⟨2, 0, l, 0, 0, 0, 0, []⟩ = (bandsOk l && zeroR ⟨0, 0, [], 0, 0, 0, 0, []⟩) := rfl
    rw [this, show zeroR ⟨0, 0, [], 0, 0, 0, 0, []⟩ = true from by decide, Bool.and_true]
  have HS : Hid (rightS l = (decide (l.length ≤ 8) && bandsOk l)) := rfl
  clear h
  unfold plV at PO
  generalize hn : l.length = n at *
  clear hn
  by_cases h8 : n ≤ 8
  · have h8' : (n : Int) ≤ 8 := by omega
    have H8 := Lib.hid h8
    clear h8
    go_enter Try.func10, Try.ntmps10
    go_wp2_with fail
    refine PO.out.mono ?_
    rintro e w1 ⟨rfl, b1⟩
    have B1 := Lib.hid b1
    clear b1
    rw [HP.out]
    have HQ : Hid (rightS l = bandsOk l) := by show _ = _; rw [HS.out, decide_eq_true H8.out]; first | done | rfl | simp
    clear HS H8 PO HP
    generalize bandsOk l = q at *
    go_wp2
    go_ret
    exact ⟨ret_bool HQ.out.symm, B1.out⟩
  · have h8' : ¬ ((n : Int) ≤ 8) := by omega
    have HQ : Hid (rightS l = false) := by show _ = _; rw [HS.out, decide_eq_false h8]; first | done | rfl | simp
    clear HS h8 PO HP
    go_enter Try.func10, Try.ntmps10
    go_wp2
    go_ret
    exact ⟨ret_bool HQ.out.symm, Below.refl _ _⟩
theorem right_n {w : World} {a : Option Addr} {n c : Nat} {l : List (Int × Int)} (h : PRow w a n c l) :
    Calls Try.prog 10 #[.slice a n c] w fun e w' => e = .returned (.bool (rightS l)) ∧ Below w.heap.size w w' := by
  obtain ⟨h1, rfl⟩ := h
  exact right_any ⟨h1, rfl⟩
theorem find_to {w : World} {a : Option Addr} {n c : Nat} {l : List (Int × Int)} (h : PRow w a n c l) (hu : Up l) (hn6 : n ≤ 1000000) (u v : Int) (hv : fnd l u = v) :
    Calls Try.prog 11 #[.slice a n c, .int .i64 u] w fun e w' => e = .returned (.int .i64 v) ∧ Below w.heap.size w w' := hv ▸ find_any h hu hn6 u
theorem want_to {w : World} {a : Option Addr} {n c : Nat} {l : List (Int × Int)} (h : PRow w a n c l) (hu : Up l) (hn6 : n ≤ 1000000) (hd : Del l) (r u v : Int) (hv : wnt l r u = v) :
    Calls Try.prog 13 #[.slice a n c, .int .i64 r, .int .i64 u] w fun e w' => e = .returned (.int .i64 v) ∧ Below w.heap.size w w' := hv ▸ want_any h hu hn6 hd r u
theorem up_nil : Up [] := fun i j _ h => absurd h (by simp)
theorem del_nil : Del [] := fun i h => absurd h (by simp)
def hdL : List (Int × Int) := [(100, -1), (800, 2)]
theorem hdL_up : Up hdL := bandsR_Up hdL 0 (by decide)
theorem hdL_del : Del hdL := fun i hi => ⟨(bandsR_ge hdL 0 (by decide) i hi).2.2.1, (bandsR_ge hdL 0 (by decide) i hi).2.2.2⟩
theorem hdL_row (w : World) : PRow (w.alloc (.cells #[.int .i64 100, .int .i64 (-1), .int .i64 800, .int .i64 2] 29)) (some ⟨w.heap.size, 0, none⟩) 2 2 hdL :=
  ⟨Row.new (heap_alloc_new w _) (fun j hj => by
    have : j = 0 ∨ j = 1 ∨ j = 2 ∨ j = 3 := by omega
    rcases this with rfl | rfl | rfl | rfl <;> rfl) (by decide), rfl⟩
set_option maxRecDepth 100000 in
set_option maxHeartbeats 3200000 in
theorem head_any (w : World) :
    Calls Try.prog 9 #[] w fun e w' => e = .returned (.bool true) ∧ Below w.heap.size w w' := by
  obtain ⟨w1, hw1⟩ : ∃ w1, w1 = w.alloc (.cells #[.int .i64 100, .int .i64 (-1), .int .i64 800, .int .i64 2] 29) := ⟨_, rfl⟩
  have HR : Hid (PRow w1 (some ⟨w.heap.size, 0, none⟩) 2 2 hdL) := by rw [hw1]; exact hdL_row w
  have B1 : Hid (Below w.heap.size w w1) := by rw [hw1]; exact bel1 (Below.refl _ _) _
  have HN : Hid (PRow w1 none 0 0 []) := PRow.nil_
  have K1 : Hid (Below w1.heap.size w1 w1) := Below.refl _ _
  have HW := Lib.hid hw1
  clear hw1
  go_enter Try.func9, Try.ntmps9
  go_wp2_with fail
  rw [← HW.out]
  refine (find_to (HR.out.on K1.out) hdL_up (by decide) 99 (-1) (by decide)).mono ?_
  rintro e w2 ⟨rfl, b2⟩
  have K2 := Lib.hid (bel2 K1.out b2)
  clear b2 K1
  go_wp2_with fail
  refine (find_to (HR.out.on K2.out) hdL_up (by decide) 100 0 (by decide)).mono ?_
  rintro e w3 ⟨rfl, b3⟩
  have K3 := Lib.hid (bel2 K2.out b3)
  clear b3 K2
  go_wp2_with fail
  refine (find_to (HR.out.on K3.out) hdL_up (by decide) 799 0 (by decide)).mono ?_
  rintro e w4 ⟨rfl, b4⟩
  have K4 := Lib.hid (bel2 K3.out b4)
  clear b4 K3
  go_wp2_with fail
  refine (find_to (HR.out.on K4.out) hdL_up (by decide) 1099511627776 1 (by decide)).mono ?_
  rintro e w5 ⟨rfl, b5⟩
  have K5 := Lib.hid (bel2 K4.out b5)
  clear b5 K4
  go_wp2_with fail
  refine (find_to (HN.out.on K5.out) up_nil (by decide) 5 (-1) (by decide)).mono ?_
  rintro e w6 ⟨rfl, b6⟩
  have K6 := Lib.hid (bel2 K5.out b6)
  clear b6 K5
  go_wp2_with fail
  refine (want_to (HR.out.on K6.out) hdL_up (by decide) hdL_del 4 900 6 (by decide)).mono ?_
  rintro e w7 ⟨rfl, b7⟩
  have K7 := Lib.hid (bel2 K6.out b7)
  clear b7 K6
  go_wp2_with fail
  refine (want_to (HR.out.on K7.out) hdL_up (by decide) hdL_del 0 300 0 (by decide)).mono ?_
  rintro e w8 ⟨rfl, b8⟩
  have K8 := Lib.hid (bel2 K7.out b8)
  clear b8 K7
  go_wp2_with fail
  refine (want_to (HR.out.on K8.out) hdL_up (by decide) hdL_del 4 5 4 (by decide)).mono ?_
  rintro e wa ⟨rfl, ba⟩
  have Ka := Lib.hid (bel2 K8.out ba)
  clear ba K8
  go_wp2_with fail
  refine (want_to (HR.out.on Ka.out) hdL_up (by decide) hdL_del 999 900 1000 (by decide)).mono ?_
  rintro e wb ⟨rfl, bb⟩
  have Kb := Lib.hid (bel2 Ka.out bb)
  clear bb Ka
  go_wp2
  go_ret
  exact ⟨rfl, bel2 B1.out Kb.out⟩
end Go.Proofs.Ytdlgjnkfinbdoaa
