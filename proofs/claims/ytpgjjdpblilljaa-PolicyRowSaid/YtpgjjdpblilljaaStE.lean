/- Contracts of step.Want and of the document's step. -/
import Derived.Test.YtpgjjdpblilljaaStB
namespace Go.Proofs.Ytpgjjdpblilljaa
set_option linter.unusedSimpArgs false
set_option linter.unusedVariables false
open Go.RowKit
open Wir Evn Stp
attribute [local go_sem] Oper.semAt_some

/-- Deltas that a policy may have. -/
def Del (l : List (Int × Int)) : Prop := ∀ i, i < l.length → -1000 ≤ de l i ∧ de l i ≤ 1000
set_option maxRecDepth 100000 in
set_option maxHeartbeats 800000 in
theorem stwant_any {w : World} {a : Option Addr} {n c : Nat} {l : List (Int × Int)} (h : PRow w a n c l) (hu : Up l) (hn6 : n ≤ 1000000) (hd : Del l) (r u : Int) :
    Calls Try.prog 39 #[.slice a n c, .int .i64 r, .int .i64 u] w fun e w' => e = .returned (.int .i64 (wnt l r u)) ∧ Below w.heap.size w w' := by
  have hf := fnd_le l u
  have hl := h.2
  have hmx := h.1.max
  have hle := h.1.le
  unfold maxLen at hmx
  have hr := bnd_le 0 1000 r (by omega)
  have HW : Hid (wnt l r u = if 0 ≤ fnd l u then bnd 0 1000 (bnd 0 1000 r + de l (fnd l u).toNat) else bnd 0 1000 r) := rfl
  have F := Lib.hid (fun x b => stfind_any (h.on (w' := x) b) hu hn6 u)
  have HR := Lib.hid h
  have HD := Lib.hid hd
  have HL := Lib.hid hl
  have HF := Lib.hid hf
  clear h hu hd hl hf
  go_enter Try.func39, Try.ntmps39
  go_wp2_with fail
  refine (stinto_any 0 1000 r _).mono ?_
  rintro e w9 ⟨rfl, rfl⟩
  generalize bnd 0 1000 r = R at *
  go_wp2_with fail
  refine (F.out _ (Below.refl _ _)).mono ?_
  rintro e w1 ⟨rfl, b1⟩
  have B1 := Lib.hid b1
  by_cases h0 : 0 ≤ fnd l u
  · obtain ⟨k, hk⟩ : ∃ k : Nat, fnd l u = (k : Int) := ⟨(fnd l u).toNat, by omega⟩
    have hkn : k < n := by have := HF.out; have := HL.out; omega
    have hkl : k < l.length := by have := HL.out; omega
    have hd := HD.out k hkl
    obtain ⟨b, o, rfl, hbl, hc⟩ := HR.out.cell (by omega)
    have c1 := (b1.cell (p := ⟨b, o + k * 2 + 1, none⟩) hbl).trans (hc k hkn).2
    have HW' : Hid (wnt l r u = bnd 0 1000 (R + de l k)) := by
      show _ = _
      rw [HW.out, if_pos h0, hk]; rfl
    have e0 : (l.getD k (0, 0)).2 = de l k := rfl
    rw [e0] at c1
    rw [hk]
    clear HW h0 hk e0 hc hbl b1 hkl HF
    generalize de l k = D at *
    have hlt' : (k : Int) < (n : Int) := by omega
    have hk0 : (0 : Int) ≤ (k : Int) := by omega
    have w1' : IntKind.i64.wrap (-R) = -R := by rw [IntKind.wrap_i64]; omega
    have w2' : IntKind.i64.wrap (1000 - R) = 1000 - R := by rw [IntKind.wrap_i64]; omega
    have w3' : IntKind.i64.wrap (R + bnd (-R) (1000 - R) D) = bnd 0 1000 (R + D) := by rw [IntKind.wrap_i64]; unfold bnd; omega
    go_wp2_with fail
    refine (stinto_any (-R) (1000 - R) D _).mono ?_
    rintro e w9 ⟨rfl, rfl⟩
    generalize bnd (-R) (1000 - R) D = E at *
    go_wp2
    go_ret
    exact ⟨ret_i64 HW'.out.symm, B1.out⟩
  · have hn : fnd l u < 0 := by omega
    have HW' : Hid (wnt l r u = R) := by
      show _ = _
      rw [HW.out, if_neg h0]
    clear HW h0 b1
    generalize fnd l u = f at *
    go_wp2
    go_ret
    exact ⟨ret_i64 HW'.out.symm, B1.out⟩
set_option maxRecDepth 100000 in
set_option maxHeartbeats 800000 in
theorem strfind_any {w : World} {a : Option Addr} {n c : Nat} {l : List (Int × Int)} (h : PRow w a n c l) (u : Int) :
    Calls Try.prog 26 #[.slice a n c, .int .i64 u] w fun e w' => e = .returned (.int .i64 (fnd l u)) ∧ w' = w := by
  have hl := h.2
  have hmx := h.1.max
  have hle := h.1.le
  unfold maxLen at hmx
  have HR := Lib.hid h
  have HL := Lib.hid hl
  clear h hl
  go_enter Try.func26, Try.ntmps26
  go_wp2_with fail
  go_loopw [5, 6] (fun z i wx => ∃ k : Nat, k ≤ n ∧ i = .int .i64 (k : Int) ∧ z = .int .i64 (fndTo l u k) ∧ wx = w) (fun _ i _ => n - (intOf i).toNat)
  case atStart => exact ⟨0, Nat.zero_le _, rfl, rfl, rfl⟩
  case round =>
    obtain ⟨k, hk, rfl, rfl, rfl⟩ := hrel
    by_cases hlt : k < n
    · have hlt' : (k : Int) < (n : Int) := by omega
      have hk0 : (0 : Int) ≤ (k : Int) := by omega
      obtain ⟨b, o, rfl, hbl, hc⟩ := HR.out.cell (by omega)
      have c0 := (hc k hlt).1
      have e0 : (l.getD k (0, 0)).1 = ab l k := rfl
      rw [e0] at c0
      have HS : Hid (fndTo l u (k + 1) = if ab l k ≤ u then (k : Int) else fndTo l u k) := rfl
      clear hc hbl e0
      generalize ab l k = x at *
      have HK := Lib.hid hlt
      by_cases hx : x ≤ u
      · have HX := Lib.hid hx
        go_wp2
        go_roundw
        case rel => exact ⟨k + 1, HK.out, by go_num, by rw [HS.out, if_pos HX.out], by trivial⟩
        case measure => have := HK.out; simp [intOf]; omega
      · have HX := Lib.hid hx
        go_wp2
        go_roundw
        case rel => exact ⟨k + 1, HK.out, by go_num, by rw [HS.out, if_neg HX.out], by trivial⟩
        case measure => have := HK.out; simp [intOf]; omega
    · have ek : k = n := by omega
      have hlt' : ¬ (k : Int) < (n : Int) := by omega
      have HE : Hid (fnd l u = fndTo l u k) := by show _ = _; unfold fnd; rw [HL.out, ek]
      clear ek
      generalize fndTo l u k = f at *
      go_wp2
      go_ret
      exact ⟨ret_i64 HE.out.symm, rfl⟩
set_option maxRecDepth 100000 in
set_option maxHeartbeats 800000 in
theorem strwant_any {w : World} {a : Option Addr} {n c : Nat} {l : List (Int × Int)} (h : PRow w a n c l) (hd : Del l) (r u : Int) :
    Calls Try.prog 16 #[.slice a n c, .int .i64 r, .int .i64 u] w fun e w' => e = .returned (.int .i64 (wnt l r u)) ∧ w' = w := by
  have hf := fnd_le l u
  have hl := h.2
  have hmx := h.1.max
  have hle := h.1.le
  unfold maxLen at hmx
  have hr := bnd_le 0 1000 r (by omega)
  have e1 : min (max r 0) 1000 = bnd 0 1000 r := by unfold bnd; omega
  have HW : Hid (wnt l r u = if 0 ≤ fnd l u then bnd 0 1000 (bnd 0 1000 r + de l (fnd l u).toNat) else bnd 0 1000 r) := rfl
  have F := Lib.hid (strfind_any h u)
  have HR := Lib.hid h
  have HD := Lib.hid hd
  have HL := Lib.hid hl
  have HF := Lib.hid hf
  clear h hd hl hf
  generalize bnd 0 1000 r = R at *
  have wR : IntKind.i64.wrap R = R := by rw [IntKind.wrap_i64]; omega
  go_enter Try.func16, Try.ntmps16
  go_wp2_with fail
  refine F.out.mono ?_
  rintro e w1 ⟨rfl, rfl⟩
  by_cases h0 : 0 ≤ fnd l u
  · obtain ⟨k, hk⟩ : ∃ k : Nat, fnd l u = (k : Int) := ⟨(fnd l u).toNat, by omega⟩
    have hkn : k < n := by have := HF.out; have := HL.out; omega
    have hkl : k < l.length := by have := HL.out; omega
    have hd := HD.out k hkl
    obtain ⟨b, o, rfl, hbl, hc⟩ := HR.out.cell (by omega)
    have c1 := (hc k hkn).2
    have HW' : Hid (wnt l r u = bnd 0 1000 (R + de l k)) := by
      show _ = _
      rw [HW.out, if_pos h0, hk]; rfl
    have e0 : (l.getD k (0, 0)).2 = de l k := rfl
    rw [e0] at c1
    rw [hk]
    clear HW h0 hk e0 hc hbl hkl HF
    generalize de l k = D at *
    have hlt' : (k : Int) < (n : Int) := by omega
    have hk0 : (0 : Int) ≤ (k : Int) := by omega
    have w3' : IntKind.i64.wrap (R + D) = R + D := by rw [IntKind.wrap_i64]; omega
    have w4' : min (max (R + D) 0) 1000 = bnd 0 1000 (R + D) := by unfold bnd; omega
    go_wp2
    go_ret
    exact ⟨ret_i64 HW'.out.symm, rfl⟩
  · have hn : fnd l u < 0 := by omega
    have HW' : Hid (wnt l r u = R) := by
      show _ = _
      rw [HW.out, if_neg h0]
    clear HW h0
    generalize fnd l u = f at *
    have w4' : min (max R 0) 1000 = R := by omega
    go_wp2
    go_ret
    exact ⟨ret_i64 HW'.out.symm, rfl⟩
end Go.Proofs.Ytpgjjdpblilljaa
