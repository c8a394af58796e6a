/- Contracts of the program's manifest: calls in turn, Swap's deferred call, Swap. -/
import Derived.Test.YtkklofchgmbdnaaMfE
import Derived.Defers
namespace Go.Proofs.Ytkklofchgmbdnaa
open Go.RowKit Go.Sort
open Crc Frm
attribute [local go_sem] Oper.semAt_some

set_option linter.unusedSimpArgs false in
set_option maxRecDepth 100000 in
set_option maxHeartbeats 1600000 in
/-- Calls in turn: what each needs and leaves, and what is told at the first error. -/
theorem inturn_any (n : Nat) (fs : Nat → FuncId) (cs : Nat → Array Value) (g : Nat) (w : World) (J : Nat → World → Prop) (R : Int → World → Prop) (hn : n ≤ 1000)
    (hcell : ∀ k w', k < n → J k w' → w'.cell? ⟨g, k, none⟩ = some (.func (.func (fs k)) #[] (cs k)))
    (hc : ∀ k x, k < n → (callFunc (fs k) (cs k)).run Try.prog x = .ok (.enter (fs k) (cs k)) x)
    (hcall : ∀ k w', k < n → J k w' → Calls Try.prog (fs k) (cs k) w' fun e w'' => ∃ x, e = .returned (.int .i64 x) ∧ (x = 0 → J (k + 1) w'') ∧ (x ≠ 0 → R x w''))
    (hend : ∀ w', J n w' → R 0 w') (h0 : J 0 w) :
    Calls Try.prog 59 #[.slice (some ⟨g, 0, none⟩) n n] w fun e w' => ∃ x, e = .returned (.int .i64 x) ∧ R x w' := by
  have HC := Lib.hid hcell
  have HL := Lib.hid hcall
  have HE := Lib.hid hend
  have HF := Lib.hid hc
  have H0 := Lib.hid h0
  clear hcell hc hcall hend h0
  go_enter Try.func59, Try.ntmps59
  go_wp2_with fail
  go_loopw [4, 5, 8] (fun _ _ i wr => ∃ k : Nat, k ≤ n ∧ i = .int .i64 (k : Int) ∧ J k wr) (fun _ _ i _ => n - (intOf i).toNat)
  case atStart => exact ⟨0, Nat.zero_le _, rfl, H0.out⟩
  case round =>
    obtain ⟨k, hk, rfl, hj⟩ := hrel
    by_cases hlt : k < n
    · have c0 := HC.out k wr hlt hj
      have cf := fun x => HF.out k x hlt
      have CL := Lib.hid (HL.out k wr hlt hj)
      have c1 : wr.cell? ⟨g, 0 + k, none⟩ = some (.func (.func (fs k)) #[] (cs k)) := by rw [Nat.zero_add]; exact c0
      clear hj
      generalize fs k = fk at *
      generalize cs k = ck at *
      go_wp2_with fail
      refine CL.out.mono ?_
      rintro e w1 ⟨x, rfl, hx0, hx1⟩
      have X0 := Lib.hid hx0
      have X1 := Lib.hid hx1
      clear hx0 hx1 CL c0 c1 cf
      by_cases hx : x = 0
      · subst hx
        go_wp2
        go_roundw
        case rel => exact ⟨k + 1, by omega, by go_num, X0.out (by trivial)⟩
        case measure => simp [intOf]; omega
      · go_wp2
        go_ret
        exact ⟨x, rfl, X1.out hx⟩
    · have hkn : k = n := by omega
      subst hkn
      have HJ := Lib.hid hj
      clear hj
      go_wp2
      go_ret
      exact ⟨0, rfl, HE.out _ HJ.out⟩

/-- What the deferred call leaves. -/
def mClean (x : Int) (t : St) : St := if x ≠ 0 ∧ x ≠ 42 then (t.delete nxL).2 else t
set_option maxRecDepth 100000 in
set_option maxHeartbeats 1600000 in
theorem sw1_any {w0 w : World} {dp bd be : Nat} {t : St} {O : Nat → Prop} (h : DK w0 w dp t O) (x : Int) (u : FrameMode) (hd : w.cell? ⟨bd, 0, none⟩ = some (.pointer (some ⟨dp, 0, none⟩))) (he : w.cell? ⟨be, 0, none⟩ = some (.int .i64 x)) :
    CallsD Try.prog 58 #[.pointer (some ⟨be, 0, none⟩), .pointer (some ⟨bd, 0, none⟩)] u w fun e u' w' => u' = u ∧ (e = .returned (.tuple #[]) ∧ Mv w0 w dp O (mClean x t) w') := by
  have DL := h.delete nxS (by decide)
  change Calls _ _ _ _ (fun e w' => e = .returned (.int .i64 (t.delete nxL).1) ∧ Mv w0 w dp O (t.delete nxL).2 w') at DL
  unfold nxS at DL
  have DL := Lib.hid DL
  have HS := Lib.hid (Mv.still h (Below.refl _ _))
  have HC : Hid (mClean x t = if x ≠ 0 ∧ x ≠ 42 then (t.delete nxL).2 else t) := rfl
  clear h
  generalize t.delete nxL = r at *
  by_cases h0 : x = 0
  · subst h0
    have hc : Hid (mClean 0 t = t) := HC.out.trans (if_neg (by simp))
    go_enter_d Try.func58, Try.ntmps58
    go_wp2
    go_end0
    exact ⟨rfl, by rw [hc.out]; exact HS.out⟩
  by_cases h1 : x = 42
  · subst h1
    have hc : Hid (mClean 42 t = t) := HC.out.trans (if_neg (by simp))
    go_enter_d Try.func58, Try.ntmps58
    go_wp2
    go_end0
    exact ⟨rfl, by rw [hc.out]; exact HS.out⟩
  · have hc : Hid (mClean x t = r.2) := HC.out.trans (if_pos ⟨h0, h1⟩)
    have x0 : (x != 0) = true := by simp [h0]
    have x1 : (x != 42) = true := by simp [h1]
    have y0 : (x == 0) = false := by simp [h0]
    have y1 : (x == 42) = false := by simp [h1]
    go_enter_d Try.func58, Try.ntmps58
    go_wp2_with fail
    refine DL.out.mono ?_
    rintro e w1 ⟨rfl, hmv⟩
    have HM := Lib.hid hmv
    clear hmv DL
    go_wp2
    go_end0
    exact ⟨rfl, by rw [hc.out]; exact HM.out⟩
end Go.Proofs.Ytkklofchgmbdnaa
