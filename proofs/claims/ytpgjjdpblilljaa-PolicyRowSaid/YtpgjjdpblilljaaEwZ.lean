/- The document's Zero. -/
import Derived.Test.YtpgjjdpblilljaaEwA
namespace Go.Proofs.Ytpgjjdpblilljaa
open Go.RowKit
open Wir Evn
attribute [local go_sem] Oper.semAt_some
set_option linter.unusedVariables false
set_option linter.unusedSimpArgs false

set_option maxRecDepth 100000 in
set_option maxHeartbeats 3200000 in
theorem dzero_any (p : Pl) (a1 a2 : Option Addr) (c1 c2 : Nat) (w : World) :
    Calls Try.prog 20 #[plV p a1 a2 c1 c2] w fun e w' => e = .returned (.bool (zeroR p)) ∧ Below w.heap.size w w' := by
  obtain ⟨kind, target, bands, kp, ki, kd, period, slots⟩ := p
  unfold plV
  simp only
  by_cases h1 : kind = 0
  · subst h1
    go_enter Try.func20, Try.ntmps20
    go_wp2_with fail
    refine (dnoneE target bands kp ki kd period slots 0 a1 a2 c1 c2 _).mono ?_
    rintro e w1 ⟨rfl, hb⟩
    have HB := Lib.hid (bel2 (bel1 (Below.refl _ _) _) hb)
    clear hb
    go_wp2
    go_ret
    exact ⟨rfl, HB.out⟩
  · have n1 : (kind == 0) = false := by simpa using h1
    have HN := Lib.hid h1
    clear h1
    go_enter Try.func20, Try.ntmps20
    go_wp2
    go_ret
    exact ⟨ret_bool (by symm; unfold zeroR; rw [decide_eq_false_iff_not]; intro h; exact HN.out h.1), bel1 (Below.refl _ _) _⟩
end Go.Proofs.Ytpgjjdpblilljaa
