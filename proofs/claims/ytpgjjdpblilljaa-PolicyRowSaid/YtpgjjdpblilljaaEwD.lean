/- The document's Policy. -/
import Derived.Test.YtpgjjdpblilljaaEwC
namespace Go.Proofs.Ytpgjjdpblilljaa
open Go.RowKit
open Wir Evn
attribute [local go_sem] Oper.semAt_some
set_option linter.unusedVariables false
set_option linter.unusedSimpArgs false

set_option maxRecDepth 100000 in
set_option maxHeartbeats 3200000 in
theorem dpol1 {w : World} {a1 a2 : Option Addr} {c1 c2 : Nat} (target : Int) (bands : List (Int × Int)) (kp ki kd period : Int) (slots : List (Int × Int)) (h1 : PRow w a1 bands.length c1 bands) (h2 : PRow w a2 slots.length c2 slots) :
    Calls Try.prog 19 #[plV ⟨1, target, bands, kp, ki, kd, period, slots⟩ a1 a2 c1 c2] w fun e w' => e = .returned (.bool (polR ⟨1, target, bands, kp, ki, kd, period, slots⟩)) ∧ Below w.heap.size w w' := by
  have HZ : Hid (polR ⟨1, target, bands, kp, ki, kd, period, slots⟩ = (decide (1 ≤ target ∧ target ≤ 1000000000) && zeroR ⟨0, 0, bands, kp, ki, kd, period, slots⟩)) := by
    show _ = _
    rfl
  have HM := Lib.hid (And.intro h1 h2)
  clear h1 h2
  unfold plV
  simp only
  go_enter Try.func19, Try.ntmps19
  go_wp2_with fail
  refine (dwithin_any target 1 1000000000 _).mono ?_
  rintro e w9 ⟨rfl, rfl⟩
  cases hx : decide (1 ≤ target ∧ target ≤ 1000000000)
  · have HX := Lib.hid hx
    clear hx
    go_wp2
    go_ret
    exact ⟨ret_bool (by rw [HZ.out]; simp [HX.out]), bel1 (Below.refl _ _) _⟩
  have HX0 := Lib.hid hx
  clear hx
  go_wp2_with fail
  refine (dnoneA target bands kp ki kd period slots 1 a1 a2 c1 c2 _).mono ?_
  rintro e xl ⟨rfl, hb⟩
  have HBl := Lib.hid (bel2 (bel1 (Below.refl _ _) _) hb)
  clear hb
  go_wp2
  go_ret
  exact ⟨ret_bool (by rw [HZ.out]; simp [HX0.out]), HBl.out⟩
set_option maxRecDepth 100000 in
set_option maxHeartbeats 3200000 in
theorem dpol2 {w : World} {a1 a2 : Option Addr} {c1 c2 : Nat} (target : Int) (bands : List (Int × Int)) (kp ki kd period : Int) (slots : List (Int × Int)) (h1 : PRow w a1 bands.length c1 bands) (h2 : PRow w a2 slots.length c2 slots) :
    Calls Try.prog 19 #[plV ⟨2, target, bands, kp, ki, kd, period, slots⟩ a1 a2 c1 c2] w fun e w' => e = .returned (.bool (polR ⟨2, target, bands, kp, ki, kd, period, slots⟩)) ∧ Below w.heap.size w w' := by
  have HZ : Hid (polR ⟨2, target, bands, kp, ki, kd, period, slots⟩ = (bandsOk bands && zeroR ⟨0, target, [], kp, ki, kd, period, slots⟩)) := by
    show _ = _
    rfl
  have HM := Lib.hid (And.intro h1 h2)
  clear h1 h2
  unfold plV
  simp only
  go_enter Try.func19, Try.ntmps19
  go_wp2_with fail
  refine (dbands_any (HM.out.1.on (bel1 (Below.refl _ _) _))).mono ?_
  rintro e x0 ⟨rfl, hb⟩
  have HB0 := Lib.hid (bel2 (bel1 (Below.refl _ _) _) hb)
  have HK := Lib.hid hb
  have hk := (HK.out.block w.heap.size (by simp)).trans (heap_alloc_new w (.cells #[.int .i64 2, .int .i64 target, .slice a1 bands.length c1, .int .i64 kp, .int .i64 ki, .int .i64 kd, .int .i64 period, .slice a2 slots.length c2] 25))
  have k0 := cell_of_row _ _ 0 _ _ _ hk
  have k1 := cell_of_row _ _ 1 _ _ _ hk
  have k2 := cell_of_row _ _ 2 _ _ _ hk
  have k3 := cell_of_row _ _ 3 _ _ _ hk
  have k4 := cell_of_row _ _ 4 _ _ _ hk
  have k5 := cell_of_row _ _ 5 _ _ _ hk
  have k6 := cell_of_row _ _ 6 _ _ _ hk
  have k7 := cell_of_row _ _ 7 _ _ _ hk
  simp only [List.getElem?_toArray, List.getElem?_cons_zero, List.getElem?_cons_succ] at k0 k1 k2 k3 k4 k5 k6 k7
  clear hb hk HK
  cases hx : bandsOk bands
  · have HX := Lib.hid hx
    clear hx
    go_wp2
    go_ret
    exact ⟨ret_bool (by rw [HZ.out]; simp [HX.out]), HB0.out⟩
  have HX0 := Lib.hid hx
  clear hx
  go_wp2_with fail
  refine (dnoneB target bands kp ki kd period slots 2 a1 a2 c1 c2 _).mono ?_
  rintro e xl ⟨rfl, hb⟩
  have HBl := Lib.hid (bel2 (HB0.out) hb)
  clear hb
  go_wp2
  go_ret
  exact ⟨ret_bool (by rw [HZ.out]; simp [HX0.out]), HBl.out⟩
set_option maxRecDepth 100000 in
set_option maxHeartbeats 3200000 in
theorem dpol3 {w : World} {a1 a2 : Option Addr} {c1 c2 : Nat} (target : Int) (bands : List (Int × Int)) (kp ki kd period : Int) (slots : List (Int × Int)) (h1 : PRow w a1 bands.length c1 bands) (h2 : PRow w a2 slots.length c2 slots) :
    Calls Try.prog 19 #[plV ⟨3, target, bands, kp, ki, kd, period, slots⟩ a1 a2 c1 c2] w fun e w' => e = .returned (.bool (polR ⟨3, target, bands, kp, ki, kd, period, slots⟩)) ∧ Below w.heap.size w w' := by
  have HZ : Hid (polR ⟨3, target, bands, kp, ki, kd, period, slots⟩ = (((decide (-1000000000 ≤ kp ∧ kp ≤ 1000000000) && decide (-1000000000 ≤ ki ∧ ki ≤ 1000000000)) && decide (-1000000000 ≤ kd ∧ kd ≤ 1000000000)) && decide (1 ≤ target ∧ target ≤ 1000000000) && zeroR ⟨0, 0, bands, 0, 0, 0, period, slots⟩)) := by
    show _ = _
    unfold polR fixR
    simp only [show ¬ ((3 : Int) = 1) from by decide, show ¬ ((3 : Int) = 2) from by decide, if_false, if_true]
    generalize decide (1 ≤ target ∧ target ≤ 1000000000) = a
    generalize decide (-1000000000 ≤ kp ∧ kp ≤ 1000000000) = b
    generalize decide (-1000000000 ≤ ki ∧ ki ≤ 1000000000) = c
    generalize decide (-1000000000 ≤ kd ∧ kd ≤ 1000000000) = d
    cases a <;> cases b <;> cases c <;> cases d <;> rfl
  have HM := Lib.hid (And.intro h1 h2)
  clear h1 h2
  unfold plV
  simp only
  go_enter Try.func19, Try.ntmps19
  go_wp2_with fail
  refine (dwithin_any kp (-1000000000) 1000000000 _).mono ?_
  rintro e w9 ⟨rfl, rfl⟩
  cases hx : decide (-1000000000 ≤ kp ∧ kp ≤ 1000000000)
  · have HX := Lib.hid hx
    clear hx
    go_wp2
    go_ret
    exact ⟨ret_bool (by rw [HZ.out]; simp [HX.out]), bel1 (Below.refl _ _) _⟩
  have HX0 := Lib.hid hx
  clear hx
  go_wp2_with fail
  refine (dwithin_any ki (-1000000000) 1000000000 _).mono ?_
  rintro e w9 ⟨rfl, rfl⟩
  cases hx : decide (-1000000000 ≤ ki ∧ ki ≤ 1000000000)
  · have HX := Lib.hid hx
    clear hx
    go_wp2
    go_ret
    exact ⟨ret_bool (by rw [HZ.out]; simp [HX.out]), bel1 (Below.refl _ _) _⟩
  have HX1 := Lib.hid hx
  clear hx
  go_wp2_with fail
  refine (dwithin_any kd (-1000000000) 1000000000 _).mono ?_
  rintro e w9 ⟨rfl, rfl⟩
  cases hx : decide (-1000000000 ≤ kd ∧ kd ≤ 1000000000)
  · have HX := Lib.hid hx
    clear hx
    go_wp2
    go_ret
    exact ⟨ret_bool (by rw [HZ.out]; simp [HX.out]), bel1 (Below.refl _ _) _⟩
  have HX2 := Lib.hid hx
  clear hx
  go_wp2_with fail
  refine (dwithin_any target 1 1000000000 _).mono ?_
  rintro e w9 ⟨rfl, rfl⟩
  cases hx : decide (1 ≤ target ∧ target ≤ 1000000000)
  · have HX := Lib.hid hx
    clear hx
    go_wp2
    go_ret
    exact ⟨ret_bool (by rw [HZ.out]; simp [HX.out]), bel1 (Below.refl _ _) _⟩
  have HX3 := Lib.hid hx
  clear hx
  go_wp2_with fail
  refine (dnoneC target bands kp ki kd period slots 3 a1 a2 c1 c2 _).mono ?_
  rintro e xl ⟨rfl, hb⟩
  have HBl := Lib.hid (bel2 (bel1 (Below.refl _ _) _) hb)
  clear hb
  go_wp2
  go_ret
  exact ⟨ret_bool (by rw [HZ.out]; simp [HX0.out, HX1.out, HX2.out, HX3.out]), HBl.out⟩
set_option maxRecDepth 100000 in
set_option maxHeartbeats 3200000 in
theorem dpol4 {w : World} {a1 a2 : Option Addr} {c1 c2 : Nat} (target : Int) (bands : List (Int × Int)) (kp ki kd period : Int) (slots : List (Int × Int)) (h1 : PRow w a1 bands.length c1 bands) (h2 : PRow w a2 slots.length c2 slots) :
    Calls Try.prog 19 #[plV ⟨4, target, bands, kp, ki, kd, period, slots⟩ a1 a2 c1 c2] w fun e w' => e = .returned (.bool (polR ⟨4, target, bands, kp, ki, kd, period, slots⟩)) ∧ Below w.heap.size w w' := by
  have HZ : Hid (polR ⟨4, target, bands, kp, ki, kd, period, slots⟩ = (dslR slots period && zeroR ⟨0, target, bands, kp, ki, kd, 0, []⟩)) := by
    show _ = _
    rfl
  have HM := Lib.hid (And.intro h1 h2)
  clear h1 h2
  unfold plV
  simp only
  go_enter Try.func19, Try.ntmps19
  go_wp2_with fail
  refine (dslots_any (HM.out.2.on (bel1 (Below.refl _ _) _)) period).mono ?_
  rintro e x0 ⟨rfl, hb⟩
  have HB0 := Lib.hid (bel2 (bel1 (Below.refl _ _) _) hb)
  have HK := Lib.hid hb
  have hk := (HK.out.block w.heap.size (by simp)).trans (heap_alloc_new w (.cells #[.int .i64 4, .int .i64 target, .slice a1 bands.length c1, .int .i64 kp, .int .i64 ki, .int .i64 kd, .int .i64 period, .slice a2 slots.length c2] 25))
  have k0 := cell_of_row _ _ 0 _ _ _ hk
  have k1 := cell_of_row _ _ 1 _ _ _ hk
  have k2 := cell_of_row _ _ 2 _ _ _ hk
  have k3 := cell_of_row _ _ 3 _ _ _ hk
  have k4 := cell_of_row _ _ 4 _ _ _ hk
  have k5 := cell_of_row _ _ 5 _ _ _ hk
  have k6 := cell_of_row _ _ 6 _ _ _ hk
  have k7 := cell_of_row _ _ 7 _ _ _ hk
  simp only [List.getElem?_toArray, List.getElem?_cons_zero, List.getElem?_cons_succ] at k0 k1 k2 k3 k4 k5 k6 k7
  clear hb hk HK
  cases hx : dslR slots period
  · have HX := Lib.hid hx
    clear hx
    go_wp2
    go_ret
    exact ⟨ret_bool (by rw [HZ.out]; simp [HX.out]), HB0.out⟩
  have HX0 := Lib.hid hx
  clear hx
  go_wp2_with fail
  refine (dnoneD target bands kp ki kd period slots 4 a1 a2 c1 c2 _).mono ?_
  rintro e xl ⟨rfl, hb⟩
  have HBl := Lib.hid (bel2 (HB0.out) hb)
  clear hb
  go_wp2
  go_ret
  exact ⟨ret_bool (by rw [HZ.out]; simp [HX0.out]), HBl.out⟩
set_option maxRecDepth 100000 in
set_option maxHeartbeats 3200000 in
theorem dpolN {w : World} {a1 a2 : Option Addr} {c1 c2 : Nat} (target : Int) (bands : List (Int × Int)) (kp ki kd period : Int) (slots : List (Int × Int)) (h1 : PRow w a1 bands.length c1 bands) (h2 : PRow w a2 slots.length c2 slots) (kind : Int) (hk : kind ≠ 1 ∧ kind ≠ 2 ∧ kind ≠ 3 ∧ kind ≠ 4) :
    Calls Try.prog 19 #[plV ⟨kind, target, bands, kp, ki, kd, period, slots⟩ a1 a2 c1 c2] w fun e w' => e = .returned (.bool (polR ⟨kind, target, bands, kp, ki, kd, period, slots⟩)) ∧ Below w.heap.size w w' := by
  have HZ : Hid (polR ⟨kind, target, bands, kp, ki, kd, period, slots⟩ = false) := by
    show _ = _
    unfold polR
    simp only [hk.1, hk.2.1, hk.2.2.1, hk.2.2.2, if_false]
  obtain ⟨k1, k2, k3, k4⟩ := hk
  have n1 : (kind == 1) = false := by simpa using k1
  have n2 : (kind == 2) = false := by simpa using k2
  have n3 : (kind == 3) = false := by simpa using k3
  have n4 : (kind == 4) = false := by simpa using k4
  clear k1 k2 k3 k4 h1 h2
  unfold plV
  simp only
  go_enter Try.func19, Try.ntmps19
  go_wp2
  go_ret
  exact ⟨ret_bool HZ.out.symm, bel1 (Below.refl _ _) _⟩
theorem dpol_any {w : World} {a1 a2 : Option Addr} {c1 c2 : Nat} (p : Pl) (h1 : PRow w a1 p.bands.length c1 p.bands) (h2 : PRow w a2 p.slots.length c2 p.slots) :
    Calls Try.prog 19 #[plV p a1 a2 c1 c2] w fun e w' => e = .returned (.bool (polR p)) ∧ Below w.heap.size w w' := by
  obtain ⟨kind, target, bands, kp, ki, kd, period, slots⟩ := p
  by_cases e1 : kind = 1
  · subst e1; exact dpol1 target bands kp ki kd period slots h1 h2
  by_cases e2 : kind = 2
  · subst e2; exact dpol2 target bands kp ki kd period slots h1 h2
  by_cases e3 : kind = 3
  · subst e3; exact dpol3 target bands kp ki kd period slots h1 h2
  by_cases e4 : kind = 4
  · subst e4; exact dpol4 target bands kp ki kd period slots h1 h2
  exact dpolN target bands kp ki kd period slots h1 h2 kind ⟨e1, e2, e3, e4⟩
end Go.Proofs.Ytpgjjdpblilljaa
