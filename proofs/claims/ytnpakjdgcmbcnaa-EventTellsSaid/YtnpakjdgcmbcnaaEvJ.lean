/- May an event be so. -/
import Derived.Test.YtnpakjdgcmbcnaaEvI
import Derived.Test.YtnpakjdgcmbcnaaEvF
namespace Go.Proofs.Ytnpakjdgcmbcnaa
open Go.RowKit
open Wir Evn
attribute [local go_sem] Oper.semAt_some

/-- An event as a value. -/
def evV (e : Ev) (a1 a2 a3 : Option Addr) (c1 c2 c3 : Nat) : Value := .agg (evC e a1 a2 a3 c1 c2 c3)
set_option linter.unusedSimpArgs false in
set_option maxRecDepth 100000 in
set_option maxHeartbeats 6400000 in
theorem nothing_any (e : Ev) (a1 a2 a3 : Option Addr) (c1 c2 c3 : Nat) (w : World) :
    Calls Try.prog 30 #[evV e a1 a2 a3 c1 c2 c3] w fun r w' => r = .returned (.bool (nothingR e)) ∧ Below w.heap.size w w' := by
  obtain ⟨kind, util, demand, t, id, n, ⟨pk, pt, bands, kp, ki, kd, pp, slots⟩, ⟨c1_, c2_, c3_, c4_, c5_, c6_, c7_, c8_, c9_, ca_, cb_, cc_⟩, body⟩ := e
  unfold evV evC
  simp only
  have HZ : Hid (nothingR ⟨kind, util, demand, t, id, n, ⟨pk, pt, bands, kp, ki, kd, pp, slots⟩, ⟨c1_, c2_, c3_, c4_, c5_, c6_, c7_, c8_, c9_, ca_, cb_, cc_⟩, body⟩ = (winR 0 0 [util, demand, t] && (winR 0 0 [id, n] && (zeroR ⟨pk, pt, bands, kp, ki, kd, pp, slots⟩ && (cfZero ⟨c1_, c2_, c3_, c4_, c5_, c6_, c7_, c8_, c9_, ca_, cb_, cc_⟩ && decide (body.length = 0)))))) := by
    show _ = _
    unfold nothingR
    simp only [winR, List.all_cons, List.all_nil, Bool.and_true]
    congr 1
    · rw [← Bool.decide_and, ← Bool.decide_and]; exact decide_eq_decide.2 (by omega)
    · congr 1
      rw [← Bool.decide_and]; exact decide_eq_decide.2 (by omega)
  go_enter Try.func30, Try.ntmps30
  go_wp2_with fail
  refine (within64_now 0 0 (l := [util, demand, t]) (by simp) rfl rfl (by simp)).mono ?_
  rintro r w1 ⟨rfl, rfl⟩
  cases hx : winR 0 0 [util, demand, t]
  · have HX := Lib.hid hx
    clear hx
    go_wp2
    go_ret
    exact ⟨ret_bool (by rw [HZ.out, HX.out]; rfl), bel1 (bel1 (Below.refl _ _) _) _⟩
  have HX1 := Lib.hid hx
  clear hx
  go_wp2_with fail
  refine (withinI_now 0 0 (l := [id, n]) (by simp) rfl rfl (by simp)).mono ?_
  rintro r w1 ⟨rfl, rfl⟩
  cases hx : winR 0 0 [id, n]
  · have HX := Lib.hid hx
    clear hx
    go_wp2
    go_ret
    exact ⟨ret_bool (by rw [HZ.out, HX1.out, HX.out]; rfl), bel1 (bel1 (bel1 (Below.refl _ _) _) _) _⟩
  have HX2 := Lib.hid hx
  clear hx
  go_wp2_with fail
  refine (zero_any ⟨pk, pt, bands, kp, ki, kd, pp, slots⟩ a1 a2 c1 c2 _).mono ?_
  rintro r w1 ⟨rfl, h1⟩
  have hB := (h1.block w.heap.size (by simp; omega)).trans ((Below.heap_alloc _ _ _ (by simp; omega)).trans ((Below.heap_alloc _ _ _ (by simp)).trans (heap_alloc_new w (.cells #[.int .i64 kind, .int .i64 util, .int .i64 demand, .int .i64 t, .int .i64 id, .int .i64 n, .int .i64 pk, .int .i64 pt, .slice a1 bands.length c1, .int .i64 kp, .int .i64 ki, .int .i64 kd, .int .i64 pp, .slice a2 slots.length c2, .int .i64 c1_, .int .i64 c2_, .int .i64 c3_, .int .i64 c4_, .int .i64 c5_, .int .i64 c6_, .int .i64 c7_, .int .i64 c8_, .int .i64 c9_, .int .i64 ca_, .int .i64 cb_, .int .i64 cc_, .slice a3 body.length c3] 30))))
  have k14 := cell_of_row _ _ 14 _ _ _ hB
  have k15 := cell_of_row _ _ 15 _ _ _ hB
  have k16 := cell_of_row _ _ 16 _ _ _ hB
  have k17 := cell_of_row _ _ 17 _ _ _ hB
  have k18 := cell_of_row _ _ 18 _ _ _ hB
  have k19 := cell_of_row _ _ 19 _ _ _ hB
  have k20 := cell_of_row _ _ 20 _ _ _ hB
  have k21 := cell_of_row _ _ 21 _ _ _ hB
  have k22 := cell_of_row _ _ 22 _ _ _ hB
  have k23 := cell_of_row _ _ 23 _ _ _ hB
  have k24 := cell_of_row _ _ 24 _ _ _ hB
  have k25 := cell_of_row _ _ 25 _ _ _ hB
  have k26 := cell_of_row _ _ 26 _ _ _ hB
  simp only [List.getElem?_toArray, List.getElem?_cons_zero, List.getElem?_cons_succ] at k14 k15 k16 k17 k18 k19 k20 k21 k22 k23 k24 k25 k26
  have H1 := Lib.hid (bel2 (bel1 (bel1 (bel1 (Below.refl _ _) _) _) _) h1)
  clear h1 hB
  cases hx : zeroR ⟨pk, pt, bands, kp, ki, kd, pp, slots⟩
  · have HX := Lib.hid hx
    clear hx
    go_wp2
    go_ret
    exact ⟨ret_bool (by rw [HZ.out, HX1.out, HX2.out, HX.out]; rfl), H1.out⟩
  have HX3 := Lib.hid hx
  clear hx
  by_cases hl : body.length = 0
  · have d1 : ((body.length : Int) == 0) = true := by simp [hl]
    have HL := Lib.hid hl
    clear hl
    go_wp2
    all_goals go_ret
    all_goals exact ⟨ret_bool (by rw [HZ.out, HX1.out, HX2.out, HX3.out, decide_eq_true HL.out]; simp [cfZero, *]), H1.out⟩
  · have d1 : ((body.length : Int) == 0) = false := by simpa using hl
    have HL := Lib.hid hl
    clear hl
    go_wp2
    all_goals go_ret
    all_goals exact ⟨ret_bool (by rw [HZ.out, HX1.out, HX2.out, HX3.out, decide_eq_false HL.out]; simp), H1.out⟩
set_option linter.unusedSimpArgs false in
set_option maxRecDepth 100000 in
set_option maxHeartbeats 6400000 in
theorem bounded1 {w : World} {a1 a2 a3 : Option Addr} {c1 c2 c3 : Nat} (util demand t id n pk pt : Int) (bands : List (Int × Int)) (kp ki kd pp : Int) (slots : List (Int × Int)) (c1_ c2_ c3_ c4_ c5_ c6_ c7_ c8_ c9_ ca_ cb_ cc_ : Int) (body : List Nat) (h1 : PRow w a1 bands.length c1 bands) (h2 : PRow w a2 slots.length c2 slots) :
    Calls Try.prog 29 #[evV ⟨1, util, demand, t, id, n, ⟨pk, pt, bands, kp, ki, kd, pp, slots⟩, ⟨c1_, c2_, c3_, c4_, c5_, c6_, c7_, c8_, c9_, ca_, cb_, cc_⟩, body⟩ a1 a2 a3 c1 c2 c3] w fun r w' => r = .returned (.bool (boundedR ⟨1, util, demand, t, id, n, ⟨pk, pt, bands, kp, ki, kd, pp, slots⟩, ⟨c1_, c2_, c3_, c4_, c5_, c6_, c7_, c8_, c9_, ca_, cb_, cc_⟩, body⟩)) ∧ Below w.heap.size w w' := by
  have HZ : Hid (boundedR ⟨1, util, demand, t, id, n, ⟨pk, pt, bands, kp, ki, kd, pp, slots⟩, ⟨c1_, c2_, c3_, c4_, c5_, c6_, c7_, c8_, c9_, ca_, cb_, cc_⟩, body⟩ = (true)) := by show _ = _; rfl
  have HM := Lib.hid (And.intro h1 h2)
  clear h1 h2
  unfold evV evC
  simp only
  go_enter Try.func29, Try.ntmps29
  go_wp2
  go_ret
  exact ⟨ret_bool (by rw [HZ.out]), (bel1 (Below.refl _ _) _)⟩
set_option linter.unusedSimpArgs false in
set_option maxRecDepth 100000 in
set_option maxHeartbeats 6400000 in
theorem bounded2 {w : World} {a1 a2 a3 : Option Addr} {c1 c2 c3 : Nat} (util demand t id n pk pt : Int) (bands : List (Int × Int)) (kp ki kd pp : Int) (slots : List (Int × Int)) (c1_ c2_ c3_ c4_ c5_ c6_ c7_ c8_ c9_ ca_ cb_ cc_ : Int) (body : List Nat) (h1 : PRow w a1 bands.length c1 bands) (h2 : PRow w a2 slots.length c2 slots) :
    Calls Try.prog 29 #[evV ⟨2, util, demand, t, id, n, ⟨pk, pt, bands, kp, ki, kd, pp, slots⟩, ⟨c1_, c2_, c3_, c4_, c5_, c6_, c7_, c8_, c9_, ca_, cb_, cc_⟩, body⟩ a1 a2 a3 c1 c2 c3] w fun r w' => r = .returned (.bool (boundedR ⟨2, util, demand, t, id, n, ⟨pk, pt, bands, kp, ki, kd, pp, slots⟩, ⟨c1_, c2_, c3_, c4_, c5_, c6_, c7_, c8_, c9_, ca_, cb_, cc_⟩, body⟩)) ∧ Below w.heap.size w w' := by
  have HZ : Hid (boundedR ⟨2, util, demand, t, id, n, ⟨pk, pt, bands, kp, ki, kd, pp, slots⟩, ⟨c1_, c2_, c3_, c4_, c5_, c6_, c7_, c8_, c9_, ca_, cb_, cc_⟩, body⟩ = (true)) := by show _ = _; rfl
  have HM := Lib.hid (And.intro h1 h2)
  clear h1 h2
  unfold evV evC
  simp only
  go_enter Try.func29, Try.ntmps29
  go_wp2
  go_ret
  exact ⟨ret_bool (by rw [HZ.out]), (bel1 (Below.refl _ _) _)⟩
set_option linter.unusedSimpArgs false in
set_option maxRecDepth 100000 in
set_option maxHeartbeats 6400000 in
theorem bounded6 {w : World} {a1 a2 a3 : Option Addr} {c1 c2 c3 : Nat} (util demand t id n pk pt : Int) (bands : List (Int × Int)) (kp ki kd pp : Int) (slots : List (Int × Int)) (c1_ c2_ c3_ c4_ c5_ c6_ c7_ c8_ c9_ ca_ cb_ cc_ : Int) (body : List Nat) (h1 : PRow w a1 bands.length c1 bands) (h2 : PRow w a2 slots.length c2 slots) :
    Calls Try.prog 29 #[evV ⟨6, util, demand, t, id, n, ⟨pk, pt, bands, kp, ki, kd, pp, slots⟩, ⟨c1_, c2_, c3_, c4_, c5_, c6_, c7_, c8_, c9_, ca_, cb_, cc_⟩, body⟩ a1 a2 a3 c1 c2 c3] w fun r w' => r = .returned (.bool (boundedR ⟨6, util, demand, t, id, n, ⟨pk, pt, bands, kp, ki, kd, pp, slots⟩, ⟨c1_, c2_, c3_, c4_, c5_, c6_, c7_, c8_, c9_, ca_, cb_, cc_⟩, body⟩)) ∧ Below w.heap.size w w' := by
  have HZ : Hid (boundedR ⟨6, util, demand, t, id, n, ⟨pk, pt, bands, kp, ki, kd, pp, slots⟩, ⟨c1_, c2_, c3_, c4_, c5_, c6_, c7_, c8_, c9_, ca_, cb_, cc_⟩, body⟩ = (placeR id)) := by show _ = _; rfl
  have HM := Lib.hid (And.intro h1 h2)
  clear h1 h2
  unfold evV evC
  simp only
  go_enter Try.func29, Try.ntmps29
  go_wp2_with fail
  refine (place_any id _).mono ?_
  rintro r w1 ⟨rfl, h1⟩
  have H1 := Lib.hid (bel2 (bel1 (Below.refl _ _) _) h1)
  clear h1
  go_wp2
  go_ret
  exact ⟨ret_bool (by rw [HZ.out]), H1.out⟩
set_option linter.unusedSimpArgs false in
set_option maxRecDepth 100000 in
set_option maxHeartbeats 6400000 in
theorem bounded7 {w : World} {a1 a2 a3 : Option Addr} {c1 c2 c3 : Nat} (util demand t id n pk pt : Int) (bands : List (Int × Int)) (kp ki kd pp : Int) (slots : List (Int × Int)) (c1_ c2_ c3_ c4_ c5_ c6_ c7_ c8_ c9_ ca_ cb_ cc_ : Int) (body : List Nat) (h1 : PRow w a1 bands.length c1 bands) (h2 : PRow w a2 slots.length c2 slots) :
    Calls Try.prog 29 #[evV ⟨7, util, demand, t, id, n, ⟨pk, pt, bands, kp, ki, kd, pp, slots⟩, ⟨c1_, c2_, c3_, c4_, c5_, c6_, c7_, c8_, c9_, ca_, cb_, cc_⟩, body⟩ a1 a2 a3 c1 c2 c3] w fun r w' => r = .returned (.bool (boundedR ⟨7, util, demand, t, id, n, ⟨pk, pt, bands, kp, ki, kd, pp, slots⟩, ⟨c1_, c2_, c3_, c4_, c5_, c6_, c7_, c8_, c9_, ca_, cb_, cc_⟩, body⟩)) ∧ Below w.heap.size w w' := by
  have HZ : Hid (boundedR ⟨7, util, demand, t, id, n, ⟨pk, pt, bands, kp, ki, kd, pp, slots⟩, ⟨c1_, c2_, c3_, c4_, c5_, c6_, c7_, c8_, c9_, ca_, cb_, cc_⟩, body⟩ = (placeR id)) := by show _ = _; rfl
  have HM := Lib.hid (And.intro h1 h2)
  clear h1 h2
  unfold evV evC
  simp only
  go_enter Try.func29, Try.ntmps29
  go_wp2_with fail
  refine (place_any id _).mono ?_
  rintro r w1 ⟨rfl, h1⟩
  have H1 := Lib.hid (bel2 (bel1 (Below.refl _ _) _) h1)
  clear h1
  go_wp2
  go_ret
  exact ⟨ret_bool (by rw [HZ.out]), H1.out⟩
set_option linter.unusedSimpArgs false in
set_option maxRecDepth 100000 in
set_option maxHeartbeats 6400000 in
theorem bounded8 {w : World} {a1 a2 a3 : Option Addr} {c1 c2 c3 : Nat} (util demand t id n pk pt : Int) (bands : List (Int × Int)) (kp ki kd pp : Int) (slots : List (Int × Int)) (c1_ c2_ c3_ c4_ c5_ c6_ c7_ c8_ c9_ ca_ cb_ cc_ : Int) (body : List Nat) (h1 : PRow w a1 bands.length c1 bands) (h2 : PRow w a2 slots.length c2 slots) :
    Calls Try.prog 29 #[evV ⟨8, util, demand, t, id, n, ⟨pk, pt, bands, kp, ki, kd, pp, slots⟩, ⟨c1_, c2_, c3_, c4_, c5_, c6_, c7_, c8_, c9_, ca_, cb_, cc_⟩, body⟩ a1 a2 a3 c1 c2 c3] w fun r w' => r = .returned (.bool (boundedR ⟨8, util, demand, t, id, n, ⟨pk, pt, bands, kp, ki, kd, pp, slots⟩, ⟨c1_, c2_, c3_, c4_, c5_, c6_, c7_, c8_, c9_, ca_, cb_, cc_⟩, body⟩)) ∧ Below w.heap.size w w' := by
  have HZ : Hid (boundedR ⟨8, util, demand, t, id, n, ⟨pk, pt, bands, kp, ki, kd, pp, slots⟩, ⟨c1_, c2_, c3_, c4_, c5_, c6_, c7_, c8_, c9_, ca_, cb_, cc_⟩, body⟩ = (decide (body.length ≤ 1700))) := by show _ = _; rfl
  have HM := Lib.hid (And.intro h1 h2)
  clear h1 h2
  unfold evV evC
  simp only
  by_cases hl : body.length ≤ 1700
  · have d1 : decide ((body.length : Int) ≤ 1700) = true := by simp; omega
    have HL := Lib.hid hl
    clear hl
    go_enter Try.func29, Try.ntmps29
    go_wp2
    go_ret
    exact ⟨ret_bool (by rw [HZ.out, decide_eq_true HL.out]), (bel1 (Below.refl _ _) _)⟩
  · have d1 : decide ((body.length : Int) ≤ 1700) = false := by simp; omega
    have HL := Lib.hid hl
    clear hl
    go_enter Try.func29, Try.ntmps29
    go_wp2
    go_ret
    exact ⟨ret_bool (by rw [HZ.out, decide_eq_false HL.out]), (bel1 (Below.refl _ _) _)⟩
set_option linter.unusedSimpArgs false in
set_option maxRecDepth 100000 in
set_option maxHeartbeats 6400000 in
theorem bounded5 {w : World} {a1 a2 a3 : Option Addr} {c1 c2 c3 : Nat} (util demand t id n pk pt : Int) (bands : List (Int × Int)) (kp ki kd pp : Int) (slots : List (Int × Int)) (c1_ c2_ c3_ c4_ c5_ c6_ c7_ c8_ c9_ ca_ cb_ cc_ : Int) (body : List Nat) (h1 : PRow w a1 bands.length c1 bands) (h2 : PRow w a2 slots.length c2 slots) :
    Calls Try.prog 29 #[evV ⟨5, util, demand, t, id, n, ⟨pk, pt, bands, kp, ki, kd, pp, slots⟩, ⟨c1_, c2_, c3_, c4_, c5_, c6_, c7_, c8_, c9_, ca_, cb_, cc_⟩, body⟩ a1 a2 a3 c1 c2 c3] w fun r w' => r = .returned (.bool (boundedR ⟨5, util, demand, t, id, n, ⟨pk, pt, bands, kp, ki, kd, pp, slots⟩, ⟨c1_, c2_, c3_, c4_, c5_, c6_, c7_, c8_, c9_, ca_, cb_, cc_⟩, body⟩)) ∧ Below w.heap.size w w' := by
  have HZ : Hid (boundedR ⟨5, util, demand, t, id, n, ⟨pk, pt, bands, kp, ki, kd, pp, slots⟩, ⟨c1_, c2_, c3_, c4_, c5_, c6_, c7_, c8_, c9_, ca_, cb_, cc_⟩, body⟩ = (decide (0 ≤ t ∧ t ≤ 1099511627776) && decide (0 ≤ n ∧ n ≤ 1000))) := by show _ = _; rfl
  have HM := Lib.hid (And.intro h1 h2)
  clear h1 h2
  unfold evV evC
  simp only
  go_enter Try.func29, Try.ntmps29
  go_wp2_with fail
  refine (within64_now 0 1099511627776 (l := [t]) (by simp) rfl rfl (by simp)).mono ?_
  rintro r w1 ⟨rfl, rfl⟩
  by_cases hx : 0 ≤ t ∧ t ≤ 1099511627776
  · rw [win_yes hx]
    have HX := Lib.hid hx
    clear hx
    go_wp2_with fail
    refine (withinI_now 0 1000 (l := [n]) (by simp) rfl rfl (by simp)).mono ?_
    rintro r w1 ⟨rfl, rfl⟩
    by_cases hy : 0 ≤ n ∧ n ≤ 1000
    · rw [win_yes hy]
      have HY := Lib.hid hy
      clear hy
      go_wp2
      go_ret
      exact ⟨ret_bool (by rw [HZ.out, decide_eq_true HX.out, decide_eq_true HY.out]; rfl), bel1 (bel1 (bel1 (Below.refl _ _) _) _) _⟩
    · rw [win_no hy]
      have HY := Lib.hid hy
      clear hy
      go_wp2
      go_ret
      exact ⟨ret_bool (by rw [HZ.out, decide_eq_true HX.out, decide_eq_false HY.out]; rfl), bel1 (bel1 (bel1 (Below.refl _ _) _) _) _⟩
  · rw [win_no hx]
    have HX := Lib.hid hx
    clear hx
    go_wp2
    go_ret
    exact ⟨ret_bool (by rw [HZ.out, decide_eq_false HX.out]; rfl), bel1 (bel1 (Below.refl _ _) _) _⟩
set_option linter.unusedSimpArgs false in
set_option maxRecDepth 100000 in
set_option maxHeartbeats 6400000 in
theorem bounded4 {w : World} {a1 a2 a3 : Option Addr} {c1 c2 c3 : Nat} (util demand t id n pk pt : Int) (bands : List (Int × Int)) (kp ki kd pp : Int) (slots : List (Int × Int)) (c1_ c2_ c3_ c4_ c5_ c6_ c7_ c8_ c9_ ca_ cb_ cc_ : Int) (body : List Nat) (h1 : PRow w a1 bands.length c1 bands) (h2 : PRow w a2 slots.length c2 slots) :
    Calls Try.prog 29 #[evV ⟨4, util, demand, t, id, n, ⟨pk, pt, bands, kp, ki, kd, pp, slots⟩, ⟨c1_, c2_, c3_, c4_, c5_, c6_, c7_, c8_, c9_, ca_, cb_, cc_⟩, body⟩ a1 a2 a3 c1 c2 c3] w fun r w' => r = .returned (.bool (boundedR ⟨4, util, demand, t, id, n, ⟨pk, pt, bands, kp, ki, kd, pp, slots⟩, ⟨c1_, c2_, c3_, c4_, c5_, c6_, c7_, c8_, c9_, ca_, cb_, cc_⟩, body⟩)) ∧ Below w.heap.size w w' := by
  have HZ : Hid (boundedR ⟨4, util, demand, t, id, n, ⟨pk, pt, bands, kp, ki, kd, pp, slots⟩, ⟨c1_, c2_, c3_, c4_, c5_, c6_, c7_, c8_, c9_, ca_, cb_, cc_⟩, body⟩ = (confR ⟨c1_, c2_, c3_, c4_, c5_, c6_, c7_, c8_, c9_, ca_, cb_, cc_⟩)) := by show _ = _; rfl
  have HM := Lib.hid (And.intro h1 h2)
  clear h1 h2
  unfold evV evC
  simp only
  go_enter Try.func29, Try.ntmps29
  go_wp2_with fail
  refine (conf_any ⟨c1_, c2_, c3_, c4_, c5_, c6_, c7_, c8_, c9_, ca_, cb_, cc_⟩ _).mono ?_
  rintro r w1 ⟨rfl, h1⟩
  have H1 := Lib.hid (bel2 (bel1 (Below.refl _ _) _) h1)
  clear h1
  go_wp2
  go_ret
  exact ⟨ret_bool (by rw [HZ.out]), H1.out⟩
set_option linter.unusedSimpArgs false in
set_option maxRecDepth 100000 in
set_option maxHeartbeats 6400000 in
theorem bounded3 {w : World} {a1 a2 a3 : Option Addr} {c1 c2 c3 : Nat} (util demand t id n pk pt : Int) (bands : List (Int × Int)) (kp ki kd pp : Int) (slots : List (Int × Int)) (c1_ c2_ c3_ c4_ c5_ c6_ c7_ c8_ c9_ ca_ cb_ cc_ : Int) (body : List Nat) (h1 : PRow w a1 bands.length c1 bands) (h2 : PRow w a2 slots.length c2 slots) :
    Calls Try.prog 29 #[evV ⟨3, util, demand, t, id, n, ⟨pk, pt, bands, kp, ki, kd, pp, slots⟩, ⟨c1_, c2_, c3_, c4_, c5_, c6_, c7_, c8_, c9_, ca_, cb_, cc_⟩, body⟩ a1 a2 a3 c1 c2 c3] w fun r w' => r = .returned (.bool (boundedR ⟨3, util, demand, t, id, n, ⟨pk, pt, bands, kp, ki, kd, pp, slots⟩, ⟨c1_, c2_, c3_, c4_, c5_, c6_, c7_, c8_, c9_, ca_, cb_, cc_⟩, body⟩)) ∧ Below w.heap.size w w' := by
  have HZ : Hid (boundedR ⟨3, util, demand, t, id, n, ⟨pk, pt, bands, kp, ki, kd, pp, slots⟩, ⟨c1_, c2_, c3_, c4_, c5_, c6_, c7_, c8_, c9_, ca_, cb_, cc_⟩, body⟩ = (placeR id && (polR ⟨pk, pt, bands, kp, ki, kd, pp, slots⟩ || (decide (id ≠ 0) && zeroR ⟨pk, pt, bands, kp, ki, kd, pp, slots⟩)))) := by show _ = _; rfl
  have HM := Lib.hid (And.intro h1 h2)
  clear h1 h2
  unfold evV evC
  simp only
  go_enter Try.func29, Try.ntmps29
  go_wp2_with fail
  refine (place_any id _).mono ?_
  rintro r w1 ⟨rfl, h1⟩
  have HB := Lib.hid h1
  cases hx : placeR id
  · have HX := Lib.hid hx
    have H1 := Lib.hid (bel2 (bel1 (Below.refl _ _) _) h1)
    clear hx h1 HB
    go_wp2
    go_ret
    exact ⟨ret_bool (by rw [HZ.out, HX.out]; rfl), H1.out⟩
  have HX := Lib.hid hx
  have hB0 := (h1.block w.heap.size (by simp)).trans (heap_alloc_new w (.cells #[.int .i64 3, .int .i64 util, .int .i64 demand, .int .i64 t, .int .i64 id, .int .i64 n, .int .i64 pk, .int .i64 pt, .slice a1 bands.length c1, .int .i64 kp, .int .i64 ki, .int .i64 kd, .int .i64 pp, .slice a2 slots.length c2, .int .i64 c1_, .int .i64 c2_, .int .i64 c3_, .int .i64 c4_, .int .i64 c5_, .int .i64 c6_, .int .i64 c7_, .int .i64 c8_, .int .i64 c9_, .int .i64 ca_, .int .i64 cb_, .int .i64 cc_, .slice a3 body.length c3] 30))
  have hB := hB0
  have k4 := cell_of_row _ _ 4 _ _ _ hB
  have k6 := cell_of_row _ _ 6 _ _ _ hB
  have k7 := cell_of_row _ _ 7 _ _ _ hB
  have k8 := cell_of_row _ _ 8 _ _ _ hB
  have k9 := cell_of_row _ _ 9 _ _ _ hB
  have k10 := cell_of_row _ _ 10 _ _ _ hB
  have k11 := cell_of_row _ _ 11 _ _ _ hB
  have k12 := cell_of_row _ _ 12 _ _ _ hB
  have k13 := cell_of_row _ _ 13 _ _ _ hB
  simp only [List.getElem?_toArray, List.getElem?_cons_zero, List.getElem?_cons_succ] at k4 k6 k7 k8 k9 k10 k11 k12 k13
  have CP := Lib.hid (policy_any (w := w1) (a1 := a1) (a2 := a2) (c1 := c1) (c2 := c2) ⟨pk, pt, bands, kp, ki, kd, pp, slots⟩ (HM.out.1.on (bel2 (bel1 (Below.refl _ _) _) h1)) (HM.out.2.on (bel2 (bel1 (Below.refl _ _) _) h1)))
  have H1 := Lib.hid (bel2 (bel1 (Below.refl _ _) _) h1)
  have HB0 := Lib.hid hB0
  clear hx h1 hB hB0
  go_wp2_with fail
  refine CP.out.mono ?_
  rintro r w2 ⟨rfl, h2⟩
  have hB0 := (h2.block w.heap.size (lt_of_heap HB0.out)).trans HB0.out
  have H2 := Lib.hid (bel2 H1.out h2)
  clear k4 k6 k7 k8 k9 k10 k11 k12 k13 CP h2
  have hB := hB0
  have k4 := cell_of_row _ _ 4 _ _ _ hB
  have k6 := cell_of_row _ _ 6 _ _ _ hB
  have k7 := cell_of_row _ _ 7 _ _ _ hB
  have k8 := cell_of_row _ _ 8 _ _ _ hB
  have k9 := cell_of_row _ _ 9 _ _ _ hB
  have k10 := cell_of_row _ _ 10 _ _ _ hB
  have k11 := cell_of_row _ _ 11 _ _ _ hB
  have k12 := cell_of_row _ _ 12 _ _ _ hB
  have k13 := cell_of_row _ _ 13 _ _ _ hB
  simp only [List.getElem?_toArray, List.getElem?_cons_zero, List.getElem?_cons_succ] at k4 k6 k7 k8 k9 k10 k11 k12 k13
  cases hx : polR ⟨pk, pt, bands, kp, ki, kd, pp, slots⟩
  · have HX2 := Lib.hid hx
    clear hx hB hB0
    by_cases hi : id = 0
    · subst hi
      go_wp2
      go_ret
      exact ⟨ret_bool (by rw [HZ.out, HX.out, HX2.out]; simp), H2.out⟩
    · have ne : (id == 0) = false := by simpa using hi
      have HI := Lib.hid hi
      clear hi
      go_wp2_with fail
      refine (zero_any ⟨pk, pt, bands, kp, ki, kd, pp, slots⟩ a1 a2 c1 c2 _).mono ?_
      rintro r w3 ⟨rfl, h3⟩
      have H3 := Lib.hid (bel2 H2.out h3)
      clear h3
      go_wp2
      go_ret
      exact ⟨ret_bool (by rw [HZ.out, HX.out, HX2.out]; simp [HI.out]), H3.out⟩
  · have HX2 := Lib.hid hx
    clear hx hB hB0
    go_wp2
    go_ret
    exact ⟨ret_bool (by rw [HZ.out, HX.out, HX2.out]; rfl), H2.out⟩
set_option linter.unusedSimpArgs false in
set_option maxRecDepth 100000 in
set_option maxHeartbeats 6400000 in
theorem bounded0 {w : World} {a1 a2 a3 : Option Addr} {c1 c2 c3 : Nat} (e : Ev) (hk : ¬ (1 ≤ e.kind ∧ e.kind ≤ 8)) :
    Calls Try.prog 29 #[evV e a1 a2 a3 c1 c2 c3] w fun r w' => r = .returned (.bool (boundedR e)) ∧ Below w.heap.size w w' := by
  have HZ : Hid (boundedR e = false) := by show _ = _; unfold boundedR; rw [if_neg (by omega), if_neg (by omega), if_neg (by omega), if_neg (by omega), if_neg (by omega), if_neg (by omega)]
  obtain ⟨kind, util, demand, t, id, n, ⟨pk, pt, bands, kp, ki, kd, pp, slots⟩, ⟨c1_, c2_, c3_, c4_, c5_, c6_, c7_, c8_, c9_, ca_, cb_, cc_⟩, body⟩ := e
  simp only at hk
  have n1 : (kind == 1) = false := by simp; omega
  have n2 : (kind == 2) = false := by simp; omega
  have n3 : (kind == 3) = false := by simp; omega
  have n4 : (kind == 4) = false := by simp; omega
  have n5 : (kind == 5) = false := by simp; omega
  have n6 : (kind == 6) = false := by simp; omega
  have n7 : (kind == 7) = false := by simp; omega
  have n8 : (kind == 8) = false := by simp; omega
  clear hk
  unfold evV evC
  simp only
  go_enter Try.func29, Try.ntmps29
  go_wp2
  go_ret
  exact ⟨ret_bool (by rw [HZ.out]), (bel1 (Below.refl _ _) _)⟩
theorem bounded_any {w : World} {a1 a2 a3 : Option Addr} {c1 c2 c3 : Nat} (e : Ev) (h1 : PRow w a1 e.pol.bands.length c1 e.pol.bands) (h2 : PRow w a2 e.pol.slots.length c2 e.pol.slots) :
    Calls Try.prog 29 #[evV e a1 a2 a3 c1 c2 c3] w fun r w' => r = .returned (.bool (boundedR e)) ∧ Below w.heap.size w w' := by
  by_cases hk : 1 ≤ e.kind ∧ e.kind ≤ 8
  · obtain ⟨kind, util, demand, t, id, n, ⟨pk, pt, bands, kp, ki, kd, pp, slots⟩, ⟨c1_, c2_, c3_, c4_, c5_, c6_, c7_, c8_, c9_, ca_, cb_, cc_⟩, body⟩ := e
    simp only at hk h1 h2
    have : kind = 1 ∨ kind = 2 ∨ kind = 3 ∨ kind = 4 ∨ kind = 5 ∨ kind = 6 ∨ kind = 7 ∨ kind = 8 := by omega
    rcases this with rfl | rfl | rfl | rfl | rfl | rfl | rfl | rfl
    · exact bounded1 util demand t id n pk pt bands kp ki kd pp slots c1_ c2_ c3_ c4_ c5_ c6_ c7_ c8_ c9_ ca_ cb_ cc_ body h1 h2
    · exact bounded2 util demand t id n pk pt bands kp ki kd pp slots c1_ c2_ c3_ c4_ c5_ c6_ c7_ c8_ c9_ ca_ cb_ cc_ body h1 h2
    · exact bounded3 util demand t id n pk pt bands kp ki kd pp slots c1_ c2_ c3_ c4_ c5_ c6_ c7_ c8_ c9_ ca_ cb_ cc_ body h1 h2
    · exact bounded4 util demand t id n pk pt bands kp ki kd pp slots c1_ c2_ c3_ c4_ c5_ c6_ c7_ c8_ c9_ ca_ cb_ cc_ body h1 h2
    · exact bounded5 util demand t id n pk pt bands kp ki kd pp slots c1_ c2_ c3_ c4_ c5_ c6_ c7_ c8_ c9_ ca_ cb_ cc_ body h1 h2
    · exact bounded6 util demand t id n pk pt bands kp ki kd pp slots c1_ c2_ c3_ c4_ c5_ c6_ c7_ c8_ c9_ ca_ cb_ cc_ body h1 h2
    · exact bounded7 util demand t id n pk pt bands kp ki kd pp slots c1_ c2_ c3_ c4_ c5_ c6_ c7_ c8_ c9_ ca_ cb_ cc_ body h1 h2
    · exact bounded8 util demand t id n pk pt bands kp ki kd pp slots c1_ c2_ c3_ c4_ c5_ c6_ c7_ c8_ c9_ ca_ cb_ cc_ body h1 h2
  · exact bounded0 e hk
end Go.Proofs.Ytnpakjdgcmbcnaa
