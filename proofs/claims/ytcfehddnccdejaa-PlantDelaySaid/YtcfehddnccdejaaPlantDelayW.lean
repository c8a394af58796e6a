/- PlantDelay: the walk. -/
import Derived.Test.YtcfehddnccdejaaQlI
import Derived.Test.YtcfehddnccdejaaQlJ
import Derived.Deep.RegionHeld
import Derived.Deep.CutRange
import Derived.Lib.MinMax
namespace Go.Proofs.Ytcfehddnccdejaa
set_option linter.unusedSimpArgs false
set_option linter.unusedVariables false
open Go.RowKit
open Wir Evn Lim Plt
attribute [local go_sem] Oper.semAt_some

set_option maxRecDepth 100000 in
set_option maxHeartbeats 3200000 in
theorem plantDelay_walk (c : Cf) (H M d : Int) (h1 : 0 ≤ H) (h2 : H ≤ 255) (m1 : 0 ≤ M) (m2 : M ≤ 255) (w : World) :
    Calls Try.prog 5 #[cfV c, .int .u8 H, .int .u8 M, .int .i64 d] w fun r w' => r = .returned (.bool true) ∧ Below w.heap.size w w' := by
  obtain ⟨x, hx⟩ : ∃ x, x = w.alloc (.cells #[.int .i64 c.min, .int .i64 c.max, .int .i64 c.rate, .int .i64 c.stable, .int .i64 c.cap, .int .i64 c.delay, .int .i64 c.slack, .int .i64 c.window, .int .i64 c.margin, .int .i64 c.ceil, .int .i64 c.probe, .int .i64 c.breach] 23) := ⟨_, rfl⟩
  have HB : Hid (Below w.heap.size w x) := by show Below _ _ _; rw [hx]; exact bel1 (Below.refl _ _) _
  have HP : Hid (CBx x w.heap.size c) := by show CBx _ _ _; rw [hx]; exact heap_alloc_new _ _
  have HX := Lib.hid hx
  clear hx
  have wH : IntKind.i64.wrap H = H := by rw [IntKind.wrap_i64]; omega
  have wM : IntKind.i64.wrap M = M := by rw [IntKind.wrap_i64]; omega
  have wN : IntKind.i64.wrap (H + M) = H + M := by rw [IntKind.wrap_i64]; omega
  unfold cfV
  go_enter Try.func5, Try.ntmps5
  go_wp2_with fail
  rw [← HX.out]
  refine (qhead_any _).mono ?_
  rintro r w1 ⟨rfl, b⟩
  clear HX
  have HP := Lib.hid (HP.out.on b)
  have HB := Lib.hid (bel2 HB.out b)
  clear b
  go_wp2_with (first
    | (refine wpList_load_rowG (by first | rfl | kernel_rfl | (simp [Region.wanted, yielded])) 23 (.tmp 4) (by rfl) (w.heap.size) (by rfl) 23 _ (0, 0) _ HP.out Try.underlying23 (by rfl) (by kernel_rfl) ?_)
    | fail)
  refine (dconf_any c _).mono ?_
  rintro r w2 ⟨rfl, b⟩
  have HP := Lib.hid (HP.out.on b)
  have HB := Lib.hid (bel2 HB.out b)
  clear b
  cases hc9 : confR c
  · clear hc9
    go_wp2
    go_ret
    exact ⟨rfl, HB.out⟩
  have HC := Lib.hid hc9
  clear hc9
  go_wp2_with fail
  refine (pnew_l H H (by unfold rep; omega) _).mono ?_
  rintro r v0 ⟨rfl, b⟩
  have HP := Lib.hid (HP.out.on b)
  have HB := Lib.hid (bel2 HB.out b)
  clear b
  go_upto_region 5 with fail
  have b := bel1 (Below.refl v0.heap.size v0) (.cells #[.int .i64 H, .slice none 0 0, .int .i64 0, .int .i64 0] 26)
  have hX : PvA (v0.alloc (.cells #[.int .i64 H, .slice none 0 0, .int .i64 0, .int .i64 0] 26)) v0.heap.size ⟨H, [], 0, 0⟩ none 0 := ⟨heap_alloc_new _ _, SRw.none_ _⟩
  have hlo : Hid (w.heap.size < v0.heap.size) := lt_of_heap HP.out
  generalize hw9 : v0.alloc (.cells #[.int .i64 H, .slice none 0 0, .int .i64 0, .int .i64 0] 26) = x0 at *
  have HP := Lib.hid (HP.out.on b)
  have HB := Lib.hid (bel2 HB.out b)
  clear b
  have X := Lib.hid hX
  clear hX hw9
  obtain ⟨D, hD⟩ : ∃ D : Nat, c.delay = (D : Int) := ⟨c.delay.toNat, by have := (CQ.of HC.out).d1; omega⟩
  have hD8 : D ≤ 8 := by have := (CQ.of HC.out).d2; omega
  have HD := Lib.hid hD
  have HD8 := Lib.hid hD8
  clear hD hD8
  have HDS := Lib.hid (DS.zero (D := D) (M := M) h1 h2)
  go_wp2_with fail
  go_loopw [12] (fun i wx => ∃ (k : Nat) (r t u : Int) (l : List Int) (a : Option Addr) (kk : Nat), k ≤ D + 1 ∧ i = .int .i64 (k : Int) ∧ DS D H M k ⟨r, l, t, u⟩ ∧ PvA wx v0.heap.size ⟨r, l, t, u⟩ a kk ∧ CBx wx w.heap.size c ∧ Below w.heap.size w wx) (fun i _ => 10 - (intOf i).toNat)
  case atStart => exact ⟨0, H, 0, 0, [], none, 0, by omega, rfl, HDS.out, X.out, HP.out, HB.out⟩
  case round =>
    clear X HP HB HDS
    obtain ⟨k, r1, t1, u1, l1, a1, k1, hk, rfl, hds, hx, hp, hb⟩ := hrel
    have X := Lib.hid hx
    have HP := Lib.hid hp
    have HB := Lib.hid hb
    have HDS := Lib.hid hds
    clear hx hp hb hds
    have hdl : wr.cell? ⟨w.heap.size, 5, none⟩ = some (.int .i64 (D : Int)) := by rw [← HD.out]; exact (cell_of_row _ _ _ _ _ _ HP.out).trans rfl
    by_cases hkD : k ≤ D
    · have HXL := Lib.hid (lt_of_heap X.out.at_)
      have hkD' : (k : Int) ≤ (D : Int) := by omega
      have wk : IntKind.i64.wrap ((k : Int) + 1) = (k : Int) + 1 := by have := HD8.out; rw [IntKind.wrap_i64]; omega
      have hKD := Lib.hid hkD
      obtain ⟨hn, hal⟩ := DS.next (CQ.of HC.out) HD.out h1 h2 m1 m2 hkD HDS.out d
      obtain ⟨r2, l2, t2, u2, hP2⟩ : ∃ r l t u, Plt.step c ⟨r1, l1, t1, u1⟩ (H + M) d = ⟨r, l, t, u⟩ := ⟨_, _, _, _, rfl⟩
      obtain ⟨mc2, mb2, hM2⟩ : ∃ mc mb, Plt.mark c ⟨r1, l1, t1, u1⟩ (H + M) d = (mc, mb) := ⟨_, _, rfl⟩
      rw [hP2] at hn hal
      have HP2 := Lib.hid hP2
      have HM2 := Lib.hid hM2
      have HN := Lib.hid hn
      have HAL := Lib.hid hal
      clear hP2 hM2 hn hal hkD
      have q0 : wr.cell? ⟨v0.heap.size, 0, none⟩ = some (.int .i64 r1) := (PtAt.c X.out.at_).1
      have q1 : wr.cell? ⟨v0.heap.size, 1, none⟩ = some (.slice a1 l1.length k1) := (PtAt.c X.out.at_).2.1
      have q2 : wr.cell? ⟨v0.heap.size, 2, none⟩ = some (.int .i64 t1) := (PtAt.c X.out.at_).2.2.1
      have q3 : wr.cell? ⟨v0.heap.size, 3, none⟩ = some (.int .i64 u1) := (PtAt.c X.out.at_).2.2.2
      go_wp2_with (first
        | (refine wpList_load_rowG (by first | rfl | kernel_rfl | (simp [Region.wanted, yielded])) 23 (.tmp 4) (by rfl) (w.heap.size) (by rfl) 23 _ (0, 0) _ HP.out Try.underlying23 (by rfl) (by kernel_rfl) ?_)
        | fail)
      clear hdl
      refine (pstep_l ⟨r1, l1, t1, u1⟩ HDS.out.ok X.out.row HC.out (H + M) d r2 l2 t2 u2 mc2 mb2 l2.length HP2.out HM2.out rfl).mono ?_
      rintro r v2 ⟨a2, k2, rfl, hs2, ho2, b⟩
      have HO2 := Lib.hid ho2
      clear ho2
      have HP := Lib.hid (HP.out.on b)
      have X := Lib.hid (X.out.on b)
      have HB := Lib.hid (bel2 HB.out b)
      clear b
      go_upto_region 10 with fail
      obtain ⟨b, hX, hM⟩ := two_new v2 r2 l2 t2 u2 a2 k2 mc2 mb2 l2.length rfl hs2
      generalize hw9 : (v2.alloc (.cells #[.int .i64 r2, .slice a2 l2.length k2, .int .i64 t2, .int .i64 u2] 26)).alloc (.cells #[.int .i64 mc2, .bool mb2] 31) = x2 at *
      have HP := Lib.hid (HP.out.on b)
      have X := Lib.hid (X.out.on b)
      have HB := Lib.hid (bel2 HB.out b)
      clear b
      have X2 := Lib.hid hX
      have M2 := Lib.hid hM
      clear hX hM hs2 hw9
      clear q0 q1 q2 q3
      have hdl : x2.cell? ⟨w.heap.size, 5, none⟩ = some (.int .i64 (D : Int)) := by rw [← HD.out]; exact (cell_of_row _ _ _ _ _ _ HP.out).trans rfl
      by_cases hge : D ≤ k
      · have hge' : (D : Int) ≤ (k : Int) := by omega
        obtain ⟨rfl, hl2⟩ : r2 = H + M ∧ l2 = [] := by have := HN.out.hi (by omega); exact this
        clear hl2
        have q0 : x2.cell? ⟨v2.heap.size, 0, none⟩ = some (.int .i64 (H + M)) := (PtAt.c X2.out.at_).1
        have q1 : x2.cell? ⟨v2.heap.size, 1, none⟩ = some (.slice a2 l2.length k2) := (PtAt.c X2.out.at_).2.1
        have q2 : x2.cell? ⟨v2.heap.size, 2, none⟩ = some (.int .i64 t2) := (PtAt.c X2.out.at_).2.2.1
        have q3 : x2.cell? ⟨v2.heap.size, 3, none⟩ = some (.int .i64 u2) := (PtAt.c X2.out.at_).2.2.2
        go_wp2_with fail
        refine (pall_any (p := ⟨H + M, l2, t2, u2⟩) (TOk.n (TOk.of HN.out.ok)) X2.out.row).mono ?_
        rintro r y2 ⟨rfl, b⟩
        have HP := Lib.hid (HP.out.on b)
        have X := Lib.hid (X.out.on b)
        have X2 := Lib.hid (X2.out.on b)
        have HB := Lib.hid (bel2 HB.out b)
        clear b
        clear q0 q1 q2 q3
        rw [HAL.out]
        have q0 : y2.cell? ⟨v2.heap.size, 0, none⟩ = some (.int .i64 (H + M)) := (PtAt.c X2.out.at_).1
        have q1 : y2.cell? ⟨v2.heap.size, 1, none⟩ = some (.slice a2 l2.length k2) := (PtAt.c X2.out.at_).2.1
        have q2 : y2.cell? ⟨v2.heap.size, 2, none⟩ = some (.int .i64 t2) := (PtAt.c X2.out.at_).2.2.1
        have q3 : y2.cell? ⟨v2.heap.size, 3, none⟩ = some (.int .i64 u2) := (PtAt.c X2.out.at_).2.2.2
        skip
        go_wp2_with (first | (refine wpList_store_mid (by rfl) 26 (.tmp 10) (.tmp 60) (by rfl) v0.heap.size 0 #[.int .i64 (H + M), .slice a2 l2.length k2, .int .i64 t2, .int .i64 u2] (by rfl) (by rfl) (there_of_block X.out.at_ (by simp)) (by kernel_rfl) (by kernel_rfl) ?_) | fail)
        go_roundw
        case rel => exact ⟨k + 1, H + M, t2, u2, l2, a2, k2, by have := hKD.out; omega, by go_num, HN.out, ⟨heap_setCells_whole (cs := [Value.int .i64 r1, .slice a1 l1.length k1, .int .i64 t1, .int .i64 u1]) (#[.int .i64 (H + M), .slice a2 l2.length k2, .int .i64 t2, .int .i64 u2] : Array Value).toList rfl X.out.at_, X2.out.row.farA (apart_low HO2.out HXL.out) _⟩, HP.out.far (by have := hlo.out; omega) _, below_setCells' v0.heap.size (by have := hlo.out; omega) _ 0 HB.out⟩
        case measure => have := hKD.out; have := HD8.out; simp [intOf]; omega
      · have hge' : ¬ (D : Int) ≤ (k : Int) := by omega
        obtain ⟨rfl, hl2⟩ : H = r2 ∧ l2 = stl D M (k + 1) := by have := HN.out.lo (by omega); exact ⟨this.1.symm, this.2⟩
        clear hl2
        have q0 : x2.cell? ⟨v2.heap.size, 0, none⟩ = some (.int .i64 (H)) := (PtAt.c X2.out.at_).1
        have q1 : x2.cell? ⟨v2.heap.size, 1, none⟩ = some (.slice a2 l2.length k2) := (PtAt.c X2.out.at_).2.1
        have q2 : x2.cell? ⟨v2.heap.size, 2, none⟩ = some (.int .i64 t2) := (PtAt.c X2.out.at_).2.2.1
        have q3 : x2.cell? ⟨v2.heap.size, 3, none⟩ = some (.int .i64 u2) := (PtAt.c X2.out.at_).2.2.2
        go_wp2_with fail
        refine (pall_any (p := ⟨H, l2, t2, u2⟩) (TOk.n (TOk.of HN.out.ok)) X2.out.row).mono ?_
        rintro r y2 ⟨rfl, b⟩
        have HP := Lib.hid (HP.out.on b)
        have X := Lib.hid (X.out.on b)
        have X2 := Lib.hid (X2.out.on b)
        have HB := Lib.hid (bel2 HB.out b)
        clear b
        clear q0 q1 q2 q3
        rw [HAL.out]
        have q0 : y2.cell? ⟨v2.heap.size, 0, none⟩ = some (.int .i64 (H)) := (PtAt.c X2.out.at_).1
        have q1 : y2.cell? ⟨v2.heap.size, 1, none⟩ = some (.slice a2 l2.length k2) := (PtAt.c X2.out.at_).2.1
        have q2 : y2.cell? ⟨v2.heap.size, 2, none⟩ = some (.int .i64 t2) := (PtAt.c X2.out.at_).2.2.1
        have q3 : y2.cell? ⟨v2.heap.size, 3, none⟩ = some (.int .i64 u2) := (PtAt.c X2.out.at_).2.2.2
        skip
        go_wp2_with (first | (refine wpList_store_mid (by rfl) 26 (.tmp 10) (.tmp 60) (by rfl) v0.heap.size 0 #[.int .i64 (H), .slice a2 l2.length k2, .int .i64 t2, .int .i64 u2] (by rfl) (by rfl) (there_of_block X.out.at_ (by simp)) (by kernel_rfl) (by kernel_rfl) ?_) | fail)
        go_roundw
        case rel => exact ⟨k + 1, H, t2, u2, l2, a2, k2, by have := hKD.out; omega, by go_num, HN.out, ⟨heap_setCells_whole (cs := [Value.int .i64 r1, .slice a1 l1.length k1, .int .i64 t1, .int .i64 u1]) (#[.int .i64 (H), .slice a2 l2.length k2, .int .i64 t2, .int .i64 u2] : Array Value).toList rfl X.out.at_, X2.out.row.farA (apart_low HO2.out HXL.out) _⟩, HP.out.far (by have := hlo.out; omega) _, below_setCells' v0.heap.size (by have := hlo.out; omega) _ 0 HB.out⟩
        case measure => have := hKD.out; have := HD8.out; simp [intOf]; omega
    · have hkD' : ¬ (k : Int) ≤ (D : Int) := by omega
      obtain ⟨e1, e2⟩ := HDS.out.hi (by omega)
      simp only at e1 e2
      subst e2
      clear e1 hkD
      have q0 : wr.cell? ⟨v0.heap.size, 0, none⟩ = some (.int .i64 r1) := (PtAt.c X.out.at_).1
      have q1 : wr.cell? ⟨v0.heap.size, 1, none⟩ = some (.slice a1 0 k1) := (PtAt.c X.out.at_).2.1
      have q2 : wr.cell? ⟨v0.heap.size, 2, none⟩ = some (.int .i64 t1) := (PtAt.c X.out.at_).2.2.1
      have q3 : wr.cell? ⟨v0.heap.size, 3, none⟩ = some (.int .i64 u1) := (PtAt.c X.out.at_).2.2.2
      go_wp2
      go_ret
      exact ⟨rfl, HB.out⟩
end Go.Proofs.Ytcfehddnccdejaa
