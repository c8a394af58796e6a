/- Holds in memory; the document's limit. -/
import Derived.Test.YtllphglhkpcclaaLiA
import Derived.Test.YtllphglhkpcclaaCfB
import Derived.Test.YtllphglhkpcclaaProg
import Derived.Test.YtllphglhkpcclaaChecked
import Derived.Deep.CutRange
import Derived.Deep.RegionHeld
import Derived.Lib.MinMax
namespace Go.Proofs.Ytllphglhkpcclaa
set_option linter.unusedSimpArgs false
set_option linter.unusedVariables false
open Go.RowKit
open Wir Evn Lim
attribute [local go_sem] Oper.semAt_some

/-- A hold as a value; a variable of one; . -/
def hdV (h : Hd) : Value := .agg #[.int .i64 h.1, .int .i64 h.2.1, .bool h.2.2]
def HdAt (w : World) (g : Nat) (h : Hd) : Prop := w.heap[g]? = some (.cells #[.int .i64 h.1, .int .i64 h.2.1, .bool h.2.2] 25 (0, 0))
theorem HdAt.on {w x : World} {g : Nat} {h : Hd} (k : HdAt w g h) (hb : Below w.heap.size w x) : HdAt x g h := (hb.block g (lt_of_heap k)).trans k
theorem HdAt.c {w : World} {g : Nat} {h : Hd} (k : HdAt w g h) : w.cell? ⟨g, 0, none⟩ = some (.int .i64 h.1) ∧ w.cell? ⟨g, 1, none⟩ = some (.int .i64 h.2.1) ∧ w.cell? ⟨g, 2, none⟩ = some (.bool h.2.2) :=
  ⟨(cell_of_row _ _ _ _ _ _ k).trans rfl, (cell_of_row _ _ _ _ _ _ k).trans rfl, (cell_of_row _ _ _ _ _ _ k).trans rfl⟩
theorem HdAt.set {w : World} {g : Nat} {h : Hd} (k : HdAt w g h) (z : Hd) : HdAt (w.setCells g 0 [.int .i64 z.1, .int .i64 z.2.1, .bool z.2.2]) g z :=
  heap_setCells_whole (cs := [Value.int .i64 h.1, .int .i64 h.2.1, .bool h.2.2]) [.int .i64 z.1, .int .i64 z.2.1, .bool z.2.2] rfl k
theorem HdAt.far {w : World} {g q : Nat} {h : Hd} (k : HdAt w g h) (hne : g ≠ q) (vs : List Value) : HdAt (w.setCells q 0 vs) g h := (far_cells g q hne vs 0 w).trans k
/-- A configuration, a hold, and a hold to be, in three new boxes. -/
theorem three (w : World) (c : Cf) (h : Hd) : let x := ((w.alloc (.cells #[.int .i64 c.min, .int .i64 c.max, .int .i64 c.rate, .int .i64 c.stable, .int .i64 c.cap, .int .i64 c.delay, .int .i64 c.slack, .int .i64 c.window, .int .i64 c.margin, .int .i64 c.ceil, .int .i64 c.probe, .int .i64 c.breach] 23)).alloc (.cells #[.int .i64 h.1, .int .i64 h.2.1, .bool h.2.2] 25)).alloc (.cells #[.int .i64 0, .int .i64 0, .bool false] 25); Below w.heap.size w x ∧ CBx x w.heap.size c ∧ HdAt x (w.heap.size + 1) h ∧ HdAt x (w.heap.size + 1 + 1) (0, 0, false) := by
  have b1 := (Below.refl w.heap.size w).alloc (Nat.le_refl _) (.cells #[.int .i64 c.min, .int .i64 c.max, .int .i64 c.rate, .int .i64 c.stable, .int .i64 c.cap, .int .i64 c.delay, .int .i64 c.slack, .int .i64 c.window, .int .i64 c.margin, .int .i64 c.ceil, .int .i64 c.probe, .int .i64 c.breach] 23)
  have b2 := (Below.refl (w.alloc (.cells #[.int .i64 c.min, .int .i64 c.max, .int .i64 c.rate, .int .i64 c.stable, .int .i64 c.cap, .int .i64 c.delay, .int .i64 c.slack, .int .i64 c.window, .int .i64 c.margin, .int .i64 c.ceil, .int .i64 c.probe, .int .i64 c.breach] 23)).heap.size (w.alloc (.cells #[.int .i64 c.min, .int .i64 c.max, .int .i64 c.rate, .int .i64 c.stable, .int .i64 c.cap, .int .i64 c.delay, .int .i64 c.slack, .int .i64 c.window, .int .i64 c.margin, .int .i64 c.ceil, .int .i64 c.probe, .int .i64 c.breach] 23))).alloc (Nat.le_refl _) (.cells #[.int .i64 h.1, .int .i64 h.2.1, .bool h.2.2] 25)
  have b3 := (Below.refl ((w.alloc (.cells #[.int .i64 c.min, .int .i64 c.max, .int .i64 c.rate, .int .i64 c.stable, .int .i64 c.cap, .int .i64 c.delay, .int .i64 c.slack, .int .i64 c.window, .int .i64 c.margin, .int .i64 c.ceil, .int .i64 c.probe, .int .i64 c.breach] 23)).alloc (.cells #[.int .i64 h.1, .int .i64 h.2.1, .bool h.2.2] 25)).heap.size ((w.alloc (.cells #[.int .i64 c.min, .int .i64 c.max, .int .i64 c.rate, .int .i64 c.stable, .int .i64 c.cap, .int .i64 c.delay, .int .i64 c.slack, .int .i64 c.window, .int .i64 c.margin, .int .i64 c.ceil, .int .i64 c.probe, .int .i64 c.breach] 23)).alloc (.cells #[.int .i64 h.1, .int .i64 h.2.1, .bool h.2.2] 25))).alloc (Nat.le_refl _) (.cells #[.int .i64 0, .int .i64 0, .bool false] 25)
  have k1 : CBx (w.alloc (.cells #[.int .i64 c.min, .int .i64 c.max, .int .i64 c.rate, .int .i64 c.stable, .int .i64 c.cap, .int .i64 c.delay, .int .i64 c.slack, .int .i64 c.window, .int .i64 c.margin, .int .i64 c.ceil, .int .i64 c.probe, .int .i64 c.breach] 23)) w.heap.size c := heap_alloc_new _ _
  have k2 : HdAt ((w.alloc (.cells #[.int .i64 c.min, .int .i64 c.max, .int .i64 c.rate, .int .i64 c.stable, .int .i64 c.cap, .int .i64 c.delay, .int .i64 c.slack, .int .i64 c.window, .int .i64 c.margin, .int .i64 c.ceil, .int .i64 c.probe, .int .i64 c.breach] 23)).alloc (.cells #[.int .i64 h.1, .int .i64 h.2.1, .bool h.2.2] 25)) (w.heap.size + 1) h := la2 _ _ _
  exact ⟨bel2 (bel2 b1 b2) b3, (k1.on b2).on b3, k2.on b3, la3 _ _ _ _⟩
theorem two (w : World) (c : Cf) (h : Hd) : let x := (w.alloc (.cells #[.int .i64 c.min, .int .i64 c.max, .int .i64 c.rate, .int .i64 c.stable, .int .i64 c.cap, .int .i64 c.delay, .int .i64 c.slack, .int .i64 c.window, .int .i64 c.margin, .int .i64 c.ceil, .int .i64 c.probe, .int .i64 c.breach] 23)).alloc (.cells #[.int .i64 h.1, .int .i64 h.2.1, .bool h.2.2] 25); Below w.heap.size w x ∧ CBx x w.heap.size c ∧ HdAt x (w.heap.size + 1) h := by
  have b1 := (Below.refl w.heap.size w).alloc (Nat.le_refl _) (.cells #[.int .i64 c.min, .int .i64 c.max, .int .i64 c.rate, .int .i64 c.stable, .int .i64 c.cap, .int .i64 c.delay, .int .i64 c.slack, .int .i64 c.window, .int .i64 c.margin, .int .i64 c.ceil, .int .i64 c.probe, .int .i64 c.breach] 23)
  have b2 := (Below.refl (w.alloc (.cells #[.int .i64 c.min, .int .i64 c.max, .int .i64 c.rate, .int .i64 c.stable, .int .i64 c.cap, .int .i64 c.delay, .int .i64 c.slack, .int .i64 c.window, .int .i64 c.margin, .int .i64 c.ceil, .int .i64 c.probe, .int .i64 c.breach] 23)).heap.size (w.alloc (.cells #[.int .i64 c.min, .int .i64 c.max, .int .i64 c.rate, .int .i64 c.stable, .int .i64 c.cap, .int .i64 c.delay, .int .i64 c.slack, .int .i64 c.window, .int .i64 c.margin, .int .i64 c.ceil, .int .i64 c.probe, .int .i64 c.breach] 23))).alloc (Nat.le_refl _) (.cells #[.int .i64 h.1, .int .i64 h.2.1, .bool h.2.2] 25)
  have k1 : CBx (w.alloc (.cells #[.int .i64 c.min, .int .i64 c.max, .int .i64 c.rate, .int .i64 c.stable, .int .i64 c.cap, .int .i64 c.delay, .int .i64 c.slack, .int .i64 c.window, .int .i64 c.margin, .int .i64 c.ceil, .int .i64 c.probe, .int .i64 c.breach] 23)) w.heap.size c := heap_alloc_new _ _
  exact ⟨bel2 b1 b2, k1.on b2, la2 _ _ _⟩
set_option maxRecDepth 100000 in
set_option maxHeartbeats 3200000 in
theorem lrinto_any (c : Cf) (h : Hd) (w : World) :
    Calls Try.prog 13 #[cfV c, hdV h] w fun r w' => r = .returned (hdV (into c h)) ∧ Below w.heap.size w w' := by
  obtain ⟨N, hN⟩ : ∃ N, min (max h.1 c.min) c.max = N := ⟨_, rfl⟩
  have HV : Hid (into c h = (N, h.2.1, h.2.2)) := by show _ = _; rw [← hN]; rfl
  rw [HV.out]
  unfold cfV hdV
  go_enter Try.func13, Try.ntmps13
  go_wp2
  refine bodyPost_ret (results_cell_row rfl _ _ (w.heap.size + 1 + 1) _ _ _ _ rfl (la3 _ _ _ _) Try.underlying25 (by rfl) (by kernel_rfl)) (by rfl) ?_
  exact ⟨rfl, bel1 (bel1 (bel1 (Below.refl _ _) _) _) _⟩
set_option maxRecDepth 100000 in
set_option maxHeartbeats 3200000 in
theorem lrnext_any {c : Cf} (hc : COk c) (h : Hd) (want now : Int) (ht : (0 ≤ h.2.1 ∧ h.2.1 ≤ 1099511627776) ∧ 0 ≤ now ∧ now ≤ 1099511627776) (w : World) :
    Calls Try.prog 15 #[cfV c, hdV h, .int .i64 want, .int .i64 now] w fun r w' => r = .returned (hdV (nxt c h want now)) ∧ Below w.heap.size w w' := by
  obtain ⟨hB, hP, hS, hZ⟩ := three w c h
  have h0 := into_in hc h
  obtain ⟨G, L0, gr, hG⟩ : ∃ G L0 gr, into c h = (G, L0, gr) := ⟨_, _, _, rfl⟩
  have hL : L0 = h.2.1 := by have := congrArg (fun z => z.2.1) hG; exact this.symm
  rw [hG] at h0
  simp only at h0
  have HI := Lib.hid (fun y => lrinto_any c h y)
  rw [hG] at HI
  have HV : Hid (nxt c h want now = goes c (G, L0, gr) want now) := by show _ = _; unfold nxt; rw [hG]
  rw [← hL] at ht
  have k1 := hc.m1
  have k2 := hc.m3
  have k3 := hc.r1
  have k4 := hc.r2
  have k5 := hc.s1
  have k6 := hc.s2
  have HN : Hid (near c G want = min (max (min (max want (G - c.rate)) (G + c.rate)) c.min) c.max) := rfl
  obtain ⟨x, hx⟩ : ∃ x, x = ((w.alloc (.cells #[.int .i64 c.min, .int .i64 c.max, .int .i64 c.rate, .int .i64 c.stable, .int .i64 c.cap, .int .i64 c.delay, .int .i64 c.slack, .int .i64 c.window, .int .i64 c.margin, .int .i64 c.ceil, .int .i64 c.probe, .int .i64 c.breach] 23)).alloc (.cells #[.int .i64 h.1, .int .i64 h.2.1, .bool h.2.2] 25)).alloc (.cells #[.int .i64 0, .int .i64 0, .bool false] 25) := ⟨_, rfl⟩
  rw [← hx] at hB hP hS hZ
  have HB := Lib.hid hB
  have HP := Lib.hid hP
  have HS := Lib.hid hS
  have HZ := Lib.hid hZ
  have HX := Lib.hid hx
  have HC := Lib.hid hc
  clear hB hP hS hZ hx hL hG hc
  have e1 : IntKind.i64.wrap (G - c.rate) = G - c.rate := by rw [IntKind.wrap_i64]; omega
  have e2 : IntKind.i64.wrap (G + c.rate) = G + c.rate := by rw [IntKind.wrap_i64]; omega
  have e3 : IntKind.i64.wrap (now - L0) = now - L0 := by rw [IntKind.wrap_i64]; omega
  unfold cfV hdV
  go_enter Try.func15, Try.ntmps15
  go_upto_region 1 with fail
  rw [← HX.out]
  obtain ⟨cs0, cs1, cs2⟩ := HdAt.c HS.out
  go_wp2_with (first
    | (refine wpList_load_rowG (by first | rfl | kernel_rfl | (simp [Region.wanted, yielded])) 23 (.tmp 4) (by rfl) (w.heap.size) (by rfl) 23 _ (0, 0) _ HP.out Try.underlying23 (by rfl) (by kernel_rfl) ?_)
    | fail)
  refine (HI.out _).mono ?_
  rintro r w1 ⟨rfl, b⟩
  unfold hdV
  simp only
  clear cs0 cs1 cs2 HX HI
  have HZ1 := Lib.hid (HZ.out.on b)
  have HP1 := Lib.hid (HP.out.on b)
  have HB1 := Lib.hid (bel2 HB.out b)
  clear HZ HP HB HS b
  go_upto_region 2 with fail
  have b := bel1 (Below.refl w1.heap.size w1) (.cells #[.int .i64 G, .int .i64 L0, .bool gr] 25)
  have HP2 := Lib.hid (HP1.out.on b)
  clear b
  have hc0 : (w1.alloc (.cells #[.int .i64 G, .int .i64 L0, .bool gr] 25)).cell? ⟨w.heap.size, 0, none⟩ = some (.int .i64 c.min) := (cell_of_row _ _ _ _ _ _ HP2.out).trans rfl
  have hc1 : (w1.alloc (.cells #[.int .i64 G, .int .i64 L0, .bool gr] 25)).cell? ⟨w.heap.size, 1, none⟩ = some (.int .i64 c.max) := (cell_of_row _ _ _ _ _ _ HP2.out).trans rfl
  have hc2 : (w1.alloc (.cells #[.int .i64 G, .int .i64 L0, .bool gr] 25)).cell? ⟨w.heap.size, 2, none⟩ = some (.int .i64 c.rate) := (cell_of_row _ _ _ _ _ _ HP2.out).trans rfl
  have hc3 : (w1.alloc (.cells #[.int .i64 G, .int .i64 L0, .bool gr] 25)).cell? ⟨w.heap.size, 3, none⟩ = some (.int .i64 c.stable) := (cell_of_row _ _ _ _ _ _ HP2.out).trans rfl
  clear HP1 HP2
  by_cases a : want < G - c.rate
  · have a2 : ¬ G + c.rate < G - c.rate := by omega
    obtain ⟨N, hN⟩ : ∃ N, min (max (G - c.rate) c.min) c.max = N := ⟨_, rfl⟩
    have HN2 : Hid (near c G want = N) := by show _ = _; rw [HN.out, ← hN]; congr 2; omega
    clear HN
    have hN1 : c.min ≤ N ∧ N ≤ c.max := by rw [← HN2.out]; exact near_in HC.out _ _
    obtain ⟨hN2, hN3⟩ := hN1
    have wN : IntKind.i64.wrap N = N := by rw [IntKind.wrap_i64]; omega
    rcases Int.lt_trichotomy N G with hl | hl | hl
    · have nl : ¬ G < N := by omega
      cases gr
      · have HV2 : Hid (nxt c h want now = (N, L0, false)) := by
          show _ = _
          rw [HV.out]
          rw [goes_is (c := c) (g := (G, L0, false)) (w := want) (t := now) (N := N) HN2.out]
          simp [nl]
        go_upto_region 13 with fail
        go_wp2_with (first | (refine wpList_store_mid (by rfl) 25 (.tmp 8) (.tmp 74) (by rfl) (w.heap.size + 1 + 1) 0 #[.int .i64 N, .int .i64 L0, .bool false] (by rfl) (by rfl) (there_of_block (HdAt.on HZ1.out (bel1 (Below.refl _ _) _)) (by simp)) (by kernel_rfl) (by kernel_rfl) ?_) | fail)
        refine bodyPost_ret (results_cell_row rfl _ _ (w.heap.size + 1 + 1) _ _ _ _ rfl (heap_setCells_whole (cs := [Value.int .i64 0, .int .i64 0, .bool false]) (#[.int .i64 N, .int .i64 L0, .bool false] : Array Value).toList rfl (HdAt.on HZ1.out (bel1 (Below.refl _ _) _))) Try.underlying25 (by rfl) (by kernel_rfl)) (by rfl) ?_
        exact ⟨by rw [HV2.out] <;> rfl, below_setCells' (w.heap.size + 1 + 1) (by omega) _ 0 (bel1 HB1.out _)⟩
      · by_cases hs : now - L0 < c.stable
        · have nG : ¬ G < G := by omega
          have HV2 : Hid (nxt c h want now = (G, L0, true)) := by
            show _ = _
            rw [HV.out]
            rw [goes_is (c := c) (g := (G, L0, true)) (w := want) (t := now) (N := N) HN2.out]
            simp [hl, hs]
          go_upto_region 13 with fail
          go_wp2_with (first | (refine wpList_store_mid (by rfl) 25 (.tmp 8) (.tmp 74) (by rfl) (w.heap.size + 1 + 1) 0 #[.int .i64 G, .int .i64 L0, .bool true] (by rfl) (by rfl) (there_of_block (HdAt.on HZ1.out (bel1 (Below.refl _ _) _)) (by simp)) (by kernel_rfl) (by kernel_rfl) ?_) | fail)
          refine bodyPost_ret (results_cell_row rfl _ _ (w.heap.size + 1 + 1) _ _ _ _ rfl (heap_setCells_whole (cs := [Value.int .i64 0, .int .i64 0, .bool false]) (#[.int .i64 G, .int .i64 L0, .bool true] : Array Value).toList rfl (HdAt.on HZ1.out (bel1 (Below.refl _ _) _))) Try.underlying25 (by rfl) (by kernel_rfl)) (by rfl) ?_
          exact ⟨by rw [HV2.out] <;> rfl, below_setCells' (w.heap.size + 1 + 1) (by omega) _ 0 (bel1 HB1.out _)⟩
        · have HV2 : Hid (nxt c h want now = (N, L0, true)) := by
            show _ = _
            rw [HV.out]
            rw [goes_is (c := c) (g := (G, L0, true)) (w := want) (t := now) (N := N) HN2.out]
            simp [hs, nl]
          go_upto_region 13 with fail
          go_wp2_with (first | (refine wpList_store_mid (by rfl) 25 (.tmp 8) (.tmp 74) (by rfl) (w.heap.size + 1 + 1) 0 #[.int .i64 N, .int .i64 L0, .bool true] (by rfl) (by rfl) (there_of_block (HdAt.on HZ1.out (bel1 (Below.refl _ _) _)) (by simp)) (by kernel_rfl) (by kernel_rfl) ?_) | fail)
          refine bodyPost_ret (results_cell_row rfl _ _ (w.heap.size + 1 + 1) _ _ _ _ rfl (heap_setCells_whole (cs := [Value.int .i64 0, .int .i64 0, .bool false]) (#[.int .i64 N, .int .i64 L0, .bool true] : Array Value).toList rfl (HdAt.on HZ1.out (bel1 (Below.refl _ _) _))) Try.underlying25 (by rfl) (by kernel_rfl)) (by rfl) ?_
          exact ⟨by rw [HV2.out] <;> rfl, below_setCells' (w.heap.size + 1 + 1) (by omega) _ 0 (bel1 HB1.out _)⟩
    · subst hl
      have nl : ¬ N < N := by omega
      have HV2 : Hid (nxt c h want now = (N, L0, gr)) := by
        show _ = _
        rw [HV.out]
        rw [goes_is (c := c) (g := (N, L0, gr)) (w := want) (t := now) (N := N) HN2.out]
        simp [nl]
      go_upto_region 13 with fail
      go_wp2_with (first | (refine wpList_store_mid (by rfl) 25 (.tmp 8) (.tmp 74) (by rfl) (w.heap.size + 1 + 1) 0 #[.int .i64 N, .int .i64 L0, .bool gr] (by rfl) (by rfl) (there_of_block (HdAt.on HZ1.out (bel1 (Below.refl _ _) _)) (by simp)) (by kernel_rfl) (by kernel_rfl) ?_) | fail)
      refine bodyPost_ret (results_cell_row rfl _ _ (w.heap.size + 1 + 1) _ _ _ _ rfl (heap_setCells_whole (cs := [Value.int .i64 0, .int .i64 0, .bool false]) (#[.int .i64 N, .int .i64 L0, .bool gr] : Array Value).toList rfl (HdAt.on HZ1.out (bel1 (Below.refl _ _) _))) Try.underlying25 (by rfl) (by kernel_rfl)) (by rfl) ?_
      exact ⟨by rw [HV2.out] <;> rfl, below_setCells' (w.heap.size + 1 + 1) (by omega) _ 0 (bel1 HB1.out _)⟩
    · exfalso; rw [← hN] at hl; omega
  by_cases a2 : G + c.rate < want
  · obtain ⟨N, hN⟩ : ∃ N, min (max (G + c.rate) c.min) c.max = N := ⟨_, rfl⟩
    have HN2 : Hid (near c G want = N) := by show _ = _; rw [HN.out, ← hN]; congr 2; omega
    clear HN
    have hN1 : c.min ≤ N ∧ N ≤ c.max := by rw [← HN2.out]; exact near_in HC.out _ _
    obtain ⟨hN2, hN3⟩ := hN1
    have wN : IntKind.i64.wrap N = N := by rw [IntKind.wrap_i64]; omega
    rcases Int.lt_trichotomy N G with hl | hl | hl
    · exfalso; rw [← hN] at hl; omega
    · subst hl
      have nl : ¬ N < N := by omega
      have HV2 : Hid (nxt c h want now = (N, L0, gr)) := by
        show _ = _
        rw [HV.out]
        rw [goes_is (c := c) (g := (N, L0, gr)) (w := want) (t := now) (N := N) HN2.out]
        simp [nl]
      go_upto_region 13 with fail
      go_wp2_with (first | (refine wpList_store_mid (by rfl) 25 (.tmp 8) (.tmp 74) (by rfl) (w.heap.size + 1 + 1) 0 #[.int .i64 N, .int .i64 L0, .bool gr] (by rfl) (by rfl) (there_of_block (HdAt.on HZ1.out (bel1 (Below.refl _ _) _)) (by simp)) (by kernel_rfl) (by kernel_rfl) ?_) | fail)
      refine bodyPost_ret (results_cell_row rfl _ _ (w.heap.size + 1 + 1) _ _ _ _ rfl (heap_setCells_whole (cs := [Value.int .i64 0, .int .i64 0, .bool false]) (#[.int .i64 N, .int .i64 L0, .bool gr] : Array Value).toList rfl (HdAt.on HZ1.out (bel1 (Below.refl _ _) _))) Try.underlying25 (by rfl) (by kernel_rfl)) (by rfl) ?_
      exact ⟨by rw [HV2.out] <;> rfl, below_setCells' (w.heap.size + 1 + 1) (by omega) _ 0 (bel1 HB1.out _)⟩
    · have nl : ¬ N < G := by omega
      have HV2 : Hid (nxt c h want now = (N, now, true)) := by
        show _ = _
        rw [HV.out]
        rw [goes_is (c := c) (g := (G, L0, gr)) (w := want) (t := now) (N := N) HN2.out]
        simp [nl, hl]
      go_upto_region 11 with fail
      go_wp2_with (first | (refine wpList_store_mid (by rfl) 25 (.tmp 8) (.tmp 71) (by rfl) (w.heap.size + 1 + 1) 0 #[.int .i64 N, .int .i64 now, .bool true] (by rfl) (by rfl) (there_of_block (HdAt.on HZ1.out (bel1 (Below.refl _ _) _)) (by simp)) (by kernel_rfl) (by kernel_rfl) ?_) | fail)
      refine bodyPost_ret (results_cell_row rfl _ _ (w.heap.size + 1 + 1) _ _ _ _ rfl (heap_setCells_whole (cs := [Value.int .i64 0, .int .i64 0, .bool false]) (#[.int .i64 N, .int .i64 now, .bool true] : Array Value).toList rfl (HdAt.on HZ1.out (bel1 (Below.refl _ _) _))) Try.underlying25 (by rfl) (by kernel_rfl)) (by rfl) ?_
      exact ⟨by rw [HV2.out] <;> rfl, below_setCells' (w.heap.size + 1 + 1) (by omega) _ 0 (bel1 HB1.out _)⟩
  · obtain ⟨N, hN⟩ : ∃ N, min (max want c.min) c.max = N := ⟨_, rfl⟩
    have HN2 : Hid (near c G want = N) := by show _ = _; rw [HN.out, ← hN]; congr 2; omega
    clear HN
    have hN1 : c.min ≤ N ∧ N ≤ c.max := by rw [← HN2.out]; exact near_in HC.out _ _
    obtain ⟨hN2, hN3⟩ := hN1
    have wN : IntKind.i64.wrap N = N := by rw [IntKind.wrap_i64]; omega
    rcases Int.lt_trichotomy N G with hl | hl | hl
    · have nl : ¬ G < N := by omega
      cases gr
      · have HV2 : Hid (nxt c h want now = (N, L0, false)) := by
          show _ = _
          rw [HV.out]
          rw [goes_is (c := c) (g := (G, L0, false)) (w := want) (t := now) (N := N) HN2.out]
          simp [nl]
        go_upto_region 13 with fail
        go_wp2_with (first | (refine wpList_store_mid (by rfl) 25 (.tmp 8) (.tmp 74) (by rfl) (w.heap.size + 1 + 1) 0 #[.int .i64 N, .int .i64 L0, .bool false] (by rfl) (by rfl) (there_of_block (HdAt.on HZ1.out (bel1 (Below.refl _ _) _)) (by simp)) (by kernel_rfl) (by kernel_rfl) ?_) | fail)
        refine bodyPost_ret (results_cell_row rfl _ _ (w.heap.size + 1 + 1) _ _ _ _ rfl (heap_setCells_whole (cs := [Value.int .i64 0, .int .i64 0, .bool false]) (#[.int .i64 N, .int .i64 L0, .bool false] : Array Value).toList rfl (HdAt.on HZ1.out (bel1 (Below.refl _ _) _))) Try.underlying25 (by rfl) (by kernel_rfl)) (by rfl) ?_
        exact ⟨by rw [HV2.out] <;> rfl, below_setCells' (w.heap.size + 1 + 1) (by omega) _ 0 (bel1 HB1.out _)⟩
      · by_cases hs : now - L0 < c.stable
        · have nG : ¬ G < G := by omega
          have HV2 : Hid (nxt c h want now = (G, L0, true)) := by
            show _ = _
            rw [HV.out]
            rw [goes_is (c := c) (g := (G, L0, true)) (w := want) (t := now) (N := N) HN2.out]
            simp [hl, hs]
          go_upto_region 13 with fail
          go_wp2_with (first | (refine wpList_store_mid (by rfl) 25 (.tmp 8) (.tmp 74) (by rfl) (w.heap.size + 1 + 1) 0 #[.int .i64 G, .int .i64 L0, .bool true] (by rfl) (by rfl) (there_of_block (HdAt.on HZ1.out (bel1 (Below.refl _ _) _)) (by simp)) (by kernel_rfl) (by kernel_rfl) ?_) | fail)
          refine bodyPost_ret (results_cell_row rfl _ _ (w.heap.size + 1 + 1) _ _ _ _ rfl (heap_setCells_whole (cs := [Value.int .i64 0, .int .i64 0, .bool false]) (#[.int .i64 G, .int .i64 L0, .bool true] : Array Value).toList rfl (HdAt.on HZ1.out (bel1 (Below.refl _ _) _))) Try.underlying25 (by rfl) (by kernel_rfl)) (by rfl) ?_
          exact ⟨by rw [HV2.out] <;> rfl, below_setCells' (w.heap.size + 1 + 1) (by omega) _ 0 (bel1 HB1.out _)⟩
        · have HV2 : Hid (nxt c h want now = (N, L0, true)) := by
            show _ = _
            rw [HV.out]
            rw [goes_is (c := c) (g := (G, L0, true)) (w := want) (t := now) (N := N) HN2.out]
            simp [hs, nl]
          go_upto_region 13 with fail
          go_wp2_with (first | (refine wpList_store_mid (by rfl) 25 (.tmp 8) (.tmp 74) (by rfl) (w.heap.size + 1 + 1) 0 #[.int .i64 N, .int .i64 L0, .bool true] (by rfl) (by rfl) (there_of_block (HdAt.on HZ1.out (bel1 (Below.refl _ _) _)) (by simp)) (by kernel_rfl) (by kernel_rfl) ?_) | fail)
          refine bodyPost_ret (results_cell_row rfl _ _ (w.heap.size + 1 + 1) _ _ _ _ rfl (heap_setCells_whole (cs := [Value.int .i64 0, .int .i64 0, .bool false]) (#[.int .i64 N, .int .i64 L0, .bool true] : Array Value).toList rfl (HdAt.on HZ1.out (bel1 (Below.refl _ _) _))) Try.underlying25 (by rfl) (by kernel_rfl)) (by rfl) ?_
          exact ⟨by rw [HV2.out] <;> rfl, below_setCells' (w.heap.size + 1 + 1) (by omega) _ 0 (bel1 HB1.out _)⟩
    · subst hl
      have nl : ¬ N < N := by omega
      have HV2 : Hid (nxt c h want now = (N, L0, gr)) := by
        show _ = _
        rw [HV.out]
        rw [goes_is (c := c) (g := (N, L0, gr)) (w := want) (t := now) (N := N) HN2.out]
        simp [nl]
      go_upto_region 13 with fail
      go_wp2_with (first | (refine wpList_store_mid (by rfl) 25 (.tmp 8) (.tmp 74) (by rfl) (w.heap.size + 1 + 1) 0 #[.int .i64 N, .int .i64 L0, .bool gr] (by rfl) (by rfl) (there_of_block (HdAt.on HZ1.out (bel1 (Below.refl _ _) _)) (by simp)) (by kernel_rfl) (by kernel_rfl) ?_) | fail)
      refine bodyPost_ret (results_cell_row rfl _ _ (w.heap.size + 1 + 1) _ _ _ _ rfl (heap_setCells_whole (cs := [Value.int .i64 0, .int .i64 0, .bool false]) (#[.int .i64 N, .int .i64 L0, .bool gr] : Array Value).toList rfl (HdAt.on HZ1.out (bel1 (Below.refl _ _) _))) Try.underlying25 (by rfl) (by kernel_rfl)) (by rfl) ?_
      exact ⟨by rw [HV2.out] <;> rfl, below_setCells' (w.heap.size + 1 + 1) (by omega) _ 0 (bel1 HB1.out _)⟩
    · have nl : ¬ N < G := by omega
      have HV2 : Hid (nxt c h want now = (N, now, true)) := by
        show _ = _
        rw [HV.out]
        rw [goes_is (c := c) (g := (G, L0, gr)) (w := want) (t := now) (N := N) HN2.out]
        simp [nl, hl]
      go_upto_region 11 with fail
      go_wp2_with (first | (refine wpList_store_mid (by rfl) 25 (.tmp 8) (.tmp 71) (by rfl) (w.heap.size + 1 + 1) 0 #[.int .i64 N, .int .i64 now, .bool true] (by rfl) (by rfl) (there_of_block (HdAt.on HZ1.out (bel1 (Below.refl _ _) _)) (by simp)) (by kernel_rfl) (by kernel_rfl) ?_) | fail)
      refine bodyPost_ret (results_cell_row rfl _ _ (w.heap.size + 1 + 1) _ _ _ _ rfl (heap_setCells_whole (cs := [Value.int .i64 0, .int .i64 0, .bool false]) (#[.int .i64 N, .int .i64 now, .bool true] : Array Value).toList rfl (HdAt.on HZ1.out (bel1 (Below.refl _ _) _))) Try.underlying25 (by rfl) (by kernel_rfl)) (by rfl) ?_
      exact ⟨by rw [HV2.out] <;> rfl, below_setCells' (w.heap.size + 1 + 1) (by omega) _ 0 (bel1 HB1.out _)⟩
end Go.Proofs.Ytllphglhkpcclaa
