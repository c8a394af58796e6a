/- EventOwn: the walk. -/
import Derived.Test.YtjhondlcnpappaaEvHe
namespace Go.Proofs.Ytjhondlcnpappaa
open Go.RowKit
open Wir Evn
attribute [local go_sem] Oper.semAt_some

theorem own_util {e : Ev} (h : rightR e = true) : rightR { e with util := 1 } = decide (e.kind = 1) := by
  have hk := right_kind h
  have hc : confR CP = true := by kernel_rfl
  have hz : cfZero CP = false := by kernel_rfl
  have hp : placeR 1 = true := by kernel_rfl
  obtain ⟨kind, util, demand, t, id, n, pol, conf, body⟩ := e
  simp only at hk
  have h8 : kind = 1 ∨ kind = 2 ∨ kind = 3 ∨ kind = 4 ∨ kind = 5 ∨ kind = 6 ∨ kind = 7 ∨ kind = 8 := by omega
  unfold rightR boundedR clearE nothingR at *
  rcases h8 with rfl | rfl | rfl | rfl | rfl | rfl | rfl | rfl <;> simp_all
theorem own_t {e : Ev} (h : rightR e = true) : rightR { e with t := 1 } = decide (e.kind = 2 ∨ e.kind = 5) := by
  have hk := right_kind h
  have hc : confR CP = true := by kernel_rfl
  have hz : cfZero CP = false := by kernel_rfl
  have hp : placeR 1 = true := by kernel_rfl
  obtain ⟨kind, util, demand, t, id, n, pol, conf, body⟩ := e
  simp only at hk
  have h8 : kind = 1 ∨ kind = 2 ∨ kind = 3 ∨ kind = 4 ∨ kind = 5 ∨ kind = 6 ∨ kind = 7 ∨ kind = 8 := by omega
  unfold rightR boundedR clearE nothingR at *
  rcases h8 with rfl | rfl | rfl | rfl | rfl | rfl | rfl | rfl <;> simp_all
theorem own_n {e : Ev} (h : rightR e = true) : rightR { e with n := 1 } = decide (e.kind = 5) := by
  have hk := right_kind h
  have hc : confR CP = true := by kernel_rfl
  have hz : cfZero CP = false := by kernel_rfl
  have hp : placeR 1 = true := by kernel_rfl
  obtain ⟨kind, util, demand, t, id, n, pol, conf, body⟩ := e
  simp only at hk
  have h8 : kind = 1 ∨ kind = 2 ∨ kind = 3 ∨ kind = 4 ∨ kind = 5 ∨ kind = 6 ∨ kind = 7 ∨ kind = 8 := by omega
  unfold rightR boundedR clearE nothingR at *
  rcases h8 with rfl | rfl | rfl | rfl | rfl | rfl | rfl | rfl <;> simp_all
theorem own_conf {e : Ev} (h : rightR e = true) : rightR { e with conf := CP } = decide (e.kind = 4) := by
  have hk := right_kind h
  have hc : confR CP = true := by kernel_rfl
  have hz : cfZero CP = false := by kernel_rfl
  have hp : placeR 1 = true := by kernel_rfl
  obtain ⟨kind, util, demand, t, id, n, pol, conf, body⟩ := e
  simp only at hk
  have h8 : kind = 1 ∨ kind = 2 ∨ kind = 3 ∨ kind = 4 ∨ kind = 5 ∨ kind = 6 ∨ kind = 7 ∨ kind = 8 := by omega
  unfold rightR boundedR clearE nothingR at *
  rcases h8 with rfl | rfl | rfl | rfl | rfl | rfl | rfl | rfl <;> simp_all
theorem own_body {e : Ev} (h : rightR e = true) : rightR { e with body := [1] } = decide (e.kind = 8) := by
  have hk := right_kind h
  have hc : confR CP = true := by kernel_rfl
  have hz : cfZero CP = false := by kernel_rfl
  have hp : placeR 1 = true := by kernel_rfl
  obtain ⟨kind, util, demand, t, id, n, pol, conf, body⟩ := e
  simp only at hk
  have h8 : kind = 1 ∨ kind = 2 ∨ kind = 3 ∨ kind = 4 ∨ kind = 5 ∨ kind = 6 ∨ kind = 7 ∨ kind = 8 := by omega
  unfold rightR boundedR clearE nothingR at *
  rcases h8 with rfl | rfl | rfl | rfl | rfl | rfl | rfl | rfl <;> simp_all
theorem own_id {e : Ev} (h : rightR e = true) : rightR { e with id := 1 } = decide (e.kind = 3 ∨ e.kind = 6 ∨ e.kind = 7) := by
  have hk := right_kind h
  have hc : confR CP = true := by kernel_rfl
  have hz : cfZero CP = false := by kernel_rfl
  have hp : placeR 1 = true := by kernel_rfl
  obtain ⟨kind, util, demand, t, id, n, pol, conf, body⟩ := e
  simp only at hk
  have h8 : kind = 1 ∨ kind = 2 ∨ kind = 3 ∨ kind = 4 ∨ kind = 5 ∨ kind = 6 ∨ kind = 7 ∨ kind = 8 := by omega
  unfold rightR boundedR clearE nothingR at *
  rcases h8 with rfl | rfl | rfl | rfl | rfl | rfl | rfl | rfl <;> simp_all
  exact h.1.2.imp (fun x => x) (fun x => x.2)
theorem set_cell {w : World} {q : Nat} {T : TypeId} {cs cs' : Array Value} {j : Nat} {v : Value} (h : w.heap[q]? = some (.cells cs T (0, 0))) (he : cs.setIfInBounds j v = cs') : (w.setCell ⟨q, j, none⟩ v).heap[q]? = some (.cells cs' T (0, 0)) := by
  rw [← he]; exact heap_setCell_same _ _ _ _ _ _ h
theorem there_mid {w : World} {q o n : Nat} {T : TypeId} {cs : Array Value} (h : w.heap[q]? = some (.cells cs T (0, 0))) (hn : o + n ≤ cs.size) : w.there q o n := by
  intro j hj
  rw [cell_of_row w q (o + j) cs T (0, 0) h]
  exact ⟨by simp; omega, frozen_of_row w q (o + j) cs T h⟩
theorem set_conf {w : World} {q : Nat} {e : Ev} {a1 a2 a3 : Option Addr} {c1 c2 c3 : Nat} (c : Cf) (h : w.heap[q]? = some (.cells (evC e a1 a2 a3 c1 c2 c3) 30 (0, 0))) :
    (w.setCells q 14 [.int .i64 c.min, .int .i64 c.max, .int .i64 c.rate, .int .i64 c.stable, .int .i64 c.cap, .int .i64 c.delay, .int .i64 c.slack, .int .i64 c.window, .int .i64 c.margin, .int .i64 c.ceil, .int .i64 c.probe, .int .i64 c.breach]).heap[q]? = some (.cells (evC { e with conf := c } a1 a2 a3 c1 c2 c3) 30 (0, 0)) := by
  have hh := (heap_setCell_same _ _ 25 _ _ (.int .i64 c.breach) (heap_setCell_same _ _ 24 _ _ (.int .i64 c.probe) (heap_setCell_same _ _ 23 _ _ (.int .i64 c.ceil) (heap_setCell_same _ _ 22 _ _ (.int .i64 c.margin) (heap_setCell_same _ _ 21 _ _ (.int .i64 c.window) (heap_setCell_same _ _ 20 _ _ (.int .i64 c.slack) (heap_setCell_same _ _ 19 _ _ (.int .i64 c.delay) (heap_setCell_same _ _ 18 _ _ (.int .i64 c.cap) (heap_setCell_same _ _ 17 _ _ (.int .i64 c.stable) (heap_setCell_same _ _ 16 _ _ (.int .i64 c.rate) (heap_setCell_same _ _ 15 _ _ (.int .i64 c.max) (heap_setCell_same _ _ 14 _ _ (.int .i64 c.min) h))))))))))))
  have he : ((((((((((((evC e a1 a2 a3 c1 c2 c3).setIfInBounds 14 (.int .i64 c.min)).setIfInBounds 15 (.int .i64 c.max)).setIfInBounds 16 (.int .i64 c.rate)).setIfInBounds 17 (.int .i64 c.stable)).setIfInBounds 18 (.int .i64 c.cap)).setIfInBounds 19 (.int .i64 c.delay)).setIfInBounds 20 (.int .i64 c.slack)).setIfInBounds 21 (.int .i64 c.window)).setIfInBounds 22 (.int .i64 c.margin)).setIfInBounds 23 (.int .i64 c.ceil)).setIfInBounds 24 (.int .i64 c.probe)).setIfInBounds 25 (.int .i64 c.breach) = evC { e with conf := c } a1 a2 a3 c1 c2 c3 := by kernel_rfl
  rw [he] at hh
  exact hh
set_option linter.unusedSimpArgs false in
set_option maxRecDepth 100000 in
set_option maxHeartbeats 6400000 in
theorem eventOwn_0 {w : World} {a1 a2 a3 : Option Addr} {c1 c2 c3 : Nat} (e : Ev) (hm : EvM w a1 a2 a3 c1 c2 c3 e) (k : Int) (hk : 0 ≤ k ∧ k ≤ 255) (hmm : k % 6 = 0) :
    Calls Try.prog 6 #[evV e a1 a2 a3 c1 c2 c3, .int .u8 k] w fun r w' => r = .returned (.bool true) ∧ Below w.heap.size w w' := by
  have hbv := box_var hm
  have HB := Lib.hid hbv
  clear hbv hm
  unfold evV
  go_enter Try.func6, Try.ntmps6
  go_wp2_with fail
  refine (head_any _).mono ?_
  rintro r w1 ⟨rfl, h1⟩
  have V1 := Lib.hid (HB.out.1.on h1)
  have B1 := Lib.hid (bel2 HB.out.2 h1)
  clear h1 HB
  go_wp2_with (first | (refine wpList_load_row (by rfl) 30 (.tmp 2) (by rfl) w.heap.size (by rfl) 30 (evC e a1 a2 a3 c1 c2 c3) (0, 0) _ V1.out.cells Try.underlying30 (by rfl) (by kernel_rfl) ?_))
  refine (great_any e a1 a2 a3 c1 c2 c3 _).mono ?_
  rintro r w2 ⟨rfl, h2⟩
  have V2 := Lib.hid (V1.out.on h2)
  have B2 := Lib.hid (bel2 B1.out h2)
  clear h2 V1 B1
  cases hg : grtR e
  rotate_left
  · clear hg
    go_wp2
    go_ret
    exact ⟨rfl, B2.out⟩
  clear hg
  go_wp2_with (first | (refine wpList_load_rowG ?_ 30 (.tmp 2) (by rfl) w.heap.size (by rfl) 30 (evC e a1 a2 a3 c1 c2 c3) (0, 0) _ V2.out.cells Try.underlying30 (by rfl) (by kernel_rfl) ?_; focus (first | rfl | (simp [Region.wanted, yielded]; done) | (simp [Region.wanted, yielded, *]; done))))
  refine (right_any e V2.out.mem.bands V2.out.mem.slots).mono ?_
  rintro r w3 ⟨rfl, h3⟩
  have V3 := Lib.hid (V2.out.on h3)
  have B3 := Lib.hid (bel2 B2.out h3)
  clear h3 V2 B2
  cases hr : rightR e
  · clear hr
    go_wp2
    go_ret
    exact ⟨rfl, B3.out⟩
  have HR := Lib.hid hr
  have HK := Lib.hid (right_kind hr)
  clear hr
  obtain ⟨w4, e4, x4, b4⟩ := new_var V3.out.mem
  have HE := Lib.hid e4
  have X4 := Lib.hid x4
  have V4 := Lib.hid (V3.out.on b4)
  have B4 := Lib.hid (And.intro (bel2 B3.out b4) b4)
  have hlt := Lib.hid (lt_of_heap V3.out.cells)
  clear e4 x4 b4
  have k0 : w4.cell? ⟨w.heap.size, 0, none⟩ = some (.int .i64 e.kind) := evC_cell V4.out.cells 0 _ rfl
  have k1 : w4.cell? ⟨w3.heap.size, 1, none⟩ = some (.int .i64 e.util) := evC_cell X4.out.cells 1 _ rfl
  have z1 := frozen_of_row _ _ 1 _ _ X4.out.cells
  have k2 : (w4.setCell ⟨w3.heap.size, 1, none⟩ (.int .i64 1)).cell? ⟨w.heap.size, 0, none⟩ = some (.int .i64 e.kind) := cell_set_far k0 (by have := hlt.out; show w.heap.size ≠ w3.heap.size; omega)
  have hb5 : Below w3.heap.size w3 (w4.setCell ⟨w3.heap.size, 1, none⟩ (.int .i64 1)) := B4.out.2.setCell (p := ⟨w3.heap.size, 1, none⟩) (Nat.le_refl _) _
  have M5 := Lib.hid (And.intro (V3.out.mem.bands.on hb5) (V3.out.mem.slots.on hb5))
  have B5 := Lib.hid (bel2 B3.out hb5)
  have H5 := Lib.hid (set_cell (j := 1) (v := .int .i64 1) (cs' := evC { e with util := 1 } a1 a2 a3 c1 c2 c3) X4.out.cells rfl)
  clear hb5
  by_cases q0 : e.kind = 1
  · have n0 : (e.kind == 1) = true := by simpa using q0
    have HO : Hid (rightR { e with util := 1 } = true) := by show _ = _; rw [own_util HR.out]; simp [q0]
    have HQ := Lib.hid q0
    clear q0
    go_wp2_with (first | (refine wpList_load_row (by rfl) 30 (.tmp 2) (by rfl) w.heap.size (by rfl) 30 (evC e a1 a2 a3 c1 c2 c3) (0, 0) _ V3.out.cells Try.underlying30 (by rfl) (by kernel_rfl) ?_) | (refine wpList_store_mid (by rfl) 30 (.tmp 6) (.tmp 17) (by rfl) w3.heap.size 0 (evC e a1 a2 a3 c1 c2 c3) (by rfl) (by rfl) (there_new _ _) (by kernel_rfl) (by kernel_rfl) ?_; rw [HE.out]) | (refine wpList_load_rowG ?_ 30 (.tmp 6) (by rfl) w3.heap.size (by rfl) 30 (evC { e with util := 1 } a1 a2 a3 c1 c2 c3) (0, 0) _ H5.out Try.underlying30 (by rfl) (by kernel_rfl) ?_; focus (first | rfl | (simp [Region.wanted, yielded]; done) | (simp [Region.wanted, yielded, *]; done))))
    refine (right_any { e with util := 1 } (a1 := a1) (a2 := a2) (a3 := a3) (c1 := c1) (c2 := c2) (c3 := c3) M5.out.1 M5.out.2).mono ?_
    rintro r w6 ⟨rfl, h6⟩
    rw [HO.out]
    have B6 := Lib.hid (bel2 B5.out h6)
    clear h6
    go_wp2
    go_ret
    exact ⟨rfl, B6.out⟩
  have n0 : (e.kind == 1) = false := by simpa using q0
  have HO : Hid (rightR { e with util := 1 } = false) := by show _ = _; rw [own_util HR.out]; simp [q0]
  clear q0
  go_wp2_with (first | (refine wpList_load_row (by rfl) 30 (.tmp 2) (by rfl) w.heap.size (by rfl) 30 (evC e a1 a2 a3 c1 c2 c3) (0, 0) _ V3.out.cells Try.underlying30 (by rfl) (by kernel_rfl) ?_) | (refine wpList_store_mid (by rfl) 30 (.tmp 6) (.tmp 17) (by rfl) w3.heap.size 0 (evC e a1 a2 a3 c1 c2 c3) (by rfl) (by rfl) (there_new _ _) (by kernel_rfl) (by kernel_rfl) ?_; rw [HE.out]) | (refine wpList_load_rowG ?_ 30 (.tmp 6) (by rfl) w3.heap.size (by rfl) 30 (evC { e with util := 1 } a1 a2 a3 c1 c2 c3) (0, 0) _ H5.out Try.underlying30 (by rfl) (by kernel_rfl) ?_; focus (first | rfl | (simp [Region.wanted, yielded]; done) | (simp [Region.wanted, yielded, *]; done))))
  refine (right_any { e with util := 1 } (a1 := a1) (a2 := a2) (a3 := a3) (c1 := c1) (c2 := c2) (c3 := c3) M5.out.1 M5.out.2).mono ?_
  rintro r w6 ⟨rfl, h6⟩
  rw [HO.out]
  have B6 := Lib.hid (bel2 B5.out h6)
  clear h6
  go_wp2
  go_ret
  exact ⟨rfl, B6.out⟩
set_option linter.unusedSimpArgs false in
set_option maxRecDepth 100000 in
set_option maxHeartbeats 6400000 in
theorem eventOwn_1 {w : World} {a1 a2 a3 : Option Addr} {c1 c2 c3 : Nat} (e : Ev) (hm : EvM w a1 a2 a3 c1 c2 c3 e) (k : Int) (hk : 0 ≤ k ∧ k ≤ 255) (hmm : k % 6 = 1) :
    Calls Try.prog 6 #[evV e a1 a2 a3 c1 c2 c3, .int .u8 k] w fun r w' => r = .returned (.bool true) ∧ Below w.heap.size w w' := by
  have hbv := box_var hm
  have HB := Lib.hid hbv
  clear hbv hm
  unfold evV
  go_enter Try.func6, Try.ntmps6
  go_wp2_with fail
  refine (head_any _).mono ?_
  rintro r w1 ⟨rfl, h1⟩
  have V1 := Lib.hid (HB.out.1.on h1)
  have B1 := Lib.hid (bel2 HB.out.2 h1)
  clear h1 HB
  go_wp2_with (first | (refine wpList_load_row (by rfl) 30 (.tmp 2) (by rfl) w.heap.size (by rfl) 30 (evC e a1 a2 a3 c1 c2 c3) (0, 0) _ V1.out.cells Try.underlying30 (by rfl) (by kernel_rfl) ?_))
  refine (great_any e a1 a2 a3 c1 c2 c3 _).mono ?_
  rintro r w2 ⟨rfl, h2⟩
  have V2 := Lib.hid (V1.out.on h2)
  have B2 := Lib.hid (bel2 B1.out h2)
  clear h2 V1 B1
  cases hg : grtR e
  rotate_left
  · clear hg
    go_wp2
    go_ret
    exact ⟨rfl, B2.out⟩
  clear hg
  go_wp2_with (first | (refine wpList_load_rowG ?_ 30 (.tmp 2) (by rfl) w.heap.size (by rfl) 30 (evC e a1 a2 a3 c1 c2 c3) (0, 0) _ V2.out.cells Try.underlying30 (by rfl) (by kernel_rfl) ?_; focus (first | rfl | (simp [Region.wanted, yielded]; done) | (simp [Region.wanted, yielded, *]; done))))
  refine (right_any e V2.out.mem.bands V2.out.mem.slots).mono ?_
  rintro r w3 ⟨rfl, h3⟩
  have V3 := Lib.hid (V2.out.on h3)
  have B3 := Lib.hid (bel2 B2.out h3)
  clear h3 V2 B2
  cases hr : rightR e
  · clear hr
    go_wp2
    go_ret
    exact ⟨rfl, B3.out⟩
  have HR := Lib.hid hr
  have HK := Lib.hid (right_kind hr)
  clear hr
  obtain ⟨w4, e4, x4, b4⟩ := new_var V3.out.mem
  have HE := Lib.hid e4
  have X4 := Lib.hid x4
  have V4 := Lib.hid (V3.out.on b4)
  have B4 := Lib.hid (And.intro (bel2 B3.out b4) b4)
  have hlt := Lib.hid (lt_of_heap V3.out.cells)
  clear e4 x4 b4
  have k0 : w4.cell? ⟨w.heap.size, 0, none⟩ = some (.int .i64 e.kind) := evC_cell V4.out.cells 0 _ rfl
  have k1 : w4.cell? ⟨w3.heap.size, 3, none⟩ = some (.int .i64 e.t) := evC_cell X4.out.cells 3 _ rfl
  have z1 := frozen_of_row _ _ 3 _ _ X4.out.cells
  have k2 : (w4.setCell ⟨w3.heap.size, 3, none⟩ (.int .i64 1)).cell? ⟨w.heap.size, 0, none⟩ = some (.int .i64 e.kind) := cell_set_far k0 (by have := hlt.out; show w.heap.size ≠ w3.heap.size; omega)
  have hb5 : Below w3.heap.size w3 (w4.setCell ⟨w3.heap.size, 3, none⟩ (.int .i64 1)) := B4.out.2.setCell (p := ⟨w3.heap.size, 3, none⟩) (Nat.le_refl _) _
  have M5 := Lib.hid (And.intro (V3.out.mem.bands.on hb5) (V3.out.mem.slots.on hb5))
  have B5 := Lib.hid (bel2 B3.out hb5)
  have H5 := Lib.hid (set_cell (j := 3) (v := .int .i64 1) (cs' := evC { e with t := 1 } a1 a2 a3 c1 c2 c3) X4.out.cells rfl)
  clear hb5
  by_cases q0 : e.kind = 2
  · have n0 : (e.kind == 2) = true := by simpa using q0
    have HO : Hid (rightR { e with t := 1 } = true) := by show _ = _; rw [own_t HR.out]; simp [q0]
    have HQ := Lib.hid q0
    clear q0
    go_wp2_with (first | (refine wpList_load_row (by rfl) 30 (.tmp 2) (by rfl) w.heap.size (by rfl) 30 (evC e a1 a2 a3 c1 c2 c3) (0, 0) _ V3.out.cells Try.underlying30 (by rfl) (by kernel_rfl) ?_) | (refine wpList_store_mid (by rfl) 30 (.tmp 6) (.tmp 17) (by rfl) w3.heap.size 0 (evC e a1 a2 a3 c1 c2 c3) (by rfl) (by rfl) (there_new _ _) (by kernel_rfl) (by kernel_rfl) ?_; rw [HE.out]) | (refine wpList_load_rowG ?_ 30 (.tmp 6) (by rfl) w3.heap.size (by rfl) 30 (evC { e with t := 1 } a1 a2 a3 c1 c2 c3) (0, 0) _ H5.out Try.underlying30 (by rfl) (by kernel_rfl) ?_; focus (first | rfl | (simp [Region.wanted, yielded]; done) | (simp [Region.wanted, yielded, *]; done))))
    refine (right_any { e with t := 1 } (a1 := a1) (a2 := a2) (a3 := a3) (c1 := c1) (c2 := c2) (c3 := c3) M5.out.1 M5.out.2).mono ?_
    rintro r w6 ⟨rfl, h6⟩
    rw [HO.out]
    have B6 := Lib.hid (bel2 B5.out h6)
    clear h6
    go_wp2
    go_ret
    exact ⟨rfl, B6.out⟩
  have n0 : (e.kind == 2) = false := by simpa using q0
  by_cases q1 : e.kind = 5
  · have n1 : (e.kind == 5) = true := by simpa using q1
    have HO : Hid (rightR { e with t := 1 } = true) := by show _ = _; rw [own_t HR.out]; simp [q1]
    have HQ := Lib.hid q1
    clear q1
    go_wp2_with (first | (refine wpList_load_row (by rfl) 30 (.tmp 2) (by rfl) w.heap.size (by rfl) 30 (evC e a1 a2 a3 c1 c2 c3) (0, 0) _ V3.out.cells Try.underlying30 (by rfl) (by kernel_rfl) ?_) | (refine wpList_store_mid (by rfl) 30 (.tmp 6) (.tmp 17) (by rfl) w3.heap.size 0 (evC e a1 a2 a3 c1 c2 c3) (by rfl) (by rfl) (there_new _ _) (by kernel_rfl) (by kernel_rfl) ?_; rw [HE.out]) | (refine wpList_load_rowG ?_ 30 (.tmp 6) (by rfl) w3.heap.size (by rfl) 30 (evC { e with t := 1 } a1 a2 a3 c1 c2 c3) (0, 0) _ H5.out Try.underlying30 (by rfl) (by kernel_rfl) ?_; focus (first | rfl | (simp [Region.wanted, yielded]; done) | (simp [Region.wanted, yielded, *]; done))))
    refine (right_any { e with t := 1 } (a1 := a1) (a2 := a2) (a3 := a3) (c1 := c1) (c2 := c2) (c3 := c3) M5.out.1 M5.out.2).mono ?_
    rintro r w6 ⟨rfl, h6⟩
    rw [HO.out]
    have B6 := Lib.hid (bel2 B5.out h6)
    clear h6
    go_wp2
    go_ret
    exact ⟨rfl, B6.out⟩
  have n1 : (e.kind == 5) = false := by simpa using q1
  have HO : Hid (rightR { e with t := 1 } = false) := by show _ = _; rw [own_t HR.out]; simp [q0, q1]
  clear q0 q1
  go_wp2_with (first | (refine wpList_load_row (by rfl) 30 (.tmp 2) (by rfl) w.heap.size (by rfl) 30 (evC e a1 a2 a3 c1 c2 c3) (0, 0) _ V3.out.cells Try.underlying30 (by rfl) (by kernel_rfl) ?_) | (refine wpList_store_mid (by rfl) 30 (.tmp 6) (.tmp 17) (by rfl) w3.heap.size 0 (evC e a1 a2 a3 c1 c2 c3) (by rfl) (by rfl) (there_new _ _) (by kernel_rfl) (by kernel_rfl) ?_; rw [HE.out]) | (refine wpList_load_rowG ?_ 30 (.tmp 6) (by rfl) w3.heap.size (by rfl) 30 (evC { e with t := 1 } a1 a2 a3 c1 c2 c3) (0, 0) _ H5.out Try.underlying30 (by rfl) (by kernel_rfl) ?_; focus (first | rfl | (simp [Region.wanted, yielded]; done) | (simp [Region.wanted, yielded, *]; done))))
  refine (right_any { e with t := 1 } (a1 := a1) (a2 := a2) (a3 := a3) (c1 := c1) (c2 := c2) (c3 := c3) M5.out.1 M5.out.2).mono ?_
  rintro r w6 ⟨rfl, h6⟩
  rw [HO.out]
  have B6 := Lib.hid (bel2 B5.out h6)
  clear h6
  go_wp2
  go_ret
  exact ⟨rfl, B6.out⟩
set_option linter.unusedSimpArgs false in
set_option maxRecDepth 100000 in
set_option maxHeartbeats 6400000 in
theorem eventOwn_2 {w : World} {a1 a2 a3 : Option Addr} {c1 c2 c3 : Nat} (e : Ev) (hm : EvM w a1 a2 a3 c1 c2 c3 e) (k : Int) (hk : 0 ≤ k ∧ k ≤ 255) (hmm : k % 6 = 2) :
    Calls Try.prog 6 #[evV e a1 a2 a3 c1 c2 c3, .int .u8 k] w fun r w' => r = .returned (.bool true) ∧ Below w.heap.size w w' := by
  have hbv := box_var hm
  have HB := Lib.hid hbv
  clear hbv hm
  unfold evV
  go_enter Try.func6, Try.ntmps6
  go_wp2_with fail
  refine (head_any _).mono ?_
  rintro r w1 ⟨rfl, h1⟩
  have V1 := Lib.hid (HB.out.1.on h1)
  have B1 := Lib.hid (bel2 HB.out.2 h1)
  clear h1 HB
  go_wp2_with (first | (refine wpList_load_row (by rfl) 30 (.tmp 2) (by rfl) w.heap.size (by rfl) 30 (evC e a1 a2 a3 c1 c2 c3) (0, 0) _ V1.out.cells Try.underlying30 (by rfl) (by kernel_rfl) ?_))
  refine (great_any e a1 a2 a3 c1 c2 c3 _).mono ?_
  rintro r w2 ⟨rfl, h2⟩
  have V2 := Lib.hid (V1.out.on h2)
  have B2 := Lib.hid (bel2 B1.out h2)
  clear h2 V1 B1
  cases hg : grtR e
  rotate_left
  · clear hg
    go_wp2
    go_ret
    exact ⟨rfl, B2.out⟩
  clear hg
  go_wp2_with (first | (refine wpList_load_rowG ?_ 30 (.tmp 2) (by rfl) w.heap.size (by rfl) 30 (evC e a1 a2 a3 c1 c2 c3) (0, 0) _ V2.out.cells Try.underlying30 (by rfl) (by kernel_rfl) ?_; focus (first | rfl | (simp [Region.wanted, yielded]; done) | (simp [Region.wanted, yielded, *]; done))))
  refine (right_any e V2.out.mem.bands V2.out.mem.slots).mono ?_
  rintro r w3 ⟨rfl, h3⟩
  have V3 := Lib.hid (V2.out.on h3)
  have B3 := Lib.hid (bel2 B2.out h3)
  clear h3 V2 B2
  cases hr : rightR e
  · clear hr
    go_wp2
    go_ret
    exact ⟨rfl, B3.out⟩
  have HR := Lib.hid hr
  have HK := Lib.hid (right_kind hr)
  clear hr
  obtain ⟨w4, e4, x4, b4⟩ := new_var V3.out.mem
  have HE := Lib.hid e4
  have X4 := Lib.hid x4
  have V4 := Lib.hid (V3.out.on b4)
  have B4 := Lib.hid (And.intro (bel2 B3.out b4) b4)
  have hlt := Lib.hid (lt_of_heap V3.out.cells)
  clear e4 x4 b4
  have k0 : w4.cell? ⟨w.heap.size, 0, none⟩ = some (.int .i64 e.kind) := evC_cell V4.out.cells 0 _ rfl
  have k1 : w4.cell? ⟨w3.heap.size, 5, none⟩ = some (.int .i64 e.n) := evC_cell X4.out.cells 5 _ rfl
  have z1 := frozen_of_row _ _ 5 _ _ X4.out.cells
  have k2 : (w4.setCell ⟨w3.heap.size, 5, none⟩ (.int .i64 1)).cell? ⟨w.heap.size, 0, none⟩ = some (.int .i64 e.kind) := cell_set_far k0 (by have := hlt.out; show w.heap.size ≠ w3.heap.size; omega)
  have hb5 : Below w3.heap.size w3 (w4.setCell ⟨w3.heap.size, 5, none⟩ (.int .i64 1)) := B4.out.2.setCell (p := ⟨w3.heap.size, 5, none⟩) (Nat.le_refl _) _
  have M5 := Lib.hid (And.intro (V3.out.mem.bands.on hb5) (V3.out.mem.slots.on hb5))
  have B5 := Lib.hid (bel2 B3.out hb5)
  have H5 := Lib.hid (set_cell (j := 5) (v := .int .i64 1) (cs' := evC { e with n := 1 } a1 a2 a3 c1 c2 c3) X4.out.cells rfl)
  clear hb5
  by_cases q0 : e.kind = 5
  · have n0 : (e.kind == 5) = true := by simpa using q0
    have HO : Hid (rightR { e with n := 1 } = true) := by show _ = _; rw [own_n HR.out]; simp [q0]
    have HQ := Lib.hid q0
    clear q0
    go_wp2_with (first | (refine wpList_load_row (by rfl) 30 (.tmp 2) (by rfl) w.heap.size (by rfl) 30 (evC e a1 a2 a3 c1 c2 c3) (0, 0) _ V3.out.cells Try.underlying30 (by rfl) (by kernel_rfl) ?_) | (refine wpList_store_mid (by rfl) 30 (.tmp 6) (.tmp 17) (by rfl) w3.heap.size 0 (evC e a1 a2 a3 c1 c2 c3) (by rfl) (by rfl) (there_new _ _) (by kernel_rfl) (by kernel_rfl) ?_; rw [HE.out]) | (refine wpList_load_rowG ?_ 30 (.tmp 6) (by rfl) w3.heap.size (by rfl) 30 (evC { e with n := 1 } a1 a2 a3 c1 c2 c3) (0, 0) _ H5.out Try.underlying30 (by rfl) (by kernel_rfl) ?_; focus (first | rfl | (simp [Region.wanted, yielded]; done) | (simp [Region.wanted, yielded, *]; done))))
    refine (right_any { e with n := 1 } (a1 := a1) (a2 := a2) (a3 := a3) (c1 := c1) (c2 := c2) (c3 := c3) M5.out.1 M5.out.2).mono ?_
    rintro r w6 ⟨rfl, h6⟩
    rw [HO.out]
    have B6 := Lib.hid (bel2 B5.out h6)
    clear h6
    go_wp2
    go_ret
    exact ⟨rfl, B6.out⟩
  have n0 : (e.kind == 5) = false := by simpa using q0
  have HO : Hid (rightR { e with n := 1 } = false) := by show _ = _; rw [own_n HR.out]; simp [q0]
  clear q0
  go_wp2_with (first | (refine wpList_load_row (by rfl) 30 (.tmp 2) (by rfl) w.heap.size (by rfl) 30 (evC e a1 a2 a3 c1 c2 c3) (0, 0) _ V3.out.cells Try.underlying30 (by rfl) (by kernel_rfl) ?_) | (refine wpList_store_mid (by rfl) 30 (.tmp 6) (.tmp 17) (by rfl) w3.heap.size 0 (evC e a1 a2 a3 c1 c2 c3) (by rfl) (by rfl) (there_new _ _) (by kernel_rfl) (by kernel_rfl) ?_; rw [HE.out]) | (refine wpList_load_rowG ?_ 30 (.tmp 6) (by rfl) w3.heap.size (by rfl) 30 (evC { e with n := 1 } a1 a2 a3 c1 c2 c3) (0, 0) _ H5.out Try.underlying30 (by rfl) (by kernel_rfl) ?_; focus (first | rfl | (simp [Region.wanted, yielded]; done) | (simp [Region.wanted, yielded, *]; done))))
  refine (right_any { e with n := 1 } (a1 := a1) (a2 := a2) (a3 := a3) (c1 := c1) (c2 := c2) (c3 := c3) M5.out.1 M5.out.2).mono ?_
  rintro r w6 ⟨rfl, h6⟩
  rw [HO.out]
  have B6 := Lib.hid (bel2 B5.out h6)
  clear h6
  go_wp2
  go_ret
  exact ⟨rfl, B6.out⟩
set_option linter.unusedSimpArgs false in
set_option maxRecDepth 100000 in
set_option maxHeartbeats 6400000 in
theorem eventOwn_3 {w : World} {a1 a2 a3 : Option Addr} {c1 c2 c3 : Nat} (e : Ev) (hm : EvM w a1 a2 a3 c1 c2 c3 e) (k : Int) (hk : 0 ≤ k ∧ k ≤ 255) (hmm : k % 6 = 3) :
    Calls Try.prog 6 #[evV e a1 a2 a3 c1 c2 c3, .int .u8 k] w fun r w' => r = .returned (.bool true) ∧ Below w.heap.size w w' := by
  have hbv := box_var hm
  have HB := Lib.hid hbv
  clear hbv hm
  unfold evV
  go_enter Try.func6, Try.ntmps6
  go_wp2_with fail
  refine (head_any _).mono ?_
  rintro r w1 ⟨rfl, h1⟩
  have V1 := Lib.hid (HB.out.1.on h1)
  have B1 := Lib.hid (bel2 HB.out.2 h1)
  clear h1 HB
  go_wp2_with (first | (refine wpList_load_row (by rfl) 30 (.tmp 2) (by rfl) w.heap.size (by rfl) 30 (evC e a1 a2 a3 c1 c2 c3) (0, 0) _ V1.out.cells Try.underlying30 (by rfl) (by kernel_rfl) ?_))
  refine (great_any e a1 a2 a3 c1 c2 c3 _).mono ?_
  rintro r w2 ⟨rfl, h2⟩
  have V2 := Lib.hid (V1.out.on h2)
  have B2 := Lib.hid (bel2 B1.out h2)
  clear h2 V1 B1
  cases hg : grtR e
  rotate_left
  · clear hg
    go_wp2
    go_ret
    exact ⟨rfl, B2.out⟩
  clear hg
  go_wp2_with (first | (refine wpList_load_rowG ?_ 30 (.tmp 2) (by rfl) w.heap.size (by rfl) 30 (evC e a1 a2 a3 c1 c2 c3) (0, 0) _ V2.out.cells Try.underlying30 (by rfl) (by kernel_rfl) ?_; focus (first | rfl | (simp [Region.wanted, yielded]; done) | (simp [Region.wanted, yielded, *]; done))))
  refine (right_any e V2.out.mem.bands V2.out.mem.slots).mono ?_
  rintro r w3 ⟨rfl, h3⟩
  have V3 := Lib.hid (V2.out.on h3)
  have B3 := Lib.hid (bel2 B2.out h3)
  clear h3 V2 B2
  cases hr : rightR e
  · clear hr
    go_wp2
    go_ret
    exact ⟨rfl, B3.out⟩
  have HR := Lib.hid hr
  have HK := Lib.hid (right_kind hr)
  clear hr
  obtain ⟨w4, e4, x4, b4⟩ := new_var V3.out.mem
  have HE := Lib.hid e4
  have X4 := Lib.hid x4
  have V4 := Lib.hid (V3.out.on b4)
  have B4 := Lib.hid (And.intro (bel2 B3.out b4) b4)
  have hlt := Lib.hid (lt_of_heap V3.out.cells)
  clear e4 x4 b4
  have k0 : w4.cell? ⟨w.heap.size, 0, none⟩ = some (.int .i64 e.kind) := evC_cell V4.out.cells 0 _ rfl
  go_wp2_with (first | (refine wpList_load_row (by rfl) 30 (.tmp 2) (by rfl) w.heap.size (by rfl) 30 (evC e a1 a2 a3 c1 c2 c3) (0, 0) _ V3.out.cells Try.underlying30 (by rfl) (by kernel_rfl) ?_) | (refine wpList_store_mid (by rfl) 30 (.tmp 6) (.tmp 17) (by rfl) w3.heap.size 0 (evC e a1 a2 a3 c1 c2 c3) (by rfl) (by rfl) (there_new _ _) (by kernel_rfl) (by kernel_rfl) ?_; rw [HE.out]))
  refine (plain_any _).mono ?_
  rintro r w5 ⟨rfl, h5⟩
  have X5 := Lib.hid (X4.out.on h5)
  have hb5 : Below w3.heap.size w3 (w5.setCells w3.heap.size 14 (#[.int .i64 1, .int .i64 20, .int .i64 4, .int .i64 3, .int .i64 100, .int .i64 1, .int .i64 50, .int .i64 4, .int .i64 2, .int .i64 1, .int .i64 3, .int .i64 1] : Array Value).toList) := below_setCells' _ (Nat.le_refl _) _ _ (B4.out.2.trans (h5.mono B4.out.2.size))
  have hh5 : (w5.setCells w3.heap.size 14 (#[.int .i64 1, .int .i64 20, .int .i64 4, .int .i64 3, .int .i64 100, .int .i64 1, .int .i64 50, .int .i64 4, .int .i64 2, .int .i64 1, .int .i64 3, .int .i64 1] : Array Value).toList).heap[w3.heap.size]? = some (.cells (evC { e with conf := CP } a1 a2 a3 c1 c2 c3) 30 (0, 0)) := set_conf CP X5.out.cells
  obtain ⟨w5c, e5c⟩ : ∃ x, w5.setCells w3.heap.size 14 (#[.int .i64 1, .int .i64 20, .int .i64 4, .int .i64 3, .int .i64 100, .int .i64 1, .int .i64 50, .int .i64 4, .int .i64 2, .int .i64 1, .int .i64 3, .int .i64 1] : Array Value).toList = x := ⟨_, rfl⟩
  rw [e5c] at hb5 hh5
  have HE5 := Lib.hid e5c
  clear e5c
  have k2 : w5c.cell? ⟨w.heap.size, 0, none⟩ = some (.int .i64 e.kind) := (hb5.cell (p := ⟨w.heap.size, 0, none⟩) hlt.out).trans (evC_cell V3.out.cells 0 _ rfl)
  have M5 := Lib.hid (And.intro (V3.out.mem.bands.on hb5) (V3.out.mem.slots.on hb5))
  have B5 := Lib.hid (bel2 B3.out hb5)
  have H5 := Lib.hid hh5
  clear hb5 h5 hh5 k0
  by_cases q0 : e.kind = 4
  · have n0 : (e.kind == 4) = true := by simpa using q0
    have HO : Hid (rightR { e with conf := CP } = true) := by show _ = _; rw [own_conf HR.out]; simp [q0]
    have HQ := Lib.hid q0
    clear q0
    go_wp2_with (first | (refine wpList_load_rowG ?_ 30 (.tmp 6) (by rfl) w3.heap.size (by rfl) 30 (evC { e with conf := CP } a1 a2 a3 c1 c2 c3) (0, 0) _ H5.out Try.underlying30 (by rfl) (by kernel_rfl) ?_; focus (first | rfl | (simp [Region.wanted, yielded]; done) | (simp [Region.wanted, yielded, *]; done))) | (refine wpList_store_mid (by rfl) 27 (.tmp 60) (.tmp 59) (by rfl) w3.heap.size 14 #[.int .i64 1, .int .i64 20, .int .i64 4, .int .i64 3, .int .i64 100, .int .i64 1, .int .i64 50, .int .i64 4, .int .i64 2, .int .i64 1, .int .i64 3, .int .i64 1] (by rfl) (by rfl) (there_mid X5.out.cells (by show 14 + 12 ≤ 27; decide)) (by kernel_rfl) (by kernel_rfl) ?_; rw [HE5.out]))
    refine (right_any { e with conf := CP } (a1 := a1) (a2 := a2) (a3 := a3) (c1 := c1) (c2 := c2) (c3 := c3) M5.out.1 M5.out.2).mono ?_
    rintro r w6 ⟨rfl, h6⟩
    rw [HO.out]
    have B6 := Lib.hid (bel2 B5.out h6)
    clear h6
    go_wp2
    go_ret
    exact ⟨rfl, B6.out⟩
  have n0 : (e.kind == 4) = false := by simpa using q0
  have HO : Hid (rightR { e with conf := CP } = false) := by show _ = _; rw [own_conf HR.out]; simp [q0]
  clear q0
  go_wp2_with (first | (refine wpList_load_rowG ?_ 30 (.tmp 6) (by rfl) w3.heap.size (by rfl) 30 (evC { e with conf := CP } a1 a2 a3 c1 c2 c3) (0, 0) _ H5.out Try.underlying30 (by rfl) (by kernel_rfl) ?_; focus (first | rfl | (simp [Region.wanted, yielded]; done) | (simp [Region.wanted, yielded, *]; done))) | (refine wpList_store_mid (by rfl) 27 (.tmp 60) (.tmp 59) (by rfl) w3.heap.size 14 #[.int .i64 1, .int .i64 20, .int .i64 4, .int .i64 3, .int .i64 100, .int .i64 1, .int .i64 50, .int .i64 4, .int .i64 2, .int .i64 1, .int .i64 3, .int .i64 1] (by rfl) (by rfl) (there_mid X5.out.cells (by show 14 + 12 ≤ 27; decide)) (by kernel_rfl) (by kernel_rfl) ?_; rw [HE5.out]))
  refine (right_any { e with conf := CP } (a1 := a1) (a2 := a2) (a3 := a3) (c1 := c1) (c2 := c2) (c3 := c3) M5.out.1 M5.out.2).mono ?_
  rintro r w6 ⟨rfl, h6⟩
  rw [HO.out]
  have B6 := Lib.hid (bel2 B5.out h6)
  clear h6
  go_wp2
  go_ret
  exact ⟨rfl, B6.out⟩
set_option linter.unusedSimpArgs false in
set_option maxRecDepth 100000 in
set_option maxHeartbeats 6400000 in
theorem eventOwn_4 {w : World} {a1 a2 a3 : Option Addr} {c1 c2 c3 : Nat} (e : Ev) (hm : EvM w a1 a2 a3 c1 c2 c3 e) (k : Int) (hk : 0 ≤ k ∧ k ≤ 255) (hmm : k % 6 = 4) :
    Calls Try.prog 6 #[evV e a1 a2 a3 c1 c2 c3, .int .u8 k] w fun r w' => r = .returned (.bool true) ∧ Below w.heap.size w w' := by
  have hbv := box_var hm
  have HB := Lib.hid hbv
  clear hbv hm
  unfold evV
  go_enter Try.func6, Try.ntmps6
  go_wp2_with fail
  refine (head_any _).mono ?_
  rintro r w1 ⟨rfl, h1⟩
  have V1 := Lib.hid (HB.out.1.on h1)
  have B1 := Lib.hid (bel2 HB.out.2 h1)
  clear h1 HB
  go_wp2_with (first | (refine wpList_load_row (by rfl) 30 (.tmp 2) (by rfl) w.heap.size (by rfl) 30 (evC e a1 a2 a3 c1 c2 c3) (0, 0) _ V1.out.cells Try.underlying30 (by rfl) (by kernel_rfl) ?_))
  refine (great_any e a1 a2 a3 c1 c2 c3 _).mono ?_
  rintro r w2 ⟨rfl, h2⟩
  have V2 := Lib.hid (V1.out.on h2)
  have B2 := Lib.hid (bel2 B1.out h2)
  clear h2 V1 B1
  cases hg : grtR e
  rotate_left
  · clear hg
    go_wp2
    go_ret
    exact ⟨rfl, B2.out⟩
  clear hg
  go_wp2_with (first | (refine wpList_load_rowG ?_ 30 (.tmp 2) (by rfl) w.heap.size (by rfl) 30 (evC e a1 a2 a3 c1 c2 c3) (0, 0) _ V2.out.cells Try.underlying30 (by rfl) (by kernel_rfl) ?_; focus (first | rfl | (simp [Region.wanted, yielded]; done) | (simp [Region.wanted, yielded, *]; done))))
  refine (right_any e V2.out.mem.bands V2.out.mem.slots).mono ?_
  rintro r w3 ⟨rfl, h3⟩
  have V3 := Lib.hid (V2.out.on h3)
  have B3 := Lib.hid (bel2 B2.out h3)
  clear h3 V2 B2
  cases hr : rightR e
  · clear hr
    go_wp2
    go_ret
    exact ⟨rfl, B3.out⟩
  have HR := Lib.hid hr
  have HK := Lib.hid (right_kind hr)
  clear hr
  obtain ⟨w4, e4, x4, b4⟩ := new_var V3.out.mem
  have HE := Lib.hid e4
  have X4 := Lib.hid x4
  have V4 := Lib.hid (V3.out.on b4)
  have B4 := Lib.hid (And.intro (bel2 B3.out b4) b4)
  have hlt := Lib.hid (lt_of_heap V3.out.cells)
  clear e4 x4 b4
  have k0 : w4.cell? ⟨w.heap.size, 0, none⟩ = some (.int .i64 e.kind) := evC_cell V4.out.cells 0 _ rfl
  have XA := Lib.hid (X4.out.on (bel1 (Below.refl _ _) (.cells #[.int .u8 1] 5)))
  have k1 : (w4.alloc (.cells #[.int .u8 1] 5)).cell? ⟨w3.heap.size, 26, none⟩ = some (.slice a3 e.body.length c3) := evC_cell XA.out.cells 26 _ rfl
  have z1 := frozen_of_row _ _ 26 _ _ XA.out.cells
  have hb5 : Below w3.heap.size w3 ((w4.alloc (.cells #[.int .u8 1] 5)).setCell ⟨w3.heap.size, 26, none⟩ (.slice (some ⟨w4.heap.size, 0, none⟩) 1 1)) := (B4.out.2.alloc B4.out.2.size _).setCell (p := ⟨w3.heap.size, 26, none⟩) (Nat.le_refl _) _
  have k2 : ((w4.alloc (.cells #[.int .u8 1] 5)).setCell ⟨w3.heap.size, 26, none⟩ (.slice (some ⟨w4.heap.size, 0, none⟩) 1 1)).cell? ⟨w.heap.size, 0, none⟩ = some (.int .i64 e.kind) := (hb5.cell (p := ⟨w.heap.size, 0, none⟩) hlt.out).trans (evC_cell V3.out.cells 0 _ rfl)
  have M5 := Lib.hid (And.intro (V3.out.mem.bands.on hb5) (V3.out.mem.slots.on hb5))
  have B5 := Lib.hid (bel2 B3.out hb5)
  have H5 := Lib.hid (set_cell (j := 26) (v := .slice (some ⟨w4.heap.size, 0, none⟩) 1 1) (cs' := evC { e with body := [1] } a1 a2 (some ⟨w4.heap.size, 0, none⟩) c1 c2 1) XA.out.cells rfl)
  clear hb5 k0
  by_cases q0 : e.kind = 8
  · have n0 : (e.kind == 8) = true := by simpa using q0
    have HO : Hid (rightR { e with body := [1] } = true) := by show _ = _; rw [own_body HR.out]; simp [q0]
    have HQ := Lib.hid q0
    clear q0
    go_wp2_with (first | (refine wpList_load_row (by rfl) 30 (.tmp 2) (by rfl) w.heap.size (by rfl) 30 (evC e a1 a2 a3 c1 c2 c3) (0, 0) _ V3.out.cells Try.underlying30 (by rfl) (by kernel_rfl) ?_) | (refine wpList_store_mid (by rfl) 30 (.tmp 6) (.tmp 17) (by rfl) w3.heap.size 0 (evC e a1 a2 a3 c1 c2 c3) (by rfl) (by rfl) (there_new _ _) (by kernel_rfl) (by kernel_rfl) ?_; rw [HE.out]) | (refine wpList_load_rowG ?_ 30 (.tmp 6) (by rfl) w3.heap.size (by rfl) 30 (evC { e with body := [1] } a1 a2 (some ⟨w4.heap.size, 0, none⟩) c1 c2 1) (0, 0) _ H5.out Try.underlying30 (by rfl) (by kernel_rfl) ?_; focus (first | rfl | (simp [Region.wanted, yielded]; done) | (simp [Region.wanted, yielded, *]; done))))
    refine (right_any { e with body := [1] } (a1 := a1) (a2 := a2) (a3 := (some ⟨w4.heap.size, 0, none⟩)) (c1 := c1) (c2 := c2) (c3 := 1) M5.out.1 M5.out.2).mono ?_
    rintro r w6 ⟨rfl, h6⟩
    rw [HO.out]
    have B6 := Lib.hid (bel2 B5.out h6)
    clear h6
    go_wp2
    go_ret
    exact ⟨rfl, B6.out⟩
  have n0 : (e.kind == 8) = false := by simpa using q0
  have HO : Hid (rightR { e with body := [1] } = false) := by show _ = _; rw [own_body HR.out]; simp [q0]
  clear q0
  go_wp2_with (first | (refine wpList_load_row (by rfl) 30 (.tmp 2) (by rfl) w.heap.size (by rfl) 30 (evC e a1 a2 a3 c1 c2 c3) (0, 0) _ V3.out.cells Try.underlying30 (by rfl) (by kernel_rfl) ?_) | (refine wpList_store_mid (by rfl) 30 (.tmp 6) (.tmp 17) (by rfl) w3.heap.size 0 (evC e a1 a2 a3 c1 c2 c3) (by rfl) (by rfl) (there_new _ _) (by kernel_rfl) (by kernel_rfl) ?_; rw [HE.out]) | (refine wpList_load_rowG ?_ 30 (.tmp 6) (by rfl) w3.heap.size (by rfl) 30 (evC { e with body := [1] } a1 a2 (some ⟨w4.heap.size, 0, none⟩) c1 c2 1) (0, 0) _ H5.out Try.underlying30 (by rfl) (by kernel_rfl) ?_; focus (first | rfl | (simp [Region.wanted, yielded]; done) | (simp [Region.wanted, yielded, *]; done))))
  refine (right_any { e with body := [1] } (a1 := a1) (a2 := a2) (a3 := (some ⟨w4.heap.size, 0, none⟩)) (c1 := c1) (c2 := c2) (c3 := 1) M5.out.1 M5.out.2).mono ?_
  rintro r w6 ⟨rfl, h6⟩
  rw [HO.out]
  have B6 := Lib.hid (bel2 B5.out h6)
  clear h6
  go_wp2
  go_ret
  exact ⟨rfl, B6.out⟩
set_option linter.unusedSimpArgs false in
set_option maxRecDepth 100000 in
set_option maxHeartbeats 6400000 in
theorem eventOwn_5 {w : World} {a1 a2 a3 : Option Addr} {c1 c2 c3 : Nat} (e : Ev) (hm : EvM w a1 a2 a3 c1 c2 c3 e) (k : Int) (hk : 0 ≤ k ∧ k ≤ 255) (hmm : k % 6 = 5) :
    Calls Try.prog 6 #[evV e a1 a2 a3 c1 c2 c3, .int .u8 k] w fun r w' => r = .returned (.bool true) ∧ Below w.heap.size w w' := by
  have hbv := box_var hm
  have HB := Lib.hid hbv
  clear hbv hm
  unfold evV
  go_enter Try.func6, Try.ntmps6
  go_wp2_with fail
  refine (head_any _).mono ?_
  rintro r w1 ⟨rfl, h1⟩
  have V1 := Lib.hid (HB.out.1.on h1)
  have B1 := Lib.hid (bel2 HB.out.2 h1)
  clear h1 HB
  go_wp2_with (first | (refine wpList_load_row (by rfl) 30 (.tmp 2) (by rfl) w.heap.size (by rfl) 30 (evC e a1 a2 a3 c1 c2 c3) (0, 0) _ V1.out.cells Try.underlying30 (by rfl) (by kernel_rfl) ?_))
  refine (great_any e a1 a2 a3 c1 c2 c3 _).mono ?_
  rintro r w2 ⟨rfl, h2⟩
  have V2 := Lib.hid (V1.out.on h2)
  have B2 := Lib.hid (bel2 B1.out h2)
  clear h2 V1 B1
  cases hg : grtR e
  rotate_left
  · clear hg
    go_wp2
    go_ret
    exact ⟨rfl, B2.out⟩
  clear hg
  go_wp2_with (first | (refine wpList_load_rowG ?_ 30 (.tmp 2) (by rfl) w.heap.size (by rfl) 30 (evC e a1 a2 a3 c1 c2 c3) (0, 0) _ V2.out.cells Try.underlying30 (by rfl) (by kernel_rfl) ?_; focus (first | rfl | (simp [Region.wanted, yielded]; done) | (simp [Region.wanted, yielded, *]; done))))
  refine (right_any e V2.out.mem.bands V2.out.mem.slots).mono ?_
  rintro r w3 ⟨rfl, h3⟩
  have V3 := Lib.hid (V2.out.on h3)
  have B3 := Lib.hid (bel2 B2.out h3)
  clear h3 V2 B2
  cases hr : rightR e
  · clear hr
    go_wp2
    go_ret
    exact ⟨rfl, B3.out⟩
  have HR := Lib.hid hr
  have HK := Lib.hid (right_kind hr)
  clear hr
  obtain ⟨w4, e4, x4, b4⟩ := new_var V3.out.mem
  have HE := Lib.hid e4
  have X4 := Lib.hid x4
  have V4 := Lib.hid (V3.out.on b4)
  have B4 := Lib.hid (And.intro (bel2 B3.out b4) b4)
  have hlt := Lib.hid (lt_of_heap V3.out.cells)
  clear e4 x4 b4
  have k0 : w4.cell? ⟨w.heap.size, 0, none⟩ = some (.int .i64 e.kind) := evC_cell V4.out.cells 0 _ rfl
  have k1 : w4.cell? ⟨w3.heap.size, 4, none⟩ = some (.int .i64 e.id) := evC_cell X4.out.cells 4 _ rfl
  have z1 := frozen_of_row _ _ 4 _ _ X4.out.cells
  have k2 : (w4.setCell ⟨w3.heap.size, 4, none⟩ (.int .i64 1)).cell? ⟨w.heap.size, 0, none⟩ = some (.int .i64 e.kind) := cell_set_far k0 (by have := hlt.out; show w.heap.size ≠ w3.heap.size; omega)
  have hb5 : Below w3.heap.size w3 (w4.setCell ⟨w3.heap.size, 4, none⟩ (.int .i64 1)) := B4.out.2.setCell (p := ⟨w3.heap.size, 4, none⟩) (Nat.le_refl _) _
  have M5 := Lib.hid (And.intro (V3.out.mem.bands.on hb5) (V3.out.mem.slots.on hb5))
  have B5 := Lib.hid (bel2 B3.out hb5)
  have H5 := Lib.hid (set_cell (j := 4) (v := .int .i64 1) (cs' := evC { e with id := 1 } a1 a2 a3 c1 c2 c3) X4.out.cells rfl)
  clear hb5
  by_cases q0 : e.kind = 3
  · have n0 : (e.kind == 3) = true := by simpa using q0
    have HO : Hid (rightR { e with id := 1 } = true) := by show _ = _; rw [own_id HR.out]; simp [q0]
    have HQ := Lib.hid q0
    clear q0
    go_wp2_with (first | (refine wpList_load_row (by rfl) 30 (.tmp 2) (by rfl) w.heap.size (by rfl) 30 (evC e a1 a2 a3 c1 c2 c3) (0, 0) _ V3.out.cells Try.underlying30 (by rfl) (by kernel_rfl) ?_) | (refine wpList_store_mid (by rfl) 30 (.tmp 6) (.tmp 17) (by rfl) w3.heap.size 0 (evC e a1 a2 a3 c1 c2 c3) (by rfl) (by rfl) (there_new _ _) (by kernel_rfl) (by kernel_rfl) ?_; rw [HE.out]) | (refine wpList_load_rowG ?_ 30 (.tmp 6) (by rfl) w3.heap.size (by rfl) 30 (evC { e with id := 1 } a1 a2 a3 c1 c2 c3) (0, 0) _ H5.out Try.underlying30 (by rfl) (by kernel_rfl) ?_; focus (first | rfl | (simp [Region.wanted, yielded]; done) | (simp [Region.wanted, yielded, *]; done))))
    refine (right_any { e with id := 1 } (a1 := a1) (a2 := a2) (a3 := a3) (c1 := c1) (c2 := c2) (c3 := c3) M5.out.1 M5.out.2).mono ?_
    rintro r w6 ⟨rfl, h6⟩
    rw [HO.out]
    have B6 := Lib.hid (bel2 B5.out h6)
    clear h6
    go_wp2
    go_ret
    exact ⟨rfl, B6.out⟩
  have n0 : (e.kind == 3) = false := by simpa using q0
  by_cases q1 : e.kind = 6
  · have n1 : (e.kind == 6) = true := by simpa using q1
    have HO : Hid (rightR { e with id := 1 } = true) := by show _ = _; rw [own_id HR.out]; simp [q1]
    have HQ := Lib.hid q1
    clear q1
    go_wp2_with (first | (refine wpList_load_row (by rfl) 30 (.tmp 2) (by rfl) w.heap.size (by rfl) 30 (evC e a1 a2 a3 c1 c2 c3) (0, 0) _ V3.out.cells Try.underlying30 (by rfl) (by kernel_rfl) ?_) | (refine wpList_store_mid (by rfl) 30 (.tmp 6) (.tmp 17) (by rfl) w3.heap.size 0 (evC e a1 a2 a3 c1 c2 c3) (by rfl) (by rfl) (there_new _ _) (by kernel_rfl) (by kernel_rfl) ?_; rw [HE.out]) | (refine wpList_load_rowG ?_ 30 (.tmp 6) (by rfl) w3.heap.size (by rfl) 30 (evC { e with id := 1 } a1 a2 a3 c1 c2 c3) (0, 0) _ H5.out Try.underlying30 (by rfl) (by kernel_rfl) ?_; focus (first | rfl | (simp [Region.wanted, yielded]; done) | (simp [Region.wanted, yielded, *]; done))))
    refine (right_any { e with id := 1 } (a1 := a1) (a2 := a2) (a3 := a3) (c1 := c1) (c2 := c2) (c3 := c3) M5.out.1 M5.out.2).mono ?_
    rintro r w6 ⟨rfl, h6⟩
    rw [HO.out]
    have B6 := Lib.hid (bel2 B5.out h6)
    clear h6
    go_wp2
    go_ret
    exact ⟨rfl, B6.out⟩
  have n1 : (e.kind == 6) = false := by simpa using q1
  by_cases q2 : e.kind = 7
  · have n2 : (e.kind == 7) = true := by simpa using q2
    have HO : Hid (rightR { e with id := 1 } = true) := by show _ = _; rw [own_id HR.out]; simp [q2]
    have HQ := Lib.hid q2
    clear q2
    go_wp2_with (first | (refine wpList_load_row (by rfl) 30 (.tmp 2) (by rfl) w.heap.size (by rfl) 30 (evC e a1 a2 a3 c1 c2 c3) (0, 0) _ V3.out.cells Try.underlying30 (by rfl) (by kernel_rfl) ?_) | (refine wpList_store_mid (by rfl) 30 (.tmp 6) (.tmp 17) (by rfl) w3.heap.size 0 (evC e a1 a2 a3 c1 c2 c3) (by rfl) (by rfl) (there_new _ _) (by kernel_rfl) (by kernel_rfl) ?_; rw [HE.out]) | (refine wpList_load_rowG ?_ 30 (.tmp 6) (by rfl) w3.heap.size (by rfl) 30 (evC { e with id := 1 } a1 a2 a3 c1 c2 c3) (0, 0) _ H5.out Try.underlying30 (by rfl) (by kernel_rfl) ?_; focus (first | rfl | (simp [Region.wanted, yielded]; done) | (simp [Region.wanted, yielded, *]; done))))
    refine (right_any { e with id := 1 } (a1 := a1) (a2 := a2) (a3 := a3) (c1 := c1) (c2 := c2) (c3 := c3) M5.out.1 M5.out.2).mono ?_
    rintro r w6 ⟨rfl, h6⟩
    rw [HO.out]
    have B6 := Lib.hid (bel2 B5.out h6)
    clear h6
    go_wp2
    go_ret
    exact ⟨rfl, B6.out⟩
  have n2 : (e.kind == 7) = false := by simpa using q2
  have HO : Hid (rightR { e with id := 1 } = false) := by show _ = _; rw [own_id HR.out]; simp [q0, q1, q2]
  clear q0 q1 q2
  go_wp2_with (first | (refine wpList_load_row (by rfl) 30 (.tmp 2) (by rfl) w.heap.size (by rfl) 30 (evC e a1 a2 a3 c1 c2 c3) (0, 0) _ V3.out.cells Try.underlying30 (by rfl) (by kernel_rfl) ?_) | (refine wpList_store_mid (by rfl) 30 (.tmp 6) (.tmp 17) (by rfl) w3.heap.size 0 (evC e a1 a2 a3 c1 c2 c3) (by rfl) (by rfl) (there_new _ _) (by kernel_rfl) (by kernel_rfl) ?_; rw [HE.out]) | (refine wpList_load_rowG ?_ 30 (.tmp 6) (by rfl) w3.heap.size (by rfl) 30 (evC { e with id := 1 } a1 a2 a3 c1 c2 c3) (0, 0) _ H5.out Try.underlying30 (by rfl) (by kernel_rfl) ?_; focus (first | rfl | (simp [Region.wanted, yielded]; done) | (simp [Region.wanted, yielded, *]; done))))
  refine (right_any { e with id := 1 } (a1 := a1) (a2 := a2) (a3 := a3) (c1 := c1) (c2 := c2) (c3 := c3) M5.out.1 M5.out.2).mono ?_
  rintro r w6 ⟨rfl, h6⟩
  rw [HO.out]
  have B6 := Lib.hid (bel2 B5.out h6)
  clear h6
  go_wp2
  go_ret
  exact ⟨rfl, B6.out⟩
theorem eventOwn_walk {w : World} {a1 a2 a3 : Option Addr} {c1 c2 c3 : Nat} (e : Ev) (hm : EvM w a1 a2 a3 c1 c2 c3 e) (k : Int) (hk : 0 ≤ k ∧ k ≤ 255) :
    Calls Try.prog 6 #[evV e a1 a2 a3 c1 c2 c3, .int .u8 k] w fun r w' => r = .returned (.bool true) ∧ Below w.heap.size w w' := by
  have h6 : k % 6 = 0 ∨ k % 6 = 1 ∨ k % 6 = 2 ∨ k % 6 = 3 ∨ k % 6 = 4 ∨ k % 6 = 5 := by omega
  rcases h6 with h | h | h | h | h | h
  · exact eventOwn_0 e hm k hk h
  · exact eventOwn_1 e hm k hk h
  · exact eventOwn_2 e hm k hk h
  · exact eventOwn_3 e hm k hk h
  · exact eventOwn_4 e hm k hk h
  · exact eventOwn_5 e hm k hk h
end Go.Proofs.Ytjhondlcnpappaa
