/- What the statements of limit ask; the live question. -/
import Derived.Test.YtllphglhkpcclaaLiP
import Derived.Test.YtllphglhkpcclaaEwE
import Derived.Deep.CutRange
import Derived.Deep.RegionHeld
namespace Go.Proofs.Ytllphglhkpcclaa
set_option linter.unusedSimpArgs false
set_option linter.unusedVariables false
open Go.RowKit
open Wir Evn Lim
attribute [local go_sem] Oper.semAt_some

theorem linto_l {c : Cf} (hok : COk c) (hc hl : Int) (hg : Bool) (w : World) (N : Int) (h : bnd c hc = N) :
    Calls Try.prog 12 #[cfV c, .agg #[.int .i64 hc, .int .i64 hl, .bool hg]] w fun r w' => r = .returned (.agg #[.int .i64 N, .int .i64 hl, .bool hg]) ∧ Below w.heap.size w w' := by
  have := linto_any hok (hc, hl, hg) w
  unfold into at this
  rw [show bnd c (hc, hl, hg).1 = N from h] at this
  exact this
theorem lnext_l {c : Cf} (hok : COk c) (hc hl : Int) (hg : Bool) (want now : Int) (ht : (0 ≤ hl ∧ hl ≤ 1099511627776) ∧ 0 ≤ now ∧ now ≤ 1099511627776) (w : World) (zc zl : Int) (zg : Bool) (h : nxt c (hc, hl, hg) want now = (zc, zl, zg)) :
    Calls Try.prog 14 #[cfV c, .agg #[.int .i64 hc, .int .i64 hl, .bool hg], .int .i64 want, .int .i64 now] w fun r w' => r = .returned (.agg #[.int .i64 zc, .int .i64 zl, .bool zg]) ∧ Below w.heap.size w w' := by
  have := lnext_any hok (hc, hl, hg) want now ht w
  rw [h] at this
  exact this
theorem lrinto_l (c : Cf) (hc hl : Int) (hg : Bool) (w : World) (N : Int) (h : bnd c hc = N) :
    Calls Try.prog 13 #[cfV c, .agg #[.int .i64 hc, .int .i64 hl, .bool hg]] w fun r w' => r = .returned (.agg #[.int .i64 N, .int .i64 hl, .bool hg]) ∧ Below w.heap.size w w' := by
  have := lrinto_any c (hc, hl, hg) w
  unfold into at this
  rw [show bnd c (hc, hl, hg).1 = N from h] at this
  exact this
theorem lrnext_l {c : Cf} (hok : COk c) (hc hl : Int) (hg : Bool) (want now : Int) (ht : (0 ≤ hl ∧ hl ≤ 1099511627776) ∧ 0 ≤ now ∧ now ≤ 1099511627776) (w : World) (zc zl : Int) (zg : Bool) (h : nxt c (hc, hl, hg) want now = (zc, zl, zg)) :
    Calls Try.prog 15 #[cfV c, .agg #[.int .i64 hc, .int .i64 hl, .bool hg], .int .i64 want, .int .i64 now] w fun r w' => r = .returned (.agg #[.int .i64 zc, .int .i64 zl, .bool zg]) ∧ Below w.heap.size w w' := by
  have := lrnext_any hok (hc, hl, hg) want now ht w
  rw [h] at this
  exact this
theorem hold_at {w : World} {g : Nat} {a b : Int} {d : Bool} (h : w.heap[g]? = some (.cells #[.int .i64 a, .int .i64 b, .bool d] 25 (0, 0))) : HdAt w g (a, b, d) := h
theorem field_hold (a b : Int) (d : Bool) (w : World) : (Instr.field 25 (.agg #[.int .i64 a, .int .i64 b, .bool d]) 0).run Try.prog w = .ok (.int .i64 a) w := by kernel_rfl
def plainC : Cf := ⟨1, 20, 4, 3, 100, 1, 50, 4, 2, 1, 3, 1⟩
theorem plainC_ok : COk plainC := COk.of (by decide)
theorem lplain_any (w : World) :
    Calls Try.prog 16 #[] w fun r w' => r = .returned (cfV plainC) ∧ Below w.heap.size w w' := by
  go_enter Try.func16, Try.ntmps16
  go_wp2
  refine bodyPost_ret (results_cell_row rfl _ _ (w.heap.size) _ _ _ _ rfl (heap_alloc_new _ _) Try.underlying23 (by rfl) (by kernel_rfl)) (by rfl) ?_
  exact ⟨rfl, bel1 (Below.refl _ _) _⟩
theorem ltime_any (t : Int) (w : World) :
    Calls Try.prog 11 #[.int .i64 t] w fun r w' => r = .returned (.bool (decide (0 ≤ t ∧ t ≤ 1099511627776))) ∧ w' = w := by
  by_cases h1 : 0 ≤ t
  · by_cases h2 : t ≤ 1099511627776
    · rw [decide_eq_true ⟨h1, h2⟩]
      go_enter Try.func11, Try.ntmps11
      go_wp2
      go_ret
      exact ⟨rfl, rfl⟩
    · rw [decide_eq_false (fun h => h2 h.2)]
      have h3 : 1099511627776 < t := by omega
      go_enter Try.func11, Try.ntmps11
      go_wp2
      go_ret
      exact ⟨rfl, rfl⟩
  · rw [decide_eq_false (fun h => h1 h.1)]
    have h3 : t < 0 := by omega
    go_enter Try.func11, Try.ntmps11
    go_wp2
    go_ret
    exact ⟨rfl, rfl⟩
set_option maxRecDepth 100000 in
set_option maxHeartbeats 3200000 in
theorem lhead_any (w : World) :
    Calls Try.prog 9 #[] w fun r w' => r = .returned (.bool true) ∧ Below w.heap.size w w' := by
  go_enter Try.func9, Try.ntmps9
  go_wp2_with fail
  refine (lplain_any _).mono ?_
  rintro r v0 ⟨rfl, b⟩
  unfold cfV plainC
  simp only
  have B := Lib.hid b
  clear b
  go_upto_region 2 with fail
  obtain ⟨w0, hw⟩ : ∃ w0, w0 = v0.alloc (.cells #[.int .i64 1, .int .i64 20, .int .i64 4, .int .i64 3, .int .i64 100, .int .i64 1, .int .i64 50, .int .i64 4, .int .i64 2, .int .i64 1, .int .i64 3, .int .i64 1] 23) := ⟨_, rfl⟩
  rw [← hw]
  have HP : Hid (CBx w0 v0.heap.size plainC) := by show CBx _ _ _; rw [hw]; exact heap_alloc_new _ _
  have B : Hid (Below w.heap.size w w0) := by show Below _ _ _; rw [hw]; exact bel1 B.out _
  clear hw
  go_wp2_with (first
    | (refine wpList_load_rowG (by first | rfl | kernel_rfl | (simp [Region.wanted, yielded])) 23 (.tmp 1) (by rfl) (v0.heap.size) (by rfl) 23 _ (0, 0) _ HP.out Try.underlying23 (by rfl) (by kernel_rfl) ?_)
    | fail)
  refine (lnext_l plainC_ok 4 0 false 9 10 (by decide) _ 8 10 true (by decide)).mono ?_
  rintro r v1 ⟨rfl, b⟩
  have HP := Lib.hid (HP.out.on b)
  have b9 := b
  have B := Lib.hid (bel2 B.out b)
  clear b b9
  go_upto_region 3 with fail
  obtain ⟨w1, hw⟩ : ∃ w1, w1 = v1.alloc (.cells #[.int .i64 8, .int .i64 10, .bool true] 25) := ⟨_, rfl⟩
  rw [← hw]
  have b : Below v1.heap.size v1 w1 := by rw [hw]; exact bel1 (Below.refl _ _) _
  have S1 : Hid (HdAt w1 v1.heap.size (8, 10, true)) := by show HdAt _ _ _; rw [hw]; exact heap_alloc_new _ _
  have HP := Lib.hid (HP.out.on b)
  have B := Lib.hid (bel2 B.out b)
  clear hw b
  obtain ⟨cs0, cs1, cs2⟩ := HdAt.c S1.out
  go_wp2_with (first
    | (refine wpList_load_rowG (by first | rfl | kernel_rfl | (simp [Region.wanted, yielded])) 23 (.tmp 1) (by rfl) (v0.heap.size) (by rfl) 23 _ (0, 0) _ HP.out Try.underlying23 (by rfl) (by kernel_rfl) ?_)
    | fail)
  refine (lnext_l plainC_ok 8 10 true 1 12 (by decide) _ 8 10 true (by decide)).mono ?_
  rintro r v2 ⟨rfl, b⟩
  clear cs0 cs1 cs2
  have HP := Lib.hid (HP.out.on b)
  have S1 := Lib.hid (S1.out.on b)
  have b9 := b
  have B := Lib.hid (bel2 B.out b)
  clear b b9
  go_upto_region 4 with fail
  obtain ⟨w2, hw⟩ : ∃ w2, w2 = v2.alloc (.cells #[.int .i64 8, .int .i64 10, .bool true] 25) := ⟨_, rfl⟩
  rw [← hw]
  have b : Below v2.heap.size v2 w2 := by rw [hw]; exact bel1 (Below.refl _ _) _
  have S2 : Hid (HdAt w2 v2.heap.size (8, 10, true)) := by show HdAt _ _ _; rw [hw]; exact heap_alloc_new _ _
  have HP := Lib.hid (HP.out.on b)
  have S1 := Lib.hid (S1.out.on b)
  have B := Lib.hid (bel2 B.out b)
  clear hw b
  obtain ⟨cs0, cs1, cs2⟩ := HdAt.c S2.out
  go_wp2_with (first
    | (refine wpList_load_rowG (by first | rfl | kernel_rfl | (simp [Region.wanted, yielded])) 23 (.tmp 1) (by rfl) (v0.heap.size) (by rfl) 23 _ (0, 0) _ HP.out Try.underlying23 (by rfl) (by kernel_rfl) ?_)
    | fail)
  refine (lnext_l plainC_ok 8 10 true 1 13 (by decide) _ 4 10 true (by decide)).mono ?_
  rintro r v3 ⟨rfl, b⟩
  clear cs0 cs1 cs2
  have HP := Lib.hid (HP.out.on b)
  have S1 := Lib.hid (S1.out.on b)
  have S2 := Lib.hid (S2.out.on b)
  have b9 := b
  have B := Lib.hid (bel2 B.out b)
  clear b b9
  go_upto_region 5 with fail
  obtain ⟨w3, hw⟩ : ∃ w3, w3 = v3.alloc (.cells #[.int .i64 4, .int .i64 10, .bool true] 25) := ⟨_, rfl⟩
  rw [← hw]
  have b : Below v3.heap.size v3 w3 := by rw [hw]; exact bel1 (Below.refl _ _) _
  have S3 : Hid (HdAt w3 v3.heap.size (4, 10, true)) := by show HdAt _ _ _; rw [hw]; exact heap_alloc_new _ _
  have HP := Lib.hid (HP.out.on b)
  have S1 := Lib.hid (S1.out.on b)
  have S2 := Lib.hid (S2.out.on b)
  have B := Lib.hid (bel2 B.out b)
  clear hw b
  obtain ⟨cs0, cs1, cs2⟩ := HdAt.c S3.out
  go_wp2_with (first
    | (refine wpList_load_rowG (by first | rfl | kernel_rfl | (simp [Region.wanted, yielded])) 23 (.tmp 1) (by rfl) (v0.heap.size) (by rfl) 23 _ (0, 0) _ HP.out Try.underlying23 (by rfl) (by kernel_rfl) ?_)
    | fail)
  refine (lnext_l plainC_ok 4 10 true 500 13 (by decide) _ 8 13 true (by decide)).mono ?_
  rintro r v4 ⟨rfl, b⟩
  clear cs0 cs1 cs2
  have HP := Lib.hid (HP.out.on b)
  have S1 := Lib.hid (S1.out.on b)
  have S2 := Lib.hid (S2.out.on b)
  have S3 := Lib.hid (S3.out.on b)
  have b9 := b
  have B := Lib.hid (bel2 B.out b)
  clear b b9
  go_upto_region 6 with fail
  obtain ⟨w4, hw⟩ : ∃ w4, w4 = v4.alloc (.cells #[.int .i64 8, .int .i64 13, .bool true] 25) := ⟨_, rfl⟩
  rw [← hw]
  have b : Below v4.heap.size v4 w4 := by rw [hw]; exact bel1 (Below.refl _ _) _
  have S4 : Hid (HdAt w4 v4.heap.size (8, 13, true)) := by show HdAt _ _ _; rw [hw]; exact heap_alloc_new _ _
  have HP := Lib.hid (HP.out.on b)
  have S1 := Lib.hid (S1.out.on b)
  have S2 := Lib.hid (S2.out.on b)
  have S3 := Lib.hid (S3.out.on b)
  have B := Lib.hid (bel2 B.out b)
  clear hw b
  obtain ⟨c00, c01, c02⟩ := HdAt.c S1.out
  obtain ⟨c10, c11, c12⟩ := HdAt.c S2.out
  obtain ⟨c20, c21, c22⟩ := HdAt.c S3.out
  obtain ⟨c30, c31, c32⟩ := HdAt.c S4.out
  have hfd := field_hold
  go_wp2_with (first
    | (refine wpList_load_rowG (by first | rfl | kernel_rfl | (simp [Region.wanted, yielded])) 23 (.tmp 1) (by rfl) (v0.heap.size) (by rfl) 23 _ (0, 0) _ HP.out Try.underlying23 (by rfl) (by kernel_rfl) ?_)
    | fail)
  refine (linto_l plainC_ok 99 0 false _ 20 (by decide)).mono ?_
  rintro r v5 ⟨rfl, b⟩
  have HP := Lib.hid (HP.out.on b)
  have B := Lib.hid (bel2 B.out b)
  clear b c00 c01 c02 c10 c11 c12 c20 c21 c22 c30 c31 c32
  go_wp2_with (first
    | (refine wpList_load_rowG (by first | rfl | kernel_rfl | (simp [Region.wanted, yielded])) 23 (.tmp 1) (by rfl) (v0.heap.size) (by rfl) 23 _ (0, 0) _ HP.out Try.underlying23 (by rfl) (by kernel_rfl) ?_)
    | fail)
  refine (linto_l plainC_ok 0 0 false _ 1 (by decide)).mono ?_
  rintro r v6 ⟨rfl, b⟩
  have B := Lib.hid (bel2 B.out b)
  clear b
  go_wp2
  go_ret
  exact ⟨rfl, B.out⟩
end Go.Proofs.Ytllphglhkpcclaa
