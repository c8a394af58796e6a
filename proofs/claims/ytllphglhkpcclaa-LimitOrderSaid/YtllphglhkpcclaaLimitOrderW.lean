/- LimitOrder: the walk. -/
import Derived.Test.YtllphglhkpcclaaLiC
import Derived.Test.YtllphglhkpcclaaInts
import Derived.Deep.RegionHeld
import Derived.Deep.CutRange
import Derived.Lib.MinMax
namespace Go.Proofs.Ytllphglhkpcclaa
set_option linter.unusedSimpArgs false
set_option linter.unusedVariables false
open Go.RowKit
open Wir Evn Lim
attribute [local go_sem] Oper.semAt_some

set_option maxRecDepth 100000 in
set_option maxHeartbeats 3200000 in
theorem limitOrder_walk (c : Cf) (hc hl : Int) (hg : Bool) (m o t : Int) (b16 : -32768 ≤ m ∧ m ≤ 32767) (bo : 0 ≤ o ∧ o ≤ 65535) (bt : 0 ≤ t ∧ t ≤ 65535) (w : World) :
    Calls Try.prog 7 #[cfV c, .agg #[.int .i64 hc, .int .i64 hl, .bool hg], .int .i16 m, .int .u16 o, .int .u16 t] w fun r w' => r = .returned (.bool true) ∧ Below w.heap.size w w' := by
  obtain ⟨hB, hP, hS⟩ := two w c (hc, hl, hg)
  obtain ⟨x, hx⟩ : ∃ x, x = (w.alloc (.cells #[.int .i64 c.min, .int .i64 c.max, .int .i64 c.rate, .int .i64 c.stable, .int .i64 c.cap, .int .i64 c.delay, .int .i64 c.slack, .int .i64 c.window, .int .i64 c.margin, .int .i64 c.ceil, .int .i64 c.probe, .int .i64 c.breach] 23)).alloc (.cells #[.int .i64 hc, .int .i64 hl, .bool hg] 25) := ⟨_, rfl⟩
  simp only at hB hP hS
  rw [← hx] at hB hP hS
  have HB := Lib.hid hB
  have HP := Lib.hid hP
  have HS := Lib.hid hS
  have HX := Lib.hid hx
  clear hB hP hS hx
  unfold cfV
  go_enter Try.func7, Try.ntmps7
  go_wp2_with fail
  rw [← HX.out]
  refine (lhead_any _).mono ?_
  rintro r w1 ⟨rfl, b⟩
  clear HX
  have HP := Lib.hid (HP.out.on b)
  have HS := Lib.hid (HS.out.on b)
  have HB := Lib.hid (bel2 HB.out b)
  clear b
  go_wp2_with (first
    | (refine wpList_load_rowG (by first | rfl | kernel_rfl | (simp [Region.wanted, yielded])) 23 (.tmp 5) (by rfl) (w.heap.size) (by rfl) 23 _ (0, 0) _ HP.out Try.underlying23 (by rfl) (by kernel_rfl) ?_)
    | fail)
  refine (dconf_any c _).mono ?_
  rintro r w2 ⟨rfl, b⟩
  have HP := Lib.hid (HP.out.on b)
  have HS := Lib.hid (HS.out.on b)
  have HB := Lib.hid (bel2 HB.out b)
  clear b
  cases hr : confR c
  · clear hr
    go_wp2
    go_ret
    exact ⟨rfl, HB.out⟩
  have HC := Lib.hid (COk.of hr)
  clear hr
  obtain ⟨cs0, cs1, cs2⟩ := HdAt.c HS.out
  go_wp2_with fail
  refine (ltime_any hl _).mono ?_
  rintro r w9 ⟨rfl, h9⟩
  obtain rfl := h9.symm
  by_cases hl1 : 0 ≤ hl ∧ hl ≤ 1099511627776
  rotate_left
  · rw [decide_eq_false hl1]
    go_wp2
    go_ret
    exact ⟨rfl, HB.out⟩
  rw [decide_eq_true hl1]
  have hl1' := Lib.hid hl1
  clear hl1
  clear cs0 cs1 cs2
  have wm : IntKind.i64.wrap m = m := by rw [IntKind.wrap_i64]; omega
  have wo : IntKind.i64.wrap o = o := by rw [IntKind.wrap_i64]; omega
  have wt : IntKind.i64.wrap t = t := by rw [IntKind.wrap_i64]; omega
  obtain ⟨M, hM⟩ : ∃ M, m + o = M := ⟨_, rfl⟩
  have wM : IntKind.i64.wrap M = M := by rw [← hM, IntKind.wrap_i64]; omega
  have HT : Hid ((0 ≤ hl ∧ hl ≤ 1099511627776) ∧ 0 ≤ t ∧ t ≤ 1099511627776) := ⟨hl1'.out, by omega⟩
  have hmm : m ≤ M := by omega
  have HMM := Lib.hid hmm
  clear hmm b16 bo bt
  obtain ⟨ac, al, ag, ha⟩ : ∃ a b d, nxt c (hc, hl, hg) m t = (a, b, d) := ⟨_, _, _, rfl⟩
  obtain ⟨bc, bl, bg, hb⟩ : ∃ a b d, nxt c (hc, hl, hg) M t = (a, b, d) := ⟨_, _, _, rfl⟩
  have HA := Lib.hid ha
  have HBq := Lib.hid hb
  clear ha hb
  obtain ⟨cs0, cs1, cs2⟩ := HdAt.c HS.out
  go_wp2_with (first
    | (refine wpList_load_rowG (by first | rfl | kernel_rfl | (simp [Region.wanted, yielded])) 23 (.tmp 5) (by rfl) (w.heap.size) (by rfl) 23 _ (0, 0) _ HP.out Try.underlying23 (by rfl) (by kernel_rfl) ?_)
    | fail)
  refine (lnext_l HC.out hc hl hg (m) (t) HT.out _ ac al ag HA.out).mono ?_
  rintro r v9 ⟨rfl, b⟩
  clear cs0 cs1 cs2
  have HP := Lib.hid (HP.out.on b)
  have HS := Lib.hid (HS.out.on b)
  have HB := Lib.hid (bel2 HB.out b)
  clear b
  go_upto_region 5 with fail
  have b := bel1 (Below.refl v9.heap.size v9) (.cells #[.int .i64 ac, .int .i64 al, .bool ag] 25)
  have V1 : Hid (HdAt (v9.alloc (.cells #[.int .i64 ac, .int .i64 al, .bool ag] 25)) v9.heap.size (ac, al, ag)) := heap_alloc_new _ _
  have V1l : Hid (w.heap.size + 1 < v9.heap.size) := lt_of_heap HS.out
  obtain ⟨V1g, hg9⟩ : ∃ g, g = v9.heap.size := ⟨_, rfl⟩
  rw [← hg9] at V1 V1l ⊢
  have HP := Lib.hid (HP.out.on b)
  have HS := Lib.hid (HS.out.on b)
  have HB := Lib.hid (bel2 HB.out b)
  clear b
  generalize v9.alloc (.cells #[.int .i64 ac, .int .i64 al, .bool ag] 25) = w9 at *
  clear hg9
  obtain ⟨cs0, cs1, cs2⟩ := HdAt.c HS.out
  go_wp2_with (first
    | (refine wpList_load_rowG (by first | rfl | kernel_rfl | (simp [Region.wanted, yielded])) 23 (.tmp 5) (by rfl) (w.heap.size) (by rfl) 23 _ (0, 0) _ HP.out Try.underlying23 (by rfl) (by kernel_rfl) ?_)
    | fail)
  refine (lnext_l HC.out hc hl hg (M) (t) HT.out _ bc bl bg HBq.out).mono ?_
  rintro r v9 ⟨rfl, b⟩
  clear cs0 cs1 cs2
  have HP := Lib.hid (HP.out.on b)
  have HS := Lib.hid (HS.out.on b)
  have V1 := Lib.hid (V1.out.on b)
  have HB := Lib.hid (bel2 HB.out b)
  clear b
  go_upto_region 6 with fail
  have b := bel1 (Below.refl v9.heap.size v9) (.cells #[.int .i64 bc, .int .i64 bl, .bool bg] 25)
  have V2 : Hid (HdAt (v9.alloc (.cells #[.int .i64 bc, .int .i64 bl, .bool bg] 25)) v9.heap.size (bc, bl, bg)) := heap_alloc_new _ _
  have V2l : Hid (w.heap.size + 1 < v9.heap.size) := lt_of_heap HS.out
  obtain ⟨V2g, hg9⟩ : ∃ g, g = v9.heap.size := ⟨_, rfl⟩
  rw [← hg9] at V2 V2l ⊢
  have HP := Lib.hid (HP.out.on b)
  have HS := Lib.hid (HS.out.on b)
  have V1 := Lib.hid (V1.out.on b)
  have HB := Lib.hid (bel2 HB.out b)
  clear b
  generalize v9.alloc (.cells #[.int .i64 bc, .int .i64 bl, .bool bg] 25) = w9 at *
  clear hg9
  have hi := into_in HC.out (hc, hl, hg)
  have hle : ac ≤ bc := by have := to_mono HC.out (t := t) hi.1 hi.2 HMM.out; have h1 := HA.out; have h2 := HBq.out; unfold nxt at h1 h2; rw [h1, h2] at this; exact this
  have heq : ac = bc → al = bl ∧ ag = bg := by
    intro e
    have h1 := HA.out
    have h2 := HBq.out
    unfold nxt at h1 h2
    have := to_eq (c := c) (g := into c (hc, hl, hg)) (v := m) (w := M) (t := t) (by rw [h1, h2]; exact e)
    rw [h1, h2] at this
    simp only [Prod.mk.injEq] at this
    exact this.2
  clear hi
  obtain ⟨ca0, ca1, ca2⟩ := HdAt.c V1.out
  obtain ⟨cb0, cb1, cb2⟩ := HdAt.c V2.out
  clear wm wo wt wM hM
  by_cases e : ac = bc
  · obtain ⟨rfl, rfl⟩ := heq e
    subst e
    go_wp2
    go_ret
    exact ⟨rfl, HB.out⟩
  · clear heq
    have e2 : (ac == bc) = false := by simpa using e
    have e3 : (ac != bc) = true := by simpa using e
    go_wp2
    go_ret
    exact ⟨rfl, HB.out⟩
end Go.Proofs.Ytllphglhkpcclaa
