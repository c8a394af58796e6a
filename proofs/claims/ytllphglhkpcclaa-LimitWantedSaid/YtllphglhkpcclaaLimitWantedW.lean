/- LimitWanted: the walk. -/
import Derived.Test.YtllphglhkpcclaaLiC
import Derived.Test.YtllphglhkpcclaaInts
import Derived.Deep.RegionHeld
import Derived.Deep.CutRange
import Derived.Lib.MinMax
namespace Go.Proofs.Ytllphglhkpcclaa
set_option linter.unusedSimpArgs false
set_option linter.unusedVariables false
open Go.RowKit
open Wir Evn Lim
attribute [local go_sem] Oper.semAt_some

set_option maxRecDepth 100000 in
set_option maxHeartbeats 3200000 in
theorem limitWanted_walk (c : Cf) (hc hl : Int) (hg : Bool) (m t : Int) (b16 : -32768 ≤ m ∧ m ≤ 32767) (bt : 0 ≤ t ∧ t ≤ 65535) (w : World) :
    Calls Try.prog 6 #[cfV c, .agg #[.int .i64 hc, .int .i64 hl, .bool hg], .int .i16 m, .int .u16 t] w fun r w' => r = .returned (.bool true) ∧ Below w.heap.size w w' := by
  obtain ⟨hB, hP, hS⟩ := two w c (hc, hl, hg)
  obtain ⟨x, hx⟩ : ∃ x, x = (w.alloc (.cells #[.int .i64 c.min, .int .i64 c.max, .int .i64 c.rate, .int .i64 c.stable, .int .i64 c.cap, .int .i64 c.delay, .int .i64 c.slack, .int .i64 c.window, .int .i64 c.margin, .int .i64 c.ceil, .int .i64 c.probe, .int .i64 c.breach] 23)).alloc (.cells #[.int .i64 hc, .int .i64 hl, .bool hg] 25) := ⟨_, rfl⟩
  simp only at hB hP hS
  rw [← hx] at hB hP hS
  have HB := Lib.hid hB
  have HP := Lib.hid hP
  have HS := Lib.hid hS
  have HX := Lib.hid hx
  clear hB hP hS hx
  unfold cfV
  go_enter Try.func6, Try.ntmps6
  go_wp2_with fail
  rw [← HX.out]
  refine (lhead_any _).mono ?_
  rintro r w1 ⟨rfl, b⟩
  clear HX
  have HP := Lib.hid (HP.out.on b)
  have HS := Lib.hid (HS.out.on b)
  have HB := Lib.hid (bel2 HB.out b)
  clear b
  go_wp2_with (first
    | (refine wpList_load_rowG (by first | rfl | kernel_rfl | (simp [Region.wanted, yielded])) 23 (.tmp 4) (by rfl) (w.heap.size) (by rfl) 23 _ (0, 0) _ HP.out Try.underlying23 (by rfl) (by kernel_rfl) ?_)
    | fail)
  refine (dconf_any c _).mono ?_
  rintro r w2 ⟨rfl, b⟩
  have HP := Lib.hid (HP.out.on b)
  have HS := Lib.hid (HS.out.on b)
  have HB := Lib.hid (bel2 HB.out b)
  clear b
  cases hr : confR c
  · clear hr
    go_wp2
    go_ret
    exact ⟨rfl, HB.out⟩
  have HC := Lib.hid (COk.of hr)
  clear hr
  obtain ⟨cs0, cs1, cs2⟩ := HdAt.c HS.out
  go_wp2_with fail
  refine (ltime_any hl _).mono ?_
  rintro r w9 ⟨rfl, h9⟩
  obtain rfl := h9.symm
  by_cases hl1 : 0 ≤ hl ∧ hl ≤ 1099511627776
  rotate_left
  · rw [decide_eq_false hl1]
    go_wp2
    go_ret
    exact ⟨rfl, HB.out⟩
  rw [decide_eq_true hl1]
  have hl1' := Lib.hid hl1
  clear hl1
  clear cs0 cs1 cs2
  have wm : IntKind.i64.wrap m = m := by rw [IntKind.wrap_i64]; omega
  have wt : IntKind.i64.wrap t = t := by rw [IntKind.wrap_i64]; omega
  have HT : Hid ((0 ≤ hl ∧ hl ≤ 1099511627776) ∧ 0 ≤ t ∧ t ≤ 1099511627776) := ⟨hl1'.out, by omega⟩
  obtain ⟨G, hG⟩ : ∃ N, bnd c hc = N := ⟨_, rfl⟩
  obtain ⟨I, hI⟩ : ∃ N, bnd c m = N := ⟨_, rfl⟩
  obtain ⟨zc, zl, zg, hz⟩ : ∃ a b d, nxt c (hc, hl, hg) m t = (a, b, d) := ⟨_, _, _, rfl⟩
  have g1 := bnd_le HC.out hc
  have g2 := bnd_le HC.out m
  rw [hG] at g1
  rw [hI] at g2
  have m1 := HC.out.m1
  have m3 := HC.out.m3
  have hz2 : goes c (G, hl, hg) m t = (zc, zl, zg) := by have := hz; unfold nxt into at this; rw [show bnd c (hc, hl, hg).1 = G from hG] at this; exact this
  have A1 : I < G ∧ hg = true ∧ t - hl < c.stable → zc = G ∧ zl = hl ∧ zg = hg := by
    intro h
    have := to_stays HC.out (g := (G, hl, hg)) (w := m) (t := t) g1.1 g1.2 (by rw [hI]; exact h)
    rw [hz2] at this
    simp only [Prod.mk.injEq] at this
    exact this
  have A2 : (I - G ≤ c.rate ∧ G - I ≤ c.rate) → ¬ (I < G ∧ hg = true ∧ t - hl < c.stable) → zc = I := by
    intro h1 h2
    have := to_near HC.out (g := (G, hl, hg)) (w := m) (t := t) g1.1 g1.2 (by rw [hI]; exact h1) (by rw [hI]; exact h2)
    rw [hz2, hI] at this
    exact this
  have A3 : min I G ≤ zc ∧ zc ≤ max I G := by
    have := to_between HC.out (g := (G, hl, hg)) (w := m) (t := t) g1.1 g1.2
    rw [hz2, hI] at this
    exact this
  have hI2 : min (max m c.min) c.max = I := hI
  have e1 : IntKind.i64.wrap (I - G) = I - G := by rw [IntKind.wrap_i64]; omega
  have e2 : IntKind.i64.wrap (G - I) = G - I := by rw [IntKind.wrap_i64]; omega
  have e3 : IntKind.i64.wrap (t - hl) = t - hl := by have := hl1'.out; rw [IntKind.wrap_i64]; omega
  have e4 : IntKind.i64.wrap I = I := by rw [IntKind.wrap_i64]; omega
  have hGG := Lib.hid hG
  have HZ := Lib.hid hz
  have B1 := Lib.hid A1
  have B2 := Lib.hid A2
  have B3 := Lib.hid A3
  have GI := Lib.hid hI2
  clear hG hI hz hz2 A1 A2 A3 g1 g2 m1 m3 hI2
  obtain ⟨cs0, cs1, cs2⟩ := HdAt.c HS.out
  go_wp2_with (first
    | (refine wpList_load_rowG (by first | rfl | kernel_rfl | (simp [Region.wanted, yielded])) 23 (.tmp 4) (by rfl) (w.heap.size) (by rfl) 23 _ (0, 0) _ HP.out Try.underlying23 (by rfl) (by kernel_rfl) ?_)
    | fail)
  refine (linto_l HC.out hc hl hg _ G hGG.out).mono ?_
  rintro r v9 ⟨rfl, b⟩
  clear cs0 cs1 cs2
  have HP := Lib.hid (HP.out.on b)
  have HS := Lib.hid (HS.out.on b)
  have HB := Lib.hid (bel2 HB.out b)
  clear b
  go_upto_region 5 with fail
  have b := bel1 (Below.refl v9.heap.size v9) (.cells #[.int .i64 G, .int .i64 hl, .bool hg] 25)
  have V1 : Hid (HdAt (v9.alloc (.cells #[.int .i64 G, .int .i64 hl, .bool hg] 25)) v9.heap.size (G, hl, hg)) := heap_alloc_new _ _
  have V1l : Hid (w.heap.size + 1 < v9.heap.size) := lt_of_heap HS.out
  obtain ⟨V1g, hg9⟩ : ∃ g, g = v9.heap.size := ⟨_, rfl⟩
  rw [← hg9] at V1 V1l ⊢
  have HP := Lib.hid (HP.out.on b)
  have HS := Lib.hid (HS.out.on b)
  have HB := Lib.hid (bel2 HB.out b)
  clear b
  generalize v9.alloc (.cells #[.int .i64 G, .int .i64 hl, .bool hg] 25) = w9 at *
  clear hg9
  go_upto_region 6 with fail
  obtain ⟨cs0, cs1, cs2⟩ := HdAt.c HS.out
  go_wp2_with (first
    | (refine wpList_load_rowG (by first | rfl | kernel_rfl | (simp [Region.wanted, yielded])) 23 (.tmp 4) (by rfl) (w.heap.size) (by rfl) 23 _ (0, 0) _ HP.out Try.underlying23 (by rfl) (by kernel_rfl) ?_)
    | fail)
  refine (lnext_l HC.out hc hl hg (m) (t) HT.out _ zc zl zg HZ.out).mono ?_
  rintro r v9 ⟨rfl, b⟩
  clear cs0 cs1 cs2
  have HP := Lib.hid (HP.out.on b)
  have HS := Lib.hid (HS.out.on b)
  have V1 := Lib.hid (V1.out.on b)
  have HB := Lib.hid (bel2 HB.out b)
  clear b
  go_upto_region 7 with fail
  have b := bel1 (Below.refl v9.heap.size v9) (.cells #[.int .i64 zc, .int .i64 zl, .bool zg] 25)
  have V2 : Hid (HdAt (v9.alloc (.cells #[.int .i64 zc, .int .i64 zl, .bool zg] 25)) v9.heap.size (zc, zl, zg)) := heap_alloc_new _ _
  have V2l : Hid (w.heap.size + 1 < v9.heap.size) := lt_of_heap HS.out
  obtain ⟨V2g, hg9⟩ : ∃ g, g = v9.heap.size := ⟨_, rfl⟩
  rw [← hg9] at V2 V2l ⊢
  have HP := Lib.hid (HP.out.on b)
  have HS := Lib.hid (HS.out.on b)
  have V1 := Lib.hid (V1.out.on b)
  have HB := Lib.hid (bel2 HB.out b)
  clear b
  generalize v9.alloc (.cells #[.int .i64 zc, .int .i64 zl, .bool zg] 25) = w9 at *
  clear hg9
  have hf0 := (cell_of_row _ _ 0 _ _ _ HP.out).trans rfl
  have hf1 := (cell_of_row _ _ 1 _ _ _ HP.out).trans rfl
  have hf2 := (cell_of_row _ _ 2 _ _ _ HP.out).trans rfl
  have hf3 := (cell_of_row _ _ 3 _ _ _ HP.out).trans rfl
  obtain ⟨ca0, ca1, ca2⟩ := HdAt.c V1.out
  obtain ⟨cb0, cb1, cb2⟩ := HdAt.c V2.out
  have hI2 := GI.out
  go_upto_region 8 with fail
  clear hI2
  obtain ⟨b14, hb14⟩ : ∃ b, decide (I - G ≤ c.rate ∧ G - I ≤ c.rate) = b := ⟨_, rfl⟩
  have HN14 := Lib.hid hb14
  clear hb14
  go_cut [14] from 45 to 60 (fun v wx => v = .bool b14 ∧ wx = w9)
  case first =>
    by_cases p0 : I - G ≤ c.rate
    rotate_left
    · have P0 := Lib.hid p0
      have q0 : c.rate < I - G := by omega
      go_wp2_with fail
      go_meet
      case rel => exact ⟨congrArg Value.bool ((decide_eq_false (fun h => by have := P0.out; omega)).symm.trans HN14.out), rfl⟩
    have P0 := Lib.hid p0
    by_cases p1 : G - I ≤ c.rate
    rotate_left
    · have P1 := Lib.hid p1
      have q1 : c.rate < G - I := by omega
      go_wp2_with fail
      go_meet
      case rel => exact ⟨congrArg Value.bool ((decide_eq_false (fun h => by have := P1.out; omega)).symm.trans HN14.out), rfl⟩
    have P1 := Lib.hid p1
    go_wp2_with fail
    go_meet
    case rel => exact ⟨congrArg Value.bool ((decide_eq_true ⟨P0.out, P1.out⟩).symm.trans HN14.out), rfl⟩
  case rest =>
  obtain ⟨rfl, hw9⟩ := hcut
  obtain rfl := hw9.symm
  go_upto_region 9 with fail
  obtain ⟨b15, hb15⟩ : ∃ b, decide (I < G ∧ hg = true ∧ t - hl < c.stable) = b := ⟨_, rfl⟩
  have HN15 := Lib.hid hb15
  clear hb15
  go_cut [15] from 61 to 78 (fun v wx => v = .bool b15 ∧ wx = w9)
  case first =>
    by_cases p0 : I < G
    rotate_left
    · have P0 := Lib.hid p0
      have q0 : G ≤ I := by omega
      go_wp2_with fail
      go_meet
      case rel => exact ⟨congrArg Value.bool ((decide_eq_false (fun h => by have := P0.out; omega)).symm.trans HN15.out), rfl⟩
    have P0 := Lib.hid p0
    cases hg
    · go_wp2_with fail
      go_meet
      case rel => exact ⟨congrArg Value.bool ((decide_eq_false (fun h => by cases h.2.1)).symm.trans HN15.out), rfl⟩
    by_cases p2 : t - hl < c.stable
    rotate_left
    · have P2 := Lib.hid p2
      have q2 : c.stable ≤ t - hl := by omega
      go_wp2_with fail
      go_meet
      case rel => exact ⟨congrArg Value.bool ((decide_eq_false (fun h => by have := P2.out; omega)).symm.trans HN15.out), rfl⟩
    have P2 := Lib.hid p2
    go_wp2_with fail
    go_meet
    case rel => exact ⟨congrArg Value.bool ((decide_eq_true ⟨P0.out, by simp, P2.out⟩).symm.trans HN15.out), rfl⟩
  case rest =>
  obtain ⟨rfl, hw9⟩ := hcut
  obtain rfl := hw9.symm
  clear e1 e2 e3 wm wt
  by_cases s : I < G ∧ hg = true ∧ t - hl < c.stable
  · obtain rfl : b15 = true := HN15.out.symm.trans (decide_eq_true s)
    obtain ⟨rfl, rfl, rfl⟩ := B1.out s
    clear s
    cases b14
    · go_wp2
      go_ret
      exact ⟨rfl, HB.out⟩
    · go_wp2
      go_ret
      exact ⟨rfl, HB.out⟩
  · obtain rfl : b15 = false := HN15.out.symm.trans (decide_eq_false s)
    by_cases nn : I - G ≤ c.rate ∧ G - I ≤ c.rate
    · obtain rfl : b14 = true := HN14.out.symm.trans (decide_eq_true nn)
      obtain rfl := (B2.out nn s).symm
      clear s nn
      have b3 := B3.out
      obtain ⟨P1, hP1⟩ : ∃ P, min I G = P := ⟨_, rfl⟩
      obtain ⟨P2, hP2⟩ : ∃ P, max I G = P := ⟨_, rfl⟩
      rw [hP1, hP2] at b3
      obtain ⟨b4, b5⟩ := b3
      go_wp2
      go_ret
      exact ⟨rfl, HB.out⟩
    · obtain rfl : b14 = false := HN14.out.symm.trans (decide_eq_false nn)
      clear s nn
      have b3 := B3.out
      obtain ⟨P1, hP1⟩ : ∃ P, min I G = P := ⟨_, rfl⟩
      obtain ⟨P2, hP2⟩ : ∃ P, max I G = P := ⟨_, rfl⟩
      rw [hP1, hP2] at b3
      obtain ⟨b4, b5⟩ := b3
      go_wp2
      go_ret
      exact ⟨rfl, HB.out⟩
end Go.Proofs.Ytllphglhkpcclaa
