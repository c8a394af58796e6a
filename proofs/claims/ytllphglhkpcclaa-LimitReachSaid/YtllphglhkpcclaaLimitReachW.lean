/- LimitReach: the walk. -/
import Derived.Test.YtllphglhkpcclaaLiC
import Derived.Test.YtllphglhkpcclaaInts
import Derived.Deep.RegionHeld
import Derived.Deep.CutRange
import Derived.Lib.MinMax
namespace Go.Proofs.Ytllphglhkpcclaa
set_option linter.unusedSimpArgs false
set_option linter.unusedVariables false
open Go.RowKit
open Wir Evn Lim
attribute [local go_sem] Oper.semAt_some

set_option maxRecDepth 100000 in
set_option maxHeartbeats 3200000 in
theorem limitReach_walk (c : Cf) (hc hl : Int) (hg : Bool) (m : Int) (b16 : -32768 ≤ m ∧ m ≤ 32767) (w : World) :
    Calls Try.prog 8 #[cfV c, .agg #[.int .i64 hc, .int .i64 hl, .bool hg], .int .i16 m] w fun r w' => r = .returned (.bool true) ∧ Below w.heap.size w w' := by
  obtain ⟨hB, hP, hS⟩ := two w c (hc, hl, hg)
  obtain ⟨x, hx⟩ : ∃ x, x = (w.alloc (.cells #[.int .i64 c.min, .int .i64 c.max, .int .i64 c.rate, .int .i64 c.stable, .int .i64 c.cap, .int .i64 c.delay, .int .i64 c.slack, .int .i64 c.window, .int .i64 c.margin, .int .i64 c.ceil, .int .i64 c.probe, .int .i64 c.breach] 23)).alloc (.cells #[.int .i64 hc, .int .i64 hl, .bool hg] 25) := ⟨_, rfl⟩
  simp only at hB hP hS
  rw [← hx] at hB hP hS
  have HB := Lib.hid hB
  have HP := Lib.hid hP
  have HS := Lib.hid hS
  have HX := Lib.hid hx
  clear hB hP hS hx
  unfold cfV
  go_enter Try.func8, Try.ntmps8
  go_wp2_with fail
  rw [← HX.out]
  refine (lhead_any _).mono ?_
  rintro r w1 ⟨rfl, b⟩
  clear HX
  have HP := Lib.hid (HP.out.on b)
  have HS := Lib.hid (HS.out.on b)
  have HB := Lib.hid (bel2 HB.out b)
  clear b
  go_wp2_with (first
    | (refine wpList_load_rowG (by first | rfl | kernel_rfl | (simp [Region.wanted, yielded])) 23 (.tmp 3) (by rfl) (w.heap.size) (by rfl) 23 _ (0, 0) _ HP.out Try.underlying23 (by rfl) (by kernel_rfl) ?_)
    | fail)
  refine (dconf_any c _).mono ?_
  rintro r w2 ⟨rfl, b⟩
  have HP := Lib.hid (HP.out.on b)
  have HS := Lib.hid (HS.out.on b)
  have HB := Lib.hid (bel2 HB.out b)
  clear b
  cases hr : confR c
  · clear hr
    go_wp2
    go_ret
    exact ⟨rfl, HB.out⟩
  have HC := Lib.hid (COk.of hr)
  clear hr
  obtain ⟨cs0, cs1, cs2⟩ := HdAt.c HS.out
  go_wp2_with fail
  refine (ltime_any hl _).mono ?_
  rintro r w9 ⟨rfl, h9⟩
  obtain rfl := h9.symm
  by_cases hl1 : 0 ≤ hl ∧ hl ≤ 1099511627776
  rotate_left
  · rw [decide_eq_false hl1]
    go_wp2
    go_ret
    exact ⟨rfl, HB.out⟩
  rw [decide_eq_true hl1]
  have hl1' := Lib.hid hl1
  clear hl1
  clear cs0 cs1 cs2
  have hs0 := (cell_of_row _ _ 3 _ _ _ HP.out).trans rfl
  by_cases h9 : 1000 < c.stable
  · go_wp2
    go_ret
    exact ⟨rfl, HB.out⟩
  have h9' : c.stable ≤ 1000 := by omega
  have HSS := Lib.hid h9'
  clear h9'
  have wm : IntKind.i64.wrap m = m := by rw [IntKind.wrap_i64]; omega
  obtain ⟨G, hG⟩ : ∃ N, bnd c hc = N := ⟨_, rfl⟩
  obtain ⟨I, hI⟩ : ∃ N, bnd c m = N := ⟨_, rfl⟩
  have g1 := bnd_le HC.out hc
  have g2 := bnd_le HC.out m
  rw [hG] at g1
  rw [hI] at g2
  have m1 := HC.out.m1
  have m3 := HC.out.m3
  have hI2 : min (max m c.min) c.max = I := hI
  have e4 : IntKind.i64.wrap I = I := by rw [IntKind.wrap_i64]; omega
  have hGG := Lib.hid hG
  have HII := Lib.hid hI
  have HG1 := Lib.hid g1
  have HI1 := Lib.hid g2
  clear hG hI g1 g2
  have hf0 := (cell_of_row _ _ 0 _ _ _ HP.out).trans rfl
  have hf1 := (cell_of_row _ _ 1 _ _ _ HP.out).trans rfl
  go_upto_region 5 with fail
  clear hI2 e4 hf0 hf1 hs0 h9
  obtain ⟨cs0, cs1, cs2⟩ := HdAt.c HS.out
  go_wp2_with (first
    | (refine wpList_load_rowG (by first | rfl | kernel_rfl | (simp [Region.wanted, yielded])) 23 (.tmp 3) (by rfl) (w.heap.size) (by rfl) 23 _ (0, 0) _ HP.out Try.underlying23 (by rfl) (by kernel_rfl) ?_)
    | fail)
  refine (linto_l HC.out hc hl hg _ G hGG.out).mono ?_
  rintro r v9 ⟨rfl, b⟩
  clear cs0 cs1 cs2
  have HP := Lib.hid (HP.out.on b)
  have HS := Lib.hid (HS.out.on b)
  have HB := Lib.hid (bel2 HB.out b)
  clear b
  go_upto_region 6 with fail
  have b := bel1 (Below.refl v9.heap.size v9) (.cells #[.int .i64 G, .int .i64 hl, .bool hg] 25)
  have V1 : Hid (HdAt (v9.alloc (.cells #[.int .i64 G, .int .i64 hl, .bool hg] 25)) v9.heap.size (G, hl, hg)) := heap_alloc_new _ _
  have V1l : Hid (w.heap.size + 1 < v9.heap.size) := lt_of_heap HS.out
  obtain ⟨V1g, hg9⟩ : ∃ g, g = v9.heap.size := ⟨_, rfl⟩
  rw [← hg9] at V1 V1l ⊢
  have HP := Lib.hid (HP.out.on b)
  have HS := Lib.hid (HS.out.on b)
  have HB := Lib.hid (bel2 HB.out b)
  clear b
  generalize v9.alloc (.cells #[.int .i64 G, .int .i64 hl, .bool hg] 25) = w9 at *
  clear hg9
  obtain ⟨cs0, cs1, cs2⟩ := HdAt.c HS.out
  go_wp2_with fail
  clear cs0 cs1 cs2
  go_loopw [10, 11] (fun vn i wx => ∃ (k : Nat) (nw q l : Int) (d : Bool), (k : Int) ≤ 1002 ∧ i = .int .i64 (k : Int) ∧ vn = .int .i64 nw ∧ HdAt wx V1g (q, l, d) ∧ (c.min ≤ q ∧ q ≤ c.max) ∧ (0 ≤ l ∧ l ≤ nw ∧ nw ≤ 1099511627776) ∧ (nw = 1099511627776 ∨ q = I ∨ (q - I + (k : Int) ≤ 999 ∧ I - q + (k : Int) ≤ 999)) ∧ CBx wx w.heap.size c ∧ Below w.heap.size w wx) (fun _ i _ => 1003 - (intOf i).toNat)
  case atStart => exact ⟨0, hl, G, hl, hg, by decide, rfl, rfl, V1.out, HG1.out, ⟨hl1'.out.1, Int.le_refl _, hl1'.out.2⟩, .inr (.inr (by have := HG1.out; have := HI1.out; omega)), HP.out, HB.out⟩
  case round =>
    clear V1 HP HB HS
    obtain ⟨k, nw, q, l, d, hk, rfl, rfl, hv, hq, hll, hpr, hp, hb⟩ := hrel
    have V1 := Lib.hid hv
    have HP := Lib.hid hp
    have HB := Lib.hid hb
    have HQ := Lib.hid hq
    have HL := Lib.hid hll
    have HPR := Lib.hid hpr
    clear hv hp hb hq hll hpr
    by_cases hlt : (k : Int) < 1002
    · have HK := Lib.hid hlt
      have HPL := Lib.hid (lt_of_heap HP.out)
      obtain ⟨T, hT⟩ : ∃ T, min (nw + c.stable + 1) 1099511627776 = T := ⟨_, rfl⟩
      have hTl : nw ≤ T ∧ T ≤ 1099511627776 ∧ (T = 1099511627776 ∨ T = nw + c.stable + 1) := by have := HC.out.s1; have := HL.out; omega
      have HTL := Lib.hid hTl
      have w1s : IntKind.i64.wrap (nw + c.stable) = nw + c.stable := by have := HC.out.s1; have := HSS.out; have := HL.out; rw [IntKind.wrap_i64]; omega
      have w2s : IntKind.i64.wrap (nw + c.stable + 1) = nw + c.stable + 1 := by have := HC.out.s1; have := HSS.out; have := HL.out; rw [IntKind.wrap_i64]; omega
      have w3s : IntKind.i64.wrap T = T := by have := HL.out; rw [IntKind.wrap_i64]; omega
      clear hTl
      have hf3 := (cell_of_row _ _ 3 _ _ _ HP.out).trans rfl
      go_upto_region 11 with fail
      clear w1s w2s w3s hf3 hT
      have HT : Hid ((0 ≤ l ∧ l ≤ 1099511627776) ∧ 0 ≤ T ∧ T ≤ 1099511627776) := by show _ ∧ _; have := HL.out; have := HTL.out; omega
      obtain ⟨zc, zl, zg, hz⟩ : ∃ a b e, nxt c (q, l, d) m T = (a, b, e) := ⟨_, _, _, rfl⟩
      have hz2 : goes c (q, l, d) m T = (zc, zl, zg) := by rw [← nxt_id (h := (q, l, d)) HQ.out.1 HQ.out.2]; exact hz
      have hin := to_in HC.out (g := (q, l, d)) HQ.out.1 HQ.out.2 m T
      rw [hz2] at hin
      have hla : zl ≤ T := by
        have := to_last (c := c) (g := (q, l, d)) (w := m) (t := T) (by have := HL.out; have := HTL.out; show l ≤ T; omega)
        rw [hz2] at this
        exact this
      have hl0 : 0 ≤ zl := by
        by_cases e : q < zc
        · have := to_grew (c := c) (g := (q, l, d)) (w := m) (t := T) (by rw [hz2]; exact e)
          rw [hz2] at this
          simp only [Prod.mk.injEq] at this
          have := HT.out; omega
        · have := to_rest (c := c) (g := (q, l, d)) (w := m) (t := T) (by rw [hz2]; exact e)
          rw [hz2] at this
          simp only [Prod.mk.injEq] at this
          have := HT.out; omega
      have hth : q = I → zc = q := by
        intro e
        have := to_there HC.out (g := (q, l, d)) (w := m) (t := T) HQ.out.1 HQ.out.2 (by rw [HII.out]; exact e)
        rw [hz2] at this
        simp only [Prod.mk.injEq] at this
        exact this.1
      have hmv : q ≠ I → T < 1099511627776 → (q < I → q < zc ∧ zc ≤ I) ∧ (I < q → zc < q ∧ I ≤ zc) := by
        intro e e2
        have := to_moves HC.out (g := (q, l, d)) (w := m) (t := T) HQ.out.1 HQ.out.2 (by rw [HII.out]; exact e) (by have := HTL.out; have := HL.out; show c.stable ≤ T - l; omega)
        rw [hz2, HII.out] at this
        exact this
      have HIN := Lib.hid hin
      have HLA := Lib.hid hla
      have HL0 := Lib.hid hl0
      have HTH := Lib.hid hth
      have HMV := Lib.hid hmv
      have HZZ := Lib.hid hz
      clear hz hz2 hin hla hl0 hth hmv
      have wm : IntKind.i64.wrap m = m := by rw [IntKind.wrap_i64]; omega
      obtain ⟨cs0, cs1, cs2⟩ := HdAt.c V1.out
      go_wp2_with (first
        | (refine wpList_load_rowG (by first | rfl | kernel_rfl | (simp [Region.wanted, yielded])) 23 (.tmp 3) (by rfl) (w.heap.size) (by rfl) 23 _ (0, 0) _ HP.out Try.underlying23 (by rfl) (by kernel_rfl) ?_)
        | fail)
      refine (lnext_l HC.out q l d (m) (T) HT.out _ zc zl zg HZZ.out).mono ?_
      rintro r v9 ⟨rfl, b⟩
      clear cs0 cs1 cs2
      have HP := Lib.hid (HP.out.on b)
      have V1 := Lib.hid (V1.out.on b)
      have HB := Lib.hid (bel2 HB.out b)
      clear b
      go_upto_region 12 with fail
      have b := bel1 (Below.refl v9.heap.size v9) (.cells #[.int .i64 zc, .int .i64 zl, .bool zg] 25)
      have V2 : Hid (HdAt (v9.alloc (.cells #[.int .i64 zc, .int .i64 zl, .bool zg] 25)) v9.heap.size (zc, zl, zg)) := heap_alloc_new _ _
      obtain ⟨V2g, hg9⟩ : ∃ g, g = v9.heap.size := ⟨_, rfl⟩
      rw [← hg9] at V2 ⊢
      have HP := Lib.hid (HP.out.on b)
      have V1 := Lib.hid (V1.out.on b)
      have HB := Lib.hid (bel2 HB.out b)
      clear b
      generalize v9.alloc (.cells #[.int .i64 zc, .int .i64 zl, .bool zg] 25) = w9 at *
      clear hg9
      obtain ⟨ca0, ca1, ca2⟩ := HdAt.c V1.out
      obtain ⟨cb0, cb1, cb2⟩ := HdAt.c V2.out
      by_cases h1 : q = I
      · have e1 : zc = q := HTH.out h1
        have h2 := Lib.hid h1
        subst h1
        subst e1
        go_wp2_with (first | (refine wpList_store_mid (by rfl) 25 (.tmp 9) (.tmp 83) (by rfl) V1g 0 #[.int .i64 zc, .int .i64 zl, .bool zg] (by rfl) (by rfl) (there_of_block V1.out (by simp)) (by kernel_rfl) (by kernel_rfl) ?_) | fail)
        go_roundw
        case rel => exact ⟨k + 1, T, zc, zl, zg, by have := HK.out; push_cast; omega, by go_num, by trivial, HdAt.set V1.out (zc, zl, zg), ⟨HIN.out.1, HIN.out.2.1⟩, ⟨HL0.out, HLA.out, HTL.out.2.1⟩, .inr (.inl rfl), HP.out.far (by have := V1l.out; omega) _, below_setCells' V1g (by have := V1l.out; omega) _ 0 HB.out⟩
        case measure => have := HK.out; simp [intOf]; omega
      · have HNE := Lib.hid h1
        have b1 : (q == I) = false := by simpa using h1
        have b2 : (q != I) = true := by simpa using h1
        by_cases h2 : T < 1099511627776
        · have hm := HMV.out h1 h2
          have b3 : (zc == q) = false := by simp; omega
          have HM := Lib.hid hm
          clear hm
          go_wp2_with (first | (refine wpList_store_mid (by rfl) 25 (.tmp 9) (.tmp 83) (by rfl) V1g 0 #[.int .i64 zc, .int .i64 zl, .bool zg] (by rfl) (by rfl) (there_of_block V1.out (by simp)) (by kernel_rfl) (by kernel_rfl) ?_) | fail)
          go_roundw
          case rel => exact ⟨k + 1, T, zc, zl, zg, by have := HK.out; push_cast; omega, by go_num, by trivial, HdAt.set V1.out (zc, zl, zg), ⟨HIN.out.1, HIN.out.2.1⟩, ⟨HL0.out, HLA.out, HTL.out.2.1⟩, (by have h5 := HM.out; have h6 := HPR.out; have h7 := HTL.out; have h8 := HNE.out; have h9 := HL.out; have h10 : T < 1099511627776 := h2; push_cast; omega), HP.out.far (by have := V1l.out; omega) _, below_setCells' V1g (by have := V1l.out; omega) _ 0 HB.out⟩
          case measure => have := HK.out; simp [intOf]; omega
        · have b6 : decide (T < 1099511627776) = false := decide_eq_false h2
          have hTe : T = 1099511627776 := by have := HTL.out; omega
          have HTE := Lib.hid hTe
          clear hTe
          by_cases b4 : zc = q
          · subst b4
            go_wp2_with (first | (refine wpList_store_mid (by rfl) 25 (.tmp 9) (.tmp 83) (by rfl) V1g 0 #[.int .i64 zc, .int .i64 zl, .bool zg] (by rfl) (by rfl) (there_of_block V1.out (by simp)) (by kernel_rfl) (by kernel_rfl) ?_) | fail)
            go_roundw
            case rel => exact ⟨k + 1, T, zc, zl, zg, by have := HK.out; push_cast; omega, by go_num, by trivial, HdAt.set V1.out (zc, zl, zg), ⟨HIN.out.1, HIN.out.2.1⟩, ⟨HL0.out, HLA.out, HTL.out.2.1⟩, .inl HTE.out, HP.out.far (by have := V1l.out; omega) _, below_setCells' V1g (by have := V1l.out; omega) _ 0 HB.out⟩
            case measure => have := HK.out; simp [intOf]; omega
          · have b5 : (zc == q) = false := by simpa using b4
            go_wp2_with (first | (refine wpList_store_mid (by rfl) 25 (.tmp 9) (.tmp 83) (by rfl) V1g 0 #[.int .i64 zc, .int .i64 zl, .bool zg] (by rfl) (by rfl) (there_of_block V1.out (by simp)) (by kernel_rfl) (by kernel_rfl) ?_) | fail)
            go_roundw
            case rel => exact ⟨k + 1, T, zc, zl, zg, by have := HK.out; push_cast; omega, by go_num, by trivial, HdAt.set V1.out (zc, zl, zg), ⟨HIN.out.1, HIN.out.2.1⟩, ⟨HL0.out, HLA.out, HTL.out.2.1⟩, .inl HTE.out, HP.out.far (by have := V1l.out; omega) _, below_setCells' V1g (by have := V1l.out; omega) _ 0 HB.out⟩
            case measure => have := HK.out; simp [intOf]; omega
    · have hk2 : (k : Int) = 1002 := by omega
      have hfin : q = I ∨ nw = 1099511627776 := by have := HPR.out; omega
      obtain ⟨ca0, ca1, ca2⟩ := HdAt.c V1.out
      rcases hfin with rfl | rfl
      · go_wp2
        go_ret
        exact ⟨rfl, HB.out⟩
      · by_cases h1 : q = I
        · subst h1
          go_wp2
          go_ret
          exact ⟨rfl, HB.out⟩
        · have b1 : (q == I) = false := by simpa using h1
          go_wp2
          go_ret
          exact ⟨rfl, HB.out⟩
end Go.Proofs.Ytllphglhkpcclaa
