/- LimitStable: the walk. -/
import Derived.Test.YtllphglhkpcclaaLiC
import Derived.Test.YtllphglhkpcclaaInts
import Derived.Deep.RegionHeld
import Derived.Deep.CutRange
import Derived.Lib.MinMax
namespace Go.Proofs.Ytllphglhkpcclaa
set_option linter.unusedSimpArgs false
set_option linter.unusedVariables false
open Go.RowKit
open Wir Evn Lim
attribute [local go_sem] Oper.semAt_some

theorem exec_rowC {P : Program} {o : Oper} {ρ : Operand → Value} {w : World} (ty : TypeId) (x : Operand) (ho : o.op = .load ty x)
    (g : Nat) (hx : ρ x = .pointer (some ⟨g, 0, none⟩)) (t : TypeId) (cs : Array Value) (fr : Nat × Nat) (d : TypeDesc) (hg : w.heap[g]? = some (.cells cs t fr))
    (hu : P.underlying ty = some d) (hd : (match d with | .struct _ | .array _ _ => true | _ => false) = true) (hi : (P.info? ty).map (·.size) = some cs.size) :
    (execOp ρ o).run P w = .ok (.value (.agg cs)) w := by
  unfold execOp
  simp only [ho, hx, Instr.loadAt, Instr.sureAddr, Sem.run_bind, Sem.run_pure, Result.andThen_ok, run_loadVar_row w g t ty cs fr d hg hu hd hi]
def bytC (ks : List Int) (j : Nat) : Value := .int .u8 (ks.getD j 0)
theorem lrcell {w x : World} {a : Option Addr} {n c : Nat} {cs : Nat → Value} (h : Row w w.heap.size a n c 1 cs) (hb : Below w.heap.size w x) {k : Nat} (hk : k < n) :
    ∃ b o, a = some ⟨b, o, none⟩ ∧ b < x.heap.size ∧ x.cell? ⟨b, o + k, none⟩ = some (cs k) := by
  obtain ⟨b, o, e, hlt, hc⟩ := h.at_ (by omega)
  exact ⟨b, o, e, Nat.lt_of_lt_of_le hlt hb.size, (hb.cell (p := ⟨b, o + k, none⟩) hlt).trans (hc k (by omega))⟩
set_option maxRecDepth 100000 in
set_option maxHeartbeats 3200000 in
theorem limitStable_walk (c : Cf) (hc hl : Int) (hg : Bool) (w : World) (a : Option Addr) (n k0 : Nat) (ks : List Int) (hr : Row w w.heap.size a n k0 1 (intsC ks)) (hn : ks.length = n) (sa : Option Addr) (sn sk : Nat) (ss : List Int) (sr : Row w w.heap.size sa sn sk 1 (bytC ss)) (hsn : ss.length = sn) (hsb : ∀ x ∈ ss, 0 ≤ x ∧ x ≤ 255) :
    Calls Try.prog 5 #[cfV c, .agg #[.int .i64 hc, .int .i64 hl, .bool hg], .slice a n k0, .slice sa sn sk] w fun r w' => r = .returned (.bool true) ∧ Below w.heap.size w w' := by
  have hle := hr.le
  have hmx := hr.max
  unfold maxLen at hmx
  have RR := Lib.hid hr
  clear hr
  have sle := sr.le
  have smx := sr.max
  unfold maxLen at smx
  have SR := Lib.hid sr
  clear sr
  obtain ⟨hB, hP, hS⟩ := two w c (hc, hl, hg)
  obtain ⟨x, hx⟩ : ∃ x, x = (w.alloc (.cells #[.int .i64 c.min, .int .i64 c.max, .int .i64 c.rate, .int .i64 c.stable, .int .i64 c.cap, .int .i64 c.delay, .int .i64 c.slack, .int .i64 c.window, .int .i64 c.margin, .int .i64 c.ceil, .int .i64 c.probe, .int .i64 c.breach] 23)).alloc (.cells #[.int .i64 hc, .int .i64 hl, .bool hg] 25) := ⟨_, rfl⟩
  simp only at hB hP hS
  rw [← hx] at hB hP hS
  have HB := Lib.hid hB
  have HP := Lib.hid hP
  have HS := Lib.hid hS
  have HX := Lib.hid hx
  clear hB hP hS hx
  unfold cfV
  go_enter Try.func5, Try.ntmps5
  go_wp2_with fail
  rw [← HX.out]
  refine (lhead_any _).mono ?_
  rintro r w1 ⟨rfl, b⟩
  clear HX
  have HP := Lib.hid (HP.out.on b)
  have HS := Lib.hid (HS.out.on b)
  have HB := Lib.hid (bel2 HB.out b)
  clear b
  go_wp2_with (first
    | (refine wpList_load_rowG (by first | rfl | kernel_rfl | (simp [Region.wanted, yielded])) 23 (.tmp 4) (by rfl) (w.heap.size) (by rfl) 23 _ (0, 0) _ HP.out Try.underlying23 (by rfl) (by kernel_rfl) ?_)
    | fail)
  refine (dconf_any c _).mono ?_
  rintro r w2 ⟨rfl, b⟩
  have HP := Lib.hid (HP.out.on b)
  have HS := Lib.hid (HS.out.on b)
  have HB := Lib.hid (bel2 HB.out b)
  clear b
  cases hr : confR c
  · clear hr
    go_wp2
    go_ret
    exact ⟨rfl, HB.out⟩
  have HC := Lib.hid (COk.of hr)
  clear hr
  obtain ⟨cs0, cs1, cs2⟩ := HdAt.c HS.out
  go_wp2_with fail
  refine (ltime_any hl _).mono ?_
  rintro r w9 ⟨rfl, h9⟩
  obtain rfl := h9.symm
  by_cases hl1 : 0 ≤ hl ∧ hl ≤ 1099511627776
  rotate_left
  · rw [decide_eq_false hl1]
    go_wp2
    go_ret
    exact ⟨rfl, HB.out⟩
  rw [decide_eq_true hl1]
  have hl1' := Lib.hid hl1
  clear hl1
  clear cs0 cs1 cs2
  by_cases h9 : 300 < n
  · have h9' : (300 : Int) < (n : Int) := by omega
    go_wp2
    go_ret
    exact ⟨rfl, HB.out⟩
  have h9' : ¬ (300 : Int) < (n : Int) := by omega
  have h9 : n ≤ 300 := by omega
  have HN := Lib.hid h9
  clear h9
  obtain ⟨N, hN⟩ : ∃ N, bnd c hc = N := ⟨_, rfl⟩
  have g1 := bnd_le HC.out hc
  rw [hN] at g1
  have hNN := Lib.hid hN
  have HG1 := Lib.hid g1
  clear hN g1
  obtain ⟨cs0, cs1, cs2⟩ := HdAt.c HS.out
  go_wp2_with (first
    | (refine wpList_load_rowG (by first | rfl | kernel_rfl | (simp [Region.wanted, yielded])) 23 (.tmp 4) (by rfl) (w.heap.size) (by rfl) 23 _ (0, 0) _ HP.out Try.underlying23 (by rfl) (by kernel_rfl) ?_)
    | fail)
  refine (linto_l HC.out hc hl hg _ N hNN.out).mono ?_
  rintro r v9 ⟨rfl, b⟩
  clear cs0 cs1 cs2
  have HP := Lib.hid (HP.out.on b)
  have HS := Lib.hid (HS.out.on b)
  have HB := Lib.hid (bel2 HB.out b)
  clear b
  go_upto_region 5 with fail
  have b := bel1 (Below.refl v9.heap.size v9) (.cells #[.int .i64 N, .int .i64 hl, .bool hg] 25)
  have V1 : Hid (HdAt (v9.alloc (.cells #[.int .i64 N, .int .i64 hl, .bool hg] 25)) v9.heap.size (N, hl, hg)) := heap_alloc_new _ _
  have V1l : Hid (w.heap.size + 1 < v9.heap.size) := lt_of_heap HS.out
  obtain ⟨V1g, hg9⟩ : ∃ g, g = v9.heap.size := ⟨_, rfl⟩
  rw [← hg9] at V1 V1l ⊢
  have HP := Lib.hid (HP.out.on b)
  have HS := Lib.hid (HS.out.on b)
  have HB := Lib.hid (bel2 HB.out b)
  clear b
  generalize v9.alloc (.cells #[.int .i64 N, .int .i64 hl, .bool hg] 25) = w9 at *
  clear hg9
  obtain ⟨ca0, ca1, ca2⟩ := HdAt.c V1.out
  have hfz := frozen_of_row w9 V1g 2 _ _ V1.out
  go_upto_region 6 with fail
  clear hfz
  have V2 : Hid (HdAt (w9.setCell ⟨V1g, 2, none⟩ (.bool false)) V1g (N, hl, false)) := by
    show w9.setCell _ _ |>.heap[V1g]? = _
    have := heap_setCell_same w9 V1g 2 _ 25 (.bool false) V1.out
    exact this
  have HP2 : Hid (CBx (w9.setCell ⟨V1g, 2, none⟩ (.bool false)) w.heap.size c) := by
    show _ = _
    rw [Below.heap_setCell w9 ⟨V1g, 2, none⟩ (.bool false) w.heap.size (by have := V1l.out; show w.heap.size ≠ V1g; omega)]
    exact HP.out
  have HB2 : Hid (Below w.heap.size w (w9.setCell ⟨V1g, 2, none⟩ (.bool false))) := HB.out.setCell (by have := V1l.out; show w.heap.size ≤ V1g; omega) _
  clear V1 HP HB HS ca0 ca1 ca2
  generalize w9.setCell ⟨V1g, 2, none⟩ (.bool false) = w10 at *
  go_wp2_with fail
  go_loopw [11, 12, 13, 14] (fun vn vl vg i wx => ∃ (k : Nat) (nw la q l : Int) (d : Bool), k ≤ n ∧ i = .int .i64 (k : Int) ∧ vn = .int .i64 nw ∧ vl = .int .i64 la ∧ vg = .bool d ∧ HdAt wx V1g (q, l, d) ∧ (c.min ≤ q ∧ q ≤ c.max) ∧ (0 ≤ l ∧ l ≤ 1099511627776) ∧ (0 ≤ nw ∧ nw ≤ 255 * (k : Int)) ∧ (0 ≤ la ∧ la ≤ nw) ∧ (d = true → l = la) ∧ CBx wx w.heap.size c ∧ Below w.heap.size w wx) (fun _ _ _ i _ => n - (intOf i).toNat)
  case atStart => exact ⟨0, 0, 0, N, hl, false, Nat.zero_le _, rfl, rfl, rfl, rfl, V2.out, HG1.out, hl1'.out, ⟨Int.le_refl _, Int.le_refl _⟩, ⟨Int.le_refl _, Int.le_refl _⟩, (fun h => by cases h), HP2.out, HB2.out⟩
  case round =>
    clear V2 HP2 HB2
    obtain ⟨k, nw, la, q, l, d, hk, rfl, rfl, rfl, rfl, hv, hq, hll, hnw, hla, hdl, hp, hb⟩ := hrel
    have V1 := Lib.hid hv
    have HP := Lib.hid hp
    have HB := Lib.hid hb
    have HQ := Lib.hid hq
    have HL := Lib.hid hll
    have HNW := Lib.hid hnw
    have HLA := Lib.hid hla
    have HDL := Lib.hid hdl
    clear hv hp hb hq hll hnw hla hdl
    by_cases hlt : k < n
    · have hlt' : (k : Int) < (n : Int) := by omega
      have hk0 : (0 : Int) ≤ (k : Int) := by omega
      obtain ⟨b, o, rfl, hbl, hcc⟩ := lrcell RR.out HB.out hlt
      simp only [intsC] at hcc
      generalize ks.getD k 0 = u at hcc
      have HCC := Lib.hid hcc
      have HBL := Lib.hid hbl
      have HK := Lib.hid hlt
      clear hcc hbl hlt
      have HV1L := Lib.hid (lt_of_heap V1.out)
      have HPL := Lib.hid (lt_of_heap HP.out)
      obtain ⟨T, hT⟩ : ∃ T, (if k < sn then nw + ss.getD k 0 else nw) = T := ⟨_, rfl⟩
      have hss : k < sn → 0 ≤ ss.getD k 0 ∧ ss.getD k 0 ≤ 255 := fun h => hsb _ (by rw [List.getD_eq_getElem?_getD, List.getElem?_eq_getElem (by rw [hsn]; exact h)]; exact List.getElem_mem _)
      have hTb : nw ≤ T ∧ T ≤ 255 * ((k : Int) + 1) := by
        rw [← hT]
        have := HNW.out
        split
        · rename_i h
          have := hss h
          omega
        · omega
      have HTb := Lib.hid hTb
      have HTT := Lib.hid hT
      skip
      go_upto_if 45 with fail
      go_cut [11] from 45 to 52 (fun v wx => v = .int .i64 T ∧ wx = wr)
      case first =>
        by_cases hs : k < sn
        · have hs' : (k : Int) < (sn : Int) := by omega
          obtain ⟨b2, o2, rfl, hbl2, hc2⟩ := lrcell SR.out HB.out hs
          simp only [bytC] at hc2
          have hx := hss hs
          have hT2 : nw + ss.getD k 0 = T := by rw [← HTT.out, if_pos hs]
          generalize ss.getD k 0 = y at hc2 hx hT2
          have wy : IntKind.i64.wrap y = y := by rw [IntKind.wrap_i64]; omega
          have wT : IntKind.i64.wrap T = T := by have := HTb.out; have := HNW.out; have := HN.out; have := HK.out; rw [IntKind.wrap_i64]; omega
          clear hT
          clear hss
          go_wp2_with fail
          go_meet
          case rel => exact ⟨rfl, rfl⟩
        · have hs' : ¬ (k : Int) < (sn : Int) := by omega
          have hT2 : T = nw := by rw [← HTT.out, if_neg hs]
          subst hT2
          clear hss
          go_wp2_with fail
          go_meet
          case rel => exact ⟨rfl, rfl⟩
      case rest =>
      obtain ⟨rfl, hw9⟩ := hcut
      obtain rfl := hw9.symm
      clear hT hss hTb
      have hTT : 0 ≤ T ∧ T ≤ 1099511627776 := by have := HTb.out; have := HNW.out; have := HN.out; have := HK.out; omega
      have HT := Lib.hid (And.intro HL.out hTT)
      have HT0 := Lib.hid hTT
      clear hTT
      obtain ⟨zc, zl, zg, hz⟩ : ∃ a b e, nxt c (q, l, d) u T = (a, b, e) := ⟨_, _, _, rfl⟩
      have hz2 : goes c (q, l, d) u T = (zc, zl, zg) := by rw [← nxt_id (h := (q, l, d)) HQ.out.1 HQ.out.2]; exact hz
      have hin := to_in HC.out (g := (q, l, d)) HQ.out.1 HQ.out.2 u T
      rw [hz2] at hin
      have hgr : q < zc → zl = T ∧ zg = true := by
        intro e
        have := to_grew (c := c) (g := (q, l, d)) (w := u) (t := T) (by rw [hz2]; exact e)
        rw [hz2] at this
        simp only [Prod.mk.injEq] at this
        exact this.2
      have hre : ¬ q < zc → zl = l ∧ zg = d := by
        intro e
        have := to_rest (c := c) (g := (q, l, d)) (w := u) (t := T) (by rw [hz2]; exact e)
        rw [hz2] at this
        simp only [Prod.mk.injEq] at this
        exact this
      have hst : zc < q → ¬ (d = true ∧ T - l < c.stable) := by
        intro e
        exact to_still (c := c) (g := (q, l, d)) (w := u) (t := T) (by rw [hz2]; exact e)
      have HIN := Lib.hid hin
      have HGR := Lib.hid hgr
      have HRE := Lib.hid hre
      have HST := Lib.hid hst
      have HZZ := Lib.hid hz
      clear hz hz2 hin hgr hre hst
      go_upto_region 14 with fail
      go_cut [15] from 53 to 60 (fun vt wx => ∃ g, vt = .pointer (some ⟨g, 0, none⟩) ∧ wr.heap.size ≤ g ∧ HdAt wx g (zc, zl, zg) ∧ Below wr.heap.size wr wx)
      case first =>
        refine wp_region_held_drew (S := fun wy => wy.cell? ⟨b, o + k, none⟩ = some (.int .i64 u) ∧ wy.cell? ⟨V1g, 0, none⟩ = some (.int .i64 q) ∧ wy.cell? ⟨V1g, 1, none⟩ = some (.int .i64 l) ∧ wy.cell? ⟨V1g, 2, none⟩ = some (.bool d) ∧ CBx wy w.heap.size c) (by kernel_rfl) (⟨(Below.cell (p := ⟨b, o + k, none⟩) (Below.drew (Below.refl _ _)) HBL.out).trans HCC.out, (HdAt.c (V1.out.on (Below.drew (Below.refl _ _)))).1, (HdAt.c (V1.out.on (Below.drew (Below.refl _ _)))).2.1, (HdAt.c (V1.out.on (Below.drew (Below.refl _ _)))).2.2, HP.out.on (Below.drew (Below.refl _ _))⟩) (fun hHeld => ?_)
        refine wpAnyH_take (i := 0) (v := cfV c) rfl (by kernel_rfl) (by kernel_rfl) (by kernel_rfl) (fun _ _ _ h => h) (Or.inl ⟨by rfl, fun wz hS => exec_rowC 23 (.tmp 4) rfl w.heap.size rfl 23 _ (0, 0) _ (hS.2.2.2.2) Try.underlying23 rfl (by kernel_rfl)⟩) (by assumption) ?_
        try simp only [Act.put, List.getElem_toArray, List.getElem_cons_succ, List.getElem_cons_zero, List.setIfInBounds_toArray, List.set_cons_zero, List.set_cons_succ]
        refine wpAnyH_take (i := 1) (v := ?_) rfl (by kernel_rfl) (by kernel_rfl) (by kernel_rfl) (fun _ _ _ h => h) (Or.inl ⟨by rfl, ?_⟩) (by assumption) ?_
        rotate_left
        · intro w hSw
          (try dsimp only at hSw)
          go_simp
          all_goals with_reducible rfl
        try simp only [Act.put, List.getElem_toArray, List.getElem_cons_succ, List.getElem_cons_zero, List.setIfInBounds_toArray, List.set_cons_zero, List.set_cons_succ]
        refine wpAnyH_take (i := 2) (v := ?_) rfl (by kernel_rfl) (by kernel_rfl) (by kernel_rfl) (fun _ _ _ h => h) (Or.inl ⟨by rfl, ?_⟩) (by assumption) ?_
        rotate_left
        · intro w hSw
          (try dsimp only at hSw)
          go_simp
          all_goals with_reducible rfl
        try simp only [Act.put, List.getElem_toArray, List.getElem_cons_succ, List.getElem_cons_zero, List.setIfInBounds_toArray, List.set_cons_zero, List.set_cons_succ]
        refine wpAnyH_take (i := 3) (v := ?_) rfl (by kernel_rfl) (by kernel_rfl) (by kernel_rfl) (fun _ _ _ h => h) (Or.inl ⟨by rfl, ?_⟩) (by assumption) ?_
        rotate_left
        · intro w hSw
          (try dsimp only at hSw)
          go_simp
          all_goals with_reducible rfl
        try simp only [Act.put, List.getElem_toArray, List.getElem_cons_succ, List.getElem_cons_zero, List.setIfInBounds_toArray, List.set_cons_zero, List.set_cons_succ]
        refine wpAnyH_take (i := 4) (v := ?_) rfl (by kernel_rfl) (by kernel_rfl) (by kernel_rfl) (fun _ _ _ h => h) (Or.inl ⟨by rfl, ?_⟩) (by assumption) ?_
        rotate_left
        · intro w hSw
          (try dsimp only at hSw)
          go_simp
          all_goals with_reducible rfl
        try simp only [Act.put, List.getElem_toArray, List.getElem_cons_succ, List.getElem_cons_zero, List.setIfInBounds_toArray, List.set_cons_zero, List.set_cons_succ]
        refine wpAnyH_take (i := 5) (v := ?_) rfl (by kernel_rfl) (by kernel_rfl) (by kernel_rfl) (fun _ _ _ h => h) (Or.inl ⟨by rfl, ?_⟩) (by assumption) ?_
        rotate_left
        · intro w hSw
          (try dsimp only at hSw)
          go_simp
          all_goals with_reducible rfl
        try simp only [Act.put, List.getElem_toArray, List.getElem_cons_succ, List.getElem_cons_zero, List.setIfInBounds_toArray, List.set_cons_zero, List.set_cons_succ]
        refine wpAnyH_take (i := 6) (v := ?_) rfl (by kernel_rfl) (by kernel_rfl) (by kernel_rfl) (fun _ _ _ h => h) (Or.inl ⟨by rfl, ?_⟩) (by assumption) ?_
        rotate_left
        · intro w hSw
          (try dsimp only at hSw)
          go_simp
          all_goals with_reducible rfl
        try simp only [Act.put, List.getElem_toArray, List.getElem_cons_succ, List.getElem_cons_zero, List.setIfInBounds_toArray, List.set_cons_zero, List.set_cons_succ]
        have hB0 : Below wr.heap.size wr wr.drew := Below.drew (Below.refl _ _)
        clear hHeld
        generalize wr.drew = wa0 at hB0 ⊢
        refine wpAnyH_ready (rs := [7, 8]) (by kernel_rfl) (by simp) ?_
        refine AllReadyH.cons rfl (fun K hK => ?_) (AllReadyH.cons rfl (fun K hK => ?_) AllReadyH.nil)
        · rw [if_pos (by rfl)]
          go_simp
          go_at_call 14
          refine (lnext_l HC.out q l d u T HT.out _ zc zl zg HZZ.out).mono ?_
          rintro r wa1 ⟨rfl, b⟩
          have hB1 := hB0.trans (b.mono hB0.size)
          clear b hB0
          refine hK.out _ _ ?_ (fun hHeld => ?_)
          · exact ⟨(Below.cell (p := ⟨b, o + k, none⟩) hB1 HBL.out).trans HCC.out, (HdAt.c (V1.out.on hB1)).1, (HdAt.c (V1.out.on hB1)).2.1, (HdAt.c (V1.out.on hB1)).2.2, HP.out.on hB1⟩
          clear hK K
          try simp only [Act.put, List.getElem_toArray, List.getElem_cons_succ, List.getElem_cons_zero, List.setIfInBounds_toArray, List.set_cons_zero, List.set_cons_succ]
          refine wpAnyH_ready (rs := [8]) (by kernel_rfl) (by simp) ?_
          refine AllReadyH.cons rfl (fun K hK => ?_) AllReadyH.nil
          rw [if_pos (by rfl)]
          go_simp
          have hB2 := hB1.alloc hB1.size (.cells #[.int .i64 0, .int .i64 0, .bool false] 25)
          have Z := Lib.hid (heap_alloc_new wa1 (.cells #[.int .i64 0, .int .i64 0, .bool false] 25))
          have lz : wr.heap.size ≤ wa1.heap.size := hB1.size
          generalize wa1.alloc (.cells #[.int .i64 0, .int .i64 0, .bool false] 25) = wa2 at hB2 Z ⊢
          clear hB1
          refine hK.out _ _ ?_ (fun hHeld => ?_)
          · exact ⟨(Below.cell (p := ⟨b, o + k, none⟩) hB2 HBL.out).trans HCC.out, (HdAt.c (V1.out.on hB2)).1, (HdAt.c (V1.out.on hB2)).2.1, (HdAt.c (V1.out.on hB2)).2.2, HP.out.on hB2⟩
          clear hK K
          try simp only [Act.put, List.getElem_toArray, List.getElem_cons_succ, List.getElem_cons_zero, List.setIfInBounds_toArray, List.set_cons_zero, List.set_cons_succ]
          refine wpAnyH_ready (rs := [9]) (by kernel_rfl) (by simp) ?_
          refine AllReadyH.cons rfl (fun K hK => ?_) AllReadyH.nil
          rw [if_pos (by rfl)]
          refine wp_store_mid 25 (.tmp 15) (.tmp 60) (by rfl) wa1.heap.size 0 #[.int .i64 zc, .int .i64 zl, .bool zg] (by rfl) (by rfl) (there_of_block Z.out (by simp)) (by kernel_rfl) (by kernel_rfl) ?_
          have Z2 := Lib.hid (heap_setCells_whole (cs := [Value.int .i64 0, .int .i64 0, .bool false]) (#[.int .i64 zc, .int .i64 zl, .bool zg] : Array Value).toList rfl Z.out)
          have hB3 := below_setCells' wa1.heap.size lz (#[.int .i64 zc, .int .i64 zl, .bool zg] : Array Value).toList 0 hB2
          generalize wa2.setCells wa1.heap.size 0 (#[.int .i64 zc, .int .i64 zl, .bool zg] : Array Value).toList = wa3 at Z2 hB3 ⊢
          clear Z hB2
          refine hK.out _ _ ?_ (fun hHeld => ?_)
          · exact ⟨(Below.cell (p := ⟨b, o + k, none⟩) hB3 HBL.out).trans HCC.out, (HdAt.c (V1.out.on hB3)).1, (HdAt.c (V1.out.on hB3)).2.1, (HdAt.c (V1.out.on hB3)).2.2, HP.out.on hB3⟩
          clear hK K
          try simp only [Act.put, List.getElem_toArray, List.getElem_cons_succ, List.getElem_cons_zero, List.setIfInBounds_toArray, List.set_cons_zero, List.set_cons_succ]
          refine wpAnyH_done (by kernel_rfl) ?_ _
          go_wp2_with fail
          go_meet
          exact ⟨_, rfl, lz, Z2.out, hB3⟩
        · rw [if_pos (by rfl)]
          go_simp
          have hB1 := hB0.alloc hB0.size (.cells #[.int .i64 0, .int .i64 0, .bool false] 25)
          have Z := Lib.hid (heap_alloc_new wa0 (.cells #[.int .i64 0, .int .i64 0, .bool false] 25))
          have lz : wr.heap.size ≤ wa0.heap.size := hB0.size
          generalize wa0.alloc (.cells #[.int .i64 0, .int .i64 0, .bool false] 25) = wa1 at hB1 Z ⊢
          clear hB0
          refine hK.out _ _ ?_ (fun hHeld => ?_)
          · exact ⟨(Below.cell (p := ⟨b, o + k, none⟩) hB1 HBL.out).trans HCC.out, (HdAt.c (V1.out.on hB1)).1, (HdAt.c (V1.out.on hB1)).2.1, (HdAt.c (V1.out.on hB1)).2.2, HP.out.on hB1⟩
          clear hK K
          try simp only [Act.put, List.getElem_toArray, List.getElem_cons_succ, List.getElem_cons_zero, List.setIfInBounds_toArray, List.set_cons_zero, List.set_cons_succ]
          refine wpAnyH_ready (rs := [7]) (by kernel_rfl) (by simp) ?_
          refine AllReadyH.cons rfl (fun K hK => ?_) AllReadyH.nil
          rw [if_pos (by rfl)]
          go_simp
          go_at_call 14
          refine (lnext_l HC.out q l d u T HT.out _ zc zl zg HZZ.out).mono ?_
          rintro r wa2 ⟨rfl, b⟩
          have hB2 := hB1.trans (b.mono hB1.size)
          have Z := Lib.hid ((b.block _ (lt_of_heap Z.out)).trans Z.out)
          clear b hB1
          refine hK.out _ _ ?_ (fun hHeld => ?_)
          · exact ⟨(Below.cell (p := ⟨b, o + k, none⟩) hB2 HBL.out).trans HCC.out, (HdAt.c (V1.out.on hB2)).1, (HdAt.c (V1.out.on hB2)).2.1, (HdAt.c (V1.out.on hB2)).2.2, HP.out.on hB2⟩
          clear hK K
          try simp only [Act.put, List.getElem_toArray, List.getElem_cons_succ, List.getElem_cons_zero, List.setIfInBounds_toArray, List.set_cons_zero, List.set_cons_succ]
          refine wpAnyH_ready (rs := [9]) (by kernel_rfl) (by simp) ?_
          refine AllReadyH.cons rfl (fun K hK => ?_) AllReadyH.nil
          rw [if_pos (by rfl)]
          refine wp_store_mid 25 (.tmp 15) (.tmp 60) (by rfl) wa0.heap.size 0 #[.int .i64 zc, .int .i64 zl, .bool zg] (by rfl) (by rfl) (there_of_block Z.out (by simp)) (by kernel_rfl) (by kernel_rfl) ?_
          have Z2 := Lib.hid (heap_setCells_whole (cs := [Value.int .i64 0, .int .i64 0, .bool false]) (#[.int .i64 zc, .int .i64 zl, .bool zg] : Array Value).toList rfl Z.out)
          have hB3 := below_setCells' wa0.heap.size lz (#[.int .i64 zc, .int .i64 zl, .bool zg] : Array Value).toList 0 hB2
          generalize wa2.setCells wa0.heap.size 0 (#[.int .i64 zc, .int .i64 zl, .bool zg] : Array Value).toList = wa3 at Z2 hB3 ⊢
          clear Z hB2
          refine hK.out _ _ ?_ (fun hHeld => ?_)
          · exact ⟨(Below.cell (p := ⟨b, o + k, none⟩) hB3 HBL.out).trans HCC.out, (HdAt.c (V1.out.on hB3)).1, (HdAt.c (V1.out.on hB3)).2.1, (HdAt.c (V1.out.on hB3)).2.2, HP.out.on hB3⟩
          clear hK K
          try simp only [Act.put, List.getElem_toArray, List.getElem_cons_succ, List.getElem_cons_zero, List.setIfInBounds_toArray, List.set_cons_zero, List.set_cons_succ]
          refine wpAnyH_done (by kernel_rfl) ?_ _
          go_wp2_with fail
          go_meet
          exact ⟨_, rfl, lz, Z2.out, hB3⟩
      case rest =>
      obtain ⟨g5, rfl, l5, V, b5⟩ := hcut
      generalize wc = w5 at *
      have V5 := Lib.hid V
      have V1 := Lib.hid (V1.out.on b5)
      have HP := Lib.hid (HP.out.on b5)
      clear V
      have HB := Lib.hid (bel2 HB.out b5)
      clear b5
      have wTl : IntKind.i64.wrap (T - la) = T - la := by have := HT0.out; have := HLA.out; have := HNW.out; have := HN.out; have := HK.out; rw [IntKind.wrap_i64]; omega
      have hf3 := (cell_of_row _ _ 3 _ _ _ HP.out).trans rfl
      obtain ⟨ca0, ca1, ca2⟩ := HdAt.c V1.out
      obtain ⟨cb0, cb1, cb2⟩ := HdAt.c V5.out
      by_cases hgt : q < zc
      · obtain ⟨rfl, rfl⟩ := HGR.out hgt
        have HLZ := HT0
        have HLQ : Hid (0 ≤ zl ∧ zl ≤ zl) := ⟨HT0.out.1, Int.le_refl _⟩
        have HDQ : Hid (true = true → zl = zl) := fun _ => rfl
        have nlt : ¬ zc < q := by omega
        go_wp2_with (first | (refine wpList_store_mid (by rfl) 25 (.tmp 10) (.tmp 96) (by rfl) V1g 0 #[.int .i64 zc, .int .i64 zl, .bool true] (by rfl) (by rfl) (there_of_block V1.out (by simp)) (by kernel_rfl) (by kernel_rfl) ?_) | fail)
        go_roundw
        case rel => exact ⟨k + 1, zl, zl, zc, zl, true, HK.out, by go_num, by trivial, by trivial, by trivial, HdAt.set V1.out (zc, zl, true), ⟨HIN.out.1, HIN.out.2.1⟩, HLZ.out, by have := HTb.out; have := HNW.out; exact ⟨by omega, by push_cast; omega⟩, HLQ.out, HDQ.out, HP.out.far (by have := V1l.out; omega) _, below_setCells' V1g (by have := V1l.out; omega) _ 0 HB.out⟩
        case measure => have := HK.out; simp [intOf]; omega
      · obtain ⟨rfl, rfl⟩ := HRE.out hgt
        have HLZ := HL
        have HLQ : Hid (0 ≤ la ∧ la ≤ T) := by show _ ∧ _; have := HLA.out; have := HTb.out; omega
        have HDQ := HDL
        cases zg
        · by_cases hls : zc < q
          · go_wp2_with (first | (refine wpList_store_mid (by rfl) 25 (.tmp 10) (.tmp 96) (by rfl) V1g 0 #[.int .i64 zc, .int .i64 zl, .bool false] (by rfl) (by rfl) (there_of_block V1.out (by simp)) (by kernel_rfl) (by kernel_rfl) ?_) | fail)
            go_roundw
            case rel => exact ⟨k + 1, T, la, zc, zl, false, HK.out, by go_num, by trivial, by trivial, by trivial, HdAt.set V1.out (zc, zl, false), ⟨HIN.out.1, HIN.out.2.1⟩, HLZ.out, by have := HTb.out; have := HNW.out; exact ⟨by omega, by push_cast; omega⟩, HLQ.out, HDQ.out, HP.out.far (by have := V1l.out; omega) _, below_setCells' V1g (by have := V1l.out; omega) _ 0 HB.out⟩
            case measure => have := HK.out; simp [intOf]; omega
          · go_wp2_with (first | (refine wpList_store_mid (by rfl) 25 (.tmp 10) (.tmp 96) (by rfl) V1g 0 #[.int .i64 zc, .int .i64 zl, .bool false] (by rfl) (by rfl) (there_of_block V1.out (by simp)) (by kernel_rfl) (by kernel_rfl) ?_) | fail)
            go_roundw
            case rel => exact ⟨k + 1, T, la, zc, zl, false, HK.out, by go_num, by trivial, by trivial, by trivial, HdAt.set V1.out (zc, zl, false), ⟨HIN.out.1, HIN.out.2.1⟩, HLZ.out, by have := HTb.out; have := HNW.out; exact ⟨by omega, by push_cast; omega⟩, HLQ.out, HDQ.out, HP.out.far (by have := V1l.out; omega) _, below_setCells' V1g (by have := V1l.out; omega) _ 0 HB.out⟩
            case measure => have := HK.out; simp [intOf]; omega
        · have hll := HDQ.out rfl
          subst hll
          by_cases hls : zc < q
          · have hns : ¬ (T - zl < c.stable) := fun h => HST.out hls ⟨rfl, h⟩
            go_wp2_with (first | (refine wpList_store_mid (by rfl) 25 (.tmp 10) (.tmp 96) (by rfl) V1g 0 #[.int .i64 zc, .int .i64 zl, .bool true] (by rfl) (by rfl) (there_of_block V1.out (by simp)) (by kernel_rfl) (by kernel_rfl) ?_) | fail)
            go_roundw
            case rel => exact ⟨k + 1, T, zl, zc, zl, true, HK.out, by go_num, by trivial, by trivial, by trivial, HdAt.set V1.out (zc, zl, true), ⟨HIN.out.1, HIN.out.2.1⟩, HLZ.out, by have := HTb.out; have := HNW.out; exact ⟨by omega, by push_cast; omega⟩, HLQ.out, HDQ.out, HP.out.far (by have := V1l.out; omega) _, below_setCells' V1g (by have := V1l.out; omega) _ 0 HB.out⟩
            case measure => have := HK.out; simp [intOf]; omega
          · go_wp2_with (first | (refine wpList_store_mid (by rfl) 25 (.tmp 10) (.tmp 96) (by rfl) V1g 0 #[.int .i64 zc, .int .i64 zl, .bool true] (by rfl) (by rfl) (there_of_block V1.out (by simp)) (by kernel_rfl) (by kernel_rfl) ?_) | fail)
            go_roundw
            case rel => exact ⟨k + 1, T, zl, zc, zl, true, HK.out, by go_num, by trivial, by trivial, by trivial, HdAt.set V1.out (zc, zl, true), ⟨HIN.out.1, HIN.out.2.1⟩, HLZ.out, by have := HTb.out; have := HNW.out; exact ⟨by omega, by push_cast; omega⟩, HLQ.out, HDQ.out, HP.out.far (by have := V1l.out; omega) _, below_setCells' V1g (by have := V1l.out; omega) _ 0 HB.out⟩
            case measure => have := HK.out; simp [intOf]; omega
    · have hlt' : ¬ (k : Int) < (n : Int) := by omega
      go_wp2
      go_ret
      exact ⟨rfl, HB.out⟩
end Go.Proofs.Ytllphglhkpcclaa
