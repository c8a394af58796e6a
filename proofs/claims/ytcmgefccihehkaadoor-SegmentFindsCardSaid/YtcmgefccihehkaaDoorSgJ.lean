/- The reference's Find: the walk. -/
import Derived.Test.YtcmgefccihehkaaDoorSgI
import Derived.Test.YtcmgefccihehkaaDoorFrC
namespace Go.Proofs.YtcmgefccihehkaaDoor
open Go.RowKit Go.Shelf
open Crc Frm

theorem results_row_tmp1 {P : Program} {fn : Func} {p u : Tmp} {ty : TypeId} (h : fn.results = #[.cell p ty, .tmp u]) (tmps : Array Value) (w : World) (g : Nat) (t : TypeId) (cs : Array Value) (fr : Nat × Nat) (d : TypeDesc)
    (hp : tmps.getD p undef = .pointer (some ⟨g, 0, none⟩)) (hg : w.heap[g]? = some (.cells cs t fr))
    (hu : P.underlying ty = some d) (hd : (match d with | .struct _ | .array _ _ => true | _ => false) = true) (hi : (P.info? ty).map (·.size) = some cs.size) :
    (results fn tmps).run P w = .ok (.tuple #[.agg cs, tmps.getD u undef]) w := by
  have hp' : tmps[p]?.getD undef = .pointer (some ⟨g, 0, none⟩) := by simpa using hp
  simp [results, h, hp', asAddr, run_loadVar_row w g t ty cs fr d hg hu hd hi]

set_option maxRecDepth 100000 in
set_option maxHeartbeats 3200000 in
theorem rfind_any (a : Option Addr) (len cap : Nat) (bs : List Nat) (la : Option Addr) (ll lc : Nat) (xs : List (Int × Int)) (hl : ll ≤ 100000) (seq : Int) (w : World) (hs : Sl w w.heap.size a len cap bs) (hlen : len ≤ 100000) (hx : Spts w w.heap.size la ll lc xs) :
    Calls Tryd.prog 20 #[.slice a len cap, .slice la ll lc, .int .i64 seq] w fun e w' => FndPost (look bs xs seq) seq w e w' := by
  have HLK : Hid (look bs xs seq = if 0 ≤ lastAt xs seq ∧ lastAt xs seq ≤ (bs.length : Int) then tolds bs (lastAt xs seq).toNat else []) := rfl
  generalize look bs xs seq = LK at HLK ⊢
  have hxl := hx.length
  have hxe := hx.le
  have hxm := hx.max
  unfold maxLen at hxm
  have hbl := hs.length
  obtain ⟨w0, hw0⟩ : ∃ w0, w0 = w.alloc (.cells #[.int .i64 0, .int .i64 0, .slice none 0 0] 36) := ⟨_, rfl⟩
  have hB0 : Below w.heap.size w w0 := by rw [hw0]; exact (Below.refl _ _).alloc (Nat.le_refl _) _
  have hr0 : w0.heap[w.heap.size]? = some (frCells Fr.zero none 0) := by rw [hw0]; exact heap_alloc_new w _
  have H0 := Lib.hid (And.intro hB0 hr0)
  clear hB0 hr0
  go_enter Tryd.func20, Tryd.ntmps20
  go_upto_region 3 with fail
  rw [← hw0]
  clear hw0
  go_loopw [8, 9] (fun v i wx => ∃ j : Nat, j ≤ ll ∧ i = .int .i64 (j : Int) ∧ v = .int .i64 (lastAt (xs.take j) seq) ∧ wx = w0) (fun _ i _ => ll - (intOf i).toNat)
  case atStart => exact ⟨0, by omega, rfl, rfl, rfl⟩
  case round =>
    obtain ⟨j, hj, rfl, rfl, rfl⟩ := hrel
    by_cases hlt : j < ll
    · obtain ⟨b, o, rfl, hb, hc⟩ := (hx.below H0.out.1 (Nat.le_refl _)).at_ (by omega)
      have hjl : j < xs.length := by omega
      have hgj : xs[j]? = some xs[j] := List.getElem?_eq_getElem hjl
      obtain ⟨y0, y1⟩ := hc j _ hgj
      have htk : xs.take (j + 1) = xs.take j ++ [xs[j]] := by rw [List.take_add_one, hgj]; rfl
      have hla := lastAt_snoc (xs.take j) xs[j] seq
      rw [← htk] at hla
      generalize xs[j] = x at y0 y1 hla
      obtain ⟨x1, x2⟩ := x
      simp only at y0 y1 hla
      have HL := Lib.hid hla
      clear hla htk hgj hc
      by_cases hq : x1 ≤ seq
      · have hla := HL.out
        rw [if_pos hq] at hla
        have HL := Lib.hid hla
        clear hla
        go_wp2_with fail
        go_roundw
        case rel => exact ⟨j + 1, by omega, by go_num, by rw [HL.out], by trivial⟩
        case measure => simp [intOf]; omega
      · have hla := HL.out
        rw [if_neg hq] at hla
        have HL := Lib.hid hla
        have hq' : seq < x1 := by omega
        clear hla hq
        go_wp2_with fail
        go_roundw
        case rel => exact ⟨j + 1, by omega, by go_num, by rw [HL.out], by trivial⟩
        case measure => simp [intOf]; omega
    · have hjk : j = ll := by omega
      subst hjk
      rw [List.take_of_length_le (by omega)]
      generalize lastAt xs seq = at0 at HLK ⊢
      by_cases hn : at0 < 0
      · have hLK : LK = [] := by rw [HLK.out, if_neg (by omega)]
        have HLK2 := Lib.hid hLK
        clear hLK
        go_wp2_with (refine wpList_store_mid (by rfl) 36 (.tmp 6) (.tmp 33) (by rfl) w.heap.size 0 #[.int .i64 0, .int .i64 0, .slice none 0 0] (by rfl) (by rfl) (there_of_block H0.out.2 (by simp)) (by kernel_rfl) zero_cells ?_)
        refine bodyPost_ret (results_row_tmp1 rfl _ _ w.heap.size _ _ _ _ rfl (heap_setCells_whole (cs := [Value.int .i64 0, .int .i64 0, .slice none 0 0]) [Value.int .i64 0, .int .i64 0, .slice none 0 0] rfl H0.out.2) Tryd.underlying36 (by rfl) (by kernel_rfl)) (by rfl) ?_
        exact FndPost.none_ (by rw [HLK2.out]; rfl) (below_setCells' _ (Nat.le_refl _) _ _ H0.out.1)
      · obtain ⟨p0, rfl⟩ := Int.eq_ofNat_of_zero_le (show 0 ≤ at0 by omega)
        have hn' : (0 : Int) ≤ (p0 : Int) := by omega
        have HLK3 : Hid ((p0 ≤ len ∧ fnd (tolds bs p0) seq = fnd LK seq) ∨ (len < p0 ∧ fnd LK seq = none)) := by
          show _
          have h := HLK.out
          by_cases hp : p0 ≤ len
          · rw [if_pos ⟨by omega, by omega⟩, Int.toNat_natCast] at h
            exact .inl ⟨hp, by rw [h]⟩
          · rw [if_neg (by omega)] at h
            exact .inr ⟨by omega, by rw [h]; rfl⟩
        clear hn hn' HLK
        go_upto_region 9 with fail
        go_loopw [8] (fun v wx => ∃ p : Nat, v = .int .i64 (p : Int) ∧ ((p ≤ len ∧ fnd (tolds bs p) seq = fnd LK seq) ∨ (len < p ∧ fnd LK seq = none)) ∧ Below w.heap.size w wx ∧ wx.heap[w.heap.size]? = some (frCells Fr.zero none 0)) (fun v _ => len + 1 - (intOf v).toNat)
        case atStart => exact ⟨p0, rfl, HLK3.out, H0.out.1, H0.out.2⟩
        case round =>
          obtain ⟨p, rfl, hcase, hB, hz⟩ := hrel
          rcases hcase with ⟨hp, hfd⟩ | ⟨hp, hfd⟩
          · have hp' : (p : Int) ≤ (len : Int) := by omega
            have hst := @get_step bs p
            have hty := @tolds_yes bs p
            have htn := @tolds_no bs p
            obtain ⟨⟨f, n, er⟩, hg⟩ : ∃ r, r = get (bs.drop p) := ⟨_, rfl⟩
            rw [← hg] at hst hty htn
            simp only at hst hty htn
            have hsf := hs.from_ hp
            have cutf : ∀ w, (Instr.slice 22 (.slice a len cap) (some (.int .i64 (p : Int))) none none).run Tryd.prog w = .ok (.slice (fromA a cap p) (len - p) (cap - p)) w := run_cut_from (P := Tryd.prog) 22 5 Tryd.underlying22 info_u8 a len cap p hp
            have hcl := hs.le
            have RG := Lib.hid (rget_of hg.symm _ _ _ wr ((hsf.below hB (Nat.le_refl _)).more hB.size))
            have HB := Lib.hid (And.intro hB hz)
            clear hg hsf hB hz
            by_cases h0 : er = 0
            · subst h0
              obtain ⟨hn11, hnl⟩ := hst rfl
              have hts := hty rfl
              rw [hts] at hfd
              have Hfd := Lib.hid hfd
              clear hst hty htn hts hfd
              go_upto_region 11 with (go_at_call 27; refine RG.out.mono ?_; rintro e w6 ⟨ba, bc, rfl, hsf, hb, _⟩; have H6 := Lib.hid (And.intro hsf (And.intro (HB.out.1.trans (hb.mono HB.out.1.size)) ((hb.block _ (lt_of_heap HB.out.2)).trans HB.out.2))); clear hsf hb)
              have F7 := heap_alloc_new w6 (.cells #[.int .i64 f.ty, .int .i64 f.seq, .slice ba f.body.length bc] 36)
              have hB7 : Below w.heap.size w (w6.alloc (.cells #[.int .i64 f.ty, .int .i64 f.seq, .slice ba f.body.length bc] 36)) := H6.out.2.1.alloc H6.out.2.1.size _
              have hR7 := (heap_alloc_old w6 (.cells #[.int .i64 f.ty, .int .i64 f.seq, .slice ba f.body.length bc] 36) (lt_of_heap H6.out.2.2)).trans H6.out.2.2
              have S7 : Sl (w6.alloc (.cells #[.int .i64 f.ty, .int .i64 f.seq, .slice ba f.body.length bc] 36)) (w6.alloc (.cells #[.int .i64 f.ty, .int .i64 f.seq, .slice ba f.body.length bc] 36)).heap.size ba f.body.length bc f.body := (H6.out.1.below ((Below.refl _ w6).alloc (Nat.le_refl _) _) (Nat.le_refl _)).more (by simp)
              generalize w6.alloc (.cells #[.int .i64 f.ty, .int .i64 f.seq, .slice ba f.body.length bc] 36) = w7 at F7 hB7 hR7 S7 ⊢
              generalize w6.heap.size = bx at F7 ⊢
              have u0 := (cell_of_row w7 bx 0 _ _ _ F7).trans rfl
              have u1 := (cell_of_row w7 bx 1 _ _ _ F7).trans rfl
              have u2 := (cell_of_row w7 bx 2 _ _ _ F7).trans rfl
              have H7 := Lib.hid (And.intro hB7 (And.intro hR7 S7))
              clear F7 hB7 hR7 S7 H6 RG HB
              by_cases hgt : seq < f.seq
              · have hfn : fnd LK seq = none := by rw [← Hfd.out]; simp only [fnd]; rw [if_neg (by omega), if_pos hgt]
                have Hfn := Lib.hid hfn
                clear hfn Hfd
                go_wp2_with (refine wpList_store_mid (by rfl) 36 (.tmp 6) (.tmp 54) (by rfl) w.heap.size 0 #[.int .i64 0, .int .i64 0, .slice none 0 0] (by rfl) (by rfl) (there_of_block H7.out.2.1 (by simp)) (by kernel_rfl) zero_cells ?_)
                refine bodyPost_ret (results_row_tmp1 rfl _ _ w.heap.size _ _ _ _ rfl (heap_setCells_whole (cs := [Value.int .i64 0, .int .i64 0, .slice none 0 0]) [Value.int .i64 0, .int .i64 0, .slice none 0 0] rfl H7.out.2.1) Tryd.underlying36 (by rfl) (by kernel_rfl)) (by rfl) ?_
                exact FndPost.none_ Hfn.out (below_setCells' _ (Nat.le_refl _) _ _ H7.out.1)
              · have hle : f.seq ≤ seq := by omega
                clear hgt
                by_cases heq : f.seq = seq
                · have hfn : fnd LK seq = some f := by rw [← Hfd.out]; simp only [fnd]; rw [if_pos heq]
                  have Hfn := Lib.hid hfn
                  have heq' : (f.seq == seq) = true := by simpa using heq
                  clear hfn Hfd heq
                  have r0 := (cell_of_row w7 w.heap.size 0 _ _ _ H7.out.2.1).trans rfl
                  have r1 := (cell_of_row w7 w.heap.size 1 _ _ _ H7.out.2.1).trans rfl
                  have r2 := (cell_of_row w7 w.heap.size 2 _ _ _ H7.out.2.1).trans rfl
                  have z0 := frozen_of_row w7 w.heap.size 0 _ _ H7.out.2.1
                  have z1 := frozen_of_row w7 w.heap.size 1 _ _ H7.out.2.1
                  have z2 := frozen_of_row w7 w.heap.size 2 _ _ H7.out.2.1
                  go_wp2_with fail
                  refine bodyPost_ret (results_row_tmp1 rfl _ _ w.heap.size _ _ _ _ rfl (frame_set H7.out.2.1 f ba bc) Tryd.underlying36 (by rfl) (by kernel_rfl)) (by rfl) ?_
                  have nn := Sl.apart H7.out.2.2 H7.out.2.1 (by simp [Fr.zero])
                  exact FndPost.some_ Hfn.out ((((H7.out.2.2.far ⟨w.heap.size, 0, none⟩ _ nn).far ⟨w.heap.size, 1, none⟩ _ nn).far ⟨w.heap.size, 2, none⟩ _ nn).more (by simp)) (below_set3 H7.out.1 (Nat.le_refl _))
                · have heq' : (f.seq == seq) = false := by simpa using heq
                  have hfn : fnd (tolds bs (p + n)) seq = fnd LK seq := by rw [← Hfd.out]; simp only [fnd]; rw [if_neg heq, if_neg (by omega)]
                  have Hfn := Lib.hid hfn
                  clear hfn Hfd heq
                  go_wp2_with fail
                  go_roundw
                  case rel => exact ⟨p + n, by go_num, .inl ⟨by omega, Hfn.out⟩, H7.out.1, H7.out.2.1⟩
                  case measure => simp [intOf]; omega
            · have hts := htn h0
              rw [hts] at hfd
              have Hfd := Lib.hid hfd
              have h0' : ((er : Int) != 0) = true := by simp; omega
              clear hst hty htn hts hfd h0
              go_upto_region 11 with (go_at_call 27; refine RG.out.mono ?_; rintro e w6 ⟨ba, bc, rfl, _, hb, _⟩; have H6 := Lib.hid (And.intro ((HB.out.1.trans (hb.mono HB.out.1.size)).alloc (HB.out.1.trans (hb.mono HB.out.1.size)).size (.cells #[.int .i64 f.ty, .int .i64 f.seq, .slice ba f.body.length bc] 36)) ((heap_alloc_old _ (.cells #[.int .i64 f.ty, .int .i64 f.seq, .slice ba f.body.length bc] 36) (Nat.lt_of_lt_of_le (lt_of_heap HB.out.2) hb.size)).trans ((hb.block _ (lt_of_heap HB.out.2)).trans HB.out.2))); clear hb)
              generalize w6.alloc (.cells #[.int .i64 f.ty, .int .i64 f.seq, .slice ba f.body.length bc] 36) = w7 at H6 ⊢
              go_wp2_with (refine wpList_store_mid (by rfl) 36 (.tmp 6) (.tmp 54) (by rfl) w.heap.size 0 #[.int .i64 0, .int .i64 0, .slice none 0 0] (by rfl) (by rfl) (there_of_block H6.out.2 (by simp)) (by kernel_rfl) zero_cells ?_)
              refine bodyPost_ret (results_row_tmp1 rfl _ _ w.heap.size _ _ _ _ rfl (heap_setCells_whole (cs := [Value.int .i64 0, .int .i64 0, .slice none 0 0]) [Value.int .i64 0, .int .i64 0, .slice none 0 0] rfl H6.out.2) Tryd.underlying36 (by rfl) (by kernel_rfl)) (by rfl) ?_
              exact FndPost.none_ (by rw [← Hfd.out]; rfl) (below_setCells' _ (Nat.le_refl _) _ _ H6.out.1)
          · have hp' : (len : Int) < (p : Int) := by omega
            have HB := Lib.hid (And.intro hB (And.intro hz hfd))
            clear hB hz hfd
            go_wp2_with (refine wpList_store_mid (by rfl) 36 (.tmp 6) (.tmp 63) (by rfl) w.heap.size 0 #[.int .i64 0, .int .i64 0, .slice none 0 0] (by rfl) (by rfl) (there_of_block HB.out.2.1 (by simp)) (by kernel_rfl) zero_cells ?_)
            refine bodyPost_ret (results_row_tmp1 rfl _ _ w.heap.size _ _ _ _ rfl (heap_setCells_whole (cs := [Value.int .i64 0, .int .i64 0, .slice none 0 0]) [Value.int .i64 0, .int .i64 0, .slice none 0 0] rfl HB.out.2.1) Tryd.underlying36 (by rfl) (by kernel_rfl)) (by rfl) ?_
            exact FndPost.none_ HB.out.2.2 (below_setCells' _ (Nat.le_refl _) _ _ HB.out.1)
end Go.Proofs.YtcmgefccihehkaaDoor
