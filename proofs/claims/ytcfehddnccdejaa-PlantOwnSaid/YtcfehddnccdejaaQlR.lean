/- The program's plant: withoutNoughts, slices.Clone, further. -/
import Derived.Test.YtcfehddnccdejaaQlE
import Derived.Test.YtcfehddnccdejaaApI
import Derived.Deep.CutRange
import Derived.Deep.RegionHeld
import Derived.Lib.MinMax
import Derived.Lib.SliceRun
import Derived.StillTailTactics
namespace Go.Proofs.Ytcfehddnccdejaa
set_option linter.unusedSimpArgs false
set_option linter.unusedVariables false
open Go.RowKit
open Evn Plt
attribute [local go_sem] Oper.semAt_some

theorem take_trim {l : List Int} {j : Nat} (hj : j < l.length) (h0 : l.getD j 0 = 0) : trim (l.take (j + 1)) = trim (l.take j) := by
  have e : l.take (j + 1) = l.take j ++ [0] := by
    rw [List.take_succ_eq_append_getElem hj]
    rw [List.getD_eq_getElem?_getD, List.getElem?_eq_getElem hj] at h0
    simp at h0
    rw [h0]
  rw [e, trim_snoc_zero]
theorem take_trim_ne {l : List Int} {j : Nat} (hj : j < l.length) (h0 : l.getD j 0 ≠ 0) : trim (l.take (j + 1)) = l.take (j + 1) := by
  have e : l.take (j + 1) = l.take j ++ [l.getD j 0] := by
    rw [List.take_succ_eq_append_getElem hj, List.getD_eq_getElem?_getD, List.getElem?_eq_getElem hj]
    rfl
  rw [e, trim_snoc h0]
theorem OwnV.down {w : World} {base base' : Nat} {e : TypeId} {v : Value} {us : List Value} (h : OwnV w base e v us) (hb : base' ≤ base) : OwnV w base' e v us := by
  refine ⟨h.1, ?_⟩
  rcases h.2 with h2 | ⟨g, cap, cur, h1, h2, r⟩
  · exact .inl h2
  · exact .inr ⟨g, cap, cur, h1, Nat.le_trans hb h2, r⟩
theorem OwnV.stay {w w' : World} {base : Nat} {e : TypeId} {v : Value} {us : List Value} (h : OwnV w base e v us) (hb : ∀ j, base ≤ j → j < w.heap.size → w'.heap[j]? = w.heap[j]?) : OwnV w' base e v us := by
  refine ⟨h.1, ?_⟩
  rcases h.2 with h1 | ⟨g, cap, cur, hv, h1, h2, r⟩
  · exact .inl h1
  · exact .inr ⟨g, cap, cur, hv, h1, (hb g h1 (lt_of_heap h2)).trans h2, r⟩
/-- A beginning of a row. -/
theorem SRw.take {w : World} {a : Option Addr} {k : Nat} {l : List Int} (h : SRw w a k l) (j : Nat) : SRw w a k (l.take j) := by
  by_cases hl : j < l.length
  · have h0 := h.row.le
    obtain ⟨b, o, e, hlt, hc⟩ := h.row.at_ (by omega)
    have ht : (l.take j).length = j := by rw [List.length_take]; omega
    refine ⟨⟨by omega, h.row.max, fun hp => ⟨b, o, e, hlt, fun i hi => ?_⟩⟩, fun hn => ?_⟩
    · rw [hc i (by omega)]
      simp only [intsC, List.getD_eq_getElem?_getD]
      rw [List.getElem?_take_of_lt (by omega)]
    · have := h.nil_ hn; omega
  · rw [List.take_of_length_le (by omega)]; exact h
set_option maxRecDepth 100000 in
set_option maxHeartbeats 3200000 in
theorem ptrim_any {w : World} {a : Option Addr} {k : Nat} {l : List Int} (h : SRw w a k l) (hl8 : l.length ≤ 8) :
    Calls Try.prog 25 #[.slice a l.length k] w fun r w' => r = .returned (.slice a (trim l).length k) ∧ SRw w a k (trim l) ∧ w' = w := by
  obtain ⟨n, hn⟩ : ∃ n, l.length = n := ⟨_, rfl⟩
  have hle := h.row.le
  have hmx := h.row.max
  unfold maxLen at hmx
  have HC := Lib.hid (fun j (hj : j < l.length) => h.cell hj)
  have HT := Lib.hid (fun j => h.take j)
  have HN := Lib.hid hn
  have HCUT := Lib.hid (fun (m : Nat) (hm : m ≤ k) (y : World) => run_cut1_to (P := Try.prog) 24 3 Try.underlying24 info_int a n k m hm y)
  rw [hn] at hle hl8 ⊢
  clear h hn
  go_enter Try.func25, Try.ntmps25
  go_wp2_with fail
  go_loopw [3] (fun v wx => ∃ j : Nat, j ≤ n ∧ v = .int .i64 (j : Int) ∧ trim (l.take j) = trim l ∧ wx = w) (fun v _ => (intOf v).toNat)
  case atStart => exact ⟨n, Nat.le_refl _, rfl, by rw [List.take_of_length_le (by rw [HN.out]; exact Nat.le_refl _)], rfl⟩
  case round =>
    obtain ⟨j, hj, rfl, ht, rfl⟩ := hrel
    have hT := Lib.hid ht
    have HJ := Lib.hid hj
    have hcut := HCUT.out j (by omega)
    by_cases h0 : j = 0
    · subst h0
      have e0 : trim l = [] := by rw [← ht]; rfl
      have HE := Lib.hid e0
      clear ht e0
      go_wp2_with fail
      go_ret
      rw [HE.out]
      exact ⟨rfl, by have := HT.out 0; rw [List.take_zero] at this; exact this, rfl⟩
    · obtain ⟨e, rfl⟩ : ∃ e, j = e + 1 := ⟨j - 1, by omega⟩
      obtain ⟨b, o, rfl, hbl, hc⟩ := HC.out e (by rw [HN.out]; omega)
      have hel : e < l.length := by rw [HN.out]; omega
      have t1 := take_trim hel
      have t2 := take_trim_ne hel
      have hp : (0 : Int) < ((e + 1 : Nat) : Int) := by omega
      have hq : IntKind.i64.wrap (((e + 1 : Nat) : Int) - 1) = (e : Int) := by rw [IntKind.wrap_i64]; omega
      have hen : (e : Int) < (n : Int) := by omega
      have he0 : (0 : Int) ≤ (e : Int) := by omega
      have HTK := Lib.hid (HT.out (e + 1))
      have hlk : (l.take (e + 1)).length = e + 1 := by rw [List.length_take]; omega
      have HLK := Lib.hid hlk
      clear hel hlk h0 ht
      generalize l.getD e 0 = x at *
      by_cases hx : x = 0
      · have T1 := Lib.hid (t1 hx)
        subst hx
        clear t1 t2
        go_wp2_with fail
        go_roundw
        case rel => exact ⟨e, by have := HJ.out; omega, rfl, by rw [← T1.out]; exact hT.out, by trivial⟩
        case measure => simp [intOf]
      · have T2 := Lib.hid (t2 hx)
        have hxb : (x == 0) = false := by simpa using hx
        have hcut := HCUT.out (e + 1) (by omega)
        clear t1 t2 hx
        have HE : Hid (trim l = l.take (e + 1)) := by show _ = _; rw [← hT.out, T2.out]
        go_wp2_with fail
        go_ret
        rw [HE.out, HLK.out]
        exact ⟨rfl, HTK.out, rfl⟩
set_option maxRecDepth 100000 in
set_option maxHeartbeats 3200000 in
theorem pclone_any {w : World} {k : Nat} {a : Option Addr} {l : List Int} (h : SRw w a k l) (hl8 : l.length ≤ 8) :
    Calls Try.prog 32 #[.slice a l.length k] w fun r w' => ∃ v, r = .returned v ∧ OwnV w' w.heap.size 3 v (i64V l) ∧ Below w.heap.size w w' := by
  have qT : ∀ (w : World) (a : Option Addr) (n c n' c' : Nat), (binOp .eql 24 (.slice a n c) (.slice none n' c')).run Try.prog w = .ok (.bool a.isNone) w := fun w a n c n' c' => Lib.run_eql_slice_nil w _ _ a n c n' c' Try.underlying24
  cases a with
  | none =>
    obtain ⟨h1, h2⟩ := h.nil_ rfl
    have hl : l = [] := List.eq_nil_of_length_eq_zero h1
    subst hl h2
    clear h h1
    go_enter Try.func32, Try.ntmps32
    go_wp2
    go_ret
    exact ⟨_, rfl, OwnV.nil_ _ _ _, Below.refl _ _⟩
  | some x =>
    have own0 : OwnV (w.alloc (.cells #[] 3)) w.heap.size 3 (.slice (some ⟨w.heap.size, 0, none⟩) 0 0) (i64V []) := OwnV.lit_ (w := w) 3 [] (Nat.le_refl _) (by decide)
    have HO := Lib.hid own0
    have HR := Lib.hid (h.on (bel1 (Below.refl w.heap.size w) (.cells #[] 3)))
    have HL := Lib.hid hl8
    clear own0 h hl8
    go_enter Try.func32, Try.ntmps32
    go_wp2_with (first | (at_builtin; refine wpList_append_ints rfl (.tmp 5) (.tmp 6) 24 rfl (w.heap.size) 3 Try.underlying24 info_int (.slice (some ⟨w.heap.size, 0, none⟩) 0 0) [] (by rfl) HO.out _ (some x) _ k l (by rfl) HR.out.row rfl HR.out.nil_ (by have := HL.out; simp; omega) (by simp) ?_; intro v1 w3 hown hg hat; have HQ := Lib.hid hown; have HG := Lib.hid hg; clear hown hg hat))
    go_wp2
    go_ret
    refine ⟨v1, rfl, by have := HQ.out; rw [List.nil_append] at this; exact this, (bel1 (Below.refl w.heap.size w) _).grown HG.out (by simp) (fun j hj => by simp [Value.ownBlock] at hj; omega)⟩
set_option maxRecDepth 100000 in
set_option maxHeartbeats 3200000 in
theorem pfurther_any {w : World} {p : Pt} {a : Option Addr} {k : Nat} (hn : NOk p) (h : SRw w a k p.start) (hal : all p ≤ 1000) :
    Calls Try.prog 21 #[ptV p a k] w fun r w' => ∃ v, r = .returned (.agg #[.int .i64 (first p).ready, v, .int .i64 p.wait, .int .i64 p.util]) ∧ OwnV w' w.heap.size 3 v (i64V (first p).start) ∧ Below w.heap.size w w' := by
  obtain ⟨x, hx⟩ : ∃ x, x = (w.alloc (.cells #[.int .i64 p.ready, .slice a p.start.length k, .int .i64 p.wait, .int .i64 p.util] 26)).alloc (.cells #[.int .i64 0, .slice none 0 0, .int .i64 0, .int .i64 0] 26) := ⟨_, rfl⟩
  have hB : Below w.heap.size w x := by rw [hx]; exact bel1 (bel1 (Below.refl _ _) _) _
  have hP : PtAt x w.heap.size p a k := by rw [hx]; exact (PtAt.on (heap_alloc_new w (.cells #[.int .i64 p.ready, .slice a p.start.length k, .int .i64 p.wait, .int .i64 p.util] 26)) (bel1 (Below.refl _ _) _))
  have hZ : x.heap[w.heap.size + 1]? = some (.cells #[.int .i64 0, .slice none 0 0, .int .i64 0, .int .i64 0] 26 (0, 0)) := by rw [hx]; exact la2 _ _ _
  obtain ⟨c0, c1, _, _⟩ := PtAt.c hP
  have f0 := frozen_of_row x w.heap.size 0 _ _ hP
  have f1 := frozen_of_row x w.heap.size 1 _ _ hP
  have HR := Lib.hid (h.on hB)
  have H0 := Lib.hid h
  have HB := Lib.hid hB
  have HP := Lib.hid hP
  have HZ := Lib.hid hZ
  have HX := Lib.hid hx
  have HO := Lib.hid hn
  have HSZ : Hid (w.heap.size + 2 ≤ x.heap.size) := by show _ ≤ _; have := lt_of_heap hZ; omega
  clear hB hP hZ hx h hn
  unfold ptV
  rcases hs : p.start with _ | ⟨v, l⟩
  · have HF : Hid ((first p).ready = p.ready ∧ (first p).start = []) := by
      show _ ∧ _
      unfold first
      split
      · exact ⟨rfl, hs⟩
      · rename_i e; rw [hs] at e; cases e
    rw [hs] at HX c1
    have HPx : Hid (x.heap[w.heap.size]? = some (.cells #[.int .i64 p.ready, .slice a 0 k, .int .i64 p.wait, .int .i64 p.util] 26 (0, 0))) := by
      have := HP.out
      unfold PtAt at this
      rw [hs] at this
      exact this
    simp only [List.length_nil] at HX c1 ⊢
    clear HR HP hs
    go_enter Try.func21, Try.ntmps21
    go_upto_region 1 with fail
    rw [← HX.out]
    clear HX
    go_upto_region 3 with fail
    have P5 := heap_setCell_same x w.heap.size 1 _ 26 (.slice none 0 0) HPx.out
    have Z5 := (Below.heap_setCell x ⟨w.heap.size, 1, none⟩ (.slice none 0 0) (w.heap.size + 1) (by show w.heap.size + 1 ≠ w.heap.size; omega)).trans HZ.out
    have B5 := HB.out.setCell (p := ⟨w.heap.size, 1, none⟩) (Nat.le_refl _) (.slice none 0 0)
    have P5 : Hid ((x.setCell ⟨w.heap.size, 1, none⟩ (.slice none 0 0)).heap[w.heap.size]? = some (.cells #[.int .i64 p.ready, .slice none 0 0, .int .i64 p.wait, .int .i64 p.util] 26 (0, 0))) := P5
    have Z5 := Lib.hid Z5
    have B5 := Lib.hid B5
    clear HB HPx HZ HSZ c0 c1 f0 f1
    generalize x.setCell ⟨w.heap.size, 1, none⟩ (.slice none 0 0) = w5 at *
    go_wp2_with (first | (refine wpList_load_rowG (by first | rfl | kernel_rfl | (simp [Region.wanted, yielded])) 26 (.tmp 1) (by rfl) (w.heap.size) (by rfl) 26 _ (0, 0) _ P5.out Try.underlying26 (by rfl) (by kernel_rfl) ?_) | (refine wpList_store_mid (by rfl) 26 (.tmp 2) (.tmp 8) (by rfl) (w.heap.size + 1) 0 #[.int .i64 p.ready, .slice none 0 0, .int .i64 p.wait, .int .i64 p.util] (by rfl) (by rfl) (there_of_block Z5.out (by simp)) (by kernel_rfl) (by kernel_rfl) ?_) | fail)
    refine bodyPost_ret (results_cell_row rfl _ _ (w.heap.size + 1) _ _ _ _ rfl (heap_setCells_whole (cs := [Value.int .i64 0, .slice none 0 0, .int .i64 0, .int .i64 0]) (#[.int .i64 p.ready, .slice none 0 0, .int .i64 p.wait, .int .i64 p.util] : Array Value).toList rfl Z5.out) Try.underlying26 (by rfl) (by kernel_rfl)) (by rfl) ?_
    refine ⟨.slice none 0 0, by rw [HF.out.1], by rw [HF.out.2]; exact OwnV.nil_ _ _ _, below_setCells' (w.heap.size + 1) (by omega) _ 0 B5.out⟩
  · have HF : Hid ((first p).ready = p.ready + v ∧ (first p).start = l) := by
      show _ ∧ _
      unfold first
      split
      · rename_i e; rw [hs] at e; cases e
      · rename_i e; rw [hs] at e; injection e with e1 e2; subst e1 e2; exact ⟨rfl, rfl⟩
    have hlen := HO.out.len
    have hv := HO.out.nums v (by rw [hs]; simp)
    have hr1 := HO.out.r1
    have hr2 := HO.out.r2
    rw [hs] at hlen HR
    simp only [List.length_cons] at hlen
    have HS : Hid (p.start = v :: l) := hs
    have hpl : p.start.length = l.length + 1 := by rw [hs]; rfl
    rw [hpl] at HX c1
    have HPx : Hid (x.heap[w.heap.size]? = some (.cells #[.int .i64 p.ready, .slice a (l.length + 1) k, .int .i64 p.wait, .int .i64 p.util] 26 (0, 0))) := by
      have := HP.out
      unfold PtAt at this
      rw [hpl] at this
      exact this
    obtain ⟨b0, o0, e0, hb0, _⟩ := H0.out.cell (j := 0) (by rw [hs]; simp)
    obtain ⟨b1, o1, rfl, hb1, hcv⟩ := HR.out.cell (j := 0) (by simp)
    have hb9 : b1 < w.heap.size := by injection e0 with e0; injection e0 with e1 e2; rw [e1]; exact hb0
    have HB9 := Lib.hid hb9
    clear e0 hb0 hb9 H0
    have hcv : x.cell? ⟨b1, o1, none⟩ = some (.int .i64 v) := hcv
    have hle := HR.out.row.le
    simp only [List.length_cons] at hle ⊢
    have wv : IntKind.i64.wrap (p.ready + v) = p.ready + v := by rw [IntKind.wrap_i64]; omega
    have h0l : (0 : Int) < ((l.length + 1 : Nat) : Int) := by omega
    have h0n : 0 < l.length + 1 := by omega
    obtain ⟨n, hn⟩ : ∃ n, n = l.length + 1 := ⟨_, rfl⟩
    have hln : (((l.length + 1 : Nat) : Int) == 0) = false := by simp; omega
    rw [← hn] at HX c1 HPx h0l h0n hln hle ⊢
    have HN := Lib.hid hn
    obtain ⟨a2, ha2⟩ : ∃ a2, a2 = (if k = 1 then some (⟨b1, o1, none⟩ : Addr) else (some (⟨b1, o1, none⟩ : Addr)).map (·.add 1)) := ⟨_, rfl⟩
    have HA2 := Lib.hid ha2
    have hcut1 : ∀ y, (Instr.slice 24 (.slice (some ⟨b1, o1, none⟩) n k) (some (.int .i64 1)) none none).run Try.prog y = .ok (.slice a2 l.length (k - 1)) y := fun y => by
      have h9 := run_cut1_from (P := Try.prog) 24 3 Try.underlying24 info_int (some ⟨b1, o1, none⟩) n k 1 (by omega) y
      rw [ha2]
      rw [show n - 1 = l.length by omega] at h9
      exact h9
    have HL8 : Hid (l.length ≤ 8) := by show _ ≤ _; omega
    clear hs hpl HP hn ha2 hb1 hr1 hr2 hv hle hlen
    go_enter Try.func21, Try.ntmps21
    go_upto_region 1 with fail
    rw [← HX.out]
    clear HX
    go_upto_region 4 with fail
    go_still_tail 8, (by kernel_rfl)
    go_upto_region 5 with fail
    have P5 : Hid ((x.setCell ⟨w.heap.size, 0, none⟩ (.int .i64 (p.ready + v))).drew.heap[w.heap.size]? = some (.cells #[.int .i64 (p.ready + v), .slice (some ⟨b1, o1, none⟩) n k, .int .i64 p.wait, .int .i64 p.util] 26 (0, 0))) := heap_setCell_same x w.heap.size 0 _ 26 (.int .i64 (p.ready + v)) HPx.out
    have Z5 : Hid ((x.setCell ⟨w.heap.size, 0, none⟩ (.int .i64 (p.ready + v))).drew.heap[w.heap.size + 1]? = some (.cells #[.int .i64 0, .slice none 0 0, .int .i64 0, .int .i64 0] 26 (0, 0))) := (Below.heap_setCell x ⟨w.heap.size, 0, none⟩ (.int .i64 (p.ready + v)) (w.heap.size + 1) (by show w.heap.size + 1 ≠ w.heap.size; omega)).trans HZ.out
    have B5 := Lib.hid ((HB.out.setCell (p := ⟨w.heap.size, 0, none⟩) (Nat.le_refl _) (.int .i64 (p.ready + v))).drew)
    have R5 := Lib.hid ((HR.out.far1 (q := w.heap.size) (fun b o e => by injection e with e; injection e with e1 _; have := HB9.out; omega) 0 (.int .i64 (p.ready + v))).on (Below.drew (Below.refl _ _))).from_
    rw [← HA2.out] at R5
    have S5 : Hid (w.heap.size + 2 ≤ (x.setCell ⟨w.heap.size, 0, none⟩ (.int .i64 (p.ready + v))).drew.heap.size) := by
      show _ ≤ (x.setCell ⟨w.heap.size, 0, none⟩ (.int .i64 (p.ready + v))).heap.size
      have := HSZ.out
      simpa [World.setCell] using this
    clear HB HPx HZ HSZ c0 c1 f0 f1 HR wv hcv
    generalize (x.setCell ⟨w.heap.size, 0, none⟩ (.int .i64 (p.ready + v))).drew = w5 at *
    have c1 := (cell_of_row w5 w.heap.size 1 _ _ _ P5.out).trans rfl
    have f1 := frozen_of_row w5 w.heap.size 1 _ _ P5.out
    go_wp2_with fail
    refine (pclone_any R5.out HL8.out).mono ?_
    rintro r w6 ⟨u, rfl, ou, b6⟩
    obtain ⟨au, ku, rfl, _, _, _⟩ := own_srw ou
    have c1 := (b6.cell (p := ⟨w.heap.size, 1, none⟩) (by show w.heap.size < _; have := S5.out; omega)).trans c1
    have f1 := (b6.frozen (p := ⟨w.heap.size, 1, none⟩) (by show w.heap.size < _; have := S5.out; omega)).trans f1
    have P6 := Lib.hid ((b6.block _ (by have := S5.out; omega)).trans P5.out)
    have Z6 := Lib.hid ((b6.block _ (by have := S5.out; omega)).trans Z5.out)
    have B6 := Lib.hid (bel2 B5.out b6)
    have O6 := Lib.hid (ou.down S5.out)
    clear ou b6 P5 Z5 B5 R5 S5
    go_upto_region 6 with fail
    have P7 : Hid ((w6.setCell ⟨w.heap.size, 1, none⟩ (.slice au l.length ku)).heap[w.heap.size]? = some (.cells #[.int .i64 (p.ready + v), (.slice au l.length ku), .int .i64 p.wait, .int .i64 p.util] 26 (0, 0))) := heap_setCell_same w6 w.heap.size 1 _ 26 (.slice au l.length ku) P6.out
    have Z7 := Lib.hid ((Below.heap_setCell w6 ⟨w.heap.size, 1, none⟩ (.slice au l.length ku) (w.heap.size + 1) (by show w.heap.size + 1 ≠ w.heap.size; omega)).trans Z6.out)
    have B7 := Lib.hid (B6.out.setCell (p := ⟨w.heap.size, 1, none⟩) (Nat.le_refl _) (.slice au l.length ku))
    have O7 := Lib.hid (O6.out.stay (w' := w6.setCell ⟨w.heap.size, 1, none⟩ (.slice au l.length ku)) (fun j hj _ => Below.heap_setCell w6 ⟨w.heap.size, 1, none⟩ (.slice au l.length ku) j (by show j ≠ w.heap.size; omega)))
    clear P6 Z6 B6 O6 c1 f1
    generalize w6.setCell ⟨w.heap.size, 1, none⟩ (.slice au l.length ku) = w7 at *
    go_wp2_with (first | (refine wpList_load_rowG (by first | rfl | kernel_rfl | (simp [Region.wanted, yielded])) 26 (.tmp 1) (by rfl) (w.heap.size) (by rfl) 26 _ (0, 0) _ P7.out Try.underlying26 (by rfl) (by kernel_rfl) ?_) | (refine wpList_store_mid (by rfl) 26 (.tmp 2) (.tmp 22) (by rfl) (w.heap.size + 1) 0 #[.int .i64 (p.ready + v), (.slice au l.length ku), .int .i64 p.wait, .int .i64 p.util] (by rfl) (by rfl) (there_of_block Z7.out (by simp)) (by kernel_rfl) (by kernel_rfl) ?_) | fail)
    refine bodyPost_ret (results_cell_row rfl _ _ (w.heap.size + 1) _ _ _ _ rfl (heap_setCells_whole (cs := [Value.int .i64 0, .slice none 0 0, .int .i64 0, .int .i64 0]) (#[.int .i64 (p.ready + v), (.slice au l.length ku), .int .i64 p.wait, .int .i64 p.util] : Array Value).toList rfl Z7.out) Try.underlying26 (by rfl) (by kernel_rfl)) (by rfl) ?_
    refine ⟨(.slice au l.length ku), by rw [HF.out.1], by rw [HF.out.2]; exact (O7.out.stay (fun j hj _ => far_cells j (w.heap.size + 1) (by omega) _ 0 w7)).down (by omega), below_setCells' (w.heap.size + 1) (by omega) _ 0 B7.out⟩
end Go.Proofs.Ytcfehddnccdejaa
