/- The document's sized. -/
import Derived.Test.YtcfehddnccdejaaQlB
import Derived.Deep.CutRange
import Derived.Deep.RegionHeld
import Derived.Lib.MinMax
namespace Go.Proofs.Ytcfehddnccdejaa
set_option linter.unusedSimpArgs false
set_option linter.unusedVariables false
open Go.RowKit
open Evn Plt
attribute [local go_sem] Oper.semAt_some

theorem info_int : (Try.prog.info? 3).map (fun i => (i.zero, i.size, i.bytes)) = some (some (.int .i64 0), 1, 8) := by kernel_rfl
theorem row_ownI {w : World} {base : Nat} {e : TypeId} {g n c : Nat} {l : List Int} (h : OwnV w base e (.slice (some ⟨g, 0, none⟩) n c) (i64V l)) : Row w w.heap.size (some ⟨g, 0, none⟩) n c 1 (intsC l) := by
  have hl := h.len
  have hb := h.base_
  have hcc : n ≤ c ∧ c ≤ maxLen := by
    rcases h.2 with ⟨h', _⟩ | ⟨g', cap', cur, h', _, _, h1, h2, _⟩
    · cases h'
    · injection h' with _ h4 h5
      subst h5
      rw [hl]
      exact ⟨h1, h2⟩
  refine ⟨hcc.1, hcc.2, fun _ => ⟨g, 0, rfl, hb.2, fun j hj => ?_⟩⟩
  have hj' : j < l.length := by rw [List.length_map] at hl; omega
  rw [Nat.zero_add, (h.cell (k := j) (u := .int .i64 l[j]) (by rw [List.getElem?_map, List.getElem?_eq_getElem hj']; rfl)).1]
  simp only [intsC, List.getD_eq_getElem?_getD, List.getElem?_eq_getElem hj']
  rfl
/-- What is owned, read. -/
theorem own_srw {w : World} {base : Nat} {e : TypeId} {v : Value} {l : List Int} (h : OwnV w base e v (i64V l)) :
    ∃ a c, v = .slice a l.length c ∧ SRw w a c l ∧ (∀ k o, a = some ⟨k, o, none⟩ → base ≤ k) ∧ (0 < l.length → ∃ g, a = some ⟨g, 0, none⟩) := by
  have h0 := h
  rcases h.2 with ⟨h1, h2⟩ | ⟨g, cap, cur, h1, h2, h3, h4, h5, h6⟩
  · subst h1
    have hl : l = [] := by simpa using h2
    subst hl
    exact ⟨none, 0, rfl, ⟨⟨Nat.le_refl _, by simp [maxLen], fun hn => absurd hn (by simp)⟩, fun _ => ⟨rfl, rfl⟩⟩, (fun k o hk => by cases hk), fun hn => absurd hn (by simp)⟩
  · subst h1
    have hn := h0.len
    rw [List.length_map] at hn
    have R := row_ownI h0
    have hm : (i64V l).length = l.length := List.length_map _
    rw [hm] at R
    refine ⟨_, cap, by rw [hm], ⟨R, fun hc => by cases hc⟩, fun k o hk => ?_, fun _ => ⟨g, rfl⟩⟩
    injection hk with hk
    injection hk with hk
    rw [← hk]
    exact h0.base_.1
/-- The midst of a call on a plant: its box, the result's box, a row of the call's own. -/
structure QX (w wx : World) (p : Pt) (a : Option Addr) (k : Nat) (v : Value) (L : List Int) : Prop where
  bel : Below w.heap.size w wx
  own : OwnV wx (w.heap.size + 2) 3 v (i64V L)
  bp : PtAt wx w.heap.size p a k
  bz : wx.heap[w.heap.size + 1]? = some (.cells #[.int .i64 0, .slice none 0 0, .int .i64 0, .int .i64 0] 26 (0, 0))
theorem QX.next {w wx w' : World} {p : Pt} {a : Option Addr} {k : Nat} {v v' : Value} {L L' : List Int} (h : QX w wx p a k v L) (ho : OwnV w' (w.heap.size + 2) 3 v' (i64V L')) (hg : wx.grownBy w' v.ownBlock) : QX w w' p a k v' L' := by
  have hne : ∀ j, j < w.heap.size + 2 → some j ≠ v.ownBlock := fun j hj e => by have := (h.own.at_base e.symm).1; omega
  have l1 := lt_of_heap h.bp
  have l2 := lt_of_heap h.bz
  exact ⟨h.bel.grown hg (by omega) (fun j hj => by have := (h.own.at_base hj).1; omega), ho, (hg.block _ l1 (hne _ (by omega))).trans h.bp, (hg.block _ l2 (hne _ (by omega))).trans h.bz⟩
theorem QX.alloc {w wx : World} {p : Pt} {a : Option Addr} {k : Nat} {v : Value} {L : List Int} (h : QX w wx p a k v L) (o : Obj) : QX w (wx.alloc o) p a k v L :=
  ⟨bel1 h.bel o, h.own.alloc o, (heap_alloc_old _ _ (lt_of_heap h.bp)).trans h.bp, (heap_alloc_old _ _ (lt_of_heap h.bz)).trans h.bz⟩
theorem QX.set {w wx : World} {p : Pt} {a : Option Addr} {k : Nat} {g n c : Nat} {L : List Int} (h : QX w wx p a k (.slice (some ⟨g, 0, none⟩) n c) L) (j : Nat) (x : Int) :
    QX w (wx.setCell ⟨g, j, none⟩ (.int .i64 x)) p a k (.slice (some ⟨g, 0, none⟩) n c) (L.set j x) := by
  have ho := h.own.set_ j (.int .i64 x)
  have e : (i64V L).set j (.int .i64 x) = i64V (L.set j x) := (List.map_set).symm
  rw [e] at ho
  exact h.next ho (grownBy_setCell wx ⟨g, j, none⟩ (.int .i64 x))
theorem SRw.far {w : World} {a : Option Addr} {k : Nat} {l : List Int} (h : SRw w a k l) {q : Nat} (hq : ∀ g o, a = some ⟨g, o, none⟩ → g ≠ q) (vs : List Value) : SRw (w.setCells q 0 vs) a k l :=
  ⟨⟨h.row.le, h.row.max, fun hp => by
    obtain ⟨b, o, e, hlt, hc⟩ := h.row.at_ hp
    refine ⟨b, o, e, by rw [size_setCells]; exact hlt, fun j hj => ?_⟩
    exact (World.cell?_of_block (w := w) (a := ⟨b, o + j, none⟩) (far_cells b q (hq b o e) vs 0 w)).trans (hc j hj)⟩, h.nil_⟩
theorem back_cons (x : Int) (l : List Int) (n : Int) : back (x :: l) n = ((x - min x (back l n).2) :: (back l n).1, (back l n).2 - min x (back l n).2) := rfl
theorem drop_cons {l : List Int} {j : Nat} (h : j < l.length) : l.drop j = l.getD j 0 :: l.drop (j + 1) := by
  rw [List.drop_eq_getElem_cons h, List.getD_eq_getElem?_getD, List.getElem?_eq_getElem h]; rfl
def slen : Value → Nat
  | .slice _ n _ => n
  | _ => 0
theorem one_row (w : World) (x : Int) : Row (w.alloc (.cells #[.int .i64 x] 3)) (w.alloc (.cells #[.int .i64 x] 3)).heap.size (some ⟨w.heap.size, 0, none⟩) 1 1 1 (intsC [x]) :=
  Row.new (heap_alloc_new w _) (fun j hj => by have : j = 0 := by omega
                                               subst this; rfl) (by decide)
/-- From behind, down to place j. -/
def dn (l : List Int) (j : Nat) (n : Int) : List Int := l.take j ++ (back (l.drop j) n).1
theorem dn_len (l : List Int) (j : Nat) (n : Int) : (dn l j n).length = l.length := by unfold dn; rw [List.length_append, back_len, List.length_take, List.length_drop]; omega
theorem dn_at {l : List Int} {j : Nat} (h : j < l.length) (n : Int) : (dn l (j + 1) n).getD j 0 = l.getD j 0 := by
  unfold dn
  rw [List.getD_eq_getElem?_getD, List.getD_eq_getElem?_getD, List.getElem?_append_left (by rw [List.length_take]; omega), List.getElem?_take_of_lt (by omega)]
theorem dn_set {l : List Int} {j : Nat} (h : j < l.length) (n : Int) : (dn l (j + 1) n).set j (l.getD j 0 - min (l.getD j 0) (back (l.drop (j + 1)) n).2) = dn l j n := by
  unfold dn
  rw [drop_cons h, back_cons, List.take_succ_eq_append_getElem h, List.append_assoc, List.set_append_right _ _ (by rw [List.length_take]; omega), List.length_take]
  simp
  congr 2
  have : j - min j l.length = 0 := by omega
  rw [this]; simp
set_option maxRecDepth 100000 in
set_option maxHeartbeats 400000 in
theorem rsized_any {w : World} {p : Pt} {a : Option Addr} {k : Nat} (hn : NOk p) (h : SRw w a k p.start) (d want : Int) (hd : 0 ≤ d ∧ d ≤ 8) (hw : 0 ≤ want ∧ want ≤ 1000) :
    Calls Try.prog 28 #[.int .i64 d, ptV p a k, .int .i64 want] w fun r w' => ∃ a2 k2, r = .returned (ptV (sized d p want) a2 k2) ∧ SRw w' a2 k2 (sized d p want).start ∧ (∀ g o, a2 = some ⟨g, o, none⟩ → w.heap.size ≤ g) ∧ Below w.heap.size w w' := by
  have hlen := hn.len
  obtain ⟨x, hx⟩ : ∃ x, x = (w.alloc (.cells #[.int .i64 p.ready, .slice a p.start.length k, .int .i64 p.wait, .int .i64 p.util] 26)).alloc (.cells #[.int .i64 0, .slice none 0 0, .int .i64 0, .int .i64 0] 26) := ⟨_, rfl⟩
  have hB : Below w.heap.size w x := by rw [hx]; exact bel1 (bel1 (Below.refl _ _) _) _
  have hP : PtAt x w.heap.size p a k := by rw [hx]; exact (PtAt.on (heap_alloc_new w (.cells #[.int .i64 p.ready, .slice a p.start.length k, .int .i64 p.wait, .int .i64 p.util] 26)) (bel1 (Below.refl _ _) _))
  have hZ : x.heap[w.heap.size + 1]? = some (.cells #[.int .i64 0, .slice none 0 0, .int .i64 0, .int .i64 0] 26 (0, 0)) := by rw [hx]; exact la2 _ _ _
  have HR := Lib.hid (h.on hB)
  have HB := Lib.hid hB
  have HP := Lib.hid hP
  have HZ := Lib.hid hZ
  have HX := Lib.hid hx
  have HO := Lib.hid hn
  have HA := Lib.hid (rall_any hn (h.on hB))
  clear hB hP hZ hx h
  have hall : 0 ≤ all p ∧ all p ≤ 9000 := by have := sm_le hn.nums; have := hn.r1; have := hn.r2; unfold all; omega
  have HV : Hid (sized d p want = if 0 ≤ want - all p then (if d = 0 then ⟨p.ready + (want - all p), p.start, p.wait, 0⟩ else ⟨p.ready, put p.start d.toNat (want - all p), p.wait, 0⟩) else ⟨p.ready - (back p.start (all p - want)).2, (back p.start (all p - want)).1, p.wait, 0⟩) := rfl
  clear hn
  obtain ⟨c0, _, c2, _⟩ := PtAt.c HP.out
  generalize hM : all p = M at *
  clear hM
  have hw1 : IntKind.i64.wrap (want - M) = want - M := by rw [IntKind.wrap_i64]; omega
  unfold ptV
  go_enter Try.func28, Try.ntmps28
  go_upto_region 1 with fail
  rw [← HX.out]
  go_wp2_with (first | (refine wpList_load_rowG (by first | rfl | kernel_rfl | (simp [Region.wanted, yielded])) 26 (.tmp 4) (by rfl) (w.heap.size) (by rfl) 26 _ (0, 0) _ HP.out Try.underlying26 (by rfl) (by kernel_rfl) ?_) | fail)
  refine HA.out.mono ?_
  rintro r w1 ⟨rfl, b⟩
  have hl1 := lt_of_heap HZ.out
  have HR1 := Lib.hid (HR.out.on b)
  have hb1 := bel2 HB.out b
  have hp1 := HP.out.on b
  have hz1 := (b.block _ hl1).trans HZ.out
  have hs1 : w.heap.size + 2 ≤ w1.heap.size := Nat.le_trans hl1 b.size
  have own0 : OwnV (w1.alloc (.cells #[] 3)) (w.heap.size + 2) 3 (.slice (some ⟨w1.heap.size, 0, none⟩) 0 0) (i64V []) := OwnV.lit_ (w := w1) 3 [] hs1 (by decide)
  have Q0 := Lib.hid (QX.mk (w := w) (p := p) (a := a) (k := k) (bel1 hb1 (.cells #[] 3)) own0 ((heap_alloc_old _ _ (lt_of_heap hp1)).trans hp1) ((heap_alloc_old _ _ (lt_of_heap hz1)).trans hz1))
  have HR2 := Lib.hid (HR1.out.on (bel1 (Below.refl w1.heap.size w1) (.cells #[] 3)))
  have hsz := bel1 (Below.refl w1.heap.size w1) (.cells #[] 3)
  have hp2 := PtAt.c (hp1.on hsz)
  obtain ⟨_, d1, _, _⟩ := hp2
  clear b c0 c2 HB HP HZ HX HA hb1 hz1 hl1
  go_upto_region 2 with fail
  clear hp1 own0
  go_upto_region 3 with (first | (at_builtin; refine wpList_append_ints rfl (.tmp 16) (.tmp 18) 24 rfl (w.heap.size + 2) 3 Try.underlying24 info_int (.slice (some ⟨w1.heap.size, 0, none⟩) 0 0) [] (by rfl) Q0.out.own _ a _ k p.start (by rfl) HR2.out.row rfl HR2.out.nil_ (by simp; omega) (by simp; omega) ?_; intro v1 w3 hown hg hat; have Q1 := Lib.hid (QX.next Q0.out hown hg); clear hown hg hat Q0 HR2 d1 hs1 hsz) | fail)
  rw [List.nil_append] at Q1
  clear HR HR1
  obtain ⟨N, hN⟩ : ∃ N, want - M = N := ⟨_, rfl⟩
  have hMN : M - want = -N := by omega
  rw [hMN] at HV
  rw [hN] at HV hw1
  rw [hN]
  by_cases h1 : 0 ≤ N
  · by_cases h2 : d = 0
    · subst h2
      obtain ⟨a1, k1, rfl, S1, B1, _⟩ := own_srw Q1.out.own
      obtain ⟨c0, _, c2, _⟩ := PtAt.c Q1.out.bp
      have hr1 := HO.out.r1
      have hr2 := HO.out.r2
      have hw2 : IntKind.i64.wrap (p.ready + N) = p.ready + N := by rw [IntKind.wrap_i64]; omega
      have HV2 : Hid (sized 0 p want = ⟨p.ready + N, p.start, p.wait, 0⟩) := by show _ = _; rw [HV.out, if_pos h1, if_pos rfl]
      have HS1 := Lib.hid S1
      have HB1 := Lib.hid B1
      clear S1 B1 HV hr1 hr2 hN hMN hall hd hw
      go_wp2_with (first | (refine wpList_store_mid (by rfl) 26 (.tmp 6) (.tmp 33) (by rfl) (w.heap.size + 1) 0 #[.int .i64 (p.ready + N), .slice a1 p.start.length k1, .int .i64 p.wait, .int .i64 0] (by rfl) (by rfl) (there_of_block Q1.out.bz (by simp)) (by kernel_rfl) (by kernel_rfl) ?_) | fail)
      refine bodyPost_ret (results_cell_row rfl _ _ (w.heap.size + 1) _ _ _ _ rfl (heap_setCells_whole (cs := [Value.int .i64 0, .slice none 0 0, .int .i64 0, .int .i64 0]) (#[.int .i64 (p.ready + N), .slice a1 p.start.length k1, .int .i64 p.wait, .int .i64 0] : Array Value).toList rfl Q1.out.bz) Try.underlying26 (by rfl) (by kernel_rfl)) (by rfl) ?_
      refine ⟨a1, k1, by rw [HV2.out] <;> exact congrArg (fun q => Ending.returned (Value.agg #[.int .i64 (p.ready + N), .slice a1 q k1, .int .i64 p.wait, .int .i64 0])) (rfl), ?_, fun g o hg => by have := HB1.out g o hg; omega, below_setCells' (w.heap.size + 1) (by omega) _ 0 Q1.out.bel⟩
      rw [HV2.out]
      exact HS1.out.far (fun g o hg => by have := HB1.out g o hg; omega) _
    · obtain ⟨E, hE⟩ : ∃ E : Nat, d = (E : Int) + 1 := ⟨(d - 1).toNat, by omega⟩
      subst hE
      have h2b : ((E : Int) + 1 == 0) = false := by simp; omega
      have hE8 : E + 1 ≤ 8 := by omega
      have hde : ((E : Int) + 1).toNat = E + 1 := by omega
      have HV1 : Hid (sized ((E : Int) + 1) p want = ⟨p.ready, put p.start (E + 1) N, p.wait, 0⟩) := by show _ = _; rw [HV.out, if_pos h1, if_neg h2, hde]
      clear hde
      have HE := Lib.hid hE8
      have HL8 := Lib.hid hlen
      have HHW := Lib.hid hw
      have HN := Lib.hid (And.intro h1 hN)
      have HAL := Lib.hid hall
      have H2 := Lib.hid h2
      clear HV hd h2 hN hMN
      go_wp2_with fail
      go_loopw [8] (fun v wx => ∃ m : Nat, p.start.length + m ≤ max p.start.length (E + 1) ∧ QX w wx p a k v (p.start ++ List.replicate m 0)) (fun v _ => 9 - slen v)
      case atStart => exact ⟨0, by omega, by simpa using Q1.out⟩
      case round =>
        clear Q1
        obtain ⟨m, hm, hq⟩ := hrel
        obtain ⟨a1, k1, rfl, S1, B1, G1⟩ := own_srw hq.own
        have hll : (p.start ++ List.replicate m 0).length = p.start.length + m := by simp
        rw [hll] at G1 ⊢
        have Q2 := Lib.hid hq
        have HS1 := Lib.hid S1
        have HB1 := Lib.hid B1
        have HG1 := Lib.hid G1
        have HM := Lib.hid hm
        have HLL := Lib.hid hll
        obtain ⟨n, hn2⟩ : ∃ n, n = p.start.length + m := ⟨_, rfl⟩
        rw [← hn2]
        have HN2 := Lib.hid hn2
        have hn8 : n ≤ 8 := by have := HE.out; have := HL8.out; omega
        clear hq S1 B1 G1 hm hll hn2
        by_cases hlt : n < E + 1
        · have hlt' : (n : Int) < (E : Int) + 1 := by omega
          have HK := Lib.hid hlt
          clear hlt
          have HSZ : Hid (w.heap.size + 2 ≤ wr.heap.size) := by show _ ≤ _; exact lt_of_heap Q2.out.bz
          have ha := Lib.hid (Q2.out.alloc (.cells #[.int .i64 0] 3))
          go_wp2_with (first | (at_builtin; refine wpList_append_ints rfl (.tmp 40) (.tmp 41) 24 rfl (w.heap.size + 2) 3 Try.underlying24 info_int (.slice a1 n k1) (p.start ++ List.replicate m 0) (by rfl) (by rw [HN2.out, ← HLL.out]; exact ha.out.own) _ (some ⟨wr.heap.size, 0, none⟩) 1 1 [0] (by rfl) (one_row wr 0) rfl (fun h => by cases h) (by rw [HLL.out, ← HN2.out]; omega) (by have := HSZ.out; simp; omega) ?_; intro v6 w6 hown hg hat; have Q3 := Lib.hid (QX.next (by rw [HN2.out, ← HLL.out]; exact ha.out : QX w (wr.alloc (.cells #[.int .i64 0] 3)) p a k (.slice a1 n k1) (p.start ++ List.replicate m 0)) hown hg); clear hown hg hat ha) | fail)
          go_roundw
          case rel => exact ⟨m + 1, by have := HK.out; have := HN2.out; omega, by have := Q3.out; rw [List.append_assoc] at this; rw [List.replicate_succ']; exact this⟩
          case measure =>
            obtain ⟨a9, k9, rfl, _, _, _⟩ := own_srw Q3.out.own
            have := HK.out
            have := HN2.out
            simp [slen]
            omega
        · have hlt' : ¬ (n : Int) < (E : Int) + 1 := by omega
          have hm2 : m = E + 1 - p.start.length := by have := HM.out; have := HN2.out; omega
          have hpad : p.start ++ List.replicate m 0 = pad p.start (E + 1) := by unfold pad; rw [hm2]
          rw [hpad] at Q2 HLL HS1
          obtain ⟨g, rfl⟩ := HG1.out (by have := HN2.out; omega)
          have hEn : E < (pad p.start (E + 1)).length := by rw [HLL.out]; have := HN2.out; omega
          have hput : (pad p.start (E + 1)).set E ((pad p.start (E + 1)).getD E 0 + N) = put p.start (E + 1) N := rfl
          have hcell := Q2.out.own.cell (k := E) (u := .int .i64 ((pad p.start (E + 1)).getD E 0)) (by rw [List.getElem?_map, List.getElem?_eq_getElem hEn, List.getD_eq_getElem?_getD, List.getElem?_eq_getElem hEn]; rfl)
          have hv : 0 ≤ (pad p.start (E + 1)).getD E 0 ∧ (pad p.start (E + 1)).getD E 0 ≤ 1000 := getD_ok (fun z hz => by
              unfold pad at hz
              rcases List.mem_append.1 hz with h | h
              · exact HO.out.nums z h
              · have := (List.mem_replicate.1 h).2
                omega) hEn
          have HPUT := Lib.hid hput
          have QS := Lib.hid (fun y => Q2.out.set E y)
          have HLN := Lib.hid (by rw [← hput, List.length_set]; exact HLL.out : (put p.start (E + 1) N).length = p.start.length + m)
          clear hput hpad hm2 hlt
          generalize (pad p.start (E + 1)).getD E 0 = y at *
          have wE : IntKind.i64.wrap ((E : Int) + 1 - 1) = (E : Int) := by rw [IntKind.wrap_i64]; have := HE.out; omega
          have hNb : 0 ≤ N ∧ N ≤ 1000 := by have := HN.out; have := HAL.out; have := HHW.out; omega
          have wy : IntKind.i64.wrap (y + N) = y + N := by rw [IntKind.wrap_i64]; omega
          have hEn2 : (E : Int) < (n : Int) := by have := HN2.out; have := HLL.out; omega
          have hE0 : (0 : Int) ≤ (E : Int) := by omega
          obtain ⟨hc1, hf1⟩ := hcell
          clear hv hNb hEn h1 hlen hall
          go_upto_region 9 with fail
          have Q4 := Lib.hid (by have := QS.out (y + N); rw [HPUT.out] at this; exact this : QX w (wr.setCell ⟨g, E, none⟩ (.int .i64 (y + N))) p a k _ (put p.start (E + 1) N))
          clear hc1 hf1 QS Q2 HS1 HB1 HG1 wE wy
          generalize wr.setCell ⟨g, E, none⟩ (.int .i64 (y + N)) = w5 at *
          obtain ⟨a5, k5, he5, S5, B5, _⟩ := own_srw Q4.out.own
          rw [HLN.out, ← HN2.out] at he5
          rw [HLL.out, ← HN2.out] at he5
          injection he5 with he1 _ he3
          subst he1 he3
          have HS5 := Lib.hid S5
          have HB5 := Lib.hid B5
          clear S5 B5
          have HV2 : Hid (sized ((E : Int) + 1) p want = ⟨p.ready, put p.start (E + 1) N, p.wait, 0⟩) := HV1.out
          obtain ⟨c0, _, c2, _⟩ := PtAt.c Q4.out.bp
          go_wp2_with (first | (refine wpList_store_mid (by rfl) 26 (.tmp 6) (.tmp 59) (by rfl) (w.heap.size + 1) 0 #[.int .i64 p.ready, .slice (some ⟨g, 0, none⟩) n k1, .int .i64 p.wait, .int .i64 0] (by rfl) (by rfl) (there_of_block Q4.out.bz (by simp)) (by kernel_rfl) (by kernel_rfl) ?_) | fail)
          refine bodyPost_ret (results_cell_row rfl _ _ (w.heap.size + 1) _ _ _ _ rfl (heap_setCells_whole (cs := [Value.int .i64 0, .slice none 0 0, .int .i64 0, .int .i64 0]) (#[.int .i64 p.ready, .slice (some ⟨g, 0, none⟩) n k1, .int .i64 p.wait, .int .i64 0] : Array Value).toList rfl Q4.out.bz) Try.underlying26 (by rfl) (by kernel_rfl)) (by rfl) ?_
          refine ⟨(some ⟨g, 0, none⟩), k1, by rw [HV2.out] <;> exact congrArg (fun q => Ending.returned (Value.agg #[.int .i64 p.ready, .slice (some ⟨g, 0, none⟩) q k1, .int .i64 p.wait, .int .i64 0])) ((HLN.out.trans HN2.out.symm).symm), ?_, fun g o hg => by have := HB5.out g o hg; omega, below_setCells' (w.heap.size + 1) (by omega) _ 0 Q4.out.bel⟩
          rw [HV2.out]
          exact HS5.out.far (fun g o hg => by have := HB5.out g o hg; omega) _
  · have HV2 : Hid (sized d p want = ⟨p.ready - (back p.start (-N)).2, (back p.start (-N)).1, p.wait, 0⟩) := by show _ = _; rw [HV.out, if_neg h1]
    obtain ⟨z, hz⟩ : ∃ z, -N = z := ⟨_, rfl⟩
    rw [hz] at HV2
    have hz0 : 0 ≤ z ∧ z ≤ 9000 := by omega
    have hw2 : IntKind.i64.wrap z = z := by rw [IntKind.wrap_i64]; omega
    obtain ⟨a1, k1, rfl, S1, B1, G1⟩ := own_srw Q1.out.own
    obtain ⟨n, hn2⟩ : ∃ n, p.start.length = n := ⟨_, rfl⟩
    have HN2 := Lib.hid hn2
    rw [hn2] at G1 hlen ⊢
    rw [hn2] at Q1
    have HG1 := Lib.hid G1
    have HB1 := Lib.hid B1
    have HZ0 := Lib.hid hz0
    have hwn : IntKind.i64.wrap ((n : Int) - 1) = (n : Int) - 1 := by rw [IntKind.wrap_i64]; omega
    have h1b : ¬ 0 ≤ N := h1
    clear HV S1 B1 G1 hn2 hd hw hMN hN hall
    go_wp2_with fail
    go_loopw [9, 10] (fun vl vi wx => ∃ j : Nat, j ≤ n ∧ vi = .int .i64 ((j : Int) - 1) ∧ vl = .int .i64 (back (p.start.drop j) z).2 ∧ QX w wx p a k (.slice a1 n k1) (dn p.start j z)) (fun _ vi _ => (intOf vi + 1).toNat)
    case atStart => exact ⟨n, Nat.le_refl _, rfl, by rw [List.drop_of_length_le (by rw [HN2.out]; exact Nat.le_refl _)]; rfl, by unfold dn; rw [List.drop_of_length_le (by rw [HN2.out]; exact Nat.le_refl _), List.take_of_length_le (by rw [HN2.out]; exact Nat.le_refl _)]; simpa [back] using Q1.out⟩
    case round =>
      clear Q1
      obtain ⟨j, hj, rfl, rfl, hq⟩ := hrel
      have Q2 := Lib.hid hq
      clear hq hz hw2 hwn h1 h1b
      by_cases hlt : 1 ≤ j
      · obtain ⟨e, rfl⟩ : ∃ e, j = e + 1 := ⟨j - 1, by omega⟩
        obtain ⟨g, rfl⟩ := HG1.out (by omega)
        have hee : ((e + 1 : Nat) : Int) - 1 = (e : Int) := by omega
        rw [hee]
        have hes : e < p.start.length := by rw [HN2.out]; omega
        have hat := dn_at hes z
        have hset := dn_set hes z
        have hdc := drop_cons hes
        have hen : e < (dn p.start (e + 1) z).length := by rw [dn_len]; exact hes
        have hcell := Q2.out.own.cell (k := e) (u := .int .i64 ((dn p.start (e + 1) z).getD e 0)) (by rw [List.getElem?_map, List.getElem?_eq_getElem hen, List.getD_eq_getElem?_getD, List.getElem?_eq_getElem hen]; rfl)
        rw [hat] at hcell
        have hx := getD_ok HO.out.nums hes
        have hb2 := back_two (l := p.start.drop (e + 1)) (n := z) (fun y hy => (HO.out.nums y (List.mem_of_mem_drop hy)).1) HZ0.out.1
        have hbk : (back (p.start.drop e) z).2 = (back (p.start.drop (e + 1)) z).2 - min (p.start.getD e 0) (back (p.start.drop (e + 1)) z).2 := by rw [hdc, back_cons]
        have QS := Lib.hid (fun y => Q2.out.set e y)
        have HSET := Lib.hid hset
        have HBK := Lib.hid hbk
        have hzz := HZ0.out
        clear hat hset hdc hbk hen hes
        generalize p.start.getD e 0 = y at *
        generalize hm9 : (back (p.start.drop (e + 1)) z).2 = m at *
        obtain ⟨q, hq9⟩ : ∃ q, min y m = q := ⟨_, rfl⟩
        have hq1 : q ≤ y ∧ q ≤ m ∧ (0 ≤ q) := by omega
        rw [hq9] at HSET HBK
        have wq : IntKind.i64.wrap q = q := by rw [IntKind.wrap_i64]; omega
        have wy : IntKind.i64.wrap (y - q) = y - q := by rw [IntKind.wrap_i64]; omega
        have wm : IntKind.i64.wrap (m - q) = m - q := by rw [IntKind.wrap_i64]; omega
        have we : IntKind.i64.wrap ((e : Int) - 1) = (e : Int) - 1 := by rw [IntKind.wrap_i64]; omega
        have he0 : (0 : Int) ≤ (e : Int) := by omega
        have hen2 : (e : Int) < (n : Int) := by omega
        obtain ⟨hc1, hf1⟩ := hcell
        have HQ9 := Lib.hid hm9
        clear hx hb2 hzz hm9
        go_upto_region 16 with fail
        have Q4 := Lib.hid (by have := QS.out (y - q); rw [HSET.out] at this; exact this : QX w (wr.setCell ⟨g, e, none⟩ (.int .i64 (y - q))) p a k _ (dn p.start e z))
        clear QS Q2 HSET hc1 hf1
        generalize wr.setCell ⟨g, e, none⟩ (.int .i64 (y - q)) = w5 at *
        go_wp2_with fail
        go_roundw
        case rel => exact ⟨e, by omega, rfl, by rw [HBK.out], Q4.out⟩
        case measure => simp [intOf]
      · have hj0 : j = 0 := by omega
        subst hj0
        have hd0 : dn p.start 0 z = (back p.start z).1 := by unfold dn; rw [List.take_zero, List.nil_append, List.drop_zero]
        rw [hd0] at Q2
        obtain ⟨a5, k5, he5, S5, B5, _⟩ := own_srw Q2.out.own
        rw [back_len, HN2.out] at he5
        injection he5 with he1 _ he3
        subst he1 he3
        have hbl : (back p.start z).1.length = n := by rw [back_len, HN2.out]
        have HBL := Lib.hid hbl
        have hb2 := back_two (l := p.start) (n := z) (fun y hy => (HO.out.nums y hy).1) HZ0.out.1
        have hr1 := HO.out.r1
        have hr2 := HO.out.r2
        have hzz := HZ0.out
        rw [List.drop_zero]
        generalize (back p.start z).2 = m at *
        have wr9 : IntKind.i64.wrap (p.ready - m) = p.ready - m := by rw [IntKind.wrap_i64]; omega
        have HS5 := Lib.hid S5
        have HB5 := Lib.hid B5
        clear S5 B5 hbl hb2 hr1 hr2 hzz hd0 HB1 HG1
        obtain ⟨c0, _, c2, _⟩ := PtAt.c Q2.out.bp
        go_wp2_with (first | (refine wpList_store_mid (by rfl) 26 (.tmp 6) (.tmp 94) (by rfl) (w.heap.size + 1) 0 #[.int .i64 (p.ready - m), .slice a1 n k1, .int .i64 p.wait, .int .i64 0] (by rfl) (by rfl) (there_of_block Q2.out.bz (by simp)) (by kernel_rfl) (by kernel_rfl) ?_) | fail)
        refine bodyPost_ret (results_cell_row rfl _ _ (w.heap.size + 1) _ _ _ _ rfl (heap_setCells_whole (cs := [Value.int .i64 0, .slice none 0 0, .int .i64 0, .int .i64 0]) (#[.int .i64 (p.ready - m), .slice a1 n k1, .int .i64 p.wait, .int .i64 0] : Array Value).toList rfl Q2.out.bz) Try.underlying26 (by rfl) (by kernel_rfl)) (by rfl) ?_
        refine ⟨a1, k1, by rw [HV2.out] <;> exact congrArg (fun q => Ending.returned (Value.agg #[.int .i64 (p.ready - m), .slice a1 q k1, .int .i64 p.wait, .int .i64 0])) (HBL.out.symm), ?_, fun g o hg => by have := HB5.out g o hg; omega, below_setCells' (w.heap.size + 1) (by omega) _ 0 Q2.out.bel⟩
        rw [HV2.out]
        exact HS5.out.far (fun g o hg => by have := HB5.out g o hg; omega) _
end Go.Proofs.Ytcfehddnccdejaa
