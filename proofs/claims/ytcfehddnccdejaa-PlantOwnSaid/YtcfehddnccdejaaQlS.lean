/- The program's begin: so many more stand at the place of a delay. -/
import Derived.Test.YtcfehddnccdejaaQlR
import Derived.Test.YtcfehddnccdejaaQlO
import Derived.Deep.CutRange
import Derived.Deep.RegionHeld
import Derived.Lib.MinMax
namespace Go.Proofs.Ytcfehddnccdejaa
set_option linter.unusedSimpArgs false
set_option linter.unusedVariables false
open Go.RowKit
open Evn Plt
attribute [local go_sem] Oper.semAt_some

/-- What begin leaves. -/
def pbg (d : Int) (p : Pt) (N : Int) : Pt := if d = 0 then ⟨p.ready + N, p.start, p.wait, p.util⟩ else ⟨p.ready, put p.start d.toNat N, p.wait, p.util⟩
/-- The midst of begin: the plant's variable, its row, all else. -/
structure BX (w wx : World) (g base : Nat) (v0 : Value) (q : Pt) (a : Option Addr) (k : Nat) : Prop where
  own : OwnV wx base 3 (.slice a q.start.length k) (i64V q.start)
  px : PtAt wx g q a k
  but : But (PlO g v0) w wx
  far : ∀ b, (Value.slice a q.start.length k).ownBlock = some b → PlO g v0 b ∨ w.heap.size ≤ b
theorem BX.alloc {w wx : World} {g base : Nat} {v0 : Value} {q : Pt} {a : Option Addr} {k : Nat} (h : BX w wx g base v0 q a k) (o : Obj) : BX w (wx.alloc o) g base v0 q a k :=
  ⟨h.own.alloc o, h.px.on (bel1 (Below.refl _ _) _), h.but.alloc o, h.far⟩
theorem BX.row {w wx wy : World} {g base : Nat} {v0 v' : Value} {q q2 : Pt} {a a2 : Option Addr} {k k2 : Nat} (h : BX w wx g base v0 q a k) (hgb : g < base) (hown : OwnV wy base 3 v' (i64V q2.start)) (hv : v' = .slice a2 q2.start.length k2)
    (hg : wx.grownBy wy (Value.slice a q.start.length k).ownBlock) (hat : v'.ownBlock = (Value.slice a q.start.length k).ownBlock ∨ v'.ownBlock = some wx.heap.size) (he : q2.ready = q.ready ∧ q2.wait = q.wait ∧ q2.util = q.util) :
    BX w (wy.setCell ⟨g, 1, none⟩ v') g base v0 q2 a2 k2 := by
  subst hv
  have hwx := h.but.size
  have hP : PtAt wy g q a k := h.px.grown hg (fun e => by have := World.ownsRow.lt h.own g e.symm; omega)
  refine ⟨hown.stay (fun j hj _ => Below.heap_setCell wy ⟨g, 1, none⟩ _ j (by show j ≠ g; omega)), ?_, ?_, ?_⟩
  · have := heap_setCell_same wy g 1 _ 26 (.slice a2 q2.start.length k2) hP
    unfold PtAt
    rw [this, he.1, he.2.1, he.2.2]
    rfl
  · refine But.setCell ?_ (.inl (.inl rfl)) _
    exact ⟨hg.os.trans h.but.os, hg.tape.trans h.but.tape, hg.output.trans h.but.output, Nat.le_trans h.but.size hg.size, fun j hj hn => (hg.block j (by omega) (fun e => by
      rcases h.far j e.symm with h1 | h1
      · exact hn h1
      · omega)).trans (h.but.block j hj hn)⟩
  · intro b hb
    rcases hat with e | e
    · exact h.far b (by rw [← e]; exact hb)
    · rw [e] at hb
      injection hb with hb
      exact .inr (by omega)
theorem BX.set {w wx : World} {g base : Nat} {v0 : Value} {q q2 : Pt} {gb k : Nat} (h : BX w wx g base v0 q (some ⟨gb, 0, none⟩) k) (hgb : g < base) (j : Nat) (x : Int) (he : q2 = ⟨q.ready, q.start.set j x, q.wait, q.util⟩) :
    BX w (wx.setCell ⟨gb, j, none⟩ (.int .i64 x)) g base v0 q2 (some ⟨gb, 0, none⟩) k := by
  subst he
  have ho := h.own.set_ j (.int .i64 x)
  have e : (i64V q.start).set j (.int .i64 x) = i64V (q.start.set j x) := (List.map_set).symm
  rw [e] at ho
  have hb := h.own.base_
  refine ⟨by simp only [List.length_set]; exact ho, ?_, ?_, by simp only [List.length_set]; exact h.far⟩
  · unfold PtAt
    rw [Below.heap_setCell wx ⟨gb, j, none⟩ _ g (by show g ≠ gb; omega), h.px]
    simp only [List.length_set]
  · rcases h.far gb rfl with h1 | h1
    · exact h.but.setCell (.inl h1) _
    · exact h.but.setCell (.inr h1) _
set_option maxRecDepth 100000 in
set_option maxHeartbeats 3200000 in
theorem pbegin_any {w : World} {g base kc : Nat} {p : Pt} {a : Option Addr} (hn : NOk p) (hp : PtAt w g p a kc) (ho : OwnV w base 3 (.slice a p.start.length kc) (i64V p.start)) (hgb : g < base) (hbw : base ≤ w.heap.size) (d N : Int) (hd : 0 ≤ d ∧ d ≤ 8) (hN : 0 ≤ N ∧ N ≤ 1000) :
    Calls Try.prog 23 #[.pointer (some ⟨g, 0, none⟩), .int .i64 d, .int .i64 N] w fun r w' => (∃ v, r = .returned v) ∧ ∃ a2 k2, OwnV w' base 3 (.slice a2 (pbg d p N).start.length k2) (i64V (pbg d p N).start) ∧ PtAt w' g (pbg d p N) a2 k2 ∧ But (PlO g (.slice a p.start.length kc)) w w' := by
  have hr1 := hn.r1
  have hr2 := hn.r2
  have hlen := hn.len
  have HO := Lib.hid hn
  have HG := Lib.hid (And.intro hgb hbw)
  have B0 : Hid (BX w w g base (.slice a p.start.length kc) p a kc) := ⟨ho, hp, But.refl _ _, fun b hb => .inl (.inr hb)⟩
  obtain ⟨c0, c1, _, _⟩ := PtAt.c hp
  have f0 := frozen_of_row w g 0 _ _ hp
  clear hn ho
  by_cases h0 : d = 0
  · subst h0
    have wr9 : IntKind.i64.wrap (p.ready + N) = p.ready + N := by rw [IntKind.wrap_i64]; omega
    have HP := Lib.hid hp
    have HV : Hid (pbg 0 p N = ⟨p.ready + N, p.start, p.wait, p.util⟩) := by show _ = _; unfold pbg; rw [if_pos rfl]
    clear hgb hbw hr1 hr2 hlen hd hN c1 hp
    go_enter Try.func23, Try.ntmps23
    go_wp2
    refine bodyPost_ret (results_none rfl _ _ _) rfl ?_
    rw [HV.out]
    refine ⟨⟨_, rfl⟩, a, kc, B0.out.own.stay (fun j hj _ => Below.heap_setCell w ⟨g, 0, none⟩ _ j (by show j ≠ g; have := HG.out; omega)), ?_, B0.out.but.setCell (.inl (.inl rfl)) _⟩
    exact heap_setCell_same w g 0 _ 26 (.int .i64 (p.ready + N)) HP.out
  · obtain ⟨E, hE⟩ : ∃ E : Nat, d = (E : Int) + 1 := ⟨(d - 1).toNat, by omega⟩
    subst hE
    have hde : ((E : Int) + 1).toNat = E + 1 := by omega
    have hE8 : E + 1 ≤ 8 := by omega
    have hmin : min ((E : Int) + 1) 8 = (E : Int) + 1 := by omega
    have hnle : ¬ (E : Int) + 1 ≤ 0 := by omega
    have HV : Hid (pbg ((E : Int) + 1) p N = ⟨p.ready, put p.start (E + 1) N, p.wait, p.util⟩) := by show _ = _; unfold pbg; rw [if_neg h0, hde]
    have HL8 := Lib.hid hlen
    have HE := Lib.hid hE8
    have HN := Lib.hid hN
    clear hgb hbw hr1 hr2 hd hN h0 hde f0 c0 c1 hp
    go_enter Try.func23, Try.ntmps23
    go_wp2_with fail
    go_loopw [] (fun wx => ∃ (m : Nat) (a1 : Option Addr) (k1 : Nat), p.start.length + m ≤ max p.start.length (E + 1) ∧ BX w wx g base (.slice a p.start.length kc) ⟨p.ready, p.start ++ List.replicate m 0, p.wait, p.util⟩ a1 k1) (fun wx => match wx.cell? ⟨g, 1, none⟩ with | some v => 9 - slen v | none => 0)
    case atStart => exact ⟨0, a, kc, by omega, by simpa using B0.out⟩
    case round =>
      clear B0
      obtain ⟨m, a1, k1, hm, hb⟩ := hrel
      have hll : (p.start ++ List.replicate m 0).length = p.start.length + m := by simp
      obtain ⟨_, c1, _, _⟩ := PtAt.c hb.px
      have f1 := frozen_of_row wr g 1 _ _ hb.px
      simp only [hll] at c1
      have HB := Lib.hid hb
      have HM := Lib.hid hm
      have HLL := Lib.hid hll
      obtain ⟨n, hn2⟩ : ∃ n, n = p.start.length + m := ⟨_, rfl⟩
      rw [← hn2] at c1
      have HN2 := Lib.hid hn2
      have hn8 : n ≤ 8 := by have := HE.out; have := HL8.out; omega
      have HC1 := Lib.hid c1
      clear hb hm hll hn2
      by_cases hlt : n < E + 1
      · have hlt' : (n : Int) < (E : Int) + 1 := by omega
        have HK := Lib.hid hlt
        clear hlt
        have ha := Lib.hid (HB.out.alloc (.cells #[.int .i64 0] 3))
        have hao : OwnV (wr.alloc (.cells #[.int .i64 0] 3)) base 3 (.slice a1 n k1) (i64V (p.start ++ List.replicate m 0)) := by have := ha.out.own; simp only [HLL.out, ← HN2.out] at this; exact this
        have HAO := Lib.hid hao
        have HSZ : Hid (base ≤ wr.heap.size) := by show _ ≤ _; have := HB.out.but.size; have := HG.out; omega
        clear hao
        go_wp2_with (first | (at_builtin; ((refine wpList_append_ints rfl (.tmp 29) (.tmp 30) 24 rfl base 3 Try.underlying24 info_int (.slice a1 n k1) (p.start ++ List.replicate m 0) (by rfl) HAO.out _ (some ⟨wr.heap.size, 0, none⟩) 1 1 [0] (by rfl) (one_row wr 0) rfl (fun h => by cases h) (by rw [HLL.out, ← HN2.out]; omega) (by have := HSZ.out; simp; omega) ?_; intro v6 w6 hown hg hat; obtain ⟨a6, k6, e6, _, _, _⟩ := own_srw hown; have HOW := Lib.hid hown; have HGR := Lib.hid hg; have HAT := Lib.hid hat; have hp6 := ha.out.px.grown hg (fun e => by have := World.ownsRow.lt HAO.out g e.symm; have := HG.out; omega); have f6 := frozen_of_row w6 g 1 _ _ hp6; have c6 : w6.cell? ⟨g, 1, none⟩ = some (.slice a1 n k1) := by { have := (PtAt.c hp6).2.1; simp only [HLL.out, ← HN2.out] at this; exact this }; clear hp6; clear hown hg hat; subst e6))) | fail)
        have hl9 : (p.start ++ List.replicate m 0 ++ [0]).length = p.start.length + (m + 1) := by simp [Nat.add_assoc]
        have hbn := BX.row (q2 := ⟨p.ready, p.start ++ List.replicate m 0 ++ [0], p.wait, p.util⟩) (a2 := a6) (k2 := k6) ha.out HG.out.1 HOW.out rfl (by simp only [HLL.out, ← HN2.out]; exact HGR.out) (by simp only [HLL.out, ← HN2.out]; exact HAT.out) ⟨rfl, rfl, rfl⟩
        simp only [hl9] at hbn
        have HBN := Lib.hid hbn
        clear hbn
        have X21 := Lib.hid (PtAt.c HBN.out.px).2.1
        go_roundw
        case rel => exact ⟨m + 1, a6, k6, by have := HK.out; have := HN2.out; omega, by have := HBN.out; rw [List.append_assoc] at this; rw [List.replicate_succ']; exact this⟩
        case measure =>
          rw [X21.out, HC1.out]
          have := HLL.out
          have := HN2.out
          simp only [slen, List.length_append, List.length_cons, List.length_nil] at *
          omega
      · have hlt' : ¬ (n : Int) < (E : Int) + 1 := by omega
        have hm2 : m = E + 1 - p.start.length := by have := HM.out; have := HN2.out; omega
        have hpad : p.start ++ List.replicate m 0 = pad p.start (E + 1) := by unfold pad; rw [hm2]
        have hb := HB.out
        rw [hpad] at hb HLL
        obtain ⟨a9, k9, e9, _, _, G9⟩ := own_srw hb.own
        simp only [HLL.out, ← HN2.out] at e9 G9
        injection e9 with e1 e2 e3
        subst e1 e3
        clear e2
        obtain ⟨gb, hgb9⟩ := G9 (by have := HN2.out; omega)
        subst hgb9
        clear G9
        have hEn : E < (pad p.start (E + 1)).length := by rw [HLL.out]; have := HN2.out; omega
        have hcell := hb.own.cell (k := E) (u := .int .i64 ((pad p.start (E + 1)).getD E 0)) (by rw [List.getElem?_map, List.getElem?_eq_getElem hEn, List.getD_eq_getElem?_getD, List.getElem?_eq_getElem hEn]; rfl)
        have hv : 0 ≤ (pad p.start (E + 1)).getD E 0 ∧ (pad p.start (E + 1)).getD E 0 ≤ 1000 := getD_ok (fun z hz => by
            unfold pad at hz
            rcases List.mem_append.1 hz with h | h
            · exact HO.out.nums z h
            · have := (List.mem_replicate.1 h).2
              omega) hEn
        have hput : (pad p.start (E + 1)).set E ((pad p.start (E + 1)).getD E 0 + N) = put p.start (E + 1) N := rfl
        have QS := Lib.hid (hb.set HG.out.1 E ((pad p.start (E + 1)).getD E 0 + N) (q2 := ⟨p.ready, put p.start (E + 1) N, p.wait, p.util⟩) (by rw [← hput]))
        clear hput hpad hm2 hlt hb
        generalize (pad p.start (E + 1)).getD E 0 = y at *
        have wE : IntKind.i64.wrap ((E : Int) + 1 - 1) = (E : Int) := by rw [IntKind.wrap_i64]; omega
        have wy : IntKind.i64.wrap (y + N) = y + N := by rw [IntKind.wrap_i64]; have := HN.out; omega
        have hEn2 : (E : Int) < (n : Int) := by have := HN2.out; have := HLL.out; omega
        have hE0 : (0 : Int) ≤ (E : Int) := by omega
        obtain ⟨hc1, hf1⟩ := hcell
        clear hv hEn hlen
        go_wp2
        go_end0
        rw [HV.out]
        exact ⟨⟨_, rfl⟩, some ⟨gb, 0, none⟩, k1, QS.out.own, QS.out.px, QS.out.but⟩
end Go.Proofs.Ytcfehddnccdejaa
