/- What the statements of plants ask; the live question. -/
import Derived.Test.YtcfehddnccdejaaQlG
import Derived.Test.YtcfehddnccdejaaQlH
import Derived.Test.YtcfehddnccdejaaQlP
import Derived.Test.YtcfehddnccdejaaEwE
import Derived.Deep.CutRange
import Derived.Deep.RegionHeld
namespace Go.Proofs.Ytcfehddnccdejaa
set_option linter.unusedSimpArgs false
set_option linter.unusedVariables false
open Go.RowKit
open Wir Evn Lim Plt
attribute [local go_sem] Oper.semAt_some

/-- A variable of a mark; a variable of a plant, with what it leads to. -/
def MkAt (w : World) (g : Nat) (m : Int × Bool) : Prop := w.heap[g]? = some (.cells #[.int .i64 m.1, .bool m.2] 31 (0, 0))
theorem MkAt.on {w x : World} {g : Nat} {m : Int × Bool} (h : MkAt w g m) (hb : Below w.heap.size w x) : MkAt x g m := (hb.block g (lt_of_heap h)).trans h
theorem MkAt.c {w : World} {g : Nat} {m : Int × Bool} (h : MkAt w g m) : w.cell? ⟨g, 0, none⟩ = some (.int .i64 m.1) ∧ w.cell? ⟨g, 1, none⟩ = some (.bool m.2) := ⟨(cell_of_row _ _ _ _ _ _ h).trans rfl, (cell_of_row _ _ _ _ _ _ h).trans rfl⟩
structure PvA (w : World) (g : Nat) (p : Pt) (a : Option Addr) (k : Nat) : Prop where
  at_ : PtAt w g p a k
  row : SRw w a k p.start
theorem PvA.on {w x : World} {g : Nat} {p : Pt} {a : Option Addr} {k : Nat} (h : PvA w g p a k) (hb : Below w.heap.size w x) : PvA x g p a k := ⟨h.at_.on hb, h.row.on hb⟩
/-- A store elsewhere. -/
def Apart (a : Option Addr) (l : List Int) (q : Nat) : Prop := 0 < l.length → ∀ b o, a = some ⟨b, o, none⟩ → b ≠ q
theorem SRw.apart {w : World} {a : Option Addr} {k : Nat} {l : List Int} (h : SRw w a k l) {q : Nat} (hq : w.heap.size ≤ q) : Apart a l q := fun h0 b o e => by
  obtain ⟨b2, o2, e2, hlt, _⟩ := h.row.at_ h0
  rw [e2] at e
  injection e with e
  injection e with e1 e2
  omega
theorem apart_low {a : Option Addr} {l : List Int} {q B : Nat} (h : ∀ b o, a = some ⟨b, o, none⟩ → B ≤ b) (hq : q < B) : Apart a l q := fun _ b o e => by have := h b o e; omega
theorem apart_nil {a : Option Addr} {q : Nat} : Apart a [] q := fun h => absurd h (by simp)
theorem SRw.farA {w : World} {a : Option Addr} {k : Nat} {l : List Int} (h : SRw w a k l) {q : Nat} (hq : Apart a l q) (vs : List Value) : SRw (w.setCells q 0 vs) a k l :=
  ⟨⟨h.row.le, h.row.max, fun hp => by
    obtain ⟨b, o, e, hlt, hc⟩ := h.row.at_ hp
    refine ⟨b, o, e, by rw [size_setCells]; exact hlt, fun j hj => ?_⟩
    exact (World.cell?_of_block (w := w) (a := ⟨b, o + j, none⟩) (far_cells b q (hq hp b o e) vs 0 w)).trans (hc j hj)⟩, h.nil_⟩
theorem SRw.none_ (w : World) : SRw w none 0 [] := ⟨⟨Nat.le_refl _, by simp [maxLen], fun h => absurd h (by simp)⟩, fun _ => ⟨rfl, rfl⟩⟩
/-- What 'x, m := Step(..)' leaves: two new variables. -/
def Two (W wx : World) (v2 v3 : Value) (P : Pt) (m : Int × Bool) : Prop :=
  ∃ g gm a k, v2 = .pointer (some ⟨g, 0, none⟩) ∧ v3 = .pointer (some ⟨gm, 0, none⟩) ∧ W.heap.size ≤ g ∧ W.heap.size ≤ gm ∧ PvA wx g P a k ∧ (∀ b o, a = some ⟨b, o, none⟩ → W.heap.size ≤ b) ∧ MkAt wx gm m ∧ Below W.heap.size W wx
theorem pstep_l {w : World} (p : Pt) {a : Option Addr} {k : Nat} (hn : okT p = true) (h : SRw w a k p.start) {c : Cf} (hc : confR c = true) (want demand : Int) (pr : Int) (l : List Int) (pw pu mc : Int) (mb : Bool) (n : Nat)
    (hP : Plt.step c p want demand = ⟨pr, l, pw, pu⟩) (hm : Plt.mark c p want demand = (mc, mb)) (hl : l.length = n) :
    Calls Try.prog 12 #[cfV c, .agg #[.int .i64 p.ready, .slice a p.start.length k, .int .i64 p.wait, .int .i64 p.util], .int .i64 want, .int .i64 demand] w fun r w' => ∃ a2 k2, r = .returned (.tuple #[.agg #[.int .i64 pr, .slice a2 n k2, .int .i64 pw, .int .i64 pu], .agg #[.int .i64 mc, .bool mb]]) ∧ SRw w' a2 k2 l ∧ (∀ g o, a2 = some ⟨g, o, none⟩ → w.heap.size ≤ g) ∧ Below w.heap.size w w' := by
  have := pstep_any (TOk.of hn) h hc want demand
  rw [hP, hm] at this
  subst hl
  exact this
theorem rstep_l {w : World} (p : Pt) {a : Option Addr} {k : Nat} (hn : okT p = true) (h : SRw w a k p.start) {c : Cf} (hc : confR c = true) (want demand : Int) (pr : Int) (l : List Int) (pw pu mc : Int) (mb : Bool) (n : Nat)
    (hP : Plt.step c p want demand = ⟨pr, l, pw, pu⟩) (hm : Plt.mark c p want demand = (mc, mb)) (hl : l.length = n) :
    Calls Try.prog 13 #[cfV c, .agg #[.int .i64 p.ready, .slice a p.start.length k, .int .i64 p.wait, .int .i64 p.util], .int .i64 want, .int .i64 demand] w fun r w' => ∃ a2 k2, r = .returned (.tuple #[.agg #[.int .i64 pr, .slice a2 n k2, .int .i64 pw, .int .i64 pu], .agg #[.int .i64 mc, .bool mb]]) ∧ SRw w' a2 k2 l ∧ (∀ g o, a2 = some ⟨g, o, none⟩ → w.heap.size ≤ g) ∧ Below w.heap.size w w' := by
  have := rstep_any (TOk.of hn) h hc want demand
  rw [hP, hm] at this
  subst hl
  exact this
theorem pnew_l (n N : Int) (hN : rep n = N) (w : World) :
    Calls Try.prog 17 #[.int .i64 n] w fun r w' => r = .returned (.agg #[.int .i64 N, .slice none 0 0, .int .i64 0, .int .i64 0]) ∧ Below w.heap.size w w' := by
  have := pnew_any n w
  unfold new at this
  rw [hN] at this
  exact this
theorem two_new (v : World) (pr : Int) (l : List Int) (pw pu : Int) (a : Option Addr) (k : Nat) (mc : Int) (mb : Bool) (n : Nat) (hl : l.length = n) (hs : SRw v a k l) :
    let x := (v.alloc (.cells #[.int .i64 pr, .slice a n k, .int .i64 pw, .int .i64 pu] 26)).alloc (.cells #[.int .i64 mc, .bool mb] 31)
    Below v.heap.size v x ∧ PvA x v.heap.size ⟨pr, l, pw, pu⟩ a k ∧ MkAt x (v.heap.size + 1) (mc, mb) := by
  subst hl
  have b1 := bel1 (Below.refl v.heap.size v) (.cells #[.int .i64 pr, .slice a l.length k, .int .i64 pw, .int .i64 pu] 26)
  have b2 := bel1 (Below.refl (v.alloc (.cells #[.int .i64 pr, .slice a l.length k, .int .i64 pw, .int .i64 pu] 26)).heap.size (v.alloc (.cells #[.int .i64 pr, .slice a l.length k, .int .i64 pw, .int .i64 pu] 26))) (.cells #[.int .i64 mc, .bool mb] 31)
  have p1 : PtAt (v.alloc (.cells #[.int .i64 pr, .slice a l.length k, .int .i64 pw, .int .i64 pu] 26)) v.heap.size ⟨pr, l, pw, pu⟩ a k := heap_alloc_new _ _
  exact ⟨bel2 b1 b2, ⟨p1.on b2, (hs.on b1).on b2⟩, la2 _ _ _⟩
theorem srw3 (w : World) (x y z : Int) : SRw (w.alloc (.cells #[.int .i64 x, .int .i64 y, .int .i64 z] 3)) (some ⟨w.heap.size, 0, none⟩) 3 [x, y, z] :=
  ⟨Row.new (heap_alloc_new _ _) (fun j hj => by
    match j, hj with
    | 0, _ => rfl
    | 1, _ => rfl
    | 2, _ => rfl
    | j + 3, hj => simp at hj; omega) (by simp [maxLen]), fun h => by cases h⟩
theorem srw1 (w : World) (x : Int) : SRw (w.alloc (.cells #[.int .i64 x] 3)) (some ⟨w.heap.size, 0, none⟩) 1 [x] := ⟨one_row w x, fun h => by cases h⟩
theorem rnew_l (n N : Int) (hN : rep n = N) (w : World) :
    Calls Try.prog 18 #[.int .i64 n] w fun r w' => r = .returned (.agg #[.int .i64 N, .slice none 0 0, .int .i64 0, .int .i64 0]) ∧ Below w.heap.size w w' := by
  have := rnew_any n w
  unfold new at this
  rw [hN] at this
  exact this
theorem boxes (w : World) (c : Cf) (p : Pt) (a : Option Addr) (k : Nat) (h : SRw w a k p.start) :
    let x := (w.alloc (.cells #[.int .i64 c.min, .int .i64 c.max, .int .i64 c.rate, .int .i64 c.stable, .int .i64 c.cap, .int .i64 c.delay, .int .i64 c.slack, .int .i64 c.window, .int .i64 c.margin, .int .i64 c.ceil, .int .i64 c.probe, .int .i64 c.breach] 23)).alloc (.cells #[.int .i64 p.ready, .slice a p.start.length k, .int .i64 p.wait, .int .i64 p.util] 26)
    Below w.heap.size w x ∧ CBx x w.heap.size c ∧ PvA x (w.heap.size + 1) p a k := by
  have b1 := bel1 (Below.refl w.heap.size w) (.cells #[.int .i64 c.min, .int .i64 c.max, .int .i64 c.rate, .int .i64 c.stable, .int .i64 c.cap, .int .i64 c.delay, .int .i64 c.slack, .int .i64 c.window, .int .i64 c.margin, .int .i64 c.ceil, .int .i64 c.probe, .int .i64 c.breach] 23)
  have b2 := bel1 (Below.refl (w.alloc (.cells #[.int .i64 c.min, .int .i64 c.max, .int .i64 c.rate, .int .i64 c.stable, .int .i64 c.cap, .int .i64 c.delay, .int .i64 c.slack, .int .i64 c.window, .int .i64 c.margin, .int .i64 c.ceil, .int .i64 c.probe, .int .i64 c.breach] 23)).heap.size (w.alloc (.cells #[.int .i64 c.min, .int .i64 c.max, .int .i64 c.rate, .int .i64 c.stable, .int .i64 c.cap, .int .i64 c.delay, .int .i64 c.slack, .int .i64 c.window, .int .i64 c.margin, .int .i64 c.ceil, .int .i64 c.probe, .int .i64 c.breach] 23))) (.cells #[.int .i64 p.ready, .slice a p.start.length k, .int .i64 p.wait, .int .i64 p.util] 26)
  have k1 : CBx (w.alloc (.cells #[.int .i64 c.min, .int .i64 c.max, .int .i64 c.rate, .int .i64 c.stable, .int .i64 c.cap, .int .i64 c.delay, .int .i64 c.slack, .int .i64 c.window, .int .i64 c.margin, .int .i64 c.ceil, .int .i64 c.probe, .int .i64 c.breach] 23)) w.heap.size c := heap_alloc_new _ _
  exact ⟨bel2 b1 b2, k1.on b2, ⟨la2 _ _ _, (h.on b1).on b2⟩⟩
theorem field_pt (a b c d : Value) (w : World) : (Instr.field 26 (.agg #[a, b, c, d]) 0).run Try.prog w = .ok a w := by kernel_rfl
def plainQ : Cf := ⟨1, 20, 4, 3, 100, 1, 50, 4, 2, 1, 3, 1⟩
theorem plainQ_ok : confR plainQ = true := by decide
theorem qplain_any (w : World) :
    Calls Try.prog 19 #[] w fun r w' => r = .returned (cfV plainQ) ∧ Below w.heap.size w w' := by
  go_enter Try.func19, Try.ntmps19
  go_wp2
  refine bodyPost_ret (results_cell_row rfl _ _ (w.heap.size) _ _ _ _ rfl (heap_alloc_new _ _) Try.underlying23 (by rfl) (by kernel_rfl)) (by rfl) ?_
  exact ⟨rfl, bel1 (Below.refl _ _) _⟩
set_option maxRecDepth 100000 in
set_option maxHeartbeats 3200000 in
theorem qhead_any (w : World) :
    Calls Try.prog 9 #[] w fun r w' => r = .returned (.bool true) ∧ Below w.heap.size w w' := by
  go_enter Try.func9, Try.ntmps9
  go_wp2_with fail
  refine (qplain_any _).mono ?_
  rintro r v0 ⟨rfl, b⟩
  unfold cfV plainQ
  simp only
  have B := Lib.hid b
  clear b
  go_upto_region 2 with fail
  obtain ⟨w0, hw⟩ : ∃ w0, w0 = v0.alloc (.cells #[.int .i64 1, .int .i64 20, .int .i64 4, .int .i64 3, .int .i64 100, .int .i64 1, .int .i64 50, .int .i64 4, .int .i64 2, .int .i64 1, .int .i64 3, .int .i64 1] 23) := ⟨_, rfl⟩
  rw [← hw]
  have HP : Hid (CBx w0 v0.heap.size plainQ) := by show CBx _ _ _; rw [hw]; exact heap_alloc_new _ _
  have B : Hid (Below w.heap.size w w0) := by show Below _ _ _; rw [hw]; exact bel1 B.out _
  clear hw
  go_cut [2, 3] from 11 to 16 (fun x y wx => Two w0 wx x y ⟨2, [], 50, 1250⟩ (2, false))
  case first =>
    refine wp_region_held_drew (S := fun wy => CBx wy v0.heap.size plainQ) (by kernel_rfl) (HP.out.on (Below.drew (Below.refl _ _))) (fun hHeld => ?_)
    refine wpAnyH_take (i := 0) (v := cfV plainQ) rfl (by kernel_rfl) (by kernel_rfl) (by kernel_rfl) (fun _ _ _ h => h) (Or.inl ⟨by rfl, fun wz hS => exec_rowG 23 (.tmp 1) rfl (v0.heap.size) rfl 23 _ (0, 0) _ (hS) Try.underlying23 rfl (by kernel_rfl)⟩) (by assumption) ?_
    try simp only [Act.put, List.getElem_toArray, List.getElem_cons_succ, List.getElem_cons_zero, List.setIfInBounds_toArray, List.set_cons_zero, List.set_cons_succ]
    have hB0 : Below w0.heap.size w0 w0.drew := Below.drew (Below.refl _ _)
    clear hHeld
    generalize w0.drew = wa0 at hB0 ⊢
    refine wpAnyH_ready (rs := [1, 6, 7]) (by kernel_rfl) (by simp) ?_
    refine (AllReadyH.cons rfl (fun K hK => ?_) (AllReadyH.cons rfl (fun K hK => ?_) (AllReadyH.cons rfl (fun K hK => ?_) AllReadyH.nil)))
    · rw [if_pos (by rfl)]
      go_simp
      go_at_call 17
      refine (pnew_l 2 2 rfl _).mono ?_
      rintro r wa1 ⟨rfl, b⟩
      have hB1 := hB0.trans (b.mono hB0.size)
      clear b hB0
      refine hK.out _ _ ?_ (fun hHeld => ?_)
      · exact HP.out.on hB1
      clear hK K
      try simp only [Act.put, List.getElem_toArray, List.getElem_cons_succ, List.getElem_cons_zero, List.setIfInBounds_toArray, List.set_cons_zero, List.set_cons_succ]
      refine wpAnyH_ready (rs := [2, 6, 7]) (by kernel_rfl) (by simp) ?_
      refine (AllReadyH.cons rfl (fun K hK => ?_) (AllReadyH.cons rfl (fun K hK => ?_) (AllReadyH.cons rfl (fun K hK => ?_) AllReadyH.nil)))
      · rw [if_pos (by rfl)]
        go_simp
        go_at_call 12
        refine (pstep_l ⟨2, [], 0, 0⟩ rfl (SRw.none_ _) plainQ_ok 2 250 2 [] 50 1250 2 false 0 (by kernel_rfl) (by kernel_rfl) rfl).mono ?_
        rintro r wa2 ⟨a2, k2, rfl, hs2, ho2, b⟩
        have hB2 := hB1.trans (b.mono hB1.size)
        have HS2 := Lib.hid hs2
        have HO2 := Lib.hid (fun g o e => Nat.le_trans hB1.size (ho2 g o e))
        clear hs2 ho2
        clear b hB1
        refine hK.out _ _ ?_ (fun hHeld => ?_)
        · exact HP.out.on hB2
        clear hK K
        try simp only [Act.put, List.getElem_toArray, List.getElem_cons_succ, List.getElem_cons_zero, List.setIfInBounds_toArray, List.set_cons_zero, List.set_cons_succ]
        refine wpAnyH_take (i := 3) (v := ?_) rfl (by kernel_rfl) (by kernel_rfl) (by kernel_rfl) (fun _ _ _ h => h) (Or.inl ⟨by rfl, ?_⟩) (by assumption) ?_
        rotate_left
        · intro w hSw
          (try dsimp only at hSw)
          go_simp
          all_goals with_reducible rfl
        try simp only [Act.put, List.getElem_toArray, List.getElem_cons_succ, List.getElem_cons_zero, List.setIfInBounds_toArray, List.set_cons_zero, List.set_cons_succ]
        refine wpAnyH_take (i := 4) (v := ?_) rfl (by kernel_rfl) (by kernel_rfl) (by kernel_rfl) (fun _ _ _ h => h) (Or.inl ⟨by rfl, ?_⟩) (by assumption) ?_
        rotate_left
        · intro w hSw
          (try dsimp only at hSw)
          go_simp
          all_goals with_reducible rfl
        try simp only [Act.put, List.getElem_toArray, List.getElem_cons_succ, List.getElem_cons_zero, List.setIfInBounds_toArray, List.set_cons_zero, List.set_cons_succ]
        refine wpAnyH_take (i := 5) (v := ?_) rfl (by kernel_rfl) (by kernel_rfl) (by kernel_rfl) (fun _ _ _ h => h) (Or.inl ⟨by rfl, ?_⟩) (by assumption) ?_
        rotate_left
        · intro w hSw
          (try dsimp only at hSw)
          go_simp
          all_goals with_reducible rfl
        try simp only [Act.put, List.getElem_toArray, List.getElem_cons_succ, List.getElem_cons_zero, List.setIfInBounds_toArray, List.set_cons_zero, List.set_cons_succ]
        refine wpAnyH_ready (rs := [6, 7]) (by kernel_rfl) (by simp) ?_
        refine (AllReadyH.cons rfl (fun K hK => ?_) (AllReadyH.cons rfl (fun K hK => ?_) AllReadyH.nil))
        · rw [if_pos (by rfl)]
          go_simp
          have hB3 := hB2.alloc hB2.size (.cells #[.int .i64 0, .slice none 0 0, .int .i64 0, .int .i64 0] 26)
          have HS2 := Lib.hid (HS2.out.on (bel1 (Below.refl wa2.heap.size wa2) (.cells #[.int .i64 0, .slice none 0 0, .int .i64 0, .int .i64 0] 26)))
          have ZP := Lib.hid (heap_alloc_new wa2 (.cells #[.int .i64 0, .slice none 0 0, .int .i64 0, .int .i64 0] 26))
          have lg : w0.heap.size ≤ wa2.heap.size := hB2.size
          obtain ⟨g, hgg⟩ : ∃ g, g = wa2.heap.size := ⟨_, rfl⟩
          rw [← hgg] at ZP lg ⊢
          clear hgg
          generalize wa2.alloc (.cells #[.int .i64 0, .slice none 0 0, .int .i64 0, .int .i64 0] 26) = wa3 at hB3 ZP HS2 ⊢
          clear hB2
          refine hK.out _ _ ?_ (fun hHeld => ?_)
          · exact HP.out.on hB3
          clear hK K
          try simp only [Act.put, List.getElem_toArray, List.getElem_cons_succ, List.getElem_cons_zero, List.setIfInBounds_toArray, List.set_cons_zero, List.set_cons_succ]
          refine wpAnyH_ready (rs := [7]) (by kernel_rfl) (by simp) ?_
          refine AllReadyH.cons rfl (fun K hK => ?_) AllReadyH.nil
          rw [if_pos (by rfl)]
          go_simp
          have hlt9 := lt_of_heap ZP.out
          have hB4 := hB3.alloc hB3.size (.cells #[.int .i64 0, .bool false] 31)
          have ZP := Lib.hid ((heap_alloc_old wa3 (.cells #[.int .i64 0, .bool false] 31) (lt_of_heap ZP.out)).trans ZP.out)
          have HS2 := Lib.hid (HS2.out.on (bel1 (Below.refl wa3.heap.size wa3) (.cells #[.int .i64 0, .bool false] 31)))
          have ZM := Lib.hid (heap_alloc_new wa3 (.cells #[.int .i64 0, .bool false] 31))
          have lgm : w0.heap.size ≤ wa3.heap.size := hB3.size
          obtain ⟨gm, hggm⟩ : ∃ g, g = wa3.heap.size := ⟨_, rfl⟩
          rw [← hggm] at ZM lgm ⊢
          have hne : g ≠ gm := by omega
          clear hlt9
          clear hggm
          generalize wa3.alloc (.cells #[.int .i64 0, .bool false] 31) = wa4 at hB4 ZM ZP HS2 ⊢
          clear hB3
          refine hK.out _ _ ?_ (fun hHeld => ?_)
          · exact HP.out.on hB4
          clear hK K
          try simp only [Act.put, List.getElem_toArray, List.getElem_cons_succ, List.getElem_cons_zero, List.setIfInBounds_toArray, List.set_cons_zero, List.set_cons_succ]
          refine wpAnyH_ready (rs := [8]) (by kernel_rfl) (by simp) ?_
          refine AllReadyH.cons rfl (fun K hK => ?_) AllReadyH.nil
          rw [if_pos (by rfl)]
          refine wp_store_mid 26 (.tmp 2) (.tmp 15) (by rfl) g 0 #[.int .i64 2, .slice a2 0 k2, .int .i64 50, .int .i64 1250] (by rfl) (by rfl) (there_of_block ZP.out (by simp)) (by kernel_rfl) (by kernel_rfl) ?_
          have ZP := Lib.hid (heap_setCells_whole (cs := [Value.int .i64 0, .slice none 0 0, .int .i64 0, .int .i64 0]) (#[.int .i64 2, .slice a2 0 k2, .int .i64 50, .int .i64 1250] : Array Value).toList rfl ZP.out)
          have ZM := Lib.hid ((far_cells gm g (Ne.symm hne) (#[.int .i64 2, .slice a2 0 k2, .int .i64 50, .int .i64 1250] : Array Value).toList 0 _).trans ZM.out)
          have HS2 := Lib.hid (HS2.out.farA (q := g) apart_nil (#[.int .i64 2, .slice a2 0 k2, .int .i64 50, .int .i64 1250] : Array Value).toList)
          have hB5 := below_setCells' g lg (#[.int .i64 2, .slice a2 0 k2, .int .i64 50, .int .i64 1250] : Array Value).toList 0 hB4
          generalize wa4.setCells g 0 (#[.int .i64 2, .slice a2 0 k2, .int .i64 50, .int .i64 1250] : Array Value).toList = wa5 at ZP ZM HS2 hB5 ⊢
          clear hB4
          refine hK.out _ _ ?_ (fun hHeld => ?_)
          · exact HP.out.on hB5
          clear hK K
          try simp only [Act.put, List.getElem_toArray, List.getElem_cons_succ, List.getElem_cons_zero, List.setIfInBounds_toArray, List.set_cons_zero, List.set_cons_succ]
          refine wpAnyH_ready (rs := [9]) (by kernel_rfl) (by simp) ?_
          refine AllReadyH.cons rfl (fun K hK => ?_) AllReadyH.nil
          rw [if_pos (by rfl)]
          refine wp_store_mid 31 (.tmp 3) (.tmp 16) (by rfl) gm 0 #[.int .i64 2, .bool false] (by rfl) (by rfl) (there_of_block ZM.out (by simp)) (by kernel_rfl) (by kernel_rfl) ?_
          have ZM := Lib.hid (heap_setCells_whole (cs := [Value.int .i64 0, .bool false]) (#[.int .i64 2, .bool false] : Array Value).toList rfl ZM.out)
          have ZP := Lib.hid ((far_cells g gm hne (#[.int .i64 2, .bool false] : Array Value).toList 0 _).trans ZP.out)
          have HS2 := Lib.hid (HS2.out.farA (q := gm) apart_nil (#[.int .i64 2, .bool false] : Array Value).toList)
          have hB6 := below_setCells' gm lgm (#[.int .i64 2, .bool false] : Array Value).toList 0 hB5
          generalize wa5.setCells gm 0 (#[.int .i64 2, .bool false] : Array Value).toList = wa6 at ZP ZM HS2 hB6 ⊢
          clear hB5
          refine hK.out _ _ ?_ (fun hHeld => ?_)
          · exact HP.out.on hB6
          clear hK K
          try simp only [Act.put, List.getElem_toArray, List.getElem_cons_succ, List.getElem_cons_zero, List.setIfInBounds_toArray, List.set_cons_zero, List.set_cons_succ]
          refine wpAnyH_done (by kernel_rfl) ?_ _
          go_wp2_with fail
          go_meet
          exact ⟨g, gm, a2, k2, rfl, rfl, lg, lgm, ⟨ZP.out, HS2.out⟩, HO2.out, ZM.out, hB6⟩
        · rw [if_pos (by rfl)]
          go_simp
          have hB3 := hB2.alloc hB2.size (.cells #[.int .i64 0, .bool false] 31)
          have HS2 := Lib.hid (HS2.out.on (bel1 (Below.refl wa2.heap.size wa2) (.cells #[.int .i64 0, .bool false] 31)))
          have ZM := Lib.hid (heap_alloc_new wa2 (.cells #[.int .i64 0, .bool false] 31))
          have lgm : w0.heap.size ≤ wa2.heap.size := hB2.size
          obtain ⟨gm, hggm⟩ : ∃ g, g = wa2.heap.size := ⟨_, rfl⟩
          rw [← hggm] at ZM lgm ⊢
          clear hggm
          generalize wa2.alloc (.cells #[.int .i64 0, .bool false] 31) = wa3 at hB3 ZM HS2 ⊢
          clear hB2
          refine hK.out _ _ ?_ (fun hHeld => ?_)
          · exact HP.out.on hB3
          clear hK K
          try simp only [Act.put, List.getElem_toArray, List.getElem_cons_succ, List.getElem_cons_zero, List.setIfInBounds_toArray, List.set_cons_zero, List.set_cons_succ]
          refine wpAnyH_ready (rs := [6]) (by kernel_rfl) (by simp) ?_
          refine AllReadyH.cons rfl (fun K hK => ?_) AllReadyH.nil
          rw [if_pos (by rfl)]
          go_simp
          have hlt9 := lt_of_heap ZM.out
          have hB4 := hB3.alloc hB3.size (.cells #[.int .i64 0, .slice none 0 0, .int .i64 0, .int .i64 0] 26)
          have ZM := Lib.hid ((heap_alloc_old wa3 (.cells #[.int .i64 0, .slice none 0 0, .int .i64 0, .int .i64 0] 26) (lt_of_heap ZM.out)).trans ZM.out)
          have HS2 := Lib.hid (HS2.out.on (bel1 (Below.refl wa3.heap.size wa3) (.cells #[.int .i64 0, .slice none 0 0, .int .i64 0, .int .i64 0] 26)))
          have ZP := Lib.hid (heap_alloc_new wa3 (.cells #[.int .i64 0, .slice none 0 0, .int .i64 0, .int .i64 0] 26))
          have lg : w0.heap.size ≤ wa3.heap.size := hB3.size
          obtain ⟨g, hgg⟩ : ∃ g, g = wa3.heap.size := ⟨_, rfl⟩
          rw [← hgg] at ZP lg ⊢
          have hne : g ≠ gm := by omega
          clear hlt9
          clear hgg
          generalize wa3.alloc (.cells #[.int .i64 0, .slice none 0 0, .int .i64 0, .int .i64 0] 26) = wa4 at hB4 ZP ZM HS2 ⊢
          clear hB3
          refine hK.out _ _ ?_ (fun hHeld => ?_)
          · exact HP.out.on hB4
          clear hK K
          try simp only [Act.put, List.getElem_toArray, List.getElem_cons_succ, List.getElem_cons_zero, List.setIfInBounds_toArray, List.set_cons_zero, List.set_cons_succ]
          refine wpAnyH_ready (rs := [8]) (by kernel_rfl) (by simp) ?_
          refine AllReadyH.cons rfl (fun K hK => ?_) AllReadyH.nil
          rw [if_pos (by rfl)]
          refine wp_store_mid 26 (.tmp 2) (.tmp 15) (by rfl) g 0 #[.int .i64 2, .slice a2 0 k2, .int .i64 50, .int .i64 1250] (by rfl) (by rfl) (there_of_block ZP.out (by simp)) (by kernel_rfl) (by kernel_rfl) ?_
          have ZP := Lib.hid (heap_setCells_whole (cs := [Value.int .i64 0, .slice none 0 0, .int .i64 0, .int .i64 0]) (#[.int .i64 2, .slice a2 0 k2, .int .i64 50, .int .i64 1250] : Array Value).toList rfl ZP.out)
          have ZM := Lib.hid ((far_cells gm g (Ne.symm hne) (#[.int .i64 2, .slice a2 0 k2, .int .i64 50, .int .i64 1250] : Array Value).toList 0 _).trans ZM.out)
          have HS2 := Lib.hid (HS2.out.farA (q := g) apart_nil (#[.int .i64 2, .slice a2 0 k2, .int .i64 50, .int .i64 1250] : Array Value).toList)
          have hB5 := below_setCells' g lg (#[.int .i64 2, .slice a2 0 k2, .int .i64 50, .int .i64 1250] : Array Value).toList 0 hB4
          generalize wa4.setCells g 0 (#[.int .i64 2, .slice a2 0 k2, .int .i64 50, .int .i64 1250] : Array Value).toList = wa5 at ZP ZM HS2 hB5 ⊢
          clear hB4
          refine hK.out _ _ ?_ (fun hHeld => ?_)
          · exact HP.out.on hB5
          clear hK K
          try simp only [Act.put, List.getElem_toArray, List.getElem_cons_succ, List.getElem_cons_zero, List.setIfInBounds_toArray, List.set_cons_zero, List.set_cons_succ]
          refine wpAnyH_ready (rs := [9]) (by kernel_rfl) (by simp) ?_
          refine AllReadyH.cons rfl (fun K hK => ?_) AllReadyH.nil
          rw [if_pos (by rfl)]
          refine wp_store_mid 31 (.tmp 3) (.tmp 16) (by rfl) gm 0 #[.int .i64 2, .bool false] (by rfl) (by rfl) (there_of_block ZM.out (by simp)) (by kernel_rfl) (by kernel_rfl) ?_
          have ZM := Lib.hid (heap_setCells_whole (cs := [Value.int .i64 0, .bool false]) (#[.int .i64 2, .bool false] : Array Value).toList rfl ZM.out)
          have ZP := Lib.hid ((far_cells g gm hne (#[.int .i64 2, .bool false] : Array Value).toList 0 _).trans ZP.out)
          have HS2 := Lib.hid (HS2.out.farA (q := gm) apart_nil (#[.int .i64 2, .bool false] : Array Value).toList)
          have hB6 := below_setCells' gm lgm (#[.int .i64 2, .bool false] : Array Value).toList 0 hB5
          generalize wa5.setCells gm 0 (#[.int .i64 2, .bool false] : Array Value).toList = wa6 at ZP ZM HS2 hB6 ⊢
          clear hB5
          refine hK.out _ _ ?_ (fun hHeld => ?_)
          · exact HP.out.on hB6
          clear hK K
          try simp only [Act.put, List.getElem_toArray, List.getElem_cons_succ, List.getElem_cons_zero, List.setIfInBounds_toArray, List.set_cons_zero, List.set_cons_succ]
          refine wpAnyH_done (by kernel_rfl) ?_ _
          go_wp2_with fail
          go_meet
          exact ⟨g, gm, a2, k2, rfl, rfl, lg, lgm, ⟨ZP.out, HS2.out⟩, HO2.out, ZM.out, hB6⟩
      · rw [if_pos (by rfl)]
        go_simp
        have hB2 := hB1.alloc hB1.size (.cells #[.int .i64 0, .slice none 0 0, .int .i64 0, .int .i64 0] 26)
        have ZP := Lib.hid (heap_alloc_new wa1 (.cells #[.int .i64 0, .slice none 0 0, .int .i64 0, .int .i64 0] 26))
        have lg : w0.heap.size ≤ wa1.heap.size := hB1.size
        obtain ⟨g, hgg⟩ : ∃ g, g = wa1.heap.size := ⟨_, rfl⟩
        rw [← hgg] at ZP lg ⊢
        clear hgg
        generalize wa1.alloc (.cells #[.int .i64 0, .slice none 0 0, .int .i64 0, .int .i64 0] 26) = wa2 at hB2 ZP ⊢
        clear hB1
        refine hK.out _ _ ?_ (fun hHeld => ?_)
        · exact HP.out.on hB2
        clear hK K
        try simp only [Act.put, List.getElem_toArray, List.getElem_cons_succ, List.getElem_cons_zero, List.setIfInBounds_toArray, List.set_cons_zero, List.set_cons_succ]
        refine wpAnyH_ready (rs := [2, 7]) (by kernel_rfl) (by simp) ?_
        refine (AllReadyH.cons rfl (fun K hK => ?_) (AllReadyH.cons rfl (fun K hK => ?_) AllReadyH.nil))
        · rw [if_pos (by rfl)]
          go_simp
          go_at_call 12
          refine (pstep_l ⟨2, [], 0, 0⟩ rfl (SRw.none_ _) plainQ_ok 2 250 2 [] 50 1250 2 false 0 (by kernel_rfl) (by kernel_rfl) rfl).mono ?_
          rintro r wa3 ⟨a2, k2, rfl, hs2, ho2, b⟩
          have hB3 := hB2.trans (b.mono hB2.size)
          have ZP := Lib.hid ((b.block _ (lt_of_heap ZP.out)).trans ZP.out)
          have HS2 := Lib.hid hs2
          have HO2 := Lib.hid (fun g o e => Nat.le_trans hB2.size (ho2 g o e))
          clear hs2 ho2
          clear b hB2
          refine hK.out _ _ ?_ (fun hHeld => ?_)
          · exact HP.out.on hB3
          clear hK K
          try simp only [Act.put, List.getElem_toArray, List.getElem_cons_succ, List.getElem_cons_zero, List.setIfInBounds_toArray, List.set_cons_zero, List.set_cons_succ]
          refine wpAnyH_take (i := 3) (v := ?_) rfl (by kernel_rfl) (by kernel_rfl) (by kernel_rfl) (fun _ _ _ h => h) (Or.inl ⟨by rfl, ?_⟩) (by assumption) ?_
          rotate_left
          · intro w hSw
            (try dsimp only at hSw)
            go_simp
            all_goals with_reducible rfl
          try simp only [Act.put, List.getElem_toArray, List.getElem_cons_succ, List.getElem_cons_zero, List.setIfInBounds_toArray, List.set_cons_zero, List.set_cons_succ]
          refine wpAnyH_take (i := 4) (v := ?_) rfl (by kernel_rfl) (by kernel_rfl) (by kernel_rfl) (fun _ _ _ h => h) (Or.inl ⟨by rfl, ?_⟩) (by assumption) ?_
          rotate_left
          · intro w hSw
            (try dsimp only at hSw)
            go_simp
            all_goals with_reducible rfl
          try simp only [Act.put, List.getElem_toArray, List.getElem_cons_succ, List.getElem_cons_zero, List.setIfInBounds_toArray, List.set_cons_zero, List.set_cons_succ]
          refine wpAnyH_take (i := 5) (v := ?_) rfl (by kernel_rfl) (by kernel_rfl) (by kernel_rfl) (fun _ _ _ h => h) (Or.inl ⟨by rfl, ?_⟩) (by assumption) ?_
          rotate_left
          · intro w hSw
            (try dsimp only at hSw)
            go_simp
            all_goals with_reducible rfl
          try simp only [Act.put, List.getElem_toArray, List.getElem_cons_succ, List.getElem_cons_zero, List.setIfInBounds_toArray, List.set_cons_zero, List.set_cons_succ]
          refine wpAnyH_ready (rs := [7]) (by kernel_rfl) (by simp) ?_
          refine AllReadyH.cons rfl (fun K hK => ?_) AllReadyH.nil
          rw [if_pos (by rfl)]
          go_simp
          have hlt9 := lt_of_heap ZP.out
          have hB4 := hB3.alloc hB3.size (.cells #[.int .i64 0, .bool false] 31)
          have ZP := Lib.hid ((heap_alloc_old wa3 (.cells #[.int .i64 0, .bool false] 31) (lt_of_heap ZP.out)).trans ZP.out)
          have HS2 := Lib.hid (HS2.out.on (bel1 (Below.refl wa3.heap.size wa3) (.cells #[.int .i64 0, .bool false] 31)))
          have ZM := Lib.hid (heap_alloc_new wa3 (.cells #[.int .i64 0, .bool false] 31))
          have lgm : w0.heap.size ≤ wa3.heap.size := hB3.size
          obtain ⟨gm, hggm⟩ : ∃ g, g = wa3.heap.size := ⟨_, rfl⟩
          rw [← hggm] at ZM lgm ⊢
          have hne : g ≠ gm := by omega
          clear hlt9
          clear hggm
          generalize wa3.alloc (.cells #[.int .i64 0, .bool false] 31) = wa4 at hB4 ZM ZP HS2 ⊢
          clear hB3
          refine hK.out _ _ ?_ (fun hHeld => ?_)
          · exact HP.out.on hB4
          clear hK K
          try simp only [Act.put, List.getElem_toArray, List.getElem_cons_succ, List.getElem_cons_zero, List.setIfInBounds_toArray, List.set_cons_zero, List.set_cons_succ]
          refine wpAnyH_ready (rs := [8]) (by kernel_rfl) (by simp) ?_
          refine AllReadyH.cons rfl (fun K hK => ?_) AllReadyH.nil
          rw [if_pos (by rfl)]
          refine wp_store_mid 26 (.tmp 2) (.tmp 15) (by rfl) g 0 #[.int .i64 2, .slice a2 0 k2, .int .i64 50, .int .i64 1250] (by rfl) (by rfl) (there_of_block ZP.out (by simp)) (by kernel_rfl) (by kernel_rfl) ?_
          have ZP := Lib.hid (heap_setCells_whole (cs := [Value.int .i64 0, .slice none 0 0, .int .i64 0, .int .i64 0]) (#[.int .i64 2, .slice a2 0 k2, .int .i64 50, .int .i64 1250] : Array Value).toList rfl ZP.out)
          have ZM := Lib.hid ((far_cells gm g (Ne.symm hne) (#[.int .i64 2, .slice a2 0 k2, .int .i64 50, .int .i64 1250] : Array Value).toList 0 _).trans ZM.out)
          have HS2 := Lib.hid (HS2.out.farA (q := g) apart_nil (#[.int .i64 2, .slice a2 0 k2, .int .i64 50, .int .i64 1250] : Array Value).toList)
          have hB5 := below_setCells' g lg (#[.int .i64 2, .slice a2 0 k2, .int .i64 50, .int .i64 1250] : Array Value).toList 0 hB4
          generalize wa4.setCells g 0 (#[.int .i64 2, .slice a2 0 k2, .int .i64 50, .int .i64 1250] : Array Value).toList = wa5 at ZP ZM HS2 hB5 ⊢
          clear hB4
          refine hK.out _ _ ?_ (fun hHeld => ?_)
          · exact HP.out.on hB5
          clear hK K
          try simp only [Act.put, List.getElem_toArray, List.getElem_cons_succ, List.getElem_cons_zero, List.setIfInBounds_toArray, List.set_cons_zero, List.set_cons_succ]
          refine wpAnyH_ready (rs := [9]) (by kernel_rfl) (by simp) ?_
          refine AllReadyH.cons rfl (fun K hK => ?_) AllReadyH.nil
          rw [if_pos (by rfl)]
          refine wp_store_mid 31 (.tmp 3) (.tmp 16) (by rfl) gm 0 #[.int .i64 2, .bool false] (by rfl) (by rfl) (there_of_block ZM.out (by simp)) (by kernel_rfl) (by kernel_rfl) ?_
          have ZM := Lib.hid (heap_setCells_whole (cs := [Value.int .i64 0, .bool false]) (#[.int .i64 2, .bool false] : Array Value).toList rfl ZM.out)
          have ZP := Lib.hid ((far_cells g gm hne (#[.int .i64 2, .bool false] : Array Value).toList 0 _).trans ZP.out)
          have HS2 := Lib.hid (HS2.out.farA (q := gm) apart_nil (#[.int .i64 2, .bool false] : Array Value).toList)
          have hB6 := below_setCells' gm lgm (#[.int .i64 2, .bool false] : Array Value).toList 0 hB5
          generalize wa5.setCells gm 0 (#[.int .i64 2, .bool false] : Array Value).toList = wa6 at ZP ZM HS2 hB6 ⊢
          clear hB5
          refine hK.out _ _ ?_ (fun hHeld => ?_)
          · exact HP.out.on hB6
          clear hK K
          try simp only [Act.put, List.getElem_toArray, List.getElem_cons_succ, List.getElem_cons_zero, List.setIfInBounds_toArray, List.set_cons_zero, List.set_cons_succ]
          refine wpAnyH_done (by kernel_rfl) ?_ _
          go_wp2_with fail
          go_meet
          exact ⟨g, gm, a2, k2, rfl, rfl, lg, lgm, ⟨ZP.out, HS2.out⟩, HO2.out, ZM.out, hB6⟩
        · rw [if_pos (by rfl)]
          go_simp
          have hlt9 := lt_of_heap ZP.out
          have hB3 := hB2.alloc hB2.size (.cells #[.int .i64 0, .bool false] 31)
          have ZP := Lib.hid ((heap_alloc_old wa2 (.cells #[.int .i64 0, .bool false] 31) (lt_of_heap ZP.out)).trans ZP.out)
          have ZM := Lib.hid (heap_alloc_new wa2 (.cells #[.int .i64 0, .bool false] 31))
          have lgm : w0.heap.size ≤ wa2.heap.size := hB2.size
          obtain ⟨gm, hggm⟩ : ∃ g, g = wa2.heap.size := ⟨_, rfl⟩
          rw [← hggm] at ZM lgm ⊢
          have hne : g ≠ gm := by omega
          clear hlt9
          clear hggm
          generalize wa2.alloc (.cells #[.int .i64 0, .bool false] 31) = wa3 at hB3 ZM ZP ⊢
          clear hB2
          refine hK.out _ _ ?_ (fun hHeld => ?_)
          · exact HP.out.on hB3
          clear hK K
          try simp only [Act.put, List.getElem_toArray, List.getElem_cons_succ, List.getElem_cons_zero, List.setIfInBounds_toArray, List.set_cons_zero, List.set_cons_succ]
          refine wpAnyH_ready (rs := [2]) (by kernel_rfl) (by simp) ?_
          refine AllReadyH.cons rfl (fun K hK => ?_) AllReadyH.nil
          rw [if_pos (by rfl)]
          go_simp
          go_at_call 12
          refine (pstep_l ⟨2, [], 0, 0⟩ rfl (SRw.none_ _) plainQ_ok 2 250 2 [] 50 1250 2 false 0 (by kernel_rfl) (by kernel_rfl) rfl).mono ?_
          rintro r wa4 ⟨a2, k2, rfl, hs2, ho2, b⟩
          have hB4 := hB3.trans (b.mono hB3.size)
          have ZP := Lib.hid ((b.block _ (lt_of_heap ZP.out)).trans ZP.out)
          have ZM := Lib.hid ((b.block _ (lt_of_heap ZM.out)).trans ZM.out)
          have HS2 := Lib.hid hs2
          have HO2 := Lib.hid (fun g o e => Nat.le_trans hB3.size (ho2 g o e))
          clear hs2 ho2
          clear b hB3
          refine hK.out _ _ ?_ (fun hHeld => ?_)
          · exact HP.out.on hB4
          clear hK K
          try simp only [Act.put, List.getElem_toArray, List.getElem_cons_succ, List.getElem_cons_zero, List.setIfInBounds_toArray, List.set_cons_zero, List.set_cons_succ]
          refine wpAnyH_take (i := 3) (v := ?_) rfl (by kernel_rfl) (by kernel_rfl) (by kernel_rfl) (fun _ _ _ h => h) (Or.inl ⟨by rfl, ?_⟩) (by assumption) ?_
          rotate_left
          · intro w hSw
            (try dsimp only at hSw)
            go_simp
            all_goals with_reducible rfl
          try simp only [Act.put, List.getElem_toArray, List.getElem_cons_succ, List.getElem_cons_zero, List.setIfInBounds_toArray, List.set_cons_zero, List.set_cons_succ]
          refine wpAnyH_take (i := 4) (v := ?_) rfl (by kernel_rfl) (by kernel_rfl) (by kernel_rfl) (fun _ _ _ h => h) (Or.inl ⟨by rfl, ?_⟩) (by assumption) ?_
          rotate_left
          · intro w hSw
            (try dsimp only at hSw)
            go_simp
            all_goals with_reducible rfl
          try simp only [Act.put, List.getElem_toArray, List.getElem_cons_succ, List.getElem_cons_zero, List.setIfInBounds_toArray, List.set_cons_zero, List.set_cons_succ]
          refine wpAnyH_take (i := 5) (v := ?_) rfl (by kernel_rfl) (by kernel_rfl) (by kernel_rfl) (fun _ _ _ h => h) (Or.inl ⟨by rfl, ?_⟩) (by assumption) ?_
          rotate_left
          · intro w hSw
            (try dsimp only at hSw)
            go_simp
            all_goals with_reducible rfl
          try simp only [Act.put, List.getElem_toArray, List.getElem_cons_succ, List.getElem_cons_zero, List.setIfInBounds_toArray, List.set_cons_zero, List.set_cons_succ]
          refine wpAnyH_ready (rs := [8]) (by kernel_rfl) (by simp) ?_
          refine AllReadyH.cons rfl (fun K hK => ?_) AllReadyH.nil
          rw [if_pos (by rfl)]
          refine wp_store_mid 26 (.tmp 2) (.tmp 15) (by rfl) g 0 #[.int .i64 2, .slice a2 0 k2, .int .i64 50, .int .i64 1250] (by rfl) (by rfl) (there_of_block ZP.out (by simp)) (by kernel_rfl) (by kernel_rfl) ?_
          have ZP := Lib.hid (heap_setCells_whole (cs := [Value.int .i64 0, .slice none 0 0, .int .i64 0, .int .i64 0]) (#[.int .i64 2, .slice a2 0 k2, .int .i64 50, .int .i64 1250] : Array Value).toList rfl ZP.out)
          have ZM := Lib.hid ((far_cells gm g (Ne.symm hne) (#[.int .i64 2, .slice a2 0 k2, .int .i64 50, .int .i64 1250] : Array Value).toList 0 _).trans ZM.out)
          have HS2 := Lib.hid (HS2.out.farA (q := g) apart_nil (#[.int .i64 2, .slice a2 0 k2, .int .i64 50, .int .i64 1250] : Array Value).toList)
          have hB5 := below_setCells' g lg (#[.int .i64 2, .slice a2 0 k2, .int .i64 50, .int .i64 1250] : Array Value).toList 0 hB4
          generalize wa4.setCells g 0 (#[.int .i64 2, .slice a2 0 k2, .int .i64 50, .int .i64 1250] : Array Value).toList = wa5 at ZP ZM HS2 hB5 ⊢
          clear hB4
          refine hK.out _ _ ?_ (fun hHeld => ?_)
          · exact HP.out.on hB5
          clear hK K
          try simp only [Act.put, List.getElem_toArray, List.getElem_cons_succ, List.getElem_cons_zero, List.setIfInBounds_toArray, List.set_cons_zero, List.set_cons_succ]
          refine wpAnyH_ready (rs := [9]) (by kernel_rfl) (by simp) ?_
          refine AllReadyH.cons rfl (fun K hK => ?_) AllReadyH.nil
          rw [if_pos (by rfl)]
          refine wp_store_mid 31 (.tmp 3) (.tmp 16) (by rfl) gm 0 #[.int .i64 2, .bool false] (by rfl) (by rfl) (there_of_block ZM.out (by simp)) (by kernel_rfl) (by kernel_rfl) ?_
          have ZM := Lib.hid (heap_setCells_whole (cs := [Value.int .i64 0, .bool false]) (#[.int .i64 2, .bool false] : Array Value).toList rfl ZM.out)
          have ZP := Lib.hid ((far_cells g gm hne (#[.int .i64 2, .bool false] : Array Value).toList 0 _).trans ZP.out)
          have HS2 := Lib.hid (HS2.out.farA (q := gm) apart_nil (#[.int .i64 2, .bool false] : Array Value).toList)
          have hB6 := below_setCells' gm lgm (#[.int .i64 2, .bool false] : Array Value).toList 0 hB5
          generalize wa5.setCells gm 0 (#[.int .i64 2, .bool false] : Array Value).toList = wa6 at ZP ZM HS2 hB6 ⊢
          clear hB5
          refine hK.out _ _ ?_ (fun hHeld => ?_)
          · exact HP.out.on hB6
          clear hK K
          try simp only [Act.put, List.getElem_toArray, List.getElem_cons_succ, List.getElem_cons_zero, List.setIfInBounds_toArray, List.set_cons_zero, List.set_cons_succ]
          refine wpAnyH_done (by kernel_rfl) ?_ _
          go_wp2_with fail
          go_meet
          exact ⟨g, gm, a2, k2, rfl, rfl, lg, lgm, ⟨ZP.out, HS2.out⟩, HO2.out, ZM.out, hB6⟩
      · rw [if_pos (by rfl)]
        go_simp
        have hB2 := hB1.alloc hB1.size (.cells #[.int .i64 0, .bool false] 31)
        have ZM := Lib.hid (heap_alloc_new wa1 (.cells #[.int .i64 0, .bool false] 31))
        have lgm : w0.heap.size ≤ wa1.heap.size := hB1.size
        obtain ⟨gm, hggm⟩ : ∃ g, g = wa1.heap.size := ⟨_, rfl⟩
        rw [← hggm] at ZM lgm ⊢
        clear hggm
        generalize wa1.alloc (.cells #[.int .i64 0, .bool false] 31) = wa2 at hB2 ZM ⊢
        clear hB1
        refine hK.out _ _ ?_ (fun hHeld => ?_)
        · exact HP.out.on hB2
        clear hK K
        try simp only [Act.put, List.getElem_toArray, List.getElem_cons_succ, List.getElem_cons_zero, List.setIfInBounds_toArray, List.set_cons_zero, List.set_cons_succ]
        refine wpAnyH_ready (rs := [2, 6]) (by kernel_rfl) (by simp) ?_
        refine (AllReadyH.cons rfl (fun K hK => ?_) (AllReadyH.cons rfl (fun K hK => ?_) AllReadyH.nil))
        · rw [if_pos (by rfl)]
          go_simp
          go_at_call 12
          refine (pstep_l ⟨2, [], 0, 0⟩ rfl (SRw.none_ _) plainQ_ok 2 250 2 [] 50 1250 2 false 0 (by kernel_rfl) (by kernel_rfl) rfl).mono ?_
          rintro r wa3 ⟨a2, k2, rfl, hs2, ho2, b⟩
          have hB3 := hB2.trans (b.mono hB2.size)
          have ZM := Lib.hid ((b.block _ (lt_of_heap ZM.out)).trans ZM.out)
          have HS2 := Lib.hid hs2
          have HO2 := Lib.hid (fun g o e => Nat.le_trans hB2.size (ho2 g o e))
          clear hs2 ho2
          clear b hB2
          refine hK.out _ _ ?_ (fun hHeld => ?_)
          · exact HP.out.on hB3
          clear hK K
          try simp only [Act.put, List.getElem_toArray, List.getElem_cons_succ, List.getElem_cons_zero, List.setIfInBounds_toArray, List.set_cons_zero, List.set_cons_succ]
          refine wpAnyH_take (i := 3) (v := ?_) rfl (by kernel_rfl) (by kernel_rfl) (by kernel_rfl) (fun _ _ _ h => h) (Or.inl ⟨by rfl, ?_⟩) (by assumption) ?_
          rotate_left
          · intro w hSw
            (try dsimp only at hSw)
            go_simp
            all_goals with_reducible rfl
          try simp only [Act.put, List.getElem_toArray, List.getElem_cons_succ, List.getElem_cons_zero, List.setIfInBounds_toArray, List.set_cons_zero, List.set_cons_succ]
          refine wpAnyH_take (i := 4) (v := ?_) rfl (by kernel_rfl) (by kernel_rfl) (by kernel_rfl) (fun _ _ _ h => h) (Or.inl ⟨by rfl, ?_⟩) (by assumption) ?_
          rotate_left
          · intro w hSw
            (try dsimp only at hSw)
            go_simp
            all_goals with_reducible rfl
          try simp only [Act.put, List.getElem_toArray, List.getElem_cons_succ, List.getElem_cons_zero, List.setIfInBounds_toArray, List.set_cons_zero, List.set_cons_succ]
          refine wpAnyH_take (i := 5) (v := ?_) rfl (by kernel_rfl) (by kernel_rfl) (by kernel_rfl) (fun _ _ _ h => h) (Or.inl ⟨by rfl, ?_⟩) (by assumption) ?_
          rotate_left
          · intro w hSw
            (try dsimp only at hSw)
            go_simp
            all_goals with_reducible rfl
          try simp only [Act.put, List.getElem_toArray, List.getElem_cons_succ, List.getElem_cons_zero, List.setIfInBounds_toArray, List.set_cons_zero, List.set_cons_succ]
          refine wpAnyH_ready (rs := [6]) (by kernel_rfl) (by simp) ?_
          refine AllReadyH.cons rfl (fun K hK => ?_) AllReadyH.nil
          rw [if_pos (by rfl)]
          go_simp
          have hlt9 := lt_of_heap ZM.out
          have hB4 := hB3.alloc hB3.size (.cells #[.int .i64 0, .slice none 0 0, .int .i64 0, .int .i64 0] 26)
          have ZM := Lib.hid ((heap_alloc_old wa3 (.cells #[.int .i64 0, .slice none 0 0, .int .i64 0, .int .i64 0] 26) (lt_of_heap ZM.out)).trans ZM.out)
          have HS2 := Lib.hid (HS2.out.on (bel1 (Below.refl wa3.heap.size wa3) (.cells #[.int .i64 0, .slice none 0 0, .int .i64 0, .int .i64 0] 26)))
          have ZP := Lib.hid (heap_alloc_new wa3 (.cells #[.int .i64 0, .slice none 0 0, .int .i64 0, .int .i64 0] 26))
          have lg : w0.heap.size ≤ wa3.heap.size := hB3.size
          obtain ⟨g, hgg⟩ : ∃ g, g = wa3.heap.size := ⟨_, rfl⟩
          rw [← hgg] at ZP lg ⊢
          have hne : g ≠ gm := by omega
          clear hlt9
          clear hgg
          generalize wa3.alloc (.cells #[.int .i64 0, .slice none 0 0, .int .i64 0, .int .i64 0] 26) = wa4 at hB4 ZP ZM HS2 ⊢
          clear hB3
          refine hK.out _ _ ?_ (fun hHeld => ?_)
          · exact HP.out.on hB4
          clear hK K
          try simp only [Act.put, List.getElem_toArray, List.getElem_cons_succ, List.getElem_cons_zero, List.setIfInBounds_toArray, List.set_cons_zero, List.set_cons_succ]
          refine wpAnyH_ready (rs := [8]) (by kernel_rfl) (by simp) ?_
          refine AllReadyH.cons rfl (fun K hK => ?_) AllReadyH.nil
          rw [if_pos (by rfl)]
          refine wp_store_mid 26 (.tmp 2) (.tmp 15) (by rfl) g 0 #[.int .i64 2, .slice a2 0 k2, .int .i64 50, .int .i64 1250] (by rfl) (by rfl) (there_of_block ZP.out (by simp)) (by kernel_rfl) (by kernel_rfl) ?_
          have ZP := Lib.hid (heap_setCells_whole (cs := [Value.int .i64 0, .slice none 0 0, .int .i64 0, .int .i64 0]) (#[.int .i64 2, .slice a2 0 k2, .int .i64 50, .int .i64 1250] : Array Value).toList rfl ZP.out)
          have ZM := Lib.hid ((far_cells gm g (Ne.symm hne) (#[.int .i64 2, .slice a2 0 k2, .int .i64 50, .int .i64 1250] : Array Value).toList 0 _).trans ZM.out)
          have HS2 := Lib.hid (HS2.out.farA (q := g) apart_nil (#[.int .i64 2, .slice a2 0 k2, .int .i64 50, .int .i64 1250] : Array Value).toList)
          have hB5 := below_setCells' g lg (#[.int .i64 2, .slice a2 0 k2, .int .i64 50, .int .i64 1250] : Array Value).toList 0 hB4
          generalize wa4.setCells g 0 (#[.int .i64 2, .slice a2 0 k2, .int .i64 50, .int .i64 1250] : Array Value).toList = wa5 at ZP ZM HS2 hB5 ⊢
          clear hB4
          refine hK.out _ _ ?_ (fun hHeld => ?_)
          · exact HP.out.on hB5
          clear hK K
          try simp only [Act.put, List.getElem_toArray, List.getElem_cons_succ, List.getElem_cons_zero, List.setIfInBounds_toArray, List.set_cons_zero, List.set_cons_succ]
          refine wpAnyH_ready (rs := [9]) (by kernel_rfl) (by simp) ?_
          refine AllReadyH.cons rfl (fun K hK => ?_) AllReadyH.nil
          rw [if_pos (by rfl)]
          refine wp_store_mid 31 (.tmp 3) (.tmp 16) (by rfl) gm 0 #[.int .i64 2, .bool false] (by rfl) (by rfl) (there_of_block ZM.out (by simp)) (by kernel_rfl) (by kernel_rfl) ?_
          have ZM := Lib.hid (heap_setCells_whole (cs := [Value.int .i64 0, .bool false]) (#[.int .i64 2, .bool false] : Array Value).toList rfl ZM.out)
          have ZP := Lib.hid ((far_cells g gm hne (#[.int .i64 2, .bool false] : Array Value).toList 0 _).trans ZP.out)
          have HS2 := Lib.hid (HS2.out.farA (q := gm) apart_nil (#[.int .i64 2, .bool false] : Array Value).toList)
          have hB6 := below_setCells' gm lgm (#[.int .i64 2, .bool false] : Array Value).toList 0 hB5
          generalize wa5.setCells gm 0 (#[.int .i64 2, .bool false] : Array Value).toList = wa6 at ZP ZM HS2 hB6 ⊢
          clear hB5
          refine hK.out _ _ ?_ (fun hHeld => ?_)
          · exact HP.out.on hB6
          clear hK K
          try simp only [Act.put, List.getElem_toArray, List.getElem_cons_succ, List.getElem_cons_zero, List.setIfInBounds_toArray, List.set_cons_zero, List.set_cons_succ]
          refine wpAnyH_done (by kernel_rfl) ?_ _
          go_wp2_with fail
          go_meet
          exact ⟨g, gm, a2, k2, rfl, rfl, lg, lgm, ⟨ZP.out, HS2.out⟩, HO2.out, ZM.out, hB6⟩
        · rw [if_pos (by rfl)]
          go_simp
          have hlt9 := lt_of_heap ZM.out
          have hB3 := hB2.alloc hB2.size (.cells #[.int .i64 0, .slice none 0 0, .int .i64 0, .int .i64 0] 26)
          have ZM := Lib.hid ((heap_alloc_old wa2 (.cells #[.int .i64 0, .slice none 0 0, .int .i64 0, .int .i64 0] 26) (lt_of_heap ZM.out)).trans ZM.out)
          have ZP := Lib.hid (heap_alloc_new wa2 (.cells #[.int .i64 0, .slice none 0 0, .int .i64 0, .int .i64 0] 26))
          have lg : w0.heap.size ≤ wa2.heap.size := hB2.size
          obtain ⟨g, hgg⟩ : ∃ g, g = wa2.heap.size := ⟨_, rfl⟩
          rw [← hgg] at ZP lg ⊢
          have hne : g ≠ gm := by omega
          clear hlt9
          clear hgg
          generalize wa2.alloc (.cells #[.int .i64 0, .slice none 0 0, .int .i64 0, .int .i64 0] 26) = wa3 at hB3 ZP ZM ⊢
          clear hB2
          refine hK.out _ _ ?_ (fun hHeld => ?_)
          · exact HP.out.on hB3
          clear hK K
          try simp only [Act.put, List.getElem_toArray, List.getElem_cons_succ, List.getElem_cons_zero, List.setIfInBounds_toArray, List.set_cons_zero, List.set_cons_succ]
          refine wpAnyH_ready (rs := [2]) (by kernel_rfl) (by simp) ?_
          refine AllReadyH.cons rfl (fun K hK => ?_) AllReadyH.nil
          rw [if_pos (by rfl)]
          go_simp
          go_at_call 12
          refine (pstep_l ⟨2, [], 0, 0⟩ rfl (SRw.none_ _) plainQ_ok 2 250 2 [] 50 1250 2 false 0 (by kernel_rfl) (by kernel_rfl) rfl).mono ?_
          rintro r wa4 ⟨a2, k2, rfl, hs2, ho2, b⟩
          have hB4 := hB3.trans (b.mono hB3.size)
          have ZP := Lib.hid ((b.block _ (lt_of_heap ZP.out)).trans ZP.out)
          have ZM := Lib.hid ((b.block _ (lt_of_heap ZM.out)).trans ZM.out)
          have HS2 := Lib.hid hs2
          have HO2 := Lib.hid (fun g o e => Nat.le_trans hB3.size (ho2 g o e))
          clear hs2 ho2
          clear b hB3
          refine hK.out _ _ ?_ (fun hHeld => ?_)
          · exact HP.out.on hB4
          clear hK K
          try simp only [Act.put, List.getElem_toArray, List.getElem_cons_succ, List.getElem_cons_zero, List.setIfInBounds_toArray, List.set_cons_zero, List.set_cons_succ]
          refine wpAnyH_take (i := 3) (v := ?_) rfl (by kernel_rfl) (by kernel_rfl) (by kernel_rfl) (fun _ _ _ h => h) (Or.inl ⟨by rfl, ?_⟩) (by assumption) ?_
          rotate_left
          · intro w hSw
            (try dsimp only at hSw)
            go_simp
            all_goals with_reducible rfl
          try simp only [Act.put, List.getElem_toArray, List.getElem_cons_succ, List.getElem_cons_zero, List.setIfInBounds_toArray, List.set_cons_zero, List.set_cons_succ]
          refine wpAnyH_take (i := 4) (v := ?_) rfl (by kernel_rfl) (by kernel_rfl) (by kernel_rfl) (fun _ _ _ h => h) (Or.inl ⟨by rfl, ?_⟩) (by assumption) ?_
          rotate_left
          · intro w hSw
            (try dsimp only at hSw)
            go_simp
            all_goals with_reducible rfl
          try simp only [Act.put, List.getElem_toArray, List.getElem_cons_succ, List.getElem_cons_zero, List.setIfInBounds_toArray, List.set_cons_zero, List.set_cons_succ]
          refine wpAnyH_take (i := 5) (v := ?_) rfl (by kernel_rfl) (by kernel_rfl) (by kernel_rfl) (fun _ _ _ h => h) (Or.inl ⟨by rfl, ?_⟩) (by assumption) ?_
          rotate_left
          · intro w hSw
            (try dsimp only at hSw)
            go_simp
            all_goals with_reducible rfl
          try simp only [Act.put, List.getElem_toArray, List.getElem_cons_succ, List.getElem_cons_zero, List.setIfInBounds_toArray, List.set_cons_zero, List.set_cons_succ]
          refine wpAnyH_ready (rs := [8]) (by kernel_rfl) (by simp) ?_
          refine AllReadyH.cons rfl (fun K hK => ?_) AllReadyH.nil
          rw [if_pos (by rfl)]
          refine wp_store_mid 26 (.tmp 2) (.tmp 15) (by rfl) g 0 #[.int .i64 2, .slice a2 0 k2, .int .i64 50, .int .i64 1250] (by rfl) (by rfl) (there_of_block ZP.out (by simp)) (by kernel_rfl) (by kernel_rfl) ?_
          have ZP := Lib.hid (heap_setCells_whole (cs := [Value.int .i64 0, .slice none 0 0, .int .i64 0, .int .i64 0]) (#[.int .i64 2, .slice a2 0 k2, .int .i64 50, .int .i64 1250] : Array Value).toList rfl ZP.out)
          have ZM := Lib.hid ((far_cells gm g (Ne.symm hne) (#[.int .i64 2, .slice a2 0 k2, .int .i64 50, .int .i64 1250] : Array Value).toList 0 _).trans ZM.out)
          have HS2 := Lib.hid (HS2.out.farA (q := g) apart_nil (#[.int .i64 2, .slice a2 0 k2, .int .i64 50, .int .i64 1250] : Array Value).toList)
          have hB5 := below_setCells' g lg (#[.int .i64 2, .slice a2 0 k2, .int .i64 50, .int .i64 1250] : Array Value).toList 0 hB4
          generalize wa4.setCells g 0 (#[.int .i64 2, .slice a2 0 k2, .int .i64 50, .int .i64 1250] : Array Value).toList = wa5 at ZP ZM HS2 hB5 ⊢
          clear hB4
          refine hK.out _ _ ?_ (fun hHeld => ?_)
          · exact HP.out.on hB5
          clear hK K
          try simp only [Act.put, List.getElem_toArray, List.getElem_cons_succ, List.getElem_cons_zero, List.setIfInBounds_toArray, List.set_cons_zero, List.set_cons_succ]
          refine wpAnyH_ready (rs := [9]) (by kernel_rfl) (by simp) ?_
          refine AllReadyH.cons rfl (fun K hK => ?_) AllReadyH.nil
          rw [if_pos (by rfl)]
          refine wp_store_mid 31 (.tmp 3) (.tmp 16) (by rfl) gm 0 #[.int .i64 2, .bool false] (by rfl) (by rfl) (there_of_block ZM.out (by simp)) (by kernel_rfl) (by kernel_rfl) ?_
          have ZM := Lib.hid (heap_setCells_whole (cs := [Value.int .i64 0, .bool false]) (#[.int .i64 2, .bool false] : Array Value).toList rfl ZM.out)
          have ZP := Lib.hid ((far_cells g gm hne (#[.int .i64 2, .bool false] : Array Value).toList 0 _).trans ZP.out)
          have HS2 := Lib.hid (HS2.out.farA (q := gm) apart_nil (#[.int .i64 2, .bool false] : Array Value).toList)
          have hB6 := below_setCells' gm lgm (#[.int .i64 2, .bool false] : Array Value).toList 0 hB5
          generalize wa5.setCells gm 0 (#[.int .i64 2, .bool false] : Array Value).toList = wa6 at ZP ZM HS2 hB6 ⊢
          clear hB5
          refine hK.out _ _ ?_ (fun hHeld => ?_)
          · exact HP.out.on hB6
          clear hK K
          try simp only [Act.put, List.getElem_toArray, List.getElem_cons_succ, List.getElem_cons_zero, List.setIfInBounds_toArray, List.set_cons_zero, List.set_cons_succ]
          refine wpAnyH_done (by kernel_rfl) ?_ _
          go_wp2_with fail
          go_meet
          exact ⟨g, gm, a2, k2, rfl, rfl, lg, lgm, ⟨ZP.out, HS2.out⟩, HO2.out, ZM.out, hB6⟩
    · rw [if_pos (by rfl)]
      go_simp
      have hB1 := hB0.alloc hB0.size (.cells #[.int .i64 0, .slice none 0 0, .int .i64 0, .int .i64 0] 26)
      have ZP := Lib.hid (heap_alloc_new wa0 (.cells #[.int .i64 0, .slice none 0 0, .int .i64 0, .int .i64 0] 26))
      have lg : w0.heap.size ≤ wa0.heap.size := hB0.size
      obtain ⟨g, hgg⟩ : ∃ g, g = wa0.heap.size := ⟨_, rfl⟩
      rw [← hgg] at ZP lg ⊢
      clear hgg
      generalize wa0.alloc (.cells #[.int .i64 0, .slice none 0 0, .int .i64 0, .int .i64 0] 26) = wa1 at hB1 ZP ⊢
      clear hB0
      refine hK.out _ _ ?_ (fun hHeld => ?_)
      · exact HP.out.on hB1
      clear hK K
      try simp only [Act.put, List.getElem_toArray, List.getElem_cons_succ, List.getElem_cons_zero, List.setIfInBounds_toArray, List.set_cons_zero, List.set_cons_succ]
      refine wpAnyH_ready (rs := [1, 7]) (by kernel_rfl) (by simp) ?_
      refine (AllReadyH.cons rfl (fun K hK => ?_) (AllReadyH.cons rfl (fun K hK => ?_) AllReadyH.nil))
      · rw [if_pos (by rfl)]
        go_simp
        go_at_call 17
        refine (pnew_l 2 2 rfl _).mono ?_
        rintro r wa2 ⟨rfl, b⟩
        have hB2 := hB1.trans (b.mono hB1.size)
        have ZP := Lib.hid ((b.block _ (lt_of_heap ZP.out)).trans ZP.out)
        clear b hB1
        refine hK.out _ _ ?_ (fun hHeld => ?_)
        · exact HP.out.on hB2
        clear hK K
        try simp only [Act.put, List.getElem_toArray, List.getElem_cons_succ, List.getElem_cons_zero, List.setIfInBounds_toArray, List.set_cons_zero, List.set_cons_succ]
        refine wpAnyH_ready (rs := [2, 7]) (by kernel_rfl) (by simp) ?_
        refine (AllReadyH.cons rfl (fun K hK => ?_) (AllReadyH.cons rfl (fun K hK => ?_) AllReadyH.nil))
        · rw [if_pos (by rfl)]
          go_simp
          go_at_call 12
          refine (pstep_l ⟨2, [], 0, 0⟩ rfl (SRw.none_ _) plainQ_ok 2 250 2 [] 50 1250 2 false 0 (by kernel_rfl) (by kernel_rfl) rfl).mono ?_
          rintro r wa3 ⟨a2, k2, rfl, hs2, ho2, b⟩
          have hB3 := hB2.trans (b.mono hB2.size)
          have ZP := Lib.hid ((b.block _ (lt_of_heap ZP.out)).trans ZP.out)
          have HS2 := Lib.hid hs2
          have HO2 := Lib.hid (fun g o e => Nat.le_trans hB2.size (ho2 g o e))
          clear hs2 ho2
          clear b hB2
          refine hK.out _ _ ?_ (fun hHeld => ?_)
          · exact HP.out.on hB3
          clear hK K
          try simp only [Act.put, List.getElem_toArray, List.getElem_cons_succ, List.getElem_cons_zero, List.setIfInBounds_toArray, List.set_cons_zero, List.set_cons_succ]
          refine wpAnyH_take (i := 3) (v := ?_) rfl (by kernel_rfl) (by kernel_rfl) (by kernel_rfl) (fun _ _ _ h => h) (Or.inl ⟨by rfl, ?_⟩) (by assumption) ?_
          rotate_left
          · intro w hSw
            (try dsimp only at hSw)
            go_simp
            all_goals with_reducible rfl
          try simp only [Act.put, List.getElem_toArray, List.getElem_cons_succ, List.getElem_cons_zero, List.setIfInBounds_toArray, List.set_cons_zero, List.set_cons_succ]
          refine wpAnyH_take (i := 4) (v := ?_) rfl (by kernel_rfl) (by kernel_rfl) (by kernel_rfl) (fun _ _ _ h => h) (Or.inl ⟨by rfl, ?_⟩) (by assumption) ?_
          rotate_left
          · intro w hSw
            (try dsimp only at hSw)
            go_simp
            all_goals with_reducible rfl
          try simp only [Act.put, List.getElem_toArray, List.getElem_cons_succ, List.getElem_cons_zero, List.setIfInBounds_toArray, List.set_cons_zero, List.set_cons_succ]
          refine wpAnyH_take (i := 5) (v := ?_) rfl (by kernel_rfl) (by kernel_rfl) (by kernel_rfl) (fun _ _ _ h => h) (Or.inl ⟨by rfl, ?_⟩) (by assumption) ?_
          rotate_left
          · intro w hSw
            (try dsimp only at hSw)
            go_simp
            all_goals with_reducible rfl
          try simp only [Act.put, List.getElem_toArray, List.getElem_cons_succ, List.getElem_cons_zero, List.setIfInBounds_toArray, List.set_cons_zero, List.set_cons_succ]
          refine wpAnyH_ready (rs := [7]) (by kernel_rfl) (by simp) ?_
          refine AllReadyH.cons rfl (fun K hK => ?_) AllReadyH.nil
          rw [if_pos (by rfl)]
          go_simp
          have hlt9 := lt_of_heap ZP.out
          have hB4 := hB3.alloc hB3.size (.cells #[.int .i64 0, .bool false] 31)
          have ZP := Lib.hid ((heap_alloc_old wa3 (.cells #[.int .i64 0, .bool false] 31) (lt_of_heap ZP.out)).trans ZP.out)
          have HS2 := Lib.hid (HS2.out.on (bel1 (Below.refl wa3.heap.size wa3) (.cells #[.int .i64 0, .bool false] 31)))
          have ZM := Lib.hid (heap_alloc_new wa3 (.cells #[.int .i64 0, .bool false] 31))
          have lgm : w0.heap.size ≤ wa3.heap.size := hB3.size
          obtain ⟨gm, hggm⟩ : ∃ g, g = wa3.heap.size := ⟨_, rfl⟩
          rw [← hggm] at ZM lgm ⊢
          have hne : g ≠ gm := by omega
          clear hlt9
          clear hggm
          generalize wa3.alloc (.cells #[.int .i64 0, .bool false] 31) = wa4 at hB4 ZM ZP HS2 ⊢
          clear hB3
          refine hK.out _ _ ?_ (fun hHeld => ?_)
          · exact HP.out.on hB4
          clear hK K
          try simp only [Act.put, List.getElem_toArray, List.getElem_cons_succ, List.getElem_cons_zero, List.setIfInBounds_toArray, List.set_cons_zero, List.set_cons_succ]
          refine wpAnyH_ready (rs := [8]) (by kernel_rfl) (by simp) ?_
          refine AllReadyH.cons rfl (fun K hK => ?_) AllReadyH.nil
          rw [if_pos (by rfl)]
          refine wp_store_mid 26 (.tmp 2) (.tmp 15) (by rfl) g 0 #[.int .i64 2, .slice a2 0 k2, .int .i64 50, .int .i64 1250] (by rfl) (by rfl) (there_of_block ZP.out (by simp)) (by kernel_rfl) (by kernel_rfl) ?_
          have ZP := Lib.hid (heap_setCells_whole (cs := [Value.int .i64 0, .slice none 0 0, .int .i64 0, .int .i64 0]) (#[.int .i64 2, .slice a2 0 k2, .int .i64 50, .int .i64 1250] : Array Value).toList rfl ZP.out)
          have ZM := Lib.hid ((far_cells gm g (Ne.symm hne) (#[.int .i64 2, .slice a2 0 k2, .int .i64 50, .int .i64 1250] : Array Value).toList 0 _).trans ZM.out)
          have HS2 := Lib.hid (HS2.out.farA (q := g) apart_nil (#[.int .i64 2, .slice a2 0 k2, .int .i64 50, .int .i64 1250] : Array Value).toList)
          have hB5 := below_setCells' g lg (#[.int .i64 2, .slice a2 0 k2, .int .i64 50, .int .i64 1250] : Array Value).toList 0 hB4
          generalize wa4.setCells g 0 (#[.int .i64 2, .slice a2 0 k2, .int .i64 50, .int .i64 1250] : Array Value).toList = wa5 at ZP ZM HS2 hB5 ⊢
          clear hB4
          refine hK.out _ _ ?_ (fun hHeld => ?_)
          · exact HP.out.on hB5
          clear hK K
          try simp only [Act.put, List.getElem_toArray, List.getElem_cons_succ, List.getElem_cons_zero, List.setIfInBounds_toArray, List.set_cons_zero, List.set_cons_succ]
          refine wpAnyH_ready (rs := [9]) (by kernel_rfl) (by simp) ?_
          refine AllReadyH.cons rfl (fun K hK => ?_) AllReadyH.nil
          rw [if_pos (by rfl)]
          refine wp_store_mid 31 (.tmp 3) (.tmp 16) (by rfl) gm 0 #[.int .i64 2, .bool false] (by rfl) (by rfl) (there_of_block ZM.out (by simp)) (by kernel_rfl) (by kernel_rfl) ?_
          have ZM := Lib.hid (heap_setCells_whole (cs := [Value.int .i64 0, .bool false]) (#[.int .i64 2, .bool false] : Array Value).toList rfl ZM.out)
          have ZP := Lib.hid ((far_cells g gm hne (#[.int .i64 2, .bool false] : Array Value).toList 0 _).trans ZP.out)
          have HS2 := Lib.hid (HS2.out.farA (q := gm) apart_nil (#[.int .i64 2, .bool false] : Array Value).toList)
          have hB6 := below_setCells' gm lgm (#[.int .i64 2, .bool false] : Array Value).toList 0 hB5
          generalize wa5.setCells gm 0 (#[.int .i64 2, .bool false] : Array Value).toList = wa6 at ZP ZM HS2 hB6 ⊢
          clear hB5
          refine hK.out _ _ ?_ (fun hHeld => ?_)
          · exact HP.out.on hB6
          clear hK K
          try simp only [Act.put, List.getElem_toArray, List.getElem_cons_succ, List.getElem_cons_zero, List.setIfInBounds_toArray, List.set_cons_zero, List.set_cons_succ]
          refine wpAnyH_done (by kernel_rfl) ?_ _
          go_wp2_with fail
          go_meet
          exact ⟨g, gm, a2, k2, rfl, rfl, lg, lgm, ⟨ZP.out, HS2.out⟩, HO2.out, ZM.out, hB6⟩
        · rw [if_pos (by rfl)]
          go_simp
          have hlt9 := lt_of_heap ZP.out
          have hB3 := hB2.alloc hB2.size (.cells #[.int .i64 0, .bool false] 31)
          have ZP := Lib.hid ((heap_alloc_old wa2 (.cells #[.int .i64 0, .bool false] 31) (lt_of_heap ZP.out)).trans ZP.out)
          have ZM := Lib.hid (heap_alloc_new wa2 (.cells #[.int .i64 0, .bool false] 31))
          have lgm : w0.heap.size ≤ wa2.heap.size := hB2.size
          obtain ⟨gm, hggm⟩ : ∃ g, g = wa2.heap.size := ⟨_, rfl⟩
          rw [← hggm] at ZM lgm ⊢
          have hne : g ≠ gm := by omega
          clear hlt9
          clear hggm
          generalize wa2.alloc (.cells #[.int .i64 0, .bool false] 31) = wa3 at hB3 ZM ZP ⊢
          clear hB2
          refine hK.out _ _ ?_ (fun hHeld => ?_)
          · exact HP.out.on hB3
          clear hK K
          try simp only [Act.put, List.getElem_toArray, List.getElem_cons_succ, List.getElem_cons_zero, List.setIfInBounds_toArray, List.set_cons_zero, List.set_cons_succ]
          refine wpAnyH_ready (rs := [2]) (by kernel_rfl) (by simp) ?_
          refine AllReadyH.cons rfl (fun K hK => ?_) AllReadyH.nil
          rw [if_pos (by rfl)]
          go_simp
          go_at_call 12
          refine (pstep_l ⟨2, [], 0, 0⟩ rfl (SRw.none_ _) plainQ_ok 2 250 2 [] 50 1250 2 false 0 (by kernel_rfl) (by kernel_rfl) rfl).mono ?_
          rintro r wa4 ⟨a2, k2, rfl, hs2, ho2, b⟩
          have hB4 := hB3.trans (b.mono hB3.size)
          have ZP := Lib.hid ((b.block _ (lt_of_heap ZP.out)).trans ZP.out)
          have ZM := Lib.hid ((b.block _ (lt_of_heap ZM.out)).trans ZM.out)
          have HS2 := Lib.hid hs2
          have HO2 := Lib.hid (fun g o e => Nat.le_trans hB3.size (ho2 g o e))
          clear hs2 ho2
          clear b hB3
          refine hK.out _ _ ?_ (fun hHeld => ?_)
          · exact HP.out.on hB4
          clear hK K
          try simp only [Act.put, List.getElem_toArray, List.getElem_cons_succ, List.getElem_cons_zero, List.setIfInBounds_toArray, List.set_cons_zero, List.set_cons_succ]
          refine wpAnyH_take (i := 3) (v := ?_) rfl (by kernel_rfl) (by kernel_rfl) (by kernel_rfl) (fun _ _ _ h => h) (Or.inl ⟨by rfl, ?_⟩) (by assumption) ?_
          rotate_left
          · intro w hSw
            (try dsimp only at hSw)
            go_simp
            all_goals with_reducible rfl
          try simp only [Act.put, List.getElem_toArray, List.getElem_cons_succ, List.getElem_cons_zero, List.setIfInBounds_toArray, List.set_cons_zero, List.set_cons_succ]
          refine wpAnyH_take (i := 4) (v := ?_) rfl (by kernel_rfl) (by kernel_rfl) (by kernel_rfl) (fun _ _ _ h => h) (Or.inl ⟨by rfl, ?_⟩) (by assumption) ?_
          rotate_left
          · intro w hSw
            (try dsimp only at hSw)
            go_simp
            all_goals with_reducible rfl
          try simp only [Act.put, List.getElem_toArray, List.getElem_cons_succ, List.getElem_cons_zero, List.setIfInBounds_toArray, List.set_cons_zero, List.set_cons_succ]
          refine wpAnyH_take (i := 5) (v := ?_) rfl (by kernel_rfl) (by kernel_rfl) (by kernel_rfl) (fun _ _ _ h => h) (Or.inl ⟨by rfl, ?_⟩) (by assumption) ?_
          rotate_left
          · intro w hSw
            (try dsimp only at hSw)
            go_simp
            all_goals with_reducible rfl
          try simp only [Act.put, List.getElem_toArray, List.getElem_cons_succ, List.getElem_cons_zero, List.setIfInBounds_toArray, List.set_cons_zero, List.set_cons_succ]
          refine wpAnyH_ready (rs := [8]) (by kernel_rfl) (by simp) ?_
          refine AllReadyH.cons rfl (fun K hK => ?_) AllReadyH.nil
          rw [if_pos (by rfl)]
          refine wp_store_mid 26 (.tmp 2) (.tmp 15) (by rfl) g 0 #[.int .i64 2, .slice a2 0 k2, .int .i64 50, .int .i64 1250] (by rfl) (by rfl) (there_of_block ZP.out (by simp)) (by kernel_rfl) (by kernel_rfl) ?_
          have ZP := Lib.hid (heap_setCells_whole (cs := [Value.int .i64 0, .slice none 0 0, .int .i64 0, .int .i64 0]) (#[.int .i64 2, .slice a2 0 k2, .int .i64 50, .int .i64 1250] : Array Value).toList rfl ZP.out)
          have ZM := Lib.hid ((far_cells gm g (Ne.symm hne) (#[.int .i64 2, .slice a2 0 k2, .int .i64 50, .int .i64 1250] : Array Value).toList 0 _).trans ZM.out)
          have HS2 := Lib.hid (HS2.out.farA (q := g) apart_nil (#[.int .i64 2, .slice a2 0 k2, .int .i64 50, .int .i64 1250] : Array Value).toList)
          have hB5 := below_setCells' g lg (#[.int .i64 2, .slice a2 0 k2, .int .i64 50, .int .i64 1250] : Array Value).toList 0 hB4
          generalize wa4.setCells g 0 (#[.int .i64 2, .slice a2 0 k2, .int .i64 50, .int .i64 1250] : Array Value).toList = wa5 at ZP ZM HS2 hB5 ⊢
          clear hB4
          refine hK.out _ _ ?_ (fun hHeld => ?_)
          · exact HP.out.on hB5
          clear hK K
          try simp only [Act.put, List.getElem_toArray, List.getElem_cons_succ, List.getElem_cons_zero, List.setIfInBounds_toArray, List.set_cons_zero, List.set_cons_succ]
          refine wpAnyH_ready (rs := [9]) (by kernel_rfl) (by simp) ?_
          refine AllReadyH.cons rfl (fun K hK => ?_) AllReadyH.nil
          rw [if_pos (by rfl)]
          refine wp_store_mid 31 (.tmp 3) (.tmp 16) (by rfl) gm 0 #[.int .i64 2, .bool false] (by rfl) (by rfl) (there_of_block ZM.out (by simp)) (by kernel_rfl) (by kernel_rfl) ?_
          have ZM := Lib.hid (heap_setCells_whole (cs := [Value.int .i64 0, .bool false]) (#[.int .i64 2, .bool false] : Array Value).toList rfl ZM.out)
          have ZP := Lib.hid ((far_cells g gm hne (#[.int .i64 2, .bool false] : Array Value).toList 0 _).trans ZP.out)
          have HS2 := Lib.hid (HS2.out.farA (q := gm) apart_nil (#[.int .i64 2, .bool false] : Array Value).toList)
          have hB6 := below_setCells' gm lgm (#[.int .i64 2, .bool false] : Array Value).toList 0 hB5
          generalize wa5.setCells gm 0 (#[.int .i64 2, .bool false] : Array Value).toList = wa6 at ZP ZM HS2 hB6 ⊢
          clear hB5
          refine hK.out _ _ ?_ (fun hHeld => ?_)
          · exact HP.out.on hB6
          clear hK K
          try simp only [Act.put, List.getElem_toArray, List.getElem_cons_succ, List.getElem_cons_zero, List.setIfInBounds_toArray, List.set_cons_zero, List.set_cons_succ]
          refine wpAnyH_done (by kernel_rfl) ?_ _
          go_wp2_with fail
          go_meet
          exact ⟨g, gm, a2, k2, rfl, rfl, lg, lgm, ⟨ZP.out, HS2.out⟩, HO2.out, ZM.out, hB6⟩
      · rw [if_pos (by rfl)]
        go_simp
        have hlt9 := lt_of_heap ZP.out
        have hB2 := hB1.alloc hB1.size (.cells #[.int .i64 0, .bool false] 31)
        have ZP := Lib.hid ((heap_alloc_old wa1 (.cells #[.int .i64 0, .bool false] 31) (lt_of_heap ZP.out)).trans ZP.out)
        have ZM := Lib.hid (heap_alloc_new wa1 (.cells #[.int .i64 0, .bool false] 31))
        have lgm : w0.heap.size ≤ wa1.heap.size := hB1.size
        obtain ⟨gm, hggm⟩ : ∃ g, g = wa1.heap.size := ⟨_, rfl⟩
        rw [← hggm] at ZM lgm ⊢
        have hne : g ≠ gm := by omega
        clear hlt9
        clear hggm
        generalize wa1.alloc (.cells #[.int .i64 0, .bool false] 31) = wa2 at hB2 ZM ZP ⊢
        clear hB1
        refine hK.out _ _ ?_ (fun hHeld => ?_)
        · exact HP.out.on hB2
        clear hK K
        try simp only [Act.put, List.getElem_toArray, List.getElem_cons_succ, List.getElem_cons_zero, List.setIfInBounds_toArray, List.set_cons_zero, List.set_cons_succ]
        refine wpAnyH_ready (rs := [1]) (by kernel_rfl) (by simp) ?_
        refine AllReadyH.cons rfl (fun K hK => ?_) AllReadyH.nil
        rw [if_pos (by rfl)]
        go_simp
        go_at_call 17
        refine (pnew_l 2 2 rfl _).mono ?_
        rintro r wa3 ⟨rfl, b⟩
        have hB3 := hB2.trans (b.mono hB2.size)
        have ZP := Lib.hid ((b.block _ (lt_of_heap ZP.out)).trans ZP.out)
        have ZM := Lib.hid ((b.block _ (lt_of_heap ZM.out)).trans ZM.out)
        clear b hB2
        refine hK.out _ _ ?_ (fun hHeld => ?_)
        · exact HP.out.on hB3
        clear hK K
        try simp only [Act.put, List.getElem_toArray, List.getElem_cons_succ, List.getElem_cons_zero, List.setIfInBounds_toArray, List.set_cons_zero, List.set_cons_succ]
        refine wpAnyH_ready (rs := [2]) (by kernel_rfl) (by simp) ?_
        refine AllReadyH.cons rfl (fun K hK => ?_) AllReadyH.nil
        rw [if_pos (by rfl)]
        go_simp
        go_at_call 12
        refine (pstep_l ⟨2, [], 0, 0⟩ rfl (SRw.none_ _) plainQ_ok 2 250 2 [] 50 1250 2 false 0 (by kernel_rfl) (by kernel_rfl) rfl).mono ?_
        rintro r wa4 ⟨a2, k2, rfl, hs2, ho2, b⟩
        have hB4 := hB3.trans (b.mono hB3.size)
        have ZP := Lib.hid ((b.block _ (lt_of_heap ZP.out)).trans ZP.out)
        have ZM := Lib.hid ((b.block _ (lt_of_heap ZM.out)).trans ZM.out)
        have HS2 := Lib.hid hs2
        have HO2 := Lib.hid (fun g o e => Nat.le_trans hB3.size (ho2 g o e))
        clear hs2 ho2
        clear b hB3
        refine hK.out _ _ ?_ (fun hHeld => ?_)
        · exact HP.out.on hB4
        clear hK K
        try simp only [Act.put, List.getElem_toArray, List.getElem_cons_succ, List.getElem_cons_zero, List.setIfInBounds_toArray, List.set_cons_zero, List.set_cons_succ]
        refine wpAnyH_take (i := 3) (v := ?_) rfl (by kernel_rfl) (by kernel_rfl) (by kernel_rfl) (fun _ _ _ h => h) (Or.inl ⟨by rfl, ?_⟩) (by assumption) ?_
        rotate_left
        · intro w hSw
          (try dsimp only at hSw)
          go_simp
          all_goals with_reducible rfl
        try simp only [Act.put, List.getElem_toArray, List.getElem_cons_succ, List.getElem_cons_zero, List.setIfInBounds_toArray, List.set_cons_zero, List.set_cons_succ]
        refine wpAnyH_take (i := 4) (v := ?_) rfl (by kernel_rfl) (by kernel_rfl) (by kernel_rfl) (fun _ _ _ h => h) (Or.inl ⟨by rfl, ?_⟩) (by assumption) ?_
        rotate_left
        · intro w hSw
          (try dsimp only at hSw)
          go_simp
          all_goals with_reducible rfl
        try simp only [Act.put, List.getElem_toArray, List.getElem_cons_succ, List.getElem_cons_zero, List.setIfInBounds_toArray, List.set_cons_zero, List.set_cons_succ]
        refine wpAnyH_take (i := 5) (v := ?_) rfl (by kernel_rfl) (by kernel_rfl) (by kernel_rfl) (fun _ _ _ h => h) (Or.inl ⟨by rfl, ?_⟩) (by assumption) ?_
        rotate_left
        · intro w hSw
          (try dsimp only at hSw)
          go_simp
          all_goals with_reducible rfl
        try simp only [Act.put, List.getElem_toArray, List.getElem_cons_succ, List.getElem_cons_zero, List.setIfInBounds_toArray, List.set_cons_zero, List.set_cons_succ]
        refine wpAnyH_ready (rs := [8]) (by kernel_rfl) (by simp) ?_
        refine AllReadyH.cons rfl (fun K hK => ?_) AllReadyH.nil
        rw [if_pos (by rfl)]
        refine wp_store_mid 26 (.tmp 2) (.tmp 15) (by rfl) g 0 #[.int .i64 2, .slice a2 0 k2, .int .i64 50, .int .i64 1250] (by rfl) (by rfl) (there_of_block ZP.out (by simp)) (by kernel_rfl) (by kernel_rfl) ?_
        have ZP := Lib.hid (heap_setCells_whole (cs := [Value.int .i64 0, .slice none 0 0, .int .i64 0, .int .i64 0]) (#[.int .i64 2, .slice a2 0 k2, .int .i64 50, .int .i64 1250] : Array Value).toList rfl ZP.out)
        have ZM := Lib.hid ((far_cells gm g (Ne.symm hne) (#[.int .i64 2, .slice a2 0 k2, .int .i64 50, .int .i64 1250] : Array Value).toList 0 _).trans ZM.out)
        have HS2 := Lib.hid (HS2.out.farA (q := g) apart_nil (#[.int .i64 2, .slice a2 0 k2, .int .i64 50, .int .i64 1250] : Array Value).toList)
        have hB5 := below_setCells' g lg (#[.int .i64 2, .slice a2 0 k2, .int .i64 50, .int .i64 1250] : Array Value).toList 0 hB4
        generalize wa4.setCells g 0 (#[.int .i64 2, .slice a2 0 k2, .int .i64 50, .int .i64 1250] : Array Value).toList = wa5 at ZP ZM HS2 hB5 ⊢
        clear hB4
        refine hK.out _ _ ?_ (fun hHeld => ?_)
        · exact HP.out.on hB5
        clear hK K
        try simp only [Act.put, List.getElem_toArray, List.getElem_cons_succ, List.getElem_cons_zero, List.setIfInBounds_toArray, List.set_cons_zero, List.set_cons_succ]
        refine wpAnyH_ready (rs := [9]) (by kernel_rfl) (by simp) ?_
        refine AllReadyH.cons rfl (fun K hK => ?_) AllReadyH.nil
        rw [if_pos (by rfl)]
        refine wp_store_mid 31 (.tmp 3) (.tmp 16) (by rfl) gm 0 #[.int .i64 2, .bool false] (by rfl) (by rfl) (there_of_block ZM.out (by simp)) (by kernel_rfl) (by kernel_rfl) ?_
        have ZM := Lib.hid (heap_setCells_whole (cs := [Value.int .i64 0, .bool false]) (#[.int .i64 2, .bool false] : Array Value).toList rfl ZM.out)
        have ZP := Lib.hid ((far_cells g gm hne (#[.int .i64 2, .bool false] : Array Value).toList 0 _).trans ZP.out)
        have HS2 := Lib.hid (HS2.out.farA (q := gm) apart_nil (#[.int .i64 2, .bool false] : Array Value).toList)
        have hB6 := below_setCells' gm lgm (#[.int .i64 2, .bool false] : Array Value).toList 0 hB5
        generalize wa5.setCells gm 0 (#[.int .i64 2, .bool false] : Array Value).toList = wa6 at ZP ZM HS2 hB6 ⊢
        clear hB5
        refine hK.out _ _ ?_ (fun hHeld => ?_)
        · exact HP.out.on hB6
        clear hK K
        try simp only [Act.put, List.getElem_toArray, List.getElem_cons_succ, List.getElem_cons_zero, List.setIfInBounds_toArray, List.set_cons_zero, List.set_cons_succ]
        refine wpAnyH_done (by kernel_rfl) ?_ _
        go_wp2_with fail
        go_meet
        exact ⟨g, gm, a2, k2, rfl, rfl, lg, lgm, ⟨ZP.out, HS2.out⟩, HO2.out, ZM.out, hB6⟩
    · rw [if_pos (by rfl)]
      go_simp
      have hB1 := hB0.alloc hB0.size (.cells #[.int .i64 0, .bool false] 31)
      have ZM := Lib.hid (heap_alloc_new wa0 (.cells #[.int .i64 0, .bool false] 31))
      have lgm : w0.heap.size ≤ wa0.heap.size := hB0.size
      obtain ⟨gm, hggm⟩ : ∃ g, g = wa0.heap.size := ⟨_, rfl⟩
      rw [← hggm] at ZM lgm ⊢
      clear hggm
      generalize wa0.alloc (.cells #[.int .i64 0, .bool false] 31) = wa1 at hB1 ZM ⊢
      clear hB0
      refine hK.out _ _ ?_ (fun hHeld => ?_)
      · exact HP.out.on hB1
      clear hK K
      try simp only [Act.put, List.getElem_toArray, List.getElem_cons_succ, List.getElem_cons_zero, List.setIfInBounds_toArray, List.set_cons_zero, List.set_cons_succ]
      refine wpAnyH_ready (rs := [1, 6]) (by kernel_rfl) (by simp) ?_
      refine (AllReadyH.cons rfl (fun K hK => ?_) (AllReadyH.cons rfl (fun K hK => ?_) AllReadyH.nil))
      · rw [if_pos (by rfl)]
        go_simp
        go_at_call 17
        refine (pnew_l 2 2 rfl _).mono ?_
        rintro r wa2 ⟨rfl, b⟩
        have hB2 := hB1.trans (b.mono hB1.size)
        have ZM := Lib.hid ((b.block _ (lt_of_heap ZM.out)).trans ZM.out)
        clear b hB1
        refine hK.out _ _ ?_ (fun hHeld => ?_)
        · exact HP.out.on hB2
        clear hK K
        try simp only [Act.put, List.getElem_toArray, List.getElem_cons_succ, List.getElem_cons_zero, List.setIfInBounds_toArray, List.set_cons_zero, List.set_cons_succ]
        refine wpAnyH_ready (rs := [2, 6]) (by kernel_rfl) (by simp) ?_
        refine (AllReadyH.cons rfl (fun K hK => ?_) (AllReadyH.cons rfl (fun K hK => ?_) AllReadyH.nil))
        · rw [if_pos (by rfl)]
          go_simp
          go_at_call 12
          refine (pstep_l ⟨2, [], 0, 0⟩ rfl (SRw.none_ _) plainQ_ok 2 250 2 [] 50 1250 2 false 0 (by kernel_rfl) (by kernel_rfl) rfl).mono ?_
          rintro r wa3 ⟨a2, k2, rfl, hs2, ho2, b⟩
          have hB3 := hB2.trans (b.mono hB2.size)
          have ZM := Lib.hid ((b.block _ (lt_of_heap ZM.out)).trans ZM.out)
          have HS2 := Lib.hid hs2
          have HO2 := Lib.hid (fun g o e => Nat.le_trans hB2.size (ho2 g o e))
          clear hs2 ho2
          clear b hB2
          refine hK.out _ _ ?_ (fun hHeld => ?_)
          · exact HP.out.on hB3
          clear hK K
          try simp only [Act.put, List.getElem_toArray, List.getElem_cons_succ, List.getElem_cons_zero, List.setIfInBounds_toArray, List.set_cons_zero, List.set_cons_succ]
          refine wpAnyH_take (i := 3) (v := ?_) rfl (by kernel_rfl) (by kernel_rfl) (by kernel_rfl) (fun _ _ _ h => h) (Or.inl ⟨by rfl, ?_⟩) (by assumption) ?_
          rotate_left
          · intro w hSw
            (try dsimp only at hSw)
            go_simp
            all_goals with_reducible rfl
          try simp only [Act.put, List.getElem_toArray, List.getElem_cons_succ, List.getElem_cons_zero, List.setIfInBounds_toArray, List.set_cons_zero, List.set_cons_succ]
          refine wpAnyH_take (i := 4) (v := ?_) rfl (by kernel_rfl) (by kernel_rfl) (by kernel_rfl) (fun _ _ _ h => h) (Or.inl ⟨by rfl, ?_⟩) (by assumption) ?_
          rotate_left
          · intro w hSw
            (try dsimp only at hSw)
            go_simp
            all_goals with_reducible rfl
          try simp only [Act.put, List.getElem_toArray, List.getElem_cons_succ, List.getElem_cons_zero, List.setIfInBounds_toArray, List.set_cons_zero, List.set_cons_succ]
          refine wpAnyH_take (i := 5) (v := ?_) rfl (by kernel_rfl) (by kernel_rfl) (by kernel_rfl) (fun _ _ _ h => h) (Or.inl ⟨by rfl, ?_⟩) (by assumption) ?_
          rotate_left
          · intro w hSw
            (try dsimp only at hSw)
            go_simp
            all_goals with_reducible rfl
          try simp only [Act.put, List.getElem_toArray, List.getElem_cons_succ, List.getElem_cons_zero, List.setIfInBounds_toArray, List.set_cons_zero, List.set_cons_succ]
          refine wpAnyH_ready (rs := [6]) (by kernel_rfl) (by simp) ?_
          refine AllReadyH.cons rfl (fun K hK => ?_) AllReadyH.nil
          rw [if_pos (by rfl)]
          go_simp
          have hlt9 := lt_of_heap ZM.out
          have hB4 := hB3.alloc hB3.size (.cells #[.int .i64 0, .slice none 0 0, .int .i64 0, .int .i64 0] 26)
          have ZM := Lib.hid ((heap_alloc_old wa3 (.cells #[.int .i64 0, .slice none 0 0, .int .i64 0, .int .i64 0] 26) (lt_of_heap ZM.out)).trans ZM.out)
          have HS2 := Lib.hid (HS2.out.on (bel1 (Below.refl wa3.heap.size wa3) (.cells #[.int .i64 0, .slice none 0 0, .int .i64 0, .int .i64 0] 26)))
          have ZP := Lib.hid (heap_alloc_new wa3 (.cells #[.int .i64 0, .slice none 0 0, .int .i64 0, .int .i64 0] 26))
          have lg : w0.heap.size ≤ wa3.heap.size := hB3.size
          obtain ⟨g, hgg⟩ : ∃ g, g = wa3.heap.size := ⟨_, rfl⟩
          rw [← hgg] at ZP lg ⊢
          have hne : g ≠ gm := by omega
          clear hlt9
          clear hgg
          generalize wa3.alloc (.cells #[.int .i64 0, .slice none 0 0, .int .i64 0, .int .i64 0] 26) = wa4 at hB4 ZP ZM HS2 ⊢
          clear hB3
          refine hK.out _ _ ?_ (fun hHeld => ?_)
          · exact HP.out.on hB4
          clear hK K
          try simp only [Act.put, List.getElem_toArray, List.getElem_cons_succ, List.getElem_cons_zero, List.setIfInBounds_toArray, List.set_cons_zero, List.set_cons_succ]
          refine wpAnyH_ready (rs := [8]) (by kernel_rfl) (by simp) ?_
          refine AllReadyH.cons rfl (fun K hK => ?_) AllReadyH.nil
          rw [if_pos (by rfl)]
          refine wp_store_mid 26 (.tmp 2) (.tmp 15) (by rfl) g 0 #[.int .i64 2, .slice a2 0 k2, .int .i64 50, .int .i64 1250] (by rfl) (by rfl) (there_of_block ZP.out (by simp)) (by kernel_rfl) (by kernel_rfl) ?_
          have ZP := Lib.hid (heap_setCells_whole (cs := [Value.int .i64 0, .slice none 0 0, .int .i64 0, .int .i64 0]) (#[.int .i64 2, .slice a2 0 k2, .int .i64 50, .int .i64 1250] : Array Value).toList rfl ZP.out)
          have ZM := Lib.hid ((far_cells gm g (Ne.symm hne) (#[.int .i64 2, .slice a2 0 k2, .int .i64 50, .int .i64 1250] : Array Value).toList 0 _).trans ZM.out)
          have HS2 := Lib.hid (HS2.out.farA (q := g) apart_nil (#[.int .i64 2, .slice a2 0 k2, .int .i64 50, .int .i64 1250] : Array Value).toList)
          have hB5 := below_setCells' g lg (#[.int .i64 2, .slice a2 0 k2, .int .i64 50, .int .i64 1250] : Array Value).toList 0 hB4
          generalize wa4.setCells g 0 (#[.int .i64 2, .slice a2 0 k2, .int .i64 50, .int .i64 1250] : Array Value).toList = wa5 at ZP ZM HS2 hB5 ⊢
          clear hB4
          refine hK.out _ _ ?_ (fun hHeld => ?_)
          · exact HP.out.on hB5
          clear hK K
          try simp only [Act.put, List.getElem_toArray, List.getElem_cons_succ, List.getElem_cons_zero, List.setIfInBounds_toArray, List.set_cons_zero, List.set_cons_succ]
          refine wpAnyH_ready (rs := [9]) (by kernel_rfl) (by simp) ?_
          refine AllReadyH.cons rfl (fun K hK => ?_) AllReadyH.nil
          rw [if_pos (by rfl)]
          refine wp_store_mid 31 (.tmp 3) (.tmp 16) (by rfl) gm 0 #[.int .i64 2, .bool false] (by rfl) (by rfl) (there_of_block ZM.out (by simp)) (by kernel_rfl) (by kernel_rfl) ?_
          have ZM := Lib.hid (heap_setCells_whole (cs := [Value.int .i64 0, .bool false]) (#[.int .i64 2, .bool false] : Array Value).toList rfl ZM.out)
          have ZP := Lib.hid ((far_cells g gm hne (#[.int .i64 2, .bool false] : Array Value).toList 0 _).trans ZP.out)
          have HS2 := Lib.hid (HS2.out.farA (q := gm) apart_nil (#[.int .i64 2, .bool false] : Array Value).toList)
          have hB6 := below_setCells' gm lgm (#[.int .i64 2, .bool false] : Array Value).toList 0 hB5
          generalize wa5.setCells gm 0 (#[.int .i64 2, .bool false] : Array Value).toList = wa6 at ZP ZM HS2 hB6 ⊢
          clear hB5
          refine hK.out _ _ ?_ (fun hHeld => ?_)
          · exact HP.out.on hB6
          clear hK K
          try simp only [Act.put, List.getElem_toArray, List.getElem_cons_succ, List.getElem_cons_zero, List.setIfInBounds_toArray, List.set_cons_zero, List.set_cons_succ]
          refine wpAnyH_done (by kernel_rfl) ?_ _
          go_wp2_with fail
          go_meet
          exact ⟨g, gm, a2, k2, rfl, rfl, lg, lgm, ⟨ZP.out, HS2.out⟩, HO2.out, ZM.out, hB6⟩
        · rw [if_pos (by rfl)]
          go_simp
          have hlt9 := lt_of_heap ZM.out
          have hB3 := hB2.alloc hB2.size (.cells #[.int .i64 0, .slice none 0 0, .int .i64 0, .int .i64 0] 26)
          have ZM := Lib.hid ((heap_alloc_old wa2 (.cells #[.int .i64 0, .slice none 0 0, .int .i64 0, .int .i64 0] 26) (lt_of_heap ZM.out)).trans ZM.out)
          have ZP := Lib.hid (heap_alloc_new wa2 (.cells #[.int .i64 0, .slice none 0 0, .int .i64 0, .int .i64 0] 26))
          have lg : w0.heap.size ≤ wa2.heap.size := hB2.size
          obtain ⟨g, hgg⟩ : ∃ g, g = wa2.heap.size := ⟨_, rfl⟩
          rw [← hgg] at ZP lg ⊢
          have hne : g ≠ gm := by omega
          clear hlt9
          clear hgg
          generalize wa2.alloc (.cells #[.int .i64 0, .slice none 0 0, .int .i64 0, .int .i64 0] 26) = wa3 at hB3 ZP ZM ⊢
          clear hB2
          refine hK.out _ _ ?_ (fun hHeld => ?_)
          · exact HP.out.on hB3
          clear hK K
          try simp only [Act.put, List.getElem_toArray, List.getElem_cons_succ, List.getElem_cons_zero, List.setIfInBounds_toArray, List.set_cons_zero, List.set_cons_succ]
          refine wpAnyH_ready (rs := [2]) (by kernel_rfl) (by simp) ?_
          refine AllReadyH.cons rfl (fun K hK => ?_) AllReadyH.nil
          rw [if_pos (by rfl)]
          go_simp
          go_at_call 12
          refine (pstep_l ⟨2, [], 0, 0⟩ rfl (SRw.none_ _) plainQ_ok 2 250 2 [] 50 1250 2 false 0 (by kernel_rfl) (by kernel_rfl) rfl).mono ?_
          rintro r wa4 ⟨a2, k2, rfl, hs2, ho2, b⟩
          have hB4 := hB3.trans (b.mono hB3.size)
          have ZP := Lib.hid ((b.block _ (lt_of_heap ZP.out)).trans ZP.out)
          have ZM := Lib.hid ((b.block _ (lt_of_heap ZM.out)).trans ZM.out)
          have HS2 := Lib.hid hs2
          have HO2 := Lib.hid (fun g o e => Nat.le_trans hB3.size (ho2 g o e))
          clear hs2 ho2
          clear b hB3
          refine hK.out _ _ ?_ (fun hHeld => ?_)
          · exact HP.out.on hB4
          clear hK K
          try simp only [Act.put, List.getElem_toArray, List.getElem_cons_succ, List.getElem_cons_zero, List.setIfInBounds_toArray, List.set_cons_zero, List.set_cons_succ]
          refine wpAnyH_take (i := 3) (v := ?_) rfl (by kernel_rfl) (by kernel_rfl) (by kernel_rfl) (fun _ _ _ h => h) (Or.inl ⟨by rfl, ?_⟩) (by assumption) ?_
          rotate_left
          · intro w hSw
            (try dsimp only at hSw)
            go_simp
            all_goals with_reducible rfl
          try simp only [Act.put, List.getElem_toArray, List.getElem_cons_succ, List.getElem_cons_zero, List.setIfInBounds_toArray, List.set_cons_zero, List.set_cons_succ]
          refine wpAnyH_take (i := 4) (v := ?_) rfl (by kernel_rfl) (by kernel_rfl) (by kernel_rfl) (fun _ _ _ h => h) (Or.inl ⟨by rfl, ?_⟩) (by assumption) ?_
          rotate_left
          · intro w hSw
            (try dsimp only at hSw)
            go_simp
            all_goals with_reducible rfl
          try simp only [Act.put, List.getElem_toArray, List.getElem_cons_succ, List.getElem_cons_zero, List.setIfInBounds_toArray, List.set_cons_zero, List.set_cons_succ]
          refine wpAnyH_take (i := 5) (v := ?_) rfl (by kernel_rfl) (by kernel_rfl) (by kernel_rfl) (fun _ _ _ h => h) (Or.inl ⟨by rfl, ?_⟩) (by assumption) ?_
          rotate_left
          · intro w hSw
            (try dsimp only at hSw)
            go_simp
            all_goals with_reducible rfl
          try simp only [Act.put, List.getElem_toArray, List.getElem_cons_succ, List.getElem_cons_zero, List.setIfInBounds_toArray, List.set_cons_zero, List.set_cons_succ]
          refine wpAnyH_ready (rs := [8]) (by kernel_rfl) (by simp) ?_
          refine AllReadyH.cons rfl (fun K hK => ?_) AllReadyH.nil
          rw [if_pos (by rfl)]
          refine wp_store_mid 26 (.tmp 2) (.tmp 15) (by rfl) g 0 #[.int .i64 2, .slice a2 0 k2, .int .i64 50, .int .i64 1250] (by rfl) (by rfl) (there_of_block ZP.out (by simp)) (by kernel_rfl) (by kernel_rfl) ?_
          have ZP := Lib.hid (heap_setCells_whole (cs := [Value.int .i64 0, .slice none 0 0, .int .i64 0, .int .i64 0]) (#[.int .i64 2, .slice a2 0 k2, .int .i64 50, .int .i64 1250] : Array Value).toList rfl ZP.out)
          have ZM := Lib.hid ((far_cells gm g (Ne.symm hne) (#[.int .i64 2, .slice a2 0 k2, .int .i64 50, .int .i64 1250] : Array Value).toList 0 _).trans ZM.out)
          have HS2 := Lib.hid (HS2.out.farA (q := g) apart_nil (#[.int .i64 2, .slice a2 0 k2, .int .i64 50, .int .i64 1250] : Array Value).toList)
          have hB5 := below_setCells' g lg (#[.int .i64 2, .slice a2 0 k2, .int .i64 50, .int .i64 1250] : Array Value).toList 0 hB4
          generalize wa4.setCells g 0 (#[.int .i64 2, .slice a2 0 k2, .int .i64 50, .int .i64 1250] : Array Value).toList = wa5 at ZP ZM HS2 hB5 ⊢
          clear hB4
          refine hK.out _ _ ?_ (fun hHeld => ?_)
          · exact HP.out.on hB5
          clear hK K
          try simp only [Act.put, List.getElem_toArray, List.getElem_cons_succ, List.getElem_cons_zero, List.setIfInBounds_toArray, List.set_cons_zero, List.set_cons_succ]
          refine wpAnyH_ready (rs := [9]) (by kernel_rfl) (by simp) ?_
          refine AllReadyH.cons rfl (fun K hK => ?_) AllReadyH.nil
          rw [if_pos (by rfl)]
          refine wp_store_mid 31 (.tmp 3) (.tmp 16) (by rfl) gm 0 #[.int .i64 2, .bool false] (by rfl) (by rfl) (there_of_block ZM.out (by simp)) (by kernel_rfl) (by kernel_rfl) ?_
          have ZM := Lib.hid (heap_setCells_whole (cs := [Value.int .i64 0, .bool false]) (#[.int .i64 2, .bool false] : Array Value).toList rfl ZM.out)
          have ZP := Lib.hid ((far_cells g gm hne (#[.int .i64 2, .bool false] : Array Value).toList 0 _).trans ZP.out)
          have HS2 := Lib.hid (HS2.out.farA (q := gm) apart_nil (#[.int .i64 2, .bool false] : Array Value).toList)
          have hB6 := below_setCells' gm lgm (#[.int .i64 2, .bool false] : Array Value).toList 0 hB5
          generalize wa5.setCells gm 0 (#[.int .i64 2, .bool false] : Array Value).toList = wa6 at ZP ZM HS2 hB6 ⊢
          clear hB5
          refine hK.out _ _ ?_ (fun hHeld => ?_)
          · exact HP.out.on hB6
          clear hK K
          try simp only [Act.put, List.getElem_toArray, List.getElem_cons_succ, List.getElem_cons_zero, List.setIfInBounds_toArray, List.set_cons_zero, List.set_cons_succ]
          refine wpAnyH_done (by kernel_rfl) ?_ _
          go_wp2_with fail
          go_meet
          exact ⟨g, gm, a2, k2, rfl, rfl, lg, lgm, ⟨ZP.out, HS2.out⟩, HO2.out, ZM.out, hB6⟩
      · rw [if_pos (by rfl)]
        go_simp
        have hlt9 := lt_of_heap ZM.out
        have hB2 := hB1.alloc hB1.size (.cells #[.int .i64 0, .slice none 0 0, .int .i64 0, .int .i64 0] 26)
        have ZM := Lib.hid ((heap_alloc_old wa1 (.cells #[.int .i64 0, .slice none 0 0, .int .i64 0, .int .i64 0] 26) (lt_of_heap ZM.out)).trans ZM.out)
        have ZP := Lib.hid (heap_alloc_new wa1 (.cells #[.int .i64 0, .slice none 0 0, .int .i64 0, .int .i64 0] 26))
        have lg : w0.heap.size ≤ wa1.heap.size := hB1.size
        obtain ⟨g, hgg⟩ : ∃ g, g = wa1.heap.size := ⟨_, rfl⟩
        rw [← hgg] at ZP lg ⊢
        have hne : g ≠ gm := by omega
        clear hlt9
        clear hgg
        generalize wa1.alloc (.cells #[.int .i64 0, .slice none 0 0, .int .i64 0, .int .i64 0] 26) = wa2 at hB2 ZP ZM ⊢
        clear hB1
        refine hK.out _ _ ?_ (fun hHeld => ?_)
        · exact HP.out.on hB2
        clear hK K
        try simp only [Act.put, List.getElem_toArray, List.getElem_cons_succ, List.getElem_cons_zero, List.setIfInBounds_toArray, List.set_cons_zero, List.set_cons_succ]
        refine wpAnyH_ready (rs := [1]) (by kernel_rfl) (by simp) ?_
        refine AllReadyH.cons rfl (fun K hK => ?_) AllReadyH.nil
        rw [if_pos (by rfl)]
        go_simp
        go_at_call 17
        refine (pnew_l 2 2 rfl _).mono ?_
        rintro r wa3 ⟨rfl, b⟩
        have hB3 := hB2.trans (b.mono hB2.size)
        have ZP := Lib.hid ((b.block _ (lt_of_heap ZP.out)).trans ZP.out)
        have ZM := Lib.hid ((b.block _ (lt_of_heap ZM.out)).trans ZM.out)
        clear b hB2
        refine hK.out _ _ ?_ (fun hHeld => ?_)
        · exact HP.out.on hB3
        clear hK K
        try simp only [Act.put, List.getElem_toArray, List.getElem_cons_succ, List.getElem_cons_zero, List.setIfInBounds_toArray, List.set_cons_zero, List.set_cons_succ]
        refine wpAnyH_ready (rs := [2]) (by kernel_rfl) (by simp) ?_
        refine AllReadyH.cons rfl (fun K hK => ?_) AllReadyH.nil
        rw [if_pos (by rfl)]
        go_simp
        go_at_call 12
        refine (pstep_l ⟨2, [], 0, 0⟩ rfl (SRw.none_ _) plainQ_ok 2 250 2 [] 50 1250 2 false 0 (by kernel_rfl) (by kernel_rfl) rfl).mono ?_
        rintro r wa4 ⟨a2, k2, rfl, hs2, ho2, b⟩
        have hB4 := hB3.trans (b.mono hB3.size)
        have ZP := Lib.hid ((b.block _ (lt_of_heap ZP.out)).trans ZP.out)
        have ZM := Lib.hid ((b.block _ (lt_of_heap ZM.out)).trans ZM.out)
        have HS2 := Lib.hid hs2
        have HO2 := Lib.hid (fun g o e => Nat.le_trans hB3.size (ho2 g o e))
        clear hs2 ho2
        clear b hB3
        refine hK.out _ _ ?_ (fun hHeld => ?_)
        · exact HP.out.on hB4
        clear hK K
        try simp only [Act.put, List.getElem_toArray, List.getElem_cons_succ, List.getElem_cons_zero, List.setIfInBounds_toArray, List.set_cons_zero, List.set_cons_succ]
        refine wpAnyH_take (i := 3) (v := ?_) rfl (by kernel_rfl) (by kernel_rfl) (by kernel_rfl) (fun _ _ _ h => h) (Or.inl ⟨by rfl, ?_⟩) (by assumption) ?_
        rotate_left
        · intro w hSw
          (try dsimp only at hSw)
          go_simp
          all_goals with_reducible rfl
        try simp only [Act.put, List.getElem_toArray, List.getElem_cons_succ, List.getElem_cons_zero, List.setIfInBounds_toArray, List.set_cons_zero, List.set_cons_succ]
        refine wpAnyH_take (i := 4) (v := ?_) rfl (by kernel_rfl) (by kernel_rfl) (by kernel_rfl) (fun _ _ _ h => h) (Or.inl ⟨by rfl, ?_⟩) (by assumption) ?_
        rotate_left
        · intro w hSw
          (try dsimp only at hSw)
          go_simp
          all_goals with_reducible rfl
        try simp only [Act.put, List.getElem_toArray, List.getElem_cons_succ, List.getElem_cons_zero, List.setIfInBounds_toArray, List.set_cons_zero, List.set_cons_succ]
        refine wpAnyH_take (i := 5) (v := ?_) rfl (by kernel_rfl) (by kernel_rfl) (by kernel_rfl) (fun _ _ _ h => h) (Or.inl ⟨by rfl, ?_⟩) (by assumption) ?_
        rotate_left
        · intro w hSw
          (try dsimp only at hSw)
          go_simp
          all_goals with_reducible rfl
        try simp only [Act.put, List.getElem_toArray, List.getElem_cons_succ, List.getElem_cons_zero, List.setIfInBounds_toArray, List.set_cons_zero, List.set_cons_succ]
        refine wpAnyH_ready (rs := [8]) (by kernel_rfl) (by simp) ?_
        refine AllReadyH.cons rfl (fun K hK => ?_) AllReadyH.nil
        rw [if_pos (by rfl)]
        refine wp_store_mid 26 (.tmp 2) (.tmp 15) (by rfl) g 0 #[.int .i64 2, .slice a2 0 k2, .int .i64 50, .int .i64 1250] (by rfl) (by rfl) (there_of_block ZP.out (by simp)) (by kernel_rfl) (by kernel_rfl) ?_
        have ZP := Lib.hid (heap_setCells_whole (cs := [Value.int .i64 0, .slice none 0 0, .int .i64 0, .int .i64 0]) (#[.int .i64 2, .slice a2 0 k2, .int .i64 50, .int .i64 1250] : Array Value).toList rfl ZP.out)
        have ZM := Lib.hid ((far_cells gm g (Ne.symm hne) (#[.int .i64 2, .slice a2 0 k2, .int .i64 50, .int .i64 1250] : Array Value).toList 0 _).trans ZM.out)
        have HS2 := Lib.hid (HS2.out.farA (q := g) apart_nil (#[.int .i64 2, .slice a2 0 k2, .int .i64 50, .int .i64 1250] : Array Value).toList)
        have hB5 := below_setCells' g lg (#[.int .i64 2, .slice a2 0 k2, .int .i64 50, .int .i64 1250] : Array Value).toList 0 hB4
        generalize wa4.setCells g 0 (#[.int .i64 2, .slice a2 0 k2, .int .i64 50, .int .i64 1250] : Array Value).toList = wa5 at ZP ZM HS2 hB5 ⊢
        clear hB4
        refine hK.out _ _ ?_ (fun hHeld => ?_)
        · exact HP.out.on hB5
        clear hK K
        try simp only [Act.put, List.getElem_toArray, List.getElem_cons_succ, List.getElem_cons_zero, List.setIfInBounds_toArray, List.set_cons_zero, List.set_cons_succ]
        refine wpAnyH_ready (rs := [9]) (by kernel_rfl) (by simp) ?_
        refine AllReadyH.cons rfl (fun K hK => ?_) AllReadyH.nil
        rw [if_pos (by rfl)]
        refine wp_store_mid 31 (.tmp 3) (.tmp 16) (by rfl) gm 0 #[.int .i64 2, .bool false] (by rfl) (by rfl) (there_of_block ZM.out (by simp)) (by kernel_rfl) (by kernel_rfl) ?_
        have ZM := Lib.hid (heap_setCells_whole (cs := [Value.int .i64 0, .bool false]) (#[.int .i64 2, .bool false] : Array Value).toList rfl ZM.out)
        have ZP := Lib.hid ((far_cells g gm hne (#[.int .i64 2, .bool false] : Array Value).toList 0 _).trans ZP.out)
        have HS2 := Lib.hid (HS2.out.farA (q := gm) apart_nil (#[.int .i64 2, .bool false] : Array Value).toList)
        have hB6 := below_setCells' gm lgm (#[.int .i64 2, .bool false] : Array Value).toList 0 hB5
        generalize wa5.setCells gm 0 (#[.int .i64 2, .bool false] : Array Value).toList = wa6 at ZP ZM HS2 hB6 ⊢
        clear hB5
        refine hK.out _ _ ?_ (fun hHeld => ?_)
        · exact HP.out.on hB6
        clear hK K
        try simp only [Act.put, List.getElem_toArray, List.getElem_cons_succ, List.getElem_cons_zero, List.setIfInBounds_toArray, List.set_cons_zero, List.set_cons_succ]
        refine wpAnyH_done (by kernel_rfl) ?_ _
        go_wp2_with fail
        go_meet
        exact ⟨g, gm, a2, k2, rfl, rfl, lg, lgm, ⟨ZP.out, HS2.out⟩, HO2.out, ZM.out, hB6⟩
  case rest =>
  obtain ⟨g1, m1, a1, k1, rfl, rfl, l1, lm1, X1, o1, M1, b1⟩ := hcut
  generalize wc = w1 at *
  have X1 := Lib.hid X1
  have M1 := Lib.hid M1
  have HP := Lib.hid (HP.out.on b1)
  have B := Lib.hid (bel2 B.out b1)
  clear b1 l1 lm1 o1
  have q0 : w1.cell? ⟨g1, 0, none⟩ = some (.int .i64 2) := (PtAt.c X1.out.at_).1
  have q1 : w1.cell? ⟨g1, 1, none⟩ = some (.slice a1 0 k1) := (PtAt.c X1.out.at_).2.1
  have q2 : w1.cell? ⟨g1, 2, none⟩ = some (.int .i64 50) := (PtAt.c X1.out.at_).2.2.1
  have q3 : w1.cell? ⟨g1, 3, none⟩ = some (.int .i64 1250) := (PtAt.c X1.out.at_).2.2.2
  go_wp2_with (first
    | (refine wpList_load_rowG (by first | rfl | kernel_rfl | (simp [Region.wanted, yielded])) 23 (.tmp 1) (by rfl) (v0.heap.size) (by rfl) 23 _ (0, 0) _ HP.out Try.underlying23 (by rfl) (by kernel_rfl) ?_)
    | fail)
  refine (pstep_l ⟨2, [], 50, 1250⟩ rfl X1.out.row plainQ_ok 4 300 2 [2] 150 1750 4 true 1 (by kernel_rfl) (by kernel_rfl) rfl).mono ?_
  rintro r v2 ⟨a2, k2, rfl, hs2, ho2, b⟩
  clear ho2
  have HP := Lib.hid (HP.out.on b)
  have X1 := Lib.hid (X1.out.on b)
  have M1 := Lib.hid (M1.out.on b)
  have B := Lib.hid (bel2 B.out b)
  clear b
  go_upto_region 4 with fail
  obtain ⟨b, hX, hM⟩ := two_new v2 2 [2] 150 1750 a2 k2 4 true 1 rfl hs2
  generalize (v2.alloc (.cells #[.int .i64 2, .slice a2 1 k2, .int .i64 150, .int .i64 1750] 26)).alloc (.cells #[.int .i64 4, .bool true] 31) = w2 at *
  have HP := Lib.hid (HP.out.on b)
  have X1 := Lib.hid (X1.out.on b)
  have M1 := Lib.hid (M1.out.on b)
  have B := Lib.hid (bel2 B.out b)
  clear b
  have X2 := Lib.hid hX
  have M2 := Lib.hid hM
  clear hX hM hs2
  clear q0 q1 q2 q3
  have q0 : w2.cell? ⟨v2.heap.size, 0, none⟩ = some (.int .i64 2) := (PtAt.c X2.out.at_).1
  have q1 : w2.cell? ⟨v2.heap.size, 1, none⟩ = some (.slice a2 1 k2) := (PtAt.c X2.out.at_).2.1
  have q2 : w2.cell? ⟨v2.heap.size, 2, none⟩ = some (.int .i64 150) := (PtAt.c X2.out.at_).2.2.1
  have q3 : w2.cell? ⟨v2.heap.size, 3, none⟩ = some (.int .i64 1750) := (PtAt.c X2.out.at_).2.2.2
  go_wp2_with (first
    | (refine wpList_load_rowG (by first | rfl | kernel_rfl | (simp [Region.wanted, yielded])) 23 (.tmp 1) (by rfl) (v0.heap.size) (by rfl) 23 _ (0, 0) _ HP.out Try.underlying23 (by rfl) (by kernel_rfl) ?_)
    | fail)
  refine (pstep_l ⟨2, [2], 150, 1750⟩ rfl X2.out.row plainQ_ok 3 0 3 [] 0 500 3 false 0 (by kernel_rfl) (by kernel_rfl) rfl).mono ?_
  rintro r v3 ⟨a3, k3, rfl, hs2, ho2, b⟩
  clear ho2
  have HP := Lib.hid (HP.out.on b)
  have X1 := Lib.hid (X1.out.on b)
  have M1 := Lib.hid (M1.out.on b)
  have X2 := Lib.hid (X2.out.on b)
  have M2 := Lib.hid (M2.out.on b)
  have B := Lib.hid (bel2 B.out b)
  clear b
  go_upto_region 5 with fail
  obtain ⟨b, hX, hM⟩ := two_new v3 3 [] 0 500 a3 k3 3 false 0 rfl hs2
  generalize (v3.alloc (.cells #[.int .i64 3, .slice a3 0 k3, .int .i64 0, .int .i64 500] 26)).alloc (.cells #[.int .i64 3, .bool false] 31) = w3 at *
  have HP := Lib.hid (HP.out.on b)
  have X1 := Lib.hid (X1.out.on b)
  have M1 := Lib.hid (M1.out.on b)
  have X2 := Lib.hid (X2.out.on b)
  have M2 := Lib.hid (M2.out.on b)
  have B := Lib.hid (bel2 B.out b)
  clear b
  have X3 := Lib.hid hX
  have M3 := Lib.hid hM
  clear hX hM hs2
  clear q0 q1 q2 q3
  go_wp2_with (first
    | (refine wpList_load_rowG (by first | rfl | kernel_rfl | (simp [Region.wanted, yielded])) 23 (.tmp 1) (by rfl) (v0.heap.size) (by rfl) 23 _ (0, 0) _ HP.out Try.underlying23 (by rfl) (by kernel_rfl) ?_)
    | fail)
  have b := bel1 (Below.refl w3.heap.size w3) (.cells #[.int .i64 1, .int .i64 0, .int .i64 2] 3)
  have HLt := Lib.hid (srw3 w3 1 0 2)
  have HP := Lib.hid (HP.out.on b)
  have X1 := Lib.hid (X1.out.on b)
  have M1 := Lib.hid (M1.out.on b)
  have X2 := Lib.hid (X2.out.on b)
  have M2 := Lib.hid (M2.out.on b)
  have X3 := Lib.hid (X3.out.on b)
  have M3 := Lib.hid (M3.out.on b)
  have B := Lib.hid (bel2 B.out b)
  clear b
  generalize w3.alloc (.cells #[.int .i64 1, .int .i64 0, .int .i64 2] 3) = u3 at *
  refine (pstep_l ⟨1, [1, 0, 2], 0, 0⟩ rfl HLt.out plainQ_ok 2 0 2 [] 0 0 2 false 0 (by kernel_rfl) (by kernel_rfl) rfl).mono ?_
  rintro r v4 ⟨a4, k4, rfl, hs2, ho2, b⟩
  clear ho2
  have HP := Lib.hid (HP.out.on b)
  have X1 := Lib.hid (X1.out.on b)
  have M1 := Lib.hid (M1.out.on b)
  have X2 := Lib.hid (X2.out.on b)
  have M2 := Lib.hid (M2.out.on b)
  have X3 := Lib.hid (X3.out.on b)
  have M3 := Lib.hid (M3.out.on b)
  have B := Lib.hid (bel2 B.out b)
  clear b
  go_upto_region 6 with fail
  obtain ⟨b, hX, hM⟩ := two_new v4 2 [] 0 0 a4 k4 2 false 0 rfl hs2
  generalize (v4.alloc (.cells #[.int .i64 2, .slice a4 0 k4, .int .i64 0, .int .i64 0] 26)).alloc (.cells #[.int .i64 2, .bool false] 31) = w4 at *
  have HP := Lib.hid (HP.out.on b)
  have X1 := Lib.hid (X1.out.on b)
  have M1 := Lib.hid (M1.out.on b)
  have X2 := Lib.hid (X2.out.on b)
  have M2 := Lib.hid (M2.out.on b)
  have X3 := Lib.hid (X3.out.on b)
  have M3 := Lib.hid (M3.out.on b)
  have B := Lib.hid (bel2 B.out b)
  clear b
  have X4 := Lib.hid hX
  have M4 := Lib.hid hM
  clear hX hM hs2
  clear M4 HLt HP
  have hfd := field_pt
  have q0 : w4.cell? ⟨g1, 0, none⟩ = some (.int .i64 2) := (PtAt.c X1.out.at_).1
  have q1 : w4.cell? ⟨g1, 1, none⟩ = some (.slice a1 0 k1) := (PtAt.c X1.out.at_).2.1
  have q2 : w4.cell? ⟨g1, 2, none⟩ = some (.int .i64 50) := (PtAt.c X1.out.at_).2.2.1
  have q3 : w4.cell? ⟨g1, 3, none⟩ = some (.int .i64 1250) := (PtAt.c X1.out.at_).2.2.2
  go_wp2_with fail
  refine (rtsame_any (p := ⟨2, [], 50, 1250⟩) X1.out.row (SRw.none_ _)).mono ?_
  rintro r u4 ⟨rfl, b⟩
  have X1 := Lib.hid (X1.out.on b)
  have X2 := Lib.hid (X2.out.on b)
  have X3 := Lib.hid (X3.out.on b)
  have X4 := Lib.hid (X4.out.on b)
  have M1 := Lib.hid (M1.out.on b)
  have M2 := Lib.hid (M2.out.on b)
  have M3 := Lib.hid (M3.out.on b)
  have B := Lib.hid (bel2 B.out b)
  clear b
  clear q0 q1 q2 q3
  have p0 : u4.cell? ⟨m1, 0, none⟩ = some (.int .i64 2) := (MkAt.c M1.out).1
  have p1 : u4.cell? ⟨m1, 1, none⟩ = some (.bool false) := (MkAt.c M1.out).2
  have q0 : u4.cell? ⟨v2.heap.size, 0, none⟩ = some (.int .i64 2) := (PtAt.c X2.out.at_).1
  have q1 : u4.cell? ⟨v2.heap.size, 1, none⟩ = some (.slice a2 1 k2) := (PtAt.c X2.out.at_).2.1
  have q2 : u4.cell? ⟨v2.heap.size, 2, none⟩ = some (.int .i64 150) := (PtAt.c X2.out.at_).2.2.1
  have q3 : u4.cell? ⟨v2.heap.size, 3, none⟩ = some (.int .i64 1750) := (PtAt.c X2.out.at_).2.2.2
  go_wp2_with fail
  refine (rtsame_any (p := ⟨2, [2], 150, 1750⟩) (X2.out.row.on (bel1 (Below.refl _ _) _)) (srw1 _ 2)).mono ?_
  rintro r u5 ⟨rfl, b⟩
  have b := bel2 (bel1 (Below.refl u4.heap.size u4) (.cells #[.int .i64 2] 3)) b
  have X1 := Lib.hid (X1.out.on b)
  have X2 := Lib.hid (X2.out.on b)
  have X3 := Lib.hid (X3.out.on b)
  have X4 := Lib.hid (X4.out.on b)
  have M1 := Lib.hid (M1.out.on b)
  have M2 := Lib.hid (M2.out.on b)
  have M3 := Lib.hid (M3.out.on b)
  have B := Lib.hid (bel2 B.out b)
  clear b
  clear q0 q1 q2 q3 p0 p1
  have p0 : u5.cell? ⟨v2.heap.size + 1, 0, none⟩ = some (.int .i64 4) := (MkAt.c M2.out).1
  have p1 : u5.cell? ⟨v2.heap.size + 1, 1, none⟩ = some (.bool true) := (MkAt.c M2.out).2
  have q0 : u5.cell? ⟨v3.heap.size, 0, none⟩ = some (.int .i64 3) := (PtAt.c X3.out.at_).1
  have q1 : u5.cell? ⟨v3.heap.size, 1, none⟩ = some (.slice a3 0 k3) := (PtAt.c X3.out.at_).2.1
  have q2 : u5.cell? ⟨v3.heap.size, 2, none⟩ = some (.int .i64 0) := (PtAt.c X3.out.at_).2.2.1
  have q3 : u5.cell? ⟨v3.heap.size, 3, none⟩ = some (.int .i64 500) := (PtAt.c X3.out.at_).2.2.2
  go_wp2_with fail
  refine (rtsame_any (p := ⟨3, [], 0, 500⟩) X3.out.row (SRw.none_ _)).mono ?_
  rintro r u6 ⟨rfl, b⟩
  have X1 := Lib.hid (X1.out.on b)
  have X2 := Lib.hid (X2.out.on b)
  have X3 := Lib.hid (X3.out.on b)
  have X4 := Lib.hid (X4.out.on b)
  have M1 := Lib.hid (M1.out.on b)
  have M2 := Lib.hid (M2.out.on b)
  have M3 := Lib.hid (M3.out.on b)
  have B := Lib.hid (bel2 B.out b)
  clear b
  clear q0 q1 q2 q3 p0 p1
  have p0 : u6.cell? ⟨v3.heap.size + 1, 0, none⟩ = some (.int .i64 3) := (MkAt.c M3.out).1
  have p1 : u6.cell? ⟨v3.heap.size + 1, 1, none⟩ = some (.bool false) := (MkAt.c M3.out).2
  have q0 : u6.cell? ⟨v4.heap.size, 0, none⟩ = some (.int .i64 2) := (PtAt.c X4.out.at_).1
  have q1 : u6.cell? ⟨v4.heap.size, 1, none⟩ = some (.slice a4 0 k4) := (PtAt.c X4.out.at_).2.1
  have q2 : u6.cell? ⟨v4.heap.size, 2, none⟩ = some (.int .i64 0) := (PtAt.c X4.out.at_).2.2.1
  have q3 : u6.cell? ⟨v4.heap.size, 3, none⟩ = some (.int .i64 0) := (PtAt.c X4.out.at_).2.2.2
  go_wp2_with fail
  refine (rtsame_any (p := ⟨2, [], 0, 0⟩) X4.out.row (SRw.none_ _)).mono ?_
  rintro r u7 ⟨rfl, b⟩
  have X1 := Lib.hid (X1.out.on b)
  have X2 := Lib.hid (X2.out.on b)
  have X3 := Lib.hid (X3.out.on b)
  have X4 := Lib.hid (X4.out.on b)
  have M1 := Lib.hid (M1.out.on b)
  have M2 := Lib.hid (M2.out.on b)
  have M3 := Lib.hid (M3.out.on b)
  have B := Lib.hid (bel2 B.out b)
  clear b
  clear q0 q1 q2 q3 p0 p1
  have q0 : u7.cell? ⟨v2.heap.size, 0, none⟩ = some (.int .i64 2) := (PtAt.c X2.out.at_).1
  have q1 : u7.cell? ⟨v2.heap.size, 1, none⟩ = some (.slice a2 1 k2) := (PtAt.c X2.out.at_).2.1
  have q2 : u7.cell? ⟨v2.heap.size, 2, none⟩ = some (.int .i64 150) := (PtAt.c X2.out.at_).2.2.1
  have q3 : u7.cell? ⟨v2.heap.size, 3, none⟩ = some (.int .i64 1750) := (PtAt.c X2.out.at_).2.2.2
  go_wp2_with fail
  refine (pall_any (p := ⟨2, [2], 150, 1750⟩) (TOk.n (TOk.of (p := ⟨2, [2], 150, 1750⟩) rfl)) X2.out.row).mono ?_
  rintro r u8 ⟨rfl, b⟩
  have B := Lib.hid (bel2 B.out b)
  clear b
  have e4 : all ⟨2, [2], 150, 1750⟩ = 4 := by decide
  simp only [e4]
  go_wp2_with fail
  refine (pnew_l 2000 1000 rfl _).mono ?_
  rintro r u9 ⟨rfl, b⟩
  have B := Lib.hid (bel2 B.out b)
  go_wp2
  go_ret
  exact ⟨rfl, B.out⟩
end Go.Proofs.Ytcfehddnccdejaa
