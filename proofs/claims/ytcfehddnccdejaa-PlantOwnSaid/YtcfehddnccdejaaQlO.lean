/- The program's leave: its contract. -/
import Derived.Test.YtcfehddnccdejaaQlN
namespace Go.Proofs.Ytcfehddnccdejaa
set_option linter.unusedSimpArgs false
set_option linter.unusedVariables false
open Go.RowKit Go.Shelf
open Evn Plt
attribute [local go_sem] Oper.semAt_some

/-- What leave and begin may change: the plant's variable, its own row. -/
def PlO (g : Nat) (v : Value) (j : Nat) : Prop := j = g ∨ v.ownBlock = some j
theorem but_putN {O : Nat → Prop} {a w : World} (h : But O a w) {r : Nat} (hr : a.heap.size ≤ r) (o : Obj) : But O a (w.putObj r o) :=
  ⟨h.os, h.tape, h.output, by have := h.size; simpa using this, fun k hk hn => (World.putObj_heap_other (by omega)).trans (h.block k hk hn)⟩
theorem but_grownN {O : Nat → Prop} {a X Y : World} {row : Option Nat} (h : But O a X) (hg : X.grownBy Y row) (hr : ∀ r, row = some r → a.heap.size ≤ r) : But O a Y :=
  ⟨hg.os.trans h.os, hg.tape.trans h.tape, hg.output.trans h.output, Nat.le_trans h.size hg.size, fun k hk hn => (hg.block k (by have := h.size; omega) (fun e => by have := hr k e.symm; omega)).trans (h.block k hk hn)⟩
set_option linter.unusedSimpArgs false in
set_option maxRecDepth 100000 in
set_option maxHeartbeats 4000000 in
theorem pleave_in {w : World} {g base kc : Nat} {p : Pt} {a : Option Addr} (hn : NOk p) (hp : PtAt w g p a kc) (ho : OwnV w base 3 (.slice a p.start.length kc) (i64V p.start)) (hne : ∀ b o, a = some ⟨b, o, none⟩ → b ≠ g) (z : Int) (hz : 0 ≤ z ∧ z ≤ all p) :
    CallsIn Fence.wide 9 Try.prog 24 #[.pointer (some ⟨g, 0, none⟩), .int .i64 z] w fun r w' => (∃ v, r = .returned v) ∧ OwnV w' base 3 (.slice a p.start.length kc) (i64V (back p.start z).1) ∧ PtAt w' g ⟨p.ready - (back p.start z).2, (back p.start z).1, p.wait, p.util⟩ a kc ∧ But (PlO g (.slice a p.start.length kc)) w w' := by
  obtain ⟨len, hlen⟩ : ∃ len, p.start.length = len := ⟨_, rfl⟩
  have hl8 : len ≤ 8 := by rw [← hlen]; exact hn.len
  have hgw := lt_of_heap hp
  have hown : Hid (∀ b, (Value.slice a len kc).ownBlock = some b → base ≤ b ∧ b < w.heap.size) := fun b e => by rw [← hlen] at e; exact World.ownsRow.lt ho b e
  obtain ⟨W0, hW0⟩ : ∃ W0, W0 = w.alloc (.cells #[.int .i64 z] 3) := ⟨_, rfl⟩
  obtain ⟨W1, hW1⟩ : ∃ W1, W1 = W0.alloc (.cells #[.pointer (some ⟨g, 0, none⟩)] 47) := ⟨_, rfl⟩
  have hs0 : W0.heap.size = w.heap.size + 1 := by rw [hW0]; simp
  have hs1 : W1.heap.size = w.heap.size + 2 := by rw [hW1]; simp; omega
  have HI : Hid (OwnV W1 base 3 (.slice a p.start.length kc) (i64V (lvL p z 0)) ∧ PtAt W1 g (lvQ p z 0) a kc ∧ Boxed W1 w.heap.size 3 (.int .i64 (lvm p z 0)) ∧ Boxed W1 (w.heap.size + 1) 47 (.pointer (some ⟨g, 0, none⟩)) ∧ But (PlO g (.slice a p.start.length kc)) w W1) := by
    rw [lvL_zero, lvQ_zero, lvm_zero, hW1]
    refine ⟨?_, ?_, ?_, ?_, ?_⟩
    · rw [hW0]; exact (ho.alloc _).alloc _
    · rw [hW0]; exact (hp.on (bel1 (Below.refl _ _) _)).on (bel1 (Below.refl _ _) _)
    · rw [hW0]; exact (Boxed.new w 3 (.int .i64 z)).alloc _
    · have := Boxed.new W0 47 (.pointer (some ⟨g, 0, none⟩))
      rw [hs0] at this
      exact this
    · rw [hW0]; exact ((But.refl _ w).alloc _).alloc _
  have HO := Lib.hid hn
  have HL := Lib.hid hlen
  have HS := Lib.hid hs1
  have HS0 := Lib.hid hs0
  have HW0 := Lib.hid hW0
  have HW1 := Lib.hid hW1
  have HZ := Lib.hid hz
  have HNE := Lib.hid hne
  have HG := Lib.hid hgw
  clear hW0 hW1 hs0 hs1 hn hz hne hgw hp ho
  refine callsIn_of_wp_marks Try.func24 rfl trivial ?_ rfl
  simp only [Try.ntmps24, List.size_toArray, List.length_cons, List.length_nil, Nat.reduceAdd, Nat.reduceSub, Array.replicate_succ, Array.replicate_zero, List.push_toArray, List.append_toArray, List.nil_append, List.cons_append]
  clear hlen
  gi_upto_region 1 with fail
  rw [← HW0.out]
  gi_wp2_with fail
  refine ⟨trivial, (callsIn_wide.2 (callsIn_wide.1 (qfrom_in _ _))).mono ?_⟩
  rintro e w' ⟨rfl, rfl⟩
  gi_wp2_with fail
  rw [← HW1.out, HS0.out]
  refine range_N rfl (by omega) (gf := 38) (lb := #[.pointer (some ⟨w.heap.size + 1, 0, none⟩)]) rfl trivial (enters_of Try.func38 (by kernel_rfl) rfl) (TellsN.wide (qfrom_tells (w.heap.size + 1) g a len kc hl8 W1)) (fun _ _ => rfl)
    (fun j X => OwnV X base 3 (.slice a p.start.length kc) (i64V (lvL p z j)) ∧ PtAt X g (lvQ p z j) a kc ∧ Boxed X w.heap.size 3 (.int .i64 (lvm p z j)) ∧ Boxed X (w.heap.size + 1) 47 (.pointer (some ⟨g, 0, none⟩)) ∧ But (PlO g (.slice a p.start.length kc)) w X)
    (fun c X => c = .ret ∧ OwnV X base 3 (.slice a p.start.length kc) (i64V (back p.start z).1) ∧ PtAt X g ⟨p.ready - (back p.start z).2, (back p.start z).1, p.wait, p.util⟩ a kc ∧ But (PlO g (.slice a p.start.length kc)) w X)
    ?hI ?hIx ?hU HI.out (fun j _ => { tmps := #[.pointer (some ⟨g, 0, none⟩), .int .i64 z, undef, .pointer (some ⟨w.heap.size, 0, none⟩), .pointer (some (plc a g len j)), undef, .pointer (some ⟨g, 0, none⟩), .func (.func 38) #[] #[.pointer (some ⟨w.heap.size + 1, 0, none⟩)], .pointer (some (plc a g len j)), undef, undef, undef, undef, undef, undef, undef, undef, undef, undef, undef, undef, undef, undef, undef, undef], defers := [] }) ?assign ?body ?done ?stop
  case hI =>
    intro s X Y row h hg hr
    have hne : ∀ j, j < w.heap.size + 2 → some j ≠ row := fun j hj e => by have := (hr j e.symm).1; have := HS.out; omega
    refine ⟨World.ownsRow.kept h.1 hg ?_, h.2.1.grown hg (hne _ (by have := HG.out; omega)), h.2.2.1.kept hg (hne _ (by omega)), h.2.2.2.1.kept hg (hne _ (by omega)), but_grownN h.2.2.2.2 hg (fun r e => by have := (hr r e).1; have := HS.out; omega)⟩
    cases hv : (Value.slice a p.start.length kc).ownBlock with
    | none => exact .inl rfl
    | some b => exact .inr (hne _ (by rw [HL.out] at hv; have := hown.out b hv; omega))
  case hIx =>
    intro s X Y row h hg hr
    have hne : ∀ j, j < w.heap.size + 2 → some j ≠ row := fun j hj e => by have := (hr j e.symm).1; have := HS.out; omega
    refine ⟨h.1, World.ownsRow.kept h.2.1 hg ?_, h.2.2.1.grown hg (hne _ (by have := HG.out; omega)), but_grownN h.2.2.2 hg (fun r e => by have := (hr r e).1; have := HS.out; omega)⟩
    cases hv : (Value.slice a p.start.length kc).ownBlock with
    | none => exact .inl rfl
    | some b => exact .inr (hne _ (by rw [HL.out] at hv; have := hown.out b hv; omega))
  case hU =>
    intro j X h
    obtain ⟨a1, c1, e, S, _, _⟩ := own_srw h.1
    rw [lvL_len] at e
    injection e with e1 e2 e3
    subst e1 e3
    have e := (PtAt.c h.2.1).2.1
    have r := S.rdb
    rw [lvL_len, HL.out] at r
    have e7 : (lvQ p z j).start.length = len := (lvL_len p z j).trans HL.out
    rw [e7] at e
    exact ⟨h.2.2.2.1, e, r⟩
  case assign =>
    intro l2 j x X K hI hk hK
    gi_wp2
    exact hK
  case body =>
    rintro l2 j x X ⟨ho, hp, hb, hq, hbt⟩ hj hsz
    have hbd := Below.drew (Below.refl X.heap.size X)
    have hb3 := hb.kept (below_grown hbd) (by simp)
    have hq3 := hq.kept (below_grown hbd) (by simp)
    obtain ⟨b, o, y, q, hpl, hc, hf, hy, hqm, hm, hm1, hbO, ho2, hp2⟩ := lv_step HO.out HZ.out (OwnV.drew ho) (hp.on hbd) HNE.out (k := j) (by rw [HL.out]; omega)
    rw [HL.out] at hpl
    have hbw : b < w.heap.size := by
      rcases hbO with rfl | e
      · exact HG.out
      · rw [HL.out] at e; exact (hown.out b e).2
    rw [hpl]
    have c3 := hb3.cell
    have f3 := hb3.frozen
    have HH := Lib.hid (And.intro ho2 (And.intro hp2 (And.intro hb3 (And.intro hq3 (And.intro hbt.drew hbO)))))
    have HM1 := Lib.hid hm1
    have HBW := Lib.hid hbw
    have HJ : Hid (j ≤ p.start.length) := by show _ ≤ _; rw [HL.out]; omega
    have ST := Lib.hid (fun (h : lvm p z (j + 1) = 0) => lv_stop HO.out (by have := HJ.out; omega) h)
    rw [hm1] at ST
    generalize lvm p z j = m at *
    have wq : IntKind.i64.wrap (y - q) = y - q := by rw [IntKind.wrap_i64]; omega
    have wm : IntKind.i64.wrap (m - q) = m - q := by rw [IntKind.wrap_i64]; omega
    clear ho hp hb hq hbt hpl hy hm hm1 hbO ho2 hp2 hb3 hq3 hbw hbd
    gi_wp2_with fail
    refine region_tailG (S := fun Y => Y = X.drew) [5] (by kernel_rfl) rfl (fun hHeld => ?_)
    refine takeG [4,5] (i := 0) (v := ?_) (by kernel_rfl) rfl (by kernel_rfl) (by kernel_rfl) (by kernel_rfl) (by kernel_rfl) (fun _ _ _ h => h) (Or.inl ⟨by rfl, ?_⟩) (fun _ => rfl) (by assumption) ?_
    rotate_left
    · intro w hSw
      (try dsimp only at hSw)
      go_simp
      all_goals with_reducible rfl
    try simp only [Act.put, List.getElem_toArray, List.getElem_cons_succ, List.getElem_cons_zero, List.setIfInBounds_toArray, List.set_cons_zero, List.set_cons_succ]
    refine takeG [2,3,4,5] (i := 1) (v := ?_) (by kernel_rfl) rfl (by kernel_rfl) (by kernel_rfl) (by kernel_rfl) (by kernel_rfl) (fun _ _ _ h => h) (Or.inl ⟨by rfl, ?_⟩) (fun _ => rfl) (by assumption) ?_
    rotate_left
    · intro w hSw
      (try dsimp only at hSw)
      go_simp
      all_goals with_reducible rfl
    try simp only [Act.put, List.getElem_toArray, List.getElem_cons_succ, List.getElem_cons_zero, List.setIfInBounds_toArray, List.set_cons_zero, List.set_cons_succ]
    refine takeG [3,4,5] (i := 2) (v := ?_) (by kernel_rfl) rfl (by kernel_rfl) (by kernel_rfl) (by kernel_rfl) (by kernel_rfl) (fun _ _ _ h => h) (Or.inl ⟨by rfl, ?_⟩) (fun _ => rfl) (by assumption) ?_
    rotate_left
    · intro w hSw
      (try dsimp only at hSw)
      go_simp
      all_goals with_reducible rfl
    try simp only [Act.put, List.getElem_toArray, List.getElem_cons_succ, List.getElem_cons_zero, List.setIfInBounds_toArray, List.set_cons_zero, List.set_cons_succ]
    refine takeG [4,5] (i := 3) (v := ?_) (by kernel_rfl) rfl (by kernel_rfl) (by kernel_rfl) (by kernel_rfl) (by kernel_rfl) (fun _ _ _ h => h) (Or.inl ⟨by rfl, ?_⟩) (fun _ => rfl) (by assumption) ?_
    rotate_left
    · intro w hSw
      (try dsimp only at hSw)
      go_simp
      all_goals with_reducible rfl
    try simp only [Act.put, List.getElem_toArray, List.getElem_cons_succ, List.getElem_cons_zero, List.setIfInBounds_toArray, List.set_cons_zero, List.set_cons_succ]
    refine takeG [5] (i := 4) (v := ?_) (by kernel_rfl) rfl (by kernel_rfl) (by kernel_rfl) (by kernel_rfl) (by kernel_rfl) (fun _ _ _ h => h) (Or.inl ⟨by rfl, ?_⟩) (fun _ => rfl) (by assumption) ?_
    rotate_left
    · intro w hSw
      (try dsimp only at hSw)
      go_simp
      all_goals with_reducible rfl
    try simp only [Act.put, List.getElem_toArray, List.getElem_cons_succ, List.getElem_cons_zero, List.setIfInBounds_toArray, List.set_cons_zero, List.set_cons_succ]
    refine heldG.one (i := 5) (by kernel_rfl) rfl (fun K hK => ?_)
    refine qite_yes (by rfl) ?_
    gi_wp2_with fail
    refine hK.out _ _ (.inr (by decide)) ?_
    clear hK K
    refine heldG.done (by kernel_rfl) ?_ _
    gi_upto_region 5 with fail
    have b4 := HH.out.2.2.1.kept (grownBy_setCell X.drew ⟨b, o, none⟩ (.int .i64 (y - q))) (fun e => by have e2 : w.heap.size = b := Option.some.inj e; have := HBW.out; omega)
    have q4 := HH.out.2.2.2.1.kept (grownBy_setCell X.drew ⟨b, o, none⟩ (.int .i64 (y - q))) (fun e => by have e2 : w.heap.size + 1 = b := Option.some.inj e; have := HBW.out; omega)
    have t4 := HH.out.2.2.2.2.1.setCell (p := ⟨b, o, none⟩) (.inl (by rcases HH.out.2.2.2.2.2 with rfl | e; exact .inl rfl; exact .inr e)) (.int .i64 (y - q))
    have k4 : KpU W1.heap.size X (X.drew.setCell ⟨b, o, none⟩ (.int .i64 (y - q))) := (KpU.of (Below.drew (Below.refl X.heap.size X))).trans (KpU.set (p := ⟨b, o, none⟩) (by show b < _; have := HBW.out; have := HS.out; omega) _)
    have o4 := HH.out.1
    have p4 := HH.out.2.1
    clear HH hc hf f3 c3
    have e4 : X.drew.setCell ⟨b, o, none⟩ (.int .i64 (y - q)) = (X.setCell ⟨b, o, none⟩ (.int .i64 (y - q))).drew := rfl
    rw [e4] at b4 q4 t4 k4 o4 p4
    clear e4
    generalize (X.setCell ⟨b, o, none⟩ (.int .i64 (y - q))).drew = W4 at *
    have c3 := b4.cell
    have f3 := b4.frozen
    have HH := Lib.hid (And.intro o4 (And.intro p4 (And.intro b4 (And.intro q4 (And.intro t4 k4)))))
    clear o4 p4 b4 q4 t4 k4
    have fin : Hid (∀ v, KpU W1.heap.size X (W4.setCell ⟨w.heap.size, 0, none⟩ v) ∧ OwnV (W4.setCell ⟨w.heap.size, 0, none⟩ v) base 3 (.slice a p.start.length kc) (i64V (lvL p z (j + 1))) ∧ PtAt (W4.setCell ⟨w.heap.size, 0, none⟩ v) g (lvQ p z (j + 1)) a kc ∧ Boxed (W4.setCell ⟨w.heap.size, 0, none⟩ v) w.heap.size 3 v ∧ Boxed (W4.setCell ⟨w.heap.size, 0, none⟩ v) (w.heap.size + 1) 47 (.pointer (some ⟨g, 0, none⟩)) ∧ But (PlO g (.slice a p.start.length kc)) w (W4.setCell ⟨w.heap.size, 0, none⟩ v)) := fun v => by
      refine ⟨HH.out.2.2.2.2.2.trans (KpU.set (p := ⟨w.heap.size, 0, none⟩) (by show w.heap.size < _; have := HS.out; omega) _), World.ownsRow.kept (row := some w.heap.size) HH.out.1 (grownBy_setCell' W4 w.heap.size v) ?_, (Below.heap_setCell W4 ⟨w.heap.size, 0, none⟩ _ _ (by show g ≠ w.heap.size; have := HG.out; omega)).trans HH.out.2.1, HH.out.2.2.1.set v, HH.out.2.2.2.1.other (by omega) v, HH.out.2.2.2.2.1.setCell (.inr (Nat.le_refl _)) v⟩
      cases hv : (Value.slice a p.start.length kc).ownBlock with
      | none => exact .inl rfl
      | some b => exact .inr (fun e => by injection e with e; rw [HL.out] at hv; have := hown.out b hv; omega)
    have HM9 := Lib.hid HM1.out
    by_cases h0 : m - q = 0
    · have hb0 : ((m - q) == 0) = true := by simpa using h0
      have SS := Lib.hid (ST.out h0)
      clear ST h0 HM1
      gi_wp2
      obtain ⟨f1, f2, f3, f4, f5, f6⟩ := fin.out (.int .i64 (m - q))
      rw [SS.out.1] at f2
      have e9 : lvQ p z (j + 1) = ⟨p.ready - (back p.start z).2, (back p.start z).1, p.wait, p.util⟩ := by
        have e1 := SS.out.1
        have e2 := SS.out.2
        unfold lvQ at e2 ⊢
        simp only at e2
        rw [e1, e2]
      rw [e9] at f3
      exact ⟨f1, rfl, f2, f3, f6⟩
    · have hb0 : ((m - q) == 0) = false := by simpa using h0
      clear ST h0 HM1
      gi_wp2
      obtain ⟨f1, f2, f3, f4, f5, f6⟩ := fin.out (.int .i64 (m - q))
      exact ⟨f1, f2, f3, by rw [HM9.out]; exact f4, f5, f6⟩
  case done =>
    rintro X ⟨ho, hp, hb, hq, hbt⟩ hD
    have h0 : lvm p z (len + 1) = 0 := by unfold lvm; rw [if_pos (by rw [HL.out]; omega)]
    obtain ⟨e1, e2⟩ := lv_stop HO.out (by rw [HL.out]; omega) h0
    have e9 : lvQ p z (len + 1) = ⟨p.ready - (back p.start z).2, (back p.start z).1, p.wait, p.util⟩ := by
      unfold lvQ at e2 ⊢
      simp only at e2
      rw [e1, e2]
    rw [e1] at ho
    rw [e9] at hp
    have HH := Lib.hid (And.intro ho (And.intro hp hbt))
    have HD := Lib.hid hD
    clear ho hp hb hq hbt h0 e1 e2 e9 hD
    gi_wp2
    refine ⟨by simp, .inl ⟨_, _, rfl, run_takeDeferred HD.out, ?_⟩⟩
    refine ⟨.tuple #[], ?_, ⟨_, rfl⟩, World.ownsRow.kept (row := some W1.heap.size) HH.out.1 (grownBy_putObj' X W1.heap.size _) ?_, HH.out.2.1.grown (row := some W1.heap.size) (grownBy_putObj' X W1.heap.size _) (fun e => by injection e with e; have := HG.out; have := HS.out; omega), but_putN HH.out.2.2 (by have := HS.out; omega) _⟩
    · simp [results, Try.results24, go_sem]
    · cases hv : (Value.slice a p.start.length kc).ownBlock with
      | none => exact .inl rfl
      | some b => exact .inr (fun e => by injection e with e; rw [HL.out] at hv; have := hown.out b hv; have := HS.out; omega)
  case stop =>
    rintro c X ⟨rfl, ho, hp, hbt⟩ hD
    have HH := Lib.hid (And.intro ho (And.intro hp hbt))
    have HD := Lib.hid hD
    clear ho hp hbt hD
    gi_wp2
    refine ⟨by simp, .inl ⟨_, _, rfl, run_takeDeferred HD.out, ?_⟩⟩
    refine ⟨.tuple #[], ?_, ⟨_, rfl⟩, World.ownsRow.kept (row := some W1.heap.size) HH.out.1 (grownBy_putObj' X W1.heap.size _) ?_, HH.out.2.1.grown (row := some W1.heap.size) (grownBy_putObj' X W1.heap.size _) (fun e => by injection e with e; have := HG.out; have := HS.out; omega), but_putN HH.out.2.2 (by have := HS.out; omega) _⟩
    · simp [results, Try.results24, go_sem]
    · cases hv : (Value.slice a p.start.length kc).ownBlock with
      | none => exact .inl rfl
      | some b => exact .inr (fun e => by injection e with e; rw [HL.out] at hv; have := hown.out b hv; have := HS.out; omega)
theorem pleave_any {w : World} {g base kc : Nat} {p : Pt} {a : Option Addr} (hn : NOk p) (hp : PtAt w g p a kc) (ho : OwnV w base 3 (.slice a p.start.length kc) (i64V p.start)) (hne : ∀ b o, a = some ⟨b, o, none⟩ → b ≠ g) (z : Int) (hz : 0 ≤ z ∧ z ≤ all p) :
    Calls Try.prog 24 #[.pointer (some ⟨g, 0, none⟩), .int .i64 z] w fun r w' => (∃ v, r = .returned v) ∧ OwnV w' base 3 (.slice a p.start.length kc) (i64V (back p.start z).1) ∧ PtAt w' g ⟨p.ready - (back p.start z).2, (back p.start z).1, p.wait, p.util⟩ a kc ∧ But (PlO g (.slice a p.start.length kc)) w w' := callsIn_wide.1 (pleave_in hn hp ho hne z hz)
end Go.Proofs.Ytcfehddnccdejaa
