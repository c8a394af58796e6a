/- The program's All: over the places, from behind. -/
import Derived.Test.YtcfehddnccdejaaQlL
namespace Go.Proofs.Ytcfehddnccdejaa
set_option linter.unusedSimpArgs false
set_option linter.unusedVariables false
open Go.RowKit Go.Shelf
open Evn Plt
attribute [local go_sem] Oper.semAt_some

/-- What stands at a place, from behind; at the first ones. -/
def pv (p : Pt) (k : Nat) : Int := if k < p.start.length then p.start.getD (p.start.length - 1 - k) 0 else p.ready
def acc (p : Pt) (k : Nat) : Int := sm (p.start.drop (p.start.length - k)) + if p.start.length < k then p.ready else 0
theorem acc_zero (p : Pt) : acc p 0 = 0 := by unfold acc; rw [Nat.sub_zero, List.drop_length, if_neg (by omega)]; rfl
theorem acc_succ {p : Pt} {k : Nat} (hk : k ≤ p.start.length) : acc p (k + 1) = acc p k + pv p k := by
  unfold acc pv
  rw [if_neg (show ¬ p.start.length < k by omega)]
  by_cases h : k < p.start.length
  · rw [if_pos h, if_neg (by omega), drop_cons (l := p.start) (j := p.start.length - (k + 1)) (by omega), show p.start.length - (k + 1) + 1 = p.start.length - k by omega, show p.start.length - (k + 1) = p.start.length - 1 - k by omega]
    simp only [sm]; omega
  · have : k = p.start.length := by omega
    subst this
    rw [if_neg h, if_pos (by omega), Nat.sub_self, show p.start.length - (p.start.length + 1) = 0 by omega]
    omega
theorem acc_all (p : Pt) : acc p (p.start.length + 1) = all p := by
  unfold acc all
  rw [show p.start.length - (p.start.length + 1) = 0 by omega, List.drop_zero, if_pos (by omega)]; omega
theorem pv_ok {p : Pt} (h : NOk p) (k : Nat) : 0 ≤ pv p k ∧ pv p k ≤ 1000 := by
  unfold pv
  split
  · exact getD_ok h.nums (by omega)
  · exact ⟨h.r1, h.r2⟩
theorem acc_ok {p : Pt} (h : NOk p) (k : Nat) : 0 ≤ acc p k ∧ acc p k ≤ 9000 := by
  have h1 := sm_le (l := p.start.drop (p.start.length - k)) (fun x hx => h.nums x (List.mem_of_mem_drop hx))
  have h2 := h.len
  have h3 : (p.start.drop (p.start.length - k)).length ≤ 8 := by rw [List.length_drop]; omega
  have r1 := h.r1
  have r2 := h.r2
  unfold acc
  split <;> omega
/-- The place, and what stands there. -/
theorem plc_at {X : World} {p : Pt} {a : Option Addr} {kc g : Nat} (h : SRw X a kc p.start) (hp : PtAt X g p a kc) {k : Nat} (hk : k ≤ p.start.length) : ∃ b o, plc a g p.start.length k = ⟨b, o, none⟩ ∧ X.cell? ⟨b, o, none⟩ = some (.int .i64 (pv p k)) := by
  unfold plc pv
  by_cases hl : k < p.start.length
  · obtain ⟨b, o, rfl, _, hc⟩ := h.cell (j := p.start.length - 1 - k) (by omega)
    rw [if_pos hl, if_pos hl]
    exact ⟨_, _, rfl, hc⟩
  · rw [if_neg hl, if_neg hl]
    exact ⟨_, _, rfl, (PtAt.c hp).1⟩
theorem SRw.rdb {X : World} {a : Option Addr} {kc : Nat} {l : List Int} (h : SRw X a kc l) : Rdb X a l.length := fun hp => by
  obtain ⟨b, o, e, _, _⟩ := h.cell hp
  refine ⟨b, o, e, fun j hj => ?_⟩
  obtain ⟨b', o', e', _, hc⟩ := h.cell hj
  rw [e] at e'
  injection e' with e'
  injection e' with e1 e2
  subst e1 e2
  exact ⟨_, hc⟩
theorem PtAt.grown {X Y : World} {row : Option Nat} {g : Nat} {p : Pt} {a : Option Addr} {k : Nat} (h : PtAt X g p a k) (hg : X.grownBy Y row) (hne : some g ≠ row) : PtAt Y g p a k := (hg.block g (lt_of_heap h) hne).trans h
set_option linter.unusedSimpArgs false in
set_option maxRecDepth 100000 in
set_option maxHeartbeats 4000000 in
theorem pall_in {w : World} {p : Pt} {a : Option Addr} {k : Nat} (hn : NOk p) (h : SRw w a k p.start) :
    CallsIn Fence.wide 9 Try.prog 15 #[ptV p a k] w fun r w' => r = .returned (.int .i64 (all p)) ∧ Below w.heap.size w w' := by
  obtain ⟨len, hlen⟩ : ∃ len, p.start.length = len := ⟨_, rfl⟩
  have hl8 : len ≤ 8 := by rw [← hlen]; exact hn.len
  obtain ⟨W0, hW0⟩ : ∃ W0, W0 = (w.alloc (.cells #[.int .i64 p.ready, .slice a len k, .int .i64 p.wait, .int .i64 p.util] 26)).alloc (.cells #[.int .i64 0] 3) := ⟨_, rfl⟩
  have hB0 : Below w.heap.size w W0 := by rw [hW0]; exact bel1 (bel1 (Below.refl _ _) _) _
  have hs0 : W0.heap.size = w.heap.size + 2 := by rw [hW0]; simp
  have hP0 : PtAt W0 w.heap.size p a k := by
    rw [hW0]
    refine (Below.heap_alloc _ _ _ (by simp)).trans ?_
    rw [hlen]
    exact heap_alloc_new _ _
  have hb0 : Boxed W0 (w.heap.size + 1) 3 (.int .i64 0) := by
    rw [hW0]
    have := Boxed.new (w.alloc (.cells #[.int .i64 p.ready, .slice a len k, .int .i64 p.wait, .int .i64 p.util] 26)) 3 (.int .i64 0)
    simpa using this
  obtain ⟨W1, hW1⟩ : ∃ W1, W1 = W0.alloc (.cells #[.pointer (some ⟨w.heap.size, 0, none⟩)] 47) := ⟨_, rfl⟩
  have HI : Hid (Below w.heap.size w W1 ∧ PtAt W1 w.heap.size p a k ∧ Boxed W1 (w.heap.size + 1) 3 (.int .i64 (acc p 0)) ∧ Boxed W1 (w.heap.size + 2) 47 (.pointer (some ⟨w.heap.size, 0, none⟩))) := by
    rw [acc_zero, hW1]
    refine ⟨bel1 hB0 _, hP0.on (bel1 (Below.refl _ _) _), hb0.alloc _, ?_⟩
    have := Boxed.new W0 47 (.pointer (some ⟨w.heap.size, 0, none⟩))
    rw [hs0] at this
    exact this
  have hs1 : W1.heap.size = w.heap.size + 3 := by rw [hW1]; simp; omega
  have HR := Lib.hid h
  have HO := Lib.hid hn
  have HL := Lib.hid hlen
  have HS := Lib.hid hs1
  have HS0 := Lib.hid hs0
  have HW0 := Lib.hid hW0
  have HW1 := Lib.hid hW1
  clear hW0 hW1 hB0 hs0 hP0 hb0 hs1 h hn
  refine callsIn_of_wp_marks Try.func15 rfl trivial ?_ rfl
  simp only [Try.ntmps15, List.size_toArray, List.length_cons, List.length_nil, Nat.reduceAdd, Nat.reduceSub, Array.replicate_succ, Array.replicate_zero, List.push_toArray, List.append_toArray, List.nil_append, List.cons_append]
  unfold ptV
  rw [hlen]
  clear hlen
  gi_upto_region 2 with fail
  rw [← HW0.out]
  gi_wp2_with fail
  refine ⟨trivial, (callsIn_wide.2 (callsIn_wide.1 (qfrom_in _ _))).mono ?_⟩
  rintro e w' ⟨rfl, rfl⟩
  gi_wp2_with fail
  rw [← HW1.out, HS0.out]
  refine range_N rfl (by omega) (gf := 38) (lb := #[.pointer (some ⟨w.heap.size + 2, 0, none⟩)]) rfl trivial (enters_of Try.func38 (by kernel_rfl) rfl) (TellsN.wide (qfrom_tells (w.heap.size + 2) w.heap.size a len k hl8 W1)) (fun _ _ => rfl)
    (fun j X => Below w.heap.size w X ∧ PtAt X w.heap.size p a k ∧ Boxed X (w.heap.size + 1) 3 (.int .i64 (acc p j)) ∧ Boxed X (w.heap.size + 2) 47 (.pointer (some ⟨w.heap.size, 0, none⟩)))
    (fun c X => False)
    ?hI (fun _ _ _ _ h _ _ => h) ?hU HI.out (fun j _ => { tmps := #[.agg #[.int .i64 p.ready, .slice a len k, .int .i64 p.wait, .int .i64 p.util], .pointer (some ⟨w.heap.size, 0, none⟩), .int .i64 0, .pointer (some ⟨w.heap.size + 1, 0, none⟩), .pointer (some (plc a w.heap.size len j)), .func (.func 38) #[] #[.pointer (some ⟨w.heap.size + 2, 0, none⟩)], .pointer (some (plc a w.heap.size len j)), undef, undef, undef, undef, undef, undef], defers := [] }) ?assign ?body ?done ?stop
  case hI =>
    intro s X Y row h hg hr
    have hne : ∀ j, j < w.heap.size + 3 → some j ≠ row := fun j hj e => by have := (hr j e.symm).1; have := HS.out; omega
    exact ⟨h.1.trans (grown_below hg h.1.size (fun r e => by have := (hr r e).1; have := HS.out; omega)), h.2.1.grown hg (hne _ (by omega)), h.2.2.1.kept hg (hne _ (by omega)), h.2.2.2.kept hg (hne _ (by omega))⟩
  case hU =>
    intro j X h
    have := HR.out.on h.1
    have e := (PtAt.c h.2.1).2.1
    have r := this.rdb
    rw [HL.out] at e r
    exact ⟨h.2.2.2, e, r⟩
  case assign =>
    intro l2 j x X K hI hk hK
    gi_wp2
    exact hK
  case body =>
    rintro l2 j x X ⟨hB, hP, hb, hq⟩ hj hsz
    have hbd := Below.drew (Below.refl X.heap.size X)
    obtain ⟨b, o, hp, hc⟩ := plc_at (HR.out.on hB) hP (k := j) (by rw [HL.out]; omega)
    have hacc := acc_succ (p := p) (k := j) (by rw [HL.out]; omega)
    have ha := acc_ok HO.out j
    have hv := pv_ok HO.out j
    rw [HL.out] at hp
    rw [hp]
    have c3 := (hb.kept (below_grown hbd) (by simp)).cell
    have f3 := (hb.kept (below_grown hbd) (by simp)).frozen
    have c4 := (hbd.cell (p := ⟨b, o, none⟩) (block_lt_of_cell hc)).trans hc
    have HH := Lib.hid (And.intro hB (And.intro hP (And.intro hb hq)))
    have HA := Lib.hid hacc
    generalize pv p j = v at *
    generalize acc p j = s at *
    have hw : IntKind.i64.wrap (s + v) = s + v := by rw [IntKind.wrap_i64]; omega
    clear hB hP hb hq hp hc hacc ha hv hbd
    gi_wp2_with fail
    refine region_tailG (S := fun Y => Y = X.drew) [5] (by kernel_rfl) rfl (fun hHeld => ?_)
    refine takeG [4,5] (i := 0) (v := ?_) (by kernel_rfl) rfl (by kernel_rfl) (by kernel_rfl) (by kernel_rfl) (by kernel_rfl) (fun _ _ _ h => h) (Or.inl ⟨by rfl, ?_⟩) (fun _ => rfl) (by assumption) ?_
    rotate_left
    · intro w hSw
      (try dsimp only at hSw)
      go_simp
      all_goals with_reducible rfl
    try simp only [Act.put, List.getElem_toArray, List.getElem_cons_succ, List.getElem_cons_zero, List.setIfInBounds_toArray, List.set_cons_zero, List.set_cons_succ]
    refine takeG [2,3,4,5] (i := 1) (v := ?_) (by kernel_rfl) rfl (by kernel_rfl) (by kernel_rfl) (by kernel_rfl) (by kernel_rfl) (fun _ _ _ h => h) (Or.inl ⟨by rfl, ?_⟩) (fun _ => rfl) (by assumption) ?_
    rotate_left
    · intro w hSw
      (try dsimp only at hSw)
      go_simp
      all_goals with_reducible rfl
    try simp only [Act.put, List.getElem_toArray, List.getElem_cons_succ, List.getElem_cons_zero, List.setIfInBounds_toArray, List.set_cons_zero, List.set_cons_succ]
    refine takeG [3,4,5] (i := 2) (v := ?_) (by kernel_rfl) rfl (by kernel_rfl) (by kernel_rfl) (by kernel_rfl) (by kernel_rfl) (fun _ _ _ h => h) (Or.inl ⟨by rfl, ?_⟩) (fun _ => rfl) (by assumption) ?_
    rotate_left
    · intro w hSw
      (try dsimp only at hSw)
      go_simp
      all_goals with_reducible rfl
    try simp only [Act.put, List.getElem_toArray, List.getElem_cons_succ, List.getElem_cons_zero, List.setIfInBounds_toArray, List.set_cons_zero, List.set_cons_succ]
    refine takeG [4,5] (i := 3) (v := ?_) (by kernel_rfl) rfl (by kernel_rfl) (by kernel_rfl) (by kernel_rfl) (by kernel_rfl) (fun _ _ _ h => h) (Or.inl ⟨by rfl, ?_⟩) (fun _ => rfl) (by assumption) ?_
    rotate_left
    · intro w hSw
      (try dsimp only at hSw)
      go_simp
      all_goals with_reducible rfl
    try simp only [Act.put, List.getElem_toArray, List.getElem_cons_succ, List.getElem_cons_zero, List.setIfInBounds_toArray, List.set_cons_zero, List.set_cons_succ]
    refine takeG [5] (i := 4) (v := ?_) (by kernel_rfl) rfl (by kernel_rfl) (by kernel_rfl) (by kernel_rfl) (by kernel_rfl) (fun _ _ _ h => h) (Or.inl ⟨by rfl, ?_⟩) (fun _ => rfl) (by assumption) ?_
    rotate_left
    · intro w hSw
      (try dsimp only at hSw)
      go_simp
      all_goals with_reducible rfl
    try simp only [Act.put, List.getElem_toArray, List.getElem_cons_succ, List.getElem_cons_zero, List.setIfInBounds_toArray, List.set_cons_zero, List.set_cons_succ]
    refine heldG.one (i := 5) (by kernel_rfl) rfl (fun K hK => ?_)
    refine qite_yes (by rfl) ?_
    gi_wp2_with fail
    refine hK.out _ _ (.inr (by decide)) ?_
    clear hK K
    refine heldG.done (by kernel_rfl) ?_ _
    gi_wp2
    have hbd := Below.drew (Below.refl X.heap.size X)
    have hB := HH.out.1
    have hsx := hB.size
    refine ⟨(KpU.of hbd).trans (KpU.set (p := ⟨w.heap.size + 1, 0, none⟩) (by show w.heap.size + 1 < _; have := HS.out; omega) _), (bel2 hB hbd).setCell (p := ⟨w.heap.size + 1, 0, none⟩) (by show w.heap.size ≤ w.heap.size + 1; omega) _, (Below.heap_setCell X.drew ⟨w.heap.size + 1, 0, none⟩ _ _ (by show w.heap.size ≠ w.heap.size + 1; omega)).trans (HH.out.2.1.on hbd), ?_, ?_⟩
    · rw [HA.out]; exact (HH.out.2.2.1.kept (below_grown hbd) (by simp)).set _
    · exact (HH.out.2.2.2.kept (below_grown hbd) (by simp)).other (by omega) _
  case done =>
    rintro X ⟨hB, hP, hb, hq⟩ hD
    have c3 := hb.cell
    have HA : Hid (acc p (len + 1) = all p) := by show _ = _; rw [← HL.out]; exact acc_all p
    rw [HA.out] at c3
    have HD := Lib.hid hD
    have HBX := Lib.hid hB
    clear hB hP hb hq hD
    gi_wp2
    refine ⟨by simp, .inl ⟨_, _, rfl, run_takeDeferred HD.out, ?_⟩⟩
    refine ⟨.int .i64 (all p), ?_, rfl, HBX.out.trans (belowK_b (w := w) (Nat.le_refl _) X _ _ _ (by have := HS.out; omega) HD.out rfl rfl)⟩
    simp [results, Try.results15, go_sem]
  case stop => exact fun c X h => False.elim h
theorem pall_any {w : World} {p : Pt} {a : Option Addr} {k : Nat} (hn : NOk p) (h : SRw w a k p.start) :
    Calls Try.prog 15 #[ptV p a k] w fun r w' => r = .returned (.int .i64 (all p)) ∧ Below w.heap.size w w' := callsIn_wide.1 (pall_in hn h)
end Go.Proofs.Ytcfehddnccdejaa
