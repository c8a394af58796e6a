/- The program's log: steps that ask the disk alone: those of lay and of mend; steps in turn over any state. The program's log: a segment is laid: its deferred call, its steps, the whole. The program's log: a segment is laid. -/
import Derived.Test.YtechgmohdabkpaaGreatDoorCkf
import Derived.Deep.RegionHeld3
namespace Go.Proofs.YtechgmohdabkpaaGreatDoor
section
set_option linter.unusedSimpArgs false
set_option linter.unusedVariables false
open Go.RowKit Go.Sort Go.Maps Go.Shelf
open Crc Frm
open Sgn
attribute [local go_sem] Oper.semAt_some

/-- Steps in turn, up to the first error. -/
def turnS {σ : Type} : List (σ → Int × σ) → σ → Int × σ
  | [], s => (0, s)
  | f :: l, s => if (f s).1 ≠ 0 then f s else turnS l (f s).2
theorem lturnS_any {σ : Type} (ss : List (σ → Int × σ)) (n : Nat) (hn : ss.length = n) (fs : Nat → FuncId) (ps cs : Nat → Array Value) (g : Nat) (w : World) (K : σ → World → Prop) (s0 : σ) (hn1 : n ≤ 1000)
    (hcell : ∀ k s w', k < n → K s w' → w'.cell? ⟨g, k, none⟩ = some (.func (.func (fs k)) (ps k) (cs k)))
    (hc : ∀ k x, k < n → (callFunc (fs k) (ps k ++ cs k)).run Tryz.prog x = .ok (.enter (fs k) (ps k ++ cs k)) x)
    (hcall : ∀ k f s w', ss[k]? = some f → K s w' → Calls Tryz.prog (fs k) (ps k ++ cs k) w' fun e w'' => e = .returned (.int .i64 (f s).1) ∧ K (f s).2 w'')
    (h0 : K s0 w) :
    Calls Tryz.prog 32 #[.slice (some ⟨g, 0, none⟩) n n] w fun e w' => e = .returned (.int .i64 (turnS ss s0).1) ∧ K (turnS ss s0).2 w' := by
  refine (lturn_any n fs ps cs g w (fun k w' => ∃ s, K s w' ∧ turnS (ss.drop k) s = turnS ss s0) (fun x w' => x = (turnS ss s0).1 ∧ K (turnS ss s0).2 w') hn1 ?_ hc ?_ ?_ ⟨s0, h0, rfl⟩).mono ?_
  · rintro k w' hk ⟨s, hs, _⟩
    exact hcell k s w' hk hs
  · rintro k w' hk ⟨s, hs, ht⟩
    have hk' : k < ss.length := by omega
    have hd : ss.drop k = ss[k] :: ss.drop (k + 1) := List.drop_eq_getElem_cons hk'
    rw [hd] at ht
    refine (hcall k ss[k] s w' (List.getElem?_eq_getElem hk') hs).mono ?_
    rintro e w'' ⟨rfl, hK⟩
    refine ⟨_, rfl, fun hz => ⟨_, hK, ?_⟩, fun hz => ?_⟩
    · rw [← ht]
      exact (if_neg (by simp [hz])).symm
    · have e : turnS (ss[k] :: ss.drop (k + 1)) s = ss[k] s := if_pos hz
      rw [← ht, e]
      exact ⟨rfl, hK⟩
  · rintro w' ⟨s, hs, ht⟩
    rw [List.drop_of_length_le (by omega)] at ht
    rw [← ht]
    exact ⟨rfl, hs⟩
  · rintro e w' ⟨x, rfl, rfl, hK⟩
    exact ⟨rfl, hK⟩
section
variable {w0 w : World} {dp lp bl : Nat} {t : St} {D : Nat → Prop}
set_option linter.unusedSimpArgs false in
set_option maxRecDepth 100000 in
set_option maxHeartbeats 1600000 in
theorem lay4_any (hd : DK w0 w dp t D) (c0 : w.cell? ⟨lp, 0, none⟩ = some (.pointer (some ⟨dp, 0, none⟩))) (hlp : ¬ D lp) (hl : w.cell? ⟨bl, 0, none⟩ = some (.pointer (some ⟨lp, 0, none⟩))) (hDl : ¬ D bl) (bs : Nat) (s : List UInt8) (hs : w.cell? ⟨bs, 0, none⟩ = some (.string ⟨s.toArray⟩)) (hDs : ¬ D bs) (hsh : shortS s) :
    Calls Tryz.prog 148 #[.pointer (some ⟨bl, 0, none⟩), .pointer (some ⟨bs, 0, none⟩)] w fun e w' => e = .returned (.int .i64 (t.sync s).1) ∧ Mv w0 w dp D (t.sync s).2 w' := by
  have hbl : bl < w.heap.size := block_lt_of_cell hl
  have hlt : lp < w.heap.size := block_lt_of_cell c0
  have hbs : bs < w.heap.size := block_lt_of_cell hs
  obtain ⟨r, hr9⟩ : ∃ r, r = t.sync s := ⟨_, rfl⟩
  have DL := (hd.on (Below.drew (Below.refl w.heap.size w))).sync ⟨s.toArray⟩ hsh
  change Calls _ _ _ _ (fun e w' => e = .returned (.int .i64 (t.sync s).1) ∧ Mv w0 w.drew dp D (t.sync s).2 w') at DL
  rw [← hr9] at DL ⊢
  have DL := Lib.hid DL
  have HD := Lib.hid (And.intro hd (And.intro hlp hDl))
  clear hd hr9 hlp hDl
  go_enter Tryz.func148, Tryz.ntmps148
  go_wp2_with fail
  refine wp_region_held_drew (S := fun x => x.cell? ⟨bl, 0, none⟩ = some (.pointer (some ⟨lp, 0, none⟩)) ∧ x.cell? ⟨lp, 0, none⟩ = some (.pointer (some ⟨dp, 0, none⟩)) ∧ x.cell? ⟨bs, 0, none⟩ = some (.string ⟨s.toArray⟩)) (by kernel_rfl) ⟨hl, c0, hs⟩ (fun hHeld => ?_)
  refine wpAnyH_take (i := 0) (v := ?_) rfl (by kernel_rfl) (by kernel_rfl) (by kernel_rfl) (fun _ _ _ h => h) (Or.inl ⟨by rfl, ?_⟩) (by assumption) ?_
  rotate_left
  · intro w hSw
    (try dsimp only at hSw)
    go_simp
    all_goals with_reducible rfl
  try simp only [Act.put, List.getElem_toArray, List.getElem_cons_succ, List.getElem_cons_zero, List.setIfInBounds_toArray, List.set_cons_zero, List.set_cons_succ]
  refine wpAnyH_take (i := 1) (v := ?_) rfl (by kernel_rfl) (by kernel_rfl) (by kernel_rfl) (fun _ _ _ h => h) (Or.inl ⟨by rfl, ?_⟩) (by assumption) ?_
  rotate_left
  · intro w hSw
    (try dsimp only at hSw)
    go_simp
    all_goals with_reducible rfl
  try simp only [Act.put, List.getElem_toArray, List.getElem_cons_succ, List.getElem_cons_zero, List.setIfInBounds_toArray, List.set_cons_zero, List.set_cons_succ]
  refine wpAnyH_take (i := 2) (v := ?_) rfl (by kernel_rfl) (by kernel_rfl) (by kernel_rfl) (fun _ _ _ h => h) (Or.inl ⟨by rfl, ?_⟩) (by assumption) ?_
  rotate_left
  · intro w hSw
    (try dsimp only at hSw)
    go_simp
    all_goals with_reducible rfl
  try simp only [Act.put, List.getElem_toArray, List.getElem_cons_succ, List.getElem_cons_zero, List.setIfInBounds_toArray, List.set_cons_zero, List.set_cons_succ]
  refine wpAnyH_take (i := 3) (v := ?_) rfl (by kernel_rfl) (by kernel_rfl) (by kernel_rfl) (fun _ _ _ h => h) (Or.inl ⟨by rfl, ?_⟩) (by assumption) ?_
  rotate_left
  · intro w hSw
    (try dsimp only at hSw)
    go_simp
    all_goals with_reducible rfl
  try simp only [Act.put, List.getElem_toArray, List.getElem_cons_succ, List.getElem_cons_zero, List.setIfInBounds_toArray, List.set_cons_zero, List.set_cons_succ]
  refine wpAnyH_take (i := 4) (v := ?_) rfl (by kernel_rfl) (by kernel_rfl) (by kernel_rfl) (fun _ _ _ h => h) (Or.inl ⟨by rfl, ?_⟩) (by assumption) ?_
  rotate_left
  · intro w hSw
    (try dsimp only at hSw)
    go_simp
    all_goals with_reducible rfl
  try simp only [Act.put, List.getElem_toArray, List.getElem_cons_succ, List.getElem_cons_zero, List.setIfInBounds_toArray, List.set_cons_zero, List.set_cons_succ]
  refine wpAnyH_ready (rs := [5]) (by kernel_rfl) (by simp) ?_
  refine AllReadyH.cons rfl (fun K hK => ?_) AllReadyH.nil
  rw [if_pos (by rfl)]
  go_simp
  go_at_call 60
  refine DL.out.mono ?_
  rintro e w2 ⟨rfl, hm⟩
  have hm2 := Mv.behind (Below.drew (Below.refl w.heap.size w)) hm
  obtain ⟨D2, _, b2, _⟩ := hm
  refine hK.out _ _ ?_ (fun hHeld => ?_)
  · exact ⟨(b2.cell (b := bl) (o := 0) hbl HD.out.2.2).trans hl, (b2.cell (b := lp) (o := 0) hlt HD.out.2.1).trans c0, (b2.cell (b := bs) (o := 0) hbs hDs).trans hs⟩
  clear hK K
  try simp only [Act.put, List.getElem_toArray, List.getElem_cons_succ, List.getElem_cons_zero, List.setIfInBounds_toArray, List.set_cons_zero, List.set_cons_succ]
  refine wpAnyH_take (i := 6) (v := ?_) rfl (by kernel_rfl) (by kernel_rfl) (by kernel_rfl) (fun _ _ _ h => h) (Or.inl ⟨by rfl, ?_⟩) (by assumption) ?_
  rotate_left
  · intro w hSw
    (try dsimp only at hSw)
    go_simp
    all_goals with_reducible rfl
  try simp only [Act.put, List.getElem_toArray, List.getElem_cons_succ, List.getElem_cons_zero, List.setIfInBounds_toArray, List.set_cons_zero, List.set_cons_succ]
  refine wpAnyH_done (by kernel_rfl) ?_ _
  have HM := Lib.hid hm2
  clear hm2 hHeld DL
  go_wp2
  go_ret
  exact ⟨rfl, HM.out⟩
set_option linter.unusedSimpArgs false in
set_option maxRecDepth 100000 in
set_option maxHeartbeats 1600000 in
theorem lay5_any (hd : DK w0 w dp t D) (c0 : w.cell? ⟨lp, 0, none⟩ = some (.pointer (some ⟨dp, 0, none⟩))) (hlp : ¬ D lp) (hl : w.cell? ⟨bl, 0, none⟩ = some (.pointer (some ⟨lp, 0, none⟩))) (hDl : ¬ D bl) (bs : Nat) (l : List Int) (a : Option Addr) (n c : Nat) (hs : w.cell? ⟨bs, 0, none⟩ = some (.slice a n c)) (hDs : ¬ D bs) (hr : Row w w.heap.size a n c 1 (intsC l)) (hn : l.length = n) (hfar : ∀ k o, a = some ⟨k, o, none⟩ → ¬ D k) :
    Calls Tryz.prog 149 #[.pointer (some ⟨bl, 0, none⟩), .pointer (some ⟨bs, 0, none⟩)] w fun e w' => e = .returned (.int .i64 (mSwap t l).1) ∧ Mv w0 w dp D (mSwap t l).2 w' := by
  have hbl : bl < w.heap.size := block_lt_of_cell hl
  have hlt : lp < w.heap.size := block_lt_of_cell c0
  have hbs : bs < w.heap.size := block_lt_of_cell hs
  obtain ⟨r, hr9⟩ : ∃ r, r = mSwap t l := ⟨_, rfl⟩
  have DL := mswap_any (hd.on (Below.drew (Below.refl w.heap.size w))) l a n c (row_drew hr) hn (fun _ => hfar)
  change Calls _ _ _ _ (fun e w' => e = .returned (.int .i64 (mSwap t l).1) ∧ Mv w0 w.drew dp D (mSwap t l).2 w') at DL
  rw [← hr9] at DL ⊢
  have DL := Lib.hid DL
  have HD := Lib.hid (And.intro hd (And.intro hlp hDl))
  clear hd hr9 hlp hDl
  go_enter Tryz.func149, Tryz.ntmps149
  go_wp2_with fail
  refine wp_region_held_drew (S := fun x => x.cell? ⟨bl, 0, none⟩ = some (.pointer (some ⟨lp, 0, none⟩)) ∧ x.cell? ⟨lp, 0, none⟩ = some (.pointer (some ⟨dp, 0, none⟩)) ∧ x.cell? ⟨bs, 0, none⟩ = some (.slice a n c)) (by kernel_rfl) ⟨hl, c0, hs⟩ (fun hHeld => ?_)
  refine wpAnyH_take (i := 0) (v := ?_) rfl (by kernel_rfl) (by kernel_rfl) (by kernel_rfl) (fun _ _ _ h => h) (Or.inl ⟨by rfl, ?_⟩) (by assumption) ?_
  rotate_left
  · intro w hSw
    (try dsimp only at hSw)
    go_simp
    all_goals with_reducible rfl
  try simp only [Act.put, List.getElem_toArray, List.getElem_cons_succ, List.getElem_cons_zero, List.setIfInBounds_toArray, List.set_cons_zero, List.set_cons_succ]
  refine wpAnyH_take (i := 1) (v := ?_) rfl (by kernel_rfl) (by kernel_rfl) (by kernel_rfl) (fun _ _ _ h => h) (Or.inl ⟨by rfl, ?_⟩) (by assumption) ?_
  rotate_left
  · intro w hSw
    (try dsimp only at hSw)
    go_simp
    all_goals with_reducible rfl
  try simp only [Act.put, List.getElem_toArray, List.getElem_cons_succ, List.getElem_cons_zero, List.setIfInBounds_toArray, List.set_cons_zero, List.set_cons_succ]
  refine wpAnyH_take (i := 2) (v := ?_) rfl (by kernel_rfl) (by kernel_rfl) (by kernel_rfl) (fun _ _ _ h => h) (Or.inl ⟨by rfl, ?_⟩) (by assumption) ?_
  rotate_left
  · intro w hSw
    (try dsimp only at hSw)
    go_simp
    all_goals with_reducible rfl
  try simp only [Act.put, List.getElem_toArray, List.getElem_cons_succ, List.getElem_cons_zero, List.setIfInBounds_toArray, List.set_cons_zero, List.set_cons_succ]
  refine wpAnyH_take (i := 3) (v := ?_) rfl (by kernel_rfl) (by kernel_rfl) (by kernel_rfl) (fun _ _ _ h => h) (Or.inl ⟨by rfl, ?_⟩) (by assumption) ?_
  rotate_left
  · intro w hSw
    (try dsimp only at hSw)
    go_simp
    all_goals with_reducible rfl
  try simp only [Act.put, List.getElem_toArray, List.getElem_cons_succ, List.getElem_cons_zero, List.setIfInBounds_toArray, List.set_cons_zero, List.set_cons_succ]
  refine wpAnyH_take (i := 4) (v := ?_) rfl (by kernel_rfl) (by kernel_rfl) (by kernel_rfl) (fun _ _ _ h => h) (Or.inl ⟨by rfl, ?_⟩) (by assumption) ?_
  rotate_left
  · intro w hSw
    (try dsimp only at hSw)
    go_simp
    all_goals with_reducible rfl
  try simp only [Act.put, List.getElem_toArray, List.getElem_cons_succ, List.getElem_cons_zero, List.setIfInBounds_toArray, List.set_cons_zero, List.set_cons_succ]
  refine wpAnyH_ready (rs := [5]) (by kernel_rfl) (by simp) ?_
  refine AllReadyH.cons rfl (fun K hK => ?_) AllReadyH.nil
  rw [if_pos (by rfl)]
  go_simp
  go_at_call 76
  refine DL.out.mono ?_
  rintro e w2 ⟨rfl, hm⟩
  have hm2 := Mv.behind (Below.drew (Below.refl w.heap.size w)) hm
  obtain ⟨D2, _, b2, _⟩ := hm
  refine hK.out _ _ ?_ (fun hHeld => ?_)
  · exact ⟨(b2.cell (b := bl) (o := 0) hbl HD.out.2.2).trans hl, (b2.cell (b := lp) (o := 0) hlt HD.out.2.1).trans c0, (b2.cell (b := bs) (o := 0) hbs hDs).trans hs⟩
  clear hK K
  try simp only [Act.put, List.getElem_toArray, List.getElem_cons_succ, List.getElem_cons_zero, List.setIfInBounds_toArray, List.set_cons_zero, List.set_cons_succ]
  refine wpAnyH_take (i := 6) (v := ?_) rfl (by kernel_rfl) (by kernel_rfl) (by kernel_rfl) (fun _ _ _ h => h) (Or.inl ⟨by rfl, ?_⟩) (by assumption) ?_
  rotate_left
  · intro w hSw
    (try dsimp only at hSw)
    go_simp
    all_goals with_reducible rfl
  try simp only [Act.put, List.getElem_toArray, List.getElem_cons_succ, List.getElem_cons_zero, List.setIfInBounds_toArray, List.set_cons_zero, List.set_cons_succ]
  refine wpAnyH_done (by kernel_rfl) ?_ _
  have HM := Lib.hid hm2
  clear hm2 hHeld DL
  go_wp2
  go_ret
  exact ⟨rfl, HM.out⟩
set_option linter.unusedSimpArgs false in
set_option maxRecDepth 100000 in
set_option maxHeartbeats 1600000 in
theorem mend2_any (hd : DK w0 w dp t D) (c0 : w.cell? ⟨lp, 0, none⟩ = some (.pointer (some ⟨dp, 0, none⟩))) (hlp : ¬ D lp) (hl : w.cell? ⟨bl, 0, none⟩ = some (.pointer (some ⟨lp, 0, none⟩))) (hDl : ¬ D bl) (bs : Nat) (b : List Nat) (a : Option Addr) (n c : Nat) (hs : w.cell? ⟨bs, 0, none⟩ = some (.slice a n c)) (hDs : ¬ D bs) (hr : Sl w w.heap.size a n c b) (hn : n ≤ 100000000) (hfar : ∀ k o, a = some ⟨k, o, none⟩ → ¬ D k) :
    Calls Tryz.prog 151 #[.pointer (some ⟨bl, 0, none⟩), .pointer (some ⟨bs, 0, none⟩)] w fun e w' => e = .returned (.int .i64 (t.write fxL b).1) ∧ Mv w0 w dp D (t.write fxL b).2 w' := by
  have hbl : bl < w.heap.size := block_lt_of_cell hl
  have hlt : lp < w.heap.size := block_lt_of_cell c0
  have hbs : bs < w.heap.size := block_lt_of_cell hs
  obtain ⟨r, hr9⟩ : ∃ r, r = t.write fxL b := ⟨_, rfl⟩
  have DL := (hd.on (Below.drew (Below.refl w.heap.size w))).write ⟨fxL.toArray⟩ (by decide) a n c b hr.drew (by omega) (fun _ => hfar)
  change Calls _ _ _ _ (fun e w' => e = .returned (.int .i64 (t.write fxL b).1) ∧ Mv w0 w.drew dp D (t.write fxL b).2 w') at DL
  rw [← hr9] at DL ⊢
  unfold fxL at DL
  have DL := Lib.hid DL
  have HD := Lib.hid (And.intro hd (And.intro hlp hDl))
  clear hd hr9 hlp hDl
  go_enter Tryz.func151, Tryz.ntmps151
  go_wp2_with fail
  refine wp_region_held_drew (S := fun x => x.cell? ⟨bl, 0, none⟩ = some (.pointer (some ⟨lp, 0, none⟩)) ∧ x.cell? ⟨lp, 0, none⟩ = some (.pointer (some ⟨dp, 0, none⟩)) ∧ x.cell? ⟨bs, 0, none⟩ = some (.slice a n c)) (by kernel_rfl) ⟨hl, c0, hs⟩ (fun hHeld => ?_)
  refine wpAnyH_take (i := 0) (v := ?_) rfl (by kernel_rfl) (by kernel_rfl) (by kernel_rfl) (fun _ _ _ h => h) (Or.inl ⟨by rfl, ?_⟩) (by assumption) ?_
  rotate_left
  · intro w hSw
    (try dsimp only at hSw)
    go_simp
    all_goals with_reducible rfl
  try simp only [Act.put, List.getElem_toArray, List.getElem_cons_succ, List.getElem_cons_zero, List.setIfInBounds_toArray, List.set_cons_zero, List.set_cons_succ]
  refine wpAnyH_take (i := 1) (v := ?_) rfl (by kernel_rfl) (by kernel_rfl) (by kernel_rfl) (fun _ _ _ h => h) (Or.inl ⟨by rfl, ?_⟩) (by assumption) ?_
  rotate_left
  · intro w hSw
    (try dsimp only at hSw)
    go_simp
    all_goals with_reducible rfl
  try simp only [Act.put, List.getElem_toArray, List.getElem_cons_succ, List.getElem_cons_zero, List.setIfInBounds_toArray, List.set_cons_zero, List.set_cons_succ]
  refine wpAnyH_take (i := 2) (v := ?_) rfl (by kernel_rfl) (by kernel_rfl) (by kernel_rfl) (fun _ _ _ h => h) (Or.inl ⟨by rfl, ?_⟩) (by assumption) ?_
  rotate_left
  · intro w hSw
    (try dsimp only at hSw)
    go_simp
    all_goals with_reducible rfl
  try simp only [Act.put, List.getElem_toArray, List.getElem_cons_succ, List.getElem_cons_zero, List.setIfInBounds_toArray, List.set_cons_zero, List.set_cons_succ]
  refine wpAnyH_take (i := 3) (v := ?_) rfl (by kernel_rfl) (by kernel_rfl) (by kernel_rfl) (fun _ _ _ h => h) (Or.inl ⟨by rfl, ?_⟩) (by assumption) ?_
  rotate_left
  · intro w hSw
    (try dsimp only at hSw)
    go_simp
    all_goals with_reducible rfl
  try simp only [Act.put, List.getElem_toArray, List.getElem_cons_succ, List.getElem_cons_zero, List.setIfInBounds_toArray, List.set_cons_zero, List.set_cons_succ]
  refine wpAnyH_take (i := 4) (v := ?_) rfl (by kernel_rfl) (by kernel_rfl) (by kernel_rfl) (fun _ _ _ h => h) (Or.inl ⟨by rfl, ?_⟩) (by assumption) ?_
  rotate_left
  · intro w hSw
    (try dsimp only at hSw)
    go_simp
    all_goals with_reducible rfl
  try simp only [Act.put, List.getElem_toArray, List.getElem_cons_succ, List.getElem_cons_zero, List.setIfInBounds_toArray, List.set_cons_zero, List.set_cons_succ]
  refine wpAnyH_ready (rs := [5]) (by kernel_rfl) (by simp) ?_
  refine AllReadyH.cons rfl (fun K hK => ?_) AllReadyH.nil
  rw [if_pos (by rfl)]
  go_simp
  go_at_call 63
  refine DL.out.mono ?_
  rintro e w2 ⟨rfl, hm⟩
  have hm2 := Mv.behind (Below.drew (Below.refl w.heap.size w)) hm
  obtain ⟨D2, _, b2, _⟩ := hm
  refine hK.out _ _ ?_ (fun hHeld => ?_)
  · exact ⟨(b2.cell (b := bl) (o := 0) hbl HD.out.2.2).trans hl, (b2.cell (b := lp) (o := 0) hlt HD.out.2.1).trans c0, (b2.cell (b := bs) (o := 0) hbs hDs).trans hs⟩
  clear hK K
  try simp only [Act.put, List.getElem_toArray, List.getElem_cons_succ, List.getElem_cons_zero, List.setIfInBounds_toArray, List.set_cons_zero, List.set_cons_succ]
  refine wpAnyH_take (i := 6) (v := ?_) rfl (by kernel_rfl) (by kernel_rfl) (by kernel_rfl) (fun _ _ _ h => h) (Or.inl ⟨by rfl, ?_⟩) (by assumption) ?_
  rotate_left
  · intro w hSw
    (try dsimp only at hSw)
    go_simp
    all_goals with_reducible rfl
  try simp only [Act.put, List.getElem_toArray, List.getElem_cons_succ, List.getElem_cons_zero, List.setIfInBounds_toArray, List.set_cons_zero, List.set_cons_succ]
  refine wpAnyH_done (by kernel_rfl) ?_ _
  have HM := Lib.hid hm2
  clear hm2 hHeld DL
  go_wp2
  go_ret
  exact ⟨rfl, HM.out⟩
theorem head_own (n : Int) (w : World) : Calls Tryz.prog 147 #[.int .i64 n] w fun e w' => ∃ v, e = .returned v ∧ OwnB w' w.heap.size 5 v (hdo n) ∧ Below w.heap.size w w' := by
  by_cases h : 0 ≤ n ∧ n ≤ 1073741824
  · obtain ⟨k, rfl⟩ := Int.eq_ofNat_of_zero_le h.1
    have e : hdo (k : Int) = head k := by unfold hdo; rw [if_pos h, Int.toNat_natCast]
    rw [e]
    exact segHead_yes k (by omega) w
  · have e : hdo n = [] := if_neg h
    rw [e]
    exact (segHead_no n h w).mono fun e w' ⟨h1, h2⟩ => ⟨_, h1, OwnB.nil_ _ _ _, by rw [h2]; exact Below.refl _ _⟩
set_option linter.unusedSimpArgs false in
set_option maxRecDepth 100000 in
set_option maxHeartbeats 1600000 in
theorem lay3_any (hd : DK w0 w dp t D) (c0 : w.cell? ⟨lp, 0, none⟩ = some (.pointer (some ⟨dp, 0, none⟩))) (hlp : ¬ D lp) (hl : w.cell? ⟨bl, 0, none⟩ = some (.pointer (some ⟨lp, 0, none⟩))) (hDl : ¬ D bl) (bs bf : Nat) (s : List UInt8) (first : Int) (hs : w.cell? ⟨bs, 0, none⟩ = some (.string ⟨s.toArray⟩)) (hf : w.cell? ⟨bf, 0, none⟩ = some (.int .i64 first)) (hDs : ¬ D bs) (hDf : ¬ D bf) (hsh : shortS s) :
    Calls Tryz.prog 146 #[.pointer (some ⟨bl, 0, none⟩), .pointer (some ⟨bs, 0, none⟩), .pointer (some ⟨bf, 0, none⟩)] w fun e w' => e = .returned (.int .i64 (t.write s (hdo first)).1) ∧ Mv w0 w dp D (t.write s (hdo first)).2 w' := by
  have hbl : bl < w.heap.size := block_lt_of_cell hl
  have hlt : lp < w.heap.size := block_lt_of_cell c0
  have hbs : bs < w.heap.size := block_lt_of_cell hs
  have hbf : bf < w.heap.size := block_lt_of_cell hf
  obtain ⟨r, hr9⟩ : ∃ r, r = t.write s (hdo first) := ⟨_, rfl⟩
  have hby : ∀ c ∈ hdo first, c < 256 := by
    unfold hdo
    split
    · exact head_byte _
    · simp
  have hln : (hdo first).length ≤ 12 := by
    unfold hdo
    split
    · rw [head_len]; exact Nat.le_refl _
    · simp
  have PT := Lib.hid (head_own first w.drew)
  have HD := Lib.hid (And.intro hd (And.intro hlp (And.intro hDl (And.intro hby (And.intro hr9 hsh)))))
  rw [← hr9]
  clear hd hr9 hlp hDl hby hsh
  go_enter Tryz.func146, Tryz.ntmps146
  go_wp2_with fail
  refine wp_region_held_drew (S := fun x => x.cell? ⟨bl, 0, none⟩ = some (.pointer (some ⟨lp, 0, none⟩)) ∧ x.cell? ⟨lp, 0, none⟩ = some (.pointer (some ⟨dp, 0, none⟩)) ∧ x.cell? ⟨bs, 0, none⟩ = some (.string ⟨s.toArray⟩) ∧ x.cell? ⟨bf, 0, none⟩ = some (.int .i64 first)) (by kernel_rfl) ⟨hl, c0, hs, hf⟩ (fun hHeld => ?_)
  refine wpAnyH_take (i := 0) (v := ?_) rfl (by kernel_rfl) (by kernel_rfl) (by kernel_rfl) (fun _ _ _ h => h) (Or.inl ⟨by rfl, ?_⟩) (by assumption) ?_
  rotate_left
  · intro w hSw
    (try dsimp only at hSw)
    go_simp
    all_goals with_reducible rfl
  try simp only [Act.put, List.getElem_toArray, List.getElem_cons_succ, List.getElem_cons_zero, List.setIfInBounds_toArray, List.set_cons_zero, List.set_cons_succ]
  refine wpAnyH_take (i := 1) (v := ?_) rfl (by kernel_rfl) (by kernel_rfl) (by kernel_rfl) (fun _ _ _ h => h) (Or.inl ⟨by rfl, ?_⟩) (by assumption) ?_
  rotate_left
  · intro w hSw
    (try dsimp only at hSw)
    go_simp
    all_goals with_reducible rfl
  try simp only [Act.put, List.getElem_toArray, List.getElem_cons_succ, List.getElem_cons_zero, List.setIfInBounds_toArray, List.set_cons_zero, List.set_cons_succ]
  refine wpAnyH_take (i := 2) (v := ?_) rfl (by kernel_rfl) (by kernel_rfl) (by kernel_rfl) (fun _ _ _ h => h) (Or.inl ⟨by rfl, ?_⟩) (by assumption) ?_
  rotate_left
  · intro w hSw
    (try dsimp only at hSw)
    go_simp
    all_goals with_reducible rfl
  try simp only [Act.put, List.getElem_toArray, List.getElem_cons_succ, List.getElem_cons_zero, List.setIfInBounds_toArray, List.set_cons_zero, List.set_cons_succ]
  refine wpAnyH_take (i := 3) (v := ?_) rfl (by kernel_rfl) (by kernel_rfl) (by kernel_rfl) (fun _ _ _ h => h) (Or.inl ⟨by rfl, ?_⟩) (by assumption) ?_
  rotate_left
  · intro w hSw
    (try dsimp only at hSw)
    go_simp
    all_goals with_reducible rfl
  try simp only [Act.put, List.getElem_toArray, List.getElem_cons_succ, List.getElem_cons_zero, List.setIfInBounds_toArray, List.set_cons_zero, List.set_cons_succ]
  refine wpAnyH_take (i := 4) (v := ?_) rfl (by kernel_rfl) (by kernel_rfl) (by kernel_rfl) (fun _ _ _ h => h) (Or.inl ⟨by rfl, ?_⟩) (by assumption) ?_
  rotate_left
  · intro w hSw
    (try dsimp only at hSw)
    go_simp
    all_goals with_reducible rfl
  try simp only [Act.put, List.getElem_toArray, List.getElem_cons_succ, List.getElem_cons_zero, List.setIfInBounds_toArray, List.set_cons_zero, List.set_cons_succ]
  refine wpAnyH_take (i := 5) (v := ?_) rfl (by kernel_rfl) (by kernel_rfl) (by kernel_rfl) (fun _ _ _ h => h) (Or.inl ⟨by rfl, ?_⟩) (by assumption) ?_
  rotate_left
  · intro w hSw
    (try dsimp only at hSw)
    go_simp
    all_goals with_reducible rfl
  try simp only [Act.put, List.getElem_toArray, List.getElem_cons_succ, List.getElem_cons_zero, List.setIfInBounds_toArray, List.set_cons_zero, List.set_cons_succ]
  refine wpAnyH_ready (rs := [6]) (by kernel_rfl) (by simp) ?_
  refine AllReadyH.cons rfl (fun K hK => ?_) AllReadyH.nil
  rw [if_pos (by rfl)]
  go_simp
  go_at_call 147
  refine PT.out.mono ?_
  rintro e w1 ⟨v, rfl, hv, hb1⟩
  have hb1' : Below w.heap.size w w1 := below_drew_of hb1
  have j1 := (hb1'.cell (p := ⟨bl, 0, none⟩) hbl).trans hl
  have j2 := (hb1'.cell (p := ⟨lp, 0, none⟩) hlt).trans c0
  have j3 := (hb1'.cell (p := ⟨bs, 0, none⟩) hbs).trans hs
  have j4 := (hb1'.cell (p := ⟨bf, 0, none⟩) hbf).trans hf
  obtain ⟨va, vc, rfl, hvs, hvb⟩ := hv.sl_base HD.out.2.2.2.1
  have WR := (HD.out.1.on hb1').write ⟨s.toArray⟩ HD.out.2.2.2.2.2 va _ vc _ hvs (by omega) (fun _ k o e ho => by have h1 := hvb k o e; have h2 := HD.out.1.lt k ho; have h3 : w.drew.heap.size = w.heap.size := rfl; omega)
  change Calls _ _ _ _ (fun e w' => e = .returned (.int .i64 (t.write s (hdo first)).1) ∧ Mv w0 w1 dp D (t.write s (hdo first)).2 w') at WR
  rw [← HD.out.2.2.2.2.1] at WR
  have WR := Lib.hid WR
  have HB := Lib.hid hb1'
  clear hv hb1 hvs hvb hb1' PT
  generalize (hdo first).length = pn at *
  refine hK.out _ _ ?_ (fun hHeld => ?_)
  · exact ⟨j1, j2, j3, j4⟩
  clear hK K
  try simp only [Act.put, List.getElem_toArray, List.getElem_cons_succ, List.getElem_cons_zero, List.setIfInBounds_toArray, List.set_cons_zero, List.set_cons_succ]
  refine wpAnyH_ready (rs := [7]) (by kernel_rfl) (by simp) ?_
  refine AllReadyH.cons rfl (fun K hK => ?_) AllReadyH.nil
  rw [if_pos (by rfl)]
  go_simp
  go_at_call 63
  refine WR.out.mono ?_
  rintro e w2 ⟨rfl, hm⟩
  have hm2 := Mv.behind HB.out hm
  obtain ⟨D2, _, b2, _⟩ := hm
  have hz := HB.out.size
  refine hK.out _ _ ?_ (fun hHeld => ?_)
  · exact ⟨(b2.cell (b := bl) (o := 0) (by omega) HD.out.2.2.1).trans j1, (b2.cell (b := lp) (o := 0) (by omega) HD.out.2.1).trans j2, (b2.cell (b := bs) (o := 0) (by omega) hDs).trans j3, (b2.cell (b := bf) (o := 0) (by omega) hDf).trans j4⟩
  clear hK K
  try simp only [Act.put, List.getElem_toArray, List.getElem_cons_succ, List.getElem_cons_zero, List.setIfInBounds_toArray, List.set_cons_zero, List.set_cons_succ]
  refine wpAnyH_take (i := 8) (v := ?_) rfl (by kernel_rfl) (by kernel_rfl) (by kernel_rfl) (fun _ _ _ h => h) (Or.inl ⟨by rfl, ?_⟩) (by assumption) ?_
  rotate_left
  · intro w hSw
    (try dsimp only at hSw)
    go_simp
    all_goals with_reducible rfl
  try simp only [Act.put, List.getElem_toArray, List.getElem_cons_succ, List.getElem_cons_zero, List.setIfInBounds_toArray, List.set_cons_zero, List.set_cons_succ]
  refine wpAnyH_done (by kernel_rfl) ?_ _
  have HM := Lib.hid hm2
  clear hm2 hHeld WR
  go_wp2
  go_ret
  exact ⟨rfl, HM.out⟩
set_option linter.unusedSimpArgs false in
set_option maxRecDepth 100000 in
set_option maxHeartbeats 1600000 in
theorem lay2_any (hd : DK w0 w dp t D) (c0 : w.cell? ⟨lp, 0, none⟩ = some (.pointer (some ⟨dp, 0, none⟩))) (hlp : ¬ D lp) (hl : w.cell? ⟨bl, 0, none⟩ = some (.pointer (some ⟨lp, 0, none⟩))) (hDl : ¬ D bl) (bs : Nat) (s : List UInt8) (hs : w.cell? ⟨bs, 0, none⟩ = some (.string ⟨s.toArray⟩)) (hDs : ¬ D bs) (hsh : shortS s) :
    Calls Tryz.prog 145 #[.pointer (some ⟨bl, 0, none⟩), .pointer (some ⟨bs, 0, none⟩)] w fun e w' => e = .returned (.int .i64 (t.drop s).1) ∧ Mv w0 w dp D (t.drop s).2 w' := by
  have hbl : bl < w.heap.size := block_lt_of_cell hl
  have hlt : lp < w.heap.size := block_lt_of_cell c0
  have hbs : bs < w.heap.size := block_lt_of_cell hs
  obtain ⟨r, hr9⟩ : ∃ r, r = t.drop s := ⟨_, rfl⟩
  have hB3 : Below w.heap.size w (w.alloc (.cells #[.string ⟨s.toArray⟩] 9)).drew := ((Below.refl w.heap.size w).alloc (Nat.le_refl _) _).drew
  have hg3 : (w.alloc (.cells #[.string ⟨s.toArray⟩] 9)).drew.heap[w.heap.size]? = some (.cells #[.string ⟨s.toArray⟩] 9 (0, 0)) := heap_alloc_new w _
  have hc3 := (hB3.cell (p := ⟨lp, 0, none⟩) hlt).trans c0
  have hd3 := hd.on hB3
  obtain ⟨w3, hw3⟩ : ∃ w3, w3 = (w.alloc (.cells #[.string ⟨s.toArray⟩] 9)).drew := ⟨_, rfl⟩
  rw [← hw3] at hg3 hc3 hd3
  have DL := deleteThere_any hd3 hc3 hlp [s] w.heap.size 1 rfl (by decide) (0, 0) hg3 (fun h => by have := hd.lt _ h; omega) (by simpa using hsh)
  rw [there_one, ← hr9] at DL
  rw [hw3] at DL
  simp only [World.size_alloc, World.size_drew] at DL
  rw [← hr9]
  have TH := Lib.hid (there_any lp w.heap.size 1 (w.alloc (.cells #[.string ⟨s.toArray⟩] 9)).drew)
  have HD := Lib.hid (And.intro hd (And.intro hlp (And.intro hDl hB3)))
  have DL := Lib.hid DL
  have hb5 := thereW_below (w.alloc (.cells #[.string ⟨s.toArray⟩] 9)).drew lp w.heap.size 1
  have B5 := Lib.hid (hB3.trans (hb5.mono hB3.size))
  clear hd hr9 hlp hDl hsh hg3 hc3 hd3 hw3
  go_enter Tryz.func145, Tryz.ntmps145
  go_wp2_with fail
  refine wp_region_held_drew (S := fun x => x.cell? ⟨bl, 0, none⟩ = some (.pointer (some ⟨lp, 0, none⟩)) ∧ x.cell? ⟨bs, 0, none⟩ = some (.string ⟨s.toArray⟩)) (by kernel_rfl) ⟨hl, hs⟩ (fun hHeld => ?_)
  refine wpAnyH_take (i := 0) (v := ?_) rfl (by kernel_rfl) (by kernel_rfl) (by kernel_rfl) (fun _ _ _ h => h) (Or.inl ⟨by rfl, ?_⟩) (by assumption) ?_
  rotate_left
  · intro w hSw
    (try dsimp only at hSw)
    go_simp
    all_goals with_reducible rfl
  try simp only [Act.put, List.getElem_toArray, List.getElem_cons_succ, List.getElem_cons_zero, List.setIfInBounds_toArray, List.set_cons_zero, List.set_cons_succ]
  refine wpAnyH_take (i := 1) (v := ?_) rfl (by kernel_rfl) (by kernel_rfl) (by kernel_rfl) (fun _ _ _ h => h) (Or.inl ⟨by rfl, ?_⟩) (by assumption) ?_
  rotate_left
  · intro w hSw
    (try dsimp only at hSw)
    go_simp
    all_goals with_reducible rfl
  try simp only [Act.put, List.getElem_toArray, List.getElem_cons_succ, List.getElem_cons_zero, List.setIfInBounds_toArray, List.set_cons_zero, List.set_cons_succ]
  refine wpAnyH_take (i := 2) (v := ?_) rfl (by kernel_rfl) (by kernel_rfl) (by kernel_rfl) (fun _ _ _ h => h) (Or.inl ⟨by rfl, ?_⟩) (by assumption) ?_
  rotate_left
  · intro w hSw
    (try dsimp only at hSw)
    go_simp
    all_goals with_reducible rfl
  try simp only [Act.put, List.getElem_toArray, List.getElem_cons_succ, List.getElem_cons_zero, List.setIfInBounds_toArray, List.set_cons_zero, List.set_cons_succ]
  refine wpAnyH_ready (rs := [3]) (by kernel_rfl) (by simp) ?_
  refine AllReadyH.cons rfl (fun K hK => ?_) AllReadyH.nil
  rw [if_pos (by rfl)]
  go_simp
  refine hK.out _ _ ?_ (fun hHeld => ?_)
  · exact ⟨(hB3.cell (p := ⟨bl, 0, none⟩) hbl).trans hl, (hB3.cell (p := ⟨bs, 0, none⟩) hbs).trans hs⟩
  clear hK K
  try simp only [Act.put, List.getElem_toArray, List.getElem_cons_succ, List.getElem_cons_zero, List.setIfInBounds_toArray, List.set_cons_zero, List.set_cons_succ]
  refine wpAnyH_ready (rs := [4]) (by kernel_rfl) (by simp) ?_
  refine AllReadyH.cons rfl (fun K hK => ?_) AllReadyH.nil
  rw [if_pos (by rfl)]
  go_simp
  go_at_call 36
  with_reducible refine TH.out.mono ?_
  rintro e w2 ⟨rfl, rfl⟩
  have j1 := (B5.out.cell (p := ⟨bl, 0, none⟩) hbl).trans hl
  have j2 := (B5.out.cell (p := ⟨bs, 0, none⟩) hbs).trans hs
  refine hK.out _ _ ?_ (fun hHeld => ?_)
  · exact ⟨j1, j2⟩
  clear hK K
  try simp only [Act.put, List.getElem_toArray, List.getElem_cons_succ, List.getElem_cons_zero, List.setIfInBounds_toArray, List.set_cons_zero, List.set_cons_succ]
  refine wpAnyH_ready (rs := [5]) (by kernel_rfl) (by simp) ?_
  refine AllReadyH.cons rfl (fun K hK => ?_) AllReadyH.nil
  rw [if_pos (by rfl)]
  go_simp
  go_at_call 35
  with_reducible refine DL.out.mono ?_
  rintro e w3 ⟨rfl, hm⟩
  have hm2 := Mv.behind HD.out.2.2.2 hm
  obtain ⟨D2, _, b2, _⟩ := hm2
  refine hK.out _ _ ?_ (fun hHeld => ?_)
  · exact ⟨(b2.cell (b := bl) (o := 0) hbl HD.out.2.2.1).trans hl, (b2.cell (b := bs) (o := 0) hbs hDs).trans hs⟩
  clear hK K
  try simp only [Act.put, List.getElem_toArray, List.getElem_cons_succ, List.getElem_cons_zero, List.setIfInBounds_toArray, List.set_cons_zero, List.set_cons_succ]
  refine wpAnyH_take (i := 6) (v := ?_) rfl (by kernel_rfl) (by kernel_rfl) (by kernel_rfl) (fun _ _ _ h => h) (Or.inl ⟨by rfl, ?_⟩) (by assumption) ?_
  rotate_left
  · intro w hSw
    (try dsimp only at hSw)
    go_simp
    all_goals with_reducible rfl
  try simp only [Act.put, List.getElem_toArray, List.getElem_cons_succ, List.getElem_cons_zero, List.setIfInBounds_toArray, List.set_cons_zero, List.set_cons_succ]
  refine wpAnyH_done (by kernel_rfl) ?_ _
  have HM := Lib.hid (Mv.behind HD.out.2.2.2 hm)
  clear hm b2 hHeld DL
  go_wp2
  go_ret
  exact ⟨rfl, HM.out⟩
set_option linter.unusedSimpArgs false in
set_option maxRecDepth 100000 in
set_option maxHeartbeats 1600000 in
theorem mend1_any (hd : DK w0 w dp t D) (c0 : w.cell? ⟨lp, 0, none⟩ = some (.pointer (some ⟨dp, 0, none⟩))) (hlp : ¬ D lp) (hl : w.cell? ⟨bl, 0, none⟩ = some (.pointer (some ⟨lp, 0, none⟩))) (hDl : ¬ D bl) :
    Calls Tryz.prog 150 #[.pointer (some ⟨bl, 0, none⟩)] w fun e w' => e = .returned (.int .i64 (t.drop fxL).1) ∧ Mv w0 w dp D (t.drop fxL).2 w' := by
  have hbl : bl < w.heap.size := block_lt_of_cell hl
  have hlt : lp < w.heap.size := block_lt_of_cell c0
  obtain ⟨r, hr9⟩ : ∃ r, r = t.drop fxL := ⟨_, rfl⟩
  have hB3 : Below w.heap.size w (w.alloc (.cells #[.string ⟨fxL.toArray⟩] 9)).drew := ((Below.refl w.heap.size w).alloc (Nat.le_refl _) _).drew
  have hg3 : (w.alloc (.cells #[.string ⟨fxL.toArray⟩] 9)).drew.heap[w.heap.size]? = some (.cells #[.string ⟨fxL.toArray⟩] 9 (0, 0)) := heap_alloc_new w _
  have hc3 := (hB3.cell (p := ⟨lp, 0, none⟩) hlt).trans c0
  have hd3 := hd.on hB3
  obtain ⟨w3, hw3⟩ : ∃ w3, w3 = (w.alloc (.cells #[.string ⟨fxL.toArray⟩] 9)).drew := ⟨_, rfl⟩
  rw [← hw3] at hg3 hc3 hd3
  have DL := deleteThere_any hd3 hc3 hlp [fxL] w.heap.size 1 rfl (by decide) (0, 0) hg3 (fun h => by have := hd.lt _ h; omega) (by decide)
  rw [there_one, ← hr9] at DL
  rw [hw3] at DL
  simp only [World.size_alloc, World.size_drew] at DL
  rw [← hr9]
  have TH := there_any lp w.heap.size 1 (w.alloc (.cells #[.string ⟨fxL.toArray⟩] 9)).drew
  have hb5 := thereW_below (w.alloc (.cells #[.string ⟨fxL.toArray⟩] 9)).drew lp w.heap.size 1
  have B5 := Lib.hid (hB3.trans (hb5.mono hB3.size))
  unfold fxL at DL TH B5 hB3
  have TH := Lib.hid TH
  have DL := Lib.hid DL
  have HD := Lib.hid (And.intro hd (And.intro hlp (And.intro hDl hB3)))
  clear hd hr9 hlp hDl hb5 hg3 hc3 hd3 hw3
  go_enter Tryz.func150, Tryz.ntmps150
  go_wp2_with fail
  refine wp_region_held_drew (S := fun x => x.cell? ⟨bl, 0, none⟩ = some (.pointer (some ⟨lp, 0, none⟩))) (by kernel_rfl) hl (fun hHeld => ?_)
  refine wpAnyH_take (i := 0) (v := ?_) rfl (by kernel_rfl) (by kernel_rfl) (by kernel_rfl) (fun _ _ _ h => h) (Or.inl ⟨by rfl, ?_⟩) (by assumption) ?_
  rotate_left
  · intro w hSw
    (try dsimp only at hSw)
    go_simp
    all_goals with_reducible rfl
  try simp only [Act.put, List.getElem_toArray, List.getElem_cons_succ, List.getElem_cons_zero, List.setIfInBounds_toArray, List.set_cons_zero, List.set_cons_succ]
  refine wpAnyH_take (i := 1) (v := ?_) rfl (by kernel_rfl) (by kernel_rfl) (by kernel_rfl) (fun _ _ _ h => h) (Or.inl ⟨by rfl, ?_⟩) (by assumption) ?_
  rotate_left
  · intro w hSw
    (try dsimp only at hSw)
    go_simp
    all_goals with_reducible rfl
  try simp only [Act.put, List.getElem_toArray, List.getElem_cons_succ, List.getElem_cons_zero, List.setIfInBounds_toArray, List.set_cons_zero, List.set_cons_succ]
  refine wpAnyH_ready (rs := [2]) (by kernel_rfl) (by simp) ?_
  refine AllReadyH.cons rfl (fun K hK => ?_) AllReadyH.nil
  rw [if_pos (by rfl)]
  go_simp
  refine hK.out _ _ ?_ (fun hHeld => ?_)
  · exact (hB3.cell (p := ⟨bl, 0, none⟩) hbl).trans hl
  clear hK K
  try simp only [Act.put, List.getElem_toArray, List.getElem_cons_succ, List.getElem_cons_zero, List.setIfInBounds_toArray, List.set_cons_zero, List.set_cons_succ]
  refine wpAnyH_ready (rs := [3]) (by kernel_rfl) (by simp) ?_
  refine AllReadyH.cons rfl (fun K hK => ?_) AllReadyH.nil
  rw [if_pos (by rfl)]
  go_simp
  go_at_call 36
  with_reducible refine TH.out.mono ?_
  rintro e w2 ⟨rfl, rfl⟩
  refine hK.out _ _ ?_ (fun hHeld => ?_)
  · exact (B5.out.cell (p := ⟨bl, 0, none⟩) hbl).trans hl
  clear hK K
  try simp only [Act.put, List.getElem_toArray, List.getElem_cons_succ, List.getElem_cons_zero, List.setIfInBounds_toArray, List.set_cons_zero, List.set_cons_succ]
  refine wpAnyH_ready (rs := [4]) (by kernel_rfl) (by simp) ?_
  refine AllReadyH.cons rfl (fun K hK => ?_) AllReadyH.nil
  rw [if_pos (by rfl)]
  go_simp
  go_at_call 35
  with_reducible refine DL.out.mono ?_
  rintro e w3 ⟨rfl, hm⟩
  have hm2 := Mv.behind HD.out.2.2.2 hm
  obtain ⟨D2, _, b2, _⟩ := hm2
  refine hK.out _ _ ?_ (fun hHeld => ?_)
  · exact (b2.cell (b := bl) (o := 0) hbl HD.out.2.2.1).trans hl
  clear hK K
  try simp only [Act.put, List.getElem_toArray, List.getElem_cons_succ, List.getElem_cons_zero, List.setIfInBounds_toArray, List.set_cons_zero, List.set_cons_succ]
  refine wpAnyH_take (i := 5) (v := ?_) rfl (by kernel_rfl) (by kernel_rfl) (by kernel_rfl) (fun _ _ _ h => h) (Or.inl ⟨by rfl, ?_⟩) (by assumption) ?_
  rotate_left
  · intro w hSw
    (try dsimp only at hSw)
    go_simp
    all_goals with_reducible rfl
  try simp only [Act.put, List.getElem_toArray, List.getElem_cons_succ, List.getElem_cons_zero, List.setIfInBounds_toArray, List.set_cons_zero, List.set_cons_succ]
  refine wpAnyH_done (by kernel_rfl) ?_ _
  have HM := Lib.hid (Mv.behind HD.out.2.2.2 hm)
  clear hm b2 hHeld DL
  go_wp2
  go_ret
  exact ⟨rfl, HM.out⟩
set_option linter.unusedSimpArgs false in
set_option maxRecDepth 100000 in
set_option maxHeartbeats 1600000 in
theorem mend3_any (hd : DK w0 w dp t D) (c0 : w.cell? ⟨lp, 0, none⟩ = some (.pointer (some ⟨dp, 0, none⟩))) (hlp : ¬ D lp) (hl : w.cell? ⟨bl, 0, none⟩ = some (.pointer (some ⟨lp, 0, none⟩))) (hDl : ¬ D bl) :
    Calls Tryz.prog 152 #[.pointer (some ⟨bl, 0, none⟩)] w fun e w' => e = .returned (.int .i64 (t.sync fxL).1) ∧ Mv w0 w dp D (t.sync fxL).2 w' := by
  have hbl : bl < w.heap.size := block_lt_of_cell hl
  have hlt : lp < w.heap.size := block_lt_of_cell c0
  obtain ⟨r, hr9⟩ : ∃ r, r = t.sync fxL := ⟨_, rfl⟩
  have DL := hd.sync ⟨fxL.toArray⟩ (by decide)
  change Calls _ _ _ _ (fun e w' => e = .returned (.int .i64 (t.sync fxL).1) ∧ Mv w0 w dp D (t.sync fxL).2 w') at DL
  rw [← hr9] at DL ⊢
  unfold fxL at DL
  have DL := Lib.hid DL
  clear hd hr9 hlp hDl
  go_enter Tryz.func152, Tryz.ntmps152
  go_wp2_with fail
  refine DL.out.mono ?_
  rintro e w1 ⟨rfl, hm⟩
  have HM := Lib.hid hm
  clear hm DL
  go_wp2
  go_ret
  exact ⟨rfl, HM.out⟩
end
end
section
set_option linter.unusedSimpArgs false
set_option linter.unusedVariables false
open Go.RowKit Go.Sort Go.Maps Go.Shelf
open Crc Frm
open Sgn
attribute [local go_sem] Oper.semAt_some

/-- What the deferred call leaves. -/
def lyClean (s : List UInt8) (x : Int) (t : St) : St := if x ≠ 0 ∧ x ≠ 42 then (t.delete s).2 else t
section
variable {w0 w : World} {dp lp bl : Nat} {t : St} {D : Nat → Prop}
set_option linter.unusedSimpArgs false in
set_option maxRecDepth 100000 in
set_option maxHeartbeats 1600000 in
theorem lay1_any (hd : DK w0 w dp t D) (c0 : w.cell? ⟨lp, 0, none⟩ = some (.pointer (some ⟨dp, 0, none⟩))) (hlp : ¬ D lp) (hl : w.cell? ⟨bl, 0, none⟩ = some (.pointer (some ⟨lp, 0, none⟩))) (hDl : ¬ D bl)
    (be bs : Nat) (s : List UInt8) (hs : w.cell? ⟨bs, 0, none⟩ = some (.string ⟨s.toArray⟩)) (hDs : ¬ D bs) (hsh : shortS s) (x : Int) (u : FrameMode) (he : w.cell? ⟨be, 0, none⟩ = some (.int .i64 x)) :
    CallsD Tryz.prog 144 #[.pointer (some ⟨be, 0, none⟩), .pointer (some ⟨bl, 0, none⟩), .pointer (some ⟨bs, 0, none⟩)] u w fun e u' w' => u' = u ∧ (e = .returned (.tuple #[]) ∧ Mv w0 w dp D (lyClean s x t) w') := by
  have hbl : bl < w.heap.size := block_lt_of_cell hl
  have hlt : lp < w.heap.size := block_lt_of_cell c0
  have hbs : bs < w.heap.size := block_lt_of_cell hs
  have DL := (hd.on (Below.drew (Below.refl w.heap.size w))).delete ⟨s.toArray⟩ hsh
  change Calls _ _ _ _ (fun e w' => e = .returned (.int .i64 (t.delete s).1) ∧ Mv w0 w.drew dp D (t.delete s).2 w') at DL
  have DL := Lib.hid DL
  have HS := Lib.hid (Mv.still hd (Below.refl _ _))
  have HC : Hid (lyClean s x t = if x ≠ 0 ∧ x ≠ 42 then (t.delete s).2 else t) := rfl
  have HD := Lib.hid (And.intro hlp (And.intro hDl hDs))
  clear hd hlp hDl hDs hsh
  generalize t.delete s = r at *
  by_cases h0 : x = 0
  · subst h0
    have hc : Hid (lyClean s 0 t = t) := HC.out.trans (if_neg (by simp))
    go_enter_d Tryz.func144, Tryz.ntmps144
    go_wp2
    go_end0
    exact ⟨rfl, by rw [hc.out]; exact HS.out⟩
  by_cases h1 : x = 42
  · subst h1
    have hc : Hid (lyClean s 42 t = t) := HC.out.trans (if_neg (by simp))
    go_enter_d Tryz.func144, Tryz.ntmps144
    go_wp2
    go_end0
    exact ⟨rfl, by rw [hc.out]; exact HS.out⟩
  · have hc : Hid (lyClean s x t = r.2) := HC.out.trans (if_pos ⟨h0, h1⟩)
    have x0 : (x != 0) = true := by simp [h0]
    have x1 : (x != 42) = true := by simp [h1]
    have y0 : (x == 0) = false := by simp [h0]
    have y1 : (x == 42) = false := by simp [h1]
    go_enter_d Tryz.func144, Tryz.ntmps144
    go_wp2_with fail
    refine wp_region_held_drew (S := fun x => x.cell? ⟨bl, 0, none⟩ = some (.pointer (some ⟨lp, 0, none⟩)) ∧ x.cell? ⟨lp, 0, none⟩ = some (.pointer (some ⟨dp, 0, none⟩)) ∧ x.cell? ⟨bs, 0, none⟩ = some (.string ⟨s.toArray⟩)) (by kernel_rfl) ⟨hl, c0, hs⟩ (fun hHeld => ?_)
    refine wpAnyH_take (i := 0) (v := ?_) rfl (by kernel_rfl) (by kernel_rfl) (by kernel_rfl) (fun _ _ _ h => h) (Or.inl ⟨by rfl, ?_⟩) (by assumption) ?_
    rotate_left
    · intro w hSw
      (try dsimp only at hSw)
      go_simp
      all_goals with_reducible rfl
    try simp only [Act.put, List.getElem_toArray, List.getElem_cons_succ, List.getElem_cons_zero, List.setIfInBounds_toArray, List.set_cons_zero, List.set_cons_succ]
    refine wpAnyH_take (i := 1) (v := ?_) rfl (by kernel_rfl) (by kernel_rfl) (by kernel_rfl) (fun _ _ _ h => h) (Or.inl ⟨by rfl, ?_⟩) (by assumption) ?_
    rotate_left
    · intro w hSw
      (try dsimp only at hSw)
      go_simp
      all_goals with_reducible rfl
    try simp only [Act.put, List.getElem_toArray, List.getElem_cons_succ, List.getElem_cons_zero, List.setIfInBounds_toArray, List.set_cons_zero, List.set_cons_succ]
    refine wpAnyH_take (i := 2) (v := ?_) rfl (by kernel_rfl) (by kernel_rfl) (by kernel_rfl) (fun _ _ _ h => h) (Or.inl ⟨by rfl, ?_⟩) (by assumption) ?_
    rotate_left
    · intro w hSw
      (try dsimp only at hSw)
      go_simp
      all_goals with_reducible rfl
    try simp only [Act.put, List.getElem_toArray, List.getElem_cons_succ, List.getElem_cons_zero, List.setIfInBounds_toArray, List.set_cons_zero, List.set_cons_succ]
    refine wpAnyH_take (i := 3) (v := ?_) rfl (by kernel_rfl) (by kernel_rfl) (by kernel_rfl) (fun _ _ _ h => h) (Or.inl ⟨by rfl, ?_⟩) (by assumption) ?_
    rotate_left
    · intro w hSw
      (try dsimp only at hSw)
      go_simp
      all_goals with_reducible rfl
    try simp only [Act.put, List.getElem_toArray, List.getElem_cons_succ, List.getElem_cons_zero, List.setIfInBounds_toArray, List.set_cons_zero, List.set_cons_succ]
    refine wpAnyH_take (i := 4) (v := ?_) rfl (by kernel_rfl) (by kernel_rfl) (by kernel_rfl) (fun _ _ _ h => h) (Or.inl ⟨by rfl, ?_⟩) (by assumption) ?_
    rotate_left
    · intro w hSw
      (try dsimp only at hSw)
      go_simp
      all_goals with_reducible rfl
    try simp only [Act.put, List.getElem_toArray, List.getElem_cons_succ, List.getElem_cons_zero, List.setIfInBounds_toArray, List.set_cons_zero, List.set_cons_succ]
    refine wpAnyH_ready (rs := [5]) (by kernel_rfl) (by simp) ?_
    refine AllReadyH.cons rfl (fun K hK => ?_) AllReadyH.nil
    rw [if_pos (by rfl)]
    go_simp
    go_at_call 62
    refine DL.out.mono ?_
    rintro e w2 ⟨rfl, hm⟩
    have HM := Lib.hid (Mv.behind (Below.drew (Below.refl w.heap.size w)) hm)
    obtain ⟨D2, _, b2, _⟩ := hm
    refine hK.out _ _ ?_ (fun hHeld => ?_)
    · exact ⟨(b2.cell (b := bl) (o := 0) hbl HD.out.2.1).trans hl, (b2.cell (b := lp) (o := 0) hlt HD.out.1).trans c0, (b2.cell (b := bs) (o := 0) hbs HD.out.2.2).trans hs⟩
    clear hK K
    try simp only [Act.put, List.getElem_toArray, List.getElem_cons_succ, List.getElem_cons_zero, List.setIfInBounds_toArray, List.set_cons_zero, List.set_cons_succ]
    refine wpAnyH_done (by kernel_rfl) ?_ _
    clear hHeld DL b2
    go_wp2
    go_end0
    exact ⟨rfl, by rw [hc.out]; exact HM.out⟩

/-- The four steps, one behind the other. -/
def laySS (g : Lg) (first : Int) : List (St → Int × St) := [fun t => t.drop (nm first), fun t => t.write (nm first) (hdo first), fun t => t.sync (nm first), fun t => mSwap t (g.segs ++ [first])]
theorem laySS_try (g : Lg) (first : Int) (t : St) : turnS (laySS g first) t = lgTry g t first := by
  have e : ∀ (r : Int × St) (f : St → Int × St), r.1 ≠ 0 → thenSt r f = r := fun r f h => if_pos h
  have e0 : ∀ (r : Int × St) (f : St → Int × St), r.1 = 0 → thenSt r f = f r.2 := fun r f h => if_neg (by simp [h])
  unfold lgTry laySS turnS
  by_cases h1 : (t.drop (nm first)).1 = 0
  · rw [if_neg (by simp [h1]), e0 _ _ h1]
    unfold turnS
    by_cases h2 : ((t.drop (nm first)).2.write (nm first) (hdo first)).1 = 0
    · rw [if_neg (by simp [h2]), e0 _ _ h2]
      unfold turnS
      by_cases h3 : (((t.drop (nm first)).2.write (nm first) (hdo first)).2.sync (nm first)).1 = 0
      · rw [if_neg (by simp [h3]), e0 _ _ h3]
        unfold turnS
        split
        · rfl
        · rename_i h4
          rw [Decidable.not_not] at h4
          exact Prod.ext h4.symm rfl
      · rw [if_pos h3, e _ _ h3]
    · rw [if_pos h2, e _ _ h2, e _ _ h2]
  · rw [if_pos h1, e _ _ h1, e _ _ h1, e _ _ h1]
abbrev lyF : Nat → FuncId
  | 0 => 145
  | 1 => 146
  | 2 => 148
  | _ => 149
abbrev lyC (bl bs bf bg : Nat) : Nat → Array Value
  | 0 => #[.pointer (some ⟨bl, 0, none⟩), .pointer (some ⟨bs, 0, none⟩)]
  | 1 => #[.pointer (some ⟨bl, 0, none⟩), .pointer (some ⟨bs, 0, none⟩), .pointer (some ⟨bf, 0, none⟩)]
  | 2 => #[.pointer (some ⟨bl, 0, none⟩), .pointer (some ⟨bs, 0, none⟩)]
  | _ => #[.pointer (some ⟨bl, 0, none⟩), .pointer (some ⟨bg, 0, none⟩)]
set_option maxRecDepth 100000 in
/-- The four steps of lay. -/
theorem lays_any (hd : DK w0 w dp t D) (c0 : w.cell? ⟨lp, 0, none⟩ = some (.pointer (some ⟨dp, 0, none⟩))) (hlp : ¬ D lp) (hl : w.cell? ⟨bl, 0, none⟩ = some (.pointer (some ⟨lp, 0, none⟩))) (hDl : ¬ D bl)
    (gb bs bf bg : Nat) (g : Lg) (first : Int) (hs : w.cell? ⟨bs, 0, none⟩ = some (.string ⟨(nm first).toArray⟩)) (hDs : ¬ D bs) (hf : w.cell? ⟨bf, 0, none⟩ = some (.int .i64 first)) (hDf : ¬ D bf)
    (a : Option Addr) (n c : Nat) (hg : w.cell? ⟨bg, 0, none⟩ = some (.slice a n c)) (hDg : ¬ D bg) (hr : Row w w.heap.size a n c 1 (intsC (g.segs ++ [first]))) (hn : (g.segs ++ [first]).length = n) (hfar : ∀ k o, a = some ⟨k, o, none⟩ → ¬ D k)
    (hDb : ¬ D gb) (hc4 : ∀ k, k < 4 → w.cell? ⟨gb, k, none⟩ = some (.func (.func (lyF k)) #[] (lyC bl bs bf bg k))) :
    Calls Tryz.prog 32 #[.slice (some ⟨gb, 0, none⟩) 4 4] w fun e w' => e = .returned (.int .i64 (lgTry g t first).1) ∧ Mv w0 w dp D (lgTry g t first).2 w' := by
  have hbl : bl < w.heap.size := block_lt_of_cell hl
  have hlt : lp < w.heap.size := block_lt_of_cell c0
  have hbs : bs < w.heap.size := block_lt_of_cell hs
  have hbf : bf < w.heap.size := block_lt_of_cell hf
  have hbg : bg < w.heap.size := block_lt_of_cell hg
  have hgb : gb < w.heap.size := block_lt_of_cell (hc4 0 (by omega))
  have hsh : shortS (nm first) := by have := nm_short first; unfold shortS; omega
  have k2 : ∀ x : World, (callFunc 145 (#[] ++ lyC bl bs bf bg 0)).run Tryz.prog x = .ok (.enter 145 (#[] ++ lyC bl bs bf bg 0)) x := fun x => by kernel_rfl
  have k3 : ∀ x : World, (callFunc 146 (#[] ++ lyC bl bs bf bg 1)).run Tryz.prog x = .ok (.enter 146 (#[] ++ lyC bl bs bf bg 1)) x := fun x => by kernel_rfl
  have k4 : ∀ x : World, (callFunc 148 (#[] ++ lyC bl bs bf bg 2)).run Tryz.prog x = .ok (.enter 148 (#[] ++ lyC bl bs bf bg 2)) x := fun x => by kernel_rfl
  have k5 : ∀ x : World, (callFunc 149 (#[] ++ lyC bl bs bf bg 3)).run Tryz.prog x = .ok (.enter 149 (#[] ++ lyC bl bs bf bg 3)) x := fun x => by kernel_rfl
  rw [← laySS_try]
  refine lturnS_any (laySS g first) 4 rfl lyF (fun _ => #[]) (lyC bl bs bf bg) gb w (fun t' w' => Mv w0 w dp D t' w') t (by omega) ?_ ?_ ?_ (Mv.still hd (Below.refl _ _))
  · rintro k s w' hk ⟨D', _, hb, _⟩
    exact (hb.cell hgb hDb).trans (hc4 k hk)
  · intro k x hk
    match k, hk with
    | 0, _ => exact k2 x
    | 1, _ => exact k3 x
    | 2, _ => exact k4 x
    | 3, _ => exact k5 x
  · rintro k f s w' hf' ⟨D', hk1, hb, hD⟩
    have nD : ∀ i, i < w.heap.size → ¬ D i → ¬ D' i := fun i hi hn ho => by rcases hD i ho with h4 | h4; exact hn h4; omega
    have d0 := (hb.cell (o := 0) hlt hlp).trans c0
    have d1 := (hb.cell (o := 0) hbl hDl).trans hl
    have d2 := (hb.cell (o := 0) hbs hDs).trans hs
    have d3 := (hb.cell (o := 0) hbf hDf).trans hf
    have d4 := (hb.cell (o := 0) hbg hDg).trans hg
    match k, hf' with
    | 0, hf' =>
      injection hf' with hf'; subst hf'
      exact (lay2_any hk1 d0 (nD _ hlt hlp) d1 (nD _ hbl hDl) bs (nm first) d2 (nD _ hbs hDs) hsh).mono fun e w'' ⟨he, hm⟩ => ⟨he, Mv.then hb hD hm⟩
    | 1, hf' =>
      injection hf' with hf'; subst hf'
      exact (lay3_any hk1 d0 (nD _ hlt hlp) d1 (nD _ hbl hDl) bs bf (nm first) first d2 d3 (nD _ hbs hDs) (nD _ hbf hDf) hsh).mono fun e w'' ⟨he, hm⟩ => ⟨he, Mv.then hb hD hm⟩
    | 2, hf' =>
      injection hf' with hf'; subst hf'
      exact (lay4_any hk1 d0 (nD _ hlt hlp) d1 (nD _ hbl hDl) bs (nm first) d2 (nD _ hbs hDs) hsh).mono fun e w'' ⟨he, hm⟩ => ⟨he, Mv.then hb hD hm⟩
    | 3, hf' =>
      injection hf' with hf'; subst hf'
      exact (lay5_any hk1 d0 (nD _ hlt hlp) d1 (nD _ hbl hDl) bg (g.segs ++ [first]) a n c d4 (nD _ hbg hDg) (hr.but hb (fun _ => hfar)) hn (fun k o e => by
        by_cases hk0 : k < w.heap.size
        · exact nD k hk0 (hfar k o e)
        · exfalso
          obtain ⟨b, o', e', hb', _⟩ := hr.at_ (by rw [← hn]; simp)
          rw [e] at e'
          injection e' with e'
          injection e' with e1
          omega)).mono fun e w'' ⟨he, hm⟩ => ⟨he, Mv.then hb hD hm⟩
    | k + 4, hf' => simp [laySS] at hf'
end
end
section
set_option linter.unusedSimpArgs false
set_option linter.unusedVariables false
open Go.RowKit Go.Sort Go.Maps Go.Shelf
open Crc Frm
open Sgn
attribute [local go_sem] Oper.semAt_some

theorem OwnV.mono_ {w : World} {base base' : Nat} {e : TypeId} {v : Value} {us : List Value} (h : OwnV w base e v us) (hb : base' ≤ base) : OwnV w base' e v us := by
  refine ⟨h.1, ?_⟩
  rcases h.2 with h2 | ⟨g, cap, cur, h1, h2, r⟩
  · exact .inl h2
  · exact .inr ⟨g, cap, cur, h1, Nat.le_trans hb h2, r⟩
theorem OwnV.nil_own {w : World} {base : Nat} {e : TypeId} {v : Value} {us : List Value} (h : OwnV w base e v us) : ∀ n c, v = .slice none n c → n = 0 ∧ c = 0 := by
  intro n c e1
  rcases h.2 with ⟨h1, _⟩ | ⟨g, cap, cur, h1, _⟩
  · rw [h1] at e1
    injection e1 with _ e2 e3
    exact ⟨e2.symm, e3.symm⟩
  · rw [h1] at e1
    injection e1 with e2
    cases e2
theorem OwnV.out_ {w : World} {base : Nat} {e : TypeId} {v : Value} {l : List Int} (h : OwnV w base e v (i64V l)) :
    ∃ a c, v = .slice a l.length c ∧ Row w w.heap.size a l.length c 1 (intsC l) ∧ ∀ k o, a = some ⟨k, o, none⟩ → base ≤ k := by
  have h0 := h
  rcases h.2 with ⟨h1, h2⟩ | ⟨g, cap, cur, h1, h2, h3, h4, h5, h6⟩
  · subst h1
    have hl : l = [] := by simpa using h2
    subst hl
    exact ⟨none, 0, rfl, ⟨Nat.le_refl _, by simp [maxLen], fun hn => absurd hn (by simp)⟩, fun k o hk => by cases hk⟩
  · subst h1
    have hn := h0.len
    rw [List.length_map] at hn
    have R := row_own h0
    have hm : (i64V l).length = l.length := List.length_map _
    rw [hm] at R
    refine ⟨_, cap, by rw [hm], R, fun k o hk => ?_⟩
    injection hk with hk
    injection hk with hk
    rw [← hk]
    exact h0.base_.1
theorem row_lit1 {x : World} {g : Nat} {v : Int} (h : x.heap[g]? = some (.cells #[.int .i64 v] 2 (0, 0))) : Row x x.heap.size (some ⟨g, 0, none⟩) 1 1 1 (intsC [v]) :=
  Row.new h (fun j hj => by have : j = 0 := by omega
                            subst this; rfl) (by decide)
/-- What the box of the next list holds. -/
structure SegBox (w2 wx : World) (p : Value) (N : Nat) (l : List Int) : Prop where
  ex : ∃ gb a c, p = .pointer (some ⟨gb, 0, none⟩) ∧ wx.cell? ⟨gb, 0, none⟩ = some (.slice a N c) ∧ Row wx wx.heap.size a N c 1 (intsC l) ∧ (∀ k o, a = some ⟨k, o, none⟩ → w2.heap.size ≤ k ∧ k < wx.heap.size ∧ k ≠ gb) ∧ w2.heap.size ≤ gb ∧ gb < wx.heap.size ∧ (a = none → N = 0 ∧ c = 0)
  below : Below w2.heap.size w2 wx
theorem SegBox.store {w2 x : World} {gb N : Nat} {a : Option Addr} {c : Nat} {l : List Int} (hB : Below w2.heap.size w2 x) (hX : x.heap[gb]? = some (.cells #[.slice none 0 0] 50 (0, 0))) (hg : w2.heap.size ≤ gb)
    (hr : Row x x.heap.size a N c 1 (intsC l)) (hb : ∀ k o, a = some ⟨k, o, none⟩ → w2.heap.size ≤ k ∧ k < x.heap.size ∧ k ≠ gb) (hnil : a = none → N = 0 ∧ c = 0) : SegBox w2 (x.setCell ⟨gb, 0, none⟩ (.slice a N c)) (.pointer (some ⟨gb, 0, none⟩)) N l := by
  have hlt := lt_of_heap hX
  refine ⟨⟨gb, a, c, rfl, World.cell?_setCell_same _ _ _ ((cell_of_row x gb 0 _ _ _ hX).trans rfl), ?_, fun k o e => by have := hb k o e; simpa using this, hg, by simpa using hlt, hnil⟩, hB.setCell (p := ⟨gb, 0, none⟩) hg _⟩
  exact hr.but ((But.refl (fun k => k = gb) x).setCell (p := ⟨gb, 0, none⟩) (.inl rfl) _) (fun _ k o e => (hb k o e).2.2)

section
variable {w0 w : World} {dp lp size : Nat} {g : Lg} {t : St} {D : Nat → Prop} {sa : Option Addr} {sc : Nat}
set_option linter.unusedSimpArgs false in
set_option maxRecDepth 100000 in
set_option maxHeartbeats 6400000 in
theorem lglay_any (h : LK w0 w dp lp size g t D sa sc) (first : Int) (hL : Laid w0) (hlen : g.segs.length ≤ 1000) :
    Calls Tryz.prog 85 #[.pointer (some ⟨lp, 0, none⟩), .int .i64 first] w fun e w' => e = .returned (.int .i64 (lgLay g t first).1) ∧ LMv w0 w dp lp size (lO D lp sa) (lgLay g t first).2.2 (lgLay g t first).2.1 w' := by
  have hmf : ∀ (fn : Fn) (first cap : Array Value) (w : World), (Instr.makeFunc fn first cap).run Tryz.prog w = .ok (.func fn first cap) w := fun _ _ _ _ => rfl
  have hlt := h.at_.lt
  have hDlt := h.dk.lt
  obtain ⟨w3, hw3⟩ : ∃ w3, w3 = ((w.alloc (.cells #[.pointer (some ⟨lp, 0, none⟩)] 29)).alloc (.cells #[.int .i64 first] 2)).alloc (.cells #[.int .i64 0] 30) := ⟨_, rfl⟩
  have hB3 : Below w.heap.size w w3 := by rw [hw3]; exact (((Below.refl _ _).alloc (Nat.le_refl _) _).alloc (by simp) _).alloc (by simp; omega) _
  have hs3 : w3.heap.size = w.heap.size + 3 := by rw [hw3]; simp
  have hl3 : w3.cell? ⟨w.heap.size, 0, none⟩ = some (.pointer (some ⟨lp, 0, none⟩)) := by rw [hw3]; simp [go_sem]
  have hf3 : w3.cell? ⟨w.heap.size + 1, 0, none⟩ = some (.int .i64 first) := by rw [hw3]; simp [go_sem]
  have he3 : w3.cell? ⟨w.heap.size + 2, 0, none⟩ = some (.int .i64 0) := by rw [hw3]; simp [go_sem]
  have hz3 : w3.frozen? ⟨w.heap.size + 2, 0, none⟩ = false := by rw [hw3]; simp [go_sem]
  have NM := name_any first w3 ((h.laid hL).on hB3)
  rw [hw3] at NM
  have NM := Lib.hid NM
  obtain ⟨N, hN⟩ : ∃ N, N = (g.segs ++ [first]).length := ⟨_, rfl⟩
  have hN1 : Hid (N = g.segs.length + 1) := by show _ = _; rw [hN]; simp
  have HK := Lib.hid (And.intro h (And.intro hL (And.intro hN (And.intro hB3 (And.intro hs3 (And.intro hl3 (And.intro hf3 (And.intro he3 hz3))))))))
  clear h hL hB3 hs3 hl3 hf3 he3 hz3 hN
  go_enter_defers Tryz.func85, Tryz.ntmps85
  go_wp2_with fail
  refine NM.out.mono ?_
  rintro e w1 ⟨rfl, hb1⟩
  rw [← hw3] at hb1
  go_wp2_with fail
  obtain ⟨w2, hw2⟩ : ∃ w2, w2 = w1.alloc (.cells #[.string ⟨(nm first).toArray⟩] 9) := ⟨_, rfl⟩
  have hb2 : Below w3.heap.size w3 w2 := by rw [hw2]; exact hb1.alloc hb1.size _
  have hz2 : w2.heap.size = w1.heap.size + 1 := by rw [hw2]; simp
  have hz1 := hb1.size
  have hn2 : w2.cell? ⟨w1.heap.size, 0, none⟩ = some (.string ⟨(nm first).toArray⟩) := by rw [hw2]; exact cell_of_one (heap_alloc_new _ _)
  have hB2 : Below w.heap.size w w2 := HK.out.2.2.2.1.trans (hb2.mono HK.out.2.2.2.1.size)
  have hs3 := HK.out.2.2.2.2.1
  have hl2 := (hb2.cell (p := ⟨w.heap.size, 0, none⟩) (by show w.heap.size < _; omega)).trans HK.out.2.2.2.2.2.1
  have hf2 := (hb2.cell (p := ⟨w.heap.size + 1, 0, none⟩) (by show w.heap.size + 1 < _; omega)).trans HK.out.2.2.2.2.2.2.1
  have he2 := (hb2.cell (p := ⟨w.heap.size + 2, 0, none⟩) (by show w.heap.size + 2 < _; omega)).trans HK.out.2.2.2.2.2.2.2.1
  have hq2 := (hb2.frozen (p := ⟨w.heap.size + 2, 0, none⟩) (by show w.heap.size + 2 < _; omega)).trans HK.out.2.2.2.2.2.2.2.2
  have hLK := HK.out.1.on hB2
  have hc2 := hLK.at_.c2
  have SH : Hid (∀ x, Below w2.heap.size w2 x → x.cell? ⟨w.heap.size, 0, none⟩ = some (.pointer (some ⟨lp, 0, none⟩)) ∧ x.cell? ⟨lp, 2, none⟩ = some (.slice sa g.segs.length sc) ∧ x.cell? ⟨w.heap.size + 1, 0, none⟩ = some (.int .i64 first)) := fun x hb =>
    ⟨(hb.cell (p := ⟨w.heap.size, 0, none⟩) (by show w.heap.size < _; omega)).trans hl2, (hb.cell (p := ⟨lp, 2, none⟩) (by show lp < _; omega)).trans hc2, (hb.cell (p := ⟨w.heap.size + 1, 0, none⟩) (by show w.heap.size + 1 < _; omega)).trans hf2⟩
  have CL : Hid (∀ x, Below w2.heap.size w2 x → Calls Tryz.prog 59 #[.slice sa g.segs.length sc] x fun e w' => ∃ v, e = .returned v ∧ OwnV w' x.heap.size 2 v (i64V g.segs) ∧ Below x.heap.size x w') := fun x hb =>
    clone_ints sa g.segs.length sc g.segs x (hLK.at_.row.on9 hb) rfl hLK.at_.nil_ (by omega)
  have H2 := Lib.hid (And.intro hB2 (And.intro hb2 (And.intro hl2 (And.intro hf2 (And.intro he2 (And.intro hq2 (And.intro hn2 hLK)))))))
  clear hB2 hb2 he2 hq2 hn2 hLK hb1 NM
  rw [← hw2]
  have hwz : w.heap.size + 4 ≤ w2.heap.size := by omega
  have hw12 : w1.heap.size < w2.heap.size := by omega
  have hw1z : w.heap.size + 3 ≤ w1.heap.size := by omega
  have W2 := Lib.hid (And.intro hw2 hz2)
  clear hw2 hz2 hz1
  go_cut [6] from 7 (fun p wx => SegBox w2 wx p N (g.segs ++ [first]))
  case first =>
    refine wp_region_noPanic ?_
    refine wp_region_held_drew (S := fun x => x.cell? ⟨w.heap.size, 0, none⟩ = some (.pointer (some ⟨lp, 0, none⟩)) ∧ x.cell? ⟨lp, 2, none⟩ = some (.slice sa g.segs.length sc) ∧ x.cell? ⟨w.heap.size + 1, 0, none⟩ = some (.int .i64 first)) (by kernel_rfl) (SH.out _ (Below.drew (Below.refl _ _))) (fun hHeld => ?_)
    have HB0 : Below w2.heap.size w2 w2.drew := Below.drew (Below.refl _ _)
    clear hl2 hc2 hf2
    have c1 := (SH.out _ HB0).1
    have c2 := (SH.out _ HB0).2.1
    have c3 := (SH.out _ HB0).2.2
    refine wpAnyH_take (i := 0) (v := ?_) rfl (by kernel_rfl) (by kernel_rfl) (by kernel_rfl) (fun _ _ _ h => h) (Or.inl ⟨by rfl, ?_⟩) (by assumption) ?_
    rotate_left
    · intro w hSw
      (try dsimp only at hSw)
      go_simp
      all_goals with_reducible rfl
    try simp only [Act.put, List.getElem_toArray, List.getElem_cons_succ, List.getElem_cons_zero, List.setIfInBounds_toArray, List.set_cons_zero, List.set_cons_succ]
    refine wpAnyH_take (i := 1) (v := ?_) rfl (by kernel_rfl) (by kernel_rfl) (by kernel_rfl) (fun _ _ _ h => h) (Or.inl ⟨by rfl, ?_⟩) (by assumption) ?_
    rotate_left
    · intro w hSw
      (try dsimp only at hSw)
      go_simp
      all_goals with_reducible rfl
    try simp only [Act.put, List.getElem_toArray, List.getElem_cons_succ, List.getElem_cons_zero, List.setIfInBounds_toArray, List.set_cons_zero, List.set_cons_succ]
    refine wpAnyH_take (i := 2) (v := ?_) rfl (by kernel_rfl) (by kernel_rfl) (by kernel_rfl) (fun _ _ _ h => h) (Or.inl ⟨by rfl, ?_⟩) (by assumption) ?_
    rotate_left
    · intro w hSw
      (try dsimp only at hSw)
      go_simp
      all_goals with_reducible rfl
    try simp only [Act.put, List.getElem_toArray, List.getElem_cons_succ, List.getElem_cons_zero, List.setIfInBounds_toArray, List.set_cons_zero, List.set_cons_succ]
    refine wpAnyH_take (i := 3) (v := ?_) rfl (by kernel_rfl) (by kernel_rfl) (by kernel_rfl) (fun _ _ _ h => h) (Or.inl ⟨by rfl, ?_⟩) (by assumption) ?_
    rotate_left
    · intro w hSw
      (try dsimp only at hSw)
      go_simp
      all_goals with_reducible rfl
    try simp only [Act.put, List.getElem_toArray, List.getElem_cons_succ, List.getElem_cons_zero, List.setIfInBounds_toArray, List.set_cons_zero, List.set_cons_succ]
    refine wpAnyH_take (i := 5) (v := ?_) rfl (by kernel_rfl) (by kernel_rfl) (by kernel_rfl) (fun _ _ _ h => h) (Or.inl ⟨by rfl, ?_⟩) (by assumption) ?_
    rotate_left
    · intro w hSw
      (try dsimp only at hSw)
      go_simp
      all_goals with_reducible rfl
    try simp only [Act.put, List.getElem_toArray, List.getElem_cons_succ, List.getElem_cons_zero, List.setIfInBounds_toArray, List.set_cons_zero, List.set_cons_succ]
    clear c1 c2 c3
    refine wpAnyH_ready (rs := [4, 6, 8]) (by kernel_rfl) (by simp) ?_
    refine AllReadyH.cons rfl (fun K hK => ?_) (AllReadyH.cons rfl (fun K hK => ?_) (AllReadyH.cons rfl (fun K hK => ?_) AllReadyH.nil))
    · rw [if_pos (by rfl)]
      go_simp
      go_at_call 59
      refine (CL.out _ HB0).mono ?_
      rintro e x1 ⟨v1, rfl, ho1, hy1⟩
      have hs1 := HB0.size
      have HBx1 : Below w2.heap.size w2 x1 := HB0.trans (hy1.mono hs1)
      have hp1 := ho1.mono_ (base' := w2.heap.size) hs1
      refine hK.out _ _ ?_ (fun hHeld => ?_)
      · exact SH.out _ HBx1
      clear hK K
      try simp only [Act.put, List.getElem_toArray, List.getElem_cons_succ, List.getElem_cons_zero, List.setIfInBounds_toArray, List.set_cons_zero, List.set_cons_succ]
      refine wpAnyH_ready (rs := [6, 8]) (by kernel_rfl) (by simp) ?_
      refine AllReadyH.cons rfl (fun K hK => ?_) (AllReadyH.cons rfl (fun K hK => ?_) AllReadyH.nil)
      · rw [if_pos (by rfl)]
        go_simp
        obtain ⟨x2, e2⟩ : ∃ x, x = x1.alloc (.cells #[.int .i64 first] 2) := ⟨_, rfl⟩
        rw [← e2]
        have HBx2 : Below w2.heap.size w2 x2 := by rw [e2]; exact HBx1.alloc HBx1.size _
        have hn2 : x2.heap[x1.heap.size]? = some (.cells #[.int .i64 first] 2 (0, 0)) := by rw [e2]; exact heap_alloc_new _ _
        have ho2 : OwnV x2 w2.heap.size 2 v1 (i64V g.segs) := by rw [e2]; exact hp1.alloc _
        clear e2
        refine hK.out _ _ ?_ (fun hHeld => ?_)
        · exact SH.out _ HBx2
        clear hK K
        try simp only [Act.put, List.getElem_toArray, List.getElem_cons_succ, List.getElem_cons_zero, List.setIfInBounds_toArray, List.set_cons_zero, List.set_cons_succ]
        refine wpAnyH_ready (rs := [7, 8]) (by kernel_rfl) (by simp) ?_
        refine AllReadyH.cons rfl (fun K hK => ?_) (AllReadyH.cons rfl (fun K hK => ?_) AllReadyH.nil)
        · rw [if_pos (by rfl)]
          refine wp_append_ints (.tmp 13) (.tmp 15) 50 rfl w2.heap.size _ Tryz.underlying50 info_i64L v1 g.segs (by rfl) ho2 _ (some ⟨x1.heap.size, 0, none⟩) 1 1 [first] (by rfl) (row_lit1 hn2) rfl (fun h => by cases h) (by omega) HBx2.size ?_
          intro v3 x3 ho3 hg3 hw3
          have HBx3 : Below w2.heap.size w2 x3 := HBx2.grown hg3 HBx2.size (fun k hk => (ho2.at_base hk).1)
          have hol : ∀ k, v3.ownBlock = some k → w2.heap.size ≤ k ∧ k < x3.heap.size := fun k hk => ho3.at_base hk
          obtain ⟨a2, c2, hv3, hr, _⟩ := OwnV.out_ ho3
          have hnil0 := OwnV.nil_own ho3
          rw [← HK.out.2.2.1] at hv3 hr
          subst hv3
          have hnil : a2 = none → N = 0 ∧ c2 = 0 := fun h => by subst h; exact hnil0 _ _ rfl
          have hbl : ∀ k o, a2 = some ⟨k, o, none⟩ → w2.heap.size ≤ k ∧ k < x3.heap.size := fun k o e => by subst e; exact hol k rfl
          clear ho3 hol hnil0
          refine hK.out _ _ ?_ (fun hHeld => ?_)
          · exact SH.out _ HBx3
          clear hK K
          try simp only [Act.put, List.getElem_toArray, List.getElem_cons_succ, List.getElem_cons_zero, List.setIfInBounds_toArray, List.set_cons_zero, List.set_cons_succ]
          refine wpAnyH_ready (rs := [8]) (by kernel_rfl) (by simp) ?_
          refine AllReadyH.cons rfl (fun K hK => ?_) AllReadyH.nil
          · rw [if_pos (by rfl)]
            go_simp
            obtain ⟨x4, e4⟩ : ∃ x, x = x3.alloc (.cells #[.slice none 0 0] 50) := ⟨_, rfl⟩
            rw [← e4]
            have HBx4 : Below w2.heap.size w2 x4 := by rw [e4]; exact HBx3.alloc HBx3.size _
            have hn4 : x4.heap[x3.heap.size]? = some (.cells #[.slice none 0 0] 50 (0, 0)) := by rw [e4]; exact heap_alloc_new _ _
            have hgb : w2.heap.size ≤ x3.heap.size := HBx3.size
            have hr : Row x4 x4.heap.size a2 N c2 1 (intsC (g.segs ++ [first])) := by rw [e4]; exact hr.on9 ((Below.refl _ _).alloc (Nat.le_refl _) _)
            have hbb : ∀ k o, a2 = some ⟨k, o, none⟩ → w2.heap.size ≤ k ∧ k < x4.heap.size ∧ k ≠ x3.heap.size := fun k o e => by have h1 := hbl k o e; rw [e4]; simp; omega
            clear e4
            refine hK.out _ _ ?_ (fun hHeld => ?_)
            · exact SH.out _ HBx4
            clear hK K
            try simp only [Act.put, List.getElem_toArray, List.getElem_cons_succ, List.getElem_cons_zero, List.setIfInBounds_toArray, List.set_cons_zero, List.set_cons_succ]
            have cb : x4.cell? ⟨x3.heap.size, 0, none⟩ = some (.slice none 0 0) := (cell_of_row x4 x3.heap.size 0 _ _ _ hn4).trans rfl
            have zb : x4.frozen? ⟨x3.heap.size, 0, none⟩ = false := frozen_of_row x4 x3.heap.size 0 _ _ hn4
            refine wpAnyH_ready (rs := [9]) (by kernel_rfl) (by simp) ?_
            refine AllReadyH.cons rfl (fun K hK => ?_) AllReadyH.nil
            rw [if_pos (by rfl)]
            go_simp
            have SB := SegBox.store HBx4 hn4 hgb hr hbb hnil
            refine hK.out _ _ ?_ (fun hHeld => ?_)
            · exact SH.out _ SB.below
            clear hK K
            try simp only [Act.put, List.getElem_toArray, List.getElem_cons_succ, List.getElem_cons_zero, List.setIfInBounds_toArray, List.set_cons_zero, List.set_cons_succ]
            refine wpAnyH_done (by kernel_rfl) ?_ _
            refine NoPanic.normal ?_
            go_wp2_with fail
            go_meet
            case rel => exact SB
        · rw [if_pos (by rfl)]
          go_simp
          obtain ⟨x6, e6⟩ : ∃ x, x = x2.alloc (.cells #[.slice none 0 0] 50) := ⟨_, rfl⟩
          rw [← e6]
          have HBx6 : Below w2.heap.size w2 x6 := by rw [e6]; exact HBx2.alloc HBx2.size _
          have hn6 : x6.heap[x2.heap.size]? = some (.cells #[.slice none 0 0] 50 (0, 0)) := by rw [e6]; exact heap_alloc_new _ _
          have ho6 : OwnV x6 w2.heap.size 2 v1 (i64V g.segs) := by rw [e6]; exact ho2.alloc _
          have hl6 : x6.heap[x1.heap.size]? = some (.cells #[.int .i64 first] 2 (0, 0)) := by rw [e6]; exact (heap_alloc_old _ _ (lt_of_heap hn2)).trans hn2
          have hgb : w2.heap.size ≤ x2.heap.size := HBx2.size
          have hne : v1.ownBlock ≠ some x2.heap.size := fun e => by have h1 := (ho2.at_base e).2; omega
          clear e6
          refine hK.out _ _ ?_ (fun hHeld => ?_)
          · exact SH.out _ HBx6
          clear hK K
          try simp only [Act.put, List.getElem_toArray, List.getElem_cons_succ, List.getElem_cons_zero, List.setIfInBounds_toArray, List.set_cons_zero, List.set_cons_succ]
          refine wpAnyH_ready (rs := [7]) (by kernel_rfl) (by simp) ?_
          refine AllReadyH.cons rfl (fun K hK => ?_) AllReadyH.nil
          · rw [if_pos (by rfl)]
            refine wp_append_ints (.tmp 13) (.tmp 15) 50 rfl w2.heap.size _ Tryz.underlying50 info_i64L v1 g.segs (by rfl) ho6 _ (some ⟨x1.heap.size, 0, none⟩) 1 1 [first] (by rfl) (row_lit1 hl6) rfl (fun h => by cases h) (by omega) HBx6.size ?_
            intro v7 x7 ho7 hg7 hw7
            have HBx7 : Below w2.heap.size w2 x7 := HBx6.grown hg7 HBx6.size (fun k hk => (ho6.at_base hk).1)
            have hx7 := (hg7.block _ (lt_of_heap hn6) (fun e => hne e.symm)).trans hn6
            have hne2 : v7.ownBlock ≠ some x2.heap.size := fun e => by rcases hw7 with h1 | h1; exact hne (h1.symm.trans e); have h2 := lt_of_heap hn6; rw [h1] at e; injection e with e; omega
            have hol : ∀ k, v7.ownBlock = some k → w2.heap.size ≤ k ∧ k < x7.heap.size := fun k hk => ho7.at_base hk
            obtain ⟨a2, c2, hv7, hr, _⟩ := OwnV.out_ ho7
            have hnil0 := OwnV.nil_own ho7
            rw [← HK.out.2.2.1] at hv7 hr
            subst hv7
            have hnil : a2 = none → N = 0 ∧ c2 = 0 := fun h => by subst h; exact hnil0 _ _ rfl
            have hbl : ∀ k o, a2 = some ⟨k, o, none⟩ → w2.heap.size ≤ k ∧ k < x7.heap.size := fun k o e => by subst e; exact hol k rfl
            have hbb : ∀ k o, a2 = some ⟨k, o, none⟩ → w2.heap.size ≤ k ∧ k < x7.heap.size ∧ k ≠ x2.heap.size := fun k o e => by have h1 := hbl k o e; refine ⟨h1.1, h1.2, fun h => ?_⟩; subst e; subst h; exact hne2 rfl
            clear ho7 hol hnil0
            refine hK.out _ _ ?_ (fun hHeld => ?_)
            · exact SH.out _ HBx7
            clear hK K
            try simp only [Act.put, List.getElem_toArray, List.getElem_cons_succ, List.getElem_cons_zero, List.setIfInBounds_toArray, List.set_cons_zero, List.set_cons_succ]
            have cb : x7.cell? ⟨x2.heap.size, 0, none⟩ = some (.slice none 0 0) := (cell_of_row x7 x2.heap.size 0 _ _ _ hx7).trans rfl
            have zb : x7.frozen? ⟨x2.heap.size, 0, none⟩ = false := frozen_of_row x7 x2.heap.size 0 _ _ hx7
            refine wpAnyH_ready (rs := [9]) (by kernel_rfl) (by simp) ?_
            refine AllReadyH.cons rfl (fun K hK => ?_) AllReadyH.nil
            rw [if_pos (by rfl)]
            go_simp
            have SB := SegBox.store HBx7 hx7 hgb hr hbb hnil
            refine hK.out _ _ ?_ (fun hHeld => ?_)
            · exact SH.out _ SB.below
            clear hK K
            try simp only [Act.put, List.getElem_toArray, List.getElem_cons_succ, List.getElem_cons_zero, List.setIfInBounds_toArray, List.set_cons_zero, List.set_cons_succ]
            refine wpAnyH_done (by kernel_rfl) ?_ _
            refine NoPanic.normal ?_
            go_wp2_with fail
            go_meet
            case rel => exact SB
      · rw [if_pos (by rfl)]
        go_simp
        obtain ⟨x9, e9⟩ : ∃ x, x = x1.alloc (.cells #[.slice none 0 0] 50) := ⟨_, rfl⟩
        rw [← e9]
        have HBx9 : Below w2.heap.size w2 x9 := by rw [e9]; exact HBx1.alloc HBx1.size _
        have hn9 : x9.heap[x1.heap.size]? = some (.cells #[.slice none 0 0] 50 (0, 0)) := by rw [e9]; exact heap_alloc_new _ _
        have ho9 : OwnV x9 w2.heap.size 2 v1 (i64V g.segs) := by rw [e9]; exact hp1.alloc _
        have hgb : w2.heap.size ≤ x1.heap.size := HBx1.size
        have hne : v1.ownBlock ≠ some x1.heap.size := fun e => by have h1 := (hp1.at_base e).2; omega
        clear e9
        refine hK.out _ _ ?_ (fun hHeld => ?_)
        · exact SH.out _ HBx9
        clear hK K
        try simp only [Act.put, List.getElem_toArray, List.getElem_cons_succ, List.getElem_cons_zero, List.setIfInBounds_toArray, List.set_cons_zero, List.set_cons_succ]
        refine wpAnyH_ready (rs := [6]) (by kernel_rfl) (by simp) ?_
        refine AllReadyH.cons rfl (fun K hK => ?_) AllReadyH.nil
        · rw [if_pos (by rfl)]
          go_simp
          obtain ⟨x10, e10⟩ : ∃ x, x = x9.alloc (.cells #[.int .i64 first] 2) := ⟨_, rfl⟩
          rw [← e10]
          have HBx10 : Below w2.heap.size w2 x10 := by rw [e10]; exact HBx9.alloc HBx9.size _
          have hn10 : x10.heap[x9.heap.size]? = some (.cells #[.int .i64 first] 2 (0, 0)) := by rw [e10]; exact heap_alloc_new _ _
          have ho10 : OwnV x10 w2.heap.size 2 v1 (i64V g.segs) := by rw [e10]; exact ho9.alloc _
          have hx10 : x10.heap[x1.heap.size]? = some (.cells #[.slice none 0 0] 50 (0, 0)) := by rw [e10]; exact (heap_alloc_old _ _ (lt_of_heap hn9)).trans hn9
          clear e10
          refine hK.out _ _ ?_ (fun hHeld => ?_)
          · exact SH.out _ HBx10
          clear hK K
          try simp only [Act.put, List.getElem_toArray, List.getElem_cons_succ, List.getElem_cons_zero, List.setIfInBounds_toArray, List.set_cons_zero, List.set_cons_succ]
          refine wpAnyH_ready (rs := [7]) (by kernel_rfl) (by simp) ?_
          refine AllReadyH.cons rfl (fun K hK => ?_) AllReadyH.nil
          · rw [if_pos (by rfl)]
            refine wp_append_ints (.tmp 13) (.tmp 15) 50 rfl w2.heap.size _ Tryz.underlying50 info_i64L v1 g.segs (by rfl) ho10 _ (some ⟨x9.heap.size, 0, none⟩) 1 1 [first] (by rfl) (row_lit1 hn10) rfl (fun h => by cases h) (by omega) HBx10.size ?_
            intro v11 x11 ho11 hg11 hw11
            have HBx11 : Below w2.heap.size w2 x11 := HBx10.grown hg11 HBx10.size (fun k hk => (ho10.at_base hk).1)
            have hx11 := (hg11.block _ (lt_of_heap hx10) (fun e => hne e.symm)).trans hx10
            have hne2 : v11.ownBlock ≠ some x1.heap.size := fun e => by rcases hw11 with h1 | h1; exact hne (h1.symm.trans e); have h2 := lt_of_heap hx10; rw [h1] at e; injection e with e; omega
            have hol : ∀ k, v11.ownBlock = some k → w2.heap.size ≤ k ∧ k < x11.heap.size := fun k hk => ho11.at_base hk
            obtain ⟨a2, c2, hv11, hr, _⟩ := OwnV.out_ ho11
            have hnil0 := OwnV.nil_own ho11
            rw [← HK.out.2.2.1] at hv11 hr
            subst hv11
            have hnil : a2 = none → N = 0 ∧ c2 = 0 := fun h => by subst h; exact hnil0 _ _ rfl
            have hbl : ∀ k o, a2 = some ⟨k, o, none⟩ → w2.heap.size ≤ k ∧ k < x11.heap.size := fun k o e => by subst e; exact hol k rfl
            have hbb : ∀ k o, a2 = some ⟨k, o, none⟩ → w2.heap.size ≤ k ∧ k < x11.heap.size ∧ k ≠ x1.heap.size := fun k o e => by have h1 := hbl k o e; refine ⟨h1.1, h1.2, fun h => ?_⟩; subst e; subst h; exact hne2 rfl
            clear ho11 hol hnil0
            refine hK.out _ _ ?_ (fun hHeld => ?_)
            · exact SH.out _ HBx11
            clear hK K
            try simp only [Act.put, List.getElem_toArray, List.getElem_cons_succ, List.getElem_cons_zero, List.setIfInBounds_toArray, List.set_cons_zero, List.set_cons_succ]
            have cb : x11.cell? ⟨x1.heap.size, 0, none⟩ = some (.slice none 0 0) := (cell_of_row x11 x1.heap.size 0 _ _ _ hx11).trans rfl
            have zb : x11.frozen? ⟨x1.heap.size, 0, none⟩ = false := frozen_of_row x11 x1.heap.size 0 _ _ hx11
            refine wpAnyH_ready (rs := [9]) (by kernel_rfl) (by simp) ?_
            refine AllReadyH.cons rfl (fun K hK => ?_) AllReadyH.nil
            rw [if_pos (by rfl)]
            go_simp
            have SB := SegBox.store HBx11 hx11 hgb hr hbb hnil
            refine hK.out _ _ ?_ (fun hHeld => ?_)
            · exact SH.out _ SB.below
            clear hK K
            try simp only [Act.put, List.getElem_toArray, List.getElem_cons_succ, List.getElem_cons_zero, List.setIfInBounds_toArray, List.set_cons_zero, List.set_cons_succ]
            refine wpAnyH_done (by kernel_rfl) ?_ _
            refine NoPanic.normal ?_
            go_wp2_with fail
            go_meet
            case rel => exact SB
    · rw [if_pos (by rfl)]
      go_simp
      obtain ⟨x13, e13⟩ : ∃ x, x = (w2.alloc (.cells #[.int .i64 first] 2)).drew := ⟨_, rfl⟩
      rw [← e13]
      have HBx13 : Below w2.heap.size w2 x13 := by rw [e13]; exact ((Below.refl w2.heap.size w2).alloc (Nat.le_refl _) _).drew
      have hn13 : x13.heap[w2.heap.size]? = some (.cells #[.int .i64 first] 2 (0, 0)) := by rw [e13]; exact heap_alloc_new _ _
      clear e13
      refine hK.out _ _ ?_ (fun hHeld => ?_)
      · exact SH.out _ HBx13
      clear hK K
      try simp only [Act.put, List.getElem_toArray, List.getElem_cons_succ, List.getElem_cons_zero, List.setIfInBounds_toArray, List.set_cons_zero, List.set_cons_succ]
      refine wpAnyH_ready (rs := [4, 8]) (by kernel_rfl) (by simp) ?_
      refine AllReadyH.cons rfl (fun K hK => ?_) (AllReadyH.cons rfl (fun K hK => ?_) AllReadyH.nil)
      · rw [if_pos (by rfl)]
        go_simp
        go_at_call 59
        refine (CL.out _ HBx13).mono ?_
        rintro e x14 ⟨v14, rfl, ho14, hy14⟩
        have hs14 := HBx13.size
        have HBx14 : Below w2.heap.size w2 x14 := HBx13.trans (hy14.mono hs14)
        have hl14 := (hy14.block _ (lt_of_heap hn13)).trans hn13
        have hp14 := ho14.mono_ (base' := w2.heap.size) hs14
        refine hK.out _ _ ?_ (fun hHeld => ?_)
        · exact SH.out _ HBx14
        clear hK K
        try simp only [Act.put, List.getElem_toArray, List.getElem_cons_succ, List.getElem_cons_zero, List.setIfInBounds_toArray, List.set_cons_zero, List.set_cons_succ]
        refine wpAnyH_ready (rs := [7, 8]) (by kernel_rfl) (by simp) ?_
        refine AllReadyH.cons rfl (fun K hK => ?_) (AllReadyH.cons rfl (fun K hK => ?_) AllReadyH.nil)
        · rw [if_pos (by rfl)]
          refine wp_append_ints (.tmp 13) (.tmp 15) 50 rfl w2.heap.size _ Tryz.underlying50 info_i64L v14 g.segs (by rfl) hp14 _ (some ⟨w2.heap.size, 0, none⟩) 1 1 [first] (by rfl) (row_lit1 hl14) rfl (fun h => by cases h) (by omega) HBx14.size ?_
          intro v15 x15 ho15 hg15 hw15
          have HBx15 : Below w2.heap.size w2 x15 := HBx14.grown hg15 HBx14.size (fun k hk => (hp14.at_base hk).1)
          have hol : ∀ k, v15.ownBlock = some k → w2.heap.size ≤ k ∧ k < x15.heap.size := fun k hk => ho15.at_base hk
          obtain ⟨a2, c2, hv15, hr, _⟩ := OwnV.out_ ho15
          have hnil0 := OwnV.nil_own ho15
          rw [← HK.out.2.2.1] at hv15 hr
          subst hv15
          have hnil : a2 = none → N = 0 ∧ c2 = 0 := fun h => by subst h; exact hnil0 _ _ rfl
          have hbl : ∀ k o, a2 = some ⟨k, o, none⟩ → w2.heap.size ≤ k ∧ k < x15.heap.size := fun k o e => by subst e; exact hol k rfl
          clear ho15 hol hnil0
          refine hK.out _ _ ?_ (fun hHeld => ?_)
          · exact SH.out _ HBx15
          clear hK K
          try simp only [Act.put, List.getElem_toArray, List.getElem_cons_succ, List.getElem_cons_zero, List.setIfInBounds_toArray, List.set_cons_zero, List.set_cons_succ]
          refine wpAnyH_ready (rs := [8]) (by kernel_rfl) (by simp) ?_
          refine AllReadyH.cons rfl (fun K hK => ?_) AllReadyH.nil
          · rw [if_pos (by rfl)]
            go_simp
            obtain ⟨x16, e16⟩ : ∃ x, x = x15.alloc (.cells #[.slice none 0 0] 50) := ⟨_, rfl⟩
            rw [← e16]
            have HBx16 : Below w2.heap.size w2 x16 := by rw [e16]; exact HBx15.alloc HBx15.size _
            have hn16 : x16.heap[x15.heap.size]? = some (.cells #[.slice none 0 0] 50 (0, 0)) := by rw [e16]; exact heap_alloc_new _ _
            have hgb : w2.heap.size ≤ x15.heap.size := HBx15.size
            have hr : Row x16 x16.heap.size a2 N c2 1 (intsC (g.segs ++ [first])) := by rw [e16]; exact hr.on9 ((Below.refl _ _).alloc (Nat.le_refl _) _)
            have hbb : ∀ k o, a2 = some ⟨k, o, none⟩ → w2.heap.size ≤ k ∧ k < x16.heap.size ∧ k ≠ x15.heap.size := fun k o e => by have h1 := hbl k o e; rw [e16]; simp; omega
            clear e16
            refine hK.out _ _ ?_ (fun hHeld => ?_)
            · exact SH.out _ HBx16
            clear hK K
            try simp only [Act.put, List.getElem_toArray, List.getElem_cons_succ, List.getElem_cons_zero, List.setIfInBounds_toArray, List.set_cons_zero, List.set_cons_succ]
            have cb : x16.cell? ⟨x15.heap.size, 0, none⟩ = some (.slice none 0 0) := (cell_of_row x16 x15.heap.size 0 _ _ _ hn16).trans rfl
            have zb : x16.frozen? ⟨x15.heap.size, 0, none⟩ = false := frozen_of_row x16 x15.heap.size 0 _ _ hn16
            refine wpAnyH_ready (rs := [9]) (by kernel_rfl) (by simp) ?_
            refine AllReadyH.cons rfl (fun K hK => ?_) AllReadyH.nil
            rw [if_pos (by rfl)]
            go_simp
            have SB := SegBox.store HBx16 hn16 hgb hr hbb hnil
            refine hK.out _ _ ?_ (fun hHeld => ?_)
            · exact SH.out _ SB.below
            clear hK K
            try simp only [Act.put, List.getElem_toArray, List.getElem_cons_succ, List.getElem_cons_zero, List.setIfInBounds_toArray, List.set_cons_zero, List.set_cons_succ]
            refine wpAnyH_done (by kernel_rfl) ?_ _
            refine NoPanic.normal ?_
            go_wp2_with fail
            go_meet
            case rel => exact SB
        · rw [if_pos (by rfl)]
          go_simp
          obtain ⟨x18, e18⟩ : ∃ x, x = x14.alloc (.cells #[.slice none 0 0] 50) := ⟨_, rfl⟩
          rw [← e18]
          have HBx18 : Below w2.heap.size w2 x18 := by rw [e18]; exact HBx14.alloc HBx14.size _
          have hn18 : x18.heap[x14.heap.size]? = some (.cells #[.slice none 0 0] 50 (0, 0)) := by rw [e18]; exact heap_alloc_new _ _
          have ho18 : OwnV x18 w2.heap.size 2 v14 (i64V g.segs) := by rw [e18]; exact hp14.alloc _
          have hl18 : x18.heap[w2.heap.size]? = some (.cells #[.int .i64 first] 2 (0, 0)) := by rw [e18]; exact (heap_alloc_old _ _ (lt_of_heap hl14)).trans hl14
          have hgb : w2.heap.size ≤ x14.heap.size := HBx14.size
          have hne : v14.ownBlock ≠ some x14.heap.size := fun e => by have h1 := (hp14.at_base e).2; omega
          clear e18
          refine hK.out _ _ ?_ (fun hHeld => ?_)
          · exact SH.out _ HBx18
          clear hK K
          try simp only [Act.put, List.getElem_toArray, List.getElem_cons_succ, List.getElem_cons_zero, List.setIfInBounds_toArray, List.set_cons_zero, List.set_cons_succ]
          refine wpAnyH_ready (rs := [7]) (by kernel_rfl) (by simp) ?_
          refine AllReadyH.cons rfl (fun K hK => ?_) AllReadyH.nil
          · rw [if_pos (by rfl)]
            refine wp_append_ints (.tmp 13) (.tmp 15) 50 rfl w2.heap.size _ Tryz.underlying50 info_i64L v14 g.segs (by rfl) ho18 _ (some ⟨w2.heap.size, 0, none⟩) 1 1 [first] (by rfl) (row_lit1 hl18) rfl (fun h => by cases h) (by omega) HBx18.size ?_
            intro v19 x19 ho19 hg19 hw19
            have HBx19 : Below w2.heap.size w2 x19 := HBx18.grown hg19 HBx18.size (fun k hk => (ho18.at_base hk).1)
            have hx19 := (hg19.block _ (lt_of_heap hn18) (fun e => hne e.symm)).trans hn18
            have hne2 : v19.ownBlock ≠ some x14.heap.size := fun e => by rcases hw19 with h1 | h1; exact hne (h1.symm.trans e); have h2 := lt_of_heap hn18; rw [h1] at e; injection e with e; omega
            have hol : ∀ k, v19.ownBlock = some k → w2.heap.size ≤ k ∧ k < x19.heap.size := fun k hk => ho19.at_base hk
            obtain ⟨a2, c2, hv19, hr, _⟩ := OwnV.out_ ho19
            have hnil0 := OwnV.nil_own ho19
            rw [← HK.out.2.2.1] at hv19 hr
            subst hv19
            have hnil : a2 = none → N = 0 ∧ c2 = 0 := fun h => by subst h; exact hnil0 _ _ rfl
            have hbl : ∀ k o, a2 = some ⟨k, o, none⟩ → w2.heap.size ≤ k ∧ k < x19.heap.size := fun k o e => by subst e; exact hol k rfl
            have hbb : ∀ k o, a2 = some ⟨k, o, none⟩ → w2.heap.size ≤ k ∧ k < x19.heap.size ∧ k ≠ x14.heap.size := fun k o e => by have h1 := hbl k o e; refine ⟨h1.1, h1.2, fun h => ?_⟩; subst e; subst h; exact hne2 rfl
            clear ho19 hol hnil0
            refine hK.out _ _ ?_ (fun hHeld => ?_)
            · exact SH.out _ HBx19
            clear hK K
            try simp only [Act.put, List.getElem_toArray, List.getElem_cons_succ, List.getElem_cons_zero, List.setIfInBounds_toArray, List.set_cons_zero, List.set_cons_succ]
            have cb : x19.cell? ⟨x14.heap.size, 0, none⟩ = some (.slice none 0 0) := (cell_of_row x19 x14.heap.size 0 _ _ _ hx19).trans rfl
            have zb : x19.frozen? ⟨x14.heap.size, 0, none⟩ = false := frozen_of_row x19 x14.heap.size 0 _ _ hx19
            refine wpAnyH_ready (rs := [9]) (by kernel_rfl) (by simp) ?_
            refine AllReadyH.cons rfl (fun K hK => ?_) AllReadyH.nil
            rw [if_pos (by rfl)]
            go_simp
            have SB := SegBox.store HBx19 hx19 hgb hr hbb hnil
            refine hK.out _ _ ?_ (fun hHeld => ?_)
            · exact SH.out _ SB.below
            clear hK K
            try simp only [Act.put, List.getElem_toArray, List.getElem_cons_succ, List.getElem_cons_zero, List.setIfInBounds_toArray, List.set_cons_zero, List.set_cons_succ]
            refine wpAnyH_done (by kernel_rfl) ?_ _
            refine NoPanic.normal ?_
            go_wp2_with fail
            go_meet
            case rel => exact SB
      · rw [if_pos (by rfl)]
        go_simp
        obtain ⟨x21, e21⟩ : ∃ x, x = x13.alloc (.cells #[.slice none 0 0] 50) := ⟨_, rfl⟩
        rw [← e21]
        have HBx21 : Below w2.heap.size w2 x21 := by rw [e21]; exact HBx13.alloc HBx13.size _
        have hn21 : x21.heap[x13.heap.size]? = some (.cells #[.slice none 0 0] 50 (0, 0)) := by rw [e21]; exact heap_alloc_new _ _
        have hl21 : x21.heap[w2.heap.size]? = some (.cells #[.int .i64 first] 2 (0, 0)) := by rw [e21]; exact (heap_alloc_old _ _ (lt_of_heap hn13)).trans hn13
        have hgb : w2.heap.size ≤ x13.heap.size := HBx13.size
        clear e21
        refine hK.out _ _ ?_ (fun hHeld => ?_)
        · exact SH.out _ HBx21
        clear hK K
        try simp only [Act.put, List.getElem_toArray, List.getElem_cons_succ, List.getElem_cons_zero, List.setIfInBounds_toArray, List.set_cons_zero, List.set_cons_succ]
        refine wpAnyH_ready (rs := [4]) (by kernel_rfl) (by simp) ?_
        refine AllReadyH.cons rfl (fun K hK => ?_) AllReadyH.nil
        · rw [if_pos (by rfl)]
          go_simp
          go_at_call 59
          refine (CL.out _ HBx21).mono ?_
          rintro e x22 ⟨v22, rfl, ho22, hy22⟩
          have hs22 := HBx21.size
          have HBx22 : Below w2.heap.size w2 x22 := HBx21.trans (hy22.mono hs22)
          have hl22 := (hy22.block _ (lt_of_heap hl21)).trans hl21
          have hx22 := (hy22.block _ (lt_of_heap hn21)).trans hn21
          have hne : v22.ownBlock ≠ some x13.heap.size := fun e => by have h1 := (ho22.at_base e).1; have h2 := lt_of_heap hn21; omega
          have hp22 := ho22.mono_ (base' := w2.heap.size) hs22
          refine hK.out _ _ ?_ (fun hHeld => ?_)
          · exact SH.out _ HBx22
          clear hK K
          try simp only [Act.put, List.getElem_toArray, List.getElem_cons_succ, List.getElem_cons_zero, List.setIfInBounds_toArray, List.set_cons_zero, List.set_cons_succ]
          refine wpAnyH_ready (rs := [7]) (by kernel_rfl) (by simp) ?_
          refine AllReadyH.cons rfl (fun K hK => ?_) AllReadyH.nil
          · rw [if_pos (by rfl)]
            refine wp_append_ints (.tmp 13) (.tmp 15) 50 rfl w2.heap.size _ Tryz.underlying50 info_i64L v22 g.segs (by rfl) hp22 _ (some ⟨w2.heap.size, 0, none⟩) 1 1 [first] (by rfl) (row_lit1 hl22) rfl (fun h => by cases h) (by omega) HBx22.size ?_
            intro v23 x23 ho23 hg23 hw23
            have HBx23 : Below w2.heap.size w2 x23 := HBx22.grown hg23 HBx22.size (fun k hk => (hp22.at_base hk).1)
            have hx23 := (hg23.block _ (lt_of_heap hx22) (fun e => hne e.symm)).trans hx22
            have hne2 : v23.ownBlock ≠ some x13.heap.size := fun e => by rcases hw23 with h1 | h1; exact hne (h1.symm.trans e); have h2 := lt_of_heap hx22; rw [h1] at e; injection e with e; omega
            have hol : ∀ k, v23.ownBlock = some k → w2.heap.size ≤ k ∧ k < x23.heap.size := fun k hk => ho23.at_base hk
            obtain ⟨a2, c2, hv23, hr, _⟩ := OwnV.out_ ho23
            have hnil0 := OwnV.nil_own ho23
            rw [← HK.out.2.2.1] at hv23 hr
            subst hv23
            have hnil : a2 = none → N = 0 ∧ c2 = 0 := fun h => by subst h; exact hnil0 _ _ rfl
            have hbl : ∀ k o, a2 = some ⟨k, o, none⟩ → w2.heap.size ≤ k ∧ k < x23.heap.size := fun k o e => by subst e; exact hol k rfl
            have hbb : ∀ k o, a2 = some ⟨k, o, none⟩ → w2.heap.size ≤ k ∧ k < x23.heap.size ∧ k ≠ x13.heap.size := fun k o e => by have h1 := hbl k o e; refine ⟨h1.1, h1.2, fun h => ?_⟩; subst e; subst h; exact hne2 rfl
            clear ho23 hol hnil0
            refine hK.out _ _ ?_ (fun hHeld => ?_)
            · exact SH.out _ HBx23
            clear hK K
            try simp only [Act.put, List.getElem_toArray, List.getElem_cons_succ, List.getElem_cons_zero, List.setIfInBounds_toArray, List.set_cons_zero, List.set_cons_succ]
            have cb : x23.cell? ⟨x13.heap.size, 0, none⟩ = some (.slice none 0 0) := (cell_of_row x23 x13.heap.size 0 _ _ _ hx23).trans rfl
            have zb : x23.frozen? ⟨x13.heap.size, 0, none⟩ = false := frozen_of_row x23 x13.heap.size 0 _ _ hx23
            refine wpAnyH_ready (rs := [9]) (by kernel_rfl) (by simp) ?_
            refine AllReadyH.cons rfl (fun K hK => ?_) AllReadyH.nil
            rw [if_pos (by rfl)]
            go_simp
            have SB := SegBox.store HBx23 hx23 hgb hr hbb hnil
            refine hK.out _ _ ?_ (fun hHeld => ?_)
            · exact SH.out _ SB.below
            clear hK K
            try simp only [Act.put, List.getElem_toArray, List.getElem_cons_succ, List.getElem_cons_zero, List.setIfInBounds_toArray, List.set_cons_zero, List.set_cons_succ]
            refine wpAnyH_done (by kernel_rfl) ?_ _
            refine NoPanic.normal ?_
            go_wp2_with fail
            go_meet
            case rel => exact SB
    · rw [if_pos (by rfl)]
      go_simp
      obtain ⟨x25, e25⟩ : ∃ x, x = (w2.alloc (.cells #[.slice none 0 0] 50)).drew := ⟨_, rfl⟩
      rw [← e25]
      have HBx25 : Below w2.heap.size w2 x25 := by rw [e25]; exact ((Below.refl w2.heap.size w2).alloc (Nat.le_refl _) _).drew
      have hn25 : x25.heap[w2.heap.size]? = some (.cells #[.slice none 0 0] 50 (0, 0)) := by rw [e25]; exact heap_alloc_new _ _
      have hgb : w2.heap.size ≤ w2.heap.size := Nat.le_refl _
      clear e25
      refine hK.out _ _ ?_ (fun hHeld => ?_)
      · exact SH.out _ HBx25
      clear hK K
      try simp only [Act.put, List.getElem_toArray, List.getElem_cons_succ, List.getElem_cons_zero, List.setIfInBounds_toArray, List.set_cons_zero, List.set_cons_succ]
      refine wpAnyH_ready (rs := [4, 6]) (by kernel_rfl) (by simp) ?_
      refine AllReadyH.cons rfl (fun K hK => ?_) (AllReadyH.cons rfl (fun K hK => ?_) AllReadyH.nil)
      · rw [if_pos (by rfl)]
        go_simp
        go_at_call 59
        refine (CL.out _ HBx25).mono ?_
        rintro e x26 ⟨v26, rfl, ho26, hy26⟩
        have hs26 := HBx25.size
        have HBx26 : Below w2.heap.size w2 x26 := HBx25.trans (hy26.mono hs26)
        have hx26 := (hy26.block _ (lt_of_heap hn25)).trans hn25
        have hne : v26.ownBlock ≠ some w2.heap.size := fun e => by have h1 := (ho26.at_base e).1; have h2 := lt_of_heap hn25; omega
        have hp26 := ho26.mono_ (base' := w2.heap.size) hs26
        refine hK.out _ _ ?_ (fun hHeld => ?_)
        · exact SH.out _ HBx26
        clear hK K
        try simp only [Act.put, List.getElem_toArray, List.getElem_cons_succ, List.getElem_cons_zero, List.setIfInBounds_toArray, List.set_cons_zero, List.set_cons_succ]
        refine wpAnyH_ready (rs := [6]) (by kernel_rfl) (by simp) ?_
        refine AllReadyH.cons rfl (fun K hK => ?_) AllReadyH.nil
        · rw [if_pos (by rfl)]
          go_simp
          obtain ⟨x27, e27⟩ : ∃ x, x = x26.alloc (.cells #[.int .i64 first] 2) := ⟨_, rfl⟩
          rw [← e27]
          have HBx27 : Below w2.heap.size w2 x27 := by rw [e27]; exact HBx26.alloc HBx26.size _
          have hn27 : x27.heap[x26.heap.size]? = some (.cells #[.int .i64 first] 2 (0, 0)) := by rw [e27]; exact heap_alloc_new _ _
          have ho27 : OwnV x27 w2.heap.size 2 v26 (i64V g.segs) := by rw [e27]; exact hp26.alloc _
          have hx27 : x27.heap[w2.heap.size]? = some (.cells #[.slice none 0 0] 50 (0, 0)) := by rw [e27]; exact (heap_alloc_old _ _ (lt_of_heap hx26)).trans hx26
          clear e27
          refine hK.out _ _ ?_ (fun hHeld => ?_)
          · exact SH.out _ HBx27
          clear hK K
          try simp only [Act.put, List.getElem_toArray, List.getElem_cons_succ, List.getElem_cons_zero, List.setIfInBounds_toArray, List.set_cons_zero, List.set_cons_succ]
          refine wpAnyH_ready (rs := [7]) (by kernel_rfl) (by simp) ?_
          refine AllReadyH.cons rfl (fun K hK => ?_) AllReadyH.nil
          · rw [if_pos (by rfl)]
            refine wp_append_ints (.tmp 13) (.tmp 15) 50 rfl w2.heap.size _ Tryz.underlying50 info_i64L v26 g.segs (by rfl) ho27 _ (some ⟨x26.heap.size, 0, none⟩) 1 1 [first] (by rfl) (row_lit1 hn27) rfl (fun h => by cases h) (by omega) HBx27.size ?_
            intro v28 x28 ho28 hg28 hw28
            have HBx28 : Below w2.heap.size w2 x28 := HBx27.grown hg28 HBx27.size (fun k hk => (ho27.at_base hk).1)
            have hx28 := (hg28.block _ (lt_of_heap hx27) (fun e => hne e.symm)).trans hx27
            have hne2 : v28.ownBlock ≠ some w2.heap.size := fun e => by rcases hw28 with h1 | h1; exact hne (h1.symm.trans e); have h2 := lt_of_heap hx27; rw [h1] at e; injection e with e; omega
            have hol : ∀ k, v28.ownBlock = some k → w2.heap.size ≤ k ∧ k < x28.heap.size := fun k hk => ho28.at_base hk
            obtain ⟨a2, c2, hv28, hr, _⟩ := OwnV.out_ ho28
            have hnil0 := OwnV.nil_own ho28
            rw [← HK.out.2.2.1] at hv28 hr
            subst hv28
            have hnil : a2 = none → N = 0 ∧ c2 = 0 := fun h => by subst h; exact hnil0 _ _ rfl
            have hbl : ∀ k o, a2 = some ⟨k, o, none⟩ → w2.heap.size ≤ k ∧ k < x28.heap.size := fun k o e => by subst e; exact hol k rfl
            have hbb : ∀ k o, a2 = some ⟨k, o, none⟩ → w2.heap.size ≤ k ∧ k < x28.heap.size ∧ k ≠ w2.heap.size := fun k o e => by have h1 := hbl k o e; refine ⟨h1.1, h1.2, fun h => ?_⟩; subst e; subst h; exact hne2 rfl
            clear ho28 hol hnil0
            refine hK.out _ _ ?_ (fun hHeld => ?_)
            · exact SH.out _ HBx28
            clear hK K
            try simp only [Act.put, List.getElem_toArray, List.getElem_cons_succ, List.getElem_cons_zero, List.setIfInBounds_toArray, List.set_cons_zero, List.set_cons_succ]
            have cb : x28.cell? ⟨w2.heap.size, 0, none⟩ = some (.slice none 0 0) := (cell_of_row x28 w2.heap.size 0 _ _ _ hx28).trans rfl
            have zb : x28.frozen? ⟨w2.heap.size, 0, none⟩ = false := frozen_of_row x28 w2.heap.size 0 _ _ hx28
            refine wpAnyH_ready (rs := [9]) (by kernel_rfl) (by simp) ?_
            refine AllReadyH.cons rfl (fun K hK => ?_) AllReadyH.nil
            rw [if_pos (by rfl)]
            go_simp
            have SB := SegBox.store HBx28 hx28 hgb hr hbb hnil
            refine hK.out _ _ ?_ (fun hHeld => ?_)
            · exact SH.out _ SB.below
            clear hK K
            try simp only [Act.put, List.getElem_toArray, List.getElem_cons_succ, List.getElem_cons_zero, List.setIfInBounds_toArray, List.set_cons_zero, List.set_cons_succ]
            refine wpAnyH_done (by kernel_rfl) ?_ _
            refine NoPanic.normal ?_
            go_wp2_with fail
            go_meet
            case rel => exact SB
      · rw [if_pos (by rfl)]
        go_simp
        obtain ⟨x30, e30⟩ : ∃ x, x = x25.alloc (.cells #[.int .i64 first] 2) := ⟨_, rfl⟩
        rw [← e30]
        have HBx30 : Below w2.heap.size w2 x30 := by rw [e30]; exact HBx25.alloc HBx25.size _
        have hn30 : x30.heap[x25.heap.size]? = some (.cells #[.int .i64 first] 2 (0, 0)) := by rw [e30]; exact heap_alloc_new _ _
        have hx30 : x30.heap[w2.heap.size]? = some (.cells #[.slice none 0 0] 50 (0, 0)) := by rw [e30]; exact (heap_alloc_old _ _ (lt_of_heap hn25)).trans hn25
        clear e30
        refine hK.out _ _ ?_ (fun hHeld => ?_)
        · exact SH.out _ HBx30
        clear hK K
        try simp only [Act.put, List.getElem_toArray, List.getElem_cons_succ, List.getElem_cons_zero, List.setIfInBounds_toArray, List.set_cons_zero, List.set_cons_succ]
        refine wpAnyH_ready (rs := [4]) (by kernel_rfl) (by simp) ?_
        refine AllReadyH.cons rfl (fun K hK => ?_) AllReadyH.nil
        · rw [if_pos (by rfl)]
          go_simp
          go_at_call 59
          refine (CL.out _ HBx30).mono ?_
          rintro e x31 ⟨v31, rfl, ho31, hy31⟩
          have hs31 := HBx30.size
          have HBx31 : Below w2.heap.size w2 x31 := HBx30.trans (hy31.mono hs31)
          have hl31 := (hy31.block _ (lt_of_heap hn30)).trans hn30
          have hx31 := (hy31.block _ (lt_of_heap hx30)).trans hx30
          have hne : v31.ownBlock ≠ some w2.heap.size := fun e => by have h1 := (ho31.at_base e).1; have h2 := lt_of_heap hx30; omega
          have hp31 := ho31.mono_ (base' := w2.heap.size) hs31
          refine hK.out _ _ ?_ (fun hHeld => ?_)
          · exact SH.out _ HBx31
          clear hK K
          try simp only [Act.put, List.getElem_toArray, List.getElem_cons_succ, List.getElem_cons_zero, List.setIfInBounds_toArray, List.set_cons_zero, List.set_cons_succ]
          refine wpAnyH_ready (rs := [7]) (by kernel_rfl) (by simp) ?_
          refine AllReadyH.cons rfl (fun K hK => ?_) AllReadyH.nil
          · rw [if_pos (by rfl)]
            refine wp_append_ints (.tmp 13) (.tmp 15) 50 rfl w2.heap.size _ Tryz.underlying50 info_i64L v31 g.segs (by rfl) hp31 _ (some ⟨x25.heap.size, 0, none⟩) 1 1 [first] (by rfl) (row_lit1 hl31) rfl (fun h => by cases h) (by omega) HBx31.size ?_
            intro v32 x32 ho32 hg32 hw32
            have HBx32 : Below w2.heap.size w2 x32 := HBx31.grown hg32 HBx31.size (fun k hk => (hp31.at_base hk).1)
            have hx32 := (hg32.block _ (lt_of_heap hx31) (fun e => hne e.symm)).trans hx31
            have hne2 : v32.ownBlock ≠ some w2.heap.size := fun e => by rcases hw32 with h1 | h1; exact hne (h1.symm.trans e); have h2 := lt_of_heap hx31; rw [h1] at e; injection e with e; omega
            have hol : ∀ k, v32.ownBlock = some k → w2.heap.size ≤ k ∧ k < x32.heap.size := fun k hk => ho32.at_base hk
            obtain ⟨a2, c2, hv32, hr, _⟩ := OwnV.out_ ho32
            have hnil0 := OwnV.nil_own ho32
            rw [← HK.out.2.2.1] at hv32 hr
            subst hv32
            have hnil : a2 = none → N = 0 ∧ c2 = 0 := fun h => by subst h; exact hnil0 _ _ rfl
            have hbl : ∀ k o, a2 = some ⟨k, o, none⟩ → w2.heap.size ≤ k ∧ k < x32.heap.size := fun k o e => by subst e; exact hol k rfl
            have hbb : ∀ k o, a2 = some ⟨k, o, none⟩ → w2.heap.size ≤ k ∧ k < x32.heap.size ∧ k ≠ w2.heap.size := fun k o e => by have h1 := hbl k o e; refine ⟨h1.1, h1.2, fun h => ?_⟩; subst e; subst h; exact hne2 rfl
            clear ho32 hol hnil0
            refine hK.out _ _ ?_ (fun hHeld => ?_)
            · exact SH.out _ HBx32
            clear hK K
            try simp only [Act.put, List.getElem_toArray, List.getElem_cons_succ, List.getElem_cons_zero, List.setIfInBounds_toArray, List.set_cons_zero, List.set_cons_succ]
            have cb : x32.cell? ⟨w2.heap.size, 0, none⟩ = some (.slice none 0 0) := (cell_of_row x32 w2.heap.size 0 _ _ _ hx32).trans rfl
            have zb : x32.frozen? ⟨w2.heap.size, 0, none⟩ = false := frozen_of_row x32 w2.heap.size 0 _ _ hx32
            refine wpAnyH_ready (rs := [9]) (by kernel_rfl) (by simp) ?_
            refine AllReadyH.cons rfl (fun K hK => ?_) AllReadyH.nil
            rw [if_pos (by rfl)]
            go_simp
            have SB := SegBox.store HBx32 hx32 hgb hr hbb hnil
            refine hK.out _ _ ?_ (fun hHeld => ?_)
            · exact SH.out _ SB.below
            clear hK K
            try simp only [Act.put, List.getElem_toArray, List.getElem_cons_succ, List.getElem_cons_zero, List.setIfInBounds_toArray, List.set_cons_zero, List.set_cons_succ]
            refine wpAnyH_done (by kernel_rfl) ?_ _
            refine NoPanic.normal ?_
            go_wp2_with fail
            go_meet
            case rel => exact SB
  case rest =>
    obtain ⟨⟨gb, a2, c2, rfl, hgc, hrow, hfar, hge, hgl, hnil⟩, hbw⟩ := hcut
    obtain ⟨w4, hw4⟩ : ∃ w4, w4 = wc.alloc (.cells #[.func (.func 145) #[] #[.pointer (some ⟨w.heap.size, 0, none⟩), .pointer (some ⟨w1.heap.size, 0, none⟩)], .func (.func 146) #[] #[.pointer (some ⟨w.heap.size, 0, none⟩), .pointer (some ⟨w1.heap.size, 0, none⟩), .pointer (some ⟨w.heap.size + 1, 0, none⟩)],
      .func (.func 148) #[] #[.pointer (some ⟨w.heap.size, 0, none⟩), .pointer (some ⟨w1.heap.size, 0, none⟩)], .func (.func 149) #[] #[.pointer (some ⟨w.heap.size, 0, none⟩), .pointer (some ⟨gb, 0, none⟩)]] 69) := ⟨_, rfl⟩
    have hb4 : Below wc.heap.size wc w4 := by rw [hw4]; exact (Below.refl _ _).alloc (Nat.le_refl _) _
    have hz4 : w4.heap.size = wc.heap.size + 1 := by rw [hw4]; simp
    have hzc := hbw.size
    have hc4 : ∀ k, k < 4 → w4.cell? ⟨wc.heap.size, k, none⟩ = some (.func (.func (lyF k)) #[] (lyC w.heap.size w1.heap.size (w.heap.size + 1) gb k)) := by
      intro k hk
      rw [hw4]
      match k, hk with
      | 0, _ => exact (cell_of_row _ _ 0 _ _ _ (heap_alloc_new wc _)).trans rfl
      | 1, _ => exact (cell_of_row _ _ 1 _ _ _ (heap_alloc_new wc _)).trans rfl
      | 2, _ => exact (cell_of_row _ _ 2 _ _ _ (heap_alloc_new wc _)).trans rfl
      | 3, _ => exact (cell_of_row _ _ 3 _ _ _ (heap_alloc_new wc _)).trans rfl
    have B24 : Below w2.heap.size w2 w4 := hbw.trans (hb4.mono hzc)
    have hl4 := (B24.cell (p := ⟨w.heap.size, 0, none⟩) (by show w.heap.size < _; omega)).trans H2.out.2.2.1
    have hf4 := (B24.cell (p := ⟨w.heap.size + 1, 0, none⟩) (by show w.heap.size + 1 < _; omega)).trans H2.out.2.2.2.1
    have he4 := (B24.cell (p := ⟨w.heap.size + 2, 0, none⟩) (by show w.heap.size + 2 < _; omega)).trans H2.out.2.2.2.2.1
    have hq4 := (B24.frozen (p := ⟨w.heap.size + 2, 0, none⟩) (by show w.heap.size + 2 < _; omega)).trans H2.out.2.2.2.2.2.1
    have hn4 := (B24.cell (p := ⟨w1.heap.size, 0, none⟩) hw12).trans H2.out.2.2.2.2.2.2.1
    have hg4 := (hb4.cell (p := ⟨gb, 0, none⟩) hgl).trans hgc
    have hK4 := H2.out.2.2.2.2.2.2.2.on B24
    have nD : ∀ k, w.heap.size ≤ k → ¬ D k := fun k hk h => by have := hDlt _ h; omega
    have IT := lays_any hK4.dk hK4.at_.c0 hK4.own hl4 (nD _ (Nat.le_refl _)) wc.heap.size w1.heap.size (w.heap.size + 1) gb g first hn4 (nD _ (by omega)) hf4 (nD _ (by omega)) a2 N c2 hg4 (nD _ (by omega)) (hrow.on9 hb4) HK.out.2.2.1.symm (fun k o e => nD _ (by have := hfar k o e; omega)) (nD _ (by omega)) hc4
    have H4 := Lib.hid (And.intro B24 (And.intro hz4 (And.intro hl4 (And.intro he4 (And.intro hq4 (And.intro hn4 (And.intro hg4 (And.intro hK4 (And.intro (hrow.on9 hb4) hnil)))))))))
    have HF := Lib.hid hfar
    have hgz : w.heap.size + 4 ≤ gb := by omega
    have hgl4 : gb < w4.heap.size := by omega
    have hw4z : w2.heap.size < w4.heap.size := by omega
    rw [hw4] at IT
    have IT := Lib.hid IT
    clear B24 hz4 hl4 hf4 he4 hq4 hn4 hg4 hK4 hc4 hrow hfar hgc hb4 hbw hnil CL SH hge
    go_wp2_with fail
    refine IT.out.mono ?_
    rintro e w5 ⟨rfl, hmv⟩
    rw [← hw4] at hmv
    obtain ⟨D5, k5, b5, f5⟩ := hmv
    have hz5 := b5.size
    have nD4 : ∀ k, w.heap.size ≤ k → ¬ D k := fun k hk h => by have := hDlt _ h; omega
    have gD : ∀ k, w.heap.size ≤ k → k < w4.heap.size → ¬ D5 k := fun k h1 h2 h3 => by
      rcases f5 k h3 with h4 | h4
      · exact nD4 k h1 h4
      · omega
    have l5 := (b5.cell (b := w.heap.size) (o := 0) (by omega) (nD4 _ (Nat.le_refl _))).trans H4.out.2.2.1
    have e5 := (b5.cell (b := w.heap.size + 2) (o := 0) (by omega) (nD4 _ (by omega))).trans H4.out.2.2.2.1
    have z5 := (b5.frozen (b := w.heap.size + 2) (o := 0) (by omega) (nD4 _ (by omega))).trans H4.out.2.2.2.2.1
    have n5 := (b5.cell (b := w1.heap.size) (o := 0) (by omega) (nD4 _ (by omega))).trans H4.out.2.2.2.2.2.1
    have g5 := (b5.cell (b := gb) (o := 0) hgl4 (nD4 _ (by omega))).trans H4.out.2.2.2.2.2.2.1
    have q5 : w.heap.size + 2 = w.heap.size + 1 + 1 := rfl
    rw [q5] at e5 z5
    have hfarO := H4.out.2.2.2.2.2.2.2.1.far
    have hL5 : LogC w5 lp dp size g sa sc := H4.out.2.2.2.2.2.2.2.1.at_.but b5 H4.out.2.2.2.2.2.2.2.1.own (fun k o e => (hfarO k o e).1)
    have lc2 := hL5.c2
    have lz2 := hL5.z 2
    have bw5 : But (lO D lp sa) w w5 := (But.of_below (H2.out.1.trans (H4.out.1.mono H2.out.1.size))).trans (b5.more (O' := lO D lp sa) (fun k h => .inl h)) (fun k h => .inl h)
    have H5 := Lib.hid (And.intro k5 (And.intro b5 (And.intro f5 (And.intro n5 (And.intro hL5 (And.intro hfarO (And.intro bw5 (And.intro l5 HF.out))))))))
    have GD := Lib.hid gD
    clear k5 b5 f5 IT n5 hL5 hfarO gD nD4 q5 HF bw5
    have HR : Hid (lgLay g t first = if (lgTry g t first).1 = 0 then (0, (lgTry g t first).2, { g with segs := g.segs ++ [first] }) else if (lgTry g t first).1 = 42 then (42, (lgTry g t first).2, g) else ((lgTry g t first).1, ((lgTry g t first).2.delete (nm first)).2, g)) := rfl
    have hww := HK.out.1.dk.below.size
    have hbase := HK.out.1.base
    have hsh : shortS (nm first) := by have := nm_short first; unfold shortS; omega
    generalize lgTry g t first = r at *
    obtain ⟨x, t'⟩ := r
    have HU := Lib.hid (And.intro hww (And.intro hbase hsh))
    clear hww hbase hsh
    by_cases hx : x = 0
    · subst hx
      have hne : w.heap.size + 1 + 1 ≠ lp := by omega
      have hne2 : w.heap.size + 1 + 1 ≠ gb := by omega
      have hne3 : w.heap.size + 1 + 1 ≠ w.heap.size := by omega
      go_wp2_with fail
      obtain ⟨w6, hw6⟩ : ∃ w6, w6 = ((w5.setCell ⟨w.heap.size + 1 + 1, 0, none⟩ (.int .i64 0)).setCell ⟨lp, 2, none⟩ (.slice a2 N c2)).setCell ⟨w.heap.size + 1 + 1, 0, none⟩ (.int .i64 0) := ⟨_, rfl⟩
      have b65 : But (fun k => k = w.heap.size + 1 + 1 ∨ k = lp) w5 w6 := by
        rw [hw6]
        exact (((But.refl _ w5).setCell (p := ⟨w.heap.size + 1 + 1, 0, none⟩) (.inl (.inl rfl)) _).setCell (p := ⟨lp, 2, none⟩) (.inl (.inr rfl)) _).setCell (p := ⟨w.heap.size + 1 + 1, 0, none⟩) (.inl (.inl rfl)) _
      have e6 : w6.cell? ⟨w.heap.size + 1 + 1, 0, none⟩ = some (.int .i64 0) := by rw [hw6]; exact World.cell?_setCell_same _ _ _ (cell_set_far (World.cell?_setCell_same _ _ _ e5) (by show w.heap.size + 1 + 1 ≠ lp; omega))
      have blk6 : w6.heap[lp]? = some (.cells #[.pointer (some ⟨dp, 0, none⟩), .int .i64 (size : Int), .slice a2 (g.segs ++ [first]).length c2, .int .i64 g.next] 79 (0, 0)) := by
        rw [hw6, ← HK.out.2.2.1]
        refine (Below.heap_setCell _ ⟨w.heap.size + 1 + 1, 0, none⟩ _ lp (fun h => hne h.symm)).trans ?_
        have h1 := (Below.heap_setCell w5 ⟨w.heap.size + 1 + 1, 0, none⟩ (.int .i64 0) lp (fun h => hne h.symm)).trans H5.out.2.2.2.2.1.blk
        exact heap_setCell_same _ lp 2 _ _ (.slice a2 N c2) h1
      have rw6 : w5.heap.size ≤ w6.heap.size := b65.size
      have row6 : Row w6 w6.heap.size a2 (g.segs ++ [first]).length c2 1 (intsC (g.segs ++ [first])) := by
        rw [← HK.out.2.2.1]
        have h1 := H4.out.2.2.2.2.2.2.2.2.1.but H5.out.2.1 (fun _ k o e => by have h2 := H5.out.2.2.2.2.2.2.2.2 k o e; exact fun h3 => by have := hDlt _ h3; omega)
        exact h1.but b65 (fun _ k o e => by have h2 := H5.out.2.2.2.2.2.2.2.2 k o e; omega)
      have k6 : DK w0 w6 dp t' D5 := H5.out.1.out_ b65 (fun k hk => by
        rcases hk with rfl | rfl
        · exact ⟨GD.out _ (by omega) (by omega), by have := HU.out.1; omega⟩
        · exact ⟨fun h3 => by rcases H5.out.2.2.1 _ h3 with h4 | h4; exact HK.out.1.own h4; omega, HU.out.2.1⟩)
      have K6 : LK w0 w6 dp lp size { g with segs := g.segs ++ [first] } t' D5 a2 c2 := by
        refine ⟨k6, ⟨blk6, row6, fun h => by have := H4.out.2.2.2.2.2.2.2.2.2 h; rw [HK.out.2.2.1] at this; exact this⟩, HU.out.2.1, fun h3 => by rcases H5.out.2.2.1 _ h3 with h4 | h4; exact HK.out.1.own h4; omega, fun k o e => ?_⟩
        have h2 := H5.out.2.2.2.2.2.2.2.2 k o e
        have h3 := H4.out.2.1
        have h4 := W2.out.2
        exact ⟨GD.out _ (by omega) (by omega), by omega, by have := HU.out.1; omega, by omega⟩
      have l6 := (b65.cell (b := w.heap.size) (o := 0) (by omega) (fun h => by rcases h with h | h <;> omega)).trans H5.out.2.2.2.2.2.2.2.1
      have n6 := (b65.cell (b := w1.heap.size) (o := 0) (by omega) (fun h => by rcases h with h | h <;> omega)).trans H5.out.2.2.2.1
      rw [← hw6]
      refine leaves_cons (f := 144) (args := #[.pointer (some ⟨w.heap.size + 1 + 1, 0, none⟩), .pointer (some ⟨w.heap.size, 0, none⟩), .pointer (some ⟨w1.heap.size, 0, none⟩)]) (by simp) (by simp [go_sem]) ?_
      refine (lay1_any k6 K6.at_.c0 K6.own l6 (GD.out _ (Nat.le_refl _) (by omega)) (w.heap.size + 1 + 1) w1.heap.size (nm first) n6 (GD.out _ (by omega) (by omega)) HU.out.2.2 0 .returning e6).mono ?_
      rintro e u' w7 ⟨rfl, rfl, hmv⟩
      have e7 : w7.cell? ⟨w.heap.size + 1 + 1, 0, none⟩ = some (.int .i64 0) := by
        obtain ⟨D7, _, b7, _⟩ := hmv
        exact (b7.cell (b := w.heap.size + 1 + 1) (o := 0) (by omega) (GD.out _ (by omega) (by omega))).trans e6
      refine ⟨_, (by simp [results, Tryz.results85, go_sem, e7]; rfl), ?_⟩
      have hres : lgLay g t first = (0, t', { g with segs := g.segs ++ [first] }) := HR.out.trans (if_pos (by trivial))
      rw [hres]
      refine ⟨rfl, ?_⟩
      rw [show lyClean (nm first) 0 t' = t' from if_neg (by simp)] at hmv
      refine LMv.then (H5.out.2.2.2.2.2.2.1.trans b65 (fun k hk => ?_)) (fun k hk => ?_) (K6.mv hmv)
      · rcases hk with rfl | rfl
        · right; omega
        · exact .inl (.inr (.inl rfl))
      · rcases hk with h3 | h3 | ⟨o, h3⟩
        · rcases H5.out.2.2.1 _ h3 with h4 | h4
          · exact .inl (.inl h4)
          · right; omega
        · exact .inl (.inr (.inl h3))
        · have := H5.out.2.2.2.2.2.2.2.2 k o h3; right; omega
    · have hx' : (x == 0) = false := by simpa using hx
      go_wp2_with fail
      obtain ⟨w6, hw6⟩ : ∃ w6, w6 = (w5.setCell ⟨w.heap.size + 1 + 1, 0, none⟩ (.int .i64 x)).setCell ⟨w.heap.size + 1 + 1, 0, none⟩ (.int .i64 x) := ⟨_, rfl⟩
      have b65 : But (fun k => k = w.heap.size + 1 + 1) w5 w6 := by
        rw [hw6]
        exact ((But.refl (fun k => k = w.heap.size + 1 + 1) w5).setCell (p := ⟨w.heap.size + 1 + 1, 0, none⟩) (.inl rfl) _).setCell (p := ⟨w.heap.size + 1 + 1, 0, none⟩) (.inl rfl) _
      have e6 : w6.cell? ⟨w.heap.size + 1 + 1, 0, none⟩ = some (.int .i64 x) := by rw [hw6]; exact World.cell?_setCell_same _ _ _ (World.cell?_setCell_same _ _ _ e5)
      have rw6 : w5.heap.size ≤ w6.heap.size := b65.size
      have k6 : DK w0 w6 dp t' D5 := H5.out.1.out_ b65 (fun k hk => by
        subst hk
        exact ⟨GD.out _ (by omega) (by omega), by have := HU.out.1; omega⟩)
      have K6 : LK w0 w6 dp lp size g t' D5 sa sc := by
        refine ⟨k6, H5.out.2.2.2.2.1.but b65 (by omega) (fun k o e h => by have h2 := HK.out.1.far k o e; omega), HU.out.2.1, fun h3 => by rcases H5.out.2.2.1 _ h3 with h4 | h4; exact HK.out.1.own h4; omega, fun k o e => ?_⟩
        have h2 := HK.out.1.far k o e
        exact ⟨fun h3 => by rcases H5.out.2.2.1 _ h3 with h4 | h4; exact h2.1 h4; omega, h2.2.1, h2.2.2.1, by omega⟩
      have l6 := (b65.cell (b := w.heap.size) (o := 0) (by omega) (fun h => by omega)).trans H5.out.2.2.2.2.2.2.2.1
      have n6 := (b65.cell (b := w1.heap.size) (o := 0) (by omega) (fun h => by omega)).trans H5.out.2.2.2.1
      rw [← hw6]
      refine leaves_cons (f := 144) (args := #[.pointer (some ⟨w.heap.size + 1 + 1, 0, none⟩), .pointer (some ⟨w.heap.size, 0, none⟩), .pointer (some ⟨w1.heap.size, 0, none⟩)]) (by simp) (by simp [go_sem]) ?_
      refine (lay1_any k6 K6.at_.c0 K6.own l6 (GD.out _ (Nat.le_refl _) (by omega)) (w.heap.size + 1 + 1) w1.heap.size (nm first) n6 (GD.out _ (by omega) (by omega)) HU.out.2.2 x .returning e6).mono ?_
      rintro e u' w7 ⟨rfl, rfl, hmv⟩
      have e7 : w7.cell? ⟨w.heap.size + 1 + 1, 0, none⟩ = some (.int .i64 x) := by
        obtain ⟨D7, _, b7, _⟩ := hmv
        exact (b7.cell (b := w.heap.size + 1 + 1) (o := 0) (by omega) (GD.out _ (by omega) (by omega))).trans e6
      refine ⟨_, (by simp [results, Tryz.results85, go_sem, e7]; rfl), ?_⟩
      have hres : lgLay g t first = (x, lyClean (nm first) x t', g) := by
        rw [HR.out, if_neg hx]
        by_cases h42 : x = 42
        · subst h42
          rw [if_pos rfl, show lyClean (nm first) 42 t' = t' from if_neg (by simp)]
        · rw [if_neg h42, show lyClean (nm first) x t' = (t'.delete (nm first)).2 from if_pos ⟨hx, h42⟩]
      rw [hres]
      refine ⟨rfl, ?_⟩
      refine LMv.then (H5.out.2.2.2.2.2.2.1.trans b65 (fun k hk => ?_)) (fun k hk => ?_) (K6.mv hmv)
      · subst hk; right; omega
      · rcases hk with h3 | h3
        · rcases H5.out.2.2.1 _ h3 with h4 | h4
          · exact .inl (.inl h4)
          · right; omega
        · exact .inl (.inr h3)
end
end
end Go.Proofs.YtechgmohdabkpaaGreatDoor
