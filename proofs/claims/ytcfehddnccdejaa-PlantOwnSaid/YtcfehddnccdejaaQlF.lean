/- The document's Step. -/
import Derived.Test.YtcfehddnccdejaaQlE
import Derived.Test.YtcfehddnccdejaaApI
import Derived.Test.YtcfehddnccdejaaFxTd
import Derived.Test.YtcfehddnccdejaaFxVa
import Derived.Deep.CutRange
import Derived.Deep.RegionHeld
import Derived.Lib.MinMax
import Derived.StillTailTactics
namespace Go.Proofs.Ytcfehddnccdejaa
set_option linter.unusedSimpArgs false
set_option linter.unusedVariables false
open Go.RowKit
open Evn Plt
attribute [local go_sem] Oper.semAt_some

theorem first_n {p : Pt} (h : TOk p) : NOk ⟨(first p).ready, (first p).start, p.wait, 0⟩ := by
  have ha := h.all_
  have hl := h.len
  have r1 := h.r1
  have r2 := h.r2
  unfold first
  match hs : p.start with
  | [] => exact ⟨r1, r2, by simp [hs], by simp [hs]⟩
  | x :: l =>
    have hx := h.nums x (by rw [hs]; simp)
    have hn : ∀ y ∈ l, 0 ≤ y ∧ y ≤ 1000 := fun y hy => h.nums y (by rw [hs]; simp [hy])
    have hsl := sm_nn (fun y hy => (hn y hy).1)
    unfold all at ha
    rw [hs] at ha hl
    simp only [sm, List.length_cons] at ha hl
    exact ⟨by simp only; omega, by simp only; omega, by simp only; omega, hn⟩
theorem rep_le (n : Int) : 0 ≤ rep n ∧ rep n ≤ 1000 := by unfold rep; omega
theorem sized_wait (d : Int) (p : Pt) (w : Int) : (sized d p w).wait = p.wait := by unfold sized; split
                                                                                    · split <;> rfl
                                                                                    · rfl
theorem sized_first (d : Int) (p : Pt) (w : Int) : sized d ⟨(first p).ready, (first p).start, p.wait, 0⟩ w = sized d (first p) w := by
  have e : (first p).wait = p.wait := by unfold first; split <;> rfl
  unfold sized all
  rw [e]
set_option maxRecDepth 100000 in
set_option maxHeartbeats 1600000 in
theorem rstep_any {w : World} {p : Pt} {a : Option Addr} {k : Nat} (hn : TOk p) (h : SRw w a k p.start) {c : Cf} (hc : confR c = true) (want demand : Int) :
    Calls Try.prog 13 #[cfV c, ptV p a k, .int .i64 want, .int .i64 demand] w fun r w' => ∃ a2 k2, r = .returned (.tuple #[ptV (Plt.step c p want demand) a2 k2, mkV (Plt.mark c p want demand)]) ∧ SRw w' a2 k2 (Plt.step c p want demand).start ∧ (∀ g o, a2 = some ⟨g, o, none⟩ → w.heap.size ≤ g) ∧ Below w.heap.size w w' := by
  obtain ⟨x, hx⟩ : ∃ x, x = (((w.alloc (.cells #[.int .i64 c.min, .int .i64 c.max, .int .i64 c.rate, .int .i64 c.stable, .int .i64 c.cap, .int .i64 c.delay, .int .i64 c.slack, .int .i64 c.window, .int .i64 c.margin, .int .i64 c.ceil, .int .i64 c.probe, .int .i64 c.breach] 23)).alloc (.cells #[.int .i64 p.ready, .slice a p.start.length k, .int .i64 p.wait, .int .i64 p.util] 26)).alloc (.cells #[.int .i64 0, .slice none 0 0, .int .i64 0, .int .i64 0] 26)).alloc (.cells #[.int .i64 0, .bool false] 31) := ⟨_, rfl⟩
  obtain ⟨hB, hC, hP, hZ1, hZ2, hsz⟩ := four w c p a k
  rw [← hx] at hB hC hP hZ1 hZ2 hsz
  have HR := Lib.hid (h.on hB)
  have HB := Lib.hid hB
  have HC := Lib.hid hC
  have HP := Lib.hid hP
  have HZ1 := Lib.hid hZ1
  have HZ2 := Lib.hid hZ2
  have HSZ := Lib.hid hsz
  have HX := Lib.hid hx
  have HO := Lib.hid hn
  have HL8 := Lib.hid hn.len
  have HGB : Hid (0 = 0) := rfl
  have HCO := Lib.hid hc
  clear hB hC hP hZ1 hZ2 hsz hx h hc hn
  unfold cfV ptV
  go_enter Try.func13, Try.ntmps13
  go_upto_region 1 with fail
  rw [← HX.out]
  clear HX
  go_cut [10] from 13 to 21 (fun vt wx => ∃ g a1 k1, vt = .pointer (some ⟨g, 0, none⟩) ∧ SX w wx c g ⟨p.ready, p.start, p.wait, 0⟩ a1 k1)
  case first =>
    refine wp_region_held_drew (S := fun wy => wy.cell? ⟨w.heap.size + 1, 0, none⟩ = some (.int .i64 p.ready) ∧ wy.cell? ⟨w.heap.size + 1, 1, none⟩ = some (.slice a p.start.length k) ∧ wy.cell? ⟨w.heap.size + 1, 2, none⟩ = some (.int .i64 p.wait) ∧ Below x.heap.size x wy) (by kernel_rfl) (⟨(PtAt.c (HP.out.on (Below.drew (Below.refl _ _)))).1, (PtAt.c (HP.out.on (Below.drew (Below.refl _ _)))).2.1, (PtAt.c (HP.out.on (Below.drew (Below.refl _ _)))).2.2.1, (Below.drew (Below.refl _ _))⟩) (fun hHeld => ?_)
    refine wpAnyH_take (i := 0) (v := ?_) rfl (by kernel_rfl) (by kernel_rfl) (by kernel_rfl) (fun _ _ _ h => h) (Or.inl ⟨by rfl, ?_⟩) (by assumption) ?_
    rotate_left
    · intro w hSw
      (try dsimp only at hSw)
      go_simp
      all_goals with_reducible rfl
    try simp only [Act.put, List.getElem_toArray, List.getElem_cons_succ, List.getElem_cons_zero, List.setIfInBounds_toArray, List.set_cons_zero, List.set_cons_succ]
    refine wpAnyH_take (i := 1) (v := ?_) rfl (by kernel_rfl) (by kernel_rfl) (by kernel_rfl) (fun _ _ _ h => h) (Or.inl ⟨by rfl, ?_⟩) (by assumption) ?_
    rotate_left
    · intro w hSw
      (try dsimp only at hSw)
      go_simp
      all_goals with_reducible rfl
    try simp only [Act.put, List.getElem_toArray, List.getElem_cons_succ, List.getElem_cons_zero, List.setIfInBounds_toArray, List.set_cons_zero, List.set_cons_succ]
    refine wpAnyH_take (i := 3) (v := ?_) rfl (by kernel_rfl) (by kernel_rfl) (by kernel_rfl) (fun _ _ _ h => h) (Or.inl ⟨by rfl, ?_⟩) (by assumption) ?_
    rotate_left
    · intro w hSw
      (try dsimp only at hSw)
      go_simp
      all_goals with_reducible rfl
    try simp only [Act.put, List.getElem_toArray, List.getElem_cons_succ, List.getElem_cons_zero, List.setIfInBounds_toArray, List.set_cons_zero, List.set_cons_succ]
    refine wpAnyH_take (i := 4) (v := ?_) rfl (by kernel_rfl) (by kernel_rfl) (by kernel_rfl) (fun _ _ _ h => h) (Or.inl ⟨by rfl, ?_⟩) (by assumption) ?_
    rotate_left
    · intro w hSw
      (try dsimp only at hSw)
      go_simp
      all_goals with_reducible rfl
    try simp only [Act.put, List.getElem_toArray, List.getElem_cons_succ, List.getElem_cons_zero, List.setIfInBounds_toArray, List.set_cons_zero, List.set_cons_succ]
    refine wpAnyH_take (i := 6) (v := ?_) rfl (by kernel_rfl) (by kernel_rfl) (by kernel_rfl) (fun _ _ _ h => h) (Or.inl ⟨by rfl, ?_⟩) (by assumption) ?_
    rotate_left
    · intro w hSw
      (try dsimp only at hSw)
      go_simp
      all_goals with_reducible rfl
    try simp only [Act.put, List.getElem_toArray, List.getElem_cons_succ, List.getElem_cons_zero, List.setIfInBounds_toArray, List.set_cons_zero, List.set_cons_succ]
    refine wpAnyH_take (i := 7) (v := ?_) rfl (by kernel_rfl) (by kernel_rfl) (by kernel_rfl) (fun _ _ _ h => h) (Or.inl ⟨by rfl, ?_⟩) (by assumption) ?_
    rotate_left
    · intro w hSw
      (try dsimp only at hSw)
      go_simp
      all_goals with_reducible rfl
    try simp only [Act.put, List.getElem_toArray, List.getElem_cons_succ, List.getElem_cons_zero, List.setIfInBounds_toArray, List.set_cons_zero, List.set_cons_succ]
    have hB0 := hHeld.2.2.2
    clear hHeld
    generalize x.drew = wa0 at hB0 ⊢
    refine wpAnyH_ready (rs := [2, 9]) (by kernel_rfl) (by simp) ?_
    refine AllReadyH.cons rfl (fun K hK => ?_) (AllReadyH.cons rfl (fun K hK => ?_) AllReadyH.nil)
    · rw [if_pos (by rfl)]
      go_simp
      have hE := hB0.size
      have own0 : OwnV (wa0.alloc (.cells #[] 3)) (w.heap.size + 4) 3 (.slice (some ⟨wa0.heap.size, 0, none⟩) 0 0) (i64V []) := OwnV.lit_ (w := wa0) 3 [] (by rw [← HSZ.out]; exact hE) (by decide)
      have hB1 := hB0.alloc hB0.size (.cells #[] 3)
      have hgb : wa0.heap.size < (wa0.alloc (.cells #[] 3)).heap.size := by simp
      obtain ⟨gb, hgb2⟩ : ∃ gb, gb = wa0.heap.size := ⟨_, rfl⟩
      rw [← hgb2] at own0 hgb ⊢
      clear hgb2 hE
      generalize wa0.alloc (.cells #[] 3) = wa1 at own0 hB1 hgb ⊢
      clear hB0
      refine hK.out _ _ ?_ (fun hHeld => ?_)
      · exact ⟨(PtAt.c (HP.out.on hB1)).1, (PtAt.c (HP.out.on hB1)).2.1, (PtAt.c (HP.out.on hB1)).2.2.1, hB1⟩
      clear hK K
      try simp only [Act.put, List.getElem_toArray, List.getElem_cons_succ, List.getElem_cons_zero, List.setIfInBounds_toArray, List.set_cons_zero, List.set_cons_succ]
      refine wpAnyH_ready (rs := [5, 9]) (by kernel_rfl) (by simp) ?_
      refine AllReadyH.cons rfl (fun K hK => ?_) (AllReadyH.cons rfl (fun K hK => ?_) AllReadyH.nil)
      · rw [if_pos (by rfl)]
        refine wp_append_ints (.tmp 15) (.tmp 17) 24 rfl (w.heap.size + 4) 3 Try.underlying24 info_int (.slice (some ⟨gb, 0, none⟩) 0 0) [] rfl own0 _ a _ k p.start rfl (HR.out.on hB1).row rfl HR.out.nil_ (by simp; have := HL8.out; omega) (by have := own0.base_; omega) ?_
        intro v1 w3 hown hg hat
        rw [List.nil_append] at hown
        have hB2 : Below x.heap.size x w3 := hB1.grown hg hB1.size (fun j hj => by simp [Value.ownBlock] at hj; have := own0.base_; have := HSZ.out; omega)
        obtain ⟨a1, k1, rfl, S1, B1, _⟩ := own_srw hown
        have HQ := Lib.hid S1
        have HO1 : Hid (∀ b o, a1 = some ⟨b, o, none⟩ → w.heap.size + 4 ≤ b ∧ b < w3.heap.size) := fun b o e => ⟨B1 b o e, by subst e; have := hown.at_base (b := b) rfl; omega⟩
        clear hown hg hat own0 B1 S1 hgb
        clear hB1
        refine hK.out _ _ ?_ (fun hHeld => ?_)
        · exact ⟨(PtAt.c (HP.out.on hB2)).1, (PtAt.c (HP.out.on hB2)).2.1, (PtAt.c (HP.out.on hB2)).2.2.1, hB2⟩
        clear hK K
        try simp only [Act.put, List.getElem_toArray, List.getElem_cons_succ, List.getElem_cons_zero, List.setIfInBounds_toArray, List.set_cons_zero, List.set_cons_succ]
        generalize w3 = wa2 at *
        refine wpAnyH_take (i := 8) (v := ?_) rfl (by kernel_rfl) (by kernel_rfl) (by kernel_rfl) (fun _ _ _ h => h) (Or.inl ⟨by rfl, ?_⟩) (by assumption) ?_
        rotate_left
        · intro w hSw
          (try dsimp only at hSw)
          go_simp
          all_goals with_reducible rfl
        try simp only [Act.put, List.getElem_toArray, List.getElem_cons_succ, List.getElem_cons_zero, List.setIfInBounds_toArray, List.set_cons_zero, List.set_cons_succ]
        refine wpAnyH_ready (rs := [9]) (by kernel_rfl) (by simp) ?_
        refine AllReadyH.cons rfl (fun K hK => ?_) AllReadyH.nil
        rw [if_pos (by rfl)]
        go_simp
        have hE := hB2.size
        have hB3 := hB2.alloc hB2.size (.cells #[.int .i64 0, .slice none 0 0, .int .i64 0, .int .i64 0] 26)
        have Z := Lib.hid (heap_alloc_new wa2 (.cells #[.int .i64 0, .slice none 0 0, .int .i64 0, .int .i64 0] 26))
        have lz : w.heap.size + 4 ≤ wa2.heap.size := by rw [← HSZ.out]; exact hE
        have HQ := Lib.hid (SRw.on HQ.out (bel1 (Below.refl wa2.heap.size wa2) (.cells #[.int .i64 0, .slice none 0 0, .int .i64 0, .int .i64 0] 26)))
        have hne : ∀ b o, a1 = some ⟨b, o, none⟩ → w.heap.size + 4 ≤ b ∧ b ≠ wa2.heap.size := fun b o e => by have := HO1.out b o e; omega
        obtain ⟨g, hg2⟩ : ∃ g, g = wa2.heap.size := ⟨_, rfl⟩
        rw [← hg2] at Z lz hne ⊢
        clear hg2 hE
        generalize wa2.alloc (.cells #[.int .i64 0, .slice none 0 0, .int .i64 0, .int .i64 0] 26) = wa3 at hB3 Z HQ ⊢
        clear hB2
        refine hK.out _ _ ?_ (fun hHeld => ?_)
        · exact ⟨(PtAt.c (HP.out.on hB3)).1, (PtAt.c (HP.out.on hB3)).2.1, (PtAt.c (HP.out.on hB3)).2.2.1, hB3⟩
        clear hK K
        try simp only [Act.put, List.getElem_toArray, List.getElem_cons_succ, List.getElem_cons_zero, List.setIfInBounds_toArray, List.set_cons_zero, List.set_cons_succ]
        refine wpAnyH_ready (rs := [10]) (by kernel_rfl) (by simp) ?_
        refine AllReadyH.cons rfl (fun K hK => ?_) AllReadyH.nil
        rw [if_pos (by rfl)]
        refine wp_store_mid 26 (.tmp 10) (.tmp 21) (by rfl) g 0 #[.int .i64 p.ready, .slice a1 p.start.length k1, .int .i64 p.wait, .int .i64 0] (by rfl) (by rfl) (there_of_block Z.out (by simp)) (by kernel_rfl) (by kernel_rfl) ?_
        have hX : SX w wa3 c g ⟨0, [], 0, 0⟩ none 0 := ⟨bel2 HB.out hB3, HC.out.on hB3, (hB3.block _ (lt_of_heap HZ1.out)).trans HZ1.out, (hB3.block _ (lt_of_heap HZ2.out)).trans HZ2.out, Z.out, ⟨⟨Nat.le_refl _, by simp [maxLen], fun h => absurd h (by simp)⟩, fun _ => ⟨rfl, rfl⟩⟩, lz, fun b o e => by cases e⟩
        have HX2 := Lib.hid (hX.put (q2 := ⟨p.ready, p.start, p.wait, 0⟩) HQ.out hne)
        have hBz := below_setCells' g (by have := HSZ.out; omega) (#[.int .i64 p.ready, .slice a1 p.start.length k1, .int .i64 p.wait, .int .i64 0] : Array Value).toList 0 hB3
        refine hK.out _ _ ?_ (fun hHeld => ?_)
        · exact ⟨(PtAt.c (HP.out.on hBz)).1, (PtAt.c (HP.out.on hBz)).2.1, (PtAt.c (HP.out.on hBz)).2.2.1, hBz⟩
        clear hK K
        try simp only [Act.put, List.getElem_toArray, List.getElem_cons_succ, List.getElem_cons_zero, List.setIfInBounds_toArray, List.set_cons_zero, List.set_cons_succ]
        refine wpAnyH_done (by kernel_rfl) ?_ _
        go_wp2_with fail
        go_meet
        exact ⟨_, a1, k1, rfl, HX2.out⟩
      · rw [if_pos (by rfl)]
        go_simp
        have hE := hB1.size
        have hB2 := hB1.alloc hB1.size (.cells #[.int .i64 0, .slice none 0 0, .int .i64 0, .int .i64 0] 26)
        have Z := Lib.hid (heap_alloc_new wa1 (.cells #[.int .i64 0, .slice none 0 0, .int .i64 0, .int .i64 0] 26))
        have lz : w.heap.size + 4 ≤ wa1.heap.size := by rw [← HSZ.out]; exact hE
        have own0 := own0.alloc (.cells #[.int .i64 0, .slice none 0 0, .int .i64 0, .int .i64 0] 26)
        have hgb := Nat.lt_of_lt_of_le hgb (by simp : wa1.heap.size ≤ (wa1.alloc (.cells #[.int .i64 0, .slice none 0 0, .int .i64 0, .int .i64 0] 26)).heap.size)
        have hgg : gb ≠ wa1.heap.size := by have := own0.base_; have := HGB.out; omega
        obtain ⟨g, hg2⟩ : ∃ g, g = wa1.heap.size := ⟨_, rfl⟩
        rw [← hg2] at Z lz hgg ⊢
        clear hg2 hE
        generalize wa1.alloc (.cells #[.int .i64 0, .slice none 0 0, .int .i64 0, .int .i64 0] 26) = wa2 at hB2 Z own0 hgb ⊢
        clear hB1
        refine hK.out _ _ ?_ (fun hHeld => ?_)
        · exact ⟨(PtAt.c (HP.out.on hB2)).1, (PtAt.c (HP.out.on hB2)).2.1, (PtAt.c (HP.out.on hB2)).2.2.1, hB2⟩
        clear hK K
        try simp only [Act.put, List.getElem_toArray, List.getElem_cons_succ, List.getElem_cons_zero, List.setIfInBounds_toArray, List.set_cons_zero, List.set_cons_succ]
        refine wpAnyH_ready (rs := [5]) (by kernel_rfl) (by simp) ?_
        refine AllReadyH.cons rfl (fun K hK => ?_) AllReadyH.nil
        rw [if_pos (by rfl)]
        have HZg := Z
        refine wp_append_ints (.tmp 15) (.tmp 17) 24 rfl (w.heap.size + 4) 3 Try.underlying24 info_int (.slice (some ⟨gb, 0, none⟩) 0 0) [] rfl own0 _ a _ k p.start rfl (HR.out.on hB2).row rfl HR.out.nil_ (by simp; have := HL8.out; omega) (by have := own0.base_; omega) ?_
        intro v1 w3 hown hg hat
        rw [List.nil_append] at hown
        have Z := Lib.hid ((hg.block _ (lt_of_heap Z.out) (fun e => by simp [Value.ownBlock] at e; exact hgg e.symm)).trans Z.out)
        have hB3 : Below x.heap.size x w3 := hB2.grown hg hB2.size (fun j hj => by simp [Value.ownBlock] at hj; have := own0.base_; have := HSZ.out; omega)
        obtain ⟨a1, k1, rfl, S1, B1, _⟩ := own_srw hown
        have HQ := Lib.hid S1
        have hne : ∀ b o, a1 = some ⟨b, o, none⟩ → w.heap.size + 4 ≤ b ∧ b ≠ g := fun b o e => by
          refine ⟨B1 b o e, ?_⟩
          subst e
          have hlz := lt_of_heap HZg.out
          rcases hat with h | h
          · simp [Value.ownBlock] at h; rw [h]; exact hgg
          · simp [Value.ownBlock] at h; omega
        clear hown hg hat own0 B1 S1 hgb
        clear hB2
        refine hK.out _ _ ?_ (fun hHeld => ?_)
        · exact ⟨(PtAt.c (HP.out.on hB3)).1, (PtAt.c (HP.out.on hB3)).2.1, (PtAt.c (HP.out.on hB3)).2.2.1, hB3⟩
        clear hK K
        try simp only [Act.put, List.getElem_toArray, List.getElem_cons_succ, List.getElem_cons_zero, List.setIfInBounds_toArray, List.set_cons_zero, List.set_cons_succ]
        generalize w3 = wa3 at *
        refine wpAnyH_take (i := 8) (v := ?_) rfl (by kernel_rfl) (by kernel_rfl) (by kernel_rfl) (fun _ _ _ h => h) (Or.inl ⟨by rfl, ?_⟩) (by assumption) ?_
        rotate_left
        · intro w hSw
          (try dsimp only at hSw)
          go_simp
          all_goals with_reducible rfl
        try simp only [Act.put, List.getElem_toArray, List.getElem_cons_succ, List.getElem_cons_zero, List.setIfInBounds_toArray, List.set_cons_zero, List.set_cons_succ]
        refine wpAnyH_ready (rs := [10]) (by kernel_rfl) (by simp) ?_
        refine AllReadyH.cons rfl (fun K hK => ?_) AllReadyH.nil
        rw [if_pos (by rfl)]
        refine wp_store_mid 26 (.tmp 10) (.tmp 21) (by rfl) g 0 #[.int .i64 p.ready, .slice a1 p.start.length k1, .int .i64 p.wait, .int .i64 0] (by rfl) (by rfl) (there_of_block Z.out (by simp)) (by kernel_rfl) (by kernel_rfl) ?_
        have hX : SX w wa3 c g ⟨0, [], 0, 0⟩ none 0 := ⟨bel2 HB.out hB3, HC.out.on hB3, (hB3.block _ (lt_of_heap HZ1.out)).trans HZ1.out, (hB3.block _ (lt_of_heap HZ2.out)).trans HZ2.out, Z.out, ⟨⟨Nat.le_refl _, by simp [maxLen], fun h => absurd h (by simp)⟩, fun _ => ⟨rfl, rfl⟩⟩, lz, fun b o e => by cases e⟩
        have HX2 := Lib.hid (hX.put (q2 := ⟨p.ready, p.start, p.wait, 0⟩) HQ.out hne)
        have hBz := below_setCells' g (by have := HSZ.out; omega) (#[.int .i64 p.ready, .slice a1 p.start.length k1, .int .i64 p.wait, .int .i64 0] : Array Value).toList 0 hB3
        refine hK.out _ _ ?_ (fun hHeld => ?_)
        · exact ⟨(PtAt.c (HP.out.on hBz)).1, (PtAt.c (HP.out.on hBz)).2.1, (PtAt.c (HP.out.on hBz)).2.2.1, hBz⟩
        clear hK K
        try simp only [Act.put, List.getElem_toArray, List.getElem_cons_succ, List.getElem_cons_zero, List.setIfInBounds_toArray, List.set_cons_zero, List.set_cons_succ]
        refine wpAnyH_done (by kernel_rfl) ?_ _
        go_wp2_with fail
        go_meet
        exact ⟨_, a1, k1, rfl, HX2.out⟩
    · rw [if_pos (by rfl)]
      go_simp
      have hE := hB0.size
      have hB1 := hB0.alloc hB0.size (.cells #[.int .i64 0, .slice none 0 0, .int .i64 0, .int .i64 0] 26)
      have Z := Lib.hid (heap_alloc_new wa0 (.cells #[.int .i64 0, .slice none 0 0, .int .i64 0, .int .i64 0] 26))
      have lz : w.heap.size + 4 ≤ wa0.heap.size := by rw [← HSZ.out]; exact hE
      obtain ⟨g, hg2⟩ : ∃ g, g = wa0.heap.size := ⟨_, rfl⟩
      rw [← hg2] at Z lz ⊢
      clear hg2 hE
      generalize wa0.alloc (.cells #[.int .i64 0, .slice none 0 0, .int .i64 0, .int .i64 0] 26) = wa1 at hB1 Z ⊢
      clear hB0
      refine hK.out _ _ ?_ (fun hHeld => ?_)
      · exact ⟨(PtAt.c (HP.out.on hB1)).1, (PtAt.c (HP.out.on hB1)).2.1, (PtAt.c (HP.out.on hB1)).2.2.1, hB1⟩
      clear hK K
      try simp only [Act.put, List.getElem_toArray, List.getElem_cons_succ, List.getElem_cons_zero, List.setIfInBounds_toArray, List.set_cons_zero, List.set_cons_succ]
      refine wpAnyH_ready (rs := [2]) (by kernel_rfl) (by simp) ?_
      refine AllReadyH.cons rfl (fun K hK => ?_) AllReadyH.nil
      rw [if_pos (by rfl)]
      go_simp
      have hE := hB1.size
      have own0 : OwnV (wa1.alloc (.cells #[] 3)) (g + 1) 3 (.slice (some ⟨wa1.heap.size, 0, none⟩) 0 0) (i64V []) := OwnV.lit_ (w := wa1) 3 [] (by have := lt_of_heap Z.out; omega) (by decide)
      have hB2 := hB1.alloc hB1.size (.cells #[] 3)
      have Z := Lib.hid ((heap_alloc_old wa1 (.cells #[] 3) (lt_of_heap Z.out)).trans Z.out)
      have hgb : wa1.heap.size < (wa1.alloc (.cells #[] 3)).heap.size := by simp
      obtain ⟨gb, hgb2⟩ : ∃ gb, gb = wa1.heap.size := ⟨_, rfl⟩
      rw [← hgb2] at own0 hgb ⊢
      clear hgb2 hE
      generalize wa1.alloc (.cells #[] 3) = wa2 at own0 hB2 hgb Z ⊢
      clear hB1
      refine hK.out _ _ ?_ (fun hHeld => ?_)
      · exact ⟨(PtAt.c (HP.out.on hB2)).1, (PtAt.c (HP.out.on hB2)).2.1, (PtAt.c (HP.out.on hB2)).2.2.1, hB2⟩
      clear hK K
      try simp only [Act.put, List.getElem_toArray, List.getElem_cons_succ, List.getElem_cons_zero, List.setIfInBounds_toArray, List.set_cons_zero, List.set_cons_succ]
      refine wpAnyH_ready (rs := [5]) (by kernel_rfl) (by simp) ?_
      refine AllReadyH.cons rfl (fun K hK => ?_) AllReadyH.nil
      rw [if_pos (by rfl)]
      refine wp_append_ints (.tmp 15) (.tmp 17) 24 rfl (g + 1) 3 Try.underlying24 info_int (.slice (some ⟨gb, 0, none⟩) 0 0) [] rfl own0 _ a _ k p.start rfl (HR.out.on hB2).row rfl HR.out.nil_ (by simp; have := HL8.out; omega) (by have := own0.base_; omega) ?_
      intro v1 w3 hown hg hat
      rw [List.nil_append] at hown
      have Z := Lib.hid ((hg.block _ (lt_of_heap Z.out) (fun e => by simp [Value.ownBlock] at e; have := own0.base_; omega)).trans Z.out)
      have hB3 : Below x.heap.size x w3 := hB2.grown hg hB2.size (fun j hj => by simp [Value.ownBlock] at hj; have := own0.base_; have := HSZ.out; omega)
      obtain ⟨a1, k1, rfl, S1, B1, _⟩ := own_srw hown
      have HQ := Lib.hid S1
      have hne : ∀ b o, a1 = some ⟨b, o, none⟩ → w.heap.size + 4 ≤ b ∧ b ≠ g := fun b o e => by have := B1 b o e; omega
      clear hown hg hat own0 B1 S1 hgb
      clear hB2
      refine hK.out _ _ ?_ (fun hHeld => ?_)
      · exact ⟨(PtAt.c (HP.out.on hB3)).1, (PtAt.c (HP.out.on hB3)).2.1, (PtAt.c (HP.out.on hB3)).2.2.1, hB3⟩
      clear hK K
      try simp only [Act.put, List.getElem_toArray, List.getElem_cons_succ, List.getElem_cons_zero, List.setIfInBounds_toArray, List.set_cons_zero, List.set_cons_succ]
      generalize w3 = wa3 at *
      refine wpAnyH_take (i := 8) (v := ?_) rfl (by kernel_rfl) (by kernel_rfl) (by kernel_rfl) (fun _ _ _ h => h) (Or.inl ⟨by rfl, ?_⟩) (by assumption) ?_
      rotate_left
      · intro w hSw
        (try dsimp only at hSw)
        go_simp
        all_goals with_reducible rfl
      try simp only [Act.put, List.getElem_toArray, List.getElem_cons_succ, List.getElem_cons_zero, List.setIfInBounds_toArray, List.set_cons_zero, List.set_cons_succ]
      refine wpAnyH_ready (rs := [10]) (by kernel_rfl) (by simp) ?_
      refine AllReadyH.cons rfl (fun K hK => ?_) AllReadyH.nil
      rw [if_pos (by rfl)]
      refine wp_store_mid 26 (.tmp 10) (.tmp 21) (by rfl) g 0 #[.int .i64 p.ready, .slice a1 p.start.length k1, .int .i64 p.wait, .int .i64 0] (by rfl) (by rfl) (there_of_block Z.out (by simp)) (by kernel_rfl) (by kernel_rfl) ?_
      have hX : SX w wa3 c g ⟨0, [], 0, 0⟩ none 0 := ⟨bel2 HB.out hB3, HC.out.on hB3, (hB3.block _ (lt_of_heap HZ1.out)).trans HZ1.out, (hB3.block _ (lt_of_heap HZ2.out)).trans HZ2.out, Z.out, ⟨⟨Nat.le_refl _, by simp [maxLen], fun h => absurd h (by simp)⟩, fun _ => ⟨rfl, rfl⟩⟩, lz, fun b o e => by cases e⟩
      have HX2 := Lib.hid (hX.put (q2 := ⟨p.ready, p.start, p.wait, 0⟩) HQ.out hne)
      have hBz := below_setCells' g (by have := HSZ.out; omega) (#[.int .i64 p.ready, .slice a1 p.start.length k1, .int .i64 p.wait, .int .i64 0] : Array Value).toList 0 hB3
      refine hK.out _ _ ?_ (fun hHeld => ?_)
      · exact ⟨(PtAt.c (HP.out.on hBz)).1, (PtAt.c (HP.out.on hBz)).2.1, (PtAt.c (HP.out.on hBz)).2.2.1, hBz⟩
      clear hK K
      try simp only [Act.put, List.getElem_toArray, List.getElem_cons_succ, List.getElem_cons_zero, List.setIfInBounds_toArray, List.set_cons_zero, List.set_cons_succ]
      refine wpAnyH_done (by kernel_rfl) ?_ _
      go_wp2_with fail
      go_meet
      exact ⟨_, a1, k1, rfl, HX2.out⟩
  case rest =>
  obtain ⟨g, a1, k1, rfl, hX⟩ := hcut
  generalize wc = w5 at *
  have HX := Lib.hid hX
  clear hX HP HZ1 HZ2 HB HC HR
  obtain ⟨q1, hq1⟩ : ∃ q1 : Pt, q1 = ⟨(first p).ready, (first p).start, p.wait, 0⟩ := ⟨_, rfl⟩
  have HQ1 := Lib.hid hq1
  clear hq1
  obtain ⟨xc0, xc1, xc2, xc3⟩ := PtAt.c HX.out.px
  go_upto_if 25 with fail
  clear xc0 xc1 xc2 xc3
  go_cut [10] from 25 to 37 (fun v wx => v = .pointer (some ⟨g, 0, none⟩) ∧ ∃ a1 k1, SX w wx c g q1 a1 k1)
  case first =>
    obtain ⟨bq, hbq⟩ : ∃ b, decide (0 < p.start.length) = b := ⟨_, rfl⟩
    rw [hbq]
    have HBQ := Lib.hid hbq
    clear hbq
    obtain hst | ⟨v, l, hst⟩ : p.start = [] ∨ ∃ v l, p.start = v :: l := by cases p.start <;> simp
    · have e : first p = p := by unfold first; rw [hst]
      have hq : q1 = ⟨p.ready, [], p.wait, 0⟩ := by rw [HQ1.out, e, hst]
      have HQ := Lib.hid hq
      have hb0 : bq = false := by rw [← HBQ.out, hst]; rfl
      subst hb0
      have HST := Lib.hid hst
      clear e hq hst
      go_wp2_with fail
      go_meet
      case rel => exact ⟨rfl, a1, k1, by rw [HQ.out]; have h9 := HX.out; rw [HST.out] at h9; exact h9⟩
    · have hb0 : bq = true := by rw [← HBQ.out, hst]; simp
      subst hb0
      have HXl : Hid (SX w w5 c g ⟨p.ready, v :: l, p.wait, 0⟩ a1 k1) := by show SX _ _ _ _ _ _ _; have h9 := HX.out; rw [hst] at h9; exact h9
      have hq : q1 = ⟨p.ready + v, l, p.wait, 0⟩ := by rw [HQ1.out]; unfold first; rw [hst]
      have HQ := Lib.hid hq
      have hvb := HO.out.nums v (by rw [hst]; simp)
      have hr1 := HO.out.r1
      have hr2 := HO.out.r2
      have wv : IntKind.i64.wrap (p.ready + v) = p.ready + v := by rw [IntKind.wrap_i64]; omega
      have hpl : p.start.length = l.length + 1 := by rw [hst]; rfl
      obtain ⟨b1, o1, rfl, hb1, hcv⟩ := HXl.out.row.cell (j := 0) (by simp)
      have hcv : w5.cell? ⟨b1, o1, none⟩ = some (.int .i64 v) := hcv
      have hle := HXl.out.row.row.le
      simp only [List.length_cons] at hle
      have ho := HXl.out.own b1 o1 rfl
      have HOO := Lib.hid ho
      have h0l : (0 : Int) < (p.start.length : Int) := by omega
      have h0n : 0 < p.start.length := by omega
      obtain ⟨a2, ha2⟩ : ∃ a2, a2 = (if k1 = 1 then some (⟨b1, o1, none⟩ : Addr) else (some (⟨b1, o1, none⟩ : Addr)).map (·.add 1)) := ⟨_, rfl⟩
      have HA2 := Lib.hid ha2
      have hcut1 : ∀ y, (Instr.slice 24 (.slice (some ⟨b1, o1, none⟩) (l.length + 1) k1) (some (.int .i64 1)) none none).run Try.prog y = .ok (.slice a2 l.length (k1 - 1)) y := fun y => by
        have h9 := run_cut1_from (P := Try.prog) 24 3 Try.underlying24 info_int (some ⟨b1, o1, none⟩) (l.length + 1) k1 1 (by omega) y
        rw [ha2]
        rw [show l.length + 1 - 1 = l.length by omega] at h9
        exact h9
      have HPL := Lib.hid hpl
      clear hq hvb hr1 hr2 hst ho hpl ha2 hle
      obtain ⟨xc0, xc1, xc2, xc3⟩ := PtAt.c HX.out.px
      have xf0 := frozen_of_row w5 g 0 _ _ HX.out.px
      go_upto_region 3 with fail
      go_still_tail 8, (by kernel_rfl)
      go_upto_region 4 with fail
      have HX6 := Lib.hid (HXl.out.cell (q2 := ⟨p.ready + v, v :: l, p.wait, 0⟩) (a2 := some ⟨b1, o1, none⟩) (k2 := k1) 0 (.int .i64 (p.ready + v)) rfl HXl.out.row HXl.out.own)
      clear xc0 xc1 xc2 xc3 xf0 hcv wv HX HXl
      have HX6 := Lib.hid (HX6.out.on (Below.drew (Below.refl _ _)))
      generalize (w5.setCell ⟨g, 0, none⟩ (.int .i64 (p.ready + v))).drew = w6 at *
      obtain ⟨xc0, xc1, xc2, xc3⟩ := PtAt.c HX6.out.px
      have xf1 := frozen_of_row w6 g 1 _ _ HX6.out.px
      simp only [List.length_cons] at xc1
      go_wp2_with fail
      go_meet
      case rel => exact ⟨rfl, a2, k1 - 1, by rw [HQ.out]; exact HX6.out.cell (q2 := ⟨p.ready + v, l, p.wait, 0⟩) 1 (.slice a2 l.length (k1 - 1)) rfl (by rw [HA2.out]; exact HX6.out.row.from_) (by rw [HA2.out]; exact own_from HOO.out)⟩
  case rest =>
  obtain ⟨rfl, a6, k6, hX6⟩ := hcut
  generalize wc = w7 at *
  have HX7 := Lib.hid hX6
  clear hX6 HX
  have hc7 := HCO.out
  unfold confR at hc7
  have hc8 := of_decide_eq_true hc7
  obtain ⟨_, _, _, _, hcap, hdel, _⟩ := hc8
  clear hc7
  have hn7 : NOk q1 := by rw [HQ1.out]; exact first_n HO.out
  have hw7 := rep_le want
  obtain ⟨W, hW⟩ : ∃ W, min (max want 0) 1000 = W := ⟨_, rfl⟩
  have hWr : rep want = W := hW
  rw [hWr] at hw7
  have HSC := Lib.hid (rsized_any hn7 HX7.out.row c.delay W hdel hw7)
  have hsok := sized_ok hn7 hdel hw7
  have hq8w : (sized c.delay q1 W).wait = p.wait := by rw [sized_wait, HQ1.out]
  have hq8 : sized c.delay q1 W = sized c.delay (first p) (rep want) := by rw [hWr, HQ1.out]; exact sized_first _ _ _
  generalize sized c.delay q1 W = q8 at *
  have HQ8 := Lib.hid hq8
  have HQW := Lib.hid hq8w
  have HSK := Lib.hid hsok
  clear hq8 hq8w hsok hWr hn7
  have hf5 := (cell_of_row _ _ 5 _ _ _ HX7.out.cb).trans rfl
  go_wp2_with (first | (refine wpList_load_rowG (by first | rfl | kernel_rfl | (simp [Region.wanted, yielded])) 26 (.tmp 10) (by rfl) g (by rfl) 26 _ (0, 0) _ HX7.out.px Try.underlying26 (by rfl) (by kernel_rfl) ?_) | fail)
  refine HSC.out.mono ?_
  rintro r w8 ⟨a8, k8, rfl, S8, O8, b8⟩
  unfold ptV
  have hgl := lt_of_heap HX7.out.px
  have ho8 : ∀ b o, a8 = some ⟨b, o, none⟩ → w.heap.size + 4 ≤ b ∧ b ≠ g := fun b o e => by have := O8 b o e; have := HX7.out.hg; omega
  have HX8 := Lib.hid (HX7.out.on b8)
  have HS8 := Lib.hid S8
  have HO8 := Lib.hid ho8
  clear HX7 HSC S8 O8 b8 hf5 hgl ho8 hW hw7
  go_upto_region 6 with (first | (refine wpList_store_mid (by rfl) 26 (.tmp 10) (.tmp 44) (by rfl) g 0 #[.int .i64 q8.ready, .slice a8 q8.start.length k8, .int .i64 q8.wait, .int .i64 q8.util] (by rfl) (by rfl) (there_of_block HX8.out.px (by simp)) (by kernel_rfl) (by kernel_rfl) ?_) | fail)
  have HX9 := Lib.hid (HX8.out.put HS8.out HO8.out)
  clear HX8 HS8
  generalize w8.setCells g 0 _ = w9 at *
  obtain ⟨xc0, xc1, xc2, xc3⟩ := PtAt.c HX9.out.px
  obtain ⟨D, hD⟩ : ∃ D, min (max demand 0) 1000000 = D := ⟨_, rfl⟩
  have HD := Lib.hid hD
  go_wp2_with fail
  refine (radd_any q8.wait D _).mono ?_
  rintro r v9 ⟨rfl, h9⟩
  obtain rfl := h9.symm
  obtain ⟨TD, hTD⟩ : ∃ T, Fx.add q8.wait D = T := ⟨_, rfl⟩
  have hTb := Fx.add_le q8.wait D
  rw [hTD] at hTb ⊢
  have HTD := Lib.hid hTD
  clear hTD hD
  obtain ⟨M, hM⟩ : ∃ M, q8.ready * c.cap = M := ⟨_, rfl⟩
  have hMb : 0 ≤ M ∧ M ≤ 1000000000 := by
    rw [← hM]
    have h1 := HSK.out.2.r1
    have h2 := HSK.out.2.r2
    exact ⟨Int.mul_nonneg h1 (by omega), Int.le_trans (Int.mul_le_mul h2 hcap.2 (by omega) (by omega)) (by decide)⟩
  obtain ⟨K, hK⟩ : ∃ K, min M 1000000000 = K := ⟨_, rfl⟩
  have hKb : 0 ≤ K ∧ K ≤ 1000000000 := by omega
  have wM : IntKind.i64.wrap M = M := by rw [IntKind.wrap_i64]; omega
  have wK : IntKind.i64.wrap K = K := by rw [IntKind.wrap_i64]; omega
  have HMM := Lib.hid hM
  have HKK := Lib.hid hK
  obtain ⟨V, hV⟩ : ∃ V, max (TD - K) 0 = V := ⟨_, rfl⟩
  have hTb1 := hTb.1
  have hTb2 := hTb.2
  have wV : IntKind.i64.wrap (TD - K) = TD - K := by rw [IntKind.wrap_i64]; omega
  have HVV := Lib.hid hV
  have hf4 := (cell_of_row _ _ 4 _ _ _ HX9.out.cb).trans rfl
  have xf2 := frozen_of_row w9 g 2 _ _ HX9.out.px
  clear hTb hMb hKb hTb1 hTb2
  go_upto_region 9 with fail
  have HX10 := Lib.hid (HX9.out.cell (q2 := ⟨q8.ready, q8.start, V, q8.util⟩) (a2 := a8) (k2 := k8) 2 (.int .i64 V) rfl HX9.out.row HX9.out.own)
  clear HX9 xc0 xc1 xc2 xc3 xf2 hf4 hK hV hM wM wK wV
  generalize w9.setCell ⟨g, 2, none⟩ (.int .i64 V) = w10 at *
  obtain ⟨xc0, xc1, xc2, xc3⟩ := PtAt.c HX10.out.px
  have xf3 := frozen_of_row w10 g 3 _ _ HX10.out.px
  go_wp2_with fail
  refine (rdiv_any TD K _).mono ?_
  rintro r v9 ⟨rfl, h9⟩
  obtain rfl := h9.symm
  obtain ⟨U, hU⟩ : ∃ U, Fx.div TD K = U := ⟨_, rfl⟩
  rw [hU]
  have HU := Lib.hid hU
  clear hU
  have HX11 := Lib.hid (HX10.out.cell (q2 := ⟨q8.ready, q8.start, V, U⟩) (a2 := a8) (k2 := k8) 3 (.int .i64 U) rfl HX10.out.row HX10.out.own)
  clear HX10
  go_wp2_with fail
  clear xc0 xc1 xc2 xc3 xf3
  generalize w10.setCell ⟨g, 3, none⟩ (.int .i64 U) = w11 at *
  go_loopw [] (fun wx => ∃ (L : List Int) (a1 : Option Addr) (k1 : Nat), trim L = trim q8.start ∧ (∀ y ∈ L, 0 ≤ y ∧ y ≤ 1000) ∧ L.length ≤ 8 ∧ SX w wx c g ⟨q8.ready, L, V, U⟩ a1 k1) (fun wx => match wx.cell? ⟨g, 1, none⟩ with | some v => slen v | none => 0)
  case atStart => exact ⟨q8.start, a8, k8, rfl, HSK.out.2.nums, HSK.out.2.len, HX11.out⟩
  case round =>
    clear HX11
    obtain ⟨L, a1, k1, ht, hnm, hll, hX⟩ := hrel
    have HX := Lib.hid hX
    have HNM := Lib.hid hnm
    have HLL := Lib.hid hll
    clear hX hnm hll
    rcases List.eq_nil_or_concat L with hLe | ⟨M, z, hLe⟩
    · subst hLe
      have hL : trim q8.start = [] := ht.symm
      clear ht
      obtain ⟨xc0, xc1, xc2, xc3⟩ := PtAt.c HX.out.px
      simp only [List.length_nil] at xc1
      go_upto_region 12 with fail
      clear xc0 xc1 xc2 xc3
      obtain ⟨L, hLL⟩ : ∃ L : List Int, L = [] := ⟨_, rfl⟩
      rw [← hLL] at hL HX HNM HLL
      clear hLL
      have HLT := Lib.hid hL
      have HT : Hid (Plt.step c p want demand = ⟨q8.ready, L, V, U⟩) := by
        show _ = _
        unfold Plt.step todo can
        rw [← HQ8.out, HLT.out, ← HQW.out, HD.out, HTD.out, HMM.out, HKK.out, HVV.out, HU.out]
      have hnq : NOk ⟨q8.ready, L, V, U⟩ := ⟨HSK.out.2.r1, HSK.out.2.r2, HLL.out, HNM.out⟩
      have HALL := Lib.hid (fun (y : World) (hb : Below wr.heap.size wr y) => rall_any hnq (HX.out.row.on hb))
      clear hnq hL
      refine wp_region_held_drew (S := fun wy => PtAt wy g ⟨q8.ready, L, V, U⟩ a1 k1 ∧ wy.cell? ⟨g, 2, none⟩ = some (.int .i64 V) ∧ wy.cell? ⟨w.heap.size, 6, none⟩ = some (.int .i64 c.slack)) (by kernel_rfl) ⟨HX.out.px, (PtAt.c HX.out.px).2.2.1, (cell_of_row _ _ 6 _ _ _ HX.out.cb).trans rfl⟩ (fun hHeld => ?_)
      refine wpAnyH_take (i := 0) (v := .agg #[.int .i64 q8.ready, .slice a1 L.length k1, .int .i64 V, .int .i64 U]) rfl (by kernel_rfl) (by kernel_rfl) (by kernel_rfl) (fun _ _ _ h => h) (Or.inl ⟨by rfl, fun wz hS => exec_rowG 26 (.tmp 10) rfl g rfl 26 _ (0, 0) _ hS.1 Try.underlying26 rfl (by kernel_rfl)⟩) (by assumption) ?_
      try simp only [Act.put, List.getElem_toArray, List.getElem_cons_succ, List.getElem_cons_zero, List.setIfInBounds_toArray, List.set_cons_zero, List.set_cons_succ]
      refine wpAnyH_take (i := 1) (v := .agg #[.int .i64 q8.ready, .slice a1 L.length k1, .int .i64 V, .int .i64 U]) rfl (by kernel_rfl) (by kernel_rfl) (by kernel_rfl) (fun _ _ _ h => h) (Or.inl ⟨by rfl, fun wz hS => exec_rowG 26 (.tmp 10) rfl g rfl 26 _ (0, 0) _ hS.1 Try.underlying26 rfl (by kernel_rfl)⟩) (by assumption) ?_
      try simp only [Act.put, List.getElem_toArray, List.getElem_cons_succ, List.getElem_cons_zero, List.setIfInBounds_toArray, List.set_cons_zero, List.set_cons_succ]
      refine wpAnyH_take (i := 3) (v := ?_) rfl (by kernel_rfl) (by kernel_rfl) (by kernel_rfl) (fun _ _ _ h => h) (Or.inl ⟨by rfl, ?_⟩) (by assumption) ?_
      rotate_left
      · intro w hSw
        (try dsimp only at hSw)
        go_simp
        all_goals with_reducible rfl
      try simp only [Act.put, List.getElem_toArray, List.getElem_cons_succ, List.getElem_cons_zero, List.setIfInBounds_toArray, List.set_cons_zero, List.set_cons_succ]
      refine wpAnyH_take (i := 4) (v := ?_) rfl (by kernel_rfl) (by kernel_rfl) (by kernel_rfl) (fun _ _ _ h => h) (Or.inl ⟨by rfl, ?_⟩) (by assumption) ?_
      rotate_left
      · intro w hSw
        (try dsimp only at hSw)
        go_simp
        all_goals with_reducible rfl
      try simp only [Act.put, List.getElem_toArray, List.getElem_cons_succ, List.getElem_cons_zero, List.setIfInBounds_toArray, List.set_cons_zero, List.set_cons_succ]
      refine wpAnyH_take (i := 5) (v := ?_) rfl (by kernel_rfl) (by kernel_rfl) (by kernel_rfl) (fun _ _ _ h => h) (Or.inl ⟨by rfl, ?_⟩) (by assumption) ?_
      rotate_left
      · intro w hSw
        (try dsimp only at hSw)
        go_simp
        all_goals with_reducible rfl
      try simp only [Act.put, List.getElem_toArray, List.getElem_cons_succ, List.getElem_cons_zero, List.setIfInBounds_toArray, List.set_cons_zero, List.set_cons_succ]
      refine wpAnyH_take (i := 6) (v := ?_) rfl (by kernel_rfl) (by kernel_rfl) (by kernel_rfl) (fun _ _ _ h => h) (Or.inl ⟨by rfl, ?_⟩) (by assumption) ?_
      rotate_left
      · intro w hSw
        (try dsimp only at hSw)
        go_simp
        all_goals with_reducible rfl
      try simp only [Act.put, List.getElem_toArray, List.getElem_cons_succ, List.getElem_cons_zero, List.setIfInBounds_toArray, List.set_cons_zero, List.set_cons_succ]
      refine wpAnyH_take (i := 7) (v := ?_) rfl (by kernel_rfl) (by kernel_rfl) (by kernel_rfl) (fun _ _ _ h => h) (Or.inl ⟨by rfl, ?_⟩) (by assumption) ?_
      rotate_left
      · intro w hSw
        (try dsimp only at hSw)
        go_simp
        all_goals with_reducible rfl
      try simp only [Act.put, List.getElem_toArray, List.getElem_cons_succ, List.getElem_cons_zero, List.setIfInBounds_toArray, List.set_cons_zero, List.set_cons_succ]
      have hB0 : Below wr.heap.size wr wr.drew := Below.drew (Below.refl _ _)
      clear hHeld
      refine wpAnyH_ready (rs := [2]) (by kernel_rfl) (by simp) ?_
      refine AllReadyH.cons rfl (fun K hK => ?_) AllReadyH.nil
      rw [if_pos (by rfl)]
      go_simp
      go_at_call 16
      refine (HALL.out _ hB0).mono ?_
      rintro r wq ⟨rfl, b⟩
      have hB1 := bel2 hB0 b
      have HXq := Lib.hid (HX.out.on hB1)
      clear b hB0 hB1 HALL
      refine hK.out _ _ ?_ (fun hHeld => ?_)
      · exact ⟨HXq.out.px, (PtAt.c (HXq.out.px)).2.2.1, (cell_of_row _ _ 6 _ _ _ (HXq.out.cb)).trans rfl⟩
      clear hK K
      try simp only [Act.put, List.getElem_toArray, List.getElem_cons_succ, List.getElem_cons_zero, List.setIfInBounds_toArray, List.set_cons_zero, List.set_cons_succ]
      refine wpAnyH_take (i := 8) (v := ?_) rfl (by kernel_rfl) (by kernel_rfl) (by kernel_rfl) (fun _ _ _ h => h) (Or.inl ⟨by rfl, ?_⟩) (by assumption) ?_
      rotate_left
      · intro w hSw
        (try dsimp only at hSw)
        go_simp
        all_goals with_reducible rfl
      try simp only [Act.put, List.getElem_toArray, List.getElem_cons_succ, List.getElem_cons_zero, List.setIfInBounds_toArray, List.set_cons_zero, List.set_cons_succ]
      refine wpAnyH_ready (rs := [9]) (by kernel_rfl) (by simp) ?_
      refine AllReadyH.cons rfl (fun K hK => ?_) AllReadyH.nil
      rw [if_pos (by rfl)]
      refine wp_store_mid 26 (.tmp 8) (.tmp 89) (by rfl) (w.heap.size + 2) 0 #[.int .i64 q8.ready, .slice a1 L.length k1, .int .i64 V, .int .i64 U] (by rfl) (by rfl) (there_of_block HXq.out.z1 (by simp)) (by kernel_rfl) (by kernel_rfl) ?_
      have hg4 := HXq.out.hg
      have z1 := Lib.hid (heap_setCells_whole (cs := [Value.int .i64 0, .slice none 0 0, .int .i64 0, .int .i64 0]) (#[.int .i64 q8.ready, .slice a1 L.length k1, .int .i64 V, .int .i64 U] : Array Value).toList rfl HXq.out.z1)
      have z2 := Lib.hid ((far_cells (w.heap.size + 3) (w.heap.size + 2) (by omega) (#[.int .i64 q8.ready, .slice a1 L.length k1, .int .i64 V, .int .i64 U] : Array Value).toList 0 wq).trans HXq.out.z2)
      have zp : PtAt (wq.setCells (w.heap.size + 2) 0 (#[.int .i64 q8.ready, .slice a1 L.length k1, .int .i64 V, .int .i64 U] : Array Value).toList) g ⟨q8.ready, L, V, U⟩ a1 k1 := (far_cells g (w.heap.size + 2) (by omega) (#[.int .i64 q8.ready, .slice a1 L.length k1, .int .i64 V, .int .i64 U] : Array Value).toList 0 wq).trans HXq.out.px
      have zc := HXq.out.cb.far (q := w.heap.size + 2) (by omega) (#[.int .i64 q8.ready, .slice a1 L.length k1, .int .i64 V, .int .i64 U] : Array Value).toList
      have zb := below_setCells' (w.heap.size + 2) (by omega) (#[.int .i64 q8.ready, .slice a1 L.length k1, .int .i64 V, .int .i64 U] : Array Value).toList 0 HXq.out.bel
      have zr := HXq.out.row.far (q := w.heap.size + 2) (fun b o e => by have := HXq.out.own b o e; omega) (#[.int .i64 q8.ready, .slice a1 L.length k1, .int .i64 V, .int .i64 U] : Array Value).toList
      have ZP := Lib.hid zp
      have ZC := Lib.hid zc
      have ZB := Lib.hid zb
      have ZR := Lib.hid zr
      have ZO := Lib.hid HXq.out.own
      clear zp zc zb zr HXq HX
      generalize wq.setCells (w.heap.size + 2) 0 (#[.int .i64 q8.ready, .slice a1 L.length k1, .int .i64 V, .int .i64 U] : Array Value).toList = ws at z1 z2 ZP ZC ZB ZR ⊢
      refine hK.out _ _ ?_ (fun hHeld => ?_)
      · exact ⟨ZP.out, (PtAt.c (ZP.out)).2.2.1, (cell_of_row _ _ 6 _ _ _ (ZC.out)).trans rfl⟩
      clear hK K
      try simp only [Act.put, List.getElem_toArray, List.getElem_cons_succ, List.getElem_cons_zero, List.setIfInBounds_toArray, List.set_cons_zero, List.set_cons_succ]
      refine wpAnyH_ready (rs := [10]) (by kernel_rfl) (by simp) ?_
      refine AllReadyH.cons rfl (fun K hK => ?_) AllReadyH.nil
      rw [if_pos (by rfl)]
      refine wp_store_mid 31 (.tmp 9) (.tmp 97) (by rfl) (w.heap.size + 3) 0 #[.int .i64 (all ⟨q8.ready, L, V, U⟩), .bool (decide (c.slack < V))] (by rfl) (by rfl) (there_of_block z2.out (by simp)) (by kernel_rfl) (by kernel_rfl) ?_
      have y1 := Lib.hid ((far_cells (w.heap.size + 2) (w.heap.size + 3) (by omega) (#[.int .i64 (all ⟨q8.ready, L, V, U⟩), .bool (decide (c.slack < V))] : Array Value).toList 0 ws).trans z1.out)
      have y2 := Lib.hid (heap_setCells_whole (cs := [Value.int .i64 0, .bool false]) (#[.int .i64 (all ⟨q8.ready, L, V, U⟩), .bool (decide (c.slack < V))] : Array Value).toList rfl z2.out)
      have yp : PtAt (ws.setCells (w.heap.size + 3) 0 (#[.int .i64 (all ⟨q8.ready, L, V, U⟩), .bool (decide (c.slack < V))] : Array Value).toList) g ⟨q8.ready, L, V, U⟩ a1 k1 := (far_cells g (w.heap.size + 3) (by omega) (#[.int .i64 (all ⟨q8.ready, L, V, U⟩), .bool (decide (c.slack < V))] : Array Value).toList 0 ws).trans ZP.out
      have yc := ZC.out.far (q := w.heap.size + 3) (by omega) (#[.int .i64 (all ⟨q8.ready, L, V, U⟩), .bool (decide (c.slack < V))] : Array Value).toList
      have yb := Lib.hid (below_setCells' (w.heap.size + 3) (by omega) (#[.int .i64 (all ⟨q8.ready, L, V, U⟩), .bool (decide (c.slack < V))] : Array Value).toList 0 ZB.out)
      have yr := Lib.hid (ZR.out.far (q := w.heap.size + 3) (fun b o e => by have := ZO.out b o e; omega) (#[.int .i64 (all ⟨q8.ready, L, V, U⟩), .bool (decide (c.slack < V))] : Array Value).toList)
      generalize ws.setCells (w.heap.size + 3) 0 (#[.int .i64 (all ⟨q8.ready, L, V, U⟩), .bool (decide (c.slack < V))] : Array Value).toList = wt at y1 y2 yp yc yb yr ⊢
      refine hK.out _ _ ?_ (fun hHeld => ?_)
      · exact ⟨yp, (PtAt.c (yp)).2.2.1, (cell_of_row _ _ 6 _ _ _ (yc)).trans rfl⟩
      clear hK K
      try simp only [Act.put, List.getElem_toArray, List.getElem_cons_succ, List.getElem_cons_zero, List.setIfInBounds_toArray, List.set_cons_zero, List.set_cons_succ]
      refine wpAnyH_done (by kernel_rfl) ?_ _
      clear yp yc hHeld
      go_wp2_with fail
      refine bodyPost_ret (results_two_rows rfl _ _ (w.heap.size + 2) (w.heap.size + 3) _ _ _ _ _ _ _ _ rfl y1.out Try.underlying26 (by rfl) (by kernel_rfl) rfl y2.out Try.underlying31 (by rfl) (by kernel_rfl)) (by rfl) ?_
      refine ⟨a1, k1, ?_, ?_, fun b o e => by have := ZO.out b o e; omega, yb.out⟩
      · unfold mkV Plt.mark; rw [HT.out]
      · rw [HT.out]; exact yr.out
    · rw [List.concat_eq_append] at hLe
      subst hLe
      obtain ⟨m, hm⟩ : ∃ m, M.length = m := ⟨_, rfl⟩
      have HM := Lib.hid hm
      have hlen9 : (M ++ [z]).length = m + 1 := by simp [hm]
      have HLEN := Lib.hid hlen9
      have hm8 : m ≤ 7 := by have := HLL.out; omega
      obtain ⟨xc0, xc1, xc2, xc3⟩ := PtAt.c HX.out.px
      have xf1 := frozen_of_row wr g 1 _ _ HX.out.px
      simp only [hlen9] at xc1
      obtain ⟨b, o, rfl, hbl, hc9⟩ := HX.out.row.cell (j := m) (by show m < (M ++ [z]).length; omega)
      have hzz : (M ++ [z]).getD m 0 = z := by rw [List.getD_eq_getElem?_getD, ← hm]; simp
      have hcz : wr.cell? ⟨b, o + m, none⟩ = some (.int .i64 z) := by rw [← hzz]; exact hc9
      clear hc9
      have hkk := HX.out.row.row.le
      have hkk : m ≤ k1 := by have h9 : (M ++ [z]).length ≤ k1 := hkk; omega
      have hcut := fun y => run_cut1_to (P := Try.prog) 24 3 Try.underlying24 info_int (some ⟨b, o, none⟩) (m + 1) k1 m hkk y
      have wm1 : IntKind.i64.wrap ((m : Int) + 1 - 1) = (m : Int) := by rw [IntKind.wrap_i64]; omega
      have hmm : (m : Int) < (m : Int) + 1 := by omega
      have hm0 : (0 : Int) ≤ (m : Int) := by omega
      have h0m : 0 < m + 1 := by omega
      have h0i : (0 : Int) < (m : Int) + 1 := by omega
      clear hm hlen9 hzz hbl
      by_cases hz : z = 0
      · subst hz
        have HHT := Lib.hid ht
        clear ht
        have XC1 := Lib.hid xc1
        go_wp2_with fail
        have HX2 := Lib.hid (HX.out.cell (q2 := ⟨q8.ready, M, V, U⟩) (a2 := some ⟨b, o, none⟩) (k2 := k1) 1 (.slice (some ⟨b, o, none⟩) m k1) (by rw [← HM.out]; rfl) (by have := HX.out.row; exact this.pop) HX.out.own)
        have X21 := Lib.hid (PtAt.c HX2.out.px).2.1
        go_roundw
        case rel => exact ⟨M, some ⟨b, o, none⟩, k1, by rw [← HHT.out, trim_snoc_zero], fun y hy => HNM.out y (by simp [hy]), by have := HM.out; omega, HX2.out⟩
        case measure =>
          rw [X21.out, XC1.out]
          have := HM.out
          simp only [slen]
          omega
      · have hzb : (z == 0) = false := by simpa using hz
        have hL : trim q8.start = M ++ [z] := by rw [← ht, trim_snoc hz]
        clear ht hz
        go_upto_region 12 with fail
        clear xc0 xc1 xc2 xc3 xf1 hcz hcut wm1 hmm hm0 hm8 hkk hzb h0m h0i
        obtain ⟨L, hLL⟩ : ∃ L : List Int, L = M ++ [z] := ⟨_, rfl⟩
        rw [← hLL] at hL HX HNM HLL
        clear hLL HLEN HM
        have HLT := Lib.hid hL
        have HT : Hid (Plt.step c p want demand = ⟨q8.ready, L, V, U⟩) := by
          show _ = _
          unfold Plt.step todo can
          rw [← HQ8.out, HLT.out, ← HQW.out, HD.out, HTD.out, HMM.out, HKK.out, HVV.out, HU.out]
        have hnq : NOk ⟨q8.ready, L, V, U⟩ := ⟨HSK.out.2.r1, HSK.out.2.r2, HLL.out, HNM.out⟩
        have HALL := Lib.hid (fun (y : World) (hb : Below wr.heap.size wr y) => rall_any hnq (HX.out.row.on hb))
        clear hnq hL
        refine wp_region_held_drew (S := fun wy => PtAt wy g ⟨q8.ready, L, V, U⟩ (some ⟨b, o, none⟩) k1 ∧ wy.cell? ⟨g, 2, none⟩ = some (.int .i64 V) ∧ wy.cell? ⟨w.heap.size, 6, none⟩ = some (.int .i64 c.slack)) (by kernel_rfl) ⟨HX.out.px, (PtAt.c HX.out.px).2.2.1, (cell_of_row _ _ 6 _ _ _ HX.out.cb).trans rfl⟩ (fun hHeld => ?_)
        refine wpAnyH_take (i := 0) (v := .agg #[.int .i64 q8.ready, .slice (some ⟨b, o, none⟩) L.length k1, .int .i64 V, .int .i64 U]) rfl (by kernel_rfl) (by kernel_rfl) (by kernel_rfl) (fun _ _ _ h => h) (Or.inl ⟨by rfl, fun wz hS => exec_rowG 26 (.tmp 10) rfl g rfl 26 _ (0, 0) _ hS.1 Try.underlying26 rfl (by kernel_rfl)⟩) (by assumption) ?_
        try simp only [Act.put, List.getElem_toArray, List.getElem_cons_succ, List.getElem_cons_zero, List.setIfInBounds_toArray, List.set_cons_zero, List.set_cons_succ]
        refine wpAnyH_take (i := 1) (v := .agg #[.int .i64 q8.ready, .slice (some ⟨b, o, none⟩) L.length k1, .int .i64 V, .int .i64 U]) rfl (by kernel_rfl) (by kernel_rfl) (by kernel_rfl) (fun _ _ _ h => h) (Or.inl ⟨by rfl, fun wz hS => exec_rowG 26 (.tmp 10) rfl g rfl 26 _ (0, 0) _ hS.1 Try.underlying26 rfl (by kernel_rfl)⟩) (by assumption) ?_
        try simp only [Act.put, List.getElem_toArray, List.getElem_cons_succ, List.getElem_cons_zero, List.setIfInBounds_toArray, List.set_cons_zero, List.set_cons_succ]
        refine wpAnyH_take (i := 3) (v := ?_) rfl (by kernel_rfl) (by kernel_rfl) (by kernel_rfl) (fun _ _ _ h => h) (Or.inl ⟨by rfl, ?_⟩) (by assumption) ?_
        rotate_left
        · intro w hSw
          (try dsimp only at hSw)
          go_simp
          all_goals with_reducible rfl
        try simp only [Act.put, List.getElem_toArray, List.getElem_cons_succ, List.getElem_cons_zero, List.setIfInBounds_toArray, List.set_cons_zero, List.set_cons_succ]
        refine wpAnyH_take (i := 4) (v := ?_) rfl (by kernel_rfl) (by kernel_rfl) (by kernel_rfl) (fun _ _ _ h => h) (Or.inl ⟨by rfl, ?_⟩) (by assumption) ?_
        rotate_left
        · intro w hSw
          (try dsimp only at hSw)
          go_simp
          all_goals with_reducible rfl
        try simp only [Act.put, List.getElem_toArray, List.getElem_cons_succ, List.getElem_cons_zero, List.setIfInBounds_toArray, List.set_cons_zero, List.set_cons_succ]
        refine wpAnyH_take (i := 5) (v := ?_) rfl (by kernel_rfl) (by kernel_rfl) (by kernel_rfl) (fun _ _ _ h => h) (Or.inl ⟨by rfl, ?_⟩) (by assumption) ?_
        rotate_left
        · intro w hSw
          (try dsimp only at hSw)
          go_simp
          all_goals with_reducible rfl
        try simp only [Act.put, List.getElem_toArray, List.getElem_cons_succ, List.getElem_cons_zero, List.setIfInBounds_toArray, List.set_cons_zero, List.set_cons_succ]
        refine wpAnyH_take (i := 6) (v := ?_) rfl (by kernel_rfl) (by kernel_rfl) (by kernel_rfl) (fun _ _ _ h => h) (Or.inl ⟨by rfl, ?_⟩) (by assumption) ?_
        rotate_left
        · intro w hSw
          (try dsimp only at hSw)
          go_simp
          all_goals with_reducible rfl
        try simp only [Act.put, List.getElem_toArray, List.getElem_cons_succ, List.getElem_cons_zero, List.setIfInBounds_toArray, List.set_cons_zero, List.set_cons_succ]
        refine wpAnyH_take (i := 7) (v := ?_) rfl (by kernel_rfl) (by kernel_rfl) (by kernel_rfl) (fun _ _ _ h => h) (Or.inl ⟨by rfl, ?_⟩) (by assumption) ?_
        rotate_left
        · intro w hSw
          (try dsimp only at hSw)
          go_simp
          all_goals with_reducible rfl
        try simp only [Act.put, List.getElem_toArray, List.getElem_cons_succ, List.getElem_cons_zero, List.setIfInBounds_toArray, List.set_cons_zero, List.set_cons_succ]
        have hB0 : Below wr.heap.size wr wr.drew := Below.drew (Below.refl _ _)
        clear hHeld
        refine wpAnyH_ready (rs := [2]) (by kernel_rfl) (by simp) ?_
        refine AllReadyH.cons rfl (fun K hK => ?_) AllReadyH.nil
        rw [if_pos (by rfl)]
        go_simp
        go_at_call 16
        refine (HALL.out _ hB0).mono ?_
        rintro r wq ⟨rfl, b⟩
        have hB1 := bel2 hB0 b
        have HXq := Lib.hid (HX.out.on hB1)
        clear b hB0 hB1 HALL
        refine hK.out _ _ ?_ (fun hHeld => ?_)
        · exact ⟨HXq.out.px, (PtAt.c (HXq.out.px)).2.2.1, (cell_of_row _ _ 6 _ _ _ (HXq.out.cb)).trans rfl⟩
        clear hK K
        try simp only [Act.put, List.getElem_toArray, List.getElem_cons_succ, List.getElem_cons_zero, List.setIfInBounds_toArray, List.set_cons_zero, List.set_cons_succ]
        refine wpAnyH_take (i := 8) (v := ?_) rfl (by kernel_rfl) (by kernel_rfl) (by kernel_rfl) (fun _ _ _ h => h) (Or.inl ⟨by rfl, ?_⟩) (by assumption) ?_
        rotate_left
        · intro w hSw
          (try dsimp only at hSw)
          go_simp
          all_goals with_reducible rfl
        try simp only [Act.put, List.getElem_toArray, List.getElem_cons_succ, List.getElem_cons_zero, List.setIfInBounds_toArray, List.set_cons_zero, List.set_cons_succ]
        refine wpAnyH_ready (rs := [9]) (by kernel_rfl) (by simp) ?_
        refine AllReadyH.cons rfl (fun K hK => ?_) AllReadyH.nil
        rw [if_pos (by rfl)]
        refine wp_store_mid 26 (.tmp 8) (.tmp 89) (by rfl) (w.heap.size + 2) 0 #[.int .i64 q8.ready, .slice (some ⟨b, o, none⟩) L.length k1, .int .i64 V, .int .i64 U] (by rfl) (by rfl) (there_of_block HXq.out.z1 (by simp)) (by kernel_rfl) (by kernel_rfl) ?_
        have hg4 := HXq.out.hg
        have z1 := Lib.hid (heap_setCells_whole (cs := [Value.int .i64 0, .slice none 0 0, .int .i64 0, .int .i64 0]) (#[.int .i64 q8.ready, .slice (some ⟨b, o, none⟩) L.length k1, .int .i64 V, .int .i64 U] : Array Value).toList rfl HXq.out.z1)
        have z2 := Lib.hid ((far_cells (w.heap.size + 3) (w.heap.size + 2) (by omega) (#[.int .i64 q8.ready, .slice (some ⟨b, o, none⟩) L.length k1, .int .i64 V, .int .i64 U] : Array Value).toList 0 wq).trans HXq.out.z2)
        have zp : PtAt (wq.setCells (w.heap.size + 2) 0 (#[.int .i64 q8.ready, .slice (some ⟨b, o, none⟩) L.length k1, .int .i64 V, .int .i64 U] : Array Value).toList) g ⟨q8.ready, L, V, U⟩ (some ⟨b, o, none⟩) k1 := (far_cells g (w.heap.size + 2) (by omega) (#[.int .i64 q8.ready, .slice (some ⟨b, o, none⟩) L.length k1, .int .i64 V, .int .i64 U] : Array Value).toList 0 wq).trans HXq.out.px
        have zc := HXq.out.cb.far (q := w.heap.size + 2) (by omega) (#[.int .i64 q8.ready, .slice (some ⟨b, o, none⟩) L.length k1, .int .i64 V, .int .i64 U] : Array Value).toList
        have zb := below_setCells' (w.heap.size + 2) (by omega) (#[.int .i64 q8.ready, .slice (some ⟨b, o, none⟩) L.length k1, .int .i64 V, .int .i64 U] : Array Value).toList 0 HXq.out.bel
        have zr := HXq.out.row.far (q := w.heap.size + 2) (fun b o e => by have := HXq.out.own b o e; omega) (#[.int .i64 q8.ready, .slice (some ⟨b, o, none⟩) L.length k1, .int .i64 V, .int .i64 U] : Array Value).toList
        have ZP := Lib.hid zp
        have ZC := Lib.hid zc
        have ZB := Lib.hid zb
        have ZR := Lib.hid zr
        have ZO := Lib.hid HXq.out.own
        clear zp zc zb zr HXq HX
        generalize wq.setCells (w.heap.size + 2) 0 (#[.int .i64 q8.ready, .slice (some ⟨b, o, none⟩) L.length k1, .int .i64 V, .int .i64 U] : Array Value).toList = ws at z1 z2 ZP ZC ZB ZR ⊢
        refine hK.out _ _ ?_ (fun hHeld => ?_)
        · exact ⟨ZP.out, (PtAt.c (ZP.out)).2.2.1, (cell_of_row _ _ 6 _ _ _ (ZC.out)).trans rfl⟩
        clear hK K
        try simp only [Act.put, List.getElem_toArray, List.getElem_cons_succ, List.getElem_cons_zero, List.setIfInBounds_toArray, List.set_cons_zero, List.set_cons_succ]
        refine wpAnyH_ready (rs := [10]) (by kernel_rfl) (by simp) ?_
        refine AllReadyH.cons rfl (fun K hK => ?_) AllReadyH.nil
        rw [if_pos (by rfl)]
        refine wp_store_mid 31 (.tmp 9) (.tmp 97) (by rfl) (w.heap.size + 3) 0 #[.int .i64 (all ⟨q8.ready, L, V, U⟩), .bool (decide (c.slack < V))] (by rfl) (by rfl) (there_of_block z2.out (by simp)) (by kernel_rfl) (by kernel_rfl) ?_
        have y1 := Lib.hid ((far_cells (w.heap.size + 2) (w.heap.size + 3) (by omega) (#[.int .i64 (all ⟨q8.ready, L, V, U⟩), .bool (decide (c.slack < V))] : Array Value).toList 0 ws).trans z1.out)
        have y2 := Lib.hid (heap_setCells_whole (cs := [Value.int .i64 0, .bool false]) (#[.int .i64 (all ⟨q8.ready, L, V, U⟩), .bool (decide (c.slack < V))] : Array Value).toList rfl z2.out)
        have yp : PtAt (ws.setCells (w.heap.size + 3) 0 (#[.int .i64 (all ⟨q8.ready, L, V, U⟩), .bool (decide (c.slack < V))] : Array Value).toList) g ⟨q8.ready, L, V, U⟩ (some ⟨b, o, none⟩) k1 := (far_cells g (w.heap.size + 3) (by omega) (#[.int .i64 (all ⟨q8.ready, L, V, U⟩), .bool (decide (c.slack < V))] : Array Value).toList 0 ws).trans ZP.out
        have yc := ZC.out.far (q := w.heap.size + 3) (by omega) (#[.int .i64 (all ⟨q8.ready, L, V, U⟩), .bool (decide (c.slack < V))] : Array Value).toList
        have yb := Lib.hid (below_setCells' (w.heap.size + 3) (by omega) (#[.int .i64 (all ⟨q8.ready, L, V, U⟩), .bool (decide (c.slack < V))] : Array Value).toList 0 ZB.out)
        have yr := Lib.hid (ZR.out.far (q := w.heap.size + 3) (fun b o e => by have := ZO.out b o e; omega) (#[.int .i64 (all ⟨q8.ready, L, V, U⟩), .bool (decide (c.slack < V))] : Array Value).toList)
        generalize ws.setCells (w.heap.size + 3) 0 (#[.int .i64 (all ⟨q8.ready, L, V, U⟩), .bool (decide (c.slack < V))] : Array Value).toList = wt at y1 y2 yp yc yb yr ⊢
        refine hK.out _ _ ?_ (fun hHeld => ?_)
        · exact ⟨yp, (PtAt.c (yp)).2.2.1, (cell_of_row _ _ 6 _ _ _ (yc)).trans rfl⟩
        clear hK K
        try simp only [Act.put, List.getElem_toArray, List.getElem_cons_succ, List.getElem_cons_zero, List.setIfInBounds_toArray, List.set_cons_zero, List.set_cons_succ]
        refine wpAnyH_done (by kernel_rfl) ?_ _
        clear yp yc hHeld
        go_wp2_with fail
        refine bodyPost_ret (results_two_rows rfl _ _ (w.heap.size + 2) (w.heap.size + 3) _ _ _ _ _ _ _ _ rfl y1.out Try.underlying26 (by rfl) (by kernel_rfl) rfl y2.out Try.underlying31 (by rfl) (by kernel_rfl)) (by rfl) ?_
        refine ⟨(some ⟨b, o, none⟩), k1, ?_, ?_, fun b o e => by have := ZO.out b o e; omega, yb.out⟩
        · unfold mkV Plt.mark; rw [HT.out]
        · rw [HT.out]; exact yr.out
end Go.Proofs.Ytcfehddnccdejaa
