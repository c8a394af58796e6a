/- Contracts of the program's wire: what a step reads of a reader's bytes, guarded. -/
import Derived.Test.YtnpakjdgcmbcnaaWrF
namespace Go.Proofs.Ytnpakjdgcmbcnaa
open Go.RowKit
open Wir

set_option linter.unusedSimpArgs false in
set_option maxRecDepth 100000 in
set_option maxHeartbeats 1600000 in
theorem told_num {w : World} {g : Nat} {s : RS} {O : Nat → Prop} (h : Rdr 86 w g s O) :
    Calls Try.prog 79 #[.pointer (some ⟨g, 0, none⟩), .func (.func 80) #[] #[]] w fun e w' => e = .returned (.int .i64 (s.told (Wir.num) 0).1) ∧ Rdr 86 w' g (s.told (Wir.num) 0).2 O ∧ But O w w' := by
  have hno := h.ok.le
  have hbig := h.big
  obtain ⟨a, c, hc, hs, hfar⟩ := h.ex
  have k0 := cell_of_row _ _ 0 _ _ _ hc
  have k1 := cell_of_row _ _ 1 _ _ _ hc
  have k2 := cell_of_row _ _ 2 _ _ _ hc
  simp at k0 k1 k2
  have z1 := frozen_of_row _ _ 1 _ _ hc
  have z2 := frozen_of_row _ _ 2 _ _ hc
  have hle := hs.le
  have hmx := hs.max
  unfold maxLen at hmx
  by_cases he : s.e = 0
  · have c5 := run_cut_from (P := Try.prog) 28 5 Try.underlying28 info_u8 a s.bs.length c s.n hno
    have s5 := hs.from_ hno
    change ∀ w, _ = Result.ok (Value.slice (fromA a c s.n) (s.bs.length - s.n) (c - s.n)) w at c5
    generalize fromA a c s.n = a5 at c5 s5
    have e0 : ((s.e : Nat) : Int) = 0 := by omega
    rw [e0] at k2
    have HS := Lib.hid ((number_any a5 (s.bs.length - s.n) (c - s.n) (s.bs.drop s.n) w.drew (s5.below (Below.drew (Below.refl w.heap.size w)) (Nat.le_refl _))).mono (fun e' w1 (he : e' = _ ∧ w1 = _) => (⟨he.1, by rw [he.2]; exact Below.drew (Below.refl _ _)⟩ : e' = .returned (numT (Wir.num (s.bs.drop s.n))) ∧ Below w.heap.size w w1)))
    have HL := (num_le h.ok.drop)
    have HT : Hid (s.told (Wir.num) 0 = if (Wir.num (s.bs.drop s.n)).2.2 ≠ 0 then (0, { s with e := (Wir.num (s.bs.drop s.n)).2.2 }) else ((Wir.num (s.bs.drop s.n)).1, { s with n := s.n + (Wir.num (s.bs.drop s.n)).2.1 })) := by
      show _ = _
      unfold RS.told
      rw [if_neg (by omega)]
    rw [List.length_drop] at HL
    have HC := Lib.hid (And.intro hc (And.intro k1 (And.intro k2 (And.intro z1 z2))))
    have H := Lib.hid h
    have hgl := lt_of_heap hc
    generalize s.bs.drop s.n = rest at HS HL HT
    clear hs hfar s5 he e0 hc z1 z2 h
    generalize hr : Wir.num rest = r at HS HL HT
    obtain ⟨v, k, e⟩ := r
    simp only at HL
    clear hr
    go_enter Try.func79, Try.ntmps79
    go_wp2_with fail
    refine wp_region_held_drew (S := fun x => x.cell? ⟨g, 0, none⟩ = some (.slice a s.bs.length c) ∧ x.cell? ⟨g, 1, none⟩ = some (.int .i64 (s.n : Int))) (by kernel_rfl) ⟨k0, k1⟩ (fun hHeld => ?_)
    refine wpAnyH_take (i := 0) (v := ?_) rfl (by kernel_rfl) (by kernel_rfl) (by kernel_rfl) (fun _ _ _ h => h) (Or.inl ⟨by rfl, ?_⟩) (by assumption) ?_
    rotate_left
    · intro w hSw
      (try dsimp only at hSw)
      go_simp
      all_goals with_reducible rfl
    try simp only [Act.put, List.getElem_toArray, List.getElem_cons_succ, List.getElem_cons_zero, List.setIfInBounds_toArray, List.set_cons_zero, List.set_cons_succ]
    refine wpAnyH_take (i := 1) (v := ?_) rfl (by kernel_rfl) (by kernel_rfl) (by kernel_rfl) (fun _ _ _ h => h) (Or.inl ⟨by rfl, ?_⟩) (by assumption) ?_
    rotate_left
    · intro w hSw
      (try dsimp only at hSw)
      go_simp
      all_goals with_reducible rfl
    try simp only [Act.put, List.getElem_toArray, List.getElem_cons_succ, List.getElem_cons_zero, List.setIfInBounds_toArray, List.set_cons_zero, List.set_cons_succ]
    refine wpAnyH_take (i := 2) (v := ?_) rfl (by kernel_rfl) (by kernel_rfl) (by kernel_rfl) (fun _ _ _ h => h) (Or.inl ⟨by rfl, ?_⟩) (by assumption) ?_
    rotate_left
    · intro w hSw
      (try dsimp only at hSw)
      go_simp
      all_goals with_reducible rfl
    try simp only [Act.put, List.getElem_toArray, List.getElem_cons_succ, List.getElem_cons_zero, List.setIfInBounds_toArray, List.set_cons_zero, List.set_cons_succ]
    refine wpAnyH_take (i := 3) (v := ?_) rfl (by kernel_rfl) (by kernel_rfl) (by kernel_rfl) (fun _ _ _ h => h) (Or.inl ⟨by rfl, ?_⟩) (by assumption) ?_
    rotate_left
    · intro w hSw
      (try dsimp only at hSw)
      go_simp
      all_goals with_reducible rfl
    try simp only [Act.put, List.getElem_toArray, List.getElem_cons_succ, List.getElem_cons_zero, List.setIfInBounds_toArray, List.set_cons_zero, List.set_cons_succ]
    refine wpAnyH_take (i := 4) (v := ?_) rfl (by kernel_rfl) (by kernel_rfl) (by kernel_rfl) (fun _ _ _ h => h) (Or.inl ⟨by rfl, ?_⟩) (by assumption) ?_
    rotate_left
    · intro w hSw
      (try dsimp only at hSw)
      go_simp
      all_goals with_reducible rfl
    try simp only [Act.put, List.getElem_toArray, List.getElem_cons_succ, List.getElem_cons_zero, List.setIfInBounds_toArray, List.set_cons_zero, List.set_cons_succ]
    refine wpAnyH_take (i := 5) (v := ?_) rfl (by kernel_rfl) (by kernel_rfl) (by kernel_rfl) (fun _ _ _ h => h) (Or.inl ⟨by rfl, ?_⟩) (by assumption) ?_
    rotate_left
    · intro w hSw
      (try dsimp only at hSw)
      go_simp
      all_goals with_reducible rfl
    try simp only [Act.put, List.getElem_toArray, List.getElem_cons_succ, List.getElem_cons_zero, List.setIfInBounds_toArray, List.set_cons_zero, List.set_cons_succ]
    refine wpAnyH_take (i := 6) (v := ?_) rfl (by kernel_rfl) (by kernel_rfl) (by kernel_rfl) (fun _ _ _ h => h) (Or.inl ⟨by rfl, ?_⟩) (by assumption) ?_
    rotate_left
    · intro w hSw
      (try dsimp only at hSw)
      go_simp
      all_goals with_reducible rfl
    try simp only [Act.put, List.getElem_toArray, List.getElem_cons_succ, List.getElem_cons_zero, List.setIfInBounds_toArray, List.set_cons_zero, List.set_cons_succ]
    refine wpAnyH_take (i := 7) (v := ?_) rfl (by kernel_rfl) (by kernel_rfl) (by kernel_rfl) (fun _ _ _ h => h) (Or.inl ⟨by rfl, ?_⟩) (by assumption) ?_
    rotate_left
    · intro w hSw
      (try dsimp only at hSw)
      go_simp
      all_goals with_reducible rfl
    try simp only [Act.put, List.getElem_toArray, List.getElem_cons_succ, List.getElem_cons_zero, List.setIfInBounds_toArray, List.set_cons_zero, List.set_cons_succ]
    refine wpAnyH_take (i := 8) (v := ?_) rfl (by kernel_rfl) (by kernel_rfl) (by kernel_rfl) (fun _ _ _ h => h) (Or.inl ⟨by rfl, ?_⟩) (by assumption) ?_
    rotate_left
    · intro w hSw
      (try dsimp only at hSw)
      go_simp
      all_goals with_reducible rfl
    try simp only [Act.put, List.getElem_toArray, List.getElem_cons_succ, List.getElem_cons_zero, List.setIfInBounds_toArray, List.set_cons_zero, List.set_cons_succ]
    refine wpAnyH_take (i := 9) (v := ?_) rfl (by kernel_rfl) (by kernel_rfl) (by kernel_rfl) (fun _ _ _ h => h) (Or.inl ⟨by rfl, ?_⟩) (by assumption) ?_
    rotate_left
    · intro w hSw
      (try dsimp only at hSw)
      go_simp
      all_goals with_reducible rfl
    try simp only [Act.put, List.getElem_toArray, List.getElem_cons_succ, List.getElem_cons_zero, List.setIfInBounds_toArray, List.set_cons_zero, List.set_cons_succ]
    refine wpAnyH_ready (rs := [10]) (by kernel_rfl) (by simp) ?_
    refine AllReadyH.cons rfl (fun K hK => ?_) AllReadyH.nil
    rw [if_pos (by rfl)]
    go_simp
    go_at_call 80
    refine HS.out.mono ?_
    rintro e' w1 ⟨rfl, hB⟩
    have l0 := (hB.cell (p := ⟨g, 0, none⟩) hgl).trans k0
    have l1 := (hB.cell (p := ⟨g, 1, none⟩) hgl).trans k1
    have j1 : w1.frozen? ⟨g, 1, none⟩ = false := (hB.frozen (p := ⟨g, 1, none⟩) hgl).trans HC.out.2.2.2.1
    have j2 : w1.frozen? ⟨g, 2, none⟩ = false := (hB.frozen (p := ⟨g, 2, none⟩) hgl).trans HC.out.2.2.2.2
    have l2 := (hB.cell (p := ⟨g, 2, none⟩) hgl).trans HC.out.2.2.1
    have HB := Lib.hid (hB)
    clear hB
    unfold numT
    refine hK.out _ _ ?_ (fun hHeld => ?_)
    · exact ⟨l0, l1⟩
    clear hK K
    try simp only [Act.put, List.getElem_toArray, List.getElem_cons_succ, List.getElem_cons_zero, List.setIfInBounds_toArray, List.set_cons_zero, List.set_cons_succ]
    refine wpAnyH_take (i := 11) (v := ?_) rfl (by kernel_rfl) (by kernel_rfl) (by kernel_rfl) (fun _ _ _ h => h) (Or.inl ⟨by rfl, ?_⟩) (by assumption) ?_
    rotate_left
    · intro w hSw
      (try dsimp only at hSw)
      go_simp
      all_goals with_reducible rfl
    try simp only [Act.put, List.getElem_toArray, List.getElem_cons_succ, List.getElem_cons_zero, List.setIfInBounds_toArray, List.set_cons_zero, List.set_cons_succ]
    refine wpAnyH_take (i := 12) (v := ?_) rfl (by kernel_rfl) (by kernel_rfl) (by kernel_rfl) (fun _ _ _ h => h) (Or.inl ⟨by rfl, ?_⟩) (by assumption) ?_
    rotate_left
    · intro w hSw
      (try dsimp only at hSw)
      go_simp
      all_goals with_reducible rfl
    try simp only [Act.put, List.getElem_toArray, List.getElem_cons_succ, List.getElem_cons_zero, List.setIfInBounds_toArray, List.set_cons_zero, List.set_cons_succ]
    refine wpAnyH_take (i := 13) (v := ?_) rfl (by kernel_rfl) (by kernel_rfl) (by kernel_rfl) (fun _ _ _ h => h) (Or.inl ⟨by rfl, ?_⟩) (by assumption) ?_
    rotate_left
    · intro w hSw
      (try dsimp only at hSw)
      go_simp
      all_goals with_reducible rfl
    try simp only [Act.put, List.getElem_toArray, List.getElem_cons_succ, List.getElem_cons_zero, List.setIfInBounds_toArray, List.set_cons_zero, List.set_cons_succ]
    refine wpAnyH_take (i := 14) (v := ?_) rfl (by kernel_rfl) (by kernel_rfl) (by kernel_rfl) (fun _ _ _ h => h) (Or.inl ⟨by rfl, ?_⟩) (by assumption) ?_
    rotate_left
    · intro w hSw
      (try dsimp only at hSw)
      go_simp
      all_goals with_reducible rfl
    try simp only [Act.put, List.getElem_toArray, List.getElem_cons_succ, List.getElem_cons_zero, List.setIfInBounds_toArray, List.set_cons_zero, List.set_cons_succ]
    refine wpAnyH_take (i := 15) (v := ?_) rfl (by kernel_rfl) (by kernel_rfl) (by kernel_rfl) (fun _ _ _ h => h) (Or.inl ⟨by rfl, ?_⟩) (by assumption) ?_
    rotate_left
    · intro w hSw
      (try dsimp only at hSw)
      go_simp
      all_goals with_reducible rfl
    try simp only [Act.put, List.getElem_toArray, List.getElem_cons_succ, List.getElem_cons_zero, List.setIfInBounds_toArray, List.set_cons_zero, List.set_cons_succ]
    refine wpAnyH_take (i := 16) (v := ?_) rfl (by kernel_rfl) (by kernel_rfl) (by kernel_rfl) (fun _ _ _ h => h) (Or.inl ⟨by rfl, ?_⟩) (by assumption) ?_
    rotate_left
    · intro w hSw
      (try dsimp only at hSw)
      go_simp
      all_goals with_reducible rfl
    try simp only [Act.put, List.getElem_toArray, List.getElem_cons_succ, List.getElem_cons_zero, List.setIfInBounds_toArray, List.set_cons_zero, List.set_cons_succ]
    refine wpAnyH_take (i := 17) (v := ?_) rfl (by kernel_rfl) (by kernel_rfl) (by kernel_rfl) (fun _ _ _ h => h) (Or.inl ⟨by rfl, ?_⟩) (by assumption) ?_
    rotate_left
    · intro w hSw
      (try dsimp only at hSw)
      go_simp
      all_goals with_reducible rfl
    try simp only [Act.put, List.getElem_toArray, List.getElem_cons_succ, List.getElem_cons_zero, List.setIfInBounds_toArray, List.set_cons_zero, List.set_cons_succ]
    refine wpAnyH_done (by kernel_rfl) ?_ _
    clear hHeld k0 k1 k2
    by_cases hz : e = 0
    · subst hz
      have hT : Hid (s.told (Wir.num) 0 = (v, { s with n := s.n + k })) := HT.out.trans (if_neg (by simp))
      have hw1 : IntKind.i64.wrap ((s.n : Int) + (k : Int)) = ((s.n + k : Nat) : Int) := by rw [IntKind.wrap_i64]; omega
      have HN := Lib.hid (H.out.setn (HB.out) (s.n + k) (by omega))
      clear HT
      go_wp2
      go_ret
      rw [hT.out]
      exact ⟨by go_num, HN.out.1, HN.out.2⟩
    · have hT : Hid (s.told (Wir.num) 0 = (0, { s with e := e })) := HT.out.trans (if_pos hz)
      have hz' : ¬ (e : Int) = 0 := by omega
      have HN := Lib.hid (H.out.sete (HB.out) e (by omega))
      clear HT
      go_wp2
      go_ret
      rw [hT.out]
      exact ⟨by go_num, HN.out.1, HN.out.2⟩
  · have hT : Hid (s.told (Wir.num) 0 = (0, s)) := by show _ = _; unfold RS.told; rw [if_pos he]
    have he' : ¬ ((s.e : Nat) : Int) = 0 := by omega
    have H := Lib.hid h
    clear hs hfar h hc z1 z2
    go_enter Try.func79, Try.ntmps79
    go_wp2
    go_ret
    rw [hT.out]
    exact ⟨by go_num, H.out, But.refl _ _⟩
set_option linter.unusedSimpArgs false in
set_option maxRecDepth 100000 in
set_option maxHeartbeats 1600000 in
theorem told_int {w : World} {g : Nat} {s : RS} {O : Nat → Prop} (h : Rdr 86 w g s O) (l m : Int) (q1 q2 q3 q4 : Nat) (hw : WiAt w q1 q2 q3 q4 l m) :
    Calls Try.prog 79 #[.pointer (some ⟨g, 0, none⟩), .func (.func 94) #[] #[.pointer (some ⟨q1, 0, none⟩), .pointer (some ⟨q2, 0, none⟩)]] w fun e w' => e = .returned (.int .i64 (s.told (wi l m) 0).1) ∧ Rdr 86 w' g (s.told (wi l m) 0).2 O ∧ But O w w' := by
  have hno := h.ok.le
  have hbig := h.big
  obtain ⟨a, c, hc, hs, hfar⟩ := h.ex
  have k0 := cell_of_row _ _ 0 _ _ _ hc
  have k1 := cell_of_row _ _ 1 _ _ _ hc
  have k2 := cell_of_row _ _ 2 _ _ _ hc
  simp at k0 k1 k2
  have z1 := frozen_of_row _ _ 1 _ _ hc
  have z2 := frozen_of_row _ _ 2 _ _ hc
  have hle := hs.le
  have hmx := hs.max
  unfold maxLen at hmx
  by_cases he : s.e = 0
  · have c5 := run_cut_from (P := Try.prog) 28 5 Try.underlying28 info_u8 a s.bs.length c s.n hno
    have s5 := hs.from_ hno
    change ∀ w, _ = Result.ok (Value.slice (fromA a c s.n) (s.bs.length - s.n) (c - s.n)) w at c5
    generalize fromA a c s.n = a5 at c5 s5
    have e0 : ((s.e : Nat) : Int) = 0 := by omega
    rw [e0] at k2
    have HS := Lib.hid ((then1_any q1 q2 q3 q4 l m a5 (s.bs.length - s.n) (c - s.n) (s.bs.drop s.n) w.drew (hw.below (Below.drew (Below.refl _ _))) (s5.below (Below.drew (Below.refl w.heap.size w)) (Nat.le_refl _))).mono (fun e' w1 (he : e' = _ ∧ Below _ _ w1) => (⟨he.1, (Below.drew (Below.refl _ _)).trans he.2⟩ : e' = .returned (numT (wi l m (s.bs.drop s.n))) ∧ Below w.heap.size w w1)))
    have HL := (wi_le (l := l) (m := m) h.ok.drop)
    have HT : Hid (s.told (wi l m) 0 = if (wi l m (s.bs.drop s.n)).2.2 ≠ 0 then (0, { s with e := (wi l m (s.bs.drop s.n)).2.2 }) else ((wi l m (s.bs.drop s.n)).1, { s with n := s.n + (wi l m (s.bs.drop s.n)).2.1 })) := by
      show _ = _
      unfold RS.told
      rw [if_neg (by omega)]
    rw [List.length_drop] at HL
    have HC := Lib.hid (And.intro hc (And.intro k1 (And.intro k2 (And.intro z1 z2))))
    have H := Lib.hid h
    have hgl := lt_of_heap hc
    generalize s.bs.drop s.n = rest at HS HL HT
    clear hs hfar s5 he e0 hc z1 z2 h
    generalize hr : wi l m rest = r at HS HL HT
    obtain ⟨v, k, e⟩ := r
    simp only at HL
    clear hr
    go_enter Try.func79, Try.ntmps79
    go_wp2_with fail
    refine wp_region_held_drew (S := fun x => x.cell? ⟨g, 0, none⟩ = some (.slice a s.bs.length c) ∧ x.cell? ⟨g, 1, none⟩ = some (.int .i64 (s.n : Int))) (by kernel_rfl) ⟨k0, k1⟩ (fun hHeld => ?_)
    refine wpAnyH_take (i := 0) (v := ?_) rfl (by kernel_rfl) (by kernel_rfl) (by kernel_rfl) (fun _ _ _ h => h) (Or.inl ⟨by rfl, ?_⟩) (by assumption) ?_
    rotate_left
    · intro w hSw
      (try dsimp only at hSw)
      go_simp
      all_goals with_reducible rfl
    try simp only [Act.put, List.getElem_toArray, List.getElem_cons_succ, List.getElem_cons_zero, List.setIfInBounds_toArray, List.set_cons_zero, List.set_cons_succ]
    refine wpAnyH_take (i := 1) (v := ?_) rfl (by kernel_rfl) (by kernel_rfl) (by kernel_rfl) (fun _ _ _ h => h) (Or.inl ⟨by rfl, ?_⟩) (by assumption) ?_
    rotate_left
    · intro w hSw
      (try dsimp only at hSw)
      go_simp
      all_goals with_reducible rfl
    try simp only [Act.put, List.getElem_toArray, List.getElem_cons_succ, List.getElem_cons_zero, List.setIfInBounds_toArray, List.set_cons_zero, List.set_cons_succ]
    refine wpAnyH_take (i := 2) (v := ?_) rfl (by kernel_rfl) (by kernel_rfl) (by kernel_rfl) (fun _ _ _ h => h) (Or.inl ⟨by rfl, ?_⟩) (by assumption) ?_
    rotate_left
    · intro w hSw
      (try dsimp only at hSw)
      go_simp
      all_goals with_reducible rfl
    try simp only [Act.put, List.getElem_toArray, List.getElem_cons_succ, List.getElem_cons_zero, List.setIfInBounds_toArray, List.set_cons_zero, List.set_cons_succ]
    refine wpAnyH_take (i := 3) (v := ?_) rfl (by kernel_rfl) (by kernel_rfl) (by kernel_rfl) (fun _ _ _ h => h) (Or.inl ⟨by rfl, ?_⟩) (by assumption) ?_
    rotate_left
    · intro w hSw
      (try dsimp only at hSw)
      go_simp
      all_goals with_reducible rfl
    try simp only [Act.put, List.getElem_toArray, List.getElem_cons_succ, List.getElem_cons_zero, List.setIfInBounds_toArray, List.set_cons_zero, List.set_cons_succ]
    refine wpAnyH_take (i := 4) (v := ?_) rfl (by kernel_rfl) (by kernel_rfl) (by kernel_rfl) (fun _ _ _ h => h) (Or.inl ⟨by rfl, ?_⟩) (by assumption) ?_
    rotate_left
    · intro w hSw
      (try dsimp only at hSw)
      go_simp
      all_goals with_reducible rfl
    try simp only [Act.put, List.getElem_toArray, List.getElem_cons_succ, List.getElem_cons_zero, List.setIfInBounds_toArray, List.set_cons_zero, List.set_cons_succ]
    refine wpAnyH_take (i := 5) (v := ?_) rfl (by kernel_rfl) (by kernel_rfl) (by kernel_rfl) (fun _ _ _ h => h) (Or.inl ⟨by rfl, ?_⟩) (by assumption) ?_
    rotate_left
    · intro w hSw
      (try dsimp only at hSw)
      go_simp
      all_goals with_reducible rfl
    try simp only [Act.put, List.getElem_toArray, List.getElem_cons_succ, List.getElem_cons_zero, List.setIfInBounds_toArray, List.set_cons_zero, List.set_cons_succ]
    refine wpAnyH_take (i := 6) (v := ?_) rfl (by kernel_rfl) (by kernel_rfl) (by kernel_rfl) (fun _ _ _ h => h) (Or.inl ⟨by rfl, ?_⟩) (by assumption) ?_
    rotate_left
    · intro w hSw
      (try dsimp only at hSw)
      go_simp
      all_goals with_reducible rfl
    try simp only [Act.put, List.getElem_toArray, List.getElem_cons_succ, List.getElem_cons_zero, List.setIfInBounds_toArray, List.set_cons_zero, List.set_cons_succ]
    refine wpAnyH_take (i := 7) (v := ?_) rfl (by kernel_rfl) (by kernel_rfl) (by kernel_rfl) (fun _ _ _ h => h) (Or.inl ⟨by rfl, ?_⟩) (by assumption) ?_
    rotate_left
    · intro w hSw
      (try dsimp only at hSw)
      go_simp
      all_goals with_reducible rfl
    try simp only [Act.put, List.getElem_toArray, List.getElem_cons_succ, List.getElem_cons_zero, List.setIfInBounds_toArray, List.set_cons_zero, List.set_cons_succ]
    refine wpAnyH_take (i := 8) (v := ?_) rfl (by kernel_rfl) (by kernel_rfl) (by kernel_rfl) (fun _ _ _ h => h) (Or.inl ⟨by rfl, ?_⟩) (by assumption) ?_
    rotate_left
    · intro w hSw
      (try dsimp only at hSw)
      go_simp
      all_goals with_reducible rfl
    try simp only [Act.put, List.getElem_toArray, List.getElem_cons_succ, List.getElem_cons_zero, List.setIfInBounds_toArray, List.set_cons_zero, List.set_cons_succ]
    refine wpAnyH_take (i := 9) (v := ?_) rfl (by kernel_rfl) (by kernel_rfl) (by kernel_rfl) (fun _ _ _ h => h) (Or.inl ⟨by rfl, ?_⟩) (by assumption) ?_
    rotate_left
    · intro w hSw
      (try dsimp only at hSw)
      go_simp
      all_goals with_reducible rfl
    try simp only [Act.put, List.getElem_toArray, List.getElem_cons_succ, List.getElem_cons_zero, List.setIfInBounds_toArray, List.set_cons_zero, List.set_cons_succ]
    refine wpAnyH_ready (rs := [10]) (by kernel_rfl) (by simp) ?_
    refine AllReadyH.cons rfl (fun K hK => ?_) AllReadyH.nil
    rw [if_pos (by rfl)]
    go_simp
    go_at_call 94
    refine HS.out.mono ?_
    rintro e' w1 ⟨rfl, hB⟩
    have l0 := (hB.cell (p := ⟨g, 0, none⟩) hgl).trans k0
    have l1 := (hB.cell (p := ⟨g, 1, none⟩) hgl).trans k1
    have j1 : w1.frozen? ⟨g, 1, none⟩ = false := (hB.frozen (p := ⟨g, 1, none⟩) hgl).trans HC.out.2.2.2.1
    have j2 : w1.frozen? ⟨g, 2, none⟩ = false := (hB.frozen (p := ⟨g, 2, none⟩) hgl).trans HC.out.2.2.2.2
    have l2 := (hB.cell (p := ⟨g, 2, none⟩) hgl).trans HC.out.2.2.1
    have HB := Lib.hid (hB)
    clear hB
    unfold numT
    refine hK.out _ _ ?_ (fun hHeld => ?_)
    · exact ⟨l0, l1⟩
    clear hK K
    try simp only [Act.put, List.getElem_toArray, List.getElem_cons_succ, List.getElem_cons_zero, List.setIfInBounds_toArray, List.set_cons_zero, List.set_cons_succ]
    refine wpAnyH_take (i := 11) (v := ?_) rfl (by kernel_rfl) (by kernel_rfl) (by kernel_rfl) (fun _ _ _ h => h) (Or.inl ⟨by rfl, ?_⟩) (by assumption) ?_
    rotate_left
    · intro w hSw
      (try dsimp only at hSw)
      go_simp
      all_goals with_reducible rfl
    try simp only [Act.put, List.getElem_toArray, List.getElem_cons_succ, List.getElem_cons_zero, List.setIfInBounds_toArray, List.set_cons_zero, List.set_cons_succ]
    refine wpAnyH_take (i := 12) (v := ?_) rfl (by kernel_rfl) (by kernel_rfl) (by kernel_rfl) (fun _ _ _ h => h) (Or.inl ⟨by rfl, ?_⟩) (by assumption) ?_
    rotate_left
    · intro w hSw
      (try dsimp only at hSw)
      go_simp
      all_goals with_reducible rfl
    try simp only [Act.put, List.getElem_toArray, List.getElem_cons_succ, List.getElem_cons_zero, List.setIfInBounds_toArray, List.set_cons_zero, List.set_cons_succ]
    refine wpAnyH_take (i := 13) (v := ?_) rfl (by kernel_rfl) (by kernel_rfl) (by kernel_rfl) (fun _ _ _ h => h) (Or.inl ⟨by rfl, ?_⟩) (by assumption) ?_
    rotate_left
    · intro w hSw
      (try dsimp only at hSw)
      go_simp
      all_goals with_reducible rfl
    try simp only [Act.put, List.getElem_toArray, List.getElem_cons_succ, List.getElem_cons_zero, List.setIfInBounds_toArray, List.set_cons_zero, List.set_cons_succ]
    refine wpAnyH_take (i := 14) (v := ?_) rfl (by kernel_rfl) (by kernel_rfl) (by kernel_rfl) (fun _ _ _ h => h) (Or.inl ⟨by rfl, ?_⟩) (by assumption) ?_
    rotate_left
    · intro w hSw
      (try dsimp only at hSw)
      go_simp
      all_goals with_reducible rfl
    try simp only [Act.put, List.getElem_toArray, List.getElem_cons_succ, List.getElem_cons_zero, List.setIfInBounds_toArray, List.set_cons_zero, List.set_cons_succ]
    refine wpAnyH_take (i := 15) (v := ?_) rfl (by kernel_rfl) (by kernel_rfl) (by kernel_rfl) (fun _ _ _ h => h) (Or.inl ⟨by rfl, ?_⟩) (by assumption) ?_
    rotate_left
    · intro w hSw
      (try dsimp only at hSw)
      go_simp
      all_goals with_reducible rfl
    try simp only [Act.put, List.getElem_toArray, List.getElem_cons_succ, List.getElem_cons_zero, List.setIfInBounds_toArray, List.set_cons_zero, List.set_cons_succ]
    refine wpAnyH_take (i := 16) (v := ?_) rfl (by kernel_rfl) (by kernel_rfl) (by kernel_rfl) (fun _ _ _ h => h) (Or.inl ⟨by rfl, ?_⟩) (by assumption) ?_
    rotate_left
    · intro w hSw
      (try dsimp only at hSw)
      go_simp
      all_goals with_reducible rfl
    try simp only [Act.put, List.getElem_toArray, List.getElem_cons_succ, List.getElem_cons_zero, List.setIfInBounds_toArray, List.set_cons_zero, List.set_cons_succ]
    refine wpAnyH_take (i := 17) (v := ?_) rfl (by kernel_rfl) (by kernel_rfl) (by kernel_rfl) (fun _ _ _ h => h) (Or.inl ⟨by rfl, ?_⟩) (by assumption) ?_
    rotate_left
    · intro w hSw
      (try dsimp only at hSw)
      go_simp
      all_goals with_reducible rfl
    try simp only [Act.put, List.getElem_toArray, List.getElem_cons_succ, List.getElem_cons_zero, List.setIfInBounds_toArray, List.set_cons_zero, List.set_cons_succ]
    refine wpAnyH_done (by kernel_rfl) ?_ _
    clear hHeld k0 k1 k2
    by_cases hz : e = 0
    · subst hz
      have hT : Hid (s.told (wi l m) 0 = (v, { s with n := s.n + k })) := HT.out.trans (if_neg (by simp))
      have hw1 : IntKind.i64.wrap ((s.n : Int) + (k : Int)) = ((s.n + k : Nat) : Int) := by rw [IntKind.wrap_i64]; omega
      have HN := Lib.hid (H.out.setn (HB.out) (s.n + k) (by omega))
      clear HT
      go_wp2
      go_ret
      rw [hT.out]
      exact ⟨by go_num, HN.out.1, HN.out.2⟩
    · have hT : Hid (s.told (wi l m) 0 = (0, { s with e := e })) := HT.out.trans (if_pos hz)
      have hz' : ¬ (e : Int) = 0 := by omega
      have HN := Lib.hid (H.out.sete (HB.out) e (by omega))
      clear HT
      go_wp2
      go_ret
      rw [hT.out]
      exact ⟨by go_num, HN.out.1, HN.out.2⟩
  · have hT : Hid (s.told (wi l m) 0 = (0, s)) := by show _ = _; unfold RS.told; rw [if_pos he]
    have he' : ¬ ((s.e : Nat) : Int) = 0 := by omega
    have H := Lib.hid h
    clear hs hfar h hc z1 z2
    go_enter Try.func79, Try.ntmps79
    go_wp2
    go_ret
    rw [hT.out]
    exact ⟨by go_num, H.out, But.refl _ _⟩
set_option linter.unusedSimpArgs false in
set_option maxRecDepth 100000 in
set_option maxHeartbeats 1600000 in
theorem told_text {w : World} {g : Nat} {s : RS} {O : Nat → Prop} (h : Rdr 86 w g s O) (m : Int) (p1 p2 q1 q2 q3 q4 : Nat) (hw : WiAt w q1 q2 q3 q4 0 m)
    (d1 : w.cell? ⟨p1, 0, none⟩ = some (.func (.func 94) #[] #[.pointer (some ⟨q1, 0, none⟩), .pointer (some ⟨q2, 0, none⟩)])) (d2 : w.cell? ⟨p2, 0, none⟩ = some (.func (.func 88) #[] #[])) :
    Calls Try.prog 86 #[.pointer (some ⟨g, 0, none⟩), .func (.func 92) #[] #[.pointer (some ⟨p1, 0, none⟩), .pointer (some ⟨p2, 0, none⟩)]] w fun e w' => ∃ a c, e = .returned (.slice a (s.told (tx m) []).1.length c) ∧ Sl w' w'.heap.size a (s.told (tx m) []).1.length c (s.told (tx m) []).1 ∧ (∀ b o, a = some ⟨b, o, none⟩ → w.heap.size ≤ b) ∧ Rdr 86 w' g (s.told (tx m) []).2 O ∧ But O w w' := by
  have hno := h.ok.le
  have hbig := h.big
  obtain ⟨a, c, hc, hs, hfar⟩ := h.ex
  have k0 := cell_of_row _ _ 0 _ _ _ hc
  have k1 := cell_of_row _ _ 1 _ _ _ hc
  have k2 := cell_of_row _ _ 2 _ _ _ hc
  simp at k0 k1 k2
  have z1 := frozen_of_row _ _ 1 _ _ hc
  have z2 := frozen_of_row _ _ 2 _ _ hc
  have hle := hs.le
  have hmx := hs.max
  unfold maxLen at hmx
  by_cases he : s.e = 0
  · have c5 := run_cut_from (P := Try.prog) 28 5 Try.underlying28 info_u8 a s.bs.length c s.n hno
    have s5 := hs.from_ hno
    change ∀ w, _ = Result.ok (Value.slice (fromA a c s.n) (s.bs.length - s.n) (c - s.n)) w at c5
    generalize fromA a c s.n = a5 at c5 s5
    have e0 : ((s.e : Nat) : Int) = 0 := by omega
    rw [e0] at k2
    have HS := Lib.hid ((then2_any p1 p2 q1 q2 q3 q4 m a5 (s.bs.length - s.n) (c - s.n) (s.bs.drop s.n) w.drew (hw.below (Below.drew (Below.refl _ _))) d1 d2 (s5.below (Below.drew (Below.refl w.heap.size w)) (Nat.le_refl _)) (by omega)))
    have HL := (tx_le (m := m) h.ok.drop)
    have HT : Hid (s.told (tx m) [] = if (tx m (s.bs.drop s.n)).2.2 ≠ 0 then ([], { s with e := (tx m (s.bs.drop s.n)).2.2 }) else ((tx m (s.bs.drop s.n)).1, { s with n := s.n + (tx m (s.bs.drop s.n)).2.1 })) := by
      show _ = _
      unfold RS.told
      rw [if_neg (by omega)]
    rw [List.length_drop] at HL
    have HC := Lib.hid (And.intro hc (And.intro k1 (And.intro k2 (And.intro z1 z2))))
    have H := Lib.hid h
    have hgl := lt_of_heap hc
    generalize s.bs.drop s.n = rest at HS HL HT
    clear hs hfar s5 he e0 hc z1 z2 h
    generalize hr : tx m rest = r at HS HL HT
    obtain ⟨v, k, e⟩ := r
    simp only at HL
    clear hr
    go_enter Try.func86, Try.ntmps86
    go_wp2_with fail
    refine wp_region_held_drew (S := fun x => x.cell? ⟨g, 0, none⟩ = some (.slice a s.bs.length c) ∧ x.cell? ⟨g, 1, none⟩ = some (.int .i64 (s.n : Int))) (by kernel_rfl) ⟨k0, k1⟩ (fun hHeld => ?_)
    refine wpAnyH_take (i := 0) (v := ?_) rfl (by kernel_rfl) (by kernel_rfl) (by kernel_rfl) (fun _ _ _ h => h) (Or.inl ⟨by rfl, ?_⟩) (by assumption) ?_
    rotate_left
    · intro w hSw
      (try dsimp only at hSw)
      go_simp
      all_goals with_reducible rfl
    try simp only [Act.put, List.getElem_toArray, List.getElem_cons_succ, List.getElem_cons_zero, List.setIfInBounds_toArray, List.set_cons_zero, List.set_cons_succ]
    refine wpAnyH_take (i := 1) (v := ?_) rfl (by kernel_rfl) (by kernel_rfl) (by kernel_rfl) (fun _ _ _ h => h) (Or.inl ⟨by rfl, ?_⟩) (by assumption) ?_
    rotate_left
    · intro w hSw
      (try dsimp only at hSw)
      go_simp
      all_goals with_reducible rfl
    try simp only [Act.put, List.getElem_toArray, List.getElem_cons_succ, List.getElem_cons_zero, List.setIfInBounds_toArray, List.set_cons_zero, List.set_cons_succ]
    refine wpAnyH_take (i := 2) (v := ?_) rfl (by kernel_rfl) (by kernel_rfl) (by kernel_rfl) (fun _ _ _ h => h) (Or.inl ⟨by rfl, ?_⟩) (by assumption) ?_
    rotate_left
    · intro w hSw
      (try dsimp only at hSw)
      go_simp
      all_goals with_reducible rfl
    try simp only [Act.put, List.getElem_toArray, List.getElem_cons_succ, List.getElem_cons_zero, List.setIfInBounds_toArray, List.set_cons_zero, List.set_cons_succ]
    refine wpAnyH_take (i := 3) (v := ?_) rfl (by kernel_rfl) (by kernel_rfl) (by kernel_rfl) (fun _ _ _ h => h) (Or.inl ⟨by rfl, ?_⟩) (by assumption) ?_
    rotate_left
    · intro w hSw
      (try dsimp only at hSw)
      go_simp
      all_goals with_reducible rfl
    try simp only [Act.put, List.getElem_toArray, List.getElem_cons_succ, List.getElem_cons_zero, List.setIfInBounds_toArray, List.set_cons_zero, List.set_cons_succ]
    refine wpAnyH_take (i := 4) (v := ?_) rfl (by kernel_rfl) (by kernel_rfl) (by kernel_rfl) (fun _ _ _ h => h) (Or.inl ⟨by rfl, ?_⟩) (by assumption) ?_
    rotate_left
    · intro w hSw
      (try dsimp only at hSw)
      go_simp
      all_goals with_reducible rfl
    try simp only [Act.put, List.getElem_toArray, List.getElem_cons_succ, List.getElem_cons_zero, List.setIfInBounds_toArray, List.set_cons_zero, List.set_cons_succ]
    refine wpAnyH_take (i := 5) (v := ?_) rfl (by kernel_rfl) (by kernel_rfl) (by kernel_rfl) (fun _ _ _ h => h) (Or.inl ⟨by rfl, ?_⟩) (by assumption) ?_
    rotate_left
    · intro w hSw
      (try dsimp only at hSw)
      go_simp
      all_goals with_reducible rfl
    try simp only [Act.put, List.getElem_toArray, List.getElem_cons_succ, List.getElem_cons_zero, List.setIfInBounds_toArray, List.set_cons_zero, List.set_cons_succ]
    refine wpAnyH_take (i := 6) (v := ?_) rfl (by kernel_rfl) (by kernel_rfl) (by kernel_rfl) (fun _ _ _ h => h) (Or.inl ⟨by rfl, ?_⟩) (by assumption) ?_
    rotate_left
    · intro w hSw
      (try dsimp only at hSw)
      go_simp
      all_goals with_reducible rfl
    try simp only [Act.put, List.getElem_toArray, List.getElem_cons_succ, List.getElem_cons_zero, List.setIfInBounds_toArray, List.set_cons_zero, List.set_cons_succ]
    refine wpAnyH_take (i := 7) (v := ?_) rfl (by kernel_rfl) (by kernel_rfl) (by kernel_rfl) (fun _ _ _ h => h) (Or.inl ⟨by rfl, ?_⟩) (by assumption) ?_
    rotate_left
    · intro w hSw
      (try dsimp only at hSw)
      go_simp
      all_goals with_reducible rfl
    try simp only [Act.put, List.getElem_toArray, List.getElem_cons_succ, List.getElem_cons_zero, List.setIfInBounds_toArray, List.set_cons_zero, List.set_cons_succ]
    refine wpAnyH_take (i := 8) (v := ?_) rfl (by kernel_rfl) (by kernel_rfl) (by kernel_rfl) (fun _ _ _ h => h) (Or.inl ⟨by rfl, ?_⟩) (by assumption) ?_
    rotate_left
    · intro w hSw
      (try dsimp only at hSw)
      go_simp
      all_goals with_reducible rfl
    try simp only [Act.put, List.getElem_toArray, List.getElem_cons_succ, List.getElem_cons_zero, List.setIfInBounds_toArray, List.set_cons_zero, List.set_cons_succ]
    refine wpAnyH_take (i := 9) (v := ?_) rfl (by kernel_rfl) (by kernel_rfl) (by kernel_rfl) (fun _ _ _ h => h) (Or.inl ⟨by rfl, ?_⟩) (by assumption) ?_
    rotate_left
    · intro w hSw
      (try dsimp only at hSw)
      go_simp
      all_goals with_reducible rfl
    try simp only [Act.put, List.getElem_toArray, List.getElem_cons_succ, List.getElem_cons_zero, List.setIfInBounds_toArray, List.set_cons_zero, List.set_cons_succ]
    refine wpAnyH_ready (rs := [10]) (by kernel_rfl) (by simp) ?_
    refine AllReadyH.cons rfl (fun K hK => ?_) AllReadyH.nil
    rw [if_pos (by rfl)]
    go_simp
    go_at_call 92
    refine HS.out.mono ?_
    rintro e' w1 ⟨ta, tc, rfl, ts, tb, tn⟩
    have hB : Below w.heap.size w w1 := (Below.drew (Below.refl _ _)).trans tb
    have l0 := (hB.cell (p := ⟨g, 0, none⟩) hgl).trans k0
    have l1 := (hB.cell (p := ⟨g, 1, none⟩) hgl).trans k1
    have j1 : w1.frozen? ⟨g, 1, none⟩ = false := (hB.frozen (p := ⟨g, 1, none⟩) hgl).trans HC.out.2.2.2.1
    have j2 : w1.frozen? ⟨g, 2, none⟩ = false := (hB.frozen (p := ⟨g, 2, none⟩) hgl).trans HC.out.2.2.2.2
    have l2 := (hB.cell (p := ⟨g, 2, none⟩) hgl).trans HC.out.2.2.1
    have HB := Lib.hid (And.intro ts (And.intro hB (show ∀ b o, ta = some ⟨b, o, none⟩ → w.heap.size ≤ b from tn)))
    clear hB ts tb tn
    simp only
    refine hK.out _ _ ?_ (fun hHeld => ?_)
    · exact ⟨l0, l1⟩
    clear hK K
    try simp only [Act.put, List.getElem_toArray, List.getElem_cons_succ, List.getElem_cons_zero, List.setIfInBounds_toArray, List.set_cons_zero, List.set_cons_succ]
    refine wpAnyH_take (i := 11) (v := ?_) rfl (by kernel_rfl) (by kernel_rfl) (by kernel_rfl) (fun _ _ _ h => h) (Or.inl ⟨by rfl, ?_⟩) (by assumption) ?_
    rotate_left
    · intro w hSw
      (try dsimp only at hSw)
      go_simp
      all_goals with_reducible rfl
    try simp only [Act.put, List.getElem_toArray, List.getElem_cons_succ, List.getElem_cons_zero, List.setIfInBounds_toArray, List.set_cons_zero, List.set_cons_succ]
    refine wpAnyH_take (i := 12) (v := ?_) rfl (by kernel_rfl) (by kernel_rfl) (by kernel_rfl) (fun _ _ _ h => h) (Or.inl ⟨by rfl, ?_⟩) (by assumption) ?_
    rotate_left
    · intro w hSw
      (try dsimp only at hSw)
      go_simp
      all_goals with_reducible rfl
    try simp only [Act.put, List.getElem_toArray, List.getElem_cons_succ, List.getElem_cons_zero, List.setIfInBounds_toArray, List.set_cons_zero, List.set_cons_succ]
    refine wpAnyH_take (i := 13) (v := ?_) rfl (by kernel_rfl) (by kernel_rfl) (by kernel_rfl) (fun _ _ _ h => h) (Or.inl ⟨by rfl, ?_⟩) (by assumption) ?_
    rotate_left
    · intro w hSw
      (try dsimp only at hSw)
      go_simp
      all_goals with_reducible rfl
    try simp only [Act.put, List.getElem_toArray, List.getElem_cons_succ, List.getElem_cons_zero, List.setIfInBounds_toArray, List.set_cons_zero, List.set_cons_succ]
    refine wpAnyH_take (i := 14) (v := ?_) rfl (by kernel_rfl) (by kernel_rfl) (by kernel_rfl) (fun _ _ _ h => h) (Or.inl ⟨by rfl, ?_⟩) (by assumption) ?_
    rotate_left
    · intro w hSw
      (try dsimp only at hSw)
      go_simp
      all_goals with_reducible rfl
    try simp only [Act.put, List.getElem_toArray, List.getElem_cons_succ, List.getElem_cons_zero, List.setIfInBounds_toArray, List.set_cons_zero, List.set_cons_succ]
    refine wpAnyH_take (i := 15) (v := ?_) rfl (by kernel_rfl) (by kernel_rfl) (by kernel_rfl) (fun _ _ _ h => h) (Or.inl ⟨by rfl, ?_⟩) (by assumption) ?_
    rotate_left
    · intro w hSw
      (try dsimp only at hSw)
      go_simp
      all_goals with_reducible rfl
    try simp only [Act.put, List.getElem_toArray, List.getElem_cons_succ, List.getElem_cons_zero, List.setIfInBounds_toArray, List.set_cons_zero, List.set_cons_succ]
    refine wpAnyH_take (i := 16) (v := ?_) rfl (by kernel_rfl) (by kernel_rfl) (by kernel_rfl) (fun _ _ _ h => h) (Or.inl ⟨by rfl, ?_⟩) (by assumption) ?_
    rotate_left
    · intro w hSw
      (try dsimp only at hSw)
      go_simp
      all_goals with_reducible rfl
    try simp only [Act.put, List.getElem_toArray, List.getElem_cons_succ, List.getElem_cons_zero, List.setIfInBounds_toArray, List.set_cons_zero, List.set_cons_succ]
    refine wpAnyH_take (i := 17) (v := ?_) rfl (by kernel_rfl) (by kernel_rfl) (by kernel_rfl) (fun _ _ _ h => h) (Or.inl ⟨by rfl, ?_⟩) (by assumption) ?_
    rotate_left
    · intro w hSw
      (try dsimp only at hSw)
      go_simp
      all_goals with_reducible rfl
    try simp only [Act.put, List.getElem_toArray, List.getElem_cons_succ, List.getElem_cons_zero, List.setIfInBounds_toArray, List.set_cons_zero, List.set_cons_succ]
    refine wpAnyH_done (by kernel_rfl) ?_ _
    clear hHeld k0 k1 k2
    by_cases hz : e = 0
    · subst hz
      have hT : Hid (s.told (tx m) [] = (v, { s with n := s.n + k })) := HT.out.trans (if_neg (by simp))
      have hw1 : IntKind.i64.wrap ((s.n : Int) + (k : Int)) = ((s.n + k : Nat) : Int) := by rw [IntKind.wrap_i64]; omega
      have HN := Lib.hid (H.out.setn (HB.out.2.1) (s.n + k) (by omega))
      clear HT
      go_wp2
      go_ret
      rw [hT.out]
      exact ⟨ta, tc, by go_num, HB.out.1.far_ HB.out.2.2 hgl _, HB.out.2.2, HN.out.1, HN.out.2⟩
    · have hT : Hid (s.told (tx m) [] = ([], { s with e := e })) := HT.out.trans (if_pos hz)
      have hz' : ¬ (e : Int) = 0 := by omega
      have HN := Lib.hid (H.out.sete (HB.out.2.1) e (by omega))
      clear HT
      go_wp2
      go_ret
      rw [hT.out]
      exact ⟨none, 0, by go_num, Sl.nil_, (fun b o hb => by cases hb), HN.out.1, HN.out.2⟩
  · have hT : Hid (s.told (tx m) [] = ([], s)) := by show _ = _; unfold RS.told; rw [if_pos he]
    have he' : ¬ ((s.e : Nat) : Int) = 0 := by omega
    have H := Lib.hid h
    clear hs hfar h hc z1 z2
    go_enter Try.func86, Try.ntmps86
    go_wp2
    go_ret
    rw [hT.out]
    exact ⟨none, 0, by go_num, Sl.nil_, (fun b o hb => by cases hb), H.out, But.refl _ _⟩
end Go.Proofs.Ytnpakjdgcmbcnaa
