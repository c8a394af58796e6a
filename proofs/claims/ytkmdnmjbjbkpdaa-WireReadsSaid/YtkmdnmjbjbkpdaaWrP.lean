/- The reference's reader: Int, Text. -/
import Derived.Test.YtkmdnmjbjbkpdaaWrO
import Derived.Test.YtkmdnmjbjbkpdaaAp
namespace Go.Proofs.Ytkmdnmjbjbkpdaa
open Go.RowKit
open Wir

theorem int_num (s : RS) (l m : Int) : s.int l m = if s.num.2.e ≠ 0 then (0, s.num.2) else if s.num.1 < l ∨ m < s.num.1 then (0, { s.num.2 with n := s.n, e := 12 }) else (s.num.1, s.num.2) := by
  unfold RS.int RS.num RS.told wi
  by_cases h1 : s.e ≠ 0
  · simp [h1]
  · by_cases h2 : (num (s.bs.drop s.n)).2.2 ≠ 0
    · simp [h1, h2]
    · by_cases h3 : (num (s.bs.drop s.n)).1 < l ∨ m < (num (s.bs.drop s.n)).1
      · have h1' : s.e = 0 := by omega
        simp [h2, h3, h1']
      · have h1' : s.e = 0 := by omega
        simp [h2, h3, h1']
theorem Rdr.cells {T : TypeId} {w : World} {g : Nat} {s : RS} {O : Nat → Prop} (h : Rdr T w g s O) : (∃ a c, w.cell? ⟨g, 0, none⟩ = some (.slice a s.bs.length c) ∧ Sl w w.heap.size a s.bs.length c s.bs) ∧ w.cell? ⟨g, 1, none⟩ = some (.int .i64 (s.n : Int)) ∧ w.cell? ⟨g, 2, none⟩ = some (.int .i64 (s.e : Int)) ∧
    (∀ j, w.frozen? ⟨g, j, none⟩ = false) := by
  obtain ⟨a, c, h1, h2, _⟩ := h.ex
  exact ⟨⟨a, c, by rw [cell_of_row _ _ 0 _ _ _ h1]; rfl, h2⟩, by rw [cell_of_row _ _ 1 _ _ _ h1]; rfl, by rw [cell_of_row _ _ 2 _ _ _ h1]; rfl, fun j => frozen_of_row _ _ j _ _ h1⟩
set_option linter.unusedSimpArgs false in
set_option maxRecDepth 100000 in
set_option maxHeartbeats 1600000 in
theorem rint_any {w : World} {g : Nat} {s : RS} {O : Nat → Prop} (h : Rdr 58 w g s O) (l m : Int) :
    Calls Try.prog 13 #[.pointer (some ⟨g, 0, none⟩), .int .i64 l, .int .i64 m] w fun e w' => e = .returned (.int .i64 (s.int l m).1) ∧ Rdr 58 w' g (s.int l m).2 O ∧ But O w w' := by
  have NU := Lib.hid (rnum_any h)
  obtain ⟨_, k1, _, _⟩ := h.cells
  have hI := Lib.hid (int_num s l m)
  have hok := h.ok.num
  have hno := h.ok.le
  have H := Lib.hid h
  clear h
  have hnb := hok.2
  generalize s.num = r at *
  obtain ⟨v, s1⟩ := r
  simp only at hnb
  go_enter Try.func13, Try.ntmps13
  go_wp2_with fail
  refine NU.out.mono ?_
  rintro e w2 ⟨rfl, h2, b2⟩
  obtain ⟨_, d1, d2, z⟩ := h2.cells
  have z1 := z 1
  have z2 := z 2
  have HH := Lib.hid (And.intro h2 b2)
  clear h2 b2 z NU k1
  by_cases he : s1.e = 0
  · have e0 : ((s1.e : Nat) : Int) = 0 := by omega
    rw [e0] at d2
    by_cases hout : v < l ∨ m < v
    · have hR : Hid (s.int l m = (0, { s1 with n := s.n, e := 12 })) := by
        have := hI.out
        try simp only at this
        rw [if_neg (by omega), if_pos hout] at this
        exact this
      have HN : Hid (Rdr 58 ((w2.setCell ⟨g, 2, none⟩ (.int .i64 12)).setCell ⟨g, 1, none⟩ (.int .i64 (s.n : Int))) g { s1 with n := s.n, e := 12 } O ∧ But O w ((w2.setCell ⟨g, 2, none⟩ (.int .i64 12)).setCell ⟨g, 1, none⟩ (.int .i64 (s.n : Int)))) := by
        have x1 := HH.out.1.sete (Below.refl _ _) 12 (by decide)
        have x2 := x1.1.setn (Below.refl _ _) s.n (by simp only; rw [hnb]; exact hno)
        exact ⟨x2.1, (HH.out.2.trans x1.2 (fun i hi => .inl hi)).trans x2.2 (fun i hi => .inl hi)⟩
      have hdec : v < l ∨ (l ≤ v ∧ m < v) := by omega
      clear hI hok
      rcases hdec with h1 | ⟨h1, h3⟩
      all_goals
        go_wp2
        go_ret
        rw [hR.out]
        exact ⟨rfl, HN.out⟩
    · have hR : Hid (s.int l m = (v, s1)) := by
        have := hI.out
        try simp only at this
        rw [if_neg (by omega), if_neg hout] at this
        exact this
      have h1 : l ≤ v := by omega
      have h3 : v ≤ m := by omega
      clear hI hok
      go_wp2
      go_ret
      rw [hR.out]
      exact ⟨rfl, HH.out⟩
  · have he' : ¬ ((s1.e : Nat) : Int) = 0 := by omega
    have y0 : (((s1.e : Nat) : Int) == 0) = false := by simp; omega
    have hR : Hid (s.int l m = (0, s1)) := by
      have := hI.out
      try simp only at this
      rw [if_pos he] at this
      exact this
    clear hI hok
    go_wp2
    go_ret
    rw [hR.out]
    exact ⟨rfl, HH.out⟩
theorem text_int (s : RS) (m : Int) (ho : s.Ok) : ((s.int 0 m).2.e = 0 → 0 ≤ (s.int 0 m).1 ∧ (s.int 0 m).1 ≤ 9223372036854775807) ∧ s.text m = if (s.int 0 m).2.e ≠ 0 then ([], (s.int 0 m).2) else
    if s.bs.length - (s.int 0 m).2.n < (s.int 0 m).1.toNat then ([], { (s.int 0 m).2 with n := s.n, e := 13 }) else ((s.bs.drop (s.int 0 m).2.n).take (s.int 0 m).1.toNat, { (s.int 0 m).2 with n := (s.int 0 m).2.n + (s.int 0 m).1.toNat }) := by
  have hle := ho.le
  have hnl := num_le ho.drop
  by_cases h1 : s.e ≠ 0
  · have e1 : s.int 0 m = (0, s) := by unfold RS.int RS.told; rw [if_pos h1]
    have e2 : s.text m = ([], s) := by unfold RS.text RS.told; rw [if_pos h1]
    rw [e1, e2]
    exact ⟨fun h => absurd h h1, by simp only; rw [if_pos h1]⟩
  · have h0 : s.e = 0 := by omega
    by_cases h2 : (wi 0 m (s.bs.drop s.n)).2.2 = 0
    · have hw := wi_ok h2
      have hwl := wi_le (l := 0) (m := m) ho.drop
      have hv : (wi 0 m (s.bs.drop s.n)).1 ≤ 9223372036854775807 := by
        unfold wi
        split
        · exact (by decide : (0 : Int) ≤ 9223372036854775807)
        split
        · exact (by decide : (0 : Int) ≤ 9223372036854775807)
        · exact hnl.2.2.2
      rcases hx : wi 0 m (s.bs.drop s.n) with ⟨v, k, e⟩
      rw [hx] at h2 hw hwl hv
      simp only at h2 hw hwl hv
      subst h2
      have e1 : s.int 0 m = (v, { s with n := s.n + k }) := by unfold RS.int RS.told; rw [if_neg h1, hx]; simp
      rw [e1]
      refine ⟨fun _ => ⟨hw, hv⟩, ?_⟩
      simp only
      rw [if_neg h1]
      rw [List.length_drop] at hwl
      have htx : tx m (s.bs.drop s.n) = if (s.bs.drop s.n).length - k < v.toNat then ([], 0, 13) else (((s.bs.drop s.n).drop k).take v.toNat, k + v.toNat, 0) := by
        unfold tx
        rw [hx]
        simp only
        rw [if_neg (by simp)]
      unfold RS.text RS.told
      rw [if_neg h1, htx, List.length_drop]
      by_cases h3 : s.bs.length - (s.n + k) < v.toNat
      · rw [if_pos h3, if_pos (show s.bs.length - s.n - k < v.toNat by omega)]
        simp
      · rw [if_neg h3, if_neg (show ¬ s.bs.length - s.n - k < v.toNat by omega)]
        simp [List.drop_drop, Nat.add_assoc]
    · have e1 : s.int 0 m = (0, { s with e := (wi 0 m (s.bs.drop s.n)).2.2 }) := by unfold RS.int RS.told; rw [if_neg h1, if_pos h2]
      rw [e1]
      refine ⟨fun h => absurd h h2, ?_⟩
      simp only
      rw [if_pos h2]
      unfold RS.text RS.told tx
      rw [if_neg h1, if_pos h2]
      simp only
      rw [if_pos h2]
set_option linter.unusedSimpArgs false in
set_option maxRecDepth 100000 in
set_option maxHeartbeats 1600000 in
theorem rtext_any {w : World} {g : Nat} {s : RS} {O : Nat → Prop} (h : Rdr 58 w g s O) (m : Int) :
    Calls Try.prog 15 #[.pointer (some ⟨g, 0, none⟩), .int .i64 m] w fun e w' => ∃ a c, e = .returned (.slice a (s.text m).1.length c) ∧ Sl w' w'.heap.size a (s.text m).1.length c (s.text m).1 ∧
      (∀ b o, a = some ⟨b, o, none⟩ → w.heap.size ≤ b) ∧ Rdr 58 w' g (s.text m).2 O ∧ But O w w' := by
  have NU := Lib.hid (rint_any h 0 m)
  obtain ⟨_, k1, _, _⟩ := h.cells
  obtain ⟨hpos, hI⟩ := text_int s m h.ok
  have hI := Lib.hid hI
  have hok := h.ok.int 0 m
  have hno := h.ok.le
  have hbig := h.big
  have hgl := h.lt g h.gO
  clear h
  have hnb := hok.2
  have hle1 := hok.1.le
  generalize s.int 0 m = r at *
  obtain ⟨v, s1⟩ := r
  simp only at hnb hpos hle1
  go_enter Try.func15, Try.ntmps15
  go_wp2_with fail
  refine NU.out.mono ?_
  rintro e w2 ⟨rfl, h2, b2⟩
  obtain ⟨⟨a, c, d0, hsl⟩, d1, d2, z⟩ := h2.cells
  have z1 := z 1
  have z2 := z 2
  have HH := Lib.hid (And.intro h2 b2)
  have hgl2 := h2.lt g h2.gO
  have hz2 := b2.size
  clear h2 b2 z NU k1
  by_cases he : s1.e = 0
  · have e0 : ((s1.e : Nat) : Int) = 0 := by omega
    rw [e0] at d2
    obtain ⟨hp1, hp2⟩ := hpos he
    obtain ⟨n, rfl⟩ := Int.eq_ofNat_of_zero_le hp1
    rw [hnb] at hsl d0 hle1
    have hsub : IntKind.i64.wrap ((s.bs.length : Int) - (s1.n : Int)) = ((s.bs.length - s1.n : Nat) : Int) := by rw [IntKind.wrap_i64]; omega
    obtain ⟨R, hR⟩ : ∃ R, R = s.bs.length - s1.n := ⟨_, rfl⟩
    rw [← hR] at hsub
    by_cases hsh : R < n
    · have hT : Hid (s.text m = ([], { s1 with n := s.n, e := 13 })) := by
        have := hI.out
        try simp only at this
        rw [if_neg (by omega), if_pos (by omega)] at this
        exact this
      have HN : Hid (∀ x, Below w2.heap.size w2 x → Rdr 58 ((x.setCell ⟨g, 2, none⟩ (.int .i64 13)).setCell ⟨g, 1, none⟩ (.int .i64 (s.n : Int))) g { s1 with n := s.n, e := 13 } O ∧ But O w ((x.setCell ⟨g, 2, none⟩ (.int .i64 13)).setCell ⟨g, 1, none⟩ (.int .i64 (s.n : Int)))) := fun x hx => by
        have x1 := HH.out.1.sete hx 13 (by decide)
        have x2 := x1.1.setn (Below.refl _ _) s.n (by simp only; rw [hnb]; exact hno)
        exact ⟨x2.1, (HH.out.2.trans x1.2 (fun i hi => .inl hi)).trans x2.2 (fun i hi => .inl hi)⟩
      have hsh' : (R : Int) < (n : Int) := by omega
      clear hI hok hR hsl
      go_wp2_with fail
      go_region
      all_goals
        go_wp2
        go_ret
        rw [hT.out]
        exact ⟨none, 0, rfl, Sl.nil_, (fun b o hb => by cases hb), (HN.out _ (Below.drew (Below.refl _ _))).1, (HN.out _ (Below.drew (Below.refl _ _))).2⟩
    · have hT : Hid (s.text m = ((s.bs.drop s1.n).take n, { s1 with n := s1.n + n })) := by
        have := hI.out
        try simp only at this
        rw [if_neg (by omega), if_neg (by omega)] at this
        exact this
      have hsh' : (n : Int) ≤ (R : Int) := by omega
      have hadd : IntKind.i64.wrap ((s1.n : Int) + (n : Int)) = ((s1.n + n : Nat) : Int) := by rw [IntKind.wrap_i64]; omega
      have hnn : s1.n + n ≤ s.bs.length := by omega
      have c5 := run_cut_mid (P := Try.prog) 22 5 Try.underlying22 info_u8 a s.bs.length c s1.n (s1.n + n) (by omega) (by have := hsl.le; omega)
      change ∀ x, _ = Result.ok (Value.slice (fromA a c s1.n) (s1.n + n - s1.n) (c - s1.n)) x at c5
      have s5 := hsl.mid (j := s1.n) (k := s1.n + n) (by omega) hnn
      have hX : (s.bs.take (s1.n + n)).drop s1.n = (s.bs.drop s1.n).take n := by rw [List.drop_take]; congr 1; omega
      rw [hX, show s1.n + n - s1.n = n from by omega] at s5
      rw [show s1.n + n - s1.n = n from by omega] at c5
      have hn9 : n ≤ s.bs.length := by omega
      obtain ⟨N, hN⟩ : ∃ N, N = s1.n + n := ⟨_, rfl⟩
      rw [← hN] at c5 hadd hT hnn
      have HNN := Lib.hid hN
      generalize fromA a c s1.n = a5 at c5 s5
      generalize c - s1.n = k5 at c5 s5
      generalize hXX : (s.bs.drop s1.n).take n = X at hT s5
      have S5 := Lib.hid s5
      clear hI hok hR hsl hX hN s5 hXX
      go_wp2_with fail
      go_region
      all_goals
        go_wp2_with fail
        refine wp_region_held_drew (S := fun x => x.cell? ⟨g, 0, none⟩ = some (.slice a s.bs.length c) ∧ x.cell? ⟨g, 1, none⟩ = some (.int .i64 (s1.n : Int))) (by kernel_rfl) ⟨d0, d1⟩ (fun hHeld => ?_)
        refine wpAnyH_take (i := 1) (v := ?_) rfl (by kernel_rfl) (by kernel_rfl) (by kernel_rfl) (fun _ _ _ h => h) (Or.inl ⟨by rfl, ?_⟩) (by assumption) ?_
        rotate_left
        · intro w hSw
          (try dsimp only at hSw)
          go_simp
          all_goals with_reducible rfl
        try simp only [Act.put, List.getElem_toArray, List.getElem_cons_succ, List.getElem_cons_zero, List.setIfInBounds_toArray, List.set_cons_zero, List.set_cons_succ]
        refine wpAnyH_take (i := 2) (v := ?_) rfl (by kernel_rfl) (by kernel_rfl) (by kernel_rfl) (fun _ _ _ h => h) (Or.inl ⟨by rfl, ?_⟩) (by assumption) ?_
        rotate_left
        · intro w hSw
          (try dsimp only at hSw)
          go_simp
          all_goals with_reducible rfl
        try simp only [Act.put, List.getElem_toArray, List.getElem_cons_succ, List.getElem_cons_zero, List.setIfInBounds_toArray, List.set_cons_zero, List.set_cons_succ]
        refine wpAnyH_take (i := 3) (v := ?_) rfl (by kernel_rfl) (by kernel_rfl) (by kernel_rfl) (fun _ _ _ h => h) (Or.inl ⟨by rfl, ?_⟩) (by assumption) ?_
        rotate_left
        · intro w hSw
          (try dsimp only at hSw)
          go_simp
          all_goals with_reducible rfl
        try simp only [Act.put, List.getElem_toArray, List.getElem_cons_succ, List.getElem_cons_zero, List.setIfInBounds_toArray, List.set_cons_zero, List.set_cons_succ]
        refine wpAnyH_take (i := 4) (v := ?_) rfl (by kernel_rfl) (by kernel_rfl) (by kernel_rfl) (fun _ _ _ h => h) (Or.inl ⟨by rfl, ?_⟩) (by assumption) ?_
        rotate_left
        · intro w hSw
          (try dsimp only at hSw)
          go_simp
          all_goals with_reducible rfl
        try simp only [Act.put, List.getElem_toArray, List.getElem_cons_succ, List.getElem_cons_zero, List.setIfInBounds_toArray, List.set_cons_zero, List.set_cons_succ]
        refine wpAnyH_take (i := 5) (v := ?_) rfl (by kernel_rfl) (by kernel_rfl) (by kernel_rfl) (fun _ _ _ h => h) (Or.inl ⟨by rfl, ?_⟩) (by assumption) ?_
        rotate_left
        · intro w hSw
          (try dsimp only at hSw)
          go_simp
          all_goals with_reducible rfl
        try simp only [Act.put, List.getElem_toArray, List.getElem_cons_succ, List.getElem_cons_zero, List.setIfInBounds_toArray, List.set_cons_zero, List.set_cons_succ]
        refine wpAnyH_take (i := 6) (v := ?_) rfl (by kernel_rfl) (by kernel_rfl) (by kernel_rfl) (fun _ _ _ h => h) (Or.inl ⟨by rfl, ?_⟩) (by assumption) ?_
        rotate_left
        · intro w hSw
          (try dsimp only at hSw)
          go_simp
          all_goals with_reducible rfl
        try simp only [Act.put, List.getElem_toArray, List.getElem_cons_succ, List.getElem_cons_zero, List.setIfInBounds_toArray, List.set_cons_zero, List.set_cons_succ]
        refine wpAnyH_take (i := 7) (v := ?_) rfl (by kernel_rfl) (by kernel_rfl) (by kernel_rfl) (fun _ _ _ h => h) (Or.inl ⟨by rfl, ?_⟩) (by assumption) ?_
        rotate_left
        · intro w hSw
          (try dsimp only at hSw)
          go_simp
          all_goals with_reducible rfl
        try simp only [Act.put, List.getElem_toArray, List.getElem_cons_succ, List.getElem_cons_zero, List.setIfInBounds_toArray, List.set_cons_zero, List.set_cons_succ]
        refine wpAnyH_take (i := 8) (v := ?_) rfl (by kernel_rfl) (by kernel_rfl) (by kernel_rfl) (fun _ _ _ h => h) (Or.inl ⟨by rfl, ?_⟩) (by assumption) ?_
        rotate_left
        · intro w hSw
          (try dsimp only at hSw)
          go_simp
          all_goals with_reducible rfl
        try simp only [Act.put, List.getElem_toArray, List.getElem_cons_succ, List.getElem_cons_zero, List.setIfInBounds_toArray, List.set_cons_zero, List.set_cons_succ]
        refine wpAnyH_take (i := 9) (v := ?_) rfl (by kernel_rfl) (by kernel_rfl) (by kernel_rfl) (fun _ _ _ h => h) (Or.inl ⟨by rfl, ?_⟩) (by assumption) ?_
        rotate_left
        · intro w hSw
          (try dsimp only at hSw)
          go_simp
          all_goals with_reducible rfl
        try simp only [Act.put, List.getElem_toArray, List.getElem_cons_succ, List.getElem_cons_zero, List.setIfInBounds_toArray, List.set_cons_zero, List.set_cons_succ]
        refine wpAnyH_take (i := 10) (v := ?_) rfl (by kernel_rfl) (by kernel_rfl) (by kernel_rfl) (fun _ _ _ h => h) (Or.inl ⟨by rfl, ?_⟩) (by assumption) ?_
        rotate_left
        · intro w hSw
          (try dsimp only at hSw)
          go_simp
          all_goals with_reducible rfl
        try simp only [Act.put, List.getElem_toArray, List.getElem_cons_succ, List.getElem_cons_zero, List.setIfInBounds_toArray, List.set_cons_zero, List.set_cons_succ]
        refine wpAnyH_take (i := 11) (v := ?_) rfl (by kernel_rfl) (by kernel_rfl) (by kernel_rfl) (fun _ _ _ h => h) (Or.inl ⟨by rfl, ?_⟩) (by assumption) ?_
        rotate_left
        · intro w hSw
          (try dsimp only at hSw)
          go_simp
          all_goals with_reducible rfl
        try simp only [Act.put, List.getElem_toArray, List.getElem_cons_succ, List.getElem_cons_zero, List.setIfInBounds_toArray, List.set_cons_zero, List.set_cons_succ]
        refine wpAnyH_take (i := 12) (v := ?_) rfl (by kernel_rfl) (by kernel_rfl) (by kernel_rfl) (fun _ _ _ h => h) (Or.inl ⟨by rfl, ?_⟩) (by assumption) ?_
        rotate_left
        · intro w hSw
          (try dsimp only at hSw)
          go_simp
          all_goals with_reducible rfl
        try simp only [Act.put, List.getElem_toArray, List.getElem_cons_succ, List.getElem_cons_zero, List.setIfInBounds_toArray, List.set_cons_zero, List.set_cons_succ]
        refine wpAnyH_take (i := 13) (v := ?_) rfl (by kernel_rfl) (by kernel_rfl) (by kernel_rfl) (fun _ _ _ h => h) (Or.inl ⟨by rfl, ?_⟩) (by assumption) ?_
        rotate_left
        · intro w hSw
          (try dsimp only at hSw)
          go_simp
          all_goals with_reducible rfl
        try simp only [Act.put, List.getElem_toArray, List.getElem_cons_succ, List.getElem_cons_zero, List.setIfInBounds_toArray, List.set_cons_zero, List.set_cons_succ]
        refine wpAnyH_take (i := 14) (v := ?_) rfl (by kernel_rfl) (by kernel_rfl) (by kernel_rfl) (fun _ _ _ h => h) (Or.inl ⟨by rfl, ?_⟩) (by assumption) ?_
        rotate_left
        · intro w hSw
          (try dsimp only at hSw)
          go_simp
          all_goals with_reducible rfl
        try simp only [Act.put, List.getElem_toArray, List.getElem_cons_succ, List.getElem_cons_zero, List.setIfInBounds_toArray, List.set_cons_zero, List.set_cons_succ]
        refine wpAnyH_take (i := 15) (v := ?_) rfl (by kernel_rfl) (by kernel_rfl) (by kernel_rfl) (fun _ _ _ h => h) (Or.inl ⟨by rfl, ?_⟩) (by assumption) ?_
        rotate_left
        · intro w hSw
          (try dsimp only at hSw)
          go_simp
          all_goals with_reducible rfl
        try simp only [Act.put, List.getElem_toArray, List.getElem_cons_succ, List.getElem_cons_zero, List.setIfInBounds_toArray, List.set_cons_zero, List.set_cons_succ]
        have hbA : Below w2.heap.size w2 (w2.drew.drew.alloc (.cells #[] 5)) := (Below.drew (Below.drew (Below.refl _ _))).alloc (Nat.le_refl _) _
        have hown0 : OwnB (w2.drew.drew.alloc (.cells #[] 5)) w2.heap.size 5 (.slice (some ⟨w2.heap.size, 0, none⟩) 0 0) [] := OwnB.lit (w := w2.drew.drew) _ [] (Nat.le_refl _) (by decide)
        have f0 := (hbA.cell (p := ⟨g, 0, none⟩) hgl2).trans d0
        have f1 := (hbA.cell (p := ⟨g, 1, none⟩) hgl2).trans d1
        have zA := (hbA.frozen (p := ⟨g, 1, none⟩) hgl2).trans z1
        refine wpAnyH_ready (rs := [0]) (by kernel_rfl) (by simp) ?_
        refine AllReadyH.cons rfl (fun K hK => ?_) AllReadyH.nil
        rw [if_pos (by rfl)]
        go_simp
        refine hK.out _ _ ?_ (fun hHeld => ?_)
        · exact ⟨f0, f1⟩
        clear hK K
        try simp only [Act.put, List.getElem_toArray, List.getElem_cons_succ, List.getElem_cons_zero, List.setIfInBounds_toArray, List.set_cons_zero, List.set_cons_succ]
        refine wpAnyH_ready (rs := [16]) (by kernel_rfl) (by simp) ?_
        refine AllReadyH.cons rfl (fun K hK => ?_) AllReadyH.nil
        rw [if_pos (by rfl)]
        refine wp_append_sl (.tmp 39) (.tmp 54) _ rfl w2.heap.size _ Try.underlying22 info_u8 (.slice (some ⟨w2.heap.size, 0, none⟩) 0 0) [] rfl hown0 _ a5 n k5 X rfl (S5.out.below hbA (Nat.le_refl _)) (by simp; omega) (by simp) ?_
        intro v1 w3 ho1 hg1 hat1
        rw [List.nil_append] at ho1
        have hb3 : Below w2.heap.size w2 w3 := hbA.grown hg1 (by simp) (fun k hk => by simp [Value.ownBlock] at hk; omega)
        have g0 := (hb3.cell (p := ⟨g, 0, none⟩) hgl2).trans d0
        have g1 := (hb3.cell (p := ⟨g, 1, none⟩) hgl2).trans d1
        have zB := (hb3.frozen (p := ⟨g, 1, none⟩) hgl2).trans z1
        refine hK.out _ _ ?_ (fun hHeld => ?_)
        · exact ⟨g0, g1⟩
        clear hK K
        try simp only [Act.put, List.getElem_toArray, List.getElem_cons_succ, List.getElem_cons_zero, List.setIfInBounds_toArray, List.set_cons_zero, List.set_cons_succ]
        obtain ⟨ba, bc, hv1, hs4, hbb⟩ := ho1.sl_base S5.out.byte
        subst hv1
        refine wpAnyH_take (i := 17) (v := ?_) rfl (by kernel_rfl) (by kernel_rfl) (by kernel_rfl) (fun _ _ _ h => h) (Or.inl ⟨by rfl, ?_⟩) (by assumption) ?_
        rotate_left
        · intro w hSw
          (try dsimp only at hSw)
          go_simp
          all_goals with_reducible rfl
        try simp only [Act.put, List.getElem_toArray, List.getElem_cons_succ, List.getElem_cons_zero, List.setIfInBounds_toArray, List.set_cons_zero, List.set_cons_succ]
        refine wpAnyH_done (by kernel_rfl) ?_ _
        have HN := Lib.hid (HH.out.1.setn hb3 N (by rw [hnb]; exact hnn))
        have HS := Lib.hid (hs4.far_ hbb hgl2 (j := 1) (.int .i64 ((N : Nat) : Int)))
        have HBB := Lib.hid (show ∀ b o, ba = some ⟨b, o, none⟩ → w.heap.size ≤ b from fun b o hb => Nat.le_trans hz2 (hbb b o hb))
        clear hHeld f0 f1 zA hbA hown0 hb3 ho1 hg1 hat1 hs4 hbb d0 d1 d2 z1 z2 g0
        go_wp2
        go_ret
        rw [hT.out]
        exact ⟨ba, bc, rfl, HS.out, HBB.out, HN.out.1, HH.out.2.trans HN.out.2 (fun i hi => .inl hi)⟩
  · have he' : ¬ ((s1.e : Nat) : Int) = 0 := by omega
    have hT : Hid (s.text m = ([], s1)) := by
      have := hI.out
      try simp only at this
      rw [if_pos he] at this
      exact this
    clear hI hok
    go_wp2
    go_ret
    rw [hT.out]
    exact ⟨none, 0, rfl, Sl.nil_, (fun b o hb => by cases hb), HH.out⟩
end Go.Proofs.Ytkmdnmjbjbkpdaa
