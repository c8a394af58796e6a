/- The reference's reader: NewReader, End, Num. -/
import Derived.Test.YtkmdnmjbjbkpdaaWrM
namespace Go.Proofs.Ytkmdnmjbjbkpdaa
open Go.RowKit
open Wir

theorem num_stop13 {rest : List Nat} {k : Nat} (h : ∀ j, j < k → 128 ≤ rest.getD j 0) (hl : rest.length = k) (hk : k ≤ 9) : num rest = (0, 0, 13) := by
  unfold num
  rw [fst_no (fun j _ hj => h j (by omega))]
  simp only
  rw [if_pos (by omega)]
theorem num_stop12 {rest : List Nat} (h : ∀ j, j < 9 → 128 ≤ rest.getD j 0) (hl : 9 < rest.length) (h1 : 1 < rest.getD 9 0) : num rest = (0, 0, 12) := by
  by_cases hx : rest.getD 9 0 < 128
  · unfold num
    rw [fst_is (k := 9) (by omega) hl hx h]
    simp only
    rw [if_pos (by first | exact .inl ⟨rfl, h1⟩ | exact .inl ⟨trivial, h1⟩)]
  · unfold num
    rw [fst_no (fun j hj _ => by
      by_cases e : j = 9
      · subst e; omega
      · exact h j (by omega))]
    simp only
    rw [if_neg (by omega)]
theorem num_zero {rest : List Nat} {k : Nat} (h : ∀ j, j < k → 128 ≤ rest.getD j 0) (hl : k < rest.length) (hk : k ≤ 9) (h0 : rest.getD k 0 = 0) (hk0 : 0 < k) : num rest = (0, 0, 12) := by
  unfold num
  rw [fst_is (k := k) (by omega) hl (by omega) h]
  simp only
  rw [if_pos (.inr ⟨hk0, h0⟩)]
theorem num_yes {rest : List Nat} {k : Nat} (h : ∀ j, j < k → 128 ≤ rest.getD j 0) (hl : k < rest.length) (hk : k ≤ 9) (hx : rest.getD k 0 < 128) (h9 : ¬ (k = 9 ∧ 1 < rest.getD k 0)) (h0 : ¬ (rest.getD k 0 = 0 ∧ 0 < k)) :
    num rest = (unc (sm (rest.take (k + 1))), k + 1, 0) := by
  unfold num
  rw [fst_is (k := k) (by omega) hl hx h]
  simp only
  rw [if_neg (by omega)]
theorem sm_small {rest : List Nat} {k : Nat} (hl : k < rest.length) (hk : k ≤ 9) (h9 : ¬ (k = 9 ∧ 1 < rest.getD k 0)) : sm (rest.take (k + 1)) < 18446744073709551616 := by
  have h1 := sm_take rest k hl
  have h2 := sm_lt (rest.take k)
  rw [List.length_take, Nat.min_eq_left (by omega)] at h2
  by_cases h : k = 9
  · subst h
    have h4 : (128 : Nat) ^ 9 = 9223372036854775808 := by decide
    rw [h1]
    have : rest.getD 9 0 % 128 ≤ 1 := by omega
    omega
  · have h3 : 128 ^ k ≤ 128 ^ 8 := Nat.pow_le_pow_right (by decide) (by omega)
    have h4 : (128 : Nat) ^ 8 = 72057594037927936 := by decide
    have h5 : 128 ^ k * (rest.getD k 0 % 128) ≤ 128 ^ k * 127 := Nat.mul_le_mul_left _ (by omega)
    omega
theorem add_next (v d i : Nat) (hs : v + 128 ^ i * d < 18446744073709551616) : IntKind.u64.wrap ((v : Int) + IntKind.u64.wrap ((d : Int) * 2 ^ (7 * i))) = ((v + 128 ^ i * d : Nat) : Int) := by
  have hp : (128 : Nat) ^ i = 2 ^ (7 * i) := by rw [Nat.pow_mul]
  rw [hp] at hs ⊢
  have e1 : (d : Int) * 2 ^ (7 * i) = ((2 ^ (7 * i) * d : Nat) : Int) := by rw [Nat.mul_comm (2 ^ (7 * i)) d, Int.natCast_mul, Int.natCast_pow]; rfl
  rw [e1, IntKind.wrap_u64, IntKind.wrap_u64]
  omega
set_option linter.unusedSimpArgs false in
theorem rnewReader_any (a : Option Addr) (len cap : Nat) (bs : List Nat) (w : World) (hs : Sl w w.heap.size a len cap bs) (hlen : len ≤ 1000000000) :
    Calls Try.prog 11 #[.slice a len cap] w fun e w' => ∃ g O, e = .returned (.pointer (some ⟨g, 0, none⟩)) ∧ Rdr 58 w' g ⟨bs, 0, 0⟩ O ∧ Below w.heap.size w w' ∧ ∀ k, O k → w.heap.size ≤ k := by
  have hl := hs.length
  have hby := Lib.hid hs.byte
  have hown0 : OwnB (w.alloc (.cells #[] 5)) w.heap.size 5 (.slice (some ⟨w.heap.size, 0, none⟩) 0 0) [] := OwnB.lit _ [] (Nat.le_refl _) (by decide)
  have hs2 := hs.below ((Below.refl _ w).alloc (Nat.le_refl _) (.cells #[] 5)) (Nat.le_refl _)
  clear hs
  go_enter Try.func11, Try.ntmps11
  go_wp2_with (at_builtin; refine wpList_append_sl rfl (.tmp 3) (.tmp 4) _ rfl w.heap.size _ Try.underlying22 info_u8 (.slice (some ⟨w.heap.size, 0, none⟩) 0 0) [] rfl hown0 _ a len cap bs rfl hs2 (by simp; omega) (by simp) ?_; intro v1 w3 hown1 hg1 hat1; have H3 := Lib.hid (And.intro hown1 (And.intro hg1 hat1)); obtain ⟨a1, n1, y1, rfl⟩ := hown1.form; clear hown1 hg1 hat1 hown0 hs2)
  go_ret
  obtain ⟨q1, q2, _⟩ := H3.out
  rw [List.nil_append] at q1
  obtain ⟨ba, bc, e4, h1, h3⟩ := q1.sl_base hby.out
  injection e4 with e5 e6 e7
  subst e5 e6 e7
  have h2 : Below w.heap.size w w3 := ((Below.refl _ w).alloc (Nat.le_refl _) _).grown q2 (by simp) (fun k hk => by simp [Value.ownBlock] at hk; omega)
  have hlt : ∀ b o, 0 < bs.length → a1 = some ⟨b, o, none⟩ → b < w3.heap.size := fun b o hp e => by
    obtain ⟨b', o', e', hlt, _⟩ := h1.at_ hp
    rw [e] at e'; injection e' with e'; injection e' with e'; omega
  refine ⟨w3.heap.size, fun k => k = w3.heap.size ∨ (w.heap.size ≤ k ∧ k < w3.heap.size), rfl, ⟨⟨Nat.zero_le _, hby.out, by show 0 < 100; decide⟩, by show bs.length ≤ _; omega, ⟨a1, y1, ?_, ?_, fun hp b o e => ⟨.inr ⟨h3 b o e, hlt b o hp e⟩, by have := hlt b o hp e; omega⟩⟩, .inl rfl, fun k hk => ?_⟩, ?_, fun k hk => ?_⟩
  · exact heap_alloc_new _ _
  · exact (h1.below ((Below.refl _ _).alloc (Nat.le_refl _) _) (Nat.le_refl _)).more (by simp)
  · rcases hk with rfl | hk
    · simp
    · simp; omega
  · exact h2.alloc h2.size _
  · rcases hk with rfl | hk
    · exact h2.size
    · exact hk.1
set_option linter.unusedSimpArgs false in
theorem rend_any {w : World} {g : Nat} {s : RS} {O : Nat → Prop} (h : Rdr 58 w g s O) :
    Calls Try.prog 19 #[.pointer (some ⟨g, 0, none⟩)] w fun e w' => e = .returned (.int .i64 ((s.end_ : Nat) : Int)) ∧ Below w.heap.size w w' := by
  have hno := h.ok.le
  obtain ⟨a, c, hc, hs, hfar⟩ := h.ex
  have k0 := cell_of_row _ _ 0 _ _ _ hc
  have k1 := cell_of_row _ _ 1 _ _ _ hc
  have k2 := cell_of_row _ _ 2 _ _ _ hc
  simp at k0 k1 k2
  have hbig := h.big
  by_cases he : s.e = 0
  · have e0 : ((s.e : Nat) : Int) = 0 := by omega
    rw [e0] at k2
    by_cases hlt : s.n < s.bs.length
    · have hlt' : (s.n : Int) < (s.bs.length : Int) := by omega
      have hT : Hid (s.end_ = 12) := by show _ = _; unfold RS.end_; rw [if_pos ⟨he, hlt⟩]
      clear hs hfar h hc he e0
      go_enter Try.func19, Try.ntmps19
      go_wp2_with fail
      go_region
      all_goals
        go_wp2
        go_ret
        exact ⟨by rw [hT.out]; rfl, Below.drew (Below.refl _ _)⟩
    · have hlt' : ¬ (s.n : Int) < (s.bs.length : Int) := by omega
      have hT : Hid (s.end_ = 0) := by show _ = _; unfold RS.end_; rw [if_neg (by omega), he]
      clear hs hfar h hc he e0
      go_enter Try.func19, Try.ntmps19
      go_wp2_with fail
      go_region
      all_goals
        go_wp2
        go_ret
        exact ⟨by rw [hT.out]; rfl, Below.drew (Below.refl _ _)⟩
  · have he' : ¬ ((s.e : Nat) : Int) = 0 := by omega
    have hT : Hid (s.end_ = s.e) := by show _ = _; unfold RS.end_; rw [if_neg (by omega)]
    have y0 : (((s.e : Nat) : Int) == 0) = false := by simp; omega
    clear hs hfar h hc he
    go_enter Try.func19, Try.ntmps19
    go_wp2_with fail
    refine wp_region_held_drew (S := fun x => x.cell? ⟨g, 2, none⟩ = some (.int .i64 ((s.e : Nat) : Int))) (by kernel_rfl) k2 (fun hHeld => ?_)
    refine wpAnyH_take (i := 0) (v := ?_) rfl (by kernel_rfl) (by kernel_rfl) (by kernel_rfl) (fun _ _ _ h => h) (Or.inl ⟨by rfl, ?_⟩) (by assumption) ?_
    rotate_left
    · intro w hSw
      (try dsimp only at hSw)
      go_simp
      all_goals with_reducible rfl
    try simp only [Act.put, List.getElem_toArray, List.getElem_cons_succ, List.getElem_cons_zero, List.setIfInBounds_toArray, List.set_cons_zero, List.set_cons_succ]
    refine wpAnyH_take (i := 1) (v := ?_) rfl (by kernel_rfl) (by kernel_rfl) (by kernel_rfl) (fun _ _ _ h => h) (Or.inl ⟨by rfl, ?_⟩) (by assumption) ?_
    rotate_left
    · intro w hSw
      (try dsimp only at hSw)
      go_simp
      all_goals with_reducible rfl
    try simp only [Act.put, List.getElem_toArray, List.getElem_cons_succ, List.getElem_cons_zero, List.setIfInBounds_toArray, List.set_cons_zero, List.set_cons_succ]
    refine wpAnyH_take (i := 2) (v := ?_) rfl (by kernel_rfl) (by kernel_rfl) (by kernel_rfl) (fun _ _ _ h => h) (Or.inl ⟨by rfl, ?_⟩) (by assumption) ?_
    rotate_left
    · intro w hSw
      (try dsimp only at hSw)
      go_simp
      all_goals with_reducible rfl
    try simp only [Act.put, List.getElem_toArray, List.getElem_cons_succ, List.getElem_cons_zero, List.setIfInBounds_toArray, List.set_cons_zero, List.set_cons_succ]
    refine wpAnyH_take (i := 3) (v := ?_) rfl (by kernel_rfl) (by kernel_rfl) (by kernel_rfl) (fun _ _ _ h => h) (Or.inl ⟨by rfl, ?_⟩) (by assumption) ?_
    rotate_left
    · intro w hSw
      (try dsimp only at hSw)
      go_simp
      all_goals with_reducible rfl
    try simp only [Act.put, List.getElem_toArray, List.getElem_cons_succ, List.getElem_cons_zero, List.setIfInBounds_toArray, List.set_cons_zero, List.set_cons_succ]
    refine wpAnyH_take (i := 4) (v := ?_) rfl (by kernel_rfl) (by kernel_rfl) (by kernel_rfl) (fun _ _ _ h => h) (Or.inl ⟨by rfl, ?_⟩) (by assumption) ?_
    rotate_left
    · intro w hSw
      (try dsimp only at hSw)
      go_simp
      all_goals with_reducible rfl
    try simp only [Act.put, List.getElem_toArray, List.getElem_cons_succ, List.getElem_cons_zero, List.setIfInBounds_toArray, List.set_cons_zero, List.set_cons_succ]
    refine wpAnyH_take (i := 5) (v := ?_) rfl (by kernel_rfl) (by kernel_rfl) (by kernel_rfl) (fun _ _ _ h => h) (Or.inl ⟨by rfl, ?_⟩) (by assumption) ?_
    rotate_left
    · intro w hSw
      (try dsimp only at hSw)
      go_simp
      all_goals with_reducible rfl
    try simp only [Act.put, List.getElem_toArray, List.getElem_cons_succ, List.getElem_cons_zero, List.setIfInBounds_toArray, List.set_cons_zero, List.set_cons_succ]
    refine wpAnyH_take (i := 6) (v := undef) rfl (by kernel_rfl) (by kernel_rfl) (by kernel_rfl) (fun _ _ _ h => h) (Or.inr ⟨by rfl, rfl⟩) (by assumption) ?_
    try simp only [Act.put, List.getElem_toArray, List.getElem_cons_succ, List.getElem_cons_zero, List.setIfInBounds_toArray, List.set_cons_zero, List.set_cons_succ]
    refine wpAnyH_take (i := 7) (v := undef) rfl (by kernel_rfl) (by kernel_rfl) (by kernel_rfl) (fun _ _ _ h => h) (Or.inr ⟨by rfl, rfl⟩) (by assumption) ?_
    try simp only [Act.put, List.getElem_toArray, List.getElem_cons_succ, List.getElem_cons_zero, List.setIfInBounds_toArray, List.set_cons_zero, List.set_cons_succ]
    refine wpAnyH_take (i := 8) (v := undef) rfl (by kernel_rfl) (by kernel_rfl) (by kernel_rfl) (fun _ _ _ h => h) (Or.inr ⟨by rfl, rfl⟩) (by assumption) ?_
    try simp only [Act.put, List.getElem_toArray, List.getElem_cons_succ, List.getElem_cons_zero, List.setIfInBounds_toArray, List.set_cons_zero, List.set_cons_succ]
    refine wpAnyH_take (i := 9) (v := undef) rfl (by kernel_rfl) (by kernel_rfl) (by kernel_rfl) (fun _ _ _ h => h) (Or.inr ⟨by rfl, rfl⟩) (by assumption) ?_
    try simp only [Act.put, List.getElem_toArray, List.getElem_cons_succ, List.getElem_cons_zero, List.setIfInBounds_toArray, List.set_cons_zero, List.set_cons_succ]
    refine wpAnyH_take (i := 10) (v := undef) rfl (by kernel_rfl) (by kernel_rfl) (by kernel_rfl) (fun _ _ _ h => h) (Or.inr ⟨by rfl, rfl⟩) (by assumption) ?_
    try simp only [Act.put, List.getElem_toArray, List.getElem_cons_succ, List.getElem_cons_zero, List.setIfInBounds_toArray, List.set_cons_zero, List.set_cons_succ]
    refine wpAnyH_take (i := 11) (v := undef) rfl (by kernel_rfl) (by kernel_rfl) (by kernel_rfl) (fun _ _ _ h => h) (Or.inr ⟨by rfl, rfl⟩) (by assumption) ?_
    try simp only [Act.put, List.getElem_toArray, List.getElem_cons_succ, List.getElem_cons_zero, List.setIfInBounds_toArray, List.set_cons_zero, List.set_cons_succ]
    refine wpAnyH_take (i := 12) (v := undef) rfl (by kernel_rfl) (by kernel_rfl) (by kernel_rfl) (fun _ _ _ h => h) (Or.inr ⟨by rfl, rfl⟩) (by assumption) ?_
    try simp only [Act.put, List.getElem_toArray, List.getElem_cons_succ, List.getElem_cons_zero, List.setIfInBounds_toArray, List.set_cons_zero, List.set_cons_succ]
    refine wpAnyH_take (i := 13) (v := undef) rfl (by kernel_rfl) (by kernel_rfl) (by kernel_rfl) (fun _ _ _ h => h) (Or.inr ⟨by rfl, rfl⟩) (by assumption) ?_
    try simp only [Act.put, List.getElem_toArray, List.getElem_cons_succ, List.getElem_cons_zero, List.setIfInBounds_toArray, List.set_cons_zero, List.set_cons_succ]
    refine wpAnyH_take (i := 14) (v := undef) rfl (by kernel_rfl) (by kernel_rfl) (by kernel_rfl) (fun _ _ _ h => h) (Or.inr ⟨by rfl, rfl⟩) (by assumption) ?_
    try simp only [Act.put, List.getElem_toArray, List.getElem_cons_succ, List.getElem_cons_zero, List.setIfInBounds_toArray, List.set_cons_zero, List.set_cons_succ]
    refine wpAnyH_take (i := 15) (v := undef) rfl (by kernel_rfl) (by kernel_rfl) (by kernel_rfl) (fun _ _ _ h => h) (Or.inr ⟨by rfl, rfl⟩) (by assumption) ?_
    try simp only [Act.put, List.getElem_toArray, List.getElem_cons_succ, List.getElem_cons_zero, List.setIfInBounds_toArray, List.set_cons_zero, List.set_cons_succ]
    refine wpAnyH_take (i := 16) (v := ?_) rfl (by kernel_rfl) (by kernel_rfl) (by kernel_rfl) (fun _ _ _ h => h) (Or.inl ⟨by rfl, ?_⟩) (by assumption) ?_
    rotate_left
    · intro w hSw
      (try dsimp only at hSw)
      go_simp
      all_goals with_reducible rfl
    try simp only [Act.put, List.getElem_toArray, List.getElem_cons_succ, List.getElem_cons_zero, List.setIfInBounds_toArray, List.set_cons_zero, List.set_cons_succ]
    refine wpAnyH_done (by kernel_rfl) ?_ _
    clear hHeld
    go_wp2
    go_ret
    exact ⟨ret_i64 (by rw [hT.out]), Below.drew (Below.refl _ _)⟩
end Go.Proofs.Ytkmdnmjbjbkpdaa
