/- A reader of bytes in memory; NewReader, End. -/
import Derived.Test.YtnpakjdgcmbcnaaWrE
namespace Go.Proofs.Ytnpakjdgcmbcnaa
open Go.RowKit
open Wir

/-- A reader at g: its bytes, how many were read, what was wrong; O is what is its own. -/
structure Rdr (T : TypeId) (w : World) (g : Nat) (s : RS) (O : Nat → Prop) : Prop where
  ok : s.Ok
  big : s.bs.length ≤ 1000000000
  ex : ∃ a c, w.heap[g]? = some (.cells #[.slice a s.bs.length c, .int .i64 ((s.n : Nat) : Int), .int .i64 ((s.e : Nat) : Int)] T (0, 0)) ∧ Sl w w.heap.size a s.bs.length c s.bs ∧ (0 < s.bs.length → ∀ b o, a = some ⟨b, o, none⟩ → O b ∧ b ≠ g)
  gO : O g
  lt : ∀ k, O k → k < w.heap.size
section
variable {T : TypeId} {w : World} {g : Nat} {s : RS} {O : Nat → Prop}
theorem Rdr.same {w' : World} (h : Rdr T w g s O) (hk : ∀ k, O k → w'.heap[k]? = w.heap[k]?) (hz : w.heap.size ≤ w'.heap.size) : Rdr T w' g s O := by
  obtain ⟨a, c, h1, h2, h3⟩ := h.ex
  exact ⟨h.ok, h.big, ⟨a, c, (hk g h.gO).trans h1, h2.same_ hz (fun hp b o e => hk b (h3 hp b o e).1), h3⟩, h.gO, fun k ho => Nat.lt_of_lt_of_le (h.lt k ho) hz⟩
theorem Rdr.below {w' : World} (h : Rdr T w g s O) (hb : Below w.heap.size w w') : Rdr T w' g s O := h.same (fun k hk => hb.block k (h.lt k hk)) hb.size
theorem Rdr.but {w' : World} {P : Nat → Prop} (h : Rdr T w g s O) (hb : But P w w') (hno : ∀ k, O k → ¬ P k) : Rdr T w' g s O := h.same (fun k hk => hb.block k (h.lt k hk) (hno k hk)) hb.size
/-- One of its numbers is turned. -/
theorem Rdr.set_ {w1 : World} (h : Rdr T w g s O) (hb : Below w.heap.size w w1) (j : Nat) (u : Value) (s' : RS) (hs : s'.bs = s.bs) (hok : s'.Ok)
    (hc : ∀ a c, (#[Value.slice a s.bs.length c, .int .i64 ((s.n : Nat) : Int), .int .i64 ((s.e : Nat) : Int)]).setIfInBounds j u = #[Value.slice a s.bs.length c, .int .i64 ((s'.n : Nat) : Int), .int .i64 ((s'.e : Nat) : Int)]) :
    Rdr T (w1.setCell ⟨g, j, none⟩ u) g s' O ∧ But O w (w1.setCell ⟨g, j, none⟩ u) := by
  have h1 := h.below hb
  obtain ⟨a, c, k1, k2, k3⟩ := h1.ex
  have hz : (w1.setCell ⟨g, j, none⟩ u).heap.size = w1.heap.size := by simp [World.setCell]
  refine ⟨⟨hok, by rw [hs]; exact h.big, ⟨a, c, ?_, ?_, by rw [hs]; exact k3⟩, h.gO, fun k hk => by rw [hz]; exact h1.lt k hk⟩, (But.of_below (O := O) hb).setCell (p := ⟨g, j, none⟩) (.inl h.gO) u⟩
  · rw [hs, ← hc a c]
    exact heap_setCell_same _ _ _ _ _ _ k1
  · rw [hs]
    exact k2.same_ (by omega) (fun hp b o e => Below.heap_setCell w1 ⟨g, j, none⟩ u b (k3 hp b o e).2)
theorem Rdr.setn {w1 : World} (h : Rdr T w g s O) (hb : Below w.heap.size w w1) (n : Nat) (hn : n ≤ s.bs.length) :
    Rdr T (w1.setCell ⟨g, 1, none⟩ (.int .i64 ((n : Nat) : Int))) g { s with n := n } O ∧ But O w (w1.setCell ⟨g, 1, none⟩ (.int .i64 ((n : Nat) : Int))) :=
  h.set_ hb 1 _ { s with n := n } rfl ⟨hn, h.ok.byte, h.ok.small⟩ (fun _ _ => rfl)
theorem Rdr.sete {w1 : World} (h : Rdr T w g s O) (hb : Below w.heap.size w w1) (e : Nat) (he : e < 100) :
    Rdr T (w1.setCell ⟨g, 2, none⟩ (.int .i64 ((e : Nat) : Int))) g { s with e := e } O ∧ But O w (w1.setCell ⟨g, 2, none⟩ (.int .i64 ((e : Nat) : Int))) :=
  h.set_ hb 2 _ { s with e := e } rfl ⟨h.ok.le, h.ok.byte, he⟩ (fun _ _ => rfl)
end
/-- New bytes that lie behind what was there stay, where one older block is turned. -/
theorem Sl.far_ {w1 : World} {a : Option Addr} {n c : Nat} {bs : List Nat} (h : Sl w1 w1.heap.size a n c bs) {B : Nat} (hn : ∀ b o, a = some ⟨b, o, none⟩ → B ≤ b) {g j : Nat} (hg : g < B) (u : Value) :
    Sl (w1.setCell ⟨g, j, none⟩ u) (w1.setCell ⟨g, j, none⟩ u).heap.size a n c bs :=
  h.same_ (by simp [World.setCell]) (fun hp b o e => Below.heap_setCell w1 ⟨g, j, none⟩ u b (by have := hn b o e; show b ≠ g; omega))
theorem newReader_any (a : Option Addr) (len cap : Nat) (bs : List Nat) (w : World) (hs : Sl w w.heap.size a len cap bs) (hlen : len ≤ 1000000000) :
    Calls Try.prog 20 #[.slice a len cap] w fun e w' => ∃ g O, e = .returned (.pointer (some ⟨g, 0, none⟩)) ∧ Rdr 86 w' g ⟨bs, 0, 0⟩ O ∧ Below w.heap.size w w' ∧ ∀ k, O k → w.heap.size ≤ k := by
  have hl := hs.length
  have hby := Lib.hid hs.byte
  have CL := Lib.hid (clone_any a len cap bs w hs (by omega))
  clear hs
  go_enter Try.func20, Try.ntmps20
  go_wp2_with fail
  refine CL.out.mono ?_
  rintro e w1 ⟨ba, bc, rfl, hsl, hB, hnew⟩
  have HH := Lib.hid (And.intro hsl (And.intro hB hnew))
  clear hsl hB hnew
  go_wp2
  go_ret
  obtain ⟨h1, h2, h3⟩ := HH.out
  have hlt : ∀ b o, 0 < bs.length → ba = some ⟨b, o, none⟩ → b < w1.heap.size := fun b o hp e => by
    obtain ⟨b', o', e', hlt, _⟩ := h1.at_ (by omega)
    rw [e] at e'; injection e' with e'; injection e' with e'; omega
  refine ⟨w1.heap.size, fun k => k = w1.heap.size ∨ (w.heap.size ≤ k ∧ k < w1.heap.size), rfl, ⟨⟨Nat.zero_le _, hby.out, by show 0 < 100; decide⟩, by show bs.length ≤ _; omega, ⟨ba, bc, ?_, ?_, fun hp b o e => ⟨.inr ⟨h3 b o e, hlt b o hp e⟩, by have := hlt b o hp e; omega⟩⟩, .inl rfl, fun k hk => ?_⟩, ?_, fun k hk => ?_⟩
  · rw [hl]; exact heap_alloc_new _ _
  · rw [hl]
    exact (h1.below ((Below.refl _ _).alloc (Nat.le_refl _) _) (Nat.le_refl _)).more (by simp)
  · rcases hk with rfl | hk
    · simp
    · simp; omega
  · exact h2.alloc h2.size _
  · rcases hk with rfl | hk
    · exact h2.size
    · exact hk.1
set_option linter.unusedSimpArgs false in
theorem end_any {w : World} {g : Nat} {s : RS} {O : Nat → Prop} (h : Rdr 86 w g s O) :
    Calls Try.prog 22 #[.pointer (some ⟨g, 0, none⟩)] w fun e w' => e = .returned (.int .i64 ((s.end_ : Nat) : Int)) ∧ Below w.heap.size w w' := by
  have hno := h.ok.le
  obtain ⟨a, c, hc, hs, hfar⟩ := h.ex
  have k0 := cell_of_row _ _ 0 _ _ _ hc
  have k1 := cell_of_row _ _ 1 _ _ _ hc
  have k2 := cell_of_row _ _ 2 _ _ _ hc
  simp at k0 k1 k2
  have hbig := h.big
  by_cases he : s.e = 0
  · have e0 : ((s.e : Nat) : Int) = 0 := by omega
    rw [e0] at k2
    by_cases hlt : s.n < s.bs.length
    · have hlt' : (s.n : Int) < (s.bs.length : Int) := by omega
      have hT : Hid (s.end_ = 12) := by show _ = _; unfold RS.end_; rw [if_pos ⟨he, hlt⟩]
      clear hs hfar h hc he e0
      go_enter Try.func22, Try.ntmps22
      go_wp2_with fail
      go_region
      all_goals
        go_wp2
        go_ret
        exact ⟨by rw [hT.out]; rfl, Below.drew (Below.refl _ _)⟩
    · have hlt' : ¬ (s.n : Int) < (s.bs.length : Int) := by omega
      have hT : Hid (s.end_ = 0) := by show _ = _; unfold RS.end_; rw [if_neg (by omega), he]
      clear hs hfar h hc he e0
      go_enter Try.func22, Try.ntmps22
      go_wp2_with fail
      go_region
      all_goals
        go_wp2
        go_ret
        exact ⟨by rw [hT.out]; rfl, Below.drew (Below.refl _ _)⟩
  · have he' : ¬ ((s.e : Nat) : Int) = 0 := by omega
    have hT : Hid (s.end_ = s.e) := by show _ = _; unfold RS.end_; rw [if_neg (by omega)]
    have y0 : (((s.e : Nat) : Int) == 0) = false := by simp; omega
    clear hs hfar h hc he
    go_enter Try.func22, Try.ntmps22
    go_wp2_with fail
    refine wp_region_held_drew (S := fun x => x.cell? ⟨g, 2, none⟩ = some (.int .i64 ((s.e : Nat) : Int))) (by kernel_rfl) k2 (fun hHeld => ?_)
    refine wpAnyH_take (i := 0) (v := ?_) rfl (by kernel_rfl) (by kernel_rfl) (by kernel_rfl) (fun _ _ _ h => h) (Or.inl ⟨by rfl, ?_⟩) (by assumption) ?_
    rotate_left
    · intro w hSw
      (try dsimp only at hSw)
      go_simp
      all_goals with_reducible rfl
    try simp only [Act.put, List.getElem_toArray, List.getElem_cons_succ, List.getElem_cons_zero, List.setIfInBounds_toArray, List.set_cons_zero, List.set_cons_succ]
    refine wpAnyH_take (i := 1) (v := ?_) rfl (by kernel_rfl) (by kernel_rfl) (by kernel_rfl) (fun _ _ _ h => h) (Or.inl ⟨by rfl, ?_⟩) (by assumption) ?_
    rotate_left
    · intro w hSw
      (try dsimp only at hSw)
      go_simp
      all_goals with_reducible rfl
    try simp only [Act.put, List.getElem_toArray, List.getElem_cons_succ, List.getElem_cons_zero, List.setIfInBounds_toArray, List.set_cons_zero, List.set_cons_succ]
    refine wpAnyH_take (i := 2) (v := ?_) rfl (by kernel_rfl) (by kernel_rfl) (by kernel_rfl) (fun _ _ _ h => h) (Or.inl ⟨by rfl, ?_⟩) (by assumption) ?_
    rotate_left
    · intro w hSw
      (try dsimp only at hSw)
      go_simp
      all_goals with_reducible rfl
    try simp only [Act.put, List.getElem_toArray, List.getElem_cons_succ, List.getElem_cons_zero, List.setIfInBounds_toArray, List.set_cons_zero, List.set_cons_succ]
    refine wpAnyH_take (i := 3) (v := ?_) rfl (by kernel_rfl) (by kernel_rfl) (by kernel_rfl) (fun _ _ _ h => h) (Or.inl ⟨by rfl, ?_⟩) (by assumption) ?_
    rotate_left
    · intro w hSw
      (try dsimp only at hSw)
      go_simp
      all_goals with_reducible rfl
    try simp only [Act.put, List.getElem_toArray, List.getElem_cons_succ, List.getElem_cons_zero, List.setIfInBounds_toArray, List.set_cons_zero, List.set_cons_succ]
    refine wpAnyH_take (i := 4) (v := ?_) rfl (by kernel_rfl) (by kernel_rfl) (by kernel_rfl) (fun _ _ _ h => h) (Or.inl ⟨by rfl, ?_⟩) (by assumption) ?_
    rotate_left
    · intro w hSw
      (try dsimp only at hSw)
      go_simp
      all_goals with_reducible rfl
    try simp only [Act.put, List.getElem_toArray, List.getElem_cons_succ, List.getElem_cons_zero, List.setIfInBounds_toArray, List.set_cons_zero, List.set_cons_succ]
    refine wpAnyH_take (i := 5) (v := ?_) rfl (by kernel_rfl) (by kernel_rfl) (by kernel_rfl) (fun _ _ _ h => h) (Or.inl ⟨by rfl, ?_⟩) (by assumption) ?_
    rotate_left
    · intro w hSw
      (try dsimp only at hSw)
      go_simp
      all_goals with_reducible rfl
    try simp only [Act.put, List.getElem_toArray, List.getElem_cons_succ, List.getElem_cons_zero, List.setIfInBounds_toArray, List.set_cons_zero, List.set_cons_succ]
    refine wpAnyH_take (i := 6) (v := undef) rfl (by kernel_rfl) (by kernel_rfl) (by kernel_rfl) (fun _ _ _ h => h) (Or.inr ⟨by rfl, rfl⟩) (by assumption) ?_
    try simp only [Act.put, List.getElem_toArray, List.getElem_cons_succ, List.getElem_cons_zero, List.setIfInBounds_toArray, List.set_cons_zero, List.set_cons_succ]
    refine wpAnyH_take (i := 7) (v := undef) rfl (by kernel_rfl) (by kernel_rfl) (by kernel_rfl) (fun _ _ _ h => h) (Or.inr ⟨by rfl, rfl⟩) (by assumption) ?_
    try simp only [Act.put, List.getElem_toArray, List.getElem_cons_succ, List.getElem_cons_zero, List.setIfInBounds_toArray, List.set_cons_zero, List.set_cons_succ]
    refine wpAnyH_take (i := 8) (v := undef) rfl (by kernel_rfl) (by kernel_rfl) (by kernel_rfl) (fun _ _ _ h => h) (Or.inr ⟨by rfl, rfl⟩) (by assumption) ?_
    try simp only [Act.put, List.getElem_toArray, List.getElem_cons_succ, List.getElem_cons_zero, List.setIfInBounds_toArray, List.set_cons_zero, List.set_cons_succ]
    refine wpAnyH_take (i := 9) (v := undef) rfl (by kernel_rfl) (by kernel_rfl) (by kernel_rfl) (fun _ _ _ h => h) (Or.inr ⟨by rfl, rfl⟩) (by assumption) ?_
    try simp only [Act.put, List.getElem_toArray, List.getElem_cons_succ, List.getElem_cons_zero, List.setIfInBounds_toArray, List.set_cons_zero, List.set_cons_succ]
    refine wpAnyH_take (i := 10) (v := undef) rfl (by kernel_rfl) (by kernel_rfl) (by kernel_rfl) (fun _ _ _ h => h) (Or.inr ⟨by rfl, rfl⟩) (by assumption) ?_
    try simp only [Act.put, List.getElem_toArray, List.getElem_cons_succ, List.getElem_cons_zero, List.setIfInBounds_toArray, List.set_cons_zero, List.set_cons_succ]
    refine wpAnyH_take (i := 11) (v := undef) rfl (by kernel_rfl) (by kernel_rfl) (by kernel_rfl) (fun _ _ _ h => h) (Or.inr ⟨by rfl, rfl⟩) (by assumption) ?_
    try simp only [Act.put, List.getElem_toArray, List.getElem_cons_succ, List.getElem_cons_zero, List.setIfInBounds_toArray, List.set_cons_zero, List.set_cons_succ]
    refine wpAnyH_take (i := 12) (v := undef) rfl (by kernel_rfl) (by kernel_rfl) (by kernel_rfl) (fun _ _ _ h => h) (Or.inr ⟨by rfl, rfl⟩) (by assumption) ?_
    try simp only [Act.put, List.getElem_toArray, List.getElem_cons_succ, List.getElem_cons_zero, List.setIfInBounds_toArray, List.set_cons_zero, List.set_cons_succ]
    refine wpAnyH_take (i := 13) (v := undef) rfl (by kernel_rfl) (by kernel_rfl) (by kernel_rfl) (fun _ _ _ h => h) (Or.inr ⟨by rfl, rfl⟩) (by assumption) ?_
    try simp only [Act.put, List.getElem_toArray, List.getElem_cons_succ, List.getElem_cons_zero, List.setIfInBounds_toArray, List.set_cons_zero, List.set_cons_succ]
    refine wpAnyH_take (i := 14) (v := undef) rfl (by kernel_rfl) (by kernel_rfl) (by kernel_rfl) (fun _ _ _ h => h) (Or.inr ⟨by rfl, rfl⟩) (by assumption) ?_
    try simp only [Act.put, List.getElem_toArray, List.getElem_cons_succ, List.getElem_cons_zero, List.setIfInBounds_toArray, List.set_cons_zero, List.set_cons_succ]
    refine wpAnyH_take (i := 15) (v := undef) rfl (by kernel_rfl) (by kernel_rfl) (by kernel_rfl) (fun _ _ _ h => h) (Or.inr ⟨by rfl, rfl⟩) (by assumption) ?_
    try simp only [Act.put, List.getElem_toArray, List.getElem_cons_succ, List.getElem_cons_zero, List.setIfInBounds_toArray, List.set_cons_zero, List.set_cons_succ]
    refine wpAnyH_take (i := 16) (v := ?_) rfl (by kernel_rfl) (by kernel_rfl) (by kernel_rfl) (fun _ _ _ h => h) (Or.inl ⟨by rfl, ?_⟩) (by assumption) ?_
    rotate_left
    · intro w hSw
      (try dsimp only at hSw)
      go_simp
      all_goals with_reducible rfl
    try simp only [Act.put, List.getElem_toArray, List.getElem_cons_succ, List.getElem_cons_zero, List.setIfInBounds_toArray, List.set_cons_zero, List.set_cons_succ]
    refine wpAnyH_done (by kernel_rfl) ?_ _
    clear hHeld
    go_wp2
    go_ret
    exact ⟨ret_i64 (by rw [hT.out]), Below.drew (Below.refl _ _)⟩
end Go.Proofs.Ytnpakjdgcmbcnaa
