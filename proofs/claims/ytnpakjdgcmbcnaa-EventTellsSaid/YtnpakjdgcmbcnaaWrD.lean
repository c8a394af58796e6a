/- Contracts of the program's wire: a number within bounds, as a step behind a step (closures). -/
import Derived.Test.YtnpakjdgcmbcnaaWrC
import Derived.Test.YtnpakjdgcmbcnaaBut
import Derived.Deep.RegionHeld
import Derived.Deep.RegionHeld3
namespace Go.Proofs.Ytnpakjdgcmbcnaa
open Go.RowKit
open Wir

theorem within11_any (p q r : Nat) (v : Value) (n l m : Int) (w : World) (c1 : w.cell? ⟨p, 0, none⟩ = some (.int .i64 n)) (c2 : w.cell? ⟨q, 0, none⟩ = some (.int .i64 l)) (c3 : w.cell? ⟨r, 0, none⟩ = some (.int .i64 m)) :
    Calls Try.prog 91 #[v, .pointer (some ⟨p, 0, none⟩), .pointer (some ⟨q, 0, none⟩), .pointer (some ⟨r, 0, none⟩)] w fun e w' =>
      e = .returned (numT (if n < l ∨ m < n then (0, 0, 12) else (n, 0, 0))) ∧ w' = w := by
  by_cases h1 : n < l
  · rw [if_pos (.inl h1)]
    go_enter Try.func91, Try.ntmps91
    go_wp2
    go_ret3
    exact ⟨rfl, rfl⟩
  by_cases h2 : m < n
  · rw [if_pos (.inr h2)]
    have h1' : l ≤ n := by omega
    go_enter Try.func91, Try.ntmps91
    go_wp2
    go_ret3
    exact ⟨rfl, rfl⟩
  · rw [if_neg (by omega)]
    have h1' : l ≤ n := by omega
    have h2' : n ≤ m := by omega
    go_enter Try.func91, Try.ntmps91
    go_wp2
    go_ret3
    exact ⟨rfl, rfl⟩
theorem within1_any (q r : Nat) (n : Int) (w : World) :
    Calls Try.prog 90 #[.int .i64 n, .pointer (some ⟨q, 0, none⟩), .pointer (some ⟨r, 0, none⟩)] w fun e w' =>
      e = .returned (.func (.func 91) #[] #[.pointer (some ⟨w.heap.size, 0, none⟩), .pointer (some ⟨q, 0, none⟩), .pointer (some ⟨r, 0, none⟩)]) ∧ w' = w.alloc (.cells #[.int .i64 n] 2) := by
  go_enter Try.func90, Try.ntmps90
  go_wp2
  go_ret
  exact ⟨rfl, rfl⟩
/-- What the boxes of 'within' hold. -/
structure WiAt (w : World) (p1 p2 p3 p4 : Nat) (l m : Int) : Prop where
  c1 : w.cell? ⟨p1, 0, none⟩ = some (.func (.func 80) #[] #[])
  c2 : w.cell? ⟨p2, 0, none⟩ = some (.func (.func 90) #[] #[.pointer (some ⟨p3, 0, none⟩), .pointer (some ⟨p4, 0, none⟩)])
  c3 : w.cell? ⟨p3, 0, none⟩ = some (.int .i64 l)
  c4 : w.cell? ⟨p4, 0, none⟩ = some (.int .i64 m)
theorem WiAt.below {w w' : World} {p1 p2 p3 p4 : Nat} {l m : Int} (h : WiAt w p1 p2 p3 p4 l m) (hb : Below w.heap.size w w') : WiAt w' p1 p2 p3 p4 l m :=
  ⟨(hb.cell (p := ⟨p1, 0, none⟩) (block_lt_of_cell h.c1)).trans h.c1, (hb.cell (p := ⟨p2, 0, none⟩) (block_lt_of_cell h.c2)).trans h.c2, (hb.cell (p := ⟨p3, 0, none⟩) (block_lt_of_cell h.c3)).trans h.c3, (hb.cell (p := ⟨p4, 0, none⟩) (block_lt_of_cell h.c4)).trans h.c4⟩
theorem within_any (l m : Int) (w : World) :
    Calls Try.prog 82 #[.int .i64 l, .int .i64 m] w fun e w' => ∃ p1 p2 p3 p4, e = .returned (.func (.func 94) #[] #[.pointer (some ⟨p1, 0, none⟩), .pointer (some ⟨p2, 0, none⟩)]) ∧
      WiAt w' p1 p2 p3 p4 l m ∧ Below w.heap.size w w' := by
  go_enter Try.func82, Try.ntmps82
  go_wp2
  go_ret
  obtain ⟨w1, e1⟩ : ∃ w1, w1 = w.alloc (.cells #[.int .i64 l] 2) := ⟨_, rfl⟩
  obtain ⟨w2, e2⟩ : ∃ w2, w2 = w1.alloc (.cells #[.int .i64 m] 2) := ⟨_, rfl⟩
  have s1 : w1.heap.size = w.heap.size + 1 := by rw [e1]; simp
  have s2 : w2.heap.size = w.heap.size + 1 + 1 := by rw [e2]; simp [s1]
  have k3 : w2.cell? ⟨w.heap.size, 0, none⟩ = some (.int .i64 l) := by
    rw [e2, World.cell?_alloc_past _ _ _ (by simp [s1]), e1]
    exact cell_of_one (heap_alloc_new _ _)
  have k4 : w2.cell? ⟨w.heap.size + 1, 0, none⟩ = some (.int .i64 m) := by
    rw [e2, ← s1]
    exact cell_of_one (heap_alloc_new _ _)
  have hb : Below w.heap.size w w2 := by rw [e2]; exact Below.alloc (w := w1) (by rw [e1]; exact (Below.refl _ _).alloc (Nat.le_refl _) _) (by omega) _
  refine ⟨w.heap.size + 1 + 1, w.heap.size + 1 + 1 + 1, w.heap.size, w.heap.size + 1, rfl, ?_, ?_⟩
  · rw [← e1, ← e2, ← s2]
    refine ⟨?_, ?_, ?_, ?_⟩
    · rw [World.cell?_alloc_past _ _ _ (by simp)]
      exact cell_of_one (heap_alloc_new _ _)
    · rw [show w2.heap.size + 1 = (w2.alloc (.cells #[.func (.func 80) #[] #[]] 137)).heap.size from by simp]
      exact cell_of_one (heap_alloc_new _ _)
    · rw [World.cell?_alloc_past _ _ _ (by simp [s2]; try omega), World.cell?_alloc_past _ _ _ (by simp [s2]; try omega)]
      exact k3
    · rw [World.cell?_alloc_past _ _ _ (by simp [s2]; try omega), World.cell?_alloc_past _ _ _ (by simp [s2]; try omega)]
      exact k4
  · rw [← e1, ← e2]
    exact (hb.alloc (by omega) _).alloc (by simp [s2]; omega) _

set_option linter.unusedSimpArgs false in
set_option maxRecDepth 100000 in
set_option maxHeartbeats 1600000 in
theorem then1_any (p1 p2 p3 p4 : Nat) (l m : Int) (a : Option Addr) (len cap : Nat) (bs : List Nat) (w : World) (h : WiAt w p1 p2 p3 p4 l m) (hs : Sl w w.heap.size a len cap bs) :
    Calls Try.prog 94 #[.slice a len cap, .pointer (some ⟨p1, 0, none⟩), .pointer (some ⟨p2, 0, none⟩)] w fun e w' => e = .returned (numT (wi l m bs)) ∧ Below w.heap.size w w' := by
  have hl := hs.length
  have hle := hs.le
  have hmx := hs.max
  unfold maxLen at hmx
  have NU := Lib.hid (number_any a len cap bs w hs)
  have c1 := h.c1
  have HN := num_le hs.byte
  rcases hn : num bs with ⟨n, k, e⟩
  rw [hn] at NU HN
  simp only at HN
  by_cases he : e = 0
  · subst he
    have hw : wi l m bs = if n < l ∨ m < n then (0, 0, 12) else (n, k, 0) := by unfold wi; rw [hn]; simp
    have Hw := Lib.hid hw
    have hk : k ≤ len := by omega
    have c5 := run_cut_from (P := Try.prog) 28 5 Try.underlying28 info_u8 a len cap k hk
    generalize (if cap = k then a else a.map (·.add k)) = a5 at c5
    have W1 := Lib.hid (fun x => within1_any p3 p4 n x)
    have c2 := h.c2
    have H := Lib.hid h
    clear hn hw h
    go_enter Try.func94, Try.ntmps94
    go_wp2_with fail
    refine NU.out.mono ?_
    rintro e w1 ⟨rfl, rfl⟩
    unfold numT
    go_wp2_with fail
    refine wp_region_held_drew (S := fun x => x.cell? ⟨p2, 0, none⟩ = some (.func (.func 90) #[] #[.pointer (some ⟨p3, 0, none⟩), .pointer (some ⟨p4, 0, none⟩)]) ∧ Below w1.heap.size w1 x) (by kernel_rfl) ⟨c2, Below.drew (Below.refl _ _)⟩ (fun hHeld => ?_)
    refine wpAnyH_take (i := 0) (v := ?_) rfl (by kernel_rfl) (by kernel_rfl) (by kernel_rfl) (fun _ _ _ h => h) (Or.inl ⟨by rfl, ?_⟩) (by assumption) ?_
    rotate_left
    · intro w hSw
      (try dsimp only at hSw)
      go_simp
      all_goals with_reducible rfl
    try simp only [Act.put, List.getElem_toArray, List.getElem_cons_succ, List.getElem_cons_zero, List.setIfInBounds_toArray, List.set_cons_zero, List.set_cons_succ]
    refine wpAnyH_take (i := 1) (v := ?_) rfl (by kernel_rfl) (by kernel_rfl) (by kernel_rfl) (fun _ _ _ h => h) (Or.inl ⟨by rfl, ?_⟩) (by assumption) ?_
    rotate_left
    · intro w hSw
      (try dsimp only at hSw)
      go_simp
      all_goals with_reducible rfl
    try simp only [Act.put, List.getElem_toArray, List.getElem_cons_succ, List.getElem_cons_zero, List.setIfInBounds_toArray, List.set_cons_zero, List.set_cons_succ]
    refine wpAnyH_take (i := 3) (v := ?_) rfl (by kernel_rfl) (by kernel_rfl) (by kernel_rfl) (fun _ _ _ h => h) (Or.inl ⟨by rfl, ?_⟩) (by assumption) ?_
    rotate_left
    · intro w hSw
      (try dsimp only at hSw)
      go_simp
      all_goals with_reducible rfl
    try simp only [Act.put, List.getElem_toArray, List.getElem_cons_succ, List.getElem_cons_zero, List.setIfInBounds_toArray, List.set_cons_zero, List.set_cons_succ]
    refine wpAnyH_take (i := 4) (v := ?_) rfl (by kernel_rfl) (by kernel_rfl) (by kernel_rfl) (fun _ _ _ h => h) (Or.inl ⟨by rfl, ?_⟩) (by assumption) ?_
    rotate_left
    · intro w hSw
      (try dsimp only at hSw)
      go_simp
      all_goals with_reducible rfl
    try simp only [Act.put, List.getElem_toArray, List.getElem_cons_succ, List.getElem_cons_zero, List.setIfInBounds_toArray, List.set_cons_zero, List.set_cons_succ]
    refine wpAnyH_take (i := 5) (v := ?_) rfl (by kernel_rfl) (by kernel_rfl) (by kernel_rfl) (fun _ _ _ h => h) (Or.inl ⟨by rfl, ?_⟩) (by assumption) ?_
    rotate_left
    · intro w hSw
      (try dsimp only at hSw)
      go_simp
      all_goals with_reducible rfl
    try simp only [Act.put, List.getElem_toArray, List.getElem_cons_succ, List.getElem_cons_zero, List.setIfInBounds_toArray, List.set_cons_zero, List.set_cons_succ]
    refine wpAnyH_ready (rs := [2]) (by kernel_rfl) (by simp) ?_
    refine AllReadyH.cons rfl (fun K hK => ?_) AllReadyH.nil
    rw [if_pos (by rfl)]
    go_simp
    go_at_call 90
    refine (W1.out _).mono ?_
    rintro e w2 ⟨rfl, rfl⟩
    have hB2 : Below w1.heap.size w1 (w1.drew.alloc (.cells #[.int .i64 n] 2)) := (Below.drew (Below.refl _ _)).alloc (Nat.le_refl _) _
    have H2 := H.out.below hB2
    have kn : (w1.drew.alloc (.cells #[.int .i64 n] 2)).cell? ⟨w1.drew.heap.size, 0, none⟩ = some (.int .i64 n) := cell_of_one (heap_alloc_new _ _)
    refine hK.out _ _ ?_ (fun hHeld => ?_)
    · exact ⟨H2.c2, hB2⟩
    clear hK K
    try simp only [Act.put, List.getElem_toArray, List.getElem_cons_succ, List.getElem_cons_zero, List.setIfInBounds_toArray, List.set_cons_zero, List.set_cons_succ]
    refine wpAnyH_ready (rs := [6]) (by kernel_rfl) (by simp) ?_
    refine AllReadyH.cons rfl (fun K hK => ?_) AllReadyH.nil
    rw [if_pos (by rfl)]
    go_simp
    go_at_call 91
    refine (within11_any _ p3 p4 _ n l m _ kn H2.c3 H2.c4).mono ?_
    rintro e w2 ⟨rfl, rfl⟩
    have hB3 := Lib.hid hB2
    clear kn
    by_cases hin : n < l ∨ m < n
    · rw [if_pos hin]
      unfold numT
      rw [if_pos hin] at Hw
      refine hK.out _ _ ?_ (fun hHeld => ?_)
      · exact ⟨H2.c2, hB2⟩
      clear hK K
      try simp only [Act.put, List.getElem_toArray, List.getElem_cons_succ, List.getElem_cons_zero, List.setIfInBounds_toArray, List.set_cons_zero, List.set_cons_succ]
      refine wpAnyH_take (i := 7) (v := ?_) rfl (by kernel_rfl) (by kernel_rfl) (by kernel_rfl) (fun _ _ _ h => h) (Or.inl ⟨by rfl, ?_⟩) (by assumption) ?_
      rotate_left
      · intro w hSw
        (try dsimp only at hSw)
        go_simp
        all_goals with_reducible rfl
      try simp only [Act.put, List.getElem_toArray, List.getElem_cons_succ, List.getElem_cons_zero, List.setIfInBounds_toArray, List.set_cons_zero, List.set_cons_succ]
      refine wpAnyH_take (i := 8) (v := ?_) rfl (by kernel_rfl) (by kernel_rfl) (by kernel_rfl) (fun _ _ _ h => h) (Or.inl ⟨by rfl, ?_⟩) (by assumption) ?_
      rotate_left
      · intro w hSw
        (try dsimp only at hSw)
        go_simp
        all_goals with_reducible rfl
      try simp only [Act.put, List.getElem_toArray, List.getElem_cons_succ, List.getElem_cons_zero, List.setIfInBounds_toArray, List.set_cons_zero, List.set_cons_succ]
      refine wpAnyH_take (i := 9) (v := ?_) rfl (by kernel_rfl) (by kernel_rfl) (by kernel_rfl) (fun _ _ _ h => h) (Or.inl ⟨by rfl, ?_⟩) (by assumption) ?_
      rotate_left
      · intro w hSw
        (try dsimp only at hSw)
        go_simp
        all_goals with_reducible rfl
      try simp only [Act.put, List.getElem_toArray, List.getElem_cons_succ, List.getElem_cons_zero, List.setIfInBounds_toArray, List.set_cons_zero, List.set_cons_succ]
      refine wpAnyH_take (i := 10) (v := ?_) rfl (by kernel_rfl) (by kernel_rfl) (by kernel_rfl) (fun _ _ _ h => h) (Or.inl ⟨by rfl, ?_⟩) (by assumption) ?_
      rotate_left
      · intro w hSw
        (try dsimp only at hSw)
        go_simp
        all_goals with_reducible rfl
      try simp only [Act.put, List.getElem_toArray, List.getElem_cons_succ, List.getElem_cons_zero, List.setIfInBounds_toArray, List.set_cons_zero, List.set_cons_succ]
      refine wpAnyH_take (i := 11) (v := ?_) rfl (by kernel_rfl) (by kernel_rfl) (by kernel_rfl) (fun _ _ _ h => h) (Or.inl ⟨by rfl, ?_⟩) (by assumption) ?_
      rotate_left
      · intro w hSw
        (try dsimp only at hSw)
        go_simp
        all_goals with_reducible rfl
      try simp only [Act.put, List.getElem_toArray, List.getElem_cons_succ, List.getElem_cons_zero, List.setIfInBounds_toArray, List.set_cons_zero, List.set_cons_succ]
      refine wpAnyH_take (i := 12) (v := ?_) rfl (by kernel_rfl) (by kernel_rfl) (by kernel_rfl) (fun _ _ _ h => h) (Or.inl ⟨by rfl, ?_⟩) (by assumption) ?_
      rotate_left
      · intro w hSw
        (try dsimp only at hSw)
        go_simp
        all_goals with_reducible rfl
      try simp only [Act.put, List.getElem_toArray, List.getElem_cons_succ, List.getElem_cons_zero, List.setIfInBounds_toArray, List.set_cons_zero, List.set_cons_succ]
      refine wpAnyH_take (i := 13) (v := ?_) rfl (by kernel_rfl) (by kernel_rfl) (by kernel_rfl) (fun _ _ _ h => h) (Or.inl ⟨by rfl, ?_⟩) (by assumption) ?_
      rotate_left
      · intro w hSw
        (try dsimp only at hSw)
        go_simp
        all_goals with_reducible rfl
      try simp only [Act.put, List.getElem_toArray, List.getElem_cons_succ, List.getElem_cons_zero, List.setIfInBounds_toArray, List.set_cons_zero, List.set_cons_succ]
      refine wpAnyH_done (by kernel_rfl) ?_ _
      clear hHeld H2 hB2
      go_wp2
      go_ret3
      exact ⟨by rw [Hw.out]; rfl, hB3.out⟩
    · rw [if_neg hin]
      unfold numT
      rw [if_neg hin] at Hw
      refine hK.out _ _ ?_ (fun hHeld => ?_)
      · exact ⟨H2.c2, hB2⟩
      clear hK K
      try simp only [Act.put, List.getElem_toArray, List.getElem_cons_succ, List.getElem_cons_zero, List.setIfInBounds_toArray, List.set_cons_zero, List.set_cons_succ]
      refine wpAnyH_take (i := 7) (v := ?_) rfl (by kernel_rfl) (by kernel_rfl) (by kernel_rfl) (fun _ _ _ h => h) (Or.inl ⟨by rfl, ?_⟩) (by assumption) ?_
      rotate_left
      · intro w hSw
        (try dsimp only at hSw)
        go_simp
        all_goals with_reducible rfl
      try simp only [Act.put, List.getElem_toArray, List.getElem_cons_succ, List.getElem_cons_zero, List.setIfInBounds_toArray, List.set_cons_zero, List.set_cons_succ]
      refine wpAnyH_take (i := 8) (v := ?_) rfl (by kernel_rfl) (by kernel_rfl) (by kernel_rfl) (fun _ _ _ h => h) (Or.inl ⟨by rfl, ?_⟩) (by assumption) ?_
      rotate_left
      · intro w hSw
        (try dsimp only at hSw)
        go_simp
        all_goals with_reducible rfl
      try simp only [Act.put, List.getElem_toArray, List.getElem_cons_succ, List.getElem_cons_zero, List.setIfInBounds_toArray, List.set_cons_zero, List.set_cons_succ]
      refine wpAnyH_take (i := 9) (v := ?_) rfl (by kernel_rfl) (by kernel_rfl) (by kernel_rfl) (fun _ _ _ h => h) (Or.inl ⟨by rfl, ?_⟩) (by assumption) ?_
      rotate_left
      · intro w hSw
        (try dsimp only at hSw)
        go_simp
        all_goals with_reducible rfl
      try simp only [Act.put, List.getElem_toArray, List.getElem_cons_succ, List.getElem_cons_zero, List.setIfInBounds_toArray, List.set_cons_zero, List.set_cons_succ]
      refine wpAnyH_take (i := 10) (v := ?_) rfl (by kernel_rfl) (by kernel_rfl) (by kernel_rfl) (fun _ _ _ h => h) (Or.inl ⟨by rfl, ?_⟩) (by assumption) ?_
      rotate_left
      · intro w hSw
        (try dsimp only at hSw)
        go_simp
        all_goals with_reducible rfl
      try simp only [Act.put, List.getElem_toArray, List.getElem_cons_succ, List.getElem_cons_zero, List.setIfInBounds_toArray, List.set_cons_zero, List.set_cons_succ]
      refine wpAnyH_take (i := 11) (v := ?_) rfl (by kernel_rfl) (by kernel_rfl) (by kernel_rfl) (fun _ _ _ h => h) (Or.inl ⟨by rfl, ?_⟩) (by assumption) ?_
      rotate_left
      · intro w hSw
        (try dsimp only at hSw)
        go_simp
        all_goals with_reducible rfl
      try simp only [Act.put, List.getElem_toArray, List.getElem_cons_succ, List.getElem_cons_zero, List.setIfInBounds_toArray, List.set_cons_zero, List.set_cons_succ]
      refine wpAnyH_take (i := 12) (v := ?_) rfl (by kernel_rfl) (by kernel_rfl) (by kernel_rfl) (fun _ _ _ h => h) (Or.inl ⟨by rfl, ?_⟩) (by assumption) ?_
      rotate_left
      · intro w hSw
        (try dsimp only at hSw)
        go_simp
        all_goals with_reducible rfl
      try simp only [Act.put, List.getElem_toArray, List.getElem_cons_succ, List.getElem_cons_zero, List.setIfInBounds_toArray, List.set_cons_zero, List.set_cons_succ]
      refine wpAnyH_take (i := 13) (v := ?_) rfl (by kernel_rfl) (by kernel_rfl) (by kernel_rfl) (fun _ _ _ h => h) (Or.inl ⟨by rfl, ?_⟩) (by assumption) ?_
      rotate_left
      · intro w hSw
        (try dsimp only at hSw)
        go_simp
        all_goals with_reducible rfl
      try simp only [Act.put, List.getElem_toArray, List.getElem_cons_succ, List.getElem_cons_zero, List.setIfInBounds_toArray, List.set_cons_zero, List.set_cons_succ]
      refine wpAnyH_done (by kernel_rfl) ?_ _
      clear hHeld H2 hB2
      have hkw : IntKind.i64.wrap (k : Int) = (k : Int) := by rw [IntKind.wrap_i64]; omega
      go_wp2
      go_ret3
      exact ⟨by rw [Hw.out]; rfl, hB3.out⟩
  · have hw : wi l m bs = (0, 0, e) := by unfold wi; rw [hn]; exact if_pos he
    rw [hw]
    have he' : ¬ (e : Int) = 0 := by omega
    clear hn hw h
    go_enter Try.func94, Try.ntmps94
    go_wp2_with fail
    refine NU.out.mono ?_
    rintro e w1 ⟨rfl, rfl⟩
    unfold numT
    go_wp2
    go_ret3
    exact ⟨rfl, Below.refl _ _⟩
end Go.Proofs.Ytnpakjdgcmbcnaa
