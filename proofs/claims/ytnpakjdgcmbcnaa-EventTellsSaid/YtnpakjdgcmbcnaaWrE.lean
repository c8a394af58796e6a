/- Contracts of the program's wire: a text, as a step behind a step (closures). -/
import Derived.Test.YtnpakjdgcmbcnaaWrD
import Derived.Test.YtnpakjdgcmbcnaaClone
namespace Go.Proofs.Ytnpakjdgcmbcnaa
open Go.RowKit
open Wir

/-- A text, how many bytes were read, what is wrong. -/
def TxtT (w w' : World) (x : List Nat × Nat × Nat) (e : Ending) : Prop := ∃ a c, e = .returned (.tuple #[.slice a x.1.length c, .int .i64 ((x.2.1 : Nat) : Int), .int .i64 ((x.2.2 : Nat) : Int)]) ∧ Sl w' w'.heap.size a x.1.length c x.1 ∧ Below w.heap.size w w' ∧ ∀ b o, a = some ⟨b, o, none⟩ → w.heap.size ≤ b
theorem TxtT.nil_ {w w' : World} {e : Ending} (er : Nat) (h : e = .returned (.tuple #[.slice none 0 0, .int .i64 0, .int .i64 (er : Int)])) (hb : Below w.heap.size w w') : TxtT w w' ([], 0, er) e :=
  ⟨none, 0, h, Sl.nil_, hb, fun b o h => by cases h⟩
theorem raw_any (n : Int) (w : World) :
    Calls Try.prog 88 #[.int .i64 n] w fun e w' => e = .returned (.func (.func 93) #[] #[.pointer (some ⟨w.heap.size, 0, none⟩)]) ∧ w' = w.alloc (.cells #[.int .i64 n] 2) := by
  go_enter Try.func88, Try.ntmps88
  go_wp2
  go_ret
  exact ⟨rfl, rfl⟩
set_option linter.unusedSimpArgs false in
set_option maxRecDepth 100000 in
set_option maxHeartbeats 1600000 in
theorem raw1_any (p n : Nat) (a : Option Addr) (len cap : Nat) (bs : List Nat) (w : World) (c1 : w.cell? ⟨p, 0, none⟩ = some (.int .i64 (n : Int))) (hs : Sl w w.heap.size a len cap bs) (hlen : len ≤ 140737488355328) :
    Calls Try.prog 93 #[.slice a len cap, .pointer (some ⟨p, 0, none⟩)] w fun e w' => TxtT w w' (if len < n then ([], 0, 13) else (bs.take n, n, 0)) e := by
  have hl := hs.length
  have hle := hs.le
  by_cases h1 : len < n
  · rw [if_pos h1]
    have h1' : (len : Int) < (n : Int) := by omega
    go_enter Try.func93, Try.ntmps93
    go_wp2
    go_ret3
    exact TxtT.nil_ 13 rfl (Below.refl _ _)
  · rw [if_neg h1]
    have h1' : (n : Int) ≤ (len : Int) := by omega
    have c2 := run_cut_to (P := Try.prog) 28 5 Try.underlying28 info_u8 a len cap n (by omega)
    have CL := Lib.hid (clone_any a n cap (bs.take n) w.drew ((hs.take (k := n) (by omega)).below (Below.drew (Below.refl w.heap.size w)) (Nat.le_refl _)) (by omega))
    have Hp := Lib.hid (block_lt_of_cell c1)
    have htl : (bs.take n).length = n := by rw [List.length_take]; omega
    have Ht := Lib.hid htl
    clear hl htl hs
    go_enter Try.func93, Try.ntmps93
    go_wp2_with fail
    refine wp_region_held_drew (S := fun x => x.cell? ⟨p, 0, none⟩ = some (.int .i64 (n : Int))) (by kernel_rfl) c1 (fun hHeld => ?_)
    refine wpAnyH_take (i := 0) (v := ?_) rfl (by kernel_rfl) (by kernel_rfl) (by kernel_rfl) (fun _ _ _ h => h) (Or.inl ⟨by rfl, ?_⟩) (by assumption) ?_
    rotate_left
    · intro w hSw
      (try dsimp only at hSw)
      go_simp
      all_goals with_reducible rfl
    try simp only [Act.put, List.getElem_toArray, List.getElem_cons_succ, List.getElem_cons_zero, List.setIfInBounds_toArray, List.set_cons_zero, List.set_cons_succ]
    refine wpAnyH_take (i := 1) (v := ?_) rfl (by kernel_rfl) (by kernel_rfl) (by kernel_rfl) (fun _ _ _ h => h) (Or.inl ⟨by rfl, ?_⟩) (by assumption) ?_
    rotate_left
    · intro w hSw
      (try dsimp only at hSw)
      go_simp
      all_goals with_reducible rfl
    try simp only [Act.put, List.getElem_toArray, List.getElem_cons_succ, List.getElem_cons_zero, List.setIfInBounds_toArray, List.set_cons_zero, List.set_cons_succ]
    refine wpAnyH_take (i := 2) (v := ?_) rfl (by kernel_rfl) (by kernel_rfl) (by kernel_rfl) (fun _ _ _ h => h) (Or.inl ⟨by rfl, ?_⟩) (by assumption) ?_
    rotate_left
    · intro w hSw
      (try dsimp only at hSw)
      go_simp
      all_goals with_reducible rfl
    try simp only [Act.put, List.getElem_toArray, List.getElem_cons_succ, List.getElem_cons_zero, List.setIfInBounds_toArray, List.set_cons_zero, List.set_cons_succ]
    refine wpAnyH_take (i := 4) (v := ?_) rfl (by kernel_rfl) (by kernel_rfl) (by kernel_rfl) (fun _ _ _ h => h) (Or.inl ⟨by rfl, ?_⟩) (by assumption) ?_
    rotate_left
    · intro w hSw
      (try dsimp only at hSw)
      go_simp
      all_goals with_reducible rfl
    try simp only [Act.put, List.getElem_toArray, List.getElem_cons_succ, List.getElem_cons_zero, List.setIfInBounds_toArray, List.set_cons_zero, List.set_cons_succ]
    refine wpAnyH_ready (rs := [3]) (by kernel_rfl) (by simp) ?_
    refine AllReadyH.cons rfl (fun K hK => ?_) AllReadyH.nil
    rw [if_pos (by rfl)]
    go_simp
    go_at_call 47
    refine CL.out.mono ?_
    rintro e w1 ⟨ba, bc, rfl, hsl, hB, hnew⟩
    have HR := Lib.hid (And.intro hsl (And.intro hB hnew))
    have k1 := (hB.cell (p := ⟨p, 0, none⟩) Hp.out).trans c1
    clear hsl hB hnew
    refine hK.out _ _ ?_ (fun hHeld => ?_)
    · exact k1
    clear hK K
    try simp only [Act.put, List.getElem_toArray, List.getElem_cons_succ, List.getElem_cons_zero, List.setIfInBounds_toArray, List.set_cons_zero, List.set_cons_succ]
    refine wpAnyH_take (i := 5) (v := ?_) rfl (by kernel_rfl) (by kernel_rfl) (by kernel_rfl) (fun _ _ _ h => h) (Or.inl ⟨by rfl, ?_⟩) (by assumption) ?_
    rotate_left
    · intro w hSw
      (try dsimp only at hSw)
      go_simp
      all_goals with_reducible rfl
    try simp only [Act.put, List.getElem_toArray, List.getElem_cons_succ, List.getElem_cons_zero, List.setIfInBounds_toArray, List.set_cons_zero, List.set_cons_succ]
    refine wpAnyH_take (i := 6) (v := ?_) rfl (by kernel_rfl) (by kernel_rfl) (by kernel_rfl) (fun _ _ _ h => h) (Or.inl ⟨by rfl, ?_⟩) (by assumption) ?_
    rotate_left
    · intro w hSw
      (try dsimp only at hSw)
      go_simp
      all_goals with_reducible rfl
    try simp only [Act.put, List.getElem_toArray, List.getElem_cons_succ, List.getElem_cons_zero, List.setIfInBounds_toArray, List.set_cons_zero, List.set_cons_succ]
    refine wpAnyH_take (i := 7) (v := ?_) rfl (by kernel_rfl) (by kernel_rfl) (by kernel_rfl) (fun _ _ _ h => h) (Or.inl ⟨by rfl, ?_⟩) (by assumption) ?_
    rotate_left
    · intro w hSw
      (try dsimp only at hSw)
      go_simp
      all_goals with_reducible rfl
    try simp only [Act.put, List.getElem_toArray, List.getElem_cons_succ, List.getElem_cons_zero, List.setIfInBounds_toArray, List.set_cons_zero, List.set_cons_succ]
    refine wpAnyH_done (by kernel_rfl) ?_ _
    clear hHeld k1
    go_wp2
    go_ret3
    obtain ⟨q1, q2, q3⟩ := HR.out
    refine ⟨ba, bc, by rw [Ht.out]; rfl, by rw [Ht.out]; exact q1, (Below.drew (Below.refl _ _)).trans q2, q3⟩
theorem wi_ok {m : Int} {bs : List Nat} (h : (wi 0 m bs).2.2 = 0) : 0 ≤ (wi 0 m bs).1 := by
  unfold wi at *
  split
  · rename_i h1; rw [if_pos h1] at h; exact absurd h h1
  · split
    · exact Int.le_refl _
    · rename_i h1 h2; simp only; omega
set_option linter.unusedSimpArgs false in
set_option maxRecDepth 100000 in
set_option maxHeartbeats 1600000 in
theorem then2_any (p1 p2 q1 q2 q3 q4 : Nat) (m : Int) (a : Option Addr) (len cap : Nat) (bs : List Nat) (w : World) (h : WiAt w q1 q2 q3 q4 0 m)
    (c1 : w.cell? ⟨p1, 0, none⟩ = some (.func (.func 94) #[] #[.pointer (some ⟨q1, 0, none⟩), .pointer (some ⟨q2, 0, none⟩)])) (c2 : w.cell? ⟨p2, 0, none⟩ = some (.func (.func 88) #[] #[]))
    (hs : Sl w w.heap.size a len cap bs) (hlen : len ≤ 140737488355328) :
    Calls Try.prog 92 #[.slice a len cap, .pointer (some ⟨p1, 0, none⟩), .pointer (some ⟨p2, 0, none⟩)] w fun e w' => TxtT w w' (tx m bs) e := by
  have hl := hs.length
  have hle := hs.le
  have hmx := hs.max
  unfold maxLen at hmx
  have NU := Lib.hid (then1_any q1 q2 q3 q4 0 m a len cap bs w h hs)
  have HN := wi_le (l := 0) (m := m) hs.byte
  have hpos := wi_ok (m := m) (bs := bs)
  have Hp2 := Lib.hid (block_lt_of_cell c2)
  rcases hn : wi 0 m bs with ⟨v, k, e⟩
  rw [hn] at NU HN hpos
  simp only at HN hpos
  by_cases he : e = 0
  · subst he
    obtain ⟨n, rfl⟩ := Int.eq_ofNat_of_zero_le (hpos rfl)
    have hk : k ≤ len := by omega
    have hw : tx m bs = if len - k < n then ([], 0, 13) else ((bs.drop k).take n, k + n, 0) := by unfold tx; rw [hn, hl]; simp
    have Hw := Lib.hid hw
    have c5 := run_cut_from (P := Try.prog) 28 5 Try.underlying28 info_u8 a len cap k hk
    have s5 := hs.from_ hk
    change ∀ w, _ = Result.ok (Value.slice (fromA a cap k) (len - k) (cap - k)) w at c5
    generalize fromA a cap k = a5 at c5 s5
    have S5 := Lib.hid s5
    have W1 := Lib.hid (fun x => raw_any (n : Int) x)
    clear hn hw h hs hpos s5
    go_enter Try.func92, Try.ntmps92
    go_wp2_with fail
    refine NU.out.mono ?_
    rintro e w1 ⟨rfl, hB1⟩
    have d2 : w1.cell? ⟨p2, 0, none⟩ = some (.func (.func 88) #[] #[]) := (hB1.cell (p := ⟨p2, 0, none⟩) Hp2.out).trans c2
    have HB1 := Lib.hid hB1
    clear hB1 c1 c2
    unfold numT
    go_wp2_with fail
    refine wp_region_held_drew (S := fun x => x.cell? ⟨p2, 0, none⟩ = some (.func (.func 88) #[] #[])) (by kernel_rfl) d2 (fun hHeld => ?_)
    refine wpAnyH_take (i := 0) (v := ?_) rfl (by kernel_rfl) (by kernel_rfl) (by kernel_rfl) (fun _ _ _ h => h) (Or.inl ⟨by rfl, ?_⟩) (by assumption) ?_
    rotate_left
    · intro w hSw
      (try dsimp only at hSw)
      go_simp
      all_goals with_reducible rfl
    try simp only [Act.put, List.getElem_toArray, List.getElem_cons_succ, List.getElem_cons_zero, List.setIfInBounds_toArray, List.set_cons_zero, List.set_cons_succ]
    refine wpAnyH_take (i := 1) (v := ?_) rfl (by kernel_rfl) (by kernel_rfl) (by kernel_rfl) (fun _ _ _ h => h) (Or.inl ⟨by rfl, ?_⟩) (by assumption) ?_
    rotate_left
    · intro w hSw
      (try dsimp only at hSw)
      go_simp
      all_goals with_reducible rfl
    try simp only [Act.put, List.getElem_toArray, List.getElem_cons_succ, List.getElem_cons_zero, List.setIfInBounds_toArray, List.set_cons_zero, List.set_cons_succ]
    refine wpAnyH_take (i := 3) (v := ?_) rfl (by kernel_rfl) (by kernel_rfl) (by kernel_rfl) (fun _ _ _ h => h) (Or.inl ⟨by rfl, ?_⟩) (by assumption) ?_
    rotate_left
    · intro w hSw
      (try dsimp only at hSw)
      go_simp
      all_goals with_reducible rfl
    try simp only [Act.put, List.getElem_toArray, List.getElem_cons_succ, List.getElem_cons_zero, List.setIfInBounds_toArray, List.set_cons_zero, List.set_cons_succ]
    refine wpAnyH_take (i := 4) (v := ?_) rfl (by kernel_rfl) (by kernel_rfl) (by kernel_rfl) (fun _ _ _ h => h) (Or.inl ⟨by rfl, ?_⟩) (by assumption) ?_
    rotate_left
    · intro w hSw
      (try dsimp only at hSw)
      go_simp
      all_goals with_reducible rfl
    try simp only [Act.put, List.getElem_toArray, List.getElem_cons_succ, List.getElem_cons_zero, List.setIfInBounds_toArray, List.set_cons_zero, List.set_cons_succ]
    refine wpAnyH_take (i := 5) (v := ?_) rfl (by kernel_rfl) (by kernel_rfl) (by kernel_rfl) (fun _ _ _ h => h) (Or.inl ⟨by rfl, ?_⟩) (by assumption) ?_
    rotate_left
    · intro w hSw
      (try dsimp only at hSw)
      go_simp
      all_goals with_reducible rfl
    try simp only [Act.put, List.getElem_toArray, List.getElem_cons_succ, List.getElem_cons_zero, List.setIfInBounds_toArray, List.set_cons_zero, List.set_cons_succ]
    refine wpAnyH_ready (rs := [2]) (by kernel_rfl) (by simp) ?_
    refine AllReadyH.cons rfl (fun K hK => ?_) AllReadyH.nil
    rw [if_pos (by rfl)]
    go_simp
    go_at_call 88
    refine (W1.out _).mono ?_
    rintro e w2 ⟨rfl, rfl⟩
    have hB2 : Below w1.heap.size w1 (w1.drew.alloc (.cells #[.int .i64 (n : Int)] 2)) := (Below.drew (Below.refl _ _)).alloc (Nat.le_refl _) _
    have d3 := (hB2.cell (p := ⟨p2, 0, none⟩) (block_lt_of_cell d2)).trans d2
    have kn : (w1.drew.alloc (.cells #[.int .i64 (n : Int)] 2)).cell? ⟨w1.drew.heap.size, 0, none⟩ = some (.int .i64 (n : Int)) := cell_of_one (heap_alloc_new _ _)
    have RW := raw1_any w1.drew.heap.size n a5 (len - k) (cap - k) (bs.drop k) _ kn ((S5.out.below (HB1.out.trans (hB2.mono HB1.out.size)) (Nat.le_refl _)).more (HB1.out.trans (hB2.mono HB1.out.size)).size) (by omega)
    have HB2 := Lib.hid (HB1.out.trans (hB2.mono HB1.out.size))
    have HD := Lib.hid d3
    clear kn hB2
    refine hK.out _ _ ?_ (fun hHeld => ?_)
    · exact HD.out
    clear hK K
    try simp only [Act.put, List.getElem_toArray, List.getElem_cons_succ, List.getElem_cons_zero, List.setIfInBounds_toArray, List.set_cons_zero, List.set_cons_succ]
    refine wpAnyH_ready (rs := [6]) (by kernel_rfl) (by simp) ?_
    refine AllReadyH.cons rfl (fun K hK => ?_) AllReadyH.nil
    rw [if_pos (by rfl)]
    go_simp
    go_at_call 93
    refine RW.mono ?_
    rintro e w3 hT
    have h3 := Lib.hid hT
    clear hT RW
    have hkw : IntKind.i64.wrap (k : Int) = (k : Int) := by rw [IntKind.wrap_i64]; omega
    by_cases hsh : len - k < n
    · rw [if_pos hsh] at h3 Hw
      obtain ⟨a3, cc, rfl, q1', q2', q3'⟩ := h3.out
      have d4 := (q2'.cell (p := ⟨p2, 0, none⟩) (block_lt_of_cell HD.out)).trans HD.out
      refine hK.out _ _ ?_ (fun hHeld => ?_)
      · exact d4
      clear hK K
      try simp only [Act.put, List.getElem_toArray, List.getElem_cons_succ, List.getElem_cons_zero, List.setIfInBounds_toArray, List.set_cons_zero, List.set_cons_succ]
      refine wpAnyH_take (i := 7) (v := ?_) rfl (by kernel_rfl) (by kernel_rfl) (by kernel_rfl) (fun _ _ _ h => h) (Or.inl ⟨by rfl, ?_⟩) (by assumption) ?_
      rotate_left
      · intro w hSw
        (try dsimp only at hSw)
        go_simp
        all_goals with_reducible rfl
      try simp only [Act.put, List.getElem_toArray, List.getElem_cons_succ, List.getElem_cons_zero, List.setIfInBounds_toArray, List.set_cons_zero, List.set_cons_succ]
      refine wpAnyH_take (i := 8) (v := ?_) rfl (by kernel_rfl) (by kernel_rfl) (by kernel_rfl) (fun _ _ _ h => h) (Or.inl ⟨by rfl, ?_⟩) (by assumption) ?_
      rotate_left
      · intro w hSw
        (try dsimp only at hSw)
        go_simp
        all_goals with_reducible rfl
      try simp only [Act.put, List.getElem_toArray, List.getElem_cons_succ, List.getElem_cons_zero, List.setIfInBounds_toArray, List.set_cons_zero, List.set_cons_succ]
      refine wpAnyH_take (i := 9) (v := ?_) rfl (by kernel_rfl) (by kernel_rfl) (by kernel_rfl) (fun _ _ _ h => h) (Or.inl ⟨by rfl, ?_⟩) (by assumption) ?_
      rotate_left
      · intro w hSw
        (try dsimp only at hSw)
        go_simp
        all_goals with_reducible rfl
      try simp only [Act.put, List.getElem_toArray, List.getElem_cons_succ, List.getElem_cons_zero, List.setIfInBounds_toArray, List.set_cons_zero, List.set_cons_succ]
      refine wpAnyH_take (i := 10) (v := ?_) rfl (by kernel_rfl) (by kernel_rfl) (by kernel_rfl) (fun _ _ _ h => h) (Or.inl ⟨by rfl, ?_⟩) (by assumption) ?_
      rotate_left
      · intro w hSw
        (try dsimp only at hSw)
        go_simp
        all_goals with_reducible rfl
      try simp only [Act.put, List.getElem_toArray, List.getElem_cons_succ, List.getElem_cons_zero, List.setIfInBounds_toArray, List.set_cons_zero, List.set_cons_succ]
      refine wpAnyH_take (i := 11) (v := ?_) rfl (by kernel_rfl) (by kernel_rfl) (by kernel_rfl) (fun _ _ _ h => h) (Or.inl ⟨by rfl, ?_⟩) (by assumption) ?_
      rotate_left
      · intro w hSw
        (try dsimp only at hSw)
        go_simp
        all_goals with_reducible rfl
      try simp only [Act.put, List.getElem_toArray, List.getElem_cons_succ, List.getElem_cons_zero, List.setIfInBounds_toArray, List.set_cons_zero, List.set_cons_succ]
      refine wpAnyH_take (i := 12) (v := ?_) rfl (by kernel_rfl) (by kernel_rfl) (by kernel_rfl) (fun _ _ _ h => h) (Or.inl ⟨by rfl, ?_⟩) (by assumption) ?_
      rotate_left
      · intro w hSw
        (try dsimp only at hSw)
        go_simp
        all_goals with_reducible rfl
      try simp only [Act.put, List.getElem_toArray, List.getElem_cons_succ, List.getElem_cons_zero, List.setIfInBounds_toArray, List.set_cons_zero, List.set_cons_succ]
      refine wpAnyH_take (i := 13) (v := ?_) rfl (by kernel_rfl) (by kernel_rfl) (by kernel_rfl) (fun _ _ _ h => h) (Or.inl ⟨by rfl, ?_⟩) (by assumption) ?_
      rotate_left
      · intro w hSw
        (try dsimp only at hSw)
        go_simp
        all_goals with_reducible rfl
      try simp only [Act.put, List.getElem_toArray, List.getElem_cons_succ, List.getElem_cons_zero, List.setIfInBounds_toArray, List.set_cons_zero, List.set_cons_succ]
      refine wpAnyH_done (by kernel_rfl) ?_ _
      have HF := Lib.hid (HB2.out.trans (q2'.mono HB2.out.size))
      clear hHeld d4 d3 q1' q2' q3'
      go_wp2
      go_ret3
      rw [Hw.out]
      exact TxtT.nil_ 13 rfl HF.out
    · rw [if_neg hsh] at h3 Hw
      generalize (bs.drop k).take n = X at h3 Hw
      obtain ⟨a3, cc, rfl, q1', q2', q3'⟩ := h3.out
      have d4 := (q2'.cell (p := ⟨p2, 0, none⟩) (block_lt_of_cell HD.out)).trans HD.out
      simp only
      refine hK.out _ _ ?_ (fun hHeld => ?_)
      · exact d4
      clear hK K
      try simp only [Act.put, List.getElem_toArray, List.getElem_cons_succ, List.getElem_cons_zero, List.setIfInBounds_toArray, List.set_cons_zero, List.set_cons_succ]
      refine wpAnyH_take (i := 7) (v := ?_) rfl (by kernel_rfl) (by kernel_rfl) (by kernel_rfl) (fun _ _ _ h => h) (Or.inl ⟨by rfl, ?_⟩) (by assumption) ?_
      rotate_left
      · intro w hSw
        (try dsimp only at hSw)
        go_simp
        all_goals with_reducible rfl
      try simp only [Act.put, List.getElem_toArray, List.getElem_cons_succ, List.getElem_cons_zero, List.setIfInBounds_toArray, List.set_cons_zero, List.set_cons_succ]
      refine wpAnyH_take (i := 8) (v := ?_) rfl (by kernel_rfl) (by kernel_rfl) (by kernel_rfl) (fun _ _ _ h => h) (Or.inl ⟨by rfl, ?_⟩) (by assumption) ?_
      rotate_left
      · intro w hSw
        (try dsimp only at hSw)
        go_simp
        all_goals with_reducible rfl
      try simp only [Act.put, List.getElem_toArray, List.getElem_cons_succ, List.getElem_cons_zero, List.setIfInBounds_toArray, List.set_cons_zero, List.set_cons_succ]
      refine wpAnyH_take (i := 9) (v := ?_) rfl (by kernel_rfl) (by kernel_rfl) (by kernel_rfl) (fun _ _ _ h => h) (Or.inl ⟨by rfl, ?_⟩) (by assumption) ?_
      rotate_left
      · intro w hSw
        (try dsimp only at hSw)
        go_simp
        all_goals with_reducible rfl
      try simp only [Act.put, List.getElem_toArray, List.getElem_cons_succ, List.getElem_cons_zero, List.setIfInBounds_toArray, List.set_cons_zero, List.set_cons_succ]
      refine wpAnyH_take (i := 10) (v := ?_) rfl (by kernel_rfl) (by kernel_rfl) (by kernel_rfl) (fun _ _ _ h => h) (Or.inl ⟨by rfl, ?_⟩) (by assumption) ?_
      rotate_left
      · intro w hSw
        (try dsimp only at hSw)
        go_simp
        all_goals with_reducible rfl
      try simp only [Act.put, List.getElem_toArray, List.getElem_cons_succ, List.getElem_cons_zero, List.setIfInBounds_toArray, List.set_cons_zero, List.set_cons_succ]
      refine wpAnyH_take (i := 11) (v := ?_) rfl (by kernel_rfl) (by kernel_rfl) (by kernel_rfl) (fun _ _ _ h => h) (Or.inl ⟨by rfl, ?_⟩) (by assumption) ?_
      rotate_left
      · intro w hSw
        (try dsimp only at hSw)
        go_simp
        all_goals with_reducible rfl
      try simp only [Act.put, List.getElem_toArray, List.getElem_cons_succ, List.getElem_cons_zero, List.setIfInBounds_toArray, List.set_cons_zero, List.set_cons_succ]
      refine wpAnyH_take (i := 12) (v := ?_) rfl (by kernel_rfl) (by kernel_rfl) (by kernel_rfl) (fun _ _ _ h => h) (Or.inl ⟨by rfl, ?_⟩) (by assumption) ?_
      rotate_left
      · intro w hSw
        (try dsimp only at hSw)
        go_simp
        all_goals with_reducible rfl
      try simp only [Act.put, List.getElem_toArray, List.getElem_cons_succ, List.getElem_cons_zero, List.setIfInBounds_toArray, List.set_cons_zero, List.set_cons_succ]
      refine wpAnyH_take (i := 13) (v := ?_) rfl (by kernel_rfl) (by kernel_rfl) (by kernel_rfl) (fun _ _ _ h => h) (Or.inl ⟨by rfl, ?_⟩) (by assumption) ?_
      rotate_left
      · intro w hSw
        (try dsimp only at hSw)
        go_simp
        all_goals with_reducible rfl
      try simp only [Act.put, List.getElem_toArray, List.getElem_cons_succ, List.getElem_cons_zero, List.setIfInBounds_toArray, List.set_cons_zero, List.set_cons_succ]
      refine wpAnyH_done (by kernel_rfl) ?_ _
      have HF := Lib.hid (And.intro q1' (And.intro (HB2.out.trans (q2'.mono HB2.out.size)) (fun b o hb => Nat.le_trans HB2.out.size (q3' b o hb))))
      have hkw2 : IntKind.i64.wrap ((k : Int) + (n : Int)) = ((k + n : Nat) : Int) := by rw [IntKind.wrap_i64]; omega
      clear hHeld d4 d3 q1' q2' q3'
      go_wp2
      go_ret3
      rw [Hw.out]
      exact ⟨a3, cc, ret_tup3 rfl (by go_num) rfl, HF.out.1, HF.out.2.1, HF.out.2.2⟩
  · have hw : tx m bs = ([], 0, e) := by unfold tx; rw [hn]; exact if_pos he
    rw [hw]
    have he' : ¬ (e : Int) = 0 := by omega
    clear hn hw h
    go_enter Try.func92, Try.ntmps92
    go_wp2_with fail
    refine NU.out.mono ?_
    rintro e w1 ⟨rfl, hB1⟩
    have HB1 := Lib.hid hB1
    clear hB1
    unfold numT
    go_wp2
    go_ret3
    exact TxtT.nil_ _ rfl HB1.out
end Go.Proofs.Ytnpakjdgcmbcnaa
