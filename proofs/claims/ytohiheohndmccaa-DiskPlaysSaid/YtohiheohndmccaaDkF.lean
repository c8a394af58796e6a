/- Contracts of the program's disk: callOn. -/
import Derived.Test.YtohiheohndmccaaDkE
namespace Go.Proofs.Ytohiheohndmccaa
open Go.RowKit
open Go.Maps
attribute [local go_sem] Oper.semAt_some

section
variable {w : World} {dp mb room : Nat} {C : DataW Fe} {D : FS} {fuse fails : Int} {O : Nat → Prop}
/-- What a region holds on to that looks a name up. -/
def Sees (dp mb : Nat) (C : DataW Fe) (s : ByteArray) (bd bn : Nat) (x : World) : Prop :=
  x.cell? ⟨dp, 0, none⟩ = some (.map (some mb)) ∧ x.cell? ⟨bd, 0, none⟩ = some (.pointer (some ⟨dp, 0, none⟩)) ∧ x.cell? ⟨bn, 0, none⟩ = some (.string s) ∧
    (Instr.lookup 49 (.map (some mb)) (.string s) true).run Try.prog x = .ok (.tuple #[.agg #[.slice (cat C (.string s.data.toList)).a (cat C (.string s.data.toList)).n (cat C (.string s.data.toList)).c, .int .i64 (cat C (.string s.data.toList)).l], .bool (has C (.string s.data.toList))]) x ∧
    (Instr.lookup 49 (.map (some mb)) (.string s) false).run Try.prog x = .ok (.agg #[.slice (cat C (.string s.data.toList)).a (cat C (.string s.data.toList)).n (cat C (.string s.data.toList)).c, .int .i64 (cat C (.string s.data.toList)).l]) x
theorem DskC.sees (h : DskC w dp mb C D room fuse fails O) {s : ByteArray} (hs : s.size ≤ maxLen) {bd bn : Nat} (c1 : w.cell? ⟨bd, 0, none⟩ = some (.pointer (some ⟨dp, 0, none⟩))) (c2 : w.cell? ⟨bn, 0, none⟩ = some (.string s)) {w' : World} (hb : Below w.heap.size w w') : Sees dp mb C s bd bn w' :=
  ⟨(hb.cell (p := ⟨dp, 0, none⟩) (h.lt dp h.dpO)).trans h.cell.1, (hb.cell (p := ⟨bd, 0, none⟩) (block_lt_of_cell c1)).trans c1, (hb.cell (p := ⟨bn, 0, none⟩) (block_lt_of_cell c2)).trans c2,
    (h.files.run_look hs w' (hb.block mb (h.lt mb h.files.inO))).2, (h.files.run_look hs w' (hb.block mb (h.lt mb h.files.inO))).1⟩

set_option linter.unusedSimpArgs false in
set_option maxRecDepth 100000 in
set_option maxHeartbeats 1600000 in
theorem callOn1_any (h : DskC w dp mb C D room fuse fails O) (s : ByteArray) (hs : s.size ≤ maxLen) (bd bn bf : Nat) (c1 : w.cell? ⟨bd, 0, none⟩ = some (.pointer (some ⟨dp, 0, none⟩))) (c2 : w.cell? ⟨bn, 0, none⟩ = some (.string s))
    (k : FuncId) (p q : Option Addr) (c3 : w.cell? ⟨bf, 0, none⟩ = some (.func (.func k) #[] #[.pointer p, .pointer q])) (hc : ∀ v x, (callFunc k #[v, .pointer p, .pointer q]).run Try.prog x = .ok (.enter k #[v, .pointer p, .pointer q]) x)
    (R : Int → World → Prop) (h0 : fat D s.data.toList = none → ∀ w', Below w.heap.size w w' → R 3 w')
    (h1 : ∀ f, fat D s.data.toList = some f → ∀ w', Below w.heap.size w w' → Calls Try.prog k #[(cat C (.string s.data.toList)).val, .pointer p, .pointer q] w' (Tells1 R)) :
    Calls Try.prog 54 #[.pointer (some ⟨bd, 0, none⟩), .pointer (some ⟨bn, 0, none⟩), .pointer (some ⟨bf, 0, none⟩)] w (Tells1 R) := by
  have SS := Lib.hid (fun (w' : World) (hb : Below w.heap.size w w') => h.sees hs c1 c2 hb)
  have S0 := SS.out w.drew (Below.drew (Below.refl _ _))
  have hhas := h.files.has_ (.string s.data.toList)
  rw [h.good.has_] at hhas
  cases hf : fat D s.data.toList with
  | none =>
    rw [hf] at hhas
    have H0 := Lib.hid (h0 hf)
    have hl3 := block_lt_of_cell c3
    unfold Sees at S0 SS
    rw [show has C (.string s.data.toList) = false from hhas] at S0 SS
    generalize cat C (.string s.data.toList) = cf at *
    clear h0 h1 hf hhas h c1 c2 hs
    have HB : Below w.heap.size w (w.alloc (.cells #[.slice cf.a cf.n cf.c, .int .i64 cf.l] 56)).drew := Below.drew ((Below.refl _ _).alloc (Nat.le_refl _) _)
    go_enter Try.func54, Try.ntmps54
    go_wp2_with fail
    refine wp_region_held_drew (S := fun x => x.cell? ⟨dp, 0, none⟩ = some (.map (some mb)) ∧ x.cell? ⟨bd, 0, none⟩ = some (.pointer (some ⟨dp, 0, none⟩)) ∧ x.cell? ⟨bn, 0, none⟩ = some (.string s) ∧
      (Instr.lookup 49 (.map (some mb)) (.string s) true).run Try.prog x = .ok (.tuple #[.agg #[.slice cf.a cf.n cf.c, .int .i64 cf.l], .bool false]) x) (by kernel_rfl) ⟨S0.1, S0.2.1, S0.2.2.1, S0.2.2.2.1⟩ (fun hHeld => ?_)
    refine wpAnyH_take (i := 0) (v := ?_) rfl (by kernel_rfl) (by kernel_rfl) (by kernel_rfl) (fun _ _ _ h => h) (Or.inl ⟨by rfl, ?_⟩) (by assumption) ?_
    rotate_left
    · intro w hSw
      (try dsimp only at hSw)
      go_simp
      all_goals with_reducible rfl
    try simp only [Act.put, List.getElem_toArray, List.getElem_cons_succ, List.getElem_cons_zero, List.setIfInBounds_toArray, List.set_cons_zero, List.set_cons_succ]
    refine wpAnyH_take (i := 1) (v := ?_) rfl (by kernel_rfl) (by kernel_rfl) (by kernel_rfl) (fun _ _ _ h => h) (Or.inl ⟨by rfl, ?_⟩) (by assumption) ?_
    rotate_left
    · intro w hSw
      (try dsimp only at hSw)
      go_simp
      all_goals with_reducible rfl
    try simp only [Act.put, List.getElem_toArray, List.getElem_cons_succ, List.getElem_cons_zero, List.setIfInBounds_toArray, List.set_cons_zero, List.set_cons_succ]
    refine wpAnyH_take (i := 2) (v := ?_) rfl (by kernel_rfl) (by kernel_rfl) (by kernel_rfl) (fun _ _ _ h => h) (Or.inl ⟨by rfl, ?_⟩) (by assumption) ?_
    rotate_left
    · intro w hSw
      (try dsimp only at hSw)
      go_simp
      all_goals with_reducible rfl
    try simp only [Act.put, List.getElem_toArray, List.getElem_cons_succ, List.getElem_cons_zero, List.setIfInBounds_toArray, List.set_cons_zero, List.set_cons_succ]
    refine wpAnyH_take (i := 3) (v := ?_) rfl (by kernel_rfl) (by kernel_rfl) (by kernel_rfl) (fun _ _ _ h => h) (Or.inl ⟨by rfl, ?_⟩) (by assumption) ?_
    rotate_left
    · intro w hSw
      (try dsimp only at hSw)
      go_simp
      all_goals with_reducible rfl
    try simp only [Act.put, List.getElem_toArray, List.getElem_cons_succ, List.getElem_cons_zero, List.setIfInBounds_toArray, List.set_cons_zero, List.set_cons_succ]
    refine wpAnyH_take (i := 4) (v := ?_) rfl (by kernel_rfl) (by kernel_rfl) (by kernel_rfl) (fun _ _ _ h => h) (Or.inl ⟨by rfl, ?_⟩) (by assumption) ?_
    rotate_left
    · intro w hSw
      (try dsimp only at hSw)
      go_simp
      all_goals with_reducible rfl
    try simp only [Act.put, List.getElem_toArray, List.getElem_cons_succ, List.getElem_cons_zero, List.setIfInBounds_toArray, List.set_cons_zero, List.set_cons_succ]
    refine wpAnyH_take (i := 5) (v := ?_) rfl (by kernel_rfl) (by kernel_rfl) (by kernel_rfl) (fun _ _ _ h => h) (Or.inl ⟨by rfl, ?_⟩) (by assumption) ?_
    rotate_left
    · intro w hSw
      (try dsimp only at hSw)
      go_simp
      all_goals with_reducible rfl
    try simp only [Act.put, List.getElem_toArray, List.getElem_cons_succ, List.getElem_cons_zero, List.setIfInBounds_toArray, List.set_cons_zero, List.set_cons_succ]
    refine wpAnyH_take (i := 6) (v := ?_) rfl (by kernel_rfl) (by kernel_rfl) (by kernel_rfl) (fun _ _ _ h => h) (Or.inl ⟨by rfl, ?_⟩) (by assumption) ?_
    rotate_left
    · intro w hSw
      (try dsimp only at hSw)
      go_simp
      all_goals with_reducible rfl
    try simp only [Act.put, List.getElem_toArray, List.getElem_cons_succ, List.getElem_cons_zero, List.setIfInBounds_toArray, List.set_cons_zero, List.set_cons_succ]
    refine wpAnyH_take (i := 7) (v := ?_) rfl (by kernel_rfl) (by kernel_rfl) (by kernel_rfl) (fun _ _ _ h => h) (Or.inl ⟨by rfl, ?_⟩) (by assumption) ?_
    rotate_left
    · intro w hSw
      (try dsimp only at hSw)
      go_simp
      all_goals with_reducible rfl
    try simp only [Act.put, List.getElem_toArray, List.getElem_cons_succ, List.getElem_cons_zero, List.setIfInBounds_toArray, List.set_cons_zero, List.set_cons_succ]
    refine wpAnyH_take (i := 8) (v := ?_) rfl (by kernel_rfl) (by kernel_rfl) (by kernel_rfl) (fun _ _ _ h => h) (Or.inl ⟨by rfl, ?_⟩) (by assumption) ?_
    rotate_left
    · intro w hSw
      (try dsimp only at hSw)
      go_simp
      all_goals with_reducible rfl
    try simp only [Act.put, List.getElem_toArray, List.getElem_cons_succ, List.getElem_cons_zero, List.setIfInBounds_toArray, List.set_cons_zero, List.set_cons_succ]
    refine wpAnyH_ready (rs := [9]) (by kernel_rfl) (by simp) ?_
    refine AllReadyH.cons rfl (fun K hK => ?_) AllReadyH.nil
    rw [if_pos (by rfl)]
    go_simp
    have S1 := SS.out _ ((Below.drew (Below.refl w.heap.size w)).alloc (Nat.le_refl _) (.cells #[.slice none 0 0, .int .i64 0] 56))
    refine hK.out _ _ ?_ (fun hHeld => ?_)
    · exact ⟨S1.1, S1.2.1, S1.2.2.1, S1.2.2.2.1⟩
    clear hK K
    try simp only [Act.put, List.getElem_toArray, List.getElem_cons_succ, List.getElem_cons_zero, List.setIfInBounds_toArray, List.set_cons_zero, List.set_cons_succ]
    refine wpAnyH_ready (rs := [10]) (by kernel_rfl) (by simp) ?_
    refine AllReadyH.cons rfl (fun K hK => ?_) AllReadyH.nil
    rw [if_pos (by rfl)]
    go_simp
    have S2 := SS.out _ HB
    refine hK.out _ _ ?_ (fun hHeld => ?_)
    · exact ⟨S2.1, S2.2.1, S2.2.2.1, S2.2.2.2.1⟩
    clear hK K
    try simp only [Act.put, List.getElem_toArray, List.getElem_cons_succ, List.getElem_cons_zero, List.setIfInBounds_toArray, List.set_cons_zero, List.set_cons_succ]
    refine wpAnyH_take (i := 11) (v := ?_) rfl (by kernel_rfl) (by kernel_rfl) (by kernel_rfl) (fun _ _ _ h => h) (Or.inl ⟨by rfl, ?_⟩) (by assumption) ?_
    rotate_left
    · intro w hSw
      (try dsimp only at hSw)
      go_simp
      all_goals with_reducible rfl
    try simp only [Act.put, List.getElem_toArray, List.getElem_cons_succ, List.getElem_cons_zero, List.setIfInBounds_toArray, List.set_cons_zero, List.set_cons_succ]
    refine wpAnyH_done (by kernel_rfl) ?_ _
    clear S0 S1 S2 hHeld
    go_wp2
    go_ret
    exact ⟨3, rfl, H0.out _ HB⟩
  | some f =>
    rw [hf] at hhas
    have H1 := Lib.hid (h1 f hf)
    have hl3 := block_lt_of_cell c3
    unfold Sees at S0 SS
    rw [show has C (.string s.data.toList) = true from hhas] at S0 SS
    generalize cat C (.string s.data.toList) = cf at *
    clear h0 h1 hf hhas h c1 c2 hs
    have HB : Below w.heap.size w (w.alloc (.cells #[.slice cf.a cf.n cf.c, .int .i64 cf.l] 56)).drew := Below.drew ((Below.refl _ _).alloc (Nat.le_refl _) _)
    go_enter Try.func54, Try.ntmps54
    go_wp2_with fail
    refine wp_region_held_drew (S := fun x => x.cell? ⟨dp, 0, none⟩ = some (.map (some mb)) ∧ x.cell? ⟨bd, 0, none⟩ = some (.pointer (some ⟨dp, 0, none⟩)) ∧ x.cell? ⟨bn, 0, none⟩ = some (.string s) ∧
      (Instr.lookup 49 (.map (some mb)) (.string s) true).run Try.prog x = .ok (.tuple #[.agg #[.slice cf.a cf.n cf.c, .int .i64 cf.l], .bool true]) x) (by kernel_rfl) ⟨S0.1, S0.2.1, S0.2.2.1, S0.2.2.2.1⟩ (fun hHeld => ?_)
    refine wpAnyH_take (i := 0) (v := ?_) rfl (by kernel_rfl) (by kernel_rfl) (by kernel_rfl) (fun _ _ _ h => h) (Or.inl ⟨by rfl, ?_⟩) (by assumption) ?_
    rotate_left
    · intro w hSw
      (try dsimp only at hSw)
      go_simp
      all_goals with_reducible rfl
    try simp only [Act.put, List.getElem_toArray, List.getElem_cons_succ, List.getElem_cons_zero, List.setIfInBounds_toArray, List.set_cons_zero, List.set_cons_succ]
    refine wpAnyH_take (i := 1) (v := ?_) rfl (by kernel_rfl) (by kernel_rfl) (by kernel_rfl) (fun _ _ _ h => h) (Or.inl ⟨by rfl, ?_⟩) (by assumption) ?_
    rotate_left
    · intro w hSw
      (try dsimp only at hSw)
      go_simp
      all_goals with_reducible rfl
    try simp only [Act.put, List.getElem_toArray, List.getElem_cons_succ, List.getElem_cons_zero, List.setIfInBounds_toArray, List.set_cons_zero, List.set_cons_succ]
    refine wpAnyH_take (i := 2) (v := ?_) rfl (by kernel_rfl) (by kernel_rfl) (by kernel_rfl) (fun _ _ _ h => h) (Or.inl ⟨by rfl, ?_⟩) (by assumption) ?_
    rotate_left
    · intro w hSw
      (try dsimp only at hSw)
      go_simp
      all_goals with_reducible rfl
    try simp only [Act.put, List.getElem_toArray, List.getElem_cons_succ, List.getElem_cons_zero, List.setIfInBounds_toArray, List.set_cons_zero, List.set_cons_succ]
    refine wpAnyH_take (i := 3) (v := ?_) rfl (by kernel_rfl) (by kernel_rfl) (by kernel_rfl) (fun _ _ _ h => h) (Or.inl ⟨by rfl, ?_⟩) (by assumption) ?_
    rotate_left
    · intro w hSw
      (try dsimp only at hSw)
      go_simp
      all_goals with_reducible rfl
    try simp only [Act.put, List.getElem_toArray, List.getElem_cons_succ, List.getElem_cons_zero, List.setIfInBounds_toArray, List.set_cons_zero, List.set_cons_succ]
    refine wpAnyH_take (i := 4) (v := ?_) rfl (by kernel_rfl) (by kernel_rfl) (by kernel_rfl) (fun _ _ _ h => h) (Or.inl ⟨by rfl, ?_⟩) (by assumption) ?_
    rotate_left
    · intro w hSw
      (try dsimp only at hSw)
      go_simp
      all_goals with_reducible rfl
    try simp only [Act.put, List.getElem_toArray, List.getElem_cons_succ, List.getElem_cons_zero, List.setIfInBounds_toArray, List.set_cons_zero, List.set_cons_succ]
    refine wpAnyH_take (i := 5) (v := ?_) rfl (by kernel_rfl) (by kernel_rfl) (by kernel_rfl) (fun _ _ _ h => h) (Or.inl ⟨by rfl, ?_⟩) (by assumption) ?_
    rotate_left
    · intro w hSw
      (try dsimp only at hSw)
      go_simp
      all_goals with_reducible rfl
    try simp only [Act.put, List.getElem_toArray, List.getElem_cons_succ, List.getElem_cons_zero, List.setIfInBounds_toArray, List.set_cons_zero, List.set_cons_succ]
    refine wpAnyH_take (i := 6) (v := ?_) rfl (by kernel_rfl) (by kernel_rfl) (by kernel_rfl) (fun _ _ _ h => h) (Or.inl ⟨by rfl, ?_⟩) (by assumption) ?_
    rotate_left
    · intro w hSw
      (try dsimp only at hSw)
      go_simp
      all_goals with_reducible rfl
    try simp only [Act.put, List.getElem_toArray, List.getElem_cons_succ, List.getElem_cons_zero, List.setIfInBounds_toArray, List.set_cons_zero, List.set_cons_succ]
    refine wpAnyH_take (i := 7) (v := ?_) rfl (by kernel_rfl) (by kernel_rfl) (by kernel_rfl) (fun _ _ _ h => h) (Or.inl ⟨by rfl, ?_⟩) (by assumption) ?_
    rotate_left
    · intro w hSw
      (try dsimp only at hSw)
      go_simp
      all_goals with_reducible rfl
    try simp only [Act.put, List.getElem_toArray, List.getElem_cons_succ, List.getElem_cons_zero, List.setIfInBounds_toArray, List.set_cons_zero, List.set_cons_succ]
    refine wpAnyH_take (i := 8) (v := ?_) rfl (by kernel_rfl) (by kernel_rfl) (by kernel_rfl) (fun _ _ _ h => h) (Or.inl ⟨by rfl, ?_⟩) (by assumption) ?_
    rotate_left
    · intro w hSw
      (try dsimp only at hSw)
      go_simp
      all_goals with_reducible rfl
    try simp only [Act.put, List.getElem_toArray, List.getElem_cons_succ, List.getElem_cons_zero, List.setIfInBounds_toArray, List.set_cons_zero, List.set_cons_succ]
    refine wpAnyH_ready (rs := [9]) (by kernel_rfl) (by simp) ?_
    refine AllReadyH.cons rfl (fun K hK => ?_) AllReadyH.nil
    rw [if_pos (by rfl)]
    go_simp
    have S1 := SS.out _ ((Below.drew (Below.refl w.heap.size w)).alloc (Nat.le_refl _) (.cells #[.slice none 0 0, .int .i64 0] 56))
    refine hK.out _ _ ?_ (fun hHeld => ?_)
    · exact ⟨S1.1, S1.2.1, S1.2.2.1, S1.2.2.2.1⟩
    clear hK K
    try simp only [Act.put, List.getElem_toArray, List.getElem_cons_succ, List.getElem_cons_zero, List.setIfInBounds_toArray, List.set_cons_zero, List.set_cons_succ]
    refine wpAnyH_ready (rs := [10]) (by kernel_rfl) (by simp) ?_
    refine AllReadyH.cons rfl (fun K hK => ?_) AllReadyH.nil
    rw [if_pos (by rfl)]
    go_simp
    have S2 := SS.out _ HB
    refine hK.out _ _ ?_ (fun hHeld => ?_)
    · exact ⟨S2.1, S2.2.1, S2.2.2.1, S2.2.2.2.1⟩
    clear hK K
    try simp only [Act.put, List.getElem_toArray, List.getElem_cons_succ, List.getElem_cons_zero, List.setIfInBounds_toArray, List.set_cons_zero, List.set_cons_succ]
    refine wpAnyH_take (i := 11) (v := ?_) rfl (by kernel_rfl) (by kernel_rfl) (by kernel_rfl) (fun _ _ _ h => h) (Or.inl ⟨by rfl, ?_⟩) (by assumption) ?_
    rotate_left
    · intro w hSw
      (try dsimp only at hSw)
      go_simp
      all_goals with_reducible rfl
    try simp only [Act.put, List.getElem_toArray, List.getElem_cons_succ, List.getElem_cons_zero, List.setIfInBounds_toArray, List.set_cons_zero, List.set_cons_succ]
    refine wpAnyH_done (by kernel_rfl) ?_ _
    clear S0 S1 S2 hHeld
    have d3 : (w.alloc (.cells #[.slice cf.a cf.n cf.c, .int .i64 cf.l] 56)).drew.cell? ⟨bf, 0, none⟩ = some (.func (.func k) #[] #[.pointer p, .pointer q]) := (World.cell?_alloc_past _ _ _ hl3).trans c3
    have K1 := Lib.hid (H1.out _ HB)
    clear H1 c3
    go_wp2_with fail
    refine K1.out.mono ?_
    rintro e w' ⟨x, rfl, hR⟩
    have HR := Lib.hid hR
    clear hR K1 d3
    go_wp2
    go_ret
    exact ⟨x, rfl, HR.out⟩
theorem callOn_dead (h : DskC w dp mb C D room 0 fails O) (s : ByteArray) (k : FuncId) (p q : Option Addr) : Calls Try.prog 41 #[.pointer (some ⟨dp, 0, none⟩), .string s, .func (.func k) #[] #[.pointer p, .pointer q]] w fun e w' => e = .returned (.int .i64 42) ∧ Below w.heap.size w w' := by
  have hb1 : Below w.heap.size w (w.alloc (.cells #[.pointer (some ⟨dp, 0, none⟩)] 24)) := (Below.refl _ _).alloc (Nat.le_refl _) _
  have hb3 : Below w.heap.size w (((w.alloc (.cells #[.pointer (some ⟨dp, 0, none⟩)] 24)).alloc (.cells #[.string s] 9)).alloc (.cells #[.func (.func k) #[] #[.pointer p, .pointer q]] 68)) := (hb1.alloc (by simp) _).alloc (by simp; omega) _
  have CD := Lib.hid (fun v => call_dead (h.below hb3) v)
  clear h
  go_enter Try.func41, Try.ntmps41
  go_wp2_with fail
  refine (CD.out _).mono ?_
  rintro e w' ⟨rfl, rfl⟩
  go_wp2
  go_ret
  exact ⟨rfl, hb3⟩
set_option maxRecDepth 100000 in
theorem callOn_any (h : DskC w dp mb C D room fuse fails O) (hf : fuse ≠ 0) (s : ByteArray) (hs : s.size ≤ maxLen)
    (k : FuncId) (p q : Option Addr) (hc : ∀ v x, (callFunc k #[v, .pointer p, .pointer q]).run Try.prog x = .ok (.enter k #[v, .pointer p, .pointer q]) x)
    (R : Int → World → Prop) (h0 : fat D s.data.toList = none → ∀ w', DskC w' dp mb C D room (burn fuse) fails O → But O w w' → R 3 w')
    (h1 : ∀ f, fat D s.data.toList = some f → ∀ w', DskC w' dp mb C D room (burn fuse) fails O → But O w w' → Calls Try.prog k #[(cat C (.string s.data.toList)).val, .pointer p, .pointer q] w' (Tells1 R)) :
    Calls Try.prog 41 #[.pointer (some ⟨dp, 0, none⟩), .string s, .func (.func k) #[] #[.pointer p, .pointer q]] w (Tells1 R) := by
  have hb1 : Below w.heap.size w (w.alloc (.cells #[.pointer (some ⟨dp, 0, none⟩)] 24)) := (Below.refl _ _).alloc (Nat.le_refl _) _
  have hb3 : Below w.heap.size w (((w.alloc (.cells #[.pointer (some ⟨dp, 0, none⟩)] 24)).alloc (.cells #[.string s] 9)).alloc (.cells #[.func (.func k) #[] #[.pointer p, .pointer q]] 68)) := (hb1.alloc (by simp) _).alloc (by simp; omega) _
  have CD : Calls Try.prog 36 #[.pointer (some ⟨dp, 0, none⟩), .func (.func 54) #[] #[.pointer (some ⟨w.heap.size, 0, none⟩), .pointer (some ⟨w.heap.size + 1, 0, none⟩), .pointer (some ⟨w.heap.size + 1 + 1, 0, none⟩)]]
      (((w.alloc (.cells #[.pointer (some ⟨dp, 0, none⟩)] 24)).alloc (.cells #[.string s] 9)).alloc (.cells #[.func (.func k) #[] #[.pointer p, .pointer q]] 68)) (Tells1 R) := by
    refine call_do (h.below hb3) hf _ _ (fun x => by kernel_rfl) R (fun w1 d1 bt => ?_)
    have hB : But O w w1 := (But.of_below (O := O) hb3).trans bt (fun i hi => .inl hi)
    have hO := h.lt
    refine callOn1_any d1 s hs _ _ _ ?_ ?_ k p q ?_ hc R (fun e w' hb => h0 e w' (d1.below hb) (hB.trans (But.of_below (O := O) hb) (fun i hi => .inl hi)))
      (fun f e w' hb => h1 f e w' (d1.below hb) (hB.trans (But.of_below (O := O) hb) (fun i hi => .inl hi)))
    · exact (bt.cell (by simp <;> omega) (fun ho => by have := hO _ ho; omega)).trans ((World.cell?_alloc_past _ _ _ (by simp <;> omega)).trans ((World.cell?_alloc_past _ _ _ (by simp)).trans (cell_of_row _ _ 0 _ _ _ (heap_alloc_new w _))))
    · have := cell_of_row _ _ 0 _ _ _ (heap_alloc_new (w.alloc (.cells #[.pointer (some ⟨dp, 0, none⟩)] 24)) (.cells #[.string s] 9))
      simp only [World.size_alloc] at this
      exact (bt.cell (by simp <;> omega) (fun ho => by have := hO _ ho; omega)).trans ((World.cell?_alloc_past _ _ _ (by simp)).trans this)
    · have := cell_of_row _ _ 0 _ _ _ (heap_alloc_new ((w.alloc (.cells #[.pointer (some ⟨dp, 0, none⟩)] 24)).alloc (.cells #[.string s] 9)) (.cells #[.func (.func k) #[] #[.pointer p, .pointer q]] 68))
      simp only [World.size_alloc] at this
      exact (bt.cell (by simp) (fun ho => by have := hO _ ho; omega)).trans this
  have HC := Lib.hid CD
  clear CD h hf h0 h1 hb1 hb3
  go_enter Try.func41, Try.ntmps41
  go_wp2_with fail
  refine HC.out.mono ?_
  rintro e w' ⟨x, rfl, hR⟩
  have HR := Lib.hid hR
  clear hR HC
  go_wp2
  go_ret
  exact ⟨x, rfl, HR.out⟩
end
end Go.Proofs.Ytohiheohndmccaa
