/- Names, held against one another. -/
import Derived.Test.YtohiheohndmccaaGreatDkQ
namespace Go.Proofs.YtohiheohndmccaaGreat
open Go.RowKit Go.Sort
open Go.Maps
attribute [local go_sem] Oper.semAt_some

abbrev strC (l : List (List UInt8)) (j : Nat) : Value := Go.Proofs.encStr (l.getD j [])
theorem NewNames.out {w w' : World} {l : List (List UInt8)} {e : Ending} (h : NewNames w l e w') : ∃ g c, e = .returned (.slice (some ⟨g, 0, none⟩) l.length c) ∧ Row w' w'.heap.size (some ⟨g, 0, none⟩) l.length c 1 (strC l) ∧ w.heap.size ≤ g ∧ Below w.heap.size w w' := by
  obtain ⟨g, c, he, ho, hb⟩ := h
  have hg : w.heap.size ≤ g ∧ g < w'.heap.size ∧ l.length ≤ c ∧ c ≤ maxLen := by
    rcases ho.2 with ⟨h', _⟩ | ⟨g', cap', cur, h', h1, h2, h3, h4, _⟩
    · cases h'
    · injection h' with h' h5 h6
      injection h' with h'
      injection h' with h'
      subst h' h6
      exact ⟨h1, lt_of_heap h2, h3, h4⟩
  refine ⟨g, c, he, ⟨hg.2.2.1, hg.2.2.2, fun _ => ⟨g, 0, rfl, hg.2.1, fun j hj => ?_⟩⟩, hg.1, hb⟩
  rw [Nat.zero_add, ho.cellAt j (by omega), List.getElem?_map, List.getElem?_eq_getElem (by omega)]
  simp only [strC, List.getD_eq_getElem?_getD, List.getElem?_eq_getElem (show j < l.length by omega)]
  rfl
set_option linter.unusedSimpArgs false in
set_option maxRecDepth 100000 in
set_option maxHeartbeats 1600000 in
/-- The same names. -/
theorem sameStr_any (l : List (List UInt8)) (a1 a2 : Option Addr) (c1 c2 : Nat) (w : World) (h1 : Row w w.heap.size a1 l.length c1 1 (strC l)) (h2 : Row w w.heap.size a2 l.length c2 1 (strC l)) :
    Calls Tryz.prog 15 #[.slice a1 l.length c1, .slice a2 l.length c2] w fun e w' => e = .returned (.bool true) ∧ Below w.heap.size w w' := by
  have m1 := h1.le
  have m2 := h1.max
  unfold maxLen at m2
  have HH := Lib.hid (And.intro h1 h2)
  clear h1 h2
  generalize hn : l.length = n at *
  have Hn := Lib.hid hn
  clear hn
  go_enter Tryz.func15, Tryz.ntmps15
  go_wp2_with fail
  go_loopw [5] (fun i wr => ∃ k : Nat, k ≤ n ∧ i = .int .i64 (k : Int) ∧ Below w.heap.size w wr) (fun i _ => n - (intOf i).toNat)
  case atStart => exact ⟨0, Nat.zero_le _, rfl, Below.refl _ _⟩
  case round =>
    obtain ⟨k, hk, rfl, hnx⟩ := hrel
    by_cases hlt : k < n
    · obtain ⟨b1, o1, rfl, hb1, hc1⟩ := HH.out.1.at_ (by omega)
      obtain ⟨b2, o2, rfl, hb2, hc2⟩ := HH.out.2.at_ (by omega)
      have e1 := (hnx.cell (p := ⟨b1, o1 + k, none⟩) hb1).trans (hc1 k (by omega))
      have e2 := (hnx.cell (p := ⟨b2, o2 + k, none⟩) hb2).trans (hc2 k (by omega))
      simp only [strC] at e1 e2
      generalize l.getD k [] = s at *
      have HX := Lib.hid hnx
      clear hnx hc1 hc2
      go_wp2_with fail
      refine wp_region_held_drew (S := fun x => x.cell? ⟨b1, o1 + k, none⟩ = some (.string ⟨s.toArray⟩) ∧ x.cell? ⟨b2, o2 + k, none⟩ = some (.string ⟨s.toArray⟩)) (by kernel_rfl) ⟨e1, e2⟩ (fun hHeld => ?_)
      refine wpAnyH_take (i := 0) (v := ?_) rfl (by kernel_rfl) (by kernel_rfl) (by kernel_rfl) (fun _ _ _ h => h) (Or.inl ⟨by rfl, ?_⟩) (by assumption) ?_
      rotate_left
      · intro w hSw
        (try dsimp only at hSw)
        go_simp
        all_goals with_reducible rfl
      try simp only [Act.put, List.getElem_toArray, List.getElem_cons_succ, List.getElem_cons_zero, List.setIfInBounds_toArray, List.set_cons_zero, List.set_cons_succ]
      refine wpAnyH_take (i := 1) (v := ?_) rfl (by kernel_rfl) (by kernel_rfl) (by kernel_rfl) (fun _ _ _ h => h) (Or.inl ⟨by rfl, ?_⟩) (by assumption) ?_
      rotate_left
      · intro w hSw
        (try dsimp only at hSw)
        go_simp
        all_goals with_reducible rfl
      try simp only [Act.put, List.getElem_toArray, List.getElem_cons_succ, List.getElem_cons_zero, List.setIfInBounds_toArray, List.set_cons_zero, List.set_cons_succ]
      refine wpAnyH_take (i := 2) (v := ?_) rfl (by kernel_rfl) (by kernel_rfl) (by kernel_rfl) (fun _ _ _ h => h) (Or.inl ⟨by rfl, ?_⟩) (by assumption) ?_
      rotate_left
      · intro w hSw
        (try dsimp only at hSw)
        go_simp
        all_goals with_reducible rfl
      try simp only [Act.put, List.getElem_toArray, List.getElem_cons_succ, List.getElem_cons_zero, List.setIfInBounds_toArray, List.set_cons_zero, List.set_cons_succ]
      refine wpAnyH_take (i := 3) (v := ?_) rfl (by kernel_rfl) (by kernel_rfl) (by kernel_rfl) (fun _ _ _ h => h) (Or.inl ⟨by rfl, ?_⟩) (by assumption) ?_
      rotate_left
      · intro w hSw
        (try dsimp only at hSw)
        go_simp
        all_goals with_reducible rfl
      try simp only [Act.put, List.getElem_toArray, List.getElem_cons_succ, List.getElem_cons_zero, List.setIfInBounds_toArray, List.set_cons_zero, List.set_cons_succ]
      refine wpAnyH_take (i := 4) (v := ?_) rfl (by kernel_rfl) (by kernel_rfl) (by kernel_rfl) (fun _ _ _ h => h) (Or.inl ⟨by rfl, ?_⟩) (by assumption) ?_
      rotate_left
      · intro w hSw
        (try dsimp only at hSw)
        go_simp
        all_goals with_reducible rfl
      try simp only [Act.put, List.getElem_toArray, List.getElem_cons_succ, List.getElem_cons_zero, List.setIfInBounds_toArray, List.set_cons_zero, List.set_cons_succ]
      refine wpAnyH_take (i := 5) (v := ?_) rfl (by kernel_rfl) (by kernel_rfl) (by kernel_rfl) (fun _ _ _ h => h) (Or.inl ⟨by rfl, ?_⟩) (by assumption) ?_
      rotate_left
      · intro w hSw
        (try dsimp only at hSw)
        go_simp
        all_goals with_reducible rfl
      try simp only [Act.put, List.getElem_toArray, List.getElem_cons_succ, List.getElem_cons_zero, List.setIfInBounds_toArray, List.set_cons_zero, List.set_cons_succ]
      refine wpAnyH_take (i := 6) (v := ?_) rfl (by kernel_rfl) (by kernel_rfl) (by kernel_rfl) (fun _ _ _ h => h) (Or.inl ⟨by rfl, ?_⟩) (by assumption) ?_
      rotate_left
      · intro w hSw
        (try dsimp only at hSw)
        go_simp
        all_goals with_reducible rfl
      try simp only [Act.put, List.getElem_toArray, List.getElem_cons_succ, List.getElem_cons_zero, List.setIfInBounds_toArray, List.set_cons_zero, List.set_cons_succ]
      refine wpAnyH_take (i := 7) (v := ?_) rfl (by kernel_rfl) (by kernel_rfl) (by kernel_rfl) (fun _ _ _ h => h) (Or.inl ⟨by rfl, ?_⟩) (by assumption) ?_
      rotate_left
      · intro w hSw
        (try dsimp only at hSw)
        go_simp
        all_goals with_reducible rfl
      try simp only [Act.put, List.getElem_toArray, List.getElem_cons_succ, List.getElem_cons_zero, List.setIfInBounds_toArray, List.set_cons_zero, List.set_cons_succ]
      refine wpAnyH_take (i := 8) (v := ?_) rfl (by kernel_rfl) (by kernel_rfl) (by kernel_rfl) (fun _ _ _ h => h) (Or.inl ⟨by rfl, ?_⟩) (by assumption) ?_
      rotate_left
      · intro w hSw
        (try dsimp only at hSw)
        go_simp
        all_goals with_reducible rfl
      try simp only [Act.put, List.getElem_toArray, List.getElem_cons_succ, List.getElem_cons_zero, List.setIfInBounds_toArray, List.set_cons_zero, List.set_cons_succ]
      refine wpAnyH_done (by kernel_rfl) ?_ _
      clear hHeld
      go_wp2
      go_roundw
      case rel => exact ⟨k + 1, by omega, by go_num, Below.drew HX.out⟩
      case measure => simp [intOf]; omega
    · have HX := Lib.hid hnx
      clear hnx
      go_wp2
      go_ret
      exact ⟨rfl, HX.out⟩

theorem do_room (t : St) (op : OpV) : (t.do_ op).2.room = t.room := by
  unfold St.do_ St.sync St.rename St.delete St.write
  repeat' split
  all_goals rfl
theorem sync_err (t : St) (s : List UInt8) : (t.sync s).1 ≠ 0 → (t.sync s).2.D = t.D := by
  unfold St.sync
  split
  · intro _; rfl
  split
  · intro _; rfl
  split
  · intro _; rfl
  · intro h; exact absurd rfl h
theorem delete_err (t : St) (s : List UInt8) : (t.delete s).1 ≠ 0 → (t.delete s).2.D = t.D := by
  unfold St.delete
  split
  · intro _; rfl
  split
  · intro _; rfl
  · intro h; exact absurd rfl h
theorem rename_err (t : St) (s to : List UInt8) : (t.rename s to).1 ≠ 0 → (t.rename s to).2.D = t.D := by
  unfold St.rename
  split
  · intro _; rfl
  split
  · intro _; rfl
  split
  · intro _; rfl
  · intro h; exact absurd rfl h
theorem write_err (t : St) (s : List UInt8) (b : List Nat) : (t.write s b).1 ≠ 0 → (t.write s b).2.D = t.D := by
  unfold St.write
  split
  · intro _; rfl
  split
  · intro _; rfl
  split
  · intro _; rfl
  · intro h; exact absurd rfl h
theorem do_err (t : St) (op : OpV) : (t.do_ op).1 ≠ 0 → (t.do_ op).2.D = t.D := by
  unfold St.do_
  split
  · exact sync_err t _
  split
  · exact rename_err t _ _
  split
  · exact delete_err t _
  split
  · intro h; exact absurd rfl h
  split
  · intro h; exact absurd rfl h
  split
  · intro h; exact absurd rfl h
  · exact write_err t _ _
theorem do_write (t : St) (hG : Good t.D t.room) (op : OpV) (h0 : 0 ≤ op.what) (h3 : op.what < 3) (hr : (t.do_ op).1 = 0) : tot (t.do_ op).2.D = tot t.D + op.bs.length := by
  have e : t.do_ op = t.write op.nm.data.toList op.bs := by
    unfold St.do_
    rw [if_neg (by omega), if_neg (by omega), if_neg (by omega), if_neg (by omega), if_neg (by omega), if_neg (by omega)]
  rw [e] at hr ⊢
  unfold St.write at hr ⊢
  split at hr
  · simp at hr
  split at hr
  · simp at hr
  split at hr
  · simp at hr
  · rename_i h1 h2 h3
    rw [if_neg h1, if_neg h2, if_neg h3]
    show tot (t.D.put _ _) = _
    have := tot_put (canon_tidy hG.canon) (.string op.nm.data.toList) (.held ⟨((fat t.D op.nm.data.toList).getD Fl.zero).bs ++ op.bs, ((fat t.D op.nm.data.toList).getD Fl.zero).l⟩)
    rw [hG.look_] at this
    cases hf : fat t.D op.nm.data.toList with
    | none => rw [hf] at this; simp [lenOf, Fl.zero] at this; simp [Fl.zero, this]
    | some f => rw [hf] at this; simp [lenOf] at this; simp; omega
end Go.Proofs.YtohiheohndmccaaGreat
