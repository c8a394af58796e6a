/- The reference's disk: one file turned in its place; Sync. -/
import Derived.Test.YtohiheohndmccaaGreatRdF
namespace Go.Proofs.YtohiheohndmccaaGreat
set_option linter.unusedSimpArgs false
open Go.RowKit
open Go.Maps
attribute [local go_sem] Oper.semAt_some

theorem rcells_set2 : ∀ (es : List REnt) (i : Nat) (e : REnt) (n : Nat), es[i]? = some e → rcells (es.set i { e with l := n }) = (rcells es).set (i * 3 + 2) (.int .i64 (n : Int))
  | [], i, _, _, h => by simp at h
  | x :: es, 0, e, n, h => by
    have : x = e := by simpa using h
    subst this
    rfl
  | x :: es, i + 1, e, n, h => by
    have ih := rcells_set2 es i e n (by simpa using h)
    show x.cells ++ rcells (es.set i { e with l := n }) = (x.cells ++ rcells es).set ((i + 1) * 3 + 2) _
    rw [ih, List.set_append_right _ _ (by simp; omega)]
    congr 2
    simp
    omega
theorem rcells_set1 : ∀ (es : List REnt) (i : Nat) (e : REnt) (a : Option Addr) (c : Nat) (bs : List Nat), es[i]? = some e → rcells (es.set i { e with a := a, c := c, bs := bs }) = (rcells es).set (i * 3 + 1) (.slice a bs.length c)
  | [], i, _, _, _, _, h => by simp at h
  | x :: es, 0, e, a, c, bs, h => by
    have : x = e := by simpa using h
    subst this
    rfl
  | x :: es, i + 1, e, a, c, bs, h => by
    have ih := rcells_set1 es i e a c bs (by simpa using h)
    show x.cells ++ rcells (es.set i { e with a := a, c := c, bs := bs }) = (x.cells ++ rcells es).set ((i + 1) * 3 + 1) _
    rw [ih, List.set_append_right _ _ (by simp; omega)]
    congr 2
    simp
    omega
section
variable {w : World} {rp : Nat} {t : St} {O : Nat → Prop} {a : Option Addr} {c : Nat} {es : List REnt}
/-- One file is turned in its place: one cell of it is stored. -/
theorem RdC.edit {g : Nat} (h : RdC w rp t O (some ⟨g, 0, none⟩) c es) {w1 : World} (hb : Below w.heap.size w w1) {i : Nat} {e : REnt} (he : es[i]? = some e) (j : Nat) (u : Value) (f : REnt) (hj : i * 3 + j < es.length * 3) (hc : rcells (es.set i f) = (rcells es).set (i * 3 + j) u)
    {D' : FS} (hD : D' = rD (es.set i f)) (hG : Good D' t.room)
    (hby : (f.a = e.a ∧ f.bs = e.bs ∧ f.c = e.c) ∨ (Sl w1 w1.heap.size f.a f.bs.length f.c f.bs ∧ (0 < f.bs.length → ∀ b o, f.a = some ⟨b, o, none⟩ → w.heap.size ≤ b))) :
    RMv w rp O ⟨D', t.room, t.fuse, t.fails⟩ (w1.setCell ⟨g, i * 3 + j, none⟩ u) := by
  have h1 := h.below hb
  have hgO := h.ownO g rfl
  have hgl := h.lt g hgO.1
  have hoth : ∀ k, k ≠ g → (w1.setCell ⟨g, i * 3 + j, none⟩ u).heap[k]? = w1.heap[k]? := fun k hk => Below.heap_setCell w1 ⟨g, i * 3 + j, none⟩ _ k hk
  have hz : (w1.setCell ⟨g, i * 3 + j, none⟩ u).heap.size = w1.heap.size := by simp [World.setCell]
  have hl : (es.set i f).length = es.length := List.length_set
  have hst := (World.ownsRow.stored h1.own (i * 3 + j) u).1
  refine ⟨fun k => O k ∨ (w.heap.size ≤ k ∧ k < w1.heap.size), ⟨some ⟨g, 0, none⟩, c, es.set i f, ?_, ?_, hD, hG, fun e' he' => ?_, .inl h.rpO, fun b hb' => ?_, fun k hk => ?_, h.fuse_, h.fails_⟩, ?_, fun k hk => ?_⟩
  · rw [hl]
    exact (hoth rp (fun e => hgO.2 e.symm)).trans h1.cells
  · rw [hl, hc]
    exact hst
  · rw [hl]
    have hold : ∀ x ∈ es, Sl (w1.setCell ⟨g, i * 3 + j, none⟩ u) (w1.setCell ⟨g, i * 3 + j, none⟩ u).heap.size x.a x.bs.length x.c x.bs ∧ (0 < x.bs.length → ∀ b o, x.a = some ⟨b, o, none⟩ → (O b ∨ (w.heap.size ≤ b ∧ b < w1.heap.size)) ∧ b ≠ rp ∧ (Value.slice (some ⟨g, 0, none⟩) es.length c).ownBlock ≠ some b) := fun x hx => by
      have h2 := h.bytes x hx
      have hne : 0 < x.bs.length → ∀ b o, x.a = some ⟨b, o, none⟩ → b ≠ g := fun hp b o e' hbg => (h2.2 hp b o e').2.2 (by rw [hbg]; rfl)
      exact ⟨(h1.bytes x hx).1.same_ (by omega) (fun hp b o e' => hoth b (hne hp b o e')), fun hp b o e' => ⟨.inl (h2.2 hp b o e').1, (h2.2 hp b o e').2.1, (h2.2 hp b o e').2.2⟩⟩
    rcases List.mem_or_eq_of_mem_set he' with he' | he'
    · exact hold e' he'
    · subst he'
      rcases hby with ⟨q1, q2, q3⟩ | ⟨hsl, hn⟩
      · rw [q1, q2, q3]
        exact hold e (List.mem_of_getElem? he)
      · refine ⟨hsl.same_ (by omega) (fun hp b o e' => hoth b (by have := hn hp b o e'; omega)), fun hp b o e' => ⟨.inr ⟨hn hp b o e', ?_⟩, by have := hn hp b o e'; have := h.lt rp h.rpO; omega, fun hv => ?_⟩⟩
        · obtain ⟨b', o', e2, hlt, _⟩ := hsl.at_ hp
          rw [e'] at e2
          injection e2 with e2
          injection e2 with e2
          omega
        · have hv' : some g = some b := hv
          injection hv' with hv'
          have := hn hp b o e'
          omega
  · injection hb' with hb'
    subst hb'
    exact ⟨.inl hgO.1, hgO.2⟩
  · rcases hk with hk | hk
    · have := h1.lt k hk; omega
    · omega
  · exact (But.of_below (O := O) hb).setCell (p := ⟨g, i * 3 + j, none⟩) (.inl hgO.1) _
  · rcases hk with hk | hk
    · exact .inl hk
    · exact .inr hk.1
def S9 (x : World) (rp g i n c : Nat) (ea : Option Addr) (m ec : Nat) : Prop := x.cell? ⟨rp, 1, none⟩ = some (.slice (some ⟨g, 0, none⟩) n c) ∧ x.cell? ⟨g, i * 3 + 1, none⟩ = some (.slice ea m ec)
theorem ridx_name : ∀ (es : List REnt) (s : List UInt8) (e : REnt), es[ridx es s]? = some e → e.s = s
  | [], s, e, h => by simp at h
  | x :: es, s, e, h => by
    by_cases hx : x.s = s
    · have e1 : ridx (x :: es) s = 0 := by rw [ridx, if_pos hx]
      rw [e1] at h
      have : x = e := by simpa using h
      rw [← this]; exact hx
    · have e1 : ridx (x :: es) s = ridx es s + 1 := by rw [ridx, if_neg hx]
      rw [e1] at h
      exact ridx_name es s e (by simpa using h)
set_option linter.unusedSimpArgs false in
set_option maxRecDepth 100000 in
set_option maxHeartbeats 3200000 in
theorem rsync_any (h : RdC w rp t O a c es) (s : ByteArray) : Calls Tryz.prog 31 #[.pointer (some ⟨rp, 0, none⟩), .string s] w fun e w' => e = .returned (.int .i64 (t.sync s.data.toList).1) ∧ RMv w rp O (t.sync s.data.toList).2 w' := by
  by_cases hf : t.fuse = 0
  · have e : t.sync s.data.toList = (42, t) := by unfold St.sync; rw [if_pos hf]
    rw [e]
    have CD := Lib.hid (rcall_dead h hf)
    have HR := Lib.hid (rowner ⟨a, c, es, h⟩)
    clear h
    go_enter Tryz.func31, Tryz.ntmps31
    go_wp2_with fail
    refine CD.out.mono ?_
    rintro e1 w1 ⟨rfl, rfl⟩
    go_wp2
    go_ret
    exact ⟨rfl, HR.out⟩
  have CD := Lib.hid (rcall_do h hf)
  have hcap := h.len_
  by_cases hi : ridx es s.data.toList < es.length
  · obtain ⟨e0, he0, hfat⟩ : ∃ e0, es[ridx es s.data.toList]? = some e0 ∧ fat t.D s.data.toList = some e0.fl := by
      obtain ⟨e0, g, h0, hf0, _⟩ := h.here hi
      exact ⟨e0, h0, hf0⟩
    have hnm := ridx_name es _ e0 he0
    by_cases hbad : 0 < t.fails
    · have e : t.sync s.data.toList = (41, { t.burnt with fails := t.fails - 1 }) := by unfold St.sync; rw [if_neg hf, hfat]; simp only []; rw [if_pos hbad]
      rw [e]
      have hfl := h.fails_
      have hw : IntKind.i64.wrap (t.fails - 1) = t.fails - 1 := by rw [IntKind.wrap_i64]; omega
      clear h e he0 hnm hfat
      go_enter Tryz.func31, Tryz.ntmps31
      go_wp2_with fail
      refine CD.out.mono ?_
      rintro e1 w1 ⟨rfl, h1, b1⟩
      have AT := rat_any h1 s
      unfold ratI at AT
      rw [if_pos hi] at AT
      have AT := Lib.hid AT
      have c3 : w1.cell? ⟨rp, 3, none⟩ = some (.int .i64 t.fails) := h1.cell.2.2.2.1
      have z3 := h1.cell.2.2.2.2 3
      have h2 := h1.set_ 3 (.int .i64 (t.fails - 1)) (fuse' := t.burnt.fuse) (fails' := t.fails - 1) rfl h1.fuse_ (by omega)
      have HF := Lib.hid (show RMv w rp O { t.burnt with fails := t.fails - 1 } (w1.setCell ⟨rp, 3, none⟩ (.int .i64 (t.fails - 1))) from ⟨O, ⟨a, c, es, h2⟩, b1.setCell (p := ⟨rp, 3, none⟩) (.inl h1.rpO) _, fun _ hk => .inl hk⟩)
      generalize ridx es s.data.toList = i at *
      clear h1 b1 CD h2
      go_wp2_with fail
      refine AT.out.mono ?_
      rintro e1 w2 ⟨rfl, rfl⟩
      go_wp2
      go_ret
      exact ⟨rfl, HF.out⟩
    · have e : t.sync s.data.toList = (0, { t.burnt with D := t.D.put (.string s.data.toList) (.held ⟨e0.bs, e0.bs.length⟩) }) := by unfold St.sync; rw [if_neg hf, hfat]; simp only []; rw [if_neg hbad]
      rw [e]
      have hD : t.D.put (.string s.data.toList) (.held ⟨e0.bs, e0.bs.length⟩) = rD (es.set (ridx es s.data.toList) { e0 with l := e0.bs.length }) := by rw [rD_set s.data.toList h.once hi { e0 with l := e0.bs.length } hnm, h.D_]
      have hG : Good (t.D.put (.string s.data.toList) (.held ⟨e0.bs, e0.bs.length⟩)) t.room :=
        h.good.put (h.good.at_ hfat).1 (Nat.le_refl _) (h.good.at_ hfat).2.2.1 (.inl (by rw [hfat]; rfl)) (by rw [hfat]; have := h.good.tot_; simp; omega)
      obtain ⟨g, hg⟩ : ∃ g, a = some ⟨g, 0, none⟩ := by obtain ⟨g, hg, _⟩ := h.at_ (by omega); exact ⟨g, hg⟩
      subst hg
      clear h e
      go_enter Tryz.func31, Tryz.ntmps31
      go_wp2_with fail
      refine CD.out.mono ?_
      rintro e1 w1 ⟨rfl, h1, b1⟩
      have AT := rat_any h1 s
      unfold ratI at AT
      rw [if_pos hi] at AT
      have AT := Lib.hid AT
      have c1 := h1.cell.2.1
      have c3 : w1.cell? ⟨rp, 3, none⟩ = some (.int .i64 t.fails) := h1.cell.2.2.2.1
      obtain ⟨g', hg', _, _, hgl, _, _, hcs⟩ := h1.at_ (by omega)
      have hgg : g' = g := by injection hg' with hg'; injection hg' with hg'; exact hg'.symm
      subst hgg
      have q1 := (hcs _ e0 he0).2.1
      have q2 := (hcs _ e0 he0).2.2
      have zq : w1.frozen? ⟨g', ridx es s.data.toList * 3 + 2, none⟩ = false := by
        rcases h1.own.2 with ⟨h2, _⟩ | ⟨g2, cap, cur, e, _, h3, _⟩
        · cases h2
        · injection e with e; injection e with e; injection e with e; subst e; exact frozen_of_row _ _ _ _ _ h3
      have HF := Lib.hid (RMv.then b1 (h1.edit (Below.drew (Below.refl _ _)) he0 2 (.int .i64 (e0.bs.length : Int)) { e0 with l := e0.bs.length } (by omega) (rcells_set2 es _ e0 _ he0) hD hG (.inl ⟨rfl, rfl, rfl⟩)))
      generalize ridx es s.data.toList = i at *
      obtain ⟨n, hn⟩ : ∃ n, n = es.length := ⟨_, rfl⟩
      rw [← hn] at c1 hi hcap
      clear hg' hcs h1 b1 CD hn hD hG hnm he0 hfat
      go_wp2_with fail
      refine AT.out.mono ?_
      rintro e1 w2 ⟨rfl, rfl⟩
      go_upto_region 9 with fail
      have hk : S9 w1.drew rp g' i n c e0.a e0.bs.length e0.c := ⟨c1, q1⟩
      refine wp_region_held_drew (S := fun x => S9 x rp g' i n c e0.a e0.bs.length e0.c) (by kernel_rfl) hk (fun hHeld => ?_)
      unfold S9 at hHeld ⊢
      refine wpAnyH_take (i := 0) (v := ?_) rfl (by kernel_rfl) (by kernel_rfl) (by kernel_rfl) (fun _ _ _ h => h) (Or.inl ⟨by rfl, ?_⟩) (by assumption) ?_
      rotate_left
      · intro w hSw
        (try dsimp only at hSw)
        go_simp
        all_goals with_reducible rfl
      try simp only [Act.put, List.getElem_toArray, List.getElem_cons_succ, List.getElem_cons_zero, List.setIfInBounds_toArray, List.set_cons_zero, List.set_cons_succ]
      refine wpAnyH_take (i := 1) (v := ?_) rfl (by kernel_rfl) (by kernel_rfl) (by kernel_rfl) (fun _ _ _ h => h) (Or.inl ⟨by rfl, ?_⟩) (by assumption) ?_
      rotate_left
      · intro w hSw
        (try dsimp only at hSw)
        go_simp
        all_goals with_reducible rfl
      try simp only [Act.put, List.getElem_toArray, List.getElem_cons_succ, List.getElem_cons_zero, List.setIfInBounds_toArray, List.set_cons_zero, List.set_cons_succ]
      refine wpAnyH_take (i := 2) (v := ?_) rfl (by kernel_rfl) (by kernel_rfl) (by kernel_rfl) (fun _ _ _ h => h) (Or.inl ⟨by rfl, ?_⟩) (by assumption) ?_
      rotate_left
      · intro w hSw
        (try dsimp only at hSw)
        go_simp
        all_goals with_reducible rfl
      try simp only [Act.put, List.getElem_toArray, List.getElem_cons_succ, List.getElem_cons_zero, List.setIfInBounds_toArray, List.set_cons_zero, List.set_cons_succ]
      refine wpAnyH_take (i := 3) (v := ?_) rfl (by kernel_rfl) (by kernel_rfl) (by kernel_rfl) (fun _ _ _ h => h) (Or.inl ⟨by rfl, ?_⟩) (by assumption) ?_
      rotate_left
      · intro w hSw
        (try dsimp only at hSw)
        go_simp
        all_goals with_reducible rfl
      try simp only [Act.put, List.getElem_toArray, List.getElem_cons_succ, List.getElem_cons_zero, List.setIfInBounds_toArray, List.set_cons_zero, List.set_cons_succ]
      refine wpAnyH_take (i := 4) (v := ?_) rfl (by kernel_rfl) (by kernel_rfl) (by kernel_rfl) (fun _ _ _ h => h) (Or.inl ⟨by rfl, ?_⟩) (by assumption) ?_
      rotate_left
      · intro w hSw
        (try dsimp only at hSw)
        go_simp
        all_goals with_reducible rfl
      try simp only [Act.put, List.getElem_toArray, List.getElem_cons_succ, List.getElem_cons_zero, List.setIfInBounds_toArray, List.set_cons_zero, List.set_cons_succ]
      refine wpAnyH_take (i := 5) (v := ?_) rfl (by kernel_rfl) (by kernel_rfl) (by kernel_rfl) (fun _ _ _ h => h) (Or.inl ⟨by rfl, ?_⟩) (by assumption) ?_
      rotate_left
      · intro w hSw
        (try dsimp only at hSw)
        go_simp
        all_goals with_reducible rfl
      try simp only [Act.put, List.getElem_toArray, List.getElem_cons_succ, List.getElem_cons_zero, List.setIfInBounds_toArray, List.set_cons_zero, List.set_cons_succ]
      refine wpAnyH_take (i := 6) (v := ?_) rfl (by kernel_rfl) (by kernel_rfl) (by kernel_rfl) (fun _ _ _ h => h) (Or.inl ⟨by rfl, ?_⟩) (by assumption) ?_
      rotate_left
      · intro w hSw
        (try dsimp only at hSw)
        go_simp
        all_goals with_reducible rfl
      try simp only [Act.put, List.getElem_toArray, List.getElem_cons_succ, List.getElem_cons_zero, List.setIfInBounds_toArray, List.set_cons_zero, List.set_cons_succ]
      refine wpAnyH_take (i := 7) (v := ?_) rfl (by kernel_rfl) (by kernel_rfl) (by kernel_rfl) (fun _ _ _ h => h) (Or.inl ⟨by rfl, ?_⟩) (by assumption) ?_
      rotate_left
      · intro w hSw
        (try dsimp only at hSw)
        go_simp
        all_goals with_reducible rfl
      try simp only [Act.put, List.getElem_toArray, List.getElem_cons_succ, List.getElem_cons_zero, List.setIfInBounds_toArray, List.set_cons_zero, List.set_cons_succ]
      refine wpAnyH_take (i := 8) (v := ?_) rfl (by kernel_rfl) (by kernel_rfl) (by kernel_rfl) (fun _ _ _ h => h) (Or.inl ⟨by rfl, ?_⟩) (by assumption) ?_
      rotate_left
      · intro w hSw
        (try dsimp only at hSw)
        go_simp
        all_goals with_reducible rfl
      try simp only [Act.put, List.getElem_toArray, List.getElem_cons_succ, List.getElem_cons_zero, List.setIfInBounds_toArray, List.set_cons_zero, List.set_cons_succ]
      refine wpAnyH_take (i := 9) (v := ?_) rfl (by kernel_rfl) (by kernel_rfl) (by kernel_rfl) (fun _ _ _ h => h) (Or.inl ⟨by rfl, ?_⟩) (by assumption) ?_
      rotate_left
      · intro w hSw
        (try dsimp only at hSw)
        go_simp
        all_goals with_reducible rfl
      try simp only [Act.put, List.getElem_toArray, List.getElem_cons_succ, List.getElem_cons_zero, List.setIfInBounds_toArray, List.set_cons_zero, List.set_cons_succ]
      refine wpAnyH_take (i := 10) (v := ?_) rfl (by kernel_rfl) (by kernel_rfl) (by kernel_rfl) (fun _ _ _ h => h) (Or.inl ⟨by rfl, ?_⟩) (by assumption) ?_
      rotate_left
      · intro w hSw
        (try dsimp only at hSw)
        go_simp
        all_goals with_reducible rfl
      try simp only [Act.put, List.getElem_toArray, List.getElem_cons_succ, List.getElem_cons_zero, List.setIfInBounds_toArray, List.set_cons_zero, List.set_cons_succ]
      refine wpAnyH_take (i := 11) (v := ?_) rfl (by kernel_rfl) (by kernel_rfl) (by kernel_rfl) (fun _ _ _ h => h) (Or.inl ⟨by rfl, ?_⟩) (by assumption) ?_
      rotate_left
      · intro w hSw
        (try dsimp only at hSw)
        go_simp
        all_goals with_reducible rfl
      try simp only [Act.put, List.getElem_toArray, List.getElem_cons_succ, List.getElem_cons_zero, List.setIfInBounds_toArray, List.set_cons_zero, List.set_cons_succ]
      refine wpAnyH_take (i := 12) (v := ?_) rfl (by kernel_rfl) (by kernel_rfl) (by kernel_rfl) (fun _ _ _ h => h) (Or.inl ⟨by rfl, ?_⟩) (by assumption) ?_
      rotate_left
      · intro w hSw
        (try dsimp only at hSw)
        go_simp
        all_goals with_reducible rfl
      try simp only [Act.put, List.getElem_toArray, List.getElem_cons_succ, List.getElem_cons_zero, List.setIfInBounds_toArray, List.set_cons_zero, List.set_cons_succ]
      refine wpAnyH_take (i := 13) (v := ?_) rfl (by kernel_rfl) (by kernel_rfl) (by kernel_rfl) (fun _ _ _ h => h) (Or.inl ⟨by rfl, ?_⟩) (by assumption) ?_
      rotate_left
      · intro w hSw
        (try dsimp only at hSw)
        go_simp
        all_goals with_reducible rfl
      try simp only [Act.put, List.getElem_toArray, List.getElem_cons_succ, List.getElem_cons_zero, List.setIfInBounds_toArray, List.set_cons_zero, List.set_cons_succ]
      refine wpAnyH_take (i := 14) (v := ?_) rfl (by kernel_rfl) (by kernel_rfl) (by kernel_rfl) (fun _ _ _ h => h) (Or.inl ⟨by rfl, ?_⟩) (by assumption) ?_
      rotate_left
      · intro w hSw
        (try dsimp only at hSw)
        go_simp
        all_goals with_reducible rfl
      try simp only [Act.put, List.getElem_toArray, List.getElem_cons_succ, List.getElem_cons_zero, List.setIfInBounds_toArray, List.set_cons_zero, List.set_cons_succ]
      refine wpAnyH_take (i := 15) (v := ?_) rfl (by kernel_rfl) (by kernel_rfl) (by kernel_rfl) (fun _ _ _ h => h) (Or.inl ⟨by rfl, ?_⟩) (by assumption) ?_
      rotate_left
      · intro w hSw
        (try dsimp only at hSw)
        go_simp
        all_goals with_reducible rfl
      try simp only [Act.put, List.getElem_toArray, List.getElem_cons_succ, List.getElem_cons_zero, List.setIfInBounds_toArray, List.set_cons_zero, List.set_cons_succ]
      refine wpAnyH_ready (rs := [16]) (by kernel_rfl) (by simp) ?_
      refine AllReadyH.cons rfl (fun K hK => ?_) AllReadyH.nil
      go_simp
      have hne : (⟨rp, 1, none⟩ : Addr) ≠ ⟨g', i * 3 + 2, none⟩ := fun e => by injection e; omega
      have hne2 : (⟨g', i * 3 + 1, none⟩ : Addr) ≠ ⟨g', i * 3 + 2, none⟩ := fun e => by injection e; omega
      refine hK.out _ _ ?_ (fun hHeld => ?_)
      · exact ⟨(World.cell?_setCell_other _ _ _ _ hne.symm).trans c1, (World.cell?_setCell_other _ _ _ _ hne2.symm).trans q1⟩
      clear hK K
      try simp only [Act.put, List.getElem_toArray, List.getElem_cons_succ, List.getElem_cons_zero, List.setIfInBounds_toArray, List.set_cons_zero, List.set_cons_succ]
      refine wpAnyH_done (by kernel_rfl) ?_ _
      clear hHeld
      go_wp2
      go_ret
      exact ⟨rfl, HF.out⟩
  · have e : t.sync s.data.toList = (3, t.burnt) := by unfold St.sync; rw [if_neg hf, h.gone_ hi]
    rw [e]
    clear h e
    go_enter Tryz.func31, Tryz.ntmps31
    go_wp2_with fail
    refine CD.out.mono ?_
    rintro e1 w1 ⟨rfl, h1, b1⟩
    have AT := rat_any h1 s
    unfold ratI at AT
    rw [if_neg hi] at AT
    have AT := Lib.hid AT
    have HR := Lib.hid (RMv.then b1 (rowner ⟨a, c, es, h1⟩))
    clear h1 b1 CD
    go_wp2_with fail
    refine AT.out.mono ?_
    rintro e1 w2 ⟨rfl, rfl⟩
    go_wp2
    go_ret
    exact ⟨rfl, HR.out⟩
end
end Go.Proofs.YtohiheohndmccaaGreat
