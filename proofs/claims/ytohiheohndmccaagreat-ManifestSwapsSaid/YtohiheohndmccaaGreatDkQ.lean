/- The statements' operations: a call; are they too much? -/
import Derived.Test.YtohiheohndmccaaGreatDkO
import Derived.Test.YtohiheohndmccaaGreatOpenO
namespace Go.Proofs.YtohiheohndmccaaGreat
set_option linter.unusedSimpArgs false
open Go.RowKit Go.Sort
open Go.Maps
attribute [local go_sem] Oper.semAt_some

/-- What an operation answers, and leaves. -/
def St.do_ (t : St) (op : OpV) : Int × St :=
  if op.what = 3 ∨ op.what = 4 then t.sync op.nm.data.toList
  else if op.what = 5 then t.rename op.nm.data.toList op.to_.data.toList
  else if op.what = 6 then t.delete op.nm.data.toList
  else if op.what = 7 then (0, t.fuse_ op.n)
  else if op.what = 8 then (0, t.fail_ op.n)
  else if op.what = 9 then (0, t.crash op.ks)
  else t.write op.nm.data.toList op.bs
abbrev opVal (op : OpV) : Value := .agg #[.int .i64 op.what, .string op.nm, .string op.to_, .slice op.ba op.bs.length op.bc, .int .i64 op.n, .slice op.ka op.ks.length op.kc]
theorem cell_box6 (w : World) (v0 v1 v2 v3 v4 v5 : Value) (t : TypeId) :
    (w.alloc (.cells #[v0, v1, v2, v3, v4, v5] t)).cell? ⟨w.heap.size, 0, none⟩ = some v0 ∧ (w.alloc (.cells #[v0, v1, v2, v3, v4, v5] t)).cell? ⟨w.heap.size, 1, none⟩ = some v1 ∧ (w.alloc (.cells #[v0, v1, v2, v3, v4, v5] t)).cell? ⟨w.heap.size, 2, none⟩ = some v2 ∧
    (w.alloc (.cells #[v0, v1, v2, v3, v4, v5] t)).cell? ⟨w.heap.size, 3, none⟩ = some v3 ∧ (w.alloc (.cells #[v0, v1, v2, v3, v4, v5] t)).cell? ⟨w.heap.size, 4, none⟩ = some v4 ∧ (w.alloc (.cells #[v0, v1, v2, v3, v4, v5] t)).cell? ⟨w.heap.size, 5, none⟩ = some v5 :=
  ⟨(cell_of_row _ _ 0 _ _ _ (heap_alloc_new w _)).trans rfl, (cell_of_row _ _ 1 _ _ _ (heap_alloc_new w _)).trans rfl, (cell_of_row _ _ 2 _ _ _ (heap_alloc_new w _)).trans rfl, (cell_of_row _ _ 3 _ _ _ (heap_alloc_new w _)).trans rfl, (cell_of_row _ _ 4 _ _ _ (heap_alloc_new w _)).trans rfl, (cell_of_row _ _ 5 _ _ _ (heap_alloc_new w _)).trans rfl⟩
theorem Mv.before {w0 w w1 w' : World} {dp : Nat} {O : Nat → Prop} {t : St} (hb : Below w.heap.size w w1) (h : Mv w0 w1 dp O t w') : Mv w0 w dp O t w' := by
  obtain ⟨O', h1, h2, h3⟩ := h
  exact ⟨O', h1, (But.of_below (O := O) hb).trans h2 (fun _ hi => .inl hi), fun k hk => (h3 k hk).imp id (Nat.le_trans hb.size)⟩
def Done (w0 w : World) (dp : Nat) (O : Nat → Prop) (r : Int × St) (e : Ending) (w' : World) : Prop := e = .returned (.int .i64 r.1) ∧ Mv w0 w dp O r.2 w'
section
variable {w0 w : World} {dp : Nat} {t : St} {O : Nat → Prop}
set_option maxRecDepth 100000 in
set_option maxHeartbeats 3200000 in
theorem do_any (h : DK w0 w dp t O) (op : OpV) {B : Nat} (ho : OpIn w B op) (hB : B ≤ w0.heap.size) : Calls Tryz.prog 8 #[.pointer (some ⟨dp, 0, none⟩), opVal op] w (Done w0 w dp O (t.do_ op)) := by
  have hb1 : Below w.heap.size w (w.alloc (.cells #[.int .i64 op.what, .string op.nm, .string op.to_, .slice op.ba op.bs.length op.bc, .int .i64 op.n, .slice op.ka op.ks.length op.kc] 35)) := (Below.refl _ _).alloc (Nat.le_refl _) _
  obtain ⟨x0, x1, x2, x3, x4, x5⟩ := cell_box6 w (.int .i64 op.what) (.string op.nm) (.string op.to_) (.slice op.ba op.bs.length op.bc) (.int .i64 op.n) (.slice op.ka op.ks.length op.kc) 35
  have hwB : B ≤ w.heap.size := Nat.le_trans hB h.below.size
  have ho1 := ho.below hb1 hwB
  have k1 := h.on hb1
  have hfar : ∀ {a : Option Addr} {n c : Nat} {bs : List Nat}, Sl w B a n c bs → 0 < n → ∀ k o, a = some ⟨k, o, none⟩ → ¬ O k := fun hs hp k o e hO => by
    obtain ⟨b', o', e', hlt, _⟩ := hs.at_ hp
    rw [e] at e'
    injection e' with e'
    injection e' with e1 e2
    have := h.base k hO
    omega
  have hfar2 : ∀ {a : Option Addr} {n c m : Nat} {cs : Nat → Value}, Row w B a n c m cs → 0 < n → ∀ k o, a = some ⟨k, o, none⟩ → ¬ O k := fun hs hp k o e hO => by
    obtain ⟨b', o', e', hlt, _⟩ := hs.at_ hp
    rw [e] at e'
    injection e' with e'
    injection e' with e1 e2
    have := h.base k hO
    omega
  have CS := Lib.hid (k1.sync op.nm (by have := ho.nm_; omega))
  have CR := Lib.hid (k1.rename op.nm op.to_ (by have := ho.nm_; omega) (by have := ho.to__; omega))
  have CD := Lib.hid (k1.delete op.nm (by have := ho.nm_; omega))
  have CF := Lib.hid (k1.fuse op.n ho.n_.2)
  have CL := Lib.hid (k1.fail op.n ho.n_.2)
  have CC := Lib.hid (k1.crash op.ks op.ka op.ks.length op.kc ((ho.row.below hb1 hwB).more (by simp <;> omega)) rfl (hfar2 ho.row))
  have CW := Lib.hid (k1.write op.nm (by have := ho.nm_; omega) op.ba op.bs.length op.bc op.bs ((ho.sl.below hb1 hwB).more (by simp <;> omega)) ho.bs_ (hfar ho.sl))
  have HB := Lib.hid hb1
  have HD : Hid (t.do_ op = if op.what = 3 ∨ op.what = 4 then t.sync op.nm.data.toList else if op.what = 5 then t.rename op.nm.data.toList op.to_.data.toList else if op.what = 6 then t.delete op.nm.data.toList else if op.what = 7 then (0, t.fuse_ op.n) else if op.what = 8 then (0, t.fail_ op.n) else if op.what = 9 then (0, t.crash op.ks) else t.write op.nm.data.toList op.bs) := rfl
  clear hb1 ho1 k1 hfar hfar2 ho h
  generalize t.do_ op = r at *
  show Calls Tryz.prog 8 #[.pointer (some ⟨dp, 0, none⟩), .agg #[.int .i64 op.what, .string op.nm, .string op.to_, .slice op.ba op.bs.length op.bc, .int .i64 op.n, .slice op.ka op.ks.length op.kc]] w _
  generalize op.what = what at *
  by_cases h3 : what = 3
  · have hr : r = t.sync op.nm.data.toList := HD.out.trans (by rw [if_pos (by omega)])
    subst hr h3
    clear HD
    go_enter Tryz.func8, Tryz.ntmps8
    go_wp2_with fail
    refine CS.out.mono ?_
    rintro e w' ⟨rfl, hmv⟩
    have HM := Lib.hid (hmv.before HB.out)
    clear hmv
    go_wp2
    go_ret
    exact ⟨rfl, HM.out⟩
  by_cases h4 : what = 4
  · have hr : r = t.sync op.nm.data.toList := HD.out.trans (by rw [if_pos (by omega)])
    subst hr h4
    clear HD
    go_enter Tryz.func8, Tryz.ntmps8
    go_wp2_with fail
    refine CS.out.mono ?_
    rintro e w' ⟨rfl, hmv⟩
    have HM := Lib.hid (hmv.before HB.out)
    clear hmv
    go_wp2
    go_ret
    exact ⟨rfl, HM.out⟩
  by_cases h5 : what = 5
  · have hr : r = t.rename op.nm.data.toList op.to_.data.toList := HD.out.trans (by rw [if_neg (by omega), if_pos (by omega)])
    subst hr h5
    clear HD
    go_enter Tryz.func8, Tryz.ntmps8
    go_wp2_with fail
    refine CR.out.mono ?_
    rintro e w' ⟨rfl, hmv⟩
    have HM := Lib.hid (hmv.before HB.out)
    clear hmv
    go_wp2
    go_ret
    exact ⟨rfl, HM.out⟩
  by_cases h6 : what = 6
  · have hr : r = t.delete op.nm.data.toList := HD.out.trans (by rw [if_neg (by omega), if_neg (by omega), if_pos (by omega)])
    subst hr h6
    clear HD
    go_enter Tryz.func8, Tryz.ntmps8
    go_wp2_with fail
    refine CD.out.mono ?_
    rintro e w' ⟨rfl, hmv⟩
    have HM := Lib.hid (hmv.before HB.out)
    clear hmv
    go_wp2
    go_ret
    exact ⟨rfl, HM.out⟩
  by_cases h7 : what = 7
  · have hr : r = (0, t.fuse_ op.n) := HD.out.trans (by rw [if_neg (by omega), if_neg (by omega), if_neg (by omega), if_pos (by omega)])
    subst hr h7
    clear HD
    go_enter Tryz.func8, Tryz.ntmps8
    go_wp2_with fail
    refine CF.out.mono ?_
    rintro e w' ⟨rfl, hmv⟩
    have HM := Lib.hid (hmv.before HB.out)
    clear hmv
    go_wp2
    go_ret
    exact ⟨rfl, HM.out⟩
  by_cases h8 : what = 8
  · have hr : r = (0, t.fail_ op.n) := HD.out.trans (by rw [if_neg (by omega), if_neg (by omega), if_neg (by omega), if_neg (by omega), if_pos (by omega)])
    subst hr h8
    clear HD
    go_enter Tryz.func8, Tryz.ntmps8
    go_wp2_with fail
    refine CL.out.mono ?_
    rintro e w' ⟨rfl, hmv⟩
    have HM := Lib.hid (hmv.before HB.out)
    clear hmv
    go_wp2
    go_ret
    exact ⟨rfl, HM.out⟩
  by_cases h9 : what = 9
  · have hr : r = (0, t.crash op.ks) := HD.out.trans (by rw [if_neg (by omega), if_neg (by omega), if_neg (by omega), if_neg (by omega), if_neg (by omega), if_pos (by omega)])
    subst hr h9
    clear HD
    go_enter Tryz.func8, Tryz.ntmps8
    go_wp2_with fail
    refine CC.out.mono ?_
    rintro e w' ⟨rfl, hmv⟩
    have HM := Lib.hid (hmv.before HB.out)
    clear hmv
    go_wp2
    go_ret
    exact ⟨rfl, HM.out⟩
  have hr : r = t.write op.nm.data.toList op.bs := HD.out.trans (by rw [if_neg (by omega), if_neg (by omega), if_neg (by omega), if_neg (by omega), if_neg (by omega), if_neg (by omega)])
  subst hr
  clear HD
  go_enter Tryz.func8, Tryz.ntmps8
  go_wp2_with fail
  refine CW.out.mono ?_
  rintro e w' ⟨rfl, hmv⟩
  have HM := Lib.hid (hmv.before HB.out)
  clear hmv
  go_wp2
  go_ret
  exact ⟨rfl, HM.out⟩
end
/-- Are there few? -/
def Few (w : World) (len : Nat) (e : Ending) (w' : World) : Prop := ∃ g : Bool, e = .returned (.bool g) ∧ (g = false → len ≤ 300) ∧ Below w.heap.size w w'
set_option linter.unusedSimpArgs false in
set_option maxRecDepth 100000 in
set_option maxHeartbeats 3200000 in
theorem great_any (a : Option Addr) (len cap : Nat) (l : List OpV) (w : World) (ho : OpsIn w w.heap.size a len cap l) (hlz : len ≤ 140737488351232) : Calls Tryz.prog 7 #[.slice a len cap] w (Few w len) := by
  have hle := ho.le
  have hln := ho.length
  have HO := Lib.hid ho
  clear ho
  go_enter Tryz.func7, Tryz.ntmps7
  go_wp2_with fail
  go_loopw [3, 4] (fun n i wr => ∃ k N : Nat, k ≤ len ∧ i = .int .i64 (k : Int) ∧ n = .int .i64 (N : Int) ∧ (N ≤ 56000 ∨ N = len) ∧ Below w.heap.size w wr) (fun _ i _ => len - (intOf i).toNat)
  case atStart => exact ⟨0, len, Nat.zero_le _, rfl, rfl, .inr rfl, Below.refl _ _⟩
  case round =>
    obtain ⟨k, N, hk, rfl, rfl, hN, hnx⟩ := hrel
    by_cases hc : k < len ∧ N < 20000
    · obtain ⟨hlt, hN2⟩ := hc
      have d1 : decide ((k : Int) < (len : Int)) = true := by simp; omega
      have d2 : decide ((N : Int) < 20000) = true := by simp; omega
      obtain ⟨b, o, rfl, hb, hcell⟩ := HO.out.at_ (by omega)
      obtain ⟨op, hop⟩ : ∃ op, l[k]? = some op := ⟨_, List.getElem?_eq_getElem (by omega)⟩
      obtain ⟨⟨_, c1, c2, c3, _, c5⟩, hi⟩ := hcell k op hop
      have e1 := (hnx.cell (p := ⟨b, o + k * 6 + 1, none⟩) hb).trans c1
      have e2 := (hnx.cell (p := ⟨b, o + k * 6 + 2, none⟩) hb).trans c2
      have e3 := (hnx.cell (p := ⟨b, o + k * 6 + 3, none⟩) hb).trans c3
      have e5 := (hnx.cell (p := ⟨b, o + k * 6 + 5, none⟩) hb).trans c5
      have m1 := fun (x : World) => min2i_any (op.nm.size : Int) 9000 x
      have m2 := fun (x : World) => min2i_any (op.to_.size : Int) 9000 x
      have m3 := fun (x : World) => min2i_any (op.bs.length : Int) 9000 x
      have m5 := fun (x : World) => min2i_any (op.ks.length : Int) 9000 x
      obtain ⟨z1, hz1⟩ : ∃ z, z = min op.nm.size 9000 := ⟨_, rfl⟩
      obtain ⟨z2, hz2⟩ : ∃ z, z = min op.to_.size 9000 := ⟨_, rfl⟩
      obtain ⟨z3, hz3⟩ : ∃ z, z = min op.bs.length 9000 := ⟨_, rfl⟩
      obtain ⟨z5, hz5⟩ : ∃ z, z = min op.ks.length 9000 := ⟨_, rfl⟩
      rw [show min (op.nm.size : Int) 9000 = (z1 : Int) from by omega] at m1
      rw [show min (op.to_.size : Int) 9000 = (z2 : Int) from by omega] at m2
      rw [show min (op.bs.length : Int) 9000 = (z3 : Int) from by omega] at m3
      rw [show min (op.ks.length : Int) 9000 = (z5 : Int) from by omega] at m5
      have b1 : z1 ≤ 9000 := by omega
      have b2 : z2 ≤ 9000 := by omega
      have b3 : z3 ≤ 9000 := by omega
      have b5 : z5 ≤ 9000 := by omega
      have w1 : IntKind.i64.wrap ((N : Int) + (z1 : Int)) = ((N + z1 : Nat) : Int) := by rw [IntKind.wrap_i64]; omega
      have w2 : IntKind.i64.wrap (((N + z1 : Nat) : Int) + (z2 : Int)) = ((N + z1 + z2 : Nat) : Int) := by rw [IntKind.wrap_i64]; omega
      have w3 : IntKind.i64.wrap (((N + z1 + z2 : Nat) : Int) + (z3 : Int)) = ((N + z1 + z2 + z3 : Nat) : Int) := by rw [IntKind.wrap_i64]; omega
      have w5 : IntKind.i64.wrap (((N + z1 + z2 + z3 : Nat) : Int) + (z5 : Int)) = ((N + z1 + z2 + z3 + z5 : Nat) : Int) := by rw [IntKind.wrap_i64]; omega
      have HX := Lib.hid (And.intro hnx (show N + z1 + z2 + z3 + z5 ≤ 56000 by omega))
      clear hz1 hz2 hz3 hz5 hnx hcell c1 c2 c3 c5 hop hi hN
      generalize N + z1 + z2 + z3 + z5 = N5 at *
      generalize N + z1 + z2 + z3 = N3 at *
      generalize N + z1 + z2 = N2 at *
      generalize N + z1 = N1 at *
      go_wp2_with fail
      refine wp_region_held_drew (S := fun x => x.cell? ⟨b, o + k * 6 + 1, none⟩ = some (.string op.nm) ∧ x.cell? ⟨b, o + k * 6 + 2, none⟩ = some (.string op.to_) ∧ x.cell? ⟨b, o + k * 6 + 3, none⟩ = some (.slice op.ba op.bs.length op.bc) ∧ x.cell? ⟨b, o + k * 6 + 5, none⟩ = some (.slice op.ka op.ks.length op.kc)) (by kernel_rfl) ⟨e1, e2, e3, e5⟩ (fun hHeld => ?_)
      refine wpAnyH_take (i := 0) (v := ?_) rfl (by kernel_rfl) (by kernel_rfl) (by kernel_rfl) (fun _ _ _ h => h) (Or.inl ⟨by rfl, ?_⟩) (by assumption) ?_
      rotate_left
      · intro w hSw
        (try dsimp only at hSw)
        go_simp
        all_goals with_reducible rfl
      try simp only [Act.put, List.getElem_toArray, List.getElem_cons_succ, List.getElem_cons_zero, List.setIfInBounds_toArray, List.set_cons_zero, List.set_cons_succ]
      refine wpAnyH_take (i := 1) (v := ?_) rfl (by kernel_rfl) (by kernel_rfl) (by kernel_rfl) (fun _ _ _ h => h) (Or.inl ⟨by rfl, ?_⟩) (by assumption) ?_
      rotate_left
      · intro w hSw
        (try dsimp only at hSw)
        go_simp
        all_goals with_reducible rfl
      try simp only [Act.put, List.getElem_toArray, List.getElem_cons_succ, List.getElem_cons_zero, List.setIfInBounds_toArray, List.set_cons_zero, List.set_cons_succ]
      refine wpAnyH_take (i := 2) (v := ?_) rfl (by kernel_rfl) (by kernel_rfl) (by kernel_rfl) (fun _ _ _ h => h) (Or.inl ⟨by rfl, ?_⟩) (by assumption) ?_
      rotate_left
      · intro w hSw
        (try dsimp only at hSw)
        go_simp
        all_goals with_reducible rfl
      try simp only [Act.put, List.getElem_toArray, List.getElem_cons_succ, List.getElem_cons_zero, List.setIfInBounds_toArray, List.set_cons_zero, List.set_cons_succ]
      refine wpAnyH_take (i := 3) (v := ?_) rfl (by kernel_rfl) (by kernel_rfl) (by kernel_rfl) (fun _ _ _ h => h) (Or.inl ⟨by rfl, ?_⟩) (by assumption) ?_
      rotate_left
      · intro w hSw
        (try dsimp only at hSw)
        go_simp
        all_goals with_reducible rfl
      try simp only [Act.put, List.getElem_toArray, List.getElem_cons_succ, List.getElem_cons_zero, List.setIfInBounds_toArray, List.set_cons_zero, List.set_cons_succ]
      refine wpAnyH_take (i := 4) (v := ?_) rfl (by kernel_rfl) (by kernel_rfl) (by kernel_rfl) (fun _ _ _ h => h) (Or.inl ⟨by rfl, ?_⟩) (by assumption) ?_
      rotate_left
      · intro w hSw
        (try dsimp only at hSw)
        go_simp
        all_goals with_reducible rfl
      try simp only [Act.put, List.getElem_toArray, List.getElem_cons_succ, List.getElem_cons_zero, List.setIfInBounds_toArray, List.set_cons_zero, List.set_cons_succ]
      refine wpAnyH_take (i := 5) (v := ?_) rfl (by kernel_rfl) (by kernel_rfl) (by kernel_rfl) (fun _ _ _ h => h) (Or.inl ⟨by rfl, ?_⟩) (by assumption) ?_
      rotate_left
      · intro w hSw
        (try dsimp only at hSw)
        go_simp
        all_goals with_reducible rfl
      try simp only [Act.put, List.getElem_toArray, List.getElem_cons_succ, List.getElem_cons_zero, List.setIfInBounds_toArray, List.set_cons_zero, List.set_cons_succ]
      refine wpAnyH_take (i := 6) (v := ?_) rfl (by kernel_rfl) (by kernel_rfl) (by kernel_rfl) (fun _ _ _ h => h) (Or.inl ⟨by rfl, ?_⟩) (by assumption) ?_
      rotate_left
      · intro w hSw
        (try dsimp only at hSw)
        go_simp
        all_goals with_reducible rfl
      try simp only [Act.put, List.getElem_toArray, List.getElem_cons_succ, List.getElem_cons_zero, List.setIfInBounds_toArray, List.set_cons_zero, List.set_cons_succ]
      refine wpAnyH_take (i := 7) (v := ?_) rfl (by kernel_rfl) (by kernel_rfl) (by kernel_rfl) (fun _ _ _ h => h) (Or.inl ⟨by rfl, ?_⟩) (by assumption) ?_
      rotate_left
      · intro w hSw
        (try dsimp only at hSw)
        go_simp
        all_goals with_reducible rfl
      try simp only [Act.put, List.getElem_toArray, List.getElem_cons_succ, List.getElem_cons_zero, List.setIfInBounds_toArray, List.set_cons_zero, List.set_cons_succ]
      refine wpAnyH_take (i := 8) (v := ?_) rfl (by kernel_rfl) (by kernel_rfl) (by kernel_rfl) (fun _ _ _ h => h) (Or.inl ⟨by rfl, ?_⟩) (by assumption) ?_
      rotate_left
      · intro w hSw
        (try dsimp only at hSw)
        go_simp
        all_goals with_reducible rfl
      try simp only [Act.put, List.getElem_toArray, List.getElem_cons_succ, List.getElem_cons_zero, List.setIfInBounds_toArray, List.set_cons_zero, List.set_cons_succ]
      refine wpAnyH_take (i := 9) (v := ?_) rfl (by kernel_rfl) (by kernel_rfl) (by kernel_rfl) (fun _ _ _ h => h) (Or.inl ⟨by rfl, ?_⟩) (by assumption) ?_
      rotate_left
      · intro w hSw
        (try dsimp only at hSw)
        go_simp
        all_goals with_reducible rfl
      try simp only [Act.put, List.getElem_toArray, List.getElem_cons_succ, List.getElem_cons_zero, List.setIfInBounds_toArray, List.set_cons_zero, List.set_cons_succ]
      refine wpAnyH_take (i := 10) (v := ?_) rfl (by kernel_rfl) (by kernel_rfl) (by kernel_rfl) (fun _ _ _ h => h) (Or.inl ⟨by rfl, ?_⟩) (by assumption) ?_
      rotate_left
      · intro w hSw
        (try dsimp only at hSw)
        go_simp
        all_goals with_reducible rfl
      try simp only [Act.put, List.getElem_toArray, List.getElem_cons_succ, List.getElem_cons_zero, List.setIfInBounds_toArray, List.set_cons_zero, List.set_cons_succ]
      refine wpAnyH_take (i := 11) (v := ?_) rfl (by kernel_rfl) (by kernel_rfl) (by kernel_rfl) (fun _ _ _ h => h) (Or.inl ⟨by rfl, ?_⟩) (by assumption) ?_
      rotate_left
      · intro w hSw
        (try dsimp only at hSw)
        go_simp
        all_goals with_reducible rfl
      try simp only [Act.put, List.getElem_toArray, List.getElem_cons_succ, List.getElem_cons_zero, List.setIfInBounds_toArray, List.set_cons_zero, List.set_cons_succ]
      refine wpAnyH_take (i := 12) (v := ?_) rfl (by kernel_rfl) (by kernel_rfl) (by kernel_rfl) (fun _ _ _ h => h) (Or.inl ⟨by rfl, ?_⟩) (by assumption) ?_
      rotate_left
      · intro w hSw
        (try dsimp only at hSw)
        go_simp
        all_goals with_reducible rfl
      try simp only [Act.put, List.getElem_toArray, List.getElem_cons_succ, List.getElem_cons_zero, List.setIfInBounds_toArray, List.set_cons_zero, List.set_cons_succ]
      refine wpAnyH_take (i := 13) (v := ?_) rfl (by kernel_rfl) (by kernel_rfl) (by kernel_rfl) (fun _ _ _ h => h) (Or.inl ⟨by rfl, ?_⟩) (by assumption) ?_
      rotate_left
      · intro w hSw
        (try dsimp only at hSw)
        go_simp
        all_goals with_reducible rfl
      try simp only [Act.put, List.getElem_toArray, List.getElem_cons_succ, List.getElem_cons_zero, List.setIfInBounds_toArray, List.set_cons_zero, List.set_cons_succ]
      refine wpAnyH_take (i := 14) (v := ?_) rfl (by kernel_rfl) (by kernel_rfl) (by kernel_rfl) (fun _ _ _ h => h) (Or.inl ⟨by rfl, ?_⟩) (by assumption) ?_
      rotate_left
      · intro w hSw
        (try dsimp only at hSw)
        go_simp
        all_goals with_reducible rfl
      try simp only [Act.put, List.getElem_toArray, List.getElem_cons_succ, List.getElem_cons_zero, List.setIfInBounds_toArray, List.set_cons_zero, List.set_cons_succ]
      refine wpAnyH_take (i := 15) (v := ?_) rfl (by kernel_rfl) (by kernel_rfl) (by kernel_rfl) (fun _ _ _ h => h) (Or.inl ⟨by rfl, ?_⟩) (by assumption) ?_
      rotate_left
      · intro w hSw
        (try dsimp only at hSw)
        go_simp
        all_goals with_reducible rfl
      try simp only [Act.put, List.getElem_toArray, List.getElem_cons_succ, List.getElem_cons_zero, List.setIfInBounds_toArray, List.set_cons_zero, List.set_cons_succ]
      refine wpAnyH_take (i := 16) (v := ?_) rfl (by kernel_rfl) (by kernel_rfl) (by kernel_rfl) (fun _ _ _ h => h) (Or.inl ⟨by rfl, ?_⟩) (by assumption) ?_
      rotate_left
      · intro w hSw
        (try dsimp only at hSw)
        go_simp
        all_goals with_reducible rfl
      try simp only [Act.put, List.getElem_toArray, List.getElem_cons_succ, List.getElem_cons_zero, List.setIfInBounds_toArray, List.set_cons_zero, List.set_cons_succ]
      refine wpAnyH_take (i := 17) (v := ?_) rfl (by kernel_rfl) (by kernel_rfl) (by kernel_rfl) (fun _ _ _ h => h) (Or.inl ⟨by rfl, ?_⟩) (by assumption) ?_
      rotate_left
      · intro w hSw
        (try dsimp only at hSw)
        go_simp
        all_goals with_reducible rfl
      try simp only [Act.put, List.getElem_toArray, List.getElem_cons_succ, List.getElem_cons_zero, List.setIfInBounds_toArray, List.set_cons_zero, List.set_cons_succ]
      refine wpAnyH_take (i := 18) (v := ?_) rfl (by kernel_rfl) (by kernel_rfl) (by kernel_rfl) (fun _ _ _ h => h) (Or.inl ⟨by rfl, ?_⟩) (by assumption) ?_
      rotate_left
      · intro w hSw
        (try dsimp only at hSw)
        go_simp
        all_goals with_reducible rfl
      try simp only [Act.put, List.getElem_toArray, List.getElem_cons_succ, List.getElem_cons_zero, List.setIfInBounds_toArray, List.set_cons_zero, List.set_cons_succ]
      refine wpAnyH_take (i := 19) (v := ?_) rfl (by kernel_rfl) (by kernel_rfl) (by kernel_rfl) (fun _ _ _ h => h) (Or.inl ⟨by rfl, ?_⟩) (by assumption) ?_
      rotate_left
      · intro w hSw
        (try dsimp only at hSw)
        go_simp
        all_goals with_reducible rfl
      try simp only [Act.put, List.getElem_toArray, List.getElem_cons_succ, List.getElem_cons_zero, List.setIfInBounds_toArray, List.set_cons_zero, List.set_cons_succ]
      refine wpAnyH_take (i := 20) (v := ?_) rfl (by kernel_rfl) (by kernel_rfl) (by kernel_rfl) (fun _ _ _ h => h) (Or.inl ⟨by rfl, ?_⟩) (by assumption) ?_
      rotate_left
      · intro w hSw
        (try dsimp only at hSw)
        go_simp
        all_goals with_reducible rfl
      try simp only [Act.put, List.getElem_toArray, List.getElem_cons_succ, List.getElem_cons_zero, List.setIfInBounds_toArray, List.set_cons_zero, List.set_cons_succ]
      refine wpAnyH_take (i := 21) (v := ?_) rfl (by kernel_rfl) (by kernel_rfl) (by kernel_rfl) (fun _ _ _ h => h) (Or.inl ⟨by rfl, ?_⟩) (by assumption) ?_
      rotate_left
      · intro w hSw
        (try dsimp only at hSw)
        go_simp
        all_goals with_reducible rfl
      try simp only [Act.put, List.getElem_toArray, List.getElem_cons_succ, List.getElem_cons_zero, List.setIfInBounds_toArray, List.set_cons_zero, List.set_cons_succ]
      refine wpAnyH_take (i := 22) (v := ?_) rfl (by kernel_rfl) (by kernel_rfl) (by kernel_rfl) (fun _ _ _ h => h) (Or.inl ⟨by rfl, ?_⟩) (by assumption) ?_
      rotate_left
      · intro w hSw
        (try dsimp only at hSw)
        go_simp
        all_goals with_reducible rfl
      try simp only [Act.put, List.getElem_toArray, List.getElem_cons_succ, List.getElem_cons_zero, List.setIfInBounds_toArray, List.set_cons_zero, List.set_cons_succ]
      refine wpAnyH_take (i := 23) (v := ?_) rfl (by kernel_rfl) (by kernel_rfl) (by kernel_rfl) (fun _ _ _ h => h) (Or.inl ⟨by rfl, ?_⟩) (by assumption) ?_
      rotate_left
      · intro w hSw
        (try dsimp only at hSw)
        go_simp
        all_goals with_reducible rfl
      try simp only [Act.put, List.getElem_toArray, List.getElem_cons_succ, List.getElem_cons_zero, List.setIfInBounds_toArray, List.set_cons_zero, List.set_cons_succ]
      refine wpAnyH_take (i := 24) (v := ?_) rfl (by kernel_rfl) (by kernel_rfl) (by kernel_rfl) (fun _ _ _ h => h) (Or.inl ⟨by rfl, ?_⟩) (by assumption) ?_
      rotate_left
      · intro w hSw
        (try dsimp only at hSw)
        go_simp
        all_goals with_reducible rfl
      try simp only [Act.put, List.getElem_toArray, List.getElem_cons_succ, List.getElem_cons_zero, List.setIfInBounds_toArray, List.set_cons_zero, List.set_cons_succ]
      refine wpAnyH_take (i := 25) (v := ?_) rfl (by kernel_rfl) (by kernel_rfl) (by kernel_rfl) (fun _ _ _ h => h) (Or.inl ⟨by rfl, ?_⟩) (by assumption) ?_
      rotate_left
      · intro w hSw
        (try dsimp only at hSw)
        go_simp
        all_goals with_reducible rfl
      try simp only [Act.put, List.getElem_toArray, List.getElem_cons_succ, List.getElem_cons_zero, List.setIfInBounds_toArray, List.set_cons_zero, List.set_cons_succ]
      refine wpAnyH_take (i := 26) (v := ?_) rfl (by kernel_rfl) (by kernel_rfl) (by kernel_rfl) (fun _ _ _ h => h) (Or.inl ⟨by rfl, ?_⟩) (by assumption) ?_
      rotate_left
      · intro w hSw
        (try dsimp only at hSw)
        go_simp
        all_goals with_reducible rfl
      try simp only [Act.put, List.getElem_toArray, List.getElem_cons_succ, List.getElem_cons_zero, List.setIfInBounds_toArray, List.set_cons_zero, List.set_cons_succ]
      refine wpAnyH_take (i := 27) (v := ?_) rfl (by kernel_rfl) (by kernel_rfl) (by kernel_rfl) (fun _ _ _ h => h) (Or.inl ⟨by rfl, ?_⟩) (by assumption) ?_
      rotate_left
      · intro w hSw
        (try dsimp only at hSw)
        go_simp
        all_goals with_reducible rfl
      try simp only [Act.put, List.getElem_toArray, List.getElem_cons_succ, List.getElem_cons_zero, List.setIfInBounds_toArray, List.set_cons_zero, List.set_cons_succ]
      refine wpAnyH_take (i := 28) (v := ?_) rfl (by kernel_rfl) (by kernel_rfl) (by kernel_rfl) (fun _ _ _ h => h) (Or.inl ⟨by rfl, ?_⟩) (by assumption) ?_
      rotate_left
      · intro w hSw
        (try dsimp only at hSw)
        go_simp
        all_goals with_reducible rfl
      try simp only [Act.put, List.getElem_toArray, List.getElem_cons_succ, List.getElem_cons_zero, List.setIfInBounds_toArray, List.set_cons_zero, List.set_cons_succ]
      refine wpAnyH_take (i := 29) (v := ?_) rfl (by kernel_rfl) (by kernel_rfl) (by kernel_rfl) (fun _ _ _ h => h) (Or.inl ⟨by rfl, ?_⟩) (by assumption) ?_
      rotate_left
      · intro w hSw
        (try dsimp only at hSw)
        go_simp
        all_goals with_reducible rfl
      try simp only [Act.put, List.getElem_toArray, List.getElem_cons_succ, List.getElem_cons_zero, List.setIfInBounds_toArray, List.set_cons_zero, List.set_cons_succ]
      refine wpAnyH_take (i := 30) (v := ?_) rfl (by kernel_rfl) (by kernel_rfl) (by kernel_rfl) (fun _ _ _ h => h) (Or.inl ⟨by rfl, ?_⟩) (by assumption) ?_
      rotate_left
      · intro w hSw
        (try dsimp only at hSw)
        go_simp
        all_goals with_reducible rfl
      try simp only [Act.put, List.getElem_toArray, List.getElem_cons_succ, List.getElem_cons_zero, List.setIfInBounds_toArray, List.set_cons_zero, List.set_cons_succ]
      refine wpAnyH_take (i := 31) (v := ?_) rfl (by kernel_rfl) (by kernel_rfl) (by kernel_rfl) (fun _ _ _ h => h) (Or.inl ⟨by rfl, ?_⟩) (by assumption) ?_
      rotate_left
      · intro w hSw
        (try dsimp only at hSw)
        go_simp
        all_goals with_reducible rfl
      try simp only [Act.put, List.getElem_toArray, List.getElem_cons_succ, List.getElem_cons_zero, List.setIfInBounds_toArray, List.set_cons_zero, List.set_cons_succ]
      refine wpAnyH_take (i := 32) (v := ?_) rfl (by kernel_rfl) (by kernel_rfl) (by kernel_rfl) (fun _ _ _ h => h) (Or.inl ⟨by rfl, ?_⟩) (by assumption) ?_
      rotate_left
      · intro w hSw
        (try dsimp only at hSw)
        go_simp
        all_goals with_reducible rfl
      try simp only [Act.put, List.getElem_toArray, List.getElem_cons_succ, List.getElem_cons_zero, List.setIfInBounds_toArray, List.set_cons_zero, List.set_cons_succ]
      refine wpAnyH_take (i := 33) (v := ?_) rfl (by kernel_rfl) (by kernel_rfl) (by kernel_rfl) (fun _ _ _ h => h) (Or.inl ⟨by rfl, ?_⟩) (by assumption) ?_
      rotate_left
      · intro w hSw
        (try dsimp only at hSw)
        go_simp
        all_goals with_reducible rfl
      try simp only [Act.put, List.getElem_toArray, List.getElem_cons_succ, List.getElem_cons_zero, List.setIfInBounds_toArray, List.set_cons_zero, List.set_cons_succ]
      refine wpAnyH_done (by kernel_rfl) ?_ _
      clear hHeld
      go_wp2
      go_roundw
      case rel => exact ⟨k + 1, N5, by omega, by go_num, rfl, .inl HX.out.2, Below.drew HX.out.1⟩
      case measure => simp [intOf]; omega
    · have HX := Lib.hid hnx
      clear hnx hN
      by_cases hkl : k < len
      · have hN2 : ¬ N < 20000 := fun h => hc ⟨hkl, h⟩
        clear hc
        have d1 : decide ((k : Int) < (len : Int)) = true := by simp; omega
        have d2 : decide ((N : Int) < 20000) = false := by simp; omega
        go_wp2
        all_goals
          go_ret
          exact ⟨_, rfl, fun h => (by first | (simp at h; done) | (simp at h; omega)), HX.out⟩
      · clear hc
        have d1 : decide ((k : Int) < (len : Int)) = false := by simp; omega
        go_wp2
        all_goals
          go_ret
          exact ⟨_, rfl, fun h => (by first | (simp at h; done) | (simp at h; omega)), HX.out⟩
end Go.Proofs.YtohiheohndmccaaGreat
