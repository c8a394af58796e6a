/- The reference's disk: put. -/
import Derived.Test.YtohiheohndmccaaGreatRdG
import Derived.Test.YtohiheohndmccaaGreatTail
namespace Go.Proofs.YtohiheohndmccaaGreat
open Go.RowKit
open Go.Maps
attribute [local go_sem] Oper.semAt_some

theorem OwnFl.alloc {w : World} {base : Nat} {v : Value} {es : List REnt} (h : OwnFl w base v es) (o : Obj) : OwnFl (w.alloc o) base v es := World.ownsRow.alloc h o
theorem OwnFl.mono {w : World} {base base' : Nat} {v : Value} {es : List REnt} (h : OwnFl w base v es) (hb : base' ≤ base) : OwnFl w base' v es := by
  refine ⟨h.1, ?_⟩
  rcases h.2 with h1 | ⟨g, cap, cur, e, h1, h2⟩
  · exact .inl h1
  · exact .inr ⟨g, cap, cur, e, Nat.le_trans hb h1, h2⟩
theorem RFs.one (x : World) (f : REnt) : RFs (x.alloc (.cells #[.string ⟨f.s.toArray⟩, .slice f.a f.bs.length f.c, .int .i64 (f.l : Int)] 70)) (some ⟨x.heap.size, 0, none⟩) 1 1 [f] :=
  ⟨rfl, Nat.le_refl _, by simp [maxLen], fun e => (by cases e), fun _ => ⟨x.heap.size, 0, rfl, by simp, fun j u hj => by
    rw [Nat.zero_add]
    refine (cell_of_row _ _ j _ _ _ (heap_alloc_new x _)).trans ?_
    have : rcells [f] = f.cells := by simp [rcells]
    rw [this, ← List.getElem?_toArray] at hj
    exact hj⟩⟩
theorem RFs.grown {w w' : World} {a : Option Addr} {n c : Nat} {es : List REnt} {r : Option Nat} (h : RFs w a n c es) (hg : w.grownBy w' r) (hr : ∀ g o, a = some ⟨g, o, none⟩ → r ≠ some g) : RFs w' a n c es :=
  ⟨h.len, h.le, h.max, h.none_, fun hne => by
    obtain ⟨g, o, e, hlt, hc⟩ := h.at_ hne
    refine ⟨g, o, e, Nat.lt_of_lt_of_le hlt hg.size, fun j u hj => ?_⟩
    exact (World.cell?_of_block (w := w) (a := ⟨g, o + j, none⟩) (hg.block g hlt (fun e' => hr g o e e'.symm))).trans (hc j u hj)⟩
section
variable {w : World} {rp : Nat} {t : St} {O : Nat → Prop} {a : Option Addr} {c : Nat} {es : List REnt}
theorem far_cellR {w : World} {p : Addr} {v : Value} (h : w.cell? p = some v) (w' : World) (hb : Below w.heap.size w w') : w'.cell? p = some v := (hb.cell (block_lt_of_cell h)).trans h
set_option linter.unusedSimpArgs false in
set_option maxRecDepth 100000 in
set_option maxHeartbeats 3200000 in
theorem rput_any (h : RdC w rp t O a c es) (f : REnt) (hn63 : es.length ≤ 63) (hne : ∀ e ∈ es, e.s ≠ f.s) (hG : Good (t.D.put (.string f.s) (.held f.fl)) t.room)
    (hf : Sl w w.heap.size f.a f.bs.length f.c f.bs ∧ (0 < f.bs.length → ∀ b o, f.a = some ⟨b, o, none⟩ → O b ∧ b ≠ rp)) :
    Calls Tryz.prog 70 #[.pointer (some ⟨rp, 0, none⟩), .agg #[.string ⟨f.s.toArray⟩, .slice f.a f.bs.length f.c, .int .i64 (f.l : Int)]] w fun e w' => e = .returned (.tuple #[]) ∧ RMv w rp O ⟨t.D.put (.string f.s) (.held f.fl), t.room, t.fuse, t.fails⟩ w' := by
  have hB1 : Below w.heap.size w (w.alloc (.cells #[.string ⟨f.s.toArray⟩, .slice f.a f.bs.length f.c, .int .i64 (f.l : Int)] 70)) := (Below.refl _ _).alloc (Nat.le_refl _) _
  obtain ⟨w1, hw1⟩ : ∃ w1, w1 = w.alloc (.cells #[.string ⟨f.s.toArray⟩, .slice f.a f.bs.length f.c, .int .i64 (f.l : Int)] 70) := ⟨_, rfl⟩
  have b0 : (w.alloc (.cells #[.string ⟨f.s.toArray⟩, .slice f.a f.bs.length f.c, .int .i64 (f.l : Int)] 70)).cell? ⟨w.heap.size, 0, none⟩ = some (.string ⟨f.s.toArray⟩) := (cell_of_row _ _ 0 _ _ _ (heap_alloc_new w (.cells #[.string ⟨f.s.toArray⟩, .slice f.a f.bs.length f.c, .int .i64 (f.l : Int)] 70))).trans rfl
  have b1 : (w.alloc (.cells #[.string ⟨f.s.toArray⟩, .slice f.a f.bs.length f.c, .int .i64 (f.l : Int)] 70)).cell? ⟨w.heap.size, 1, none⟩ = some (.slice f.a f.bs.length f.c) := (cell_of_row _ _ 1 _ _ _ (heap_alloc_new w (.cells #[.string ⟨f.s.toArray⟩, .slice f.a f.bs.length f.c, .int .i64 (f.l : Int)] 70))).trans rfl
  have b2 : (w.alloc (.cells #[.string ⟨f.s.toArray⟩, .slice f.a f.bs.length f.c, .int .i64 (f.l : Int)] 70)).cell? ⟨w.heap.size, 2, none⟩ = some (.int .i64 (f.l : Int)) := (cell_of_row _ _ 2 _ _ _ (heap_alloc_new w (.cells #[.string ⟨f.s.toArray⟩, .slice f.a f.bs.length f.c, .int .i64 (f.l : Int)] 70))).trans rfl
  rw [← hw1] at hB1 b0 b1 b2
  have h1 := h.below hB1
  have c1 := far_cellR h1.cell.2.1
  have hcap := h1.rfs.le
  have q0 := far_cellR b0
  have q1 := far_cellR b1
  have q2 := far_cellR b2
  have hrl := h1.lt rp h1.rpO
  have z1 := h1.cell.2.2.2.2 1
  have PE := Lib.hid (fun (w4 : World) (v4 : Value) (k : Nat) (hk : rput es f.s = k) (hE : Below w1.heap.size w1 w4) (ho : OwnFl w4 w1.heap.size v4 (es.take k ++ [f] ++ es.drop k)) =>
    h.relay (D' := t.D.put (.string f.s) (.held f.fl)) (hB1.trans (hE.mono hB1.size)) (ho.mono hB1.size) (by rw [h.D_, ← rD_put es f hne, hk]; simp) hG (fun e he => by
      rcases List.mem_append.1 he with he | he
      · rcases List.mem_append.1 he with he | he
        · exact .inl (List.mem_of_mem_take he)
        · have : e = f := by simpa using he
          subst this
          exact .inr hf
      · exact .inl (List.mem_of_mem_drop he)))
  have HK := Lib.hid (And.intro h (And.intro h1 (And.intro hB1 (And.intro hne (And.intro hG hf)))))
  obtain ⟨n, hn⟩ : ∃ n, n = es.length := ⟨_, rfl⟩
  rw [← hn] at c1 hn63 hcap
  have HN := Lib.hid hn
  obtain ⟨gF, hgF⟩ : ∃ gF, gF = w.heap.size := ⟨_, rfl⟩
  have Hw1 := Lib.hid hw1
  have HgF := Lib.hid hgF
  clear h h1 hB1 b0 b1 b2 hne hG hf hn
  go_enter Tryz.func70, Tryz.ntmps70
  go_wp2_with fail
  rw [← hw1, ← hgF]
  rw [← hgF] at q0 q1 q2
  clear hw1 hgF
  go_loopw [4] (fun i wr => ∃ k : Nat, k ≤ n ∧ i = .int .i64 (k : Int) ∧ (∀ j e, j < k → es[j]? = some e → bytesBefore e.s f.s = true) ∧ Below w1.heap.size w1 wr) (fun i _ => n - (intOf i).toNat)
  case atStart => exact ⟨0, Nat.zero_le _, rfl, fun j e hj => by omega, Below.refl _ _⟩
  case round =>
    obtain ⟨k, hk, rfl, hno, hnx⟩ := hrel
    have HX := Lib.hid hnx
    by_cases hlt : k < n
    · obtain ⟨g, hg, _, _, hgl, _, _, hc⟩ := HK.out.2.1.at_ (by have := HN.out; omega)
      have hke : k < es.length := by have := HN.out; omega
      have p0 := far_cellR (hc k es[k] (List.getElem?_eq_getElem hke)).1
      obtain ⟨e0, he0⟩ : ∃ e0, e0 = es[k] := ⟨_, rfl⟩
      rw [← he0] at p0
      have HE := Lib.hid (show es[k]? = some e0 by rw [he0]; exact List.getElem?_eq_getElem hke)
      have HNo := Lib.hid hno
      subst hg
      have hkn : (k : Int) < (n : Int) := by omega
      clear hc he0 hke hno hgl
      cases hb : bytesBefore e0.s f.s with
      | true =>
        have hb1 : Op.bytesLess (⟨e0.s.toArray⟩ : ByteArray).toList (⟨f.s.toArray⟩ : ByteArray).toList = true := by rw [toList_mk, toList_mk, bytesLess_before, hb]
        have hb2 : Op.bytesLess e0.s f.s = true := by rw [bytesLess_before, hb]
        go_upto_region 2 with fail
        refine wp_region_held_drew (S := fun x => Below w1.heap.size w1 x) (by kernel_rfl) (Below.drew HX.out) (fun hHeld => ?_)
        refine wpAnyH_take (i := 0) (v := ?_) rfl (by kernel_rfl) (by kernel_rfl) (by kernel_rfl) (fun _ _ _ h => h) (Or.inl ⟨by rfl, ?_⟩) (by assumption) ?_
        rotate_left
        · intro w hSw
          (try dsimp only at hSw)
          go_simp
          all_goals with_reducible rfl
        try simp only [Act.put, List.getElem_toArray, List.getElem_cons_succ, List.getElem_cons_zero, List.setIfInBounds_toArray, List.set_cons_zero, List.set_cons_succ]
        refine wpAnyH_take (i := 1) (v := ?_) rfl (by kernel_rfl) (by kernel_rfl) (by kernel_rfl) (fun _ _ _ h => h) (Or.inl ⟨by rfl, ?_⟩) (by assumption) ?_
        rotate_left
        · intro w hSw
          (try dsimp only at hSw)
          go_simp
          all_goals with_reducible rfl
        try simp only [Act.put, List.getElem_toArray, List.getElem_cons_succ, List.getElem_cons_zero, List.setIfInBounds_toArray, List.set_cons_zero, List.set_cons_succ]
        refine wpAnyH_take (i := 2) (v := ?_) rfl (by kernel_rfl) (by kernel_rfl) (by kernel_rfl) (fun _ _ _ h => h) (Or.inl ⟨by rfl, ?_⟩) (by assumption) ?_
        rotate_left
        · intro w hSw
          (try dsimp only at hSw)
          go_simp
          all_goals with_reducible rfl
        try simp only [Act.put, List.getElem_toArray, List.getElem_cons_succ, List.getElem_cons_zero, List.setIfInBounds_toArray, List.set_cons_zero, List.set_cons_succ]
        refine wpAnyH_take (i := 3) (v := ?_) rfl (by kernel_rfl) (by kernel_rfl) (by kernel_rfl) (fun _ _ _ h => h) (Or.inl ⟨by rfl, ?_⟩) (by assumption) ?_
        rotate_left
        · intro w hSw
          (try dsimp only at hSw)
          go_simp
          all_goals with_reducible rfl
        try simp only [Act.put, List.getElem_toArray, List.getElem_cons_succ, List.getElem_cons_zero, List.setIfInBounds_toArray, List.set_cons_zero, List.set_cons_succ]
        refine wpAnyH_take (i := 4) (v := ?_) rfl (by kernel_rfl) (by kernel_rfl) (by kernel_rfl) (fun _ _ _ h => h) (Or.inl ⟨by rfl, ?_⟩) (by assumption) ?_
        rotate_left
        · intro w hSw
          (try dsimp only at hSw)
          go_simp
          all_goals with_reducible rfl
        try simp only [Act.put, List.getElem_toArray, List.getElem_cons_succ, List.getElem_cons_zero, List.setIfInBounds_toArray, List.set_cons_zero, List.set_cons_succ]
        refine wpAnyH_take (i := 5) (v := ?_) rfl (by kernel_rfl) (by kernel_rfl) (by kernel_rfl) (fun _ _ _ h => h) (Or.inl ⟨by rfl, ?_⟩) (by assumption) ?_
        rotate_left
        · intro w hSw
          (try dsimp only at hSw)
          go_simp
          all_goals with_reducible rfl
        try simp only [Act.put, List.getElem_toArray, List.getElem_cons_succ, List.getElem_cons_zero, List.setIfInBounds_toArray, List.set_cons_zero, List.set_cons_succ]
        refine wpAnyH_take (i := 6) (v := ?_) rfl (by kernel_rfl) (by kernel_rfl) (by kernel_rfl) (fun _ _ _ h => h) (Or.inl ⟨by rfl, ?_⟩) (by assumption) ?_
        rotate_left
        · intro w hSw
          (try dsimp only at hSw)
          go_simp
          all_goals with_reducible rfl
        try simp only [Act.put, List.getElem_toArray, List.getElem_cons_succ, List.getElem_cons_zero, List.setIfInBounds_toArray, List.set_cons_zero, List.set_cons_succ]
        refine wpAnyH_take (i := 7) (v := ?_) rfl (by kernel_rfl) (by kernel_rfl) (by kernel_rfl) (fun _ _ _ h => h) (Or.inl ⟨by rfl, ?_⟩) (by assumption) ?_
        rotate_left
        · intro w hSw
          (try dsimp only at hSw)
          go_simp
          all_goals with_reducible rfl
        try simp only [Act.put, List.getElem_toArray, List.getElem_cons_succ, List.getElem_cons_zero, List.setIfInBounds_toArray, List.set_cons_zero, List.set_cons_succ]
        refine wpAnyH_take (i := 8) (v := ?_) rfl (by kernel_rfl) (by kernel_rfl) (by kernel_rfl) (fun _ _ _ h => h) (Or.inl ⟨by rfl, ?_⟩) (by assumption) ?_
        rotate_left
        · intro w hSw
          (try dsimp only at hSw)
          go_simp
          all_goals with_reducible rfl
        try simp only [Act.put, List.getElem_toArray, List.getElem_cons_succ, List.getElem_cons_zero, List.setIfInBounds_toArray, List.set_cons_zero, List.set_cons_succ]
        refine wpAnyH_take (i := 9) (v := ?_) rfl (by kernel_rfl) (by kernel_rfl) (by kernel_rfl) (fun _ _ _ h => h) (Or.inl ⟨by rfl, ?_⟩) (by assumption) ?_
        rotate_left
        · intro w hSw
          (try dsimp only at hSw)
          go_simp
          all_goals with_reducible rfl
        try simp only [Act.put, List.getElem_toArray, List.getElem_cons_succ, List.getElem_cons_zero, List.setIfInBounds_toArray, List.set_cons_zero, List.set_cons_succ]
        refine wpAnyH_take (i := 10) (v := ?_) rfl (by kernel_rfl) (by kernel_rfl) (by kernel_rfl) (fun _ _ _ h => h) (Or.inl ⟨by rfl, ?_⟩) (by assumption) ?_
        rotate_left
        · intro w hSw
          (try dsimp only at hSw)
          go_simp
          all_goals with_reducible rfl
        try simp only [Act.put, List.getElem_toArray, List.getElem_cons_succ, List.getElem_cons_zero, List.setIfInBounds_toArray, List.set_cons_zero, List.set_cons_succ]
        refine wpAnyH_take (i := 11) (v := ?_) rfl (by kernel_rfl) (by kernel_rfl) (by kernel_rfl) (fun _ _ _ h => h) (Or.inl ⟨by rfl, ?_⟩) (by assumption) ?_
        rotate_left
        · intro w hSw
          (try dsimp only at hSw)
          go_simp
          all_goals with_reducible rfl
        try simp only [Act.put, List.getElem_toArray, List.getElem_cons_succ, List.getElem_cons_zero, List.setIfInBounds_toArray, List.set_cons_zero, List.set_cons_succ]
        refine wpAnyH_take (i := 12) (v := ?_) rfl (by kernel_rfl) (by kernel_rfl) (by kernel_rfl) (fun _ _ _ h => h) (Or.inl ⟨by rfl, ?_⟩) (by assumption) ?_
        rotate_left
        · intro w hSw
          (try dsimp only at hSw)
          go_simp
          all_goals with_reducible rfl
        try simp only [Act.put, List.getElem_toArray, List.getElem_cons_succ, List.getElem_cons_zero, List.setIfInBounds_toArray, List.set_cons_zero, List.set_cons_succ]
        refine wpAnyH_take (i := 13) (v := ?_) rfl (by kernel_rfl) (by kernel_rfl) (by kernel_rfl) (fun _ _ _ h => h) (Or.inl ⟨by rfl, ?_⟩) (by assumption) ?_
        rotate_left
        · intro w hSw
          (try dsimp only at hSw)
          go_simp
          all_goals with_reducible rfl
        try simp only [Act.put, List.getElem_toArray, List.getElem_cons_succ, List.getElem_cons_zero, List.setIfInBounds_toArray, List.set_cons_zero, List.set_cons_succ]
        refine wpAnyH_take (i := 14) (v := ?_) rfl (by kernel_rfl) (by kernel_rfl) (by kernel_rfl) (fun _ _ _ h => h) (Or.inl ⟨by rfl, ?_⟩) (by assumption) ?_
        rotate_left
        · intro w hSw
          (try dsimp only at hSw)
          go_simp
          all_goals with_reducible rfl
        try simp only [Act.put, List.getElem_toArray, List.getElem_cons_succ, List.getElem_cons_zero, List.setIfInBounds_toArray, List.set_cons_zero, List.set_cons_succ]
        refine wpAnyH_take (i := 15) (v := ?_) rfl (by kernel_rfl) (by kernel_rfl) (by kernel_rfl) (fun _ _ _ h => h) (Or.inl ⟨by rfl, ?_⟩) (by assumption) ?_
        rotate_left
        · intro w hSw
          (try dsimp only at hSw)
          go_simp
          all_goals with_reducible rfl
        try simp only [Act.put, List.getElem_toArray, List.getElem_cons_succ, List.getElem_cons_zero, List.setIfInBounds_toArray, List.set_cons_zero, List.set_cons_succ]
        refine wpAnyH_take (i := 16) (v := ?_) rfl (by kernel_rfl) (by kernel_rfl) (by kernel_rfl) (fun _ _ _ h => h) (Or.inl ⟨by rfl, ?_⟩) (by assumption) ?_
        rotate_left
        · intro w hSw
          (try dsimp only at hSw)
          go_simp
          all_goals with_reducible rfl
        try simp only [Act.put, List.getElem_toArray, List.getElem_cons_succ, List.getElem_cons_zero, List.setIfInBounds_toArray, List.set_cons_zero, List.set_cons_succ]
        refine wpAnyH_take (i := 17) (v := ?_) rfl (by kernel_rfl) (by kernel_rfl) (by kernel_rfl) (fun _ _ _ h => h) (Or.inl ⟨by rfl, ?_⟩) (by assumption) ?_
        rotate_left
        · intro w hSw
          (try dsimp only at hSw)
          go_simp
          all_goals with_reducible rfl
        try simp only [Act.put, List.getElem_toArray, List.getElem_cons_succ, List.getElem_cons_zero, List.setIfInBounds_toArray, List.set_cons_zero, List.set_cons_succ]
        refine wpAnyH_take (i := 18) (v := ?_) rfl (by kernel_rfl) (by kernel_rfl) (by kernel_rfl) (fun _ _ _ h => h) (Or.inl ⟨by rfl, ?_⟩) (by assumption) ?_
        rotate_left
        · intro w hSw
          (try dsimp only at hSw)
          go_simp
          all_goals with_reducible rfl
        try simp only [Act.put, List.getElem_toArray, List.getElem_cons_succ, List.getElem_cons_zero, List.setIfInBounds_toArray, List.set_cons_zero, List.set_cons_succ]
        refine wpAnyH_take (i := 19) (v := ?_) rfl (by kernel_rfl) (by kernel_rfl) (by kernel_rfl) (fun _ _ _ h => h) (Or.inl ⟨by rfl, ?_⟩) (by assumption) ?_
        rotate_left
        · intro w hSw
          (try dsimp only at hSw)
          go_simp
          all_goals with_reducible rfl
        try simp only [Act.put, List.getElem_toArray, List.getElem_cons_succ, List.getElem_cons_zero, List.setIfInBounds_toArray, List.set_cons_zero, List.set_cons_succ]
        refine wpAnyH_done (by kernel_rfl) ?_ _
        clear hHeld
        have Hb := Lib.hid hb
        go_wp2
        go_roundw
        case measure => simp [intOf]; omega
        case rel =>
        refine ⟨k + 1, by omega, by go_num, fun j e hj he => ?_, Below.drew HX.out⟩
        by_cases hjk : j = k
        · subst hjk
          have := he.symm.trans HE.out
          injection this with this
          rw [this]
          exact Hb.out
        · exact HNo.out j e (by omega) he
      | false =>
        have hb1 : Op.bytesLess (⟨e0.s.toArray⟩ : ByteArray).toList (⟨f.s.toArray⟩ : ByteArray).toList = false := by rw [toList_mk, toList_mk, bytesLess_before, hb]
        have hb2 : Op.bytesLess e0.s f.s = false := by rw [bytesLess_before, hb]
        have Hk := Lib.hid (rput_hit es f.s k e0 HNo.out HE.out hb)
        go_upto_region 2 with fail
        refine wp_region_held_drew (S := fun x => Below w1.heap.size w1 x) (by kernel_rfl) (Below.drew HX.out) (fun hHeld => ?_)
        refine wpAnyH_take (i := 0) (v := ?_) rfl (by kernel_rfl) (by kernel_rfl) (by kernel_rfl) (fun _ _ _ h => h) (Or.inl ⟨by rfl, ?_⟩) (by assumption) ?_
        rotate_left
        · intro w hSw
          (try dsimp only at hSw)
          go_simp
          all_goals with_reducible rfl
        try simp only [Act.put, List.getElem_toArray, List.getElem_cons_succ, List.getElem_cons_zero, List.setIfInBounds_toArray, List.set_cons_zero, List.set_cons_succ]
        refine wpAnyH_take (i := 1) (v := ?_) rfl (by kernel_rfl) (by kernel_rfl) (by kernel_rfl) (fun _ _ _ h => h) (Or.inl ⟨by rfl, ?_⟩) (by assumption) ?_
        rotate_left
        · intro w hSw
          (try dsimp only at hSw)
          go_simp
          all_goals with_reducible rfl
        try simp only [Act.put, List.getElem_toArray, List.getElem_cons_succ, List.getElem_cons_zero, List.setIfInBounds_toArray, List.set_cons_zero, List.set_cons_succ]
        refine wpAnyH_take (i := 2) (v := ?_) rfl (by kernel_rfl) (by kernel_rfl) (by kernel_rfl) (fun _ _ _ h => h) (Or.inl ⟨by rfl, ?_⟩) (by assumption) ?_
        rotate_left
        · intro w hSw
          (try dsimp only at hSw)
          go_simp
          all_goals with_reducible rfl
        try simp only [Act.put, List.getElem_toArray, List.getElem_cons_succ, List.getElem_cons_zero, List.setIfInBounds_toArray, List.set_cons_zero, List.set_cons_succ]
        refine wpAnyH_take (i := 3) (v := ?_) rfl (by kernel_rfl) (by kernel_rfl) (by kernel_rfl) (fun _ _ _ h => h) (Or.inl ⟨by rfl, ?_⟩) (by assumption) ?_
        rotate_left
        · intro w hSw
          (try dsimp only at hSw)
          go_simp
          all_goals with_reducible rfl
        try simp only [Act.put, List.getElem_toArray, List.getElem_cons_succ, List.getElem_cons_zero, List.setIfInBounds_toArray, List.set_cons_zero, List.set_cons_succ]
        refine wpAnyH_take (i := 4) (v := ?_) rfl (by kernel_rfl) (by kernel_rfl) (by kernel_rfl) (fun _ _ _ h => h) (Or.inl ⟨by rfl, ?_⟩) (by assumption) ?_
        rotate_left
        · intro w hSw
          (try dsimp only at hSw)
          go_simp
          all_goals with_reducible rfl
        try simp only [Act.put, List.getElem_toArray, List.getElem_cons_succ, List.getElem_cons_zero, List.setIfInBounds_toArray, List.set_cons_zero, List.set_cons_succ]
        refine wpAnyH_take (i := 5) (v := ?_) rfl (by kernel_rfl) (by kernel_rfl) (by kernel_rfl) (fun _ _ _ h => h) (Or.inl ⟨by rfl, ?_⟩) (by assumption) ?_
        rotate_left
        · intro w hSw
          (try dsimp only at hSw)
          go_simp
          all_goals with_reducible rfl
        try simp only [Act.put, List.getElem_toArray, List.getElem_cons_succ, List.getElem_cons_zero, List.setIfInBounds_toArray, List.set_cons_zero, List.set_cons_succ]
        refine wpAnyH_take (i := 6) (v := ?_) rfl (by kernel_rfl) (by kernel_rfl) (by kernel_rfl) (fun _ _ _ h => h) (Or.inl ⟨by rfl, ?_⟩) (by assumption) ?_
        rotate_left
        · intro w hSw
          (try dsimp only at hSw)
          go_simp
          all_goals with_reducible rfl
        try simp only [Act.put, List.getElem_toArray, List.getElem_cons_succ, List.getElem_cons_zero, List.setIfInBounds_toArray, List.set_cons_zero, List.set_cons_succ]
        refine wpAnyH_take (i := 7) (v := ?_) rfl (by kernel_rfl) (by kernel_rfl) (by kernel_rfl) (fun _ _ _ h => h) (Or.inl ⟨by rfl, ?_⟩) (by assumption) ?_
        rotate_left
        · intro w hSw
          (try dsimp only at hSw)
          go_simp
          all_goals with_reducible rfl
        try simp only [Act.put, List.getElem_toArray, List.getElem_cons_succ, List.getElem_cons_zero, List.setIfInBounds_toArray, List.set_cons_zero, List.set_cons_succ]
        refine wpAnyH_take (i := 8) (v := ?_) rfl (by kernel_rfl) (by kernel_rfl) (by kernel_rfl) (fun _ _ _ h => h) (Or.inl ⟨by rfl, ?_⟩) (by assumption) ?_
        rotate_left
        · intro w hSw
          (try dsimp only at hSw)
          go_simp
          all_goals with_reducible rfl
        try simp only [Act.put, List.getElem_toArray, List.getElem_cons_succ, List.getElem_cons_zero, List.setIfInBounds_toArray, List.set_cons_zero, List.set_cons_succ]
        refine wpAnyH_take (i := 9) (v := ?_) rfl (by kernel_rfl) (by kernel_rfl) (by kernel_rfl) (fun _ _ _ h => h) (Or.inl ⟨by rfl, ?_⟩) (by assumption) ?_
        rotate_left
        · intro w hSw
          (try dsimp only at hSw)
          go_simp
          all_goals with_reducible rfl
        try simp only [Act.put, List.getElem_toArray, List.getElem_cons_succ, List.getElem_cons_zero, List.setIfInBounds_toArray, List.set_cons_zero, List.set_cons_succ]
        refine wpAnyH_take (i := 10) (v := ?_) rfl (by kernel_rfl) (by kernel_rfl) (by kernel_rfl) (fun _ _ _ h => h) (Or.inl ⟨by rfl, ?_⟩) (by assumption) ?_
        rotate_left
        · intro w hSw
          (try dsimp only at hSw)
          go_simp
          all_goals with_reducible rfl
        try simp only [Act.put, List.getElem_toArray, List.getElem_cons_succ, List.getElem_cons_zero, List.setIfInBounds_toArray, List.set_cons_zero, List.set_cons_succ]
        refine wpAnyH_take (i := 11) (v := ?_) rfl (by kernel_rfl) (by kernel_rfl) (by kernel_rfl) (fun _ _ _ h => h) (Or.inl ⟨by rfl, ?_⟩) (by assumption) ?_
        rotate_left
        · intro w hSw
          (try dsimp only at hSw)
          go_simp
          all_goals with_reducible rfl
        try simp only [Act.put, List.getElem_toArray, List.getElem_cons_succ, List.getElem_cons_zero, List.setIfInBounds_toArray, List.set_cons_zero, List.set_cons_succ]
        refine wpAnyH_take (i := 12) (v := ?_) rfl (by kernel_rfl) (by kernel_rfl) (by kernel_rfl) (fun _ _ _ h => h) (Or.inl ⟨by rfl, ?_⟩) (by assumption) ?_
        rotate_left
        · intro w hSw
          (try dsimp only at hSw)
          go_simp
          all_goals with_reducible rfl
        try simp only [Act.put, List.getElem_toArray, List.getElem_cons_succ, List.getElem_cons_zero, List.setIfInBounds_toArray, List.set_cons_zero, List.set_cons_succ]
        refine wpAnyH_take (i := 13) (v := ?_) rfl (by kernel_rfl) (by kernel_rfl) (by kernel_rfl) (fun _ _ _ h => h) (Or.inl ⟨by rfl, ?_⟩) (by assumption) ?_
        rotate_left
        · intro w hSw
          (try dsimp only at hSw)
          go_simp
          all_goals with_reducible rfl
        try simp only [Act.put, List.getElem_toArray, List.getElem_cons_succ, List.getElem_cons_zero, List.setIfInBounds_toArray, List.set_cons_zero, List.set_cons_succ]
        refine wpAnyH_take (i := 14) (v := ?_) rfl (by kernel_rfl) (by kernel_rfl) (by kernel_rfl) (fun _ _ _ h => h) (Or.inl ⟨by rfl, ?_⟩) (by assumption) ?_
        rotate_left
        · intro w hSw
          (try dsimp only at hSw)
          go_simp
          all_goals with_reducible rfl
        try simp only [Act.put, List.getElem_toArray, List.getElem_cons_succ, List.getElem_cons_zero, List.setIfInBounds_toArray, List.set_cons_zero, List.set_cons_succ]
        refine wpAnyH_take (i := 15) (v := ?_) rfl (by kernel_rfl) (by kernel_rfl) (by kernel_rfl) (fun _ _ _ h => h) (Or.inl ⟨by rfl, ?_⟩) (by assumption) ?_
        rotate_left
        · intro w hSw
          (try dsimp only at hSw)
          go_simp
          all_goals with_reducible rfl
        try simp only [Act.put, List.getElem_toArray, List.getElem_cons_succ, List.getElem_cons_zero, List.setIfInBounds_toArray, List.set_cons_zero, List.set_cons_succ]
        refine wpAnyH_take (i := 16) (v := ?_) rfl (by kernel_rfl) (by kernel_rfl) (by kernel_rfl) (fun _ _ _ h => h) (Or.inl ⟨by rfl, ?_⟩) (by assumption) ?_
        rotate_left
        · intro w hSw
          (try dsimp only at hSw)
          go_simp
          all_goals with_reducible rfl
        try simp only [Act.put, List.getElem_toArray, List.getElem_cons_succ, List.getElem_cons_zero, List.setIfInBounds_toArray, List.set_cons_zero, List.set_cons_succ]
        refine wpAnyH_take (i := 17) (v := ?_) rfl (by kernel_rfl) (by kernel_rfl) (by kernel_rfl) (fun _ _ _ h => h) (Or.inl ⟨by rfl, ?_⟩) (by assumption) ?_
        rotate_left
        · intro w hSw
          (try dsimp only at hSw)
          go_simp
          all_goals with_reducible rfl
        try simp only [Act.put, List.getElem_toArray, List.getElem_cons_succ, List.getElem_cons_zero, List.setIfInBounds_toArray, List.set_cons_zero, List.set_cons_succ]
        refine wpAnyH_take (i := 18) (v := ?_) rfl (by kernel_rfl) (by kernel_rfl) (by kernel_rfl) (fun _ _ _ h => h) (Or.inl ⟨by rfl, ?_⟩) (by assumption) ?_
        rotate_left
        · intro w hSw
          (try dsimp only at hSw)
          go_simp
          all_goals with_reducible rfl
        try simp only [Act.put, List.getElem_toArray, List.getElem_cons_succ, List.getElem_cons_zero, List.setIfInBounds_toArray, List.set_cons_zero, List.set_cons_succ]
        refine wpAnyH_take (i := 19) (v := ?_) rfl (by kernel_rfl) (by kernel_rfl) (by kernel_rfl) (fun _ _ _ h => h) (Or.inl ⟨by rfl, ?_⟩) (by assumption) ?_
        rotate_left
        · intro w hSw
          (try dsimp only at hSw)
          go_simp
          all_goals with_reducible rfl
        try simp only [Act.put, List.getElem_toArray, List.getElem_cons_succ, List.getElem_cons_zero, List.setIfInBounds_toArray, List.set_cons_zero, List.set_cons_succ]
        refine wpAnyH_done (by kernel_rfl) ?_ _
        clear hHeld hb1 hb2 hb p0
        have HX := Lib.hid (Below.drew HX.out)
        go_upto_region 4 with fail
        have kc1 : ∀ x, (Instr.slice 55 (.slice (some ⟨g, 0, none⟩) n c) none (some (.int .i64 (k : Int))) none).run Tryz.prog x = .ok (.slice (some ⟨g, 0, none⟩) k c) x := run_cut3_to (P := Tryz.prog) 55 70 Tryz.underlying55 info_file _ n c k (by omega)
        obtain ⟨a2, ha2⟩ : ∃ a2, a2 = fromA3 (some ⟨g, 0, none⟩) c k := ⟨_, rfl⟩
        obtain ⟨n2, hn2⟩ : ∃ n2, n2 = n - k := ⟨_, rfl⟩
        obtain ⟨c2, hc2⟩ : ∃ c2, c2 = c - k := ⟨_, rfl⟩
        have kc2 : ∀ x, (Instr.slice 55 (.slice (some ⟨g, 0, none⟩) n c) (some (.int .i64 (k : Int))) none none).run Tryz.prog x = .ok (.slice a2 n2 c2) x := fun x => by
          have := run_cut3_from (P := Tryz.prog) 55 70 Tryz.underlying55 info_file (some ⟨g, 0, none⟩) n c k (by omega) x
          rw [this, ha2, hn2, hc2]
        have RS := HK.out.2.1.rfs
        rw [← HN.out] at RS
        have RT := Lib.hid (RS.take (k := k) hk)
        have RD0 := RS.from_ (k := k) hk
        rw [← ha2, ← hn2, ← hc2] at RD0
        have RD := Lib.hid RD0
        have hl1 : (es.take k).length = k := by rw [List.length_take, ← HN.out]; omega
        have hn3 : k + n2 ≤ 63 := by omega
        have HP := Lib.hid (And.intro hl1 hn3)
        have zf := fun (x : World) (hx : Below w1.heap.size w1 x) => (World.frozen?_of_block (w := w1) (a := ⟨rp, 1, none⟩) (hx.block rp hrl)).trans z1
        clear RS RD0 ha2 hn2 hc2 hl1
        refine region_tail (fun x => Below w1.heap.size w1 x) 21 (by kernel_rfl) (Below.drew HX.out) (fun hHeld => ?_)
        refine takeT (i := 0) (v := ?_) rfl (by kernel_rfl) (by kernel_rfl) (by kernel_rfl) (by kernel_rfl) (fun _ _ _ h => h) (Or.inl ⟨by rfl, ?_⟩) (by assumption) ?_
        rotate_left
        · intro w hSw
          (try dsimp only at hSw)
          go_simp
          all_goals with_reducible rfl
        try simp only [Act.put, List.getElem_toArray, List.getElem_cons_succ, List.getElem_cons_zero, List.setIfInBounds_toArray, List.set_cons_zero, List.set_cons_succ]
        refine takeT (i := 2) (v := ?_) rfl (by kernel_rfl) (by kernel_rfl) (by kernel_rfl) (by kernel_rfl) (fun _ _ _ h => h) (Or.inl ⟨by rfl, ?_⟩) (by assumption) ?_
        rotate_left
        · intro w hSw
          (try dsimp only at hSw)
          go_simp
          all_goals with_reducible rfl
        try simp only [Act.put, List.getElem_toArray, List.getElem_cons_succ, List.getElem_cons_zero, List.setIfInBounds_toArray, List.set_cons_zero, List.set_cons_succ]
        refine takeT (i := 3) (v := ?_) rfl (by kernel_rfl) (by kernel_rfl) (by kernel_rfl) (by kernel_rfl) (fun _ _ _ h => h) (Or.inl ⟨by rfl, ?_⟩) (by assumption) ?_
        rotate_left
        · intro w hSw
          (try dsimp only at hSw)
          go_simp
          all_goals with_reducible rfl
        try simp only [Act.put, List.getElem_toArray, List.getElem_cons_succ, List.getElem_cons_zero, List.setIfInBounds_toArray, List.set_cons_zero, List.set_cons_succ]
        refine takeT (i := 4) (v := ?_) rfl (by kernel_rfl) (by kernel_rfl) (by kernel_rfl) (by kernel_rfl) (fun _ _ _ h => h) (Or.inl ⟨by rfl, ?_⟩) (by assumption) ?_
        rotate_left
        · intro w hSw
          (try dsimp only at hSw)
          go_simp
          all_goals with_reducible rfl
        try simp only [Act.put, List.getElem_toArray, List.getElem_cons_succ, List.getElem_cons_zero, List.setIfInBounds_toArray, List.set_cons_zero, List.set_cons_succ]
        refine takeT (i := 5) (v := ?_) rfl (by kernel_rfl) (by kernel_rfl) (by kernel_rfl) (by kernel_rfl) (fun _ _ _ h => h) (Or.inl ⟨by rfl, ?_⟩) (by assumption) ?_
        rotate_left
        · intro w hSw
          (try dsimp only at hSw)
          go_simp
          all_goals with_reducible rfl
        try simp only [Act.put, List.getElem_toArray, List.getElem_cons_succ, List.getElem_cons_zero, List.setIfInBounds_toArray, List.set_cons_zero, List.set_cons_succ]
        refine takeT (i := 6) (v := ?_) rfl (by kernel_rfl) (by kernel_rfl) (by kernel_rfl) (by kernel_rfl) (fun _ _ _ h => h) (Or.inl ⟨by rfl, ?_⟩) (by assumption) ?_
        rotate_left
        · intro w hSw
          (try dsimp only at hSw)
          go_simp
          all_goals with_reducible rfl
        try simp only [Act.put, List.getElem_toArray, List.getElem_cons_succ, List.getElem_cons_zero, List.setIfInBounds_toArray, List.set_cons_zero, List.set_cons_succ]
        refine takeT (i := 7) (v := ?_) rfl (by kernel_rfl) (by kernel_rfl) (by kernel_rfl) (by kernel_rfl) (fun _ _ _ h => h) (Or.inl ⟨by rfl, ?_⟩) (by assumption) ?_
        rotate_left
        · intro w hSw
          (try dsimp only at hSw)
          go_simp
          all_goals with_reducible rfl
        try simp only [Act.put, List.getElem_toArray, List.getElem_cons_succ, List.getElem_cons_zero, List.setIfInBounds_toArray, List.set_cons_zero, List.set_cons_succ]
        refine takeT (i := 9) (v := ?_) rfl (by kernel_rfl) (by kernel_rfl) (by kernel_rfl) (by kernel_rfl) (fun _ _ _ h => h) (Or.inl ⟨by rfl, ?_⟩) (by assumption) ?_
        rotate_left
        · intro w hSw
          (try dsimp only at hSw)
          go_simp
          all_goals with_reducible rfl
        try simp only [Act.put, List.getElem_toArray, List.getElem_cons_succ, List.getElem_cons_zero, List.setIfInBounds_toArray, List.set_cons_zero, List.set_cons_succ]
        refine takeT (i := 12) (v := ?_) rfl (by kernel_rfl) (by kernel_rfl) (by kernel_rfl) (by kernel_rfl) (fun _ _ _ h => h) (Or.inl ⟨by rfl, ?_⟩) (by assumption) ?_
        rotate_left
        · intro w hSw
          (try dsimp only at hSw)
          go_simp
          all_goals with_reducible rfl
        try simp only [Act.put, List.getElem_toArray, List.getElem_cons_succ, List.getElem_cons_zero, List.setIfInBounds_toArray, List.set_cons_zero, List.set_cons_succ]
        refine takeT (i := 13) (v := ?_) rfl (by kernel_rfl) (by kernel_rfl) (by kernel_rfl) (by kernel_rfl) (fun _ _ _ h => h) (Or.inl ⟨by rfl, ?_⟩) (by assumption) ?_
        rotate_left
        · intro w hSw
          (try dsimp only at hSw)
          go_simp
          all_goals with_reducible rfl
        try simp only [Act.put, List.getElem_toArray, List.getElem_cons_succ, List.getElem_cons_zero, List.setIfInBounds_toArray, List.set_cons_zero, List.set_cons_succ]
        refine takeT (i := 14) (v := ?_) rfl (by kernel_rfl) (by kernel_rfl) (by kernel_rfl) (by kernel_rfl) (fun _ _ _ h => h) (Or.inl ⟨by rfl, ?_⟩) (by assumption) ?_
        rotate_left
        · intro w hSw
          (try dsimp only at hSw)
          go_simp
          all_goals with_reducible rfl
        try simp only [Act.put, List.getElem_toArray, List.getElem_cons_succ, List.getElem_cons_zero, List.setIfInBounds_toArray, List.set_cons_zero, List.set_cons_succ]
        refine takeT (i := 15) (v := ?_) rfl (by kernel_rfl) (by kernel_rfl) (by kernel_rfl) (by kernel_rfl) (fun _ _ _ h => h) (Or.inl ⟨by rfl, ?_⟩) (by assumption) ?_
        rotate_left
        · intro w hSw
          (try dsimp only at hSw)
          go_simp
          all_goals with_reducible rfl
        try simp only [Act.put, List.getElem_toArray, List.getElem_cons_succ, List.getElem_cons_zero, List.setIfInBounds_toArray, List.set_cons_zero, List.set_cons_succ]
        refine takeT (i := 16) (v := ?_) rfl (by kernel_rfl) (by kernel_rfl) (by kernel_rfl) (by kernel_rfl) (fun _ _ _ h => h) (Or.inl ⟨by rfl, ?_⟩) (by assumption) ?_
        rotate_left
        · intro w hSw
          (try dsimp only at hSw)
          go_simp
          all_goals with_reducible rfl
        try simp only [Act.put, List.getElem_toArray, List.getElem_cons_succ, List.getElem_cons_zero, List.setIfInBounds_toArray, List.set_cons_zero, List.set_cons_succ]
        refine takeT (i := 17) (v := ?_) rfl (by kernel_rfl) (by kernel_rfl) (by kernel_rfl) (by kernel_rfl) (fun _ _ _ h => h) (Or.inl ⟨by rfl, ?_⟩) (by assumption) ?_
        rotate_left
        · intro w hSw
          (try dsimp only at hSw)
          go_simp
          all_goals with_reducible rfl
        try simp only [Act.put, List.getElem_toArray, List.getElem_cons_succ, List.getElem_cons_zero, List.setIfInBounds_toArray, List.set_cons_zero, List.set_cons_succ]
        have hH0 := Lib.hid hHeld
        refine heldT.ready (rs := [1, 10]) (by kernel_rfl) (by simp) ?_
        refine ReadyT.cons rfl (fun K hK => ?_) (ReadyT.cons rfl (fun K hK => ?_) ReadyT.nil)
        · go_simp
          have hA : Below w1.heap.size w1 (wr.drew.drew.alloc (.cells #[] 70)) := hHeld.alloc hHeld.size _
          have own1 : OwnFl (wr.drew.drew.alloc (.cells #[] 70)) w1.heap.size (.slice (some ⟨wr.drew.heap.size, 0, none⟩) 0 0) [] := OwnFl.none_lit wr.drew.drew w1.heap.size hHeld.size
          refine hK.out _ _ (Or.inl (hA)) ?_
          have hHeld := hA
          clear hK K
          try simp only [Act.put, List.getElem_toArray, List.getElem_cons_succ, List.getElem_cons_zero, List.setIfInBounds_toArray, List.set_cons_zero, List.set_cons_succ]
          refine heldT.ready (rs := [8, 10]) (by kernel_rfl) (by simp) ?_
          refine ReadyT.cons rfl (fun K hK => ?_) (ReadyT.cons rfl (fun K hK => ?_) ReadyT.nil)
          · refine wp_append_files (.tmp 28) (.tmp 34) rfl w1.heap.size (.slice (some ⟨wr.drew.heap.size, 0, none⟩) 0 0) [] rfl own1 (some ⟨g, 0, none⟩) k c (es.take k) rfl (RT.out.below hA) (by simp; have := HP.out.2; omega) hA.size ?_
            intro v2 w2 ho2 hg2
            rw [List.nil_append] at ho2
            have hB : Below w1.heap.size w1 w2 := hA.grown hg2 hA.size (fun q hq => (own1.at_base hq).1)
            refine hK.out _ _ (Or.inl (hB)) ?_
            have hHeld := hB
            clear hK K
            try simp only [Act.put, List.getElem_toArray, List.getElem_cons_succ, List.getElem_cons_zero, List.setIfInBounds_toArray, List.set_cons_zero, List.set_cons_succ]
            refine heldT.ready (rs := [10]) (by kernel_rfl) (by simp) ?_
            refine ReadyT.cons rfl (fun K hK => ?_) ReadyT.nil
            go_simp
            have hC : Below w1.heap.size w1 (w2.alloc (.cells #[.string ⟨f.s.toArray⟩, .slice f.a f.bs.length f.c, .int .i64 (f.l : Int)] 70)) := hB.alloc hB.size _
            refine hK.out _ _ (Or.inl (hC)) ?_
            have hHeld := hC
            clear hK K
            try simp only [Act.put, List.getElem_toArray, List.getElem_cons_succ, List.getElem_cons_zero, List.setIfInBounds_toArray, List.set_cons_zero, List.set_cons_succ]
            refine heldT.ready (rs := [11]) (by kernel_rfl) (by simp) ?_
            refine ReadyT.cons rfl (fun K hK => ?_) ReadyT.nil
            refine wp_append_files (.tmp 35) (.tmp 37) rfl w1.heap.size v2 (es.take k) rfl (ho2.alloc _) (some ⟨w2.heap.size, 0, none⟩) 1 1 [f] rfl (RFs.one w2 f) (by have := HP.out; omega) hC.size ?_
            intro v3 w3 ho3 hg3
            have hD : Below w1.heap.size w1 w3 := hC.grown hg3 hC.size (fun q hq => (ho2.at_base hq).1)
            refine hK.out _ _ (Or.inl (hD)) ?_
            have hHeld := hD
            clear hK K
            try simp only [Act.put, List.getElem_toArray, List.getElem_cons_succ, List.getElem_cons_zero, List.setIfInBounds_toArray, List.set_cons_zero, List.set_cons_succ]
            refine heldT.ready (rs := [18]) (by kernel_rfl) (by simp) ?_
            refine ReadyT.cons rfl (fun K hK => ?_) ReadyT.nil
            refine wp_append_files (.tmp 38) (.tmp 44) rfl w1.heap.size v3 (es.take k ++ [f]) rfl ho3 a2 n2 c2 (es.drop k) rfl (RD.out.below hD) (by have := HP.out; simp only [List.length_append, List.length_cons, List.length_nil]; omega) hD.size ?_
            intro v4 w4 ho4 hg4
            have hE : Below w1.heap.size w1 w4 := hD.grown hg4 hD.size (fun q hq => (ho3.at_base hq).1)
            have HF := PE.out w4 v4 k Hk.out hE ho4
            obtain ⟨a9, c9, hv9⟩ := ho4.form
            subst hv9
            generalize (es.take k ++ [f] ++ es.drop k).length = n9 at HF ⊢
            have HF := Lib.hid HF
            have y1 := c1 w4 hE
            have y2 := zf w4 hE
            refine hK.out _ _ (Or.inl (hE)) ?_
            have hHeld := hE
            clear hK K
            try simp only [Act.put, List.getElem_toArray, List.getElem_cons_succ, List.getElem_cons_zero, List.setIfInBounds_toArray, List.set_cons_zero, List.set_cons_succ]
            refine takeT2 20 (i := 19) (v := ?_) rfl (by kernel_rfl) (by kernel_rfl) (by kernel_rfl) (by kernel_rfl) (by kernel_rfl) (fun _ _ _ h => h) (Or.inl ⟨by rfl, ?_⟩) (by assumption) ?_
            rotate_left
            · intro w hSw
              (try dsimp only at hSw)
              go_simp
              all_goals with_reducible rfl
            try simp only [Act.put, List.getElem_toArray, List.getElem_cons_succ, List.getElem_cons_zero, List.setIfInBounds_toArray, List.set_cons_zero, List.set_cons_succ]
            refine takeT (i := 20) (v := ?_) rfl (by kernel_rfl) (by kernel_rfl) (by kernel_rfl) (by kernel_rfl) (fun _ _ _ h => h) (Or.inl ⟨by rfl, ?_⟩) (by assumption) ?_
            rotate_left
            · intro w hSw
              (try dsimp only at hSw)
              go_simp
              all_goals with_reducible rfl
            try simp only [Act.put, List.getElem_toArray, List.getElem_cons_succ, List.getElem_cons_zero, List.setIfInBounds_toArray, List.set_cons_zero, List.set_cons_succ]
            clear ho4 ho3
            refine heldT.ready (rs := [21]) (by kernel_rfl) (by simp) ?_
            refine ReadyT.cons rfl (fun K hK => ?_) ReadyT.nil
            go_simp
            refine hK.out _ _ (Or.inr rfl) ?_
            clear hK K
            try simp only [Act.put, List.getElem_toArray, List.getElem_cons_succ, List.getElem_cons_zero, List.setIfInBounds_toArray, List.set_cons_zero, List.set_cons_succ]
            refine heldT.done (by kernel_rfl) ?_ _
            go_wp2
            go_end0
            exact ⟨rfl, HF.out⟩
          · go_simp
            have hC : Below w1.heap.size w1 ((wr.drew.drew.alloc (.cells #[] 70)).alloc (.cells #[.string ⟨f.s.toArray⟩, .slice f.a f.bs.length f.c, .int .i64 (f.l : Int)] 70)) := hA.alloc hA.size _
            have src : RFs ((wr.drew.drew.alloc (.cells #[] 70)).alloc (.cells #[.string ⟨f.s.toArray⟩, .slice f.a f.bs.length f.c, .int .i64 (f.l : Int)] 70)) (some ⟨wr.drew.heap.size + 1, 0, none⟩) 1 1 [f] := by have := RFs.one (wr.drew.drew.alloc (.cells #[] 70)) f; simpa using this
            refine hK.out _ _ (Or.inl (hC)) ?_
            have hHeld := hC
            clear hK K
            try simp only [Act.put, List.getElem_toArray, List.getElem_cons_succ, List.getElem_cons_zero, List.setIfInBounds_toArray, List.set_cons_zero, List.set_cons_succ]
            refine heldT.ready (rs := [8]) (by kernel_rfl) (by simp) ?_
            refine ReadyT.cons rfl (fun K hK => ?_) ReadyT.nil
            refine wp_append_files (.tmp 28) (.tmp 34) rfl w1.heap.size (.slice (some ⟨wr.drew.heap.size, 0, none⟩) 0 0) [] rfl (own1.alloc _) (some ⟨g, 0, none⟩) k c (es.take k) rfl (RT.out.below hC) (by simp; have := HP.out.2; omega) hC.size ?_
            intro v2 w2 ho2 hg2
            rw [List.nil_append] at ho2
            have hB : Below w1.heap.size w1 w2 := hC.grown hg2 hC.size (fun q hq => (own1.at_base hq).1)
            have src2 := src.grown hg2 (fun g o e => by injection e with e; injection e with e; subst e; simp [Value.ownBlock])
            refine hK.out _ _ (Or.inl (hB)) ?_
            have hHeld := hB
            clear hK K
            try simp only [Act.put, List.getElem_toArray, List.getElem_cons_succ, List.getElem_cons_zero, List.setIfInBounds_toArray, List.set_cons_zero, List.set_cons_succ]
            refine heldT.ready (rs := [11]) (by kernel_rfl) (by simp) ?_
            refine ReadyT.cons rfl (fun K hK => ?_) ReadyT.nil
            refine wp_append_files (.tmp 35) (.tmp 37) rfl w1.heap.size v2 (es.take k) rfl ho2 (some ⟨wr.drew.heap.size + 1, 0, none⟩) 1 1 [f] rfl src2 (by have := HP.out; omega) hB.size ?_
            intro v3 w3 ho3 hg3
            have hD : Below w1.heap.size w1 w3 := hB.grown hg3 hB.size (fun q hq => (ho2.at_base hq).1)
            refine hK.out _ _ (Or.inl (hD)) ?_
            have hHeld := hD
            clear hK K
            try simp only [Act.put, List.getElem_toArray, List.getElem_cons_succ, List.getElem_cons_zero, List.setIfInBounds_toArray, List.set_cons_zero, List.set_cons_succ]
            refine heldT.ready (rs := [18]) (by kernel_rfl) (by simp) ?_
            refine ReadyT.cons rfl (fun K hK => ?_) ReadyT.nil
            refine wp_append_files (.tmp 38) (.tmp 44) rfl w1.heap.size v3 (es.take k ++ [f]) rfl ho3 a2 n2 c2 (es.drop k) rfl (RD.out.below hD) (by have := HP.out; simp only [List.length_append, List.length_cons, List.length_nil]; omega) hD.size ?_
            intro v4 w4 ho4 hg4
            have hE : Below w1.heap.size w1 w4 := hD.grown hg4 hD.size (fun q hq => (ho3.at_base hq).1)
            have HF := PE.out w4 v4 k Hk.out hE ho4
            obtain ⟨a9, c9, hv9⟩ := ho4.form
            subst hv9
            generalize (es.take k ++ [f] ++ es.drop k).length = n9 at HF ⊢
            have HF := Lib.hid HF
            have y1 := c1 w4 hE
            have y2 := zf w4 hE
            refine hK.out _ _ (Or.inl (hE)) ?_
            have hHeld := hE
            clear hK K
            try simp only [Act.put, List.getElem_toArray, List.getElem_cons_succ, List.getElem_cons_zero, List.setIfInBounds_toArray, List.set_cons_zero, List.set_cons_succ]
            refine takeT2 20 (i := 19) (v := ?_) rfl (by kernel_rfl) (by kernel_rfl) (by kernel_rfl) (by kernel_rfl) (by kernel_rfl) (fun _ _ _ h => h) (Or.inl ⟨by rfl, ?_⟩) (by assumption) ?_
            rotate_left
            · intro w hSw
              (try dsimp only at hSw)
              go_simp
              all_goals with_reducible rfl
            try simp only [Act.put, List.getElem_toArray, List.getElem_cons_succ, List.getElem_cons_zero, List.setIfInBounds_toArray, List.set_cons_zero, List.set_cons_succ]
            refine takeT (i := 20) (v := ?_) rfl (by kernel_rfl) (by kernel_rfl) (by kernel_rfl) (by kernel_rfl) (fun _ _ _ h => h) (Or.inl ⟨by rfl, ?_⟩) (by assumption) ?_
            rotate_left
            · intro w hSw
              (try dsimp only at hSw)
              go_simp
              all_goals with_reducible rfl
            try simp only [Act.put, List.getElem_toArray, List.getElem_cons_succ, List.getElem_cons_zero, List.setIfInBounds_toArray, List.set_cons_zero, List.set_cons_succ]
            clear ho4 ho3
            refine heldT.ready (rs := [21]) (by kernel_rfl) (by simp) ?_
            refine ReadyT.cons rfl (fun K hK => ?_) ReadyT.nil
            go_simp
            refine hK.out _ _ (Or.inr rfl) ?_
            clear hK K
            try simp only [Act.put, List.getElem_toArray, List.getElem_cons_succ, List.getElem_cons_zero, List.setIfInBounds_toArray, List.set_cons_zero, List.set_cons_succ]
            refine heldT.done (by kernel_rfl) ?_ _
            go_wp2
            go_end0
            exact ⟨rfl, HF.out⟩
        · go_simp
          have hA : Below w1.heap.size w1 (wr.drew.drew.alloc (.cells #[.string ⟨f.s.toArray⟩, .slice f.a f.bs.length f.c, .int .i64 (f.l : Int)] 70)) := hHeld.alloc hHeld.size _
          have src : RFs (wr.drew.drew.alloc (.cells #[.string ⟨f.s.toArray⟩, .slice f.a f.bs.length f.c, .int .i64 (f.l : Int)] 70)) (some ⟨wr.drew.heap.size, 0, none⟩) 1 1 [f] := RFs.one wr.drew.drew f
          refine hK.out _ _ (Or.inl (hA)) ?_
          have hHeld := hA
          clear hK K
          try simp only [Act.put, List.getElem_toArray, List.getElem_cons_succ, List.getElem_cons_zero, List.setIfInBounds_toArray, List.set_cons_zero, List.set_cons_succ]
          refine heldT.ready (rs := [1]) (by kernel_rfl) (by simp) ?_
          refine ReadyT.cons rfl (fun K hK => ?_) ReadyT.nil
          go_simp
          have hC : Below w1.heap.size w1 ((wr.drew.drew.alloc (.cells #[.string ⟨f.s.toArray⟩, .slice f.a f.bs.length f.c, .int .i64 (f.l : Int)] 70)).alloc (.cells #[] 70)) := hA.alloc hA.size _
          have own1 : OwnFl ((wr.drew.drew.alloc (.cells #[.string ⟨f.s.toArray⟩, .slice f.a f.bs.length f.c, .int .i64 (f.l : Int)] 70)).alloc (.cells #[] 70)) w1.heap.size (.slice (some ⟨wr.drew.heap.size + 1, 0, none⟩) 0 0) [] := by have := OwnFl.none_lit (wr.drew.drew.alloc (.cells #[.string ⟨f.s.toArray⟩, .slice f.a f.bs.length f.c, .int .i64 (f.l : Int)] 70)) w1.heap.size hA.size; simpa using this
          have src1 := src.grown (World.grownBy_alloc _ (.cells #[] 70) none) (fun g o e h => by cases h)
          refine hK.out _ _ (Or.inl (hC)) ?_
          have hHeld := hC
          clear hK K
          try simp only [Act.put, List.getElem_toArray, List.getElem_cons_succ, List.getElem_cons_zero, List.setIfInBounds_toArray, List.set_cons_zero, List.set_cons_succ]
          refine heldT.ready (rs := [8]) (by kernel_rfl) (by simp) ?_
          refine ReadyT.cons rfl (fun K hK => ?_) ReadyT.nil
          refine wp_append_files (.tmp 28) (.tmp 34) rfl w1.heap.size (.slice (some ⟨wr.drew.heap.size + 1, 0, none⟩) 0 0) [] rfl own1 (some ⟨g, 0, none⟩) k c (es.take k) rfl (RT.out.below hC) (by simp; have := HP.out.2; omega) hC.size ?_
          intro v2 w2 ho2 hg2
          rw [List.nil_append] at ho2
          have hB : Below w1.heap.size w1 w2 := hC.grown hg2 hC.size (fun q hq => (own1.at_base hq).1)
          have src2 := src1.grown hg2 (fun g o e => by injection e with e; injection e with e; subst e; simp [Value.ownBlock])
          refine hK.out _ _ (Or.inl (hB)) ?_
          have hHeld := hB
          clear hK K
          try simp only [Act.put, List.getElem_toArray, List.getElem_cons_succ, List.getElem_cons_zero, List.setIfInBounds_toArray, List.set_cons_zero, List.set_cons_succ]
          refine heldT.ready (rs := [11]) (by kernel_rfl) (by simp) ?_
          refine ReadyT.cons rfl (fun K hK => ?_) ReadyT.nil
          refine wp_append_files (.tmp 35) (.tmp 37) rfl w1.heap.size v2 (es.take k) rfl ho2 (some ⟨wr.drew.heap.size, 0, none⟩) 1 1 [f] rfl src2 (by have := HP.out; omega) hB.size ?_
          intro v3 w3 ho3 hg3
          have hD : Below w1.heap.size w1 w3 := hB.grown hg3 hB.size (fun q hq => (ho2.at_base hq).1)
          refine hK.out _ _ (Or.inl (hD)) ?_
          have hHeld := hD
          clear hK K
          try simp only [Act.put, List.getElem_toArray, List.getElem_cons_succ, List.getElem_cons_zero, List.setIfInBounds_toArray, List.set_cons_zero, List.set_cons_succ]
          refine heldT.ready (rs := [18]) (by kernel_rfl) (by simp) ?_
          refine ReadyT.cons rfl (fun K hK => ?_) ReadyT.nil
          refine wp_append_files (.tmp 38) (.tmp 44) rfl w1.heap.size v3 (es.take k ++ [f]) rfl ho3 a2 n2 c2 (es.drop k) rfl (RD.out.below hD) (by have := HP.out; simp only [List.length_append, List.length_cons, List.length_nil]; omega) hD.size ?_
          intro v4 w4 ho4 hg4
          have hE : Below w1.heap.size w1 w4 := hD.grown hg4 hD.size (fun q hq => (ho3.at_base hq).1)
          have HF := PE.out w4 v4 k Hk.out hE ho4
          obtain ⟨a9, c9, hv9⟩ := ho4.form
          subst hv9
          generalize (es.take k ++ [f] ++ es.drop k).length = n9 at HF ⊢
          have HF := Lib.hid HF
          have y1 := c1 w4 hE
          have y2 := zf w4 hE
          refine hK.out _ _ (Or.inl (hE)) ?_
          have hHeld := hE
          clear hK K
          try simp only [Act.put, List.getElem_toArray, List.getElem_cons_succ, List.getElem_cons_zero, List.setIfInBounds_toArray, List.set_cons_zero, List.set_cons_succ]
          refine takeT2 20 (i := 19) (v := ?_) rfl (by kernel_rfl) (by kernel_rfl) (by kernel_rfl) (by kernel_rfl) (by kernel_rfl) (fun _ _ _ h => h) (Or.inl ⟨by rfl, ?_⟩) (by assumption) ?_
          rotate_left
          · intro w hSw
            (try dsimp only at hSw)
            go_simp
            all_goals with_reducible rfl
          try simp only [Act.put, List.getElem_toArray, List.getElem_cons_succ, List.getElem_cons_zero, List.setIfInBounds_toArray, List.set_cons_zero, List.set_cons_succ]
          refine takeT (i := 20) (v := ?_) rfl (by kernel_rfl) (by kernel_rfl) (by kernel_rfl) (by kernel_rfl) (fun _ _ _ h => h) (Or.inl ⟨by rfl, ?_⟩) (by assumption) ?_
          rotate_left
          · intro w hSw
            (try dsimp only at hSw)
            go_simp
            all_goals with_reducible rfl
          try simp only [Act.put, List.getElem_toArray, List.getElem_cons_succ, List.getElem_cons_zero, List.setIfInBounds_toArray, List.set_cons_zero, List.set_cons_succ]
          clear ho4 ho3
          refine heldT.ready (rs := [21]) (by kernel_rfl) (by simp) ?_
          refine ReadyT.cons rfl (fun K hK => ?_) ReadyT.nil
          go_simp
          refine hK.out _ _ (Or.inr rfl) ?_
          clear hK K
          try simp only [Act.put, List.getElem_toArray, List.getElem_cons_succ, List.getElem_cons_zero, List.setIfInBounds_toArray, List.set_cons_zero, List.set_cons_succ]
          refine heldT.done (by kernel_rfl) ?_ _
          go_wp2
          go_end0
          exact ⟨rfl, HF.out⟩
    · have hkn : k = n := by omega
      have Hk := Lib.hid (show rput es f.s = k by
        have h2 := rput_skip es f.s k hno (by have := HN.out; omega)
        have h3 := rput_le es f.s
        have := HN.out
        omega)
      have hkn2 : ¬ (k : Int) < (n : Int) := by omega
      clear hno hkn
      go_upto_region 2 with fail
      refine wp_region_held_drew (S := fun x => Below w1.heap.size w1 x) (by kernel_rfl) (Below.drew HX.out) (fun hHeld => ?_)
      refine wpAnyH_take (i := 0) (v := ?_) rfl (by kernel_rfl) (by kernel_rfl) (by kernel_rfl) (fun _ _ _ h => h) (Or.inl ⟨by rfl, ?_⟩) (by assumption) ?_
      rotate_left
      · intro w hSw
        (try dsimp only at hSw)
        go_simp
        all_goals with_reducible rfl
      try simp only [Act.put, List.getElem_toArray, List.getElem_cons_succ, List.getElem_cons_zero, List.setIfInBounds_toArray, List.set_cons_zero, List.set_cons_succ]
      refine wpAnyH_take (i := 1) (v := ?_) rfl (by kernel_rfl) (by kernel_rfl) (by kernel_rfl) (fun _ _ _ h => h) (Or.inl ⟨by rfl, ?_⟩) (by assumption) ?_
      rotate_left
      · intro w hSw
        (try dsimp only at hSw)
        go_simp
        all_goals with_reducible rfl
      try simp only [Act.put, List.getElem_toArray, List.getElem_cons_succ, List.getElem_cons_zero, List.setIfInBounds_toArray, List.set_cons_zero, List.set_cons_succ]
      refine wpAnyH_take (i := 2) (v := ?_) rfl (by kernel_rfl) (by kernel_rfl) (by kernel_rfl) (fun _ _ _ h => h) (Or.inl ⟨by rfl, ?_⟩) (by assumption) ?_
      rotate_left
      · intro w hSw
        (try dsimp only at hSw)
        go_simp
        all_goals with_reducible rfl
      try simp only [Act.put, List.getElem_toArray, List.getElem_cons_succ, List.getElem_cons_zero, List.setIfInBounds_toArray, List.set_cons_zero, List.set_cons_succ]
      refine wpAnyH_take (i := 3) (v := ?_) rfl (by kernel_rfl) (by kernel_rfl) (by kernel_rfl) (fun _ _ _ h => h) (Or.inl ⟨by rfl, ?_⟩) (by assumption) ?_
      rotate_left
      · intro w hSw
        (try dsimp only at hSw)
        go_simp
        all_goals with_reducible rfl
      try simp only [Act.put, List.getElem_toArray, List.getElem_cons_succ, List.getElem_cons_zero, List.setIfInBounds_toArray, List.set_cons_zero, List.set_cons_succ]
      refine wpAnyH_take (i := 4) (v := ?_) rfl (by kernel_rfl) (by kernel_rfl) (by kernel_rfl) (fun _ _ _ h => h) (Or.inl ⟨by rfl, ?_⟩) (by assumption) ?_
      rotate_left
      · intro w hSw
        (try dsimp only at hSw)
        go_simp
        all_goals with_reducible rfl
      try simp only [Act.put, List.getElem_toArray, List.getElem_cons_succ, List.getElem_cons_zero, List.setIfInBounds_toArray, List.set_cons_zero, List.set_cons_succ]
      refine wpAnyH_take (i := 5) (v := ?_) rfl (by kernel_rfl) (by kernel_rfl) (by kernel_rfl) (fun _ _ _ h => h) (Or.inl ⟨by rfl, ?_⟩) (by assumption) ?_
      rotate_left
      · intro w hSw
        (try dsimp only at hSw)
        go_simp
        all_goals with_reducible rfl
      try simp only [Act.put, List.getElem_toArray, List.getElem_cons_succ, List.getElem_cons_zero, List.setIfInBounds_toArray, List.set_cons_zero, List.set_cons_succ]
      refine wpAnyH_take (i := 6) (v := ?_) rfl (by kernel_rfl) (by kernel_rfl) (by kernel_rfl) (fun _ _ _ h => h) (Or.inl ⟨by rfl, ?_⟩) (by assumption) ?_
      rotate_left
      · intro w hSw
        (try dsimp only at hSw)
        go_simp
        all_goals with_reducible rfl
      try simp only [Act.put, List.getElem_toArray, List.getElem_cons_succ, List.getElem_cons_zero, List.setIfInBounds_toArray, List.set_cons_zero, List.set_cons_succ]
      refine wpAnyH_take (i := 7) (v := ?_) rfl (by kernel_rfl) (by kernel_rfl) (by kernel_rfl) (fun _ _ _ h => h) (Or.inl ⟨by rfl, ?_⟩) (by assumption) ?_
      rotate_left
      · intro w hSw
        (try dsimp only at hSw)
        go_simp
        all_goals with_reducible rfl
      try simp only [Act.put, List.getElem_toArray, List.getElem_cons_succ, List.getElem_cons_zero, List.setIfInBounds_toArray, List.set_cons_zero, List.set_cons_succ]
      refine wpAnyH_take (i := 8) (v := undef) rfl (by kernel_rfl) (by kernel_rfl) (by kernel_rfl) (fun _ _ _ h => h) (Or.inr ⟨by rfl, rfl⟩) (by assumption) ?_
      try simp only [Act.put, List.getElem_toArray, List.getElem_cons_succ, List.getElem_cons_zero, List.setIfInBounds_toArray, List.set_cons_zero, List.set_cons_succ]
      refine wpAnyH_take (i := 9) (v := undef) rfl (by kernel_rfl) (by kernel_rfl) (by kernel_rfl) (fun _ _ _ h => h) (Or.inr ⟨by rfl, rfl⟩) (by assumption) ?_
      try simp only [Act.put, List.getElem_toArray, List.getElem_cons_succ, List.getElem_cons_zero, List.setIfInBounds_toArray, List.set_cons_zero, List.set_cons_succ]
      refine wpAnyH_take (i := 10) (v := undef) rfl (by kernel_rfl) (by kernel_rfl) (by kernel_rfl) (fun _ _ _ h => h) (Or.inr ⟨by rfl, rfl⟩) (by assumption) ?_
      try simp only [Act.put, List.getElem_toArray, List.getElem_cons_succ, List.getElem_cons_zero, List.setIfInBounds_toArray, List.set_cons_zero, List.set_cons_succ]
      refine wpAnyH_take (i := 11) (v := undef) rfl (by kernel_rfl) (by kernel_rfl) (by kernel_rfl) (fun _ _ _ h => h) (Or.inr ⟨by rfl, rfl⟩) (by assumption) ?_
      try simp only [Act.put, List.getElem_toArray, List.getElem_cons_succ, List.getElem_cons_zero, List.setIfInBounds_toArray, List.set_cons_zero, List.set_cons_succ]
      refine wpAnyH_take (i := 12) (v := undef) rfl (by kernel_rfl) (by kernel_rfl) (by kernel_rfl) (fun _ _ _ h => h) (Or.inr ⟨by rfl, rfl⟩) (by assumption) ?_
      try simp only [Act.put, List.getElem_toArray, List.getElem_cons_succ, List.getElem_cons_zero, List.setIfInBounds_toArray, List.set_cons_zero, List.set_cons_succ]
      refine wpAnyH_take (i := 13) (v := undef) rfl (by kernel_rfl) (by kernel_rfl) (by kernel_rfl) (fun _ _ _ h => h) (Or.inr ⟨by rfl, rfl⟩) (by assumption) ?_
      try simp only [Act.put, List.getElem_toArray, List.getElem_cons_succ, List.getElem_cons_zero, List.setIfInBounds_toArray, List.set_cons_zero, List.set_cons_succ]
      refine wpAnyH_take (i := 14) (v := undef) rfl (by kernel_rfl) (by kernel_rfl) (by kernel_rfl) (fun _ _ _ h => h) (Or.inr ⟨by rfl, rfl⟩) (by assumption) ?_
      try simp only [Act.put, List.getElem_toArray, List.getElem_cons_succ, List.getElem_cons_zero, List.setIfInBounds_toArray, List.set_cons_zero, List.set_cons_succ]
      refine wpAnyH_take (i := 15) (v := undef) rfl (by kernel_rfl) (by kernel_rfl) (by kernel_rfl) (fun _ _ _ h => h) (Or.inr ⟨by rfl, rfl⟩) (by assumption) ?_
      try simp only [Act.put, List.getElem_toArray, List.getElem_cons_succ, List.getElem_cons_zero, List.setIfInBounds_toArray, List.set_cons_zero, List.set_cons_succ]
      refine wpAnyH_take (i := 16) (v := undef) rfl (by kernel_rfl) (by kernel_rfl) (by kernel_rfl) (fun _ _ _ h => h) (Or.inr ⟨by rfl, rfl⟩) (by assumption) ?_
      try simp only [Act.put, List.getElem_toArray, List.getElem_cons_succ, List.getElem_cons_zero, List.setIfInBounds_toArray, List.set_cons_zero, List.set_cons_succ]
      refine wpAnyH_take (i := 17) (v := undef) rfl (by kernel_rfl) (by kernel_rfl) (by kernel_rfl) (fun _ _ _ h => h) (Or.inr ⟨by rfl, rfl⟩) (by assumption) ?_
      try simp only [Act.put, List.getElem_toArray, List.getElem_cons_succ, List.getElem_cons_zero, List.setIfInBounds_toArray, List.set_cons_zero, List.set_cons_succ]
      refine wpAnyH_take (i := 18) (v := undef) rfl (by kernel_rfl) (by kernel_rfl) (by kernel_rfl) (fun _ _ _ h => h) (Or.inr ⟨by rfl, rfl⟩) (by assumption) ?_
      try simp only [Act.put, List.getElem_toArray, List.getElem_cons_succ, List.getElem_cons_zero, List.setIfInBounds_toArray, List.set_cons_zero, List.set_cons_succ]
      refine wpAnyH_take (i := 19) (v := ?_) rfl (by kernel_rfl) (by kernel_rfl) (by kernel_rfl) (fun _ _ _ h => h) (Or.inl ⟨by rfl, ?_⟩) (by assumption) ?_
      rotate_left
      · intro w hSw
        (try dsimp only at hSw)
        go_simp
        all_goals with_reducible rfl
      try simp only [Act.put, List.getElem_toArray, List.getElem_cons_succ, List.getElem_cons_zero, List.setIfInBounds_toArray, List.set_cons_zero, List.set_cons_succ]
      refine wpAnyH_done (by kernel_rfl) ?_ _
      clear hHeld
      have HX := Lib.hid (Below.drew HX.out)
      go_upto_region 4 with fail
      have kc1 : ∀ x, (Instr.slice 55 (.slice a n c) none (some (.int .i64 (k : Int))) none).run Tryz.prog x = .ok (.slice a k c) x := run_cut3_to (P := Tryz.prog) 55 70 Tryz.underlying55 info_file _ n c k (by omega)
      obtain ⟨a2, ha2⟩ : ∃ a2, a2 = fromA3 a c k := ⟨_, rfl⟩
      obtain ⟨n2, hn2⟩ : ∃ n2, n2 = n - k := ⟨_, rfl⟩
      obtain ⟨c2, hc2⟩ : ∃ c2, c2 = c - k := ⟨_, rfl⟩
      have kc2 : ∀ x, (Instr.slice 55 (.slice a n c) (some (.int .i64 (k : Int))) none none).run Tryz.prog x = .ok (.slice a2 n2 c2) x := fun x => by
        have := run_cut3_from (P := Tryz.prog) 55 70 Tryz.underlying55 info_file a n c k (by omega) x
        rw [this, ha2, hn2, hc2]
      have RS := HK.out.2.1.rfs
      rw [← HN.out] at RS
      have RT := Lib.hid (RS.take (k := k) hk)
      have RD0 := RS.from_ (k := k) hk
      rw [← ha2, ← hn2, ← hc2] at RD0
      have RD := Lib.hid RD0
      have hl1 : (es.take k).length = k := by rw [List.length_take, ← HN.out]; omega
      have hn3 : k + n2 ≤ 63 := by omega
      have HP := Lib.hid (And.intro hl1 hn3)
      have zf := fun (x : World) (hx : Below w1.heap.size w1 x) => (World.frozen?_of_block (w := w1) (a := ⟨rp, 1, none⟩) (hx.block rp hrl)).trans z1
      clear RS RD0 ha2 hn2 hc2 hl1
      refine region_tail (fun x => Below w1.heap.size w1 x) 21 (by kernel_rfl) (Below.drew HX.out) (fun hHeld => ?_)
      refine takeT (i := 0) (v := ?_) rfl (by kernel_rfl) (by kernel_rfl) (by kernel_rfl) (by kernel_rfl) (fun _ _ _ h => h) (Or.inl ⟨by rfl, ?_⟩) (by assumption) ?_
      rotate_left
      · intro w hSw
        (try dsimp only at hSw)
        go_simp
        all_goals with_reducible rfl
      try simp only [Act.put, List.getElem_toArray, List.getElem_cons_succ, List.getElem_cons_zero, List.setIfInBounds_toArray, List.set_cons_zero, List.set_cons_succ]
      refine takeT (i := 2) (v := ?_) rfl (by kernel_rfl) (by kernel_rfl) (by kernel_rfl) (by kernel_rfl) (fun _ _ _ h => h) (Or.inl ⟨by rfl, ?_⟩) (by assumption) ?_
      rotate_left
      · intro w hSw
        (try dsimp only at hSw)
        go_simp
        all_goals with_reducible rfl
      try simp only [Act.put, List.getElem_toArray, List.getElem_cons_succ, List.getElem_cons_zero, List.setIfInBounds_toArray, List.set_cons_zero, List.set_cons_succ]
      refine takeT (i := 3) (v := ?_) rfl (by kernel_rfl) (by kernel_rfl) (by kernel_rfl) (by kernel_rfl) (fun _ _ _ h => h) (Or.inl ⟨by rfl, ?_⟩) (by assumption) ?_
      rotate_left
      · intro w hSw
        (try dsimp only at hSw)
        go_simp
        all_goals with_reducible rfl
      try simp only [Act.put, List.getElem_toArray, List.getElem_cons_succ, List.getElem_cons_zero, List.setIfInBounds_toArray, List.set_cons_zero, List.set_cons_succ]
      refine takeT (i := 4) (v := ?_) rfl (by kernel_rfl) (by kernel_rfl) (by kernel_rfl) (by kernel_rfl) (fun _ _ _ h => h) (Or.inl ⟨by rfl, ?_⟩) (by assumption) ?_
      rotate_left
      · intro w hSw
        (try dsimp only at hSw)
        go_simp
        all_goals with_reducible rfl
      try simp only [Act.put, List.getElem_toArray, List.getElem_cons_succ, List.getElem_cons_zero, List.setIfInBounds_toArray, List.set_cons_zero, List.set_cons_succ]
      refine takeT (i := 5) (v := ?_) rfl (by kernel_rfl) (by kernel_rfl) (by kernel_rfl) (by kernel_rfl) (fun _ _ _ h => h) (Or.inl ⟨by rfl, ?_⟩) (by assumption) ?_
      rotate_left
      · intro w hSw
        (try dsimp only at hSw)
        go_simp
        all_goals with_reducible rfl
      try simp only [Act.put, List.getElem_toArray, List.getElem_cons_succ, List.getElem_cons_zero, List.setIfInBounds_toArray, List.set_cons_zero, List.set_cons_succ]
      refine takeT (i := 6) (v := ?_) rfl (by kernel_rfl) (by kernel_rfl) (by kernel_rfl) (by kernel_rfl) (fun _ _ _ h => h) (Or.inl ⟨by rfl, ?_⟩) (by assumption) ?_
      rotate_left
      · intro w hSw
        (try dsimp only at hSw)
        go_simp
        all_goals with_reducible rfl
      try simp only [Act.put, List.getElem_toArray, List.getElem_cons_succ, List.getElem_cons_zero, List.setIfInBounds_toArray, List.set_cons_zero, List.set_cons_succ]
      refine takeT (i := 7) (v := ?_) rfl (by kernel_rfl) (by kernel_rfl) (by kernel_rfl) (by kernel_rfl) (fun _ _ _ h => h) (Or.inl ⟨by rfl, ?_⟩) (by assumption) ?_
      rotate_left
      · intro w hSw
        (try dsimp only at hSw)
        go_simp
        all_goals with_reducible rfl
      try simp only [Act.put, List.getElem_toArray, List.getElem_cons_succ, List.getElem_cons_zero, List.setIfInBounds_toArray, List.set_cons_zero, List.set_cons_succ]
      refine takeT (i := 9) (v := ?_) rfl (by kernel_rfl) (by kernel_rfl) (by kernel_rfl) (by kernel_rfl) (fun _ _ _ h => h) (Or.inl ⟨by rfl, ?_⟩) (by assumption) ?_
      rotate_left
      · intro w hSw
        (try dsimp only at hSw)
        go_simp
        all_goals with_reducible rfl
      try simp only [Act.put, List.getElem_toArray, List.getElem_cons_succ, List.getElem_cons_zero, List.setIfInBounds_toArray, List.set_cons_zero, List.set_cons_succ]
      refine takeT (i := 12) (v := ?_) rfl (by kernel_rfl) (by kernel_rfl) (by kernel_rfl) (by kernel_rfl) (fun _ _ _ h => h) (Or.inl ⟨by rfl, ?_⟩) (by assumption) ?_
      rotate_left
      · intro w hSw
        (try dsimp only at hSw)
        go_simp
        all_goals with_reducible rfl
      try simp only [Act.put, List.getElem_toArray, List.getElem_cons_succ, List.getElem_cons_zero, List.setIfInBounds_toArray, List.set_cons_zero, List.set_cons_succ]
      refine takeT (i := 13) (v := ?_) rfl (by kernel_rfl) (by kernel_rfl) (by kernel_rfl) (by kernel_rfl) (fun _ _ _ h => h) (Or.inl ⟨by rfl, ?_⟩) (by assumption) ?_
      rotate_left
      · intro w hSw
        (try dsimp only at hSw)
        go_simp
        all_goals with_reducible rfl
      try simp only [Act.put, List.getElem_toArray, List.getElem_cons_succ, List.getElem_cons_zero, List.setIfInBounds_toArray, List.set_cons_zero, List.set_cons_succ]
      refine takeT (i := 14) (v := ?_) rfl (by kernel_rfl) (by kernel_rfl) (by kernel_rfl) (by kernel_rfl) (fun _ _ _ h => h) (Or.inl ⟨by rfl, ?_⟩) (by assumption) ?_
      rotate_left
      · intro w hSw
        (try dsimp only at hSw)
        go_simp
        all_goals with_reducible rfl
      try simp only [Act.put, List.getElem_toArray, List.getElem_cons_succ, List.getElem_cons_zero, List.setIfInBounds_toArray, List.set_cons_zero, List.set_cons_succ]
      refine takeT (i := 15) (v := ?_) rfl (by kernel_rfl) (by kernel_rfl) (by kernel_rfl) (by kernel_rfl) (fun _ _ _ h => h) (Or.inl ⟨by rfl, ?_⟩) (by assumption) ?_
      rotate_left
      · intro w hSw
        (try dsimp only at hSw)
        go_simp
        all_goals with_reducible rfl
      try simp only [Act.put, List.getElem_toArray, List.getElem_cons_succ, List.getElem_cons_zero, List.setIfInBounds_toArray, List.set_cons_zero, List.set_cons_succ]
      refine takeT (i := 16) (v := ?_) rfl (by kernel_rfl) (by kernel_rfl) (by kernel_rfl) (by kernel_rfl) (fun _ _ _ h => h) (Or.inl ⟨by rfl, ?_⟩) (by assumption) ?_
      rotate_left
      · intro w hSw
        (try dsimp only at hSw)
        go_simp
        all_goals with_reducible rfl
      try simp only [Act.put, List.getElem_toArray, List.getElem_cons_succ, List.getElem_cons_zero, List.setIfInBounds_toArray, List.set_cons_zero, List.set_cons_succ]
      refine takeT (i := 17) (v := ?_) rfl (by kernel_rfl) (by kernel_rfl) (by kernel_rfl) (by kernel_rfl) (fun _ _ _ h => h) (Or.inl ⟨by rfl, ?_⟩) (by assumption) ?_
      rotate_left
      · intro w hSw
        (try dsimp only at hSw)
        go_simp
        all_goals with_reducible rfl
      try simp only [Act.put, List.getElem_toArray, List.getElem_cons_succ, List.getElem_cons_zero, List.setIfInBounds_toArray, List.set_cons_zero, List.set_cons_succ]
      have hH0 := Lib.hid hHeld
      refine heldT.ready (rs := [1, 10]) (by kernel_rfl) (by simp) ?_
      refine ReadyT.cons rfl (fun K hK => ?_) (ReadyT.cons rfl (fun K hK => ?_) ReadyT.nil)
      · go_simp
        have hA : Below w1.heap.size w1 (wr.drew.drew.alloc (.cells #[] 70)) := hHeld.alloc hHeld.size _
        have own1 : OwnFl (wr.drew.drew.alloc (.cells #[] 70)) w1.heap.size (.slice (some ⟨wr.drew.heap.size, 0, none⟩) 0 0) [] := OwnFl.none_lit wr.drew.drew w1.heap.size hHeld.size
        refine hK.out _ _ (Or.inl (hA)) ?_
        have hHeld := hA
        clear hK K
        try simp only [Act.put, List.getElem_toArray, List.getElem_cons_succ, List.getElem_cons_zero, List.setIfInBounds_toArray, List.set_cons_zero, List.set_cons_succ]
        refine heldT.ready (rs := [8, 10]) (by kernel_rfl) (by simp) ?_
        refine ReadyT.cons rfl (fun K hK => ?_) (ReadyT.cons rfl (fun K hK => ?_) ReadyT.nil)
        · refine wp_append_files (.tmp 28) (.tmp 34) rfl w1.heap.size (.slice (some ⟨wr.drew.heap.size, 0, none⟩) 0 0) [] rfl own1 a k c (es.take k) rfl (RT.out.below hA) (by simp; have := HP.out.2; omega) hA.size ?_
          intro v2 w2 ho2 hg2
          rw [List.nil_append] at ho2
          have hB : Below w1.heap.size w1 w2 := hA.grown hg2 hA.size (fun q hq => (own1.at_base hq).1)
          refine hK.out _ _ (Or.inl (hB)) ?_
          have hHeld := hB
          clear hK K
          try simp only [Act.put, List.getElem_toArray, List.getElem_cons_succ, List.getElem_cons_zero, List.setIfInBounds_toArray, List.set_cons_zero, List.set_cons_succ]
          refine heldT.ready (rs := [10]) (by kernel_rfl) (by simp) ?_
          refine ReadyT.cons rfl (fun K hK => ?_) ReadyT.nil
          go_simp
          have hC : Below w1.heap.size w1 (w2.alloc (.cells #[.string ⟨f.s.toArray⟩, .slice f.a f.bs.length f.c, .int .i64 (f.l : Int)] 70)) := hB.alloc hB.size _
          refine hK.out _ _ (Or.inl (hC)) ?_
          have hHeld := hC
          clear hK K
          try simp only [Act.put, List.getElem_toArray, List.getElem_cons_succ, List.getElem_cons_zero, List.setIfInBounds_toArray, List.set_cons_zero, List.set_cons_succ]
          refine heldT.ready (rs := [11]) (by kernel_rfl) (by simp) ?_
          refine ReadyT.cons rfl (fun K hK => ?_) ReadyT.nil
          refine wp_append_files (.tmp 35) (.tmp 37) rfl w1.heap.size v2 (es.take k) rfl (ho2.alloc _) (some ⟨w2.heap.size, 0, none⟩) 1 1 [f] rfl (RFs.one w2 f) (by have := HP.out; omega) hC.size ?_
          intro v3 w3 ho3 hg3
          have hD : Below w1.heap.size w1 w3 := hC.grown hg3 hC.size (fun q hq => (ho2.at_base hq).1)
          refine hK.out _ _ (Or.inl (hD)) ?_
          have hHeld := hD
          clear hK K
          try simp only [Act.put, List.getElem_toArray, List.getElem_cons_succ, List.getElem_cons_zero, List.setIfInBounds_toArray, List.set_cons_zero, List.set_cons_succ]
          refine heldT.ready (rs := [18]) (by kernel_rfl) (by simp) ?_
          refine ReadyT.cons rfl (fun K hK => ?_) ReadyT.nil
          refine wp_append_files (.tmp 38) (.tmp 44) rfl w1.heap.size v3 (es.take k ++ [f]) rfl ho3 a2 n2 c2 (es.drop k) rfl (RD.out.below hD) (by have := HP.out; simp only [List.length_append, List.length_cons, List.length_nil]; omega) hD.size ?_
          intro v4 w4 ho4 hg4
          have hE : Below w1.heap.size w1 w4 := hD.grown hg4 hD.size (fun q hq => (ho3.at_base hq).1)
          have HF := PE.out w4 v4 k Hk.out hE ho4
          obtain ⟨a9, c9, hv9⟩ := ho4.form
          subst hv9
          generalize (es.take k ++ [f] ++ es.drop k).length = n9 at HF ⊢
          have HF := Lib.hid HF
          have y1 := c1 w4 hE
          have y2 := zf w4 hE
          refine hK.out _ _ (Or.inl (hE)) ?_
          have hHeld := hE
          clear hK K
          try simp only [Act.put, List.getElem_toArray, List.getElem_cons_succ, List.getElem_cons_zero, List.setIfInBounds_toArray, List.set_cons_zero, List.set_cons_succ]
          refine takeT2 20 (i := 19) (v := ?_) rfl (by kernel_rfl) (by kernel_rfl) (by kernel_rfl) (by kernel_rfl) (by kernel_rfl) (fun _ _ _ h => h) (Or.inl ⟨by rfl, ?_⟩) (by assumption) ?_
          rotate_left
          · intro w hSw
            (try dsimp only at hSw)
            go_simp
            all_goals with_reducible rfl
          try simp only [Act.put, List.getElem_toArray, List.getElem_cons_succ, List.getElem_cons_zero, List.setIfInBounds_toArray, List.set_cons_zero, List.set_cons_succ]
          refine takeT (i := 20) (v := ?_) rfl (by kernel_rfl) (by kernel_rfl) (by kernel_rfl) (by kernel_rfl) (fun _ _ _ h => h) (Or.inl ⟨by rfl, ?_⟩) (by assumption) ?_
          rotate_left
          · intro w hSw
            (try dsimp only at hSw)
            go_simp
            all_goals with_reducible rfl
          try simp only [Act.put, List.getElem_toArray, List.getElem_cons_succ, List.getElem_cons_zero, List.setIfInBounds_toArray, List.set_cons_zero, List.set_cons_succ]
          clear ho4 ho3
          refine heldT.ready (rs := [21]) (by kernel_rfl) (by simp) ?_
          refine ReadyT.cons rfl (fun K hK => ?_) ReadyT.nil
          go_simp
          refine hK.out _ _ (Or.inr rfl) ?_
          clear hK K
          try simp only [Act.put, List.getElem_toArray, List.getElem_cons_succ, List.getElem_cons_zero, List.setIfInBounds_toArray, List.set_cons_zero, List.set_cons_succ]
          refine heldT.done (by kernel_rfl) ?_ _
          go_wp2
          go_end0
          exact ⟨rfl, HF.out⟩
        · go_simp
          have hC : Below w1.heap.size w1 ((wr.drew.drew.alloc (.cells #[] 70)).alloc (.cells #[.string ⟨f.s.toArray⟩, .slice f.a f.bs.length f.c, .int .i64 (f.l : Int)] 70)) := hA.alloc hA.size _
          have src : RFs ((wr.drew.drew.alloc (.cells #[] 70)).alloc (.cells #[.string ⟨f.s.toArray⟩, .slice f.a f.bs.length f.c, .int .i64 (f.l : Int)] 70)) (some ⟨wr.drew.heap.size + 1, 0, none⟩) 1 1 [f] := by have := RFs.one (wr.drew.drew.alloc (.cells #[] 70)) f; simpa using this
          refine hK.out _ _ (Or.inl (hC)) ?_
          have hHeld := hC
          clear hK K
          try simp only [Act.put, List.getElem_toArray, List.getElem_cons_succ, List.getElem_cons_zero, List.setIfInBounds_toArray, List.set_cons_zero, List.set_cons_succ]
          refine heldT.ready (rs := [8]) (by kernel_rfl) (by simp) ?_
          refine ReadyT.cons rfl (fun K hK => ?_) ReadyT.nil
          refine wp_append_files (.tmp 28) (.tmp 34) rfl w1.heap.size (.slice (some ⟨wr.drew.heap.size, 0, none⟩) 0 0) [] rfl (own1.alloc _) a k c (es.take k) rfl (RT.out.below hC) (by simp; have := HP.out.2; omega) hC.size ?_
          intro v2 w2 ho2 hg2
          rw [List.nil_append] at ho2
          have hB : Below w1.heap.size w1 w2 := hC.grown hg2 hC.size (fun q hq => (own1.at_base hq).1)
          have src2 := src.grown hg2 (fun g o e => by injection e with e; injection e with e; subst e; simp [Value.ownBlock])
          refine hK.out _ _ (Or.inl (hB)) ?_
          have hHeld := hB
          clear hK K
          try simp only [Act.put, List.getElem_toArray, List.getElem_cons_succ, List.getElem_cons_zero, List.setIfInBounds_toArray, List.set_cons_zero, List.set_cons_succ]
          refine heldT.ready (rs := [11]) (by kernel_rfl) (by simp) ?_
          refine ReadyT.cons rfl (fun K hK => ?_) ReadyT.nil
          refine wp_append_files (.tmp 35) (.tmp 37) rfl w1.heap.size v2 (es.take k) rfl ho2 (some ⟨wr.drew.heap.size + 1, 0, none⟩) 1 1 [f] rfl src2 (by have := HP.out; omega) hB.size ?_
          intro v3 w3 ho3 hg3
          have hD : Below w1.heap.size w1 w3 := hB.grown hg3 hB.size (fun q hq => (ho2.at_base hq).1)
          refine hK.out _ _ (Or.inl (hD)) ?_
          have hHeld := hD
          clear hK K
          try simp only [Act.put, List.getElem_toArray, List.getElem_cons_succ, List.getElem_cons_zero, List.setIfInBounds_toArray, List.set_cons_zero, List.set_cons_succ]
          refine heldT.ready (rs := [18]) (by kernel_rfl) (by simp) ?_
          refine ReadyT.cons rfl (fun K hK => ?_) ReadyT.nil
          refine wp_append_files (.tmp 38) (.tmp 44) rfl w1.heap.size v3 (es.take k ++ [f]) rfl ho3 a2 n2 c2 (es.drop k) rfl (RD.out.below hD) (by have := HP.out; simp only [List.length_append, List.length_cons, List.length_nil]; omega) hD.size ?_
          intro v4 w4 ho4 hg4
          have hE : Below w1.heap.size w1 w4 := hD.grown hg4 hD.size (fun q hq => (ho3.at_base hq).1)
          have HF := PE.out w4 v4 k Hk.out hE ho4
          obtain ⟨a9, c9, hv9⟩ := ho4.form
          subst hv9
          generalize (es.take k ++ [f] ++ es.drop k).length = n9 at HF ⊢
          have HF := Lib.hid HF
          have y1 := c1 w4 hE
          have y2 := zf w4 hE
          refine hK.out _ _ (Or.inl (hE)) ?_
          have hHeld := hE
          clear hK K
          try simp only [Act.put, List.getElem_toArray, List.getElem_cons_succ, List.getElem_cons_zero, List.setIfInBounds_toArray, List.set_cons_zero, List.set_cons_succ]
          refine takeT2 20 (i := 19) (v := ?_) rfl (by kernel_rfl) (by kernel_rfl) (by kernel_rfl) (by kernel_rfl) (by kernel_rfl) (fun _ _ _ h => h) (Or.inl ⟨by rfl, ?_⟩) (by assumption) ?_
          rotate_left
          · intro w hSw
            (try dsimp only at hSw)
            go_simp
            all_goals with_reducible rfl
          try simp only [Act.put, List.getElem_toArray, List.getElem_cons_succ, List.getElem_cons_zero, List.setIfInBounds_toArray, List.set_cons_zero, List.set_cons_succ]
          refine takeT (i := 20) (v := ?_) rfl (by kernel_rfl) (by kernel_rfl) (by kernel_rfl) (by kernel_rfl) (fun _ _ _ h => h) (Or.inl ⟨by rfl, ?_⟩) (by assumption) ?_
          rotate_left
          · intro w hSw
            (try dsimp only at hSw)
            go_simp
            all_goals with_reducible rfl
          try simp only [Act.put, List.getElem_toArray, List.getElem_cons_succ, List.getElem_cons_zero, List.setIfInBounds_toArray, List.set_cons_zero, List.set_cons_succ]
          clear ho4 ho3
          refine heldT.ready (rs := [21]) (by kernel_rfl) (by simp) ?_
          refine ReadyT.cons rfl (fun K hK => ?_) ReadyT.nil
          go_simp
          refine hK.out _ _ (Or.inr rfl) ?_
          clear hK K
          try simp only [Act.put, List.getElem_toArray, List.getElem_cons_succ, List.getElem_cons_zero, List.setIfInBounds_toArray, List.set_cons_zero, List.set_cons_succ]
          refine heldT.done (by kernel_rfl) ?_ _
          go_wp2
          go_end0
          exact ⟨rfl, HF.out⟩
      · go_simp
        have hA : Below w1.heap.size w1 (wr.drew.drew.alloc (.cells #[.string ⟨f.s.toArray⟩, .slice f.a f.bs.length f.c, .int .i64 (f.l : Int)] 70)) := hHeld.alloc hHeld.size _
        have src : RFs (wr.drew.drew.alloc (.cells #[.string ⟨f.s.toArray⟩, .slice f.a f.bs.length f.c, .int .i64 (f.l : Int)] 70)) (some ⟨wr.drew.heap.size, 0, none⟩) 1 1 [f] := RFs.one wr.drew.drew f
        refine hK.out _ _ (Or.inl (hA)) ?_
        have hHeld := hA
        clear hK K
        try simp only [Act.put, List.getElem_toArray, List.getElem_cons_succ, List.getElem_cons_zero, List.setIfInBounds_toArray, List.set_cons_zero, List.set_cons_succ]
        refine heldT.ready (rs := [1]) (by kernel_rfl) (by simp) ?_
        refine ReadyT.cons rfl (fun K hK => ?_) ReadyT.nil
        go_simp
        have hC : Below w1.heap.size w1 ((wr.drew.drew.alloc (.cells #[.string ⟨f.s.toArray⟩, .slice f.a f.bs.length f.c, .int .i64 (f.l : Int)] 70)).alloc (.cells #[] 70)) := hA.alloc hA.size _
        have own1 : OwnFl ((wr.drew.drew.alloc (.cells #[.string ⟨f.s.toArray⟩, .slice f.a f.bs.length f.c, .int .i64 (f.l : Int)] 70)).alloc (.cells #[] 70)) w1.heap.size (.slice (some ⟨wr.drew.heap.size + 1, 0, none⟩) 0 0) [] := by have := OwnFl.none_lit (wr.drew.drew.alloc (.cells #[.string ⟨f.s.toArray⟩, .slice f.a f.bs.length f.c, .int .i64 (f.l : Int)] 70)) w1.heap.size hA.size; simpa using this
        have src1 := src.grown (World.grownBy_alloc _ (.cells #[] 70) none) (fun g o e h => by cases h)
        refine hK.out _ _ (Or.inl (hC)) ?_
        have hHeld := hC
        clear hK K
        try simp only [Act.put, List.getElem_toArray, List.getElem_cons_succ, List.getElem_cons_zero, List.setIfInBounds_toArray, List.set_cons_zero, List.set_cons_succ]
        refine heldT.ready (rs := [8]) (by kernel_rfl) (by simp) ?_
        refine ReadyT.cons rfl (fun K hK => ?_) ReadyT.nil
        refine wp_append_files (.tmp 28) (.tmp 34) rfl w1.heap.size (.slice (some ⟨wr.drew.heap.size + 1, 0, none⟩) 0 0) [] rfl own1 a k c (es.take k) rfl (RT.out.below hC) (by simp; have := HP.out.2; omega) hC.size ?_
        intro v2 w2 ho2 hg2
        rw [List.nil_append] at ho2
        have hB : Below w1.heap.size w1 w2 := hC.grown hg2 hC.size (fun q hq => (own1.at_base hq).1)
        have src2 := src1.grown hg2 (fun g o e => by injection e with e; injection e with e; subst e; simp [Value.ownBlock])
        refine hK.out _ _ (Or.inl (hB)) ?_
        have hHeld := hB
        clear hK K
        try simp only [Act.put, List.getElem_toArray, List.getElem_cons_succ, List.getElem_cons_zero, List.setIfInBounds_toArray, List.set_cons_zero, List.set_cons_succ]
        refine heldT.ready (rs := [11]) (by kernel_rfl) (by simp) ?_
        refine ReadyT.cons rfl (fun K hK => ?_) ReadyT.nil
        refine wp_append_files (.tmp 35) (.tmp 37) rfl w1.heap.size v2 (es.take k) rfl ho2 (some ⟨wr.drew.heap.size, 0, none⟩) 1 1 [f] rfl src2 (by have := HP.out; omega) hB.size ?_
        intro v3 w3 ho3 hg3
        have hD : Below w1.heap.size w1 w3 := hB.grown hg3 hB.size (fun q hq => (ho2.at_base hq).1)
        refine hK.out _ _ (Or.inl (hD)) ?_
        have hHeld := hD
        clear hK K
        try simp only [Act.put, List.getElem_toArray, List.getElem_cons_succ, List.getElem_cons_zero, List.setIfInBounds_toArray, List.set_cons_zero, List.set_cons_succ]
        refine heldT.ready (rs := [18]) (by kernel_rfl) (by simp) ?_
        refine ReadyT.cons rfl (fun K hK => ?_) ReadyT.nil
        refine wp_append_files (.tmp 38) (.tmp 44) rfl w1.heap.size v3 (es.take k ++ [f]) rfl ho3 a2 n2 c2 (es.drop k) rfl (RD.out.below hD) (by have := HP.out; simp only [List.length_append, List.length_cons, List.length_nil]; omega) hD.size ?_
        intro v4 w4 ho4 hg4
        have hE : Below w1.heap.size w1 w4 := hD.grown hg4 hD.size (fun q hq => (ho3.at_base hq).1)
        have HF := PE.out w4 v4 k Hk.out hE ho4
        obtain ⟨a9, c9, hv9⟩ := ho4.form
        subst hv9
        generalize (es.take k ++ [f] ++ es.drop k).length = n9 at HF ⊢
        have HF := Lib.hid HF
        have y1 := c1 w4 hE
        have y2 := zf w4 hE
        refine hK.out _ _ (Or.inl (hE)) ?_
        have hHeld := hE
        clear hK K
        try simp only [Act.put, List.getElem_toArray, List.getElem_cons_succ, List.getElem_cons_zero, List.setIfInBounds_toArray, List.set_cons_zero, List.set_cons_succ]
        refine takeT2 20 (i := 19) (v := ?_) rfl (by kernel_rfl) (by kernel_rfl) (by kernel_rfl) (by kernel_rfl) (by kernel_rfl) (fun _ _ _ h => h) (Or.inl ⟨by rfl, ?_⟩) (by assumption) ?_
        rotate_left
        · intro w hSw
          (try dsimp only at hSw)
          go_simp
          all_goals with_reducible rfl
        try simp only [Act.put, List.getElem_toArray, List.getElem_cons_succ, List.getElem_cons_zero, List.setIfInBounds_toArray, List.set_cons_zero, List.set_cons_succ]
        refine takeT (i := 20) (v := ?_) rfl (by kernel_rfl) (by kernel_rfl) (by kernel_rfl) (by kernel_rfl) (fun _ _ _ h => h) (Or.inl ⟨by rfl, ?_⟩) (by assumption) ?_
        rotate_left
        · intro w hSw
          (try dsimp only at hSw)
          go_simp
          all_goals with_reducible rfl
        try simp only [Act.put, List.getElem_toArray, List.getElem_cons_succ, List.getElem_cons_zero, List.setIfInBounds_toArray, List.set_cons_zero, List.set_cons_succ]
        clear ho4 ho3
        refine heldT.ready (rs := [21]) (by kernel_rfl) (by simp) ?_
        refine ReadyT.cons rfl (fun K hK => ?_) ReadyT.nil
        go_simp
        refine hK.out _ _ (Or.inr rfl) ?_
        clear hK K
        try simp only [Act.put, List.getElem_toArray, List.getElem_cons_succ, List.getElem_cons_zero, List.setIfInBounds_toArray, List.set_cons_zero, List.set_cons_succ]
        refine heldT.done (by kernel_rfl) ?_ _
        go_wp2
        go_end0
        exact ⟨rfl, HF.out⟩
end
end Go.Proofs.YtohiheohndmccaaGreat
