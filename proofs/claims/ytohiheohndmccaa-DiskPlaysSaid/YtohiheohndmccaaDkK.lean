/- Contracts of the program's disk: Write, Rename. -/
import Derived.Test.YtohiheohndmccaaDkJ
namespace Go.Proofs.Ytohiheohndmccaa
open Go.RowKit
open Go.Maps
attribute [local go_sem] Oper.semAt_some

theorem Sl.but {O : Nat → Prop} {w w' : World} {a : Option Addr} {n c : Nat} {bs : List Nat} (h : Sl w w.heap.size a n c bs) (hb : But O w w') (hfar : 0 < n → ∀ k o, a = some ⟨k, o, none⟩ → ¬ O k) : Sl w' w'.heap.size a n c bs :=
  ⟨h.length, h.le, h.max, h.byte, h.none_, fun hp => by
    obtain ⟨b, o, e, hlt, hc⟩ := h.at_ hp
    exact ⟨b, o, e, Nat.lt_of_lt_of_le hlt hb.size, fun k hk => (hb.cell hlt (hfar hp b o e)).trans (hc k hk)⟩⟩
theorem cell_box1 (w : World) (v : Value) (t : TypeId) : (w.alloc (.cells #[v] t)).cell? ⟨w.heap.size, 0, none⟩ = some v := (cell_of_row _ _ 0 _ _ _ (heap_alloc_new w _)).trans rfl
/-- Three boxes. -/
theorem box3 (w : World) (u v x : Value) (t1 t2 t3 : TypeId) :
    (((w.alloc (.cells #[u] t1)).alloc (.cells #[v] t2)).alloc (.cells #[x] t3)).cell? ⟨w.heap.size, 0, none⟩ = some u ∧
    (((w.alloc (.cells #[u] t1)).alloc (.cells #[v] t2)).alloc (.cells #[x] t3)).cell? ⟨w.heap.size + 1, 0, none⟩ = some v ∧
    (((w.alloc (.cells #[u] t1)).alloc (.cells #[v] t2)).alloc (.cells #[x] t3)).cell? ⟨w.heap.size + 1 + 1, 0, none⟩ = some x := by
  refine ⟨?_, ?_, ?_⟩
  · exact (World.cell?_alloc_past _ _ _ (by simp <;> omega)).trans ((World.cell?_alloc_past _ _ _ (by simp)).trans (cell_box1 w u t1))
  · have := cell_box1 (w.alloc (.cells #[u] t1)) v t2
    simp only [World.size_alloc] at this
    exact (World.cell?_alloc_past _ _ _ (by simp)).trans this
  · have := cell_box1 ((w.alloc (.cells #[u] t1)).alloc (.cells #[v] t2)) x t3
    simp only [World.size_alloc] at this
    exact this
theorem below3 (w : World) (o1 o2 o3 : Obj) : Below w.heap.size w (((w.alloc o1).alloc o2).alloc o3) := (((Below.refl _ _).alloc (Nat.le_refl _) _).alloc (by simp) _).alloc (by simp; omega) _

set_option maxRecDepth 100000 in
theorem write_any {w : World} {dp : Nat} {t : St} {O : Nat → Prop} (h : IsD w dp t O) (s : ByteArray) (hs : s.size ≤ 281474976710656) (a : Option Addr) (n c : Nat) (b : List Nat) (hsl : Sl w w.heap.size a n c b) (hn : n ≤ 140737488351232)
    (hfar : 0 < n → ∀ k o, a = some ⟨k, o, none⟩ → ¬ O k) :
    Calls Try.prog 19 #[.pointer (some ⟨dp, 0, none⟩), .string s, .slice a n c] w (Tells1 (Left w dp O (t.write s.data.toList b))) := by
  obtain ⟨mb, C, h⟩ := h
  have hb3 := below3 w (.cells #[.pointer (some ⟨dp, 0, none⟩)] 24) (.cells #[.string s] 9) (.cells #[.slice a n c] 31)
  obtain ⟨x1, x2, x3⟩ := box3 w (.pointer (some ⟨dp, 0, none⟩)) (.string s) (.slice a n c) 24 9 31
  have hO := h.lt
  have CC : Calls Try.prog 36 #[.pointer (some ⟨dp, 0, none⟩), .func (.func 37) #[] #[.pointer (some ⟨w.heap.size + 1, 0, none⟩), .pointer (some ⟨w.heap.size, 0, none⟩), .pointer (some ⟨w.heap.size + 1 + 1, 0, none⟩)]]
      (((w.alloc (.cells #[.pointer (some ⟨dp, 0, none⟩)] 24)).alloc (.cells #[.string s] 9)).alloc (.cells #[.slice a n c] 31)) (Tells1 (Left w dp O (t.write s.data.toList b))) := by
    have h3 := h.below hb3
    by_cases hf : t.fuse = 0
    · have e : t.write s.data.toList b = (42, t) := by unfold St.write; rw [if_pos hf]
      rw [e]
      refine (call_dead (hf ▸ h3) _).mono ?_
      rintro _ w' ⟨rfl, rfl⟩
      exact ⟨42, rfl, Left.same h3 (But.of_below (O := O) hb3)⟩
    · refine call_do h3 hf _ _ (fun x => by kernel_rfl) _ (fun w1 d1 bt => ?_)
      have e : t.write s.data.toList b = wrOf1 t.D t.room (burn t.fuse) t.fails s.data.toList b := by
        unfold St.write wrOf1
        rw [if_neg hf]
        rfl
      rw [e]
      have hno : ∀ k, w.heap.size ≤ k → ¬ O k := fun k hk ho => by have := hO k ho; omega
      refine (write1_any d1 s hs a n c b (((hsl.below hb3 (Nat.le_refl _)).more hb3.size).but bt hfar) hn hfar _ _ _ ?_ ?_ ?_ (hno _ (by omega)) (hno _ (Nat.le_refl _))).mono ?_
      · exact (bt.cell (by simp) (hno _ (by omega))).trans x2
      · exact (bt.cell (by simp; omega) (hno _ (Nat.le_refl _))).trans x1
      · exact (bt.cell (by simp) (hno _ (by omega))).trans x3
      · rintro _ w'' ⟨x, rfl, hL⟩
        exact ⟨x, rfl, hL.of ((But.of_below (O := O) hb3).trans bt (fun _ hi => .inl hi))⟩
  have HC := Lib.hid CC
  clear CC h hb3 hO x1 x2 x3 hsl hn hfar
  go_enter Try.func19, Try.ntmps19
  go_wp2_with fail
  refine HC.out.mono ?_
  rintro e w' ⟨x, rfl, hR⟩
  have HR := Lib.hid hR
  clear hR HC
  go_wp2
  go_ret
  exact ⟨x, rfl, HR.out⟩

def St.rename (t : St) (s to : List UInt8) : Int × St :=
  if t.fuse = 0 then (42, t) else
  if nmOk to = false then (1, t.burnt) else
  match fat t.D s with
  | none => (3, t.burnt)
  | some f => (0, { t.burnt with D := (t.D.del (.string s)).put (.string to) (.held f) })
def rnOf1 (D : FS) (room : Nat) (fuse fails : Int) (s to : List UInt8) : Int × St :=
  if nmOk to = false then (1, ⟨D, room, fuse, fails⟩) else
  match fat D s with
  | none => (3, ⟨D, room, fuse, fails⟩)
  | some f => (0, ⟨(D.del (.string s)).put (.string to) (.held f), room, fuse, fails⟩)
theorem good_rename {D : FS} {room : Nat} (h : Good D room) {s to : List UInt8} {f : Fl} (hf : fat D s = some f) (hn : nmOk to = true) : Good ((D.del (.string s)).put (.string to) (.held f)) room := by
  obtain ⟨_, h1, h2, _⟩ := h.at_ hf
  have hl : look D (.string s) = some (.held f) := by rw [h.look_, hf]; rfl
  have ht := tot_del (canon_tidy h.canon) (.string s)
  rw [hl] at ht
  simp [lenOf] at ht
  have hz := size_del (k := .string s) (canon_tidy h.canon)
  rw [h.has_, hf] at hz
  simp at hz
  have h3 := h.tot_
  have h4 := h.size_
  exact (h.del s).put hn h1 h2 (.inr (by omega)) (by omega)
section
variable {w : World} {dp mb room : Nat} {C : DataW Fe} {D : FS} {fuse fails : Int} {O : Nat → Prop}
set_option linter.unusedSimpArgs false in
set_option maxRecDepth 100000 in
set_option maxHeartbeats 3200000 in
theorem rename1_any (h : DskC w dp mb C D room fuse fails O) (s : ByteArray) (hs : s.size ≤ 281474976710656) (to : ByteArray) (ht : to.size ≤ 281474976710656)
    (bt bd bn : Nat) (c0 : w.cell? ⟨bt, 0, none⟩ = some (.string to)) (c2 : w.cell? ⟨bd, 0, none⟩ = some (.pointer (some ⟨dp, 0, none⟩))) (c1 : w.cell? ⟨bn, 0, none⟩ = some (.string s)) (hbt : ¬ O bt) (hbd : ¬ O bd) (hbn : ¬ O bn) :
    Calls Try.prog 43 #[.pointer (some ⟨bt, 0, none⟩), .pointer (some ⟨bd, 0, none⟩), .pointer (some ⟨bn, 0, none⟩)] w (Tells1 (Left w dp O (rnOf1 D room fuse fails s.data.toList to.data.toList))) := by
  have IN := Lib.hid (isName_any to (by unfold maxLen; omega))
  cases hnm : nmOk to.data.toList with
  | false =>
    have hr : rnOf1 D room fuse fails s.data.toList to.data.toList = (1, ⟨D, room, fuse, fails⟩) := by unfold rnOf1; rw [if_pos hnm]
    rw [hr]
    rw [hnm] at IN
    have HL := Lib.hid (Left.same (w := w) (x := 1) (t := ⟨D, room, fuse, fails⟩) h (But.refl O w))
    clear h hnm hr
    go_enter Try.func43, Try.ntmps43
    go_wp2_with (go_at_call 38; refine (IN.out _).mono ?_; rintro e w' ⟨rfl, rfl⟩)
    go_ret
    exact ⟨1, rfl, HL.out⟩
  | true =>
    rw [hnm] at IN
    have SS := Lib.hid (fun (w' : World) (hb : Below w.heap.size w w') => h.sees (s := s) (by unfold maxLen; omega) c2 c1 hb)
    have S0 := SS.out w.drew (Below.drew (Below.refl _ _))
    have hhas := h.files.has_ (.string s.data.toList)
    rw [h.good.has_] at hhas
    have hX : ∀ f : Fe, Below w.heap.size w (w.alloc (.cells #[.slice f.a f.n f.c, .int .i64 f.l] 56)).drew := fun f => Below.drew ((Below.refl _ _).alloc (Nat.le_refl _) _)
    have HX := Lib.hid hX
    cases hf : fat D s.data.toList with
    | none =>
      have hr : rnOf1 D room fuse fails s.data.toList to.data.toList = (3, ⟨D, room, fuse, fails⟩) := by unfold rnOf1; rw [if_neg (by rw [hnm]; decide), hf]
      rw [hr]
      rw [hf] at hhas
      have HH := Lib.hid h
      unfold Sees at S0 SS
      rw [show has C (.string s.data.toList) = false from hhas] at S0 SS
      generalize cat C (.string s.data.toList) = f at *
      have HB := HX.out f
      clear h hnm hr hhas hX hf c1 c2
      go_enter Try.func43, Try.ntmps43
      go_wp2_with (first | (go_at_call 38; refine (IN.out _).mono ?_; rintro e w' ⟨rfl, rfl⟩) | fail)
      refine wp_region_held_drew (S := fun x => x.cell? ⟨dp, 0, none⟩ = some (.map (some mb)) ∧ x.cell? ⟨bd, 0, none⟩ = some (.pointer (some ⟨dp, 0, none⟩)) ∧ x.cell? ⟨bn, 0, none⟩ = some (.string s) ∧
        (Instr.lookup 49 (.map (some mb)) (.string s) true).run Try.prog x = .ok (.tuple #[.agg #[.slice f.a f.n f.c, .int .i64 f.l], .bool false]) x) (by kernel_rfl) ⟨S0.1, S0.2.1, S0.2.2.1, S0.2.2.2.1⟩ (fun hHeld => ?_)
      refine wpAnyH_take (i := 0) (v := ?_) rfl (by kernel_rfl) (by kernel_rfl) (by kernel_rfl) (fun _ _ _ h => h) (Or.inl ⟨by rfl, ?_⟩) (by assumption) ?_
      rotate_left
      · intro w hSw
        (try dsimp only at hSw)
        go_simp
        all_goals with_reducible rfl
      try simp only [Act.put, List.getElem_toArray, List.getElem_cons_succ, List.getElem_cons_zero, List.setIfInBounds_toArray, List.set_cons_zero, List.set_cons_succ]
      refine wpAnyH_take (i := 1) (v := ?_) rfl (by kernel_rfl) (by kernel_rfl) (by kernel_rfl) (fun _ _ _ h => h) (Or.inl ⟨by rfl, ?_⟩) (by assumption) ?_
      rotate_left
      · intro w hSw
        (try dsimp only at hSw)
        go_simp
        all_goals with_reducible rfl
      try simp only [Act.put, List.getElem_toArray, List.getElem_cons_succ, List.getElem_cons_zero, List.setIfInBounds_toArray, List.set_cons_zero, List.set_cons_succ]
      refine wpAnyH_take (i := 2) (v := ?_) rfl (by kernel_rfl) (by kernel_rfl) (by kernel_rfl) (fun _ _ _ h => h) (Or.inl ⟨by rfl, ?_⟩) (by assumption) ?_
      rotate_left
      · intro w hSw
        (try dsimp only at hSw)
        go_simp
        all_goals with_reducible rfl
      try simp only [Act.put, List.getElem_toArray, List.getElem_cons_succ, List.getElem_cons_zero, List.setIfInBounds_toArray, List.set_cons_zero, List.set_cons_succ]
      refine wpAnyH_take (i := 3) (v := ?_) rfl (by kernel_rfl) (by kernel_rfl) (by kernel_rfl) (fun _ _ _ h => h) (Or.inl ⟨by rfl, ?_⟩) (by assumption) ?_
      rotate_left
      · intro w hSw
        (try dsimp only at hSw)
        go_simp
        all_goals with_reducible rfl
      try simp only [Act.put, List.getElem_toArray, List.getElem_cons_succ, List.getElem_cons_zero, List.setIfInBounds_toArray, List.set_cons_zero, List.set_cons_succ]
      refine wpAnyH_take (i := 4) (v := ?_) rfl (by kernel_rfl) (by kernel_rfl) (by kernel_rfl) (fun _ _ _ h => h) (Or.inl ⟨by rfl, ?_⟩) (by assumption) ?_
      rotate_left
      · intro w hSw
        (try dsimp only at hSw)
        go_simp
        all_goals with_reducible rfl
      try simp only [Act.put, List.getElem_toArray, List.getElem_cons_succ, List.getElem_cons_zero, List.setIfInBounds_toArray, List.set_cons_zero, List.set_cons_succ]
      refine wpAnyH_take (i := 5) (v := ?_) rfl (by kernel_rfl) (by kernel_rfl) (by kernel_rfl) (fun _ _ _ h => h) (Or.inl ⟨by rfl, ?_⟩) (by assumption) ?_
      rotate_left
      · intro w hSw
        (try dsimp only at hSw)
        go_simp
        all_goals with_reducible rfl
      try simp only [Act.put, List.getElem_toArray, List.getElem_cons_succ, List.getElem_cons_zero, List.setIfInBounds_toArray, List.set_cons_zero, List.set_cons_succ]
      refine wpAnyH_take (i := 6) (v := ?_) rfl (by kernel_rfl) (by kernel_rfl) (by kernel_rfl) (fun _ _ _ h => h) (Or.inl ⟨by rfl, ?_⟩) (by assumption) ?_
      rotate_left
      · intro w hSw
        (try dsimp only at hSw)
        go_simp
        all_goals with_reducible rfl
      try simp only [Act.put, List.getElem_toArray, List.getElem_cons_succ, List.getElem_cons_zero, List.setIfInBounds_toArray, List.set_cons_zero, List.set_cons_succ]
      refine wpAnyH_take (i := 7) (v := ?_) rfl (by kernel_rfl) (by kernel_rfl) (by kernel_rfl) (fun _ _ _ h => h) (Or.inl ⟨by rfl, ?_⟩) (by assumption) ?_
      rotate_left
      · intro w hSw
        (try dsimp only at hSw)
        go_simp
        all_goals with_reducible rfl
      try simp only [Act.put, List.getElem_toArray, List.getElem_cons_succ, List.getElem_cons_zero, List.setIfInBounds_toArray, List.set_cons_zero, List.set_cons_succ]
      refine wpAnyH_take (i := 8) (v := ?_) rfl (by kernel_rfl) (by kernel_rfl) (by kernel_rfl) (fun _ _ _ h => h) (Or.inl ⟨by rfl, ?_⟩) (by assumption) ?_
      rotate_left
      · intro w hSw
        (try dsimp only at hSw)
        go_simp
        all_goals with_reducible rfl
      try simp only [Act.put, List.getElem_toArray, List.getElem_cons_succ, List.getElem_cons_zero, List.setIfInBounds_toArray, List.set_cons_zero, List.set_cons_succ]
      refine wpAnyH_ready (rs := [9]) (by kernel_rfl) (by simp) ?_
      refine AllReadyH.cons rfl (fun K hK => ?_) AllReadyH.nil
      rw [if_pos (by rfl)]
      go_simp
      have S1 := SS.out _ ((Below.drew (Below.refl w.heap.size w)).alloc (Nat.le_refl _) (.cells #[.slice none 0 0, .int .i64 0] 56))
      refine hK.out _ _ ?_ (fun hHeld => ?_)
      · exact ⟨S1.1, S1.2.1, S1.2.2.1, S1.2.2.2.1⟩
      clear hK K
      try simp only [Act.put, List.getElem_toArray, List.getElem_cons_succ, List.getElem_cons_zero, List.setIfInBounds_toArray, List.set_cons_zero, List.set_cons_succ]
      refine wpAnyH_ready (rs := [10]) (by kernel_rfl) (by simp) ?_
      refine AllReadyH.cons rfl (fun K hK => ?_) AllReadyH.nil
      rw [if_pos (by rfl)]
      go_simp
      have S2 := SS.out _ HB
      refine hK.out _ _ ?_ (fun hHeld => ?_)
      · exact ⟨S2.1, S2.2.1, S2.2.2.1, S2.2.2.2.1⟩
      clear hK K
      try simp only [Act.put, List.getElem_toArray, List.getElem_cons_succ, List.getElem_cons_zero, List.setIfInBounds_toArray, List.set_cons_zero, List.set_cons_succ]
      refine wpAnyH_take (i := 11) (v := ?_) rfl (by kernel_rfl) (by kernel_rfl) (by kernel_rfl) (fun _ _ _ h => h) (Or.inl ⟨by rfl, ?_⟩) (by assumption) ?_
      rotate_left
      · intro w hSw
        (try dsimp only at hSw)
        go_simp
        all_goals with_reducible rfl
      try simp only [Act.put, List.getElem_toArray, List.getElem_cons_succ, List.getElem_cons_zero, List.setIfInBounds_toArray, List.set_cons_zero, List.set_cons_succ]
      refine wpAnyH_done (by kernel_rfl) ?_ _
      clear S0 S1 hHeld
      go_wp2
      go_ret
      exact ⟨3, rfl, Left.same (t := ⟨D, room, fuse, fails⟩) (HH.out.below HB) (But.of_below HB)⟩
    | some g =>
      have hr : rnOf1 D room fuse fails s.data.toList to.data.toList = (0, ⟨(D.del (.string s.data.toList)).put (.string to.data.toList) (.held g), room, fuse, fails⟩) := by unfold rnOf1; rw [if_neg (by rw [hnm]; decide), hf]
      rw [hr]
      rw [hf] at hhas
      obtain ⟨fl, fl2, fl3⟩ := h.files.cat_ _ g hf
      have hgr := good_rename h.good hf hnm
      have hap : ∀ k f' b, look (C.del (.string s.data.toList)) k = some (.held f') → (cat C (.string s.data.toList)).sl.ownBlock = some b → f'.sl.ownBlock ≠ some b := fun k f' b hl hb he => by
        by_cases hk : k = .string s.data.toList
        · subst hk; rw [look_del_same] at hl; cases hl
        · rw [look_del_other hk] at hl
          exact hk (h.files.apart k _ f' _ b hl fl he hb)
      have hfo : ∀ b, (cat C (.string s.data.toList)).sl.ownBlock = some b → O b ∧ b ≠ mb ∧ b ≠ dp := fun b hb => h.files.fileO _ _ b fl hb
      have HH := Lib.hid (And.intro h (And.intro fl2 (And.intro fl3 (And.intro hgr (And.intro hap hfo)))))
      unfold Sees at S0 SS
      rw [show has C (.string s.data.toList) = true from hhas] at S0 SS
      generalize cat C (.string s.data.toList) = f at *
      have HB := HX.out f
      have HBd := Below.drew HB
      have h3 := h.below HBd
      have k0 := (HBd.cell (p := ⟨bt, 0, none⟩) (block_lt_of_cell c0)).trans c0
      have kb : (w.alloc (.cells #[.slice f.a f.n f.c, .int .i64 f.l] 56)).drew.drew.heap[w.heap.size]? = some (.cells #[.slice f.a f.n f.c, .int .i64 f.l] 56 (0, 0)) := heap_alloc_new w _
      obtain ⟨w4, hrun, hown4, ht4⟩ := h3.files.owns.drop law9 Try.underlying49 (Files.key (s := s) (by unfold maxLen; omega)) 0
      have hg4 := ht4.grown
      have h4 := h3.gone s.data.toList hg4 hown4
      have hmO := h.files.inO
      have hmlt := h.lt mb hmO
      have SS2 := SS.out _ HBd
      have nbt : bt ≠ mb := fun e => hbt (e ▸ hmO)
      have nbd : bd ≠ mb := fun e => hbd (e ▸ hmO)
      have nbn : bn ≠ mb := fun e => hbn (e ▸ hmO)
      have r0 := hg4.cell k0 (fun e => nbt (by injection e))
      have r1 := hg4.cell SS2.2.1 (fun e => nbd (by injection e))
      have r2 := hg4.cell SS2.2.2.1 (fun e => nbn (by injection e))
      have r3 := hg4.cell SS2.1 (fun e => h.ne (by injection e))
      have zb := (hg4.block w.heap.size (by simp) (fun e => by injection e with e; omega)).trans kb
      have r4 := (cell_of_row w4 w.heap.size 0 _ _ _ zb).trans rfl
      have r5 := (cell_of_row w4 w.heap.size 1 _ _ _ zb).trans rfl
      have hb4 : But O w w4 := (But.of_below (O := O) HBd).trans (But.grown (O := O) hg4 (fun k e => by injection e with e; subst e; exact hmO)) (fun _ hi => .inl hi)
      have own4 : OwnB w4 0 5 (.slice f.a f.n f.c) g.bs := World.ownsRow.kept (show OwnB (w.alloc (.cells #[.slice f.a f.n f.c, .int .i64 f.l] 56)).drew.drew 0 5 (.slice f.a f.n f.c) g.bs from fl3.below HBd) hg4 (.inr (fun e => (hfo mb e).2.1 rfl))
      have LY := Lib.hid (lay_any to (h4.x to.data.toList) ht f g fl2 own4 (fun k f' b _ hl hb => hap k f' b hl hb) (fun b hb => (hfo b hb).2) hgr)
      have HA := Lib.hid (And.intro hb4 hfo)
      clear h hnm hr hhas hX hf c1 c2 h3 h4 hown4 ht4 hg4 hmO hb4 own4 fl fl2 fl3 hgr hap hfo zb kb
      go_enter Try.func43, Try.ntmps43
      go_wp2_with (first | (go_at_call 38; refine (IN.out _).mono ?_; rintro e w' ⟨rfl, rfl⟩) | fail)
      refine wp_region_held_drew (S := fun x => x.cell? ⟨dp, 0, none⟩ = some (.map (some mb)) ∧ x.cell? ⟨bd, 0, none⟩ = some (.pointer (some ⟨dp, 0, none⟩)) ∧ x.cell? ⟨bn, 0, none⟩ = some (.string s) ∧
        (Instr.lookup 49 (.map (some mb)) (.string s) true).run Try.prog x = .ok (.tuple #[.agg #[.slice f.a f.n f.c, .int .i64 f.l], .bool true]) x) (by kernel_rfl) ⟨S0.1, S0.2.1, S0.2.2.1, S0.2.2.2.1⟩ (fun hHeld => ?_)
      refine wpAnyH_take (i := 0) (v := ?_) rfl (by kernel_rfl) (by kernel_rfl) (by kernel_rfl) (fun _ _ _ h => h) (Or.inl ⟨by rfl, ?_⟩) (by assumption) ?_
      rotate_left
      · intro w hSw
        (try dsimp only at hSw)
        go_simp
        all_goals with_reducible rfl
      try simp only [Act.put, List.getElem_toArray, List.getElem_cons_succ, List.getElem_cons_zero, List.setIfInBounds_toArray, List.set_cons_zero, List.set_cons_succ]
      refine wpAnyH_take (i := 1) (v := ?_) rfl (by kernel_rfl) (by kernel_rfl) (by kernel_rfl) (fun _ _ _ h => h) (Or.inl ⟨by rfl, ?_⟩) (by assumption) ?_
      rotate_left
      · intro w hSw
        (try dsimp only at hSw)
        go_simp
        all_goals with_reducible rfl
      try simp only [Act.put, List.getElem_toArray, List.getElem_cons_succ, List.getElem_cons_zero, List.setIfInBounds_toArray, List.set_cons_zero, List.set_cons_succ]
      refine wpAnyH_take (i := 2) (v := ?_) rfl (by kernel_rfl) (by kernel_rfl) (by kernel_rfl) (fun _ _ _ h => h) (Or.inl ⟨by rfl, ?_⟩) (by assumption) ?_
      rotate_left
      · intro w hSw
        (try dsimp only at hSw)
        go_simp
        all_goals with_reducible rfl
      try simp only [Act.put, List.getElem_toArray, List.getElem_cons_succ, List.getElem_cons_zero, List.setIfInBounds_toArray, List.set_cons_zero, List.set_cons_succ]
      refine wpAnyH_take (i := 3) (v := ?_) rfl (by kernel_rfl) (by kernel_rfl) (by kernel_rfl) (fun _ _ _ h => h) (Or.inl ⟨by rfl, ?_⟩) (by assumption) ?_
      rotate_left
      · intro w hSw
        (try dsimp only at hSw)
        go_simp
        all_goals with_reducible rfl
      try simp only [Act.put, List.getElem_toArray, List.getElem_cons_succ, List.getElem_cons_zero, List.setIfInBounds_toArray, List.set_cons_zero, List.set_cons_succ]
      refine wpAnyH_take (i := 4) (v := ?_) rfl (by kernel_rfl) (by kernel_rfl) (by kernel_rfl) (fun _ _ _ h => h) (Or.inl ⟨by rfl, ?_⟩) (by assumption) ?_
      rotate_left
      · intro w hSw
        (try dsimp only at hSw)
        go_simp
        all_goals with_reducible rfl
      try simp only [Act.put, List.getElem_toArray, List.getElem_cons_succ, List.getElem_cons_zero, List.setIfInBounds_toArray, List.set_cons_zero, List.set_cons_succ]
      refine wpAnyH_take (i := 5) (v := ?_) rfl (by kernel_rfl) (by kernel_rfl) (by kernel_rfl) (fun _ _ _ h => h) (Or.inl ⟨by rfl, ?_⟩) (by assumption) ?_
      rotate_left
      · intro w hSw
        (try dsimp only at hSw)
        go_simp
        all_goals with_reducible rfl
      try simp only [Act.put, List.getElem_toArray, List.getElem_cons_succ, List.getElem_cons_zero, List.setIfInBounds_toArray, List.set_cons_zero, List.set_cons_succ]
      refine wpAnyH_take (i := 6) (v := ?_) rfl (by kernel_rfl) (by kernel_rfl) (by kernel_rfl) (fun _ _ _ h => h) (Or.inl ⟨by rfl, ?_⟩) (by assumption) ?_
      rotate_left
      · intro w hSw
        (try dsimp only at hSw)
        go_simp
        all_goals with_reducible rfl
      try simp only [Act.put, List.getElem_toArray, List.getElem_cons_succ, List.getElem_cons_zero, List.setIfInBounds_toArray, List.set_cons_zero, List.set_cons_succ]
      refine wpAnyH_take (i := 7) (v := ?_) rfl (by kernel_rfl) (by kernel_rfl) (by kernel_rfl) (fun _ _ _ h => h) (Or.inl ⟨by rfl, ?_⟩) (by assumption) ?_
      rotate_left
      · intro w hSw
        (try dsimp only at hSw)
        go_simp
        all_goals with_reducible rfl
      try simp only [Act.put, List.getElem_toArray, List.getElem_cons_succ, List.getElem_cons_zero, List.setIfInBounds_toArray, List.set_cons_zero, List.set_cons_succ]
      refine wpAnyH_take (i := 8) (v := ?_) rfl (by kernel_rfl) (by kernel_rfl) (by kernel_rfl) (fun _ _ _ h => h) (Or.inl ⟨by rfl, ?_⟩) (by assumption) ?_
      rotate_left
      · intro w hSw
        (try dsimp only at hSw)
        go_simp
        all_goals with_reducible rfl
      try simp only [Act.put, List.getElem_toArray, List.getElem_cons_succ, List.getElem_cons_zero, List.setIfInBounds_toArray, List.set_cons_zero, List.set_cons_succ]
      refine wpAnyH_ready (rs := [9]) (by kernel_rfl) (by simp) ?_
      refine AllReadyH.cons rfl (fun K hK => ?_) AllReadyH.nil
      rw [if_pos (by rfl)]
      go_simp
      have S1 := SS.out _ ((Below.drew (Below.refl w.heap.size w)).alloc (Nat.le_refl _) (.cells #[.slice none 0 0, .int .i64 0] 56))
      refine hK.out _ _ ?_ (fun hHeld => ?_)
      · exact ⟨S1.1, S1.2.1, S1.2.2.1, S1.2.2.2.1⟩
      clear hK K
      try simp only [Act.put, List.getElem_toArray, List.getElem_cons_succ, List.getElem_cons_zero, List.setIfInBounds_toArray, List.set_cons_zero, List.set_cons_succ]
      refine wpAnyH_ready (rs := [10]) (by kernel_rfl) (by simp) ?_
      refine AllReadyH.cons rfl (fun K hK => ?_) AllReadyH.nil
      rw [if_pos (by rfl)]
      go_simp
      have S2 := SS.out _ HB
      refine hK.out _ _ ?_ (fun hHeld => ?_)
      · exact ⟨S2.1, S2.2.1, S2.2.2.1, S2.2.2.2.1⟩
      clear hK K
      try simp only [Act.put, List.getElem_toArray, List.getElem_cons_succ, List.getElem_cons_zero, List.setIfInBounds_toArray, List.set_cons_zero, List.set_cons_succ]
      refine wpAnyH_take (i := 11) (v := ?_) rfl (by kernel_rfl) (by kernel_rfl) (by kernel_rfl) (fun _ _ _ h => h) (Or.inl ⟨by rfl, ?_⟩) (by assumption) ?_
      rotate_left
      · intro w hSw
        (try dsimp only at hSw)
        go_simp
        all_goals with_reducible rfl
      try simp only [Act.put, List.getElem_toArray, List.getElem_cons_succ, List.getElem_cons_zero, List.setIfInBounds_toArray, List.set_cons_zero, List.set_cons_succ]
      refine wpAnyH_done (by kernel_rfl) ?_ _
      clear S0 S1 hHeld
      go_wp2_with fail
      refine wp_region_held_drew (S := fun x => x.cell? ⟨dp, 0, none⟩ = some (.map (some mb)) ∧ x.cell? ⟨bd, 0, none⟩ = some (.pointer (some ⟨dp, 0, none⟩)) ∧ x.cell? ⟨bn, 0, none⟩ = some (.string s)) (by kernel_rfl) ⟨SS2.1, SS2.2.1, SS2.2.2.1⟩ (fun hHeld => ?_)
      refine wpAnyH_take (i := 0) (v := ?_) rfl (by kernel_rfl) (by kernel_rfl) (by kernel_rfl) (fun _ _ _ h => h) (Or.inl ⟨by rfl, ?_⟩) (by assumption) ?_
      rotate_left
      · intro w hSw
        (try dsimp only at hSw)
        go_simp
        all_goals with_reducible rfl
      try simp only [Act.put, List.getElem_toArray, List.getElem_cons_succ, List.getElem_cons_zero, List.setIfInBounds_toArray, List.set_cons_zero, List.set_cons_succ]
      refine wpAnyH_take (i := 1) (v := ?_) rfl (by kernel_rfl) (by kernel_rfl) (by kernel_rfl) (fun _ _ _ h => h) (Or.inl ⟨by rfl, ?_⟩) (by assumption) ?_
      rotate_left
      · intro w hSw
        (try dsimp only at hSw)
        go_simp
        all_goals with_reducible rfl
      try simp only [Act.put, List.getElem_toArray, List.getElem_cons_succ, List.getElem_cons_zero, List.setIfInBounds_toArray, List.set_cons_zero, List.set_cons_succ]
      refine wpAnyH_take (i := 2) (v := ?_) rfl (by kernel_rfl) (by kernel_rfl) (by kernel_rfl) (fun _ _ _ h => h) (Or.inl ⟨by rfl, ?_⟩) (by assumption) ?_
      rotate_left
      · intro w hSw
        (try dsimp only at hSw)
        go_simp
        all_goals with_reducible rfl
      try simp only [Act.put, List.getElem_toArray, List.getElem_cons_succ, List.getElem_cons_zero, List.setIfInBounds_toArray, List.set_cons_zero, List.set_cons_succ]
      refine wpAnyH_take (i := 3) (v := ?_) rfl (by kernel_rfl) (by kernel_rfl) (by kernel_rfl) (fun _ _ _ h => h) (Or.inl ⟨by rfl, ?_⟩) (by assumption) ?_
      rotate_left
      · intro w hSw
        (try dsimp only at hSw)
        go_simp
        all_goals with_reducible rfl
      try simp only [Act.put, List.getElem_toArray, List.getElem_cons_succ, List.getElem_cons_zero, List.setIfInBounds_toArray, List.set_cons_zero, List.set_cons_succ]
      refine wpAnyH_take (i := 4) (v := ?_) rfl (by kernel_rfl) (by kernel_rfl) (by kernel_rfl) (fun _ _ _ h => h) (Or.inl ⟨by rfl, ?_⟩) (by assumption) ?_
      rotate_left
      · intro w hSw
        (try dsimp only at hSw)
        go_simp
        all_goals with_reducible rfl
      try simp only [Act.put, List.getElem_toArray, List.getElem_cons_succ, List.getElem_cons_zero, List.setIfInBounds_toArray, List.set_cons_zero, List.set_cons_succ]
      refine wpAnyH_ready (rs := [5]) (by kernel_rfl) (by simp) ?_
      refine AllReadyH.cons rfl (fun K hK => ?_) AllReadyH.nil
      rw [if_pos (by rfl)]
      go_simp
      refine hK.out _ _ ?_ (fun hHeld => ?_)
      · exact ⟨r3, r1, r2⟩
      clear hK K
      try simp only [Act.put, List.getElem_toArray, List.getElem_cons_succ, List.getElem_cons_zero, List.setIfInBounds_toArray, List.set_cons_zero, List.set_cons_succ]
      refine wpAnyH_done (by kernel_rfl) ?_ _
      clear hHeld SS2 SS HX
      go_wp2_with fail
      refine LY.out.mono ?_
      rintro e w6 hL
      have he := hL.1
      subst he
      have HL := Lib.hid hL
      clear hL LY
      go_wp2
      go_ret
      exact ⟨0, rfl, Left.laid HL.out HA.out.1 (fun k hk => .inl (HA.out.2 k hk).1)⟩
end
end Go.Proofs.Ytohiheohndmccaa
