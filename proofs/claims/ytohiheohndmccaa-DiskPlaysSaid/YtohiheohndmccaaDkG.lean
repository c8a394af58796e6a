/- Contracts of the program's disk: Sync, Delete, Fuse, Fail. -/
import Derived.Test.YtohiheohndmccaaDkF
namespace Go.Proofs.Ytohiheohndmccaa
open Go.RowKit
open Go.Maps
attribute [local go_sem] Oper.semAt_some

/-- What a disk is, but for memory. -/
structure St where
  D : FS
  room : Nat
  fuse : Int
  fails : Int
def IsD (w : World) (dp : Nat) (t : St) (O : Nat → Prop) : Prop := Dsk w dp t.D t.room t.fuse t.fails O
def St.burnt (t : St) : St := { t with fuse := burn t.fuse }
/-- What Sync answers, and leaves. -/
def St.sync (t : St) (s : List UInt8) : Int × St :=
  if t.fuse = 0 then (42, t) else
  match fat t.D s with
  | none => (3, t.burnt)
  | some f => if 0 < t.fails then (41, { t.burnt with fails := t.fails - 1 }) else (0, { t.burnt with D := t.D.put (.string s) (.held ⟨f.bs, f.bs.length⟩) })
def St.delete (t : St) (s : List UInt8) : Int × St :=
  if t.fuse = 0 then (42, t) else
  match fat t.D s with
  | none => (3, t.burnt)
  | some _ => (0, { t.burnt with D := t.D.del (.string s) })
/-- A call's answer, and what it leaves. -/
def Left (w : World) (dp : Nat) (O : Nat → Prop) (r : Int × St) (x : Int) (w' : World) : Prop :=
  x = r.1 ∧ ∃ O', IsD w' dp r.2 O' ∧ But O w w' ∧ ∀ k, O' k → O k ∨ w.heap.size ≤ k
/-- .. behind what made only new memory, or turned the disk. -/
theorem Left.of {w w1 w' : World} {dp : Nat} {O : Nat → Prop} {r : Int × St} {x : Int} (h : Left w1 dp O r x w') (hb : But O w w1) : Left w dp O r x w' := by
  obtain ⟨e, O', h1, h2, h3⟩ := h
  exact ⟨e, O', h1, hb.trans h2 (fun _ hi => .inl hi), fun k hk => (h3 k hk).imp id (Nat.le_trans hb.size)⟩
theorem Left.same {w w' : World} {dp mb : Nat} {C : DataW Fe} {O : Nat → Prop} {x : Int} {t : St} (h : DskC w' dp mb C t.D t.room t.fuse t.fails O) (hb : But O w w') : Left w dp O (x, t) x w' :=
  ⟨rfl, O, ⟨mb, C, h⟩, hb, fun _ hk => .inl hk⟩
theorem Left.laid {w w1 w' : World} {dp mb room : Nat} {C : DataW Fe} {D : FS} {fuse fails : Int} {O : Nat → Prop} {s : List UInt8} {f : Fe} {g : Fl} {e : Ending} (h : LaidD w1 dp mb room C D fuse fails O s f g e w') (hb : But O w w1)
    (hO : ∀ k, f.sl.ownBlock = some k → O k ∨ w.heap.size ≤ k) : Left w dp O (0, ⟨D.put (.string s) (.held g), room, fuse, fails⟩) 0 w' :=
  ⟨rfl, _, ⟨mb, _, h.2.1⟩, hb.trans h.2.2 (fun _ hi => .inl hi), fun k hk => hk.elim .inl (hO k)⟩

theorem own_len {w : World} {base : Nat} {e : TypeId} {a : Option Addr} {n c : Nat} {bs : List Nat} (h : OwnB w base e (.slice a n c) bs) : n = bs.length := by
  rcases h.2 with ⟨h', h0⟩ | ⟨g', cap', cur, h', _⟩
  · injection h' with _ h2 _
    omega
  · injection h'
section
variable {w : World} {dp mb room : Nat} {C : DataW Fe} {D : FS} {fuse fails : Int} {O : Nat → Prop}
theorem DskC.len_ (h : DskC w dp mb C D room fuse fails O) {s : List UInt8} {g : Fl} (hg : fat D s = some g) : (cat C (.string s)).n = g.bs.length := own_len (h.files.cat_ s g hg).2.2
theorem DskC.room_ (h : DskC w dp mb C D room fuse fails O) {s : List UInt8} {g : Fl} (hg : fat D s = some g) : g.bs.length ≤ 1048576 := by
  have h1 := (h.good.at_ hg).2.2.2
  have h2 := h.good.tot_
  have h3 := h.good.room_
  omega
/-- A file whose bytes are as they were may last as one likes. -/
theorem DskC.good_put (h : DskC w dp mb C D room fuse fails O) {s : List UInt8} {g : Fl} (hg : fat D s = some g) (l : Nat) (hl : l ≤ g.bs.length) : Good (D.put (.string s) (.held ⟨g.bs, l⟩)) room :=
  h.good.put (h.good.at_ hg).1 hl (h.good.at_ hg).2.2.1 (.inl (by rw [hg]; rfl)) (by rw [hg]; have := h.good.tot_; simp; omega)

set_option maxRecDepth 100000 in
theorem sync1_any (h : DskC w dp mb C D room fuse fails O) (s : ByteArray) (hs : s.size ≤ 281474976710656) (g : Fl) (hg : fat D s.data.toList = some g) (bd bn : Nat) (c1 : w.cell? ⟨bd, 0, none⟩ = some (.pointer (some ⟨dp, 0, none⟩))) (c2 : w.cell? ⟨bn, 0, none⟩ = some (.string s)) :
    Calls Try.prog 42 #[(cat C (.string s.data.toList)).val, .pointer (some ⟨bd, 0, none⟩), .pointer (some ⟨bn, 0, none⟩)] w
      (Tells1 (Left w dp O (if 0 < fails then (41, ⟨D, room, fuse, fails - 1⟩) else (0, ⟨D.put (.string s.data.toList) (.held ⟨g.bs, g.bs.length⟩), room, fuse, fails⟩)))) := by
  have hC := h.files.cat_ s.data.toList g hg
  have hn := h.len_ hg
  have hgp := h.good_put hg g.bs.length (Nat.le_refl _)
  have hr := h.room_ hg
  have hap : ∀ k f' b, k ≠ .string s.data.toList → look C k = some (.held f') → (cat C (.string s.data.toList)).sl.ownBlock = some b → f'.sl.ownBlock ≠ some b :=
    fun k f' b hk hl hb he => hk (h.files.apart k _ f' _ b hl hC.1 he hb)
  have hbk : ∀ b, (cat C (.string s.data.toList)).sl.ownBlock = some b → O b ∧ b ≠ mb ∧ b ≠ dp := fun b hb => h.files.fileO _ _ b hC.1 hb
  have HH := Lib.hid (And.intro h (And.intro hC (And.intro hgp (And.intro hap (And.intro hbk hn)))))
  have c3 := h.cell.2.2.2.1
  have z3 := h.cell.2.2.2.2 3
  have hfl := h.fails_
  have hld := h.lt dp h.dpO
  have hl1 := block_lt_of_cell c1
  have hl2 := block_lt_of_cell c2
  show Calls Try.prog 42 #[.agg #[.slice (cat C (.string s.data.toList)).a (cat C (.string s.data.toList)).n (cat C (.string s.data.toList)).c, .int .i64 (cat C (.string s.data.toList)).l], .pointer (some ⟨bd, 0, none⟩), .pointer (some ⟨bn, 0, none⟩)] w _
  generalize cat C (.string s.data.toList) = f at *
  have k3 : (w.alloc (.cells #[.slice f.a f.n f.c, .int .i64 f.l] 56)).cell? ⟨dp, 3, none⟩ = some (.int .i64 fails) := (World.cell?_alloc_past _ _ _ hld).trans c3
  have y3 : (w.alloc (.cells #[.slice f.a f.n f.c, .int .i64 f.l] 56)).frozen? ⟨dp, 3, none⟩ = false := (World.frozen?_of_block (w := w) (a := ⟨dp, 3, none⟩) (heap_alloc_old _ _ hld)).trans z3
  have k1 : (w.alloc (.cells #[.slice f.a f.n f.c, .int .i64 f.l] 56)).cell? ⟨bd, 0, none⟩ = some (.pointer (some ⟨dp, 0, none⟩)) := (World.cell?_alloc_past _ _ _ hl1).trans c1
  have k2 : (w.alloc (.cells #[.slice f.a f.n f.c, .int .i64 f.l] 56)).cell? ⟨bn, 0, none⟩ = some (.string s) := (World.cell?_alloc_past _ _ _ hl2).trans c2
  have hB : Below w.heap.size w (w.alloc (.cells #[.slice f.a f.n f.c, .int .i64 f.l] 56)) := (Below.refl _ _).alloc (Nat.le_refl _) _
  by_cases hp : 0 < fails
  · rw [if_pos hp]
    have hw : IntKind.i64.wrap (fails - 1) = fails - 1 := by rw [IntKind.wrap_i64]; omega
    have h2 := Lib.hid ((h.set_ 3 (.int .i64 (fails - 1)) (fuse' := fuse) (fails' := fails - 1) rfl h.fuse_ (by omega)).below ((Below.refl _ _).alloc (Nat.le_refl _) (.cells #[.slice f.a f.n f.c, .int .i64 f.l] 56)))
    clear h hC hn hgp hap hbk hfl c1 c2 c3 z3
    go_enter Try.func42, Try.ntmps42
    go_wp2
    go_ret
    exact ⟨41, rfl, Left.same h2.out (((But.refl O w).setCell (p := ⟨dp, 3, none⟩) (.inl HH.out.1.dpO) _).alloc _)⟩
  · rw [if_neg hp]
    have hC2 : OwnB w 0 5 f.sl g.bs := hC.2.2
    have hB2 : Below w.heap.size w (w.alloc (.cells #[.slice f.a f.n f.c, .int .i64 (f.n : Int)] 56)) := (Below.refl _ _).alloc (Nat.le_refl _) _
    have LY := Lib.hid (lay_any s ((h.below hB2).x s.data.toList) hs ⟨f.a, f.n, f.c, (f.n : Int)⟩ ⟨g.bs, g.bs.length⟩ (by show (f.n : Int) = _; rw [hn]) (hC2.below hB2) (fun k f' b hk hl hb => hap k f' b hk hl hb) (fun b hb => (hbk b hb).2) hgp)
    have k1 : (w.alloc (.cells #[.slice f.a f.n f.c, .int .i64 (f.n : Int)] 56)).cell? ⟨bd, 0, none⟩ = some (.pointer (some ⟨dp, 0, none⟩)) := (World.cell?_alloc_past _ _ _ hl1).trans c1
    have k2 : (w.alloc (.cells #[.slice f.a f.n f.c, .int .i64 (f.n : Int)] 56)).cell? ⟨bn, 0, none⟩ = some (.string s) := (World.cell?_alloc_past _ _ _ hl2).trans c2
    clear h hC hn hgp hap hbk hfl c1 c2 c3 z3 hC2
    go_enter Try.func42, Try.ntmps42
    go_wp2_with fail
    refine LY.out.mono ?_
    rintro e w' hL
    have he := hL.1
    subst he
    have HL := Lib.hid hL
    clear hL LY
    go_wp2
    go_ret
    exact ⟨0, rfl, Left.laid HL.out (But.of_below hB2) (fun k hk => .inl (HH.out.2.2.2.2.1 k hk).1)⟩

theorem delete1_any (h : DskC w dp mb C D room fuse fails O) (s : ByteArray) (hs : s.size ≤ 281474976710656) (bd bn : Nat) (c1 : w.cell? ⟨bd, 0, none⟩ = some (.pointer (some ⟨dp, 0, none⟩))) (c2 : w.cell? ⟨bn, 0, none⟩ = some (.string s)) :
    Calls Try.prog 44 #[(cat C (.string s.data.toList)).val, .pointer (some ⟨bd, 0, none⟩), .pointer (some ⟨bn, 0, none⟩)] w
      (Tells1 (Left w dp O (0, ⟨D.del (.string s.data.toList), room, fuse, fails⟩))) := by
  show Calls Try.prog 44 #[.agg #[.slice (cat C (.string s.data.toList)).a (cat C (.string s.data.toList)).n (cat C (.string s.data.toList)).c, .int .i64 (cat C (.string s.data.toList)).l], .pointer (some ⟨bd, 0, none⟩), .pointer (some ⟨bn, 0, none⟩)] w _
  generalize cat C (.string s.data.toList) = f at *
  have hB : Below w.heap.size w (w.alloc (.cells #[.slice f.a f.n f.c, .int .i64 f.l] 56)).drew := Below.drew ((Below.refl _ _).alloc (Nat.le_refl _) _)
  have h2 := h.below hB
  have k1 := (hB.cell (p := ⟨bd, 0, none⟩) (block_lt_of_cell c1)).trans c1
  have k2 := (hB.cell (p := ⟨bn, 0, none⟩) (block_lt_of_cell c2)).trans c2
  have k0 := h2.cell.1
  have hne := h.ne
  have hmO := h.files.inO
  obtain ⟨w3, hrun, hown3, ht3⟩ := h2.files.owns.drop law9 Try.underlying49 (Files.key (s := s) (by unfold maxLen; omega)) 0
  have hg3 := ht3.grown
  have h3 := h2.gone s.data.toList hg3 hown3
  have q1 := hg3.cell k1 (fun e => by
    injection e with e
    subst e
    obtain ⟨es, clock, hb, _⟩ := h2.files.owns
    simp [World.cell?, hb] at k1)
  have q2 := hg3.cell k2 (fun e => by
    injection e with e
    subst e
    obtain ⟨es, clock, hb, _⟩ := h2.files.owns
    simp [World.cell?, hb] at k2)
  have q0 := hg3.cell k0 (fun e => hne (by injection e))
  have H3 := Lib.hid (And.intro h3 ((But.of_below (O := O) hB).trans (But.grown (O := O) hg3 (fun k e => by injection e with e; subst e; exact hmO)) (fun _ hi => .inl hi)))
  clear h h2 h3 hown3 ht3 hg3 hne hmO c1 c2 hB
  go_enter Try.func44, Try.ntmps44
  go_wp2_with fail
  refine wp_region_held_drew (S := fun x => x.cell? ⟨dp, 0, none⟩ = some (.map (some mb)) ∧ x.cell? ⟨bd, 0, none⟩ = some (.pointer (some ⟨dp, 0, none⟩)) ∧ x.cell? ⟨bn, 0, none⟩ = some (.string s)) (by kernel_rfl) ⟨k0, k1, k2⟩ (fun hHeld => ?_)
  refine wpAnyH_take (i := 0) (v := ?_) rfl (by kernel_rfl) (by kernel_rfl) (by kernel_rfl) (fun _ _ _ h => h) (Or.inl ⟨by rfl, ?_⟩) (by assumption) ?_
  rotate_left
  · intro w hSw
    (try dsimp only at hSw)
    go_simp
    all_goals with_reducible rfl
  try simp only [Act.put, List.getElem_toArray, List.getElem_cons_succ, List.getElem_cons_zero, List.setIfInBounds_toArray, List.set_cons_zero, List.set_cons_succ]
  refine wpAnyH_take (i := 1) (v := ?_) rfl (by kernel_rfl) (by kernel_rfl) (by kernel_rfl) (fun _ _ _ h => h) (Or.inl ⟨by rfl, ?_⟩) (by assumption) ?_
  rotate_left
  · intro w hSw
    (try dsimp only at hSw)
    go_simp
    all_goals with_reducible rfl
  try simp only [Act.put, List.getElem_toArray, List.getElem_cons_succ, List.getElem_cons_zero, List.setIfInBounds_toArray, List.set_cons_zero, List.set_cons_succ]
  refine wpAnyH_take (i := 2) (v := ?_) rfl (by kernel_rfl) (by kernel_rfl) (by kernel_rfl) (fun _ _ _ h => h) (Or.inl ⟨by rfl, ?_⟩) (by assumption) ?_
  rotate_left
  · intro w hSw
    (try dsimp only at hSw)
    go_simp
    all_goals with_reducible rfl
  try simp only [Act.put, List.getElem_toArray, List.getElem_cons_succ, List.getElem_cons_zero, List.setIfInBounds_toArray, List.set_cons_zero, List.set_cons_succ]
  refine wpAnyH_take (i := 3) (v := ?_) rfl (by kernel_rfl) (by kernel_rfl) (by kernel_rfl) (fun _ _ _ h => h) (Or.inl ⟨by rfl, ?_⟩) (by assumption) ?_
  rotate_left
  · intro w hSw
    (try dsimp only at hSw)
    go_simp
    all_goals with_reducible rfl
  try simp only [Act.put, List.getElem_toArray, List.getElem_cons_succ, List.getElem_cons_zero, List.setIfInBounds_toArray, List.set_cons_zero, List.set_cons_succ]
  refine wpAnyH_take (i := 4) (v := ?_) rfl (by kernel_rfl) (by kernel_rfl) (by kernel_rfl) (fun _ _ _ h => h) (Or.inl ⟨by rfl, ?_⟩) (by assumption) ?_
  rotate_left
  · intro w hSw
    (try dsimp only at hSw)
    go_simp
    all_goals with_reducible rfl
  try simp only [Act.put, List.getElem_toArray, List.getElem_cons_succ, List.getElem_cons_zero, List.setIfInBounds_toArray, List.set_cons_zero, List.set_cons_succ]
  refine wpAnyH_ready (rs := [5]) (by kernel_rfl) (by simp) ?_
  refine AllReadyH.cons rfl (fun K hK => ?_) AllReadyH.nil
  rw [if_pos (by rfl)]
  go_simp
  refine hK.out _ _ ?_ (fun hHeld => ?_)
  · exact ⟨q0, q1, q2⟩
  clear hK K
  try simp only [Act.put, List.getElem_toArray, List.getElem_cons_succ, List.getElem_cons_zero, List.setIfInBounds_toArray, List.set_cons_zero, List.set_cons_succ]
  refine wpAnyH_done (by kernel_rfl) ?_ _
  go_wp2
  go_ret
  exact ⟨0, rfl, Left.same H3.out.1 H3.out.2⟩
end

theorem sync_any {w : World} {dp : Nat} {t : St} {O : Nat → Prop} (h : IsD w dp t O) (s : ByteArray) (hs : s.size ≤ 281474976710656) :
    Calls Try.prog 20 #[.pointer (some ⟨dp, 0, none⟩), .string s] w (Tells1 (Left w dp O (t.sync s.data.toList))) := by
  obtain ⟨mb, C, h⟩ := h
  have hb2 : Below w.heap.size w ((w.alloc (.cells #[.pointer (some ⟨dp, 0, none⟩)] 24)).alloc (.cells #[.string s] 9)) := ((Below.refl _ _).alloc (Nat.le_refl _) _).alloc (by simp) _
  have hO := h.lt
  have CC : Calls Try.prog 41 #[.pointer (some ⟨dp, 0, none⟩), .string s, .func (.func 42) #[] #[.pointer (some ⟨w.heap.size, 0, none⟩), .pointer (some ⟨w.heap.size + 1, 0, none⟩)]]
      ((w.alloc (.cells #[.pointer (some ⟨dp, 0, none⟩)] 24)).alloc (.cells #[.string s] 9)) (Tells1 (Left w dp O (t.sync s.data.toList))) := by
    have h2 := h.below hb2
    by_cases hf : t.fuse = 0
    · have e : t.sync s.data.toList = (42, t) := by unfold St.sync; rw [if_pos hf]
      rw [e]
      refine (callOn_dead (hf ▸ h2) s _ _ _).mono ?_
      rintro _ w' ⟨rfl, hb⟩
      exact ⟨42, rfl, Left.same (h2.below hb) ((But.of_below (O := O) hb2).trans (But.of_below (O := O) hb) (fun _ hi => .inl hi))⟩
    · refine callOn_any h2 hf s (by unfold maxLen; omega) _ _ _ (fun v x => by kernel_rfl) _ (fun hn w' h3 hb => ?_) (fun f hn w' h3 hb => ?_)
      · have e : t.sync s.data.toList = (3, t.burnt) := by unfold St.sync; rw [if_neg hf, hn]
        rw [e]
        exact Left.same (t := t.burnt) h3 ((But.of_below (O := O) hb2).trans hb (fun _ hi => .inl hi))
      · have e : t.sync s.data.toList = (if 0 < t.fails then (41, ⟨t.D, t.room, burn t.fuse, t.fails - 1⟩) else (0, ⟨t.D.put (.string s.data.toList) (.held ⟨f.bs, f.bs.length⟩), t.room, burn t.fuse, t.fails⟩)) := by
          unfold St.sync; rw [if_neg hf, hn]; rfl
        rw [e]
        refine (sync1_any h3 s hs f hn _ _ ?_ ?_).mono ?_
        · exact (hb.cell (by simp; omega) (fun ho => by have := hO _ ho; omega)).trans ((World.cell?_alloc_past _ _ _ (by simp)).trans (cell_of_row _ _ 0 _ _ _ (heap_alloc_new w _)))
        · have := cell_of_row _ _ 0 _ _ _ (heap_alloc_new (w.alloc (.cells #[.pointer (some ⟨dp, 0, none⟩)] 24)) (.cells #[.string s] 9))
          simp only [World.size_alloc] at this
          exact (hb.cell (by simp) (fun ho => by have := hO _ ho; omega)).trans this
        · rintro _ w'' ⟨x, rfl, hL⟩
          exact ⟨x, rfl, hL.of ((But.of_below (O := O) hb2).trans hb (fun _ hi => .inl hi))⟩
  have HC := Lib.hid CC
  clear CC h hb2 hO
  go_enter Try.func20, Try.ntmps20
  go_wp2_with fail
  refine HC.out.mono ?_
  rintro e w' ⟨x, rfl, hR⟩
  have HR := Lib.hid hR
  clear hR HC
  go_wp2
  go_ret
  exact ⟨x, rfl, HR.out⟩
theorem delete_any {w : World} {dp : Nat} {t : St} {O : Nat → Prop} (h : IsD w dp t O) (s : ByteArray) (hs : s.size ≤ 281474976710656) :
    Calls Try.prog 24 #[.pointer (some ⟨dp, 0, none⟩), .string s] w (Tells1 (Left w dp O (t.delete s.data.toList))) := by
  obtain ⟨mb, C, h⟩ := h
  have hb2 : Below w.heap.size w ((w.alloc (.cells #[.pointer (some ⟨dp, 0, none⟩)] 24)).alloc (.cells #[.string s] 9)) := ((Below.refl _ _).alloc (Nat.le_refl _) _).alloc (by simp) _
  have hO := h.lt
  have CC : Calls Try.prog 41 #[.pointer (some ⟨dp, 0, none⟩), .string s, .func (.func 44) #[] #[.pointer (some ⟨w.heap.size, 0, none⟩), .pointer (some ⟨w.heap.size + 1, 0, none⟩)]]
      ((w.alloc (.cells #[.pointer (some ⟨dp, 0, none⟩)] 24)).alloc (.cells #[.string s] 9)) (Tells1 (Left w dp O (t.delete s.data.toList))) := by
    have h2 := h.below hb2
    by_cases hf : t.fuse = 0
    · have e : t.delete s.data.toList = (42, t) := by unfold St.delete; rw [if_pos hf]
      rw [e]
      refine (callOn_dead (hf ▸ h2) s _ _ _).mono ?_
      rintro _ w' ⟨rfl, hb⟩
      exact ⟨42, rfl, Left.same (h2.below hb) ((But.of_below (O := O) hb2).trans (But.of_below (O := O) hb) (fun _ hi => .inl hi))⟩
    · refine callOn_any h2 hf s (by unfold maxLen; omega) _ _ _ (fun v x => by kernel_rfl) _ (fun hn w' h3 hb => ?_) (fun f hn w' h3 hb => ?_)
      · have e : t.delete s.data.toList = (3, t.burnt) := by unfold St.delete; rw [if_neg hf, hn]
        rw [e]
        exact Left.same (t := t.burnt) h3 ((But.of_below (O := O) hb2).trans hb (fun _ hi => .inl hi))
      · have e : t.delete s.data.toList = (0, ⟨t.D.del (.string s.data.toList), t.room, burn t.fuse, t.fails⟩) := by
          unfold St.delete; rw [if_neg hf, hn]; rfl
        rw [e]
        refine (delete1_any h3 s hs _ _ ?_ ?_).mono ?_
        · exact (hb.cell (by simp; omega) (fun ho => by have := hO _ ho; omega)).trans ((World.cell?_alloc_past _ _ _ (by simp)).trans (cell_of_row _ _ 0 _ _ _ (heap_alloc_new w _)))
        · have := cell_of_row _ _ 0 _ _ _ (heap_alloc_new (w.alloc (.cells #[.pointer (some ⟨dp, 0, none⟩)] 24)) (.cells #[.string s] 9))
          simp only [World.size_alloc] at this
          exact (hb.cell (by simp) (fun ho => by have := hO _ ho; omega)).trans this
        · rintro _ w'' ⟨x, rfl, hL⟩
          exact ⟨x, rfl, hL.of ((But.of_below (O := O) hb2).trans hb (fun _ hi => .inl hi))⟩
  have HC := Lib.hid CC
  clear CC h hb2 hO
  go_enter Try.func24, Try.ntmps24
  go_wp2_with fail
  refine HC.out.mono ?_
  rintro e w' ⟨x, rfl, hR⟩
  have HR := Lib.hid hR
  clear hR HC
  go_wp2
  go_ret
  exact ⟨x, rfl, HR.out⟩
end Go.Proofs.Ytohiheohndmccaa
