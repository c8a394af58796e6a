/- Contracts of the program's disk: New, lay, call. -/
import Derived.Test.YtohiheohndmccaaDkC
namespace Go.Proofs.Ytohiheohndmccaa
open Go.RowKit
open Go.Maps
attribute [local go_sem] Oper.semAt_some

theorem owns_tight {w : World} {C : DataW Fe} {b n : Nat} (h : w.ownsMap Try.prog 9 rdF b n C) : w.ownsMap Try.prog 9 rdF b (size C) C := by
  obtain ⟨es, clock, hb, F, hs, rfl⟩ := h
  exact ⟨es, clock, hb, F, by simp [size, length_sorted], rfl⟩
/-- Nothing is there. -/
theorem dsk_new (w : World) (room : Nat) (hr : room ≤ 1048576) :
    Dsk ((w.alloc (.map #[] 0)).alloc (.cells #[.map (some w.heap.size), .int .i64 (room : Int), .int .i64 (-1), .int .i64 0] 51)) (w.heap.size + 1) (.map []) room (-1) 0 (fun k => k = w.heap.size ∨ k = w.heap.size + 1) := by
  have h1 : (w.alloc (.map #[] 0)).heap.size = w.heap.size + 1 := by simp
  refine ⟨w.heap.size, .map [], ⟨by rw [← h1]; exact heap_alloc_new _ _, ⟨?_, fun k => trivial, fun k k' f f' g h => by (cases h), .inl rfl, fun k f g h => by (cases h), fun k hk => by simp; omega⟩, Good.empty hr, .inr rfl, ⟨by decide, by decide⟩, ⟨by decide, by decide⟩⟩⟩
  exact World.ownsMap.alloc (World.ownsMap_made w Try.prog 9 rdF) _
section
variable {w : World} {dp mb room : Nat} {C : DataW Fe} {D : FS} {fuse fails : Int} {O : Nat → Prop}
theorem DskC.ne (h : DskC w dp mb C D room fuse fails O) : dp ≠ mb := by
  intro e
  obtain ⟨es, clock, hb, _⟩ := h.files.owns
  rw [← e, h.cells] at hb
  cases hb
/-- A number of the disk's own is set. -/
theorem DskC.set_ (h : DskC w dp mb C D room fuse fails O) (j : Nat) (u : Value) {fuse' fails' : Int} (hc : ((#[.map (some mb), .int .i64 (room : Int), .int .i64 fuse, .int .i64 fails] : Array Value).setIfInBounds j u) = #[.map (some mb), .int .i64 (room : Int), .int .i64 fuse', .int .i64 fails'])
    (hf : -1 ≤ fuse' ∧ fuse' ≤ 9223372036854775807) (hl : 0 ≤ fails' ∧ fails' ≤ 9223372036854775807) : DskC (w.setCell ⟨dp, j, none⟩ u) dp mb C D room fuse' fails' O := by
  have hs := heap_setCell_same w dp j _ _ u h.cells
  rw [hc] at hs
  have hoth : ∀ k, k ≠ dp → (w.setCell ⟨dp, j, none⟩ u).heap[k]? = w.heap[k]? := fun k hk => Below.heap_setCell w ⟨dp, j, none⟩ u k hk
  have F := h.files
  refine ⟨hs, ⟨?_, fun k => (F.at_ k).mono (fun f g hf hg => hoth g (F.fileO k f g hf hg).2.2), F.apart, F.inO, F.fileO, fun k ho => by simpa [World.setCell] using F.lt k ho⟩, h.good, h.dpO, hf, hl⟩
  obtain ⟨es, clock, hb, F', hsz, hD⟩ := F.owns
  exact ⟨es, clock, (hoth mb (fun e => h.ne e.symm)).trans hb, F', hsz, hD⟩
end
/-- A disk, but for what the file of one name holds in memory. -/
structure DskX (w : World) (dp mb : Nat) (C : DataW Fe) (D : FS) (room : Nat) (fuse fails : Int) (O : Nat → Prop) (s : List UInt8) : Prop where
  cells : w.heap[dp]? = some (.cells #[.map (some mb), .int .i64 (room : Int), .int .i64 fuse, .int .i64 fails] 51 (0, 0))
  owns : w.ownsMap Try.prog 9 rdF mb (size C) C
  has_ : ∀ k, has C k = has D k
  at_ : ∀ k, k ≠ .string s → FRel w (look C k) (look D k)
  apart : ∀ k k' f f' g, look C k = some (.held f) → look C k' = some (.held f') → f.sl.ownBlock = some g → f'.sl.ownBlock = some g → k = k'
  inO : O mb
  fileO : ∀ k f g, look C k = some (.held f) → f.sl.ownBlock = some g → O g ∧ g ≠ mb ∧ g ≠ dp
  lt : ∀ k, O k → k < w.heap.size
  good : Good D room
  dpO : O dp
  fuse_ : -1 ≤ fuse ∧ fuse ≤ 9223372036854775807
  fails_ : 0 ≤ fails ∧ fails ≤ 9223372036854775807
section
variable {w : World} {dp mb room : Nat} {C : DataW Fe} {D : FS} {fuse fails : Int} {O : Nat → Prop} {s : List UInt8}
theorem DskC.x (h : DskC w dp mb C D room fuse fails O) (s : List UInt8) : DskX w dp mb C D room fuse fails O s :=
  ⟨h.cells, h.files.owns, h.files.has_, fun k _ => h.files.at_ k, h.files.apart, h.files.inO, h.files.fileO, h.files.lt, h.good, h.dpO, h.fuse_, h.fails_⟩
theorem DskX.ne (h : DskX w dp mb C D room fuse fails O s) : dp ≠ mb := by
  intro e
  obtain ⟨es, clock, hb, _⟩ := h.owns
  rw [← e, h.cells] at hb
  cases hb
theorem DskX.size_ (h : DskX w dp mb C D room fuse fails O s) : size C = size D := by rw [size_keysL, size_keysL, keysL_eq (h.owns.canon law9) h.good.canon h.has_]
theorem DskX.cell (h : DskX w dp mb C D room fuse fails O s) : w.cell? ⟨dp, 0, none⟩ = some (.map (some mb)) := (cell_of_row w dp 0 _ _ _ h.cells).trans rfl
/-- What stands elsewhere is written. -/
theorem DskX.same {w' : World} (h : DskX w dp mb C D room fuse fails O s) (hk : ∀ k, O k → (∀ f, look C (.string s) = some (.held f) → f.sl.ownBlock ≠ some k) → w'.heap[k]? = w.heap[k]?) (hz : w.heap.size ≤ w'.heap.size) : DskX w' dp mb C D room fuse fails O s := by
  have h1 : w'.heap[mb]? = w.heap[mb]? := hk mb h.inO (fun f hf hb => (h.fileO _ f mb hf hb).2.1 rfl)
  have h2 : w'.heap[dp]? = w.heap[dp]? := hk dp h.dpO (fun f hf hb => (h.fileO _ f dp hf hb).2.2 rfl)
  refine ⟨h2.trans h.cells, ?_, h.has_, fun k hne => (h.at_ k hne).mono (fun f g hf hg => hk g (h.fileO k f g hf hg).1 (fun f' hf' hb' => hne (h.apart k _ f f' g hf hf' hg hb'))), h.apart, h.inO, h.fileO, fun k ho => Nat.lt_of_lt_of_le (h.lt k ho) hz, h.good, h.dpO, h.fuse_, h.fails_⟩
  obtain ⟨es, clock, hb, F, hs, hD⟩ := h.owns
  exact ⟨es, clock, h1.trans hb, F, hs, hD⟩
theorem DskX.below {w' : World} (h : DskX w dp mb C D room fuse fails O s) (hb : Below w.heap.size w w') : DskX w' dp mb C D room fuse fails O s := h.same (fun k hk _ => hb.block k (h.lt k hk)) hb.size
/-- A file is laid: behind the store into the map. -/
theorem DskX.laid (h : DskX w dp mb C D room fuse fails O s) {w' : World} {f : Fe} {g : Fl} {n : Nat} (hg : w.grownBy w' (some mb)) (hO : w'.ownsMap Try.prog 9 rdF mb n (C.put (.string s) (.held f)))
    (hl : f.l = (g.l : Int)) (ho : OwnB w 0 5 f.sl g.bs) (hap : ∀ k f' b, k ≠ .string s → look C k = some (.held f') → f.sl.ownBlock = some b → f'.sl.ownBlock ≠ some b)
    (hb : ∀ b, f.sl.ownBlock = some b → b ≠ mb ∧ b ≠ dp) (hG : Good (D.put (.string s) (.held g)) room) :
    DskC w' dp mb (C.put (.string s) (.held f)) (D.put (.string s) (.held g)) room fuse fails (fun k => O k ∨ f.sl.ownBlock = some k) := by
  have hoth : ∀ k, k < w.heap.size → k ≠ mb → w'.heap[k]? = w.heap[k]? := fun k hk hne => hg.block k hk (fun e => hne (by injection e))
  have hCm := canon_map (h.owns.canon law9)
  have hDm := canon_map h.good.canon
  refine ⟨(hoth dp (h.lt dp h.dpO) h.ne).trans h.cells, ⟨owns_tight hO, fun k => ?_, fun k k' f1 f2 b h1 h2 b1 b2 => ?_, .inl h.inO, fun k f1 b h1 b1 => ?_, fun k hk => ?_⟩, hG, .inl h.dpO, h.fuse_, h.fails_⟩
  · by_cases e : k = .string s
    · subst e
      rw [look_put_same hCm (isKey_str s), look_put_same hDm (isKey_str s)]
      exact FRel.mono (w := w) (a := some (.held f)) (b := some (.held g)) ⟨hl, ho⟩ (fun f1 b e1 hb1 => by
        injection e1 with e1
        injection e1 with e1
        subst e1
        exact hoth b (ho.at_base hb1).2 (hb b hb1).1)
    · rw [look_put_other e, look_put_other e]
      exact (h.at_ k e).mono (fun f1 b h1 hb1 => hoth b (h.lt b (h.fileO k f1 b h1 hb1).1) (h.fileO k f1 b h1 hb1).2.1)
  · by_cases e : k = .string s
    · by_cases e' : k' = .string s
      · rw [e, e']
      · subst e
        rw [look_put_same hCm (isKey_str s)] at h1
        rw [look_put_other e'] at h2
        injection h1 with h1
        injection h1 with h1
        subst h1
        exact absurd b2 (hap k' f2 b e' h2 b1)
    · by_cases e' : k' = .string s
      · subst e'
        rw [look_put_same hCm (isKey_str s)] at h2
        rw [look_put_other e] at h1
        injection h2 with h2
        injection h2 with h2
        subst h2
        exact absurd b1 (hap k f1 b e h1 b2)
      · rw [look_put_other e] at h1
        rw [look_put_other e'] at h2
        exact h.apart k k' f1 f2 b h1 h2 b1 b2
  · by_cases e : k = .string s
    · subst e
      rw [look_put_same hCm (isKey_str s)] at h1
      injection h1 with h1
      injection h1 with h1
      subst h1
      exact ⟨.inr b1, hb b b1⟩
    · rw [look_put_other e] at h1
      exact ⟨.inl (h.fileO k f1 b h1 b1).1, (h.fileO k f1 b h1 b1).2⟩
  · rcases hk with hk | hk
    · exact Nat.lt_of_lt_of_le (h.lt k hk) hg.size
    · exact Nat.lt_of_lt_of_le (ho.at_base hk).2 hg.size
/-- A file is taken away. -/
theorem DskC.gone (h : DskC w dp mb C D room fuse fails O) {w' : World} (s : List UInt8) {n : Nat} (hg : w.grownBy w' (some mb)) (hO : w'.ownsMap Try.prog 9 rdF mb n (C.del (.string s))) :
    DskC w' dp mb (C.del (.string s)) (D.del (.string s)) room fuse fails O := by
  have hoth : ∀ k, k < w.heap.size → k ≠ mb → w'.heap[k]? = w.heap[k]? := fun k hk hne => hg.block k hk (fun e => hne (by injection e))
  have F := h.files
  refine ⟨(hoth dp (h.lt dp h.dpO) h.ne).trans h.cells, ⟨owns_tight hO, fun k => ?_, fun k k' f1 f2 b h1 h2 b1 b2 => ?_, F.inO, fun k f1 b h1 b1 => ?_, fun k hk => Nat.lt_of_lt_of_le (F.lt k hk) hg.size⟩, h.good.del s, h.dpO, h.fuse_, h.fails_⟩
  · by_cases e : k = .string s
    · subst e
      rw [look_del_same, look_del_same]
      trivial
    · rw [look_del_other e, look_del_other e]
      exact (F.at_ k).mono (fun f1 b h1 hb1 => hoth b (F.lt b (F.fileO k f1 b h1 hb1).1) (F.fileO k f1 b h1 hb1).2.1)
  · by_cases e : k = .string s
    · subst e; rw [look_del_same] at h1; cases h1
    · by_cases e' : k' = .string s
      · subst e'; rw [look_del_same] at h2; cases h2
      · rw [look_del_other e] at h1
        rw [look_del_other e'] at h2
        exact F.apart k k' f1 f2 b h1 h2 b1 b2
  · by_cases e : k = .string s
    · subst e; rw [look_del_same] at h1; cases h1
    · rw [look_del_other e] at h1
      exact F.fileO k f1 b h1 b1
end
theorem clone_any (s : ByteArray) (hs : s.size ≤ 281474976710656) (w : World) : Calls Try.prog 53 #[.string s] w fun e w' => e = .returned (.string s) ∧ Below w.heap.size w w' := by
  have C := Lib.hid (Try.stringslite_Clone s w hs)
  clear hs
  go_enter Try.func53, Try.ntmps53
  go_wp2_with fail
  refine C.out.mono ?_
  rintro e w' ⟨rfl, hb⟩
  have H := Lib.hid hb
  clear hb C
  go_wp2
  go_ret
  exact ⟨rfl, H.out⟩

/-- What 'lay' leaves. -/
def LaidD (w : World) (dp mb room : Nat) (C : DataW Fe) (D : FS) (fuse fails : Int) (O : Nat → Prop) (s : List UInt8) (f : Fe) (g : Fl) (e : Ending) (w' : World) : Prop :=
  e = .returned (.tuple #[]) ∧ DskC w' dp mb (C.put (.string s) (.held f)) (D.put (.string s) (.held g)) room fuse fails (fun k => O k ∨ f.sl.ownBlock = some k) ∧ But O w w'
theorem cells2 (w : World) (u v : Value) (t : TypeId) : (w.alloc (.cells #[u, v] t)).cell? ⟨w.heap.size, 0, none⟩ = some u ∧ (w.alloc (.cells #[u, v] t)).cell? ⟨w.heap.size, 1, none⟩ = some v :=
  ⟨(cell_of_row _ _ 0 _ _ _ (heap_alloc_new w _)).trans rfl, (cell_of_row _ _ 1 _ _ _ (heap_alloc_new w _)).trans rfl⟩
set_option linter.unusedSimpArgs false in
set_option maxRecDepth 100000 in
set_option maxHeartbeats 1600000 in
theorem lay_any {w : World} {dp mb room : Nat} {C : DataW Fe} {D : FS} {fuse fails : Int} {O : Nat → Prop} (s : ByteArray) (h : DskX w dp mb C D room fuse fails O s.data.toList) (hs : s.size ≤ 281474976710656) (f : Fe) (g : Fl)
    (hl : f.l = (g.l : Int)) (ho : OwnB w 0 5 f.sl g.bs) (hap : ∀ k f' b, k ≠ .string s.data.toList → look C k = some (.held f') → f.sl.ownBlock = some b → f'.sl.ownBlock ≠ some b)
    (hb : ∀ b, f.sl.ownBlock = some b → b ≠ mb ∧ b ≠ dp) (hG : Good (D.put (.string s.data.toList) (.held g)) room) :
    Calls Try.prog 40 #[.pointer (some ⟨dp, 0, none⟩), .string s, .agg #[.slice f.a f.n f.c, .int .i64 f.l]] w (LaidD w dp mb room C D fuse fails O s.data.toList f g) := by
  have CL := Lib.hid (clone_any s hs)
  have HH := Lib.hid (And.intro h (And.intro hl (And.intro ho (And.intro hap (And.intro hb hG)))))
  have c0 := h.cell
  have hlt := h.lt dp h.dpO
  have c1 : (w.alloc (.cells #[.slice f.a f.n f.c, .int .i64 f.l] 56)).cell? ⟨dp, 0, none⟩ = some (.map (some mb)) := (World.cell?_alloc_past _ _ _ hlt).trans c0
  obtain ⟨b0, b1⟩ := cells2 w (.slice f.a f.n f.c) (.int .i64 f.l) 56
  have HB : Below w.heap.size w (w.alloc (.cells #[.slice f.a f.n f.c, .int .i64 f.l] 56)) := (Below.refl _ _).alloc (Nat.le_refl _) _
  clear h hl ho hap hb hG c0
  go_enter Try.func40, Try.ntmps40
  go_wp2_with fail
  refine wp_region_held_drew (S := fun x => x.cell? ⟨dp, 0, none⟩ = some (.map (some mb)) ∧ x.cell? ⟨w.heap.size, 0, none⟩ = some (.slice f.a f.n f.c) ∧ x.cell? ⟨w.heap.size, 1, none⟩ = some (.int .i64 f.l)) (by kernel_rfl) ⟨c1, b0, b1⟩ (fun hHeld => ?_)
  refine wpAnyH_take (i := 0) (v := ?_) rfl (by kernel_rfl) (by kernel_rfl) (by kernel_rfl) (fun _ _ _ h => h) (Or.inl ⟨by rfl, ?_⟩) (by assumption) ?_
  rotate_left
  · intro w hSw
    (try dsimp only at hSw)
    go_simp
    all_goals with_reducible rfl
  try simp only [Act.put, List.getElem_toArray, List.getElem_cons_succ, List.getElem_cons_zero, List.setIfInBounds_toArray, List.set_cons_zero, List.set_cons_succ]
  refine wpAnyH_take (i := 1) (v := ?_) rfl (by kernel_rfl) (by kernel_rfl) (by kernel_rfl) (fun _ _ _ h => h) (Or.inl ⟨by rfl, ?_⟩) (by assumption) ?_
  rotate_left
  · intro w hSw
    (try dsimp only at hSw)
    go_simp
    all_goals with_reducible rfl
  try simp only [Act.put, List.getElem_toArray, List.getElem_cons_succ, List.getElem_cons_zero, List.setIfInBounds_toArray, List.set_cons_zero, List.set_cons_succ]
  refine wpAnyH_take (i := 2) (v := ?_) rfl (by kernel_rfl) (by kernel_rfl) (by kernel_rfl) (fun _ _ _ h => h) (Or.inl ⟨by rfl, ?_⟩) (by assumption) ?_
  rotate_left
  · intro w hSw
    (try dsimp only at hSw)
    go_simp
    all_goals with_reducible rfl
  try simp only [Act.put, List.getElem_toArray, List.getElem_cons_succ, List.getElem_cons_zero, List.setIfInBounds_toArray, List.set_cons_zero, List.set_cons_succ]
  refine wpAnyH_take (i := 3) (v := ?_) rfl (by kernel_rfl) (by kernel_rfl) (by kernel_rfl) (fun _ _ _ h => h) (Or.inl ⟨by rfl, ?_⟩) (by assumption) ?_
  rotate_left
  · intro w hSw
    (try dsimp only at hSw)
    go_simp
    all_goals with_reducible rfl
  try simp only [Act.put, List.getElem_toArray, List.getElem_cons_succ, List.getElem_cons_zero, List.setIfInBounds_toArray, List.set_cons_zero, List.set_cons_succ]
  refine wpAnyH_take (i := 4) (v := ?_) rfl (by kernel_rfl) (by kernel_rfl) (by kernel_rfl) (fun _ _ _ h => h) (Or.inl ⟨by rfl, ?_⟩) (by assumption) ?_
  rotate_left
  · intro w hSw
    (try dsimp only at hSw)
    go_simp
    all_goals with_reducible rfl
  try simp only [Act.put, List.getElem_toArray, List.getElem_cons_succ, List.getElem_cons_zero, List.setIfInBounds_toArray, List.set_cons_zero, List.set_cons_succ]
  refine wpAnyH_take (i := 6) (v := ?_) rfl (by kernel_rfl) (by kernel_rfl) (by kernel_rfl) (fun _ _ _ h => h) (Or.inl ⟨by rfl, ?_⟩) (by assumption) ?_
  rotate_left
  · intro w hSw
    (try dsimp only at hSw)
    go_simp
    all_goals with_reducible rfl
  try simp only [Act.put, List.getElem_toArray, List.getElem_cons_succ, List.getElem_cons_zero, List.setIfInBounds_toArray, List.set_cons_zero, List.set_cons_succ]
  refine wpAnyH_ready (rs := [5]) (by kernel_rfl) (by simp) ?_
  refine AllReadyH.cons rfl (fun K hK => ?_) AllReadyH.nil
  rw [if_pos (by rfl)]
  go_simp
  go_at_call 53
  refine (CL.out _).mono ?_
  rintro e w2 ⟨rfl, hb2⟩
  have hB2 := HB.trans (below_drew_of hb2 |>.mono (by simp))
  have k1 := (hb2.cell (p := ⟨dp, 0, none⟩) (by simp; omega)).trans c1
  have k2 := (hb2.cell (p := ⟨w.heap.size, 0, none⟩) (by simp)).trans b0
  have k3 := (hb2.cell (p := ⟨w.heap.size, 1, none⟩) (by simp)).trans b1
  refine hK.out _ _ ?_ (fun hHeld => ?_)
  · exact ⟨k1, k2, k3⟩
  clear hK K
  try simp only [Act.put, List.getElem_toArray, List.getElem_cons_succ, List.getElem_cons_zero, List.setIfInBounds_toArray, List.set_cons_zero, List.set_cons_succ]
  obtain ⟨h, hl, ho, hap, hb, hG⟩ := HH.out
  have h2 := h.below hB2
  have hsz : size C ≤ 64 := by rw [h.size_]; exact h.good.size_
  obtain ⟨w3, hrun, hown3, hg3⟩ := h2.owns.update law9 Try.underlying49 (by unfold maxLen; omega) (Files.key (s := s) (by unfold maxLen; omega)) (rdF_val f)
  have hrun : (Instr.mapUpdate 49 (.map (some mb)) (.string s) (.agg #[.slice f.a f.n f.c, .int .i64 f.l])).run Try.prog w2 = .ok () w3 := hrun
  have h3 := h2.laid hg3 hown3 hl (ho.below hB2) hap hb hG
  have hne := h.ne
  have hmb := h.lt mb h.inO
  have q1 := hg3.cell k1 (fun e => hne (by injection e))
  have q2 := hg3.cell k2 (by simp; omega)
  have q3 := hg3.cell k3 (by simp; omega)
  have H3 := Lib.hid (And.intro h3 ((But.of_below hB2 : But O w w2).trans (But.grown (O := O) hg3 (fun k e => by injection e with e; subst e; exact h.inO)) (fun i hi => .inl hi)))
  clear h hl ho hap hb hG h2 h3 hown3 hg3 hsz HH CL hb2
  refine wpAnyH_ready (rs := [7]) (by kernel_rfl) (by simp) ?_
  refine AllReadyH.cons rfl (fun K hK => ?_) AllReadyH.nil
  rw [if_pos (by rfl)]
  go_simp
  refine hK.out _ _ ?_ (fun hHeld => ?_)
  · exact ⟨q1, q2, q3⟩
  clear hK K
  try simp only [Act.put, List.getElem_toArray, List.getElem_cons_succ, List.getElem_cons_zero, List.setIfInBounds_toArray, List.set_cons_zero, List.set_cons_succ]
  refine wpAnyH_done (by kernel_rfl) ?_ _
  go_wp2
  go_end0
  exact ⟨rfl, H3.out⟩
end Go.Proofs.Ytohiheohndmccaa
