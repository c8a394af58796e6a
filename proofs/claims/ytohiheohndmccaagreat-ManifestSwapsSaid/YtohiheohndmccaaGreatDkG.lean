/- Contracts of the program's disk: New, look-ups, lay. Contracts of the program's disk: New, lay, call. Contracts of the program's disk: New, call, callOn. Contracts of the program's disk: callOn. Contracts of the program's disk: Sync, Delete, Fuse, Fail. -/
import Derived.Test.YtohiheohndmccaaGreatDkB
import Derived.Test.YtohiheohndmccaaGreatLib
import Derived.Test.YtohiheohndmccaaGreatTake
import Derived.Test.YtohiheohndmccaaGreatHeld
import Derived.Carry
namespace Go.Proofs.YtohiheohndmccaaGreat
set_option linter.unusedSimpArgs false
section
open Go.RowKit
open Go.Maps

theorem But.cell {O : Nat → Prop} {w w' : World} (h : But O w w') {b o : Nat} (hb : b < w.heap.size) (hn : ¬ O b) : w'.cell? ⟨b, o, none⟩ = w.cell? ⟨b, o, none⟩ := World.cell?_of_block (w := w) (a := ⟨b, o, none⟩) (h.block b hb hn)
theorem But.frozen {O : Nat → Prop} {w w' : World} (h : But O w w') {b o : Nat} (hb : b < w.heap.size) (hn : ¬ O b) : w'.frozen? ⟨b, o, none⟩ = w.frozen? ⟨b, o, none⟩ := World.frozen?_of_block (w := w) (a := ⟨b, o, none⟩) (h.block b hb hn)

/-- All keys, in their order. -/
def keysL {H : Type} : DataW H → List Lit
  | .map es => es.map (·.1)
  | _ => []
theorem keysL_mem {H : Type} {D : DataW H} (h : Canon D) (k : Lit) : k ∈ keysL D ↔ has D k = true := by
  obtain ⟨es, rfl, _, hk⟩ := h
  show k ∈ es.map (·.1) ↔ es.any (fun p => p.1.sameKey k) = true
  rw [List.mem_map, List.any_eq_true]
  constructor
  · rintro ⟨p, hp, rfl⟩
    exact ⟨p, hp, WideAt.sameKey_self (hk p hp)⟩
  · rintro ⟨p, hp, hs⟩
    exact ⟨p, hp, WideAt.sameKey_eq hs⟩
theorem keysL_sorted {H : Type} {D : DataW H} (h : Canon D) : (keysL D).Pairwise (fun a b => a.before b = true) := by
  obtain ⟨es, rfl, h1, _⟩ := h
  exact List.pairwise_map.2 h1
theorem sorted_eq : ∀ {l₁ l₂ : List Lit}, l₁.Pairwise (fun p q => p.before q = true) → l₂.Pairwise (fun p q => p.before q = true) → (∀ p, p ∈ l₁ ↔ p ∈ l₂) → l₁ = l₂
  | [], [], _, _, _ => rfl
  | [], b :: s, _, _, h => by have := (h b).2 (by simp); simp at this
  | a :: r, [], _, _, h => by have := (h a).1 (by simp); simp at this
  | a :: r, b :: s, h1, h2, h => by
    obtain ⟨a1, a2⟩ := List.pairwise_cons.1 h1
    obtain ⟨b1, b2⟩ := List.pairwise_cons.1 h2
    have irr : ∀ {x y : Lit}, x.before y = true → y.before x = true → False := fun {x y} h h' => by
      have := WideShapes.before_trans h h'
      rw [WideShapes.before_irrefl] at this
      cases this
    have hab : a = b := by
      rcases List.mem_cons.1 ((h a).1 (by simp)) with e | ha
      · exact e
      · rcases List.mem_cons.1 ((h b).2 (by simp)) with e | hb
        · exact e.symm
        · exact (irr (a1 b hb) (b1 a ha)).elim
    subst hab
    rw [sorted_eq a2 b2 (fun p => ⟨fun hp => by
      rcases List.mem_cons.1 ((h p).1 (by simp [hp])) with e | hp'
      · subst e; exact (irr (a1 p hp) (a1 p hp)).elim
      · exact hp', fun hp => by
      rcases List.mem_cons.1 ((h p).2 (by simp [hp])) with e | hp'
      · subst e; exact (irr (b1 p hp) (b1 p hp)).elim
      · exact hp'⟩)]
theorem keysL_eq {H H' : Type} {C : DataW H} {D : DataW H'} (hC : Canon C) (hD : Canon D) (h : ∀ k, has C k = has D k) : keysL C = keysL D :=
  sorted_eq (keysL_sorted hC) (keysL_sorted hD) (fun k => by rw [keysL_mem hC, keysL_mem hD, h])
theorem size_keysL {H : Type} (D : DataW H) : size D = (keysL D).length := by cases D <;> simp [size, keysL]
theorem strKeys_keysL {H : Type} (D : DataW H) : strKeys D = (keysL D).map Go.strOf := by cases D <;> simp [strKeys, keysL]
theorem zero_file (w : World) : (zeroValue 72).run Tryz.prog w = .ok Fe.zero.val w := by kernel_rfl
theorem look_held {w : World} {mb dp : Nat} {C : DataW Fe} {D : FS} {O : Nat → Prop} (h : Files w mb dp C D O) (k : Lit) : C.atKey k (.held Fe.zero) = .held (cat C k) := by
  rw [atKey_look]
  unfold cat
  have := h.at_ k
  match hc : look C k, hd : look D k with
  | none, _ => rfl
  | some (.held f), _ => rfl
  | some (.lit _), none | some .nil, none | some (.ptr _), none | some (.slice _ _), none | some (.agg _), none | some (.iface _ _), none | some (.map _), none => rw [hc, hd] at this; exact this.elim
  | some (.lit _), some _ | some .nil, some _ | some (.ptr _), some _ | some (.slice _ _), some _ | some (.agg _), some _ | some (.iface _ _), some _ | some (.map _), some _ => rw [hc, hd] at this; exact this.elim
section
variable {w : World} {mb dp : Nat} {C : DataW Fe} {D : FS} {O : Nat → Prop}
theorem Files.keys_ (h : Files w mb dp C D O) (hD : Canon D) : keysL C = keysL D := keysL_eq h.canon hD h.has_
theorem Files.size_ (h : Files w mb dp C D O) (hD : Canon D) : size C = size D := by rw [size_keysL, size_keysL, h.keys_ hD]
theorem Files.cat_ (h : Files w mb dp C D O) (s : List UInt8) (f : Fl) (hf : fat D s = some f) : look C (.string s) = some (.held (cat C (.string s))) ∧ (cat C (.string s)).l = (f.l : Int) ∧ OwnB w 0 5 (cat C (.string s)).sl f.bs := by
  have := h.at_ (.string s)
  unfold fat at hf
  unfold cat
  match hc : look C (.string s), hd : look D (.string s) with
  | none, some _ => rw [hc, hd] at this; exact this.elim
  | _, none => rw [hd] at hf; cases hf
  | some (.held g), some (.held f') =>
    rw [hd] at hf
    injection hf with hf
    subst hf
    rw [hc, hd] at this
    exact ⟨rfl, this⟩
  | some (.held _), some (.lit _) | some (.held _), some .nil | some (.held _), some (.ptr _) | some (.held _), some (.slice _ _) | some (.held _), some (.agg _) | some (.held _), some (.iface _ _) | some (.held _), some (.map _) => rw [hd] at hf; cases hf
  | some (.lit _), some _ | some .nil, some _ | some (.ptr _), some _ | some (.slice _ _), some _ | some (.agg _), some _ | some (.iface _ _), some _ | some (.map _), some _ => rw [hc, hd] at this; exact this.elim
theorem Files.cat_none (h : Files w mb dp C D O) {room : Nat} (hG : Good D room) (s : List UInt8) (hf : fat D s = none) : look C (.string s) = none ∧ cat C (.string s) = Fe.zero := by
  have h1 : look C (.string s) = none := by
    have h2 := h.has_ (.string s)
    rw [hG.has_, hf, has_look] at h2
    cases hl : look C (.string s) with
    | none => rfl
    | some _ => rw [hl] at h2; cases h2
  exact ⟨h1, by unfold cat; rw [h1]⟩
/-- 'm[name]', in whatever world in which the map is as it is. -/
theorem Files.run_look (h : Files w mb dp C D O) {s : ByteArray} (hs : s.size ≤ maxLen) (w' : World) (hw : w'.heap[mb]? = w.heap[mb]?) :
    (Instr.lookup 52 (.map (some mb)) (.string s) false).run Tryz.prog w' = .ok (cat C (.string s.data.toList)).val w' ∧
    (Instr.lookup 52 (.map (some mb)) (.string s) true).run Tryz.prog w' = .ok (.tuple #[(cat C (.string s.data.toList)).val, .bool (has C (.string s.data.toList))]) w' := by
  obtain ⟨es, clock, hb, F, hsz, hD⟩ := h.owns
  have own : w'.ownsMap Tryz.prog 9 rdF mb (size C) C := ⟨es, clock, hw.trans hb, F, hsz, hD⟩
  obtain ⟨v, ps, h1, h2⟩ := own.lookup law9 Tryz.underlying52 (zero_file w') (rdF_val Fe.zero) (Files.key hs)
  obtain ⟨v', ps', h1', h2'⟩ := own.look_ok law9 Tryz.underlying52 (zero_file w') (rdF_val Fe.zero) (Files.key hs)
  rw [look_held h] at h2 h2'
  obtain ⟨f, rfl, e⟩ := rdF_inv h2
  obtain ⟨f', rfl, e'⟩ := rdF_inv h2'
  simp only [Prod.mk.injEq, DataW.held.injEq] at e e'
  rw [← e.1] at h1
  rw [← e'.1] at h1'
  exact ⟨h1, h1'⟩
theorem Files.run_len (h : Files w mb dp C D O) (w' : World) (hw : w'.heap[mb]? = w.heap[mb]?) (hC : Canon D) (ty : TypeId) : (Builtin.len_ #[52] ty #[.map (some mb)]).run Tryz.prog w' = .ok (.int .i64 (size D : Nat)) w' := by
  obtain ⟨es, clock, hb, F, hsz, hD⟩ := h.owns
  have own : w'.ownsMap Tryz.prog 9 rdF mb (size C) C := ⟨es, clock, hw.trans hb, F, hsz, hD⟩
  rw [own.len Tryz.underlying52 ty, h.size_ hC]
end
end
section
open Go.RowKit
open Go.Maps
attribute [local go_sem] Oper.semAt_some

theorem owns_tight {w : World} {C : DataW Fe} {b n : Nat} (h : w.ownsMap Tryz.prog 9 rdF b n C) : w.ownsMap Tryz.prog 9 rdF b (size C) C := by
  obtain ⟨es, clock, hb, F, hs, rfl⟩ := h
  exact ⟨es, clock, hb, F, by simp [size, length_sorted], rfl⟩
/-- Nothing is there. -/
theorem dsk_new (w : World) (room : Nat) (hr : room ≤ 1048576) :
    Dsk ((w.alloc (.map #[] 0)).alloc (.cells #[.map (some w.heap.size), .int .i64 (room : Int), .int .i64 (-1), .int .i64 0] 54)) (w.heap.size + 1) (.map []) room (-1) 0 (fun k => k = w.heap.size ∨ k = w.heap.size + 1) := by
  have h1 : (w.alloc (.map #[] 0)).heap.size = w.heap.size + 1 := by simp
  refine ⟨w.heap.size, .map [], ⟨by rw [← h1]; exact heap_alloc_new _ _, ⟨?_, fun k => trivial, fun k k' f f' g h => by (cases h), .inl rfl, fun k f g h => by (cases h), fun k hk => by simp; omega⟩, Good.empty hr, .inr rfl, ⟨by decide, by decide⟩, ⟨by decide, by decide⟩⟩⟩
  exact World.ownsMap.alloc (World.ownsMap_made w Tryz.prog 9 rdF) _
section
variable {w : World} {dp mb room : Nat} {C : DataW Fe} {D : FS} {fuse fails : Int} {O : Nat → Prop}
theorem DskC.ne (h : DskC w dp mb C D room fuse fails O) : dp ≠ mb := by
  intro e
  obtain ⟨es, clock, hb, _⟩ := h.files.owns
  rw [← e, h.cells] at hb
  cases hb
/-- A number of the disk's own is set. -/
theorem DskC.set_ (h : DskC w dp mb C D room fuse fails O) (j : Nat) (u : Value) {fuse' fails' : Int} (hc : ((#[.map (some mb), .int .i64 (room : Int), .int .i64 fuse, .int .i64 fails] : Array Value).setIfInBounds j u) = #[.map (some mb), .int .i64 (room : Int), .int .i64 fuse', .int .i64 fails'])
    (hf : -1 ≤ fuse' ∧ fuse' ≤ 9223372036854775807) (hl : 0 ≤ fails' ∧ fails' ≤ 9223372036854775807) : DskC (w.setCell ⟨dp, j, none⟩ u) dp mb C D room fuse' fails' O := by
  have hs := heap_setCell_same w dp j _ _ u h.cells
  rw [hc] at hs
  have hoth : ∀ k, k ≠ dp → (w.setCell ⟨dp, j, none⟩ u).heap[k]? = w.heap[k]? := fun k hk => Below.heap_setCell w ⟨dp, j, none⟩ u k hk
  have F := h.files
  refine ⟨hs, ⟨?_, fun k => (F.at_ k).mono (fun f g hf hg => hoth g (F.fileO k f g hf hg).2.2), F.apart, F.inO, F.fileO, fun k ho => by simpa [World.setCell] using F.lt k ho⟩, h.good, h.dpO, hf, hl⟩
  obtain ⟨es, clock, hb, F', hsz, hD⟩ := F.owns
  exact ⟨es, clock, (hoth mb (fun e => h.ne e.symm)).trans hb, F', hsz, hD⟩
end
/-- A disk, but for what the file of one name holds in memory. -/
structure DskX (w : World) (dp mb : Nat) (C : DataW Fe) (D : FS) (room : Nat) (fuse fails : Int) (O : Nat → Prop) (s : List UInt8) : Prop where
  cells : w.heap[dp]? = some (.cells #[.map (some mb), .int .i64 (room : Int), .int .i64 fuse, .int .i64 fails] 54 (0, 0))
  owns : w.ownsMap Tryz.prog 9 rdF mb (size C) C
  has_ : ∀ k, has C k = has D k
  at_ : ∀ k, k ≠ .string s → FRel w (look C k) (look D k)
  apart : ∀ k k' f f' g, look C k = some (.held f) → look C k' = some (.held f') → f.sl.ownBlock = some g → f'.sl.ownBlock = some g → k = k'
  inO : O mb
  fileO : ∀ k f g, look C k = some (.held f) → f.sl.ownBlock = some g → O g ∧ g ≠ mb ∧ g ≠ dp
  lt : ∀ k, O k → k < w.heap.size
  good : Good D room
  dpO : O dp
  fuse_ : -1 ≤ fuse ∧ fuse ≤ 9223372036854775807
  fails_ : 0 ≤ fails ∧ fails ≤ 9223372036854775807
section
variable {w : World} {dp mb room : Nat} {C : DataW Fe} {D : FS} {fuse fails : Int} {O : Nat → Prop} {s : List UInt8}
theorem DskC.x (h : DskC w dp mb C D room fuse fails O) (s : List UInt8) : DskX w dp mb C D room fuse fails O s :=
  ⟨h.cells, h.files.owns, h.files.has_, fun k _ => h.files.at_ k, h.files.apart, h.files.inO, h.files.fileO, h.files.lt, h.good, h.dpO, h.fuse_, h.fails_⟩
theorem DskX.ne (h : DskX w dp mb C D room fuse fails O s) : dp ≠ mb := by
  intro e
  obtain ⟨es, clock, hb, _⟩ := h.owns
  rw [← e, h.cells] at hb
  cases hb
theorem DskX.size_ (h : DskX w dp mb C D room fuse fails O s) : size C = size D := by rw [size_keysL, size_keysL, keysL_eq (h.owns.canon law9) h.good.canon h.has_]
theorem DskX.cell (h : DskX w dp mb C D room fuse fails O s) : w.cell? ⟨dp, 0, none⟩ = some (.map (some mb)) := (cell_of_row w dp 0 _ _ _ h.cells).trans rfl
/-- What stands elsewhere is written. -/
theorem DskX.same {w' : World} (h : DskX w dp mb C D room fuse fails O s) (hk : ∀ k, O k → (∀ f, look C (.string s) = some (.held f) → f.sl.ownBlock ≠ some k) → w'.heap[k]? = w.heap[k]?) (hz : w.heap.size ≤ w'.heap.size) : DskX w' dp mb C D room fuse fails O s := by
  have h1 : w'.heap[mb]? = w.heap[mb]? := hk mb h.inO (fun f hf hb => (h.fileO _ f mb hf hb).2.1 rfl)
  have h2 : w'.heap[dp]? = w.heap[dp]? := hk dp h.dpO (fun f hf hb => (h.fileO _ f dp hf hb).2.2 rfl)
  refine ⟨h2.trans h.cells, ?_, h.has_, fun k hne => (h.at_ k hne).mono (fun f g hf hg => hk g (h.fileO k f g hf hg).1 (fun f' hf' hb' => hne (h.apart k _ f f' g hf hf' hg hb'))), h.apart, h.inO, h.fileO, fun k ho => Nat.lt_of_lt_of_le (h.lt k ho) hz, h.good, h.dpO, h.fuse_, h.fails_⟩
  obtain ⟨es, clock, hb, F, hs, hD⟩ := h.owns
  exact ⟨es, clock, h1.trans hb, F, hs, hD⟩
theorem DskX.below {w' : World} (h : DskX w dp mb C D room fuse fails O s) (hb : Below w.heap.size w w') : DskX w' dp mb C D room fuse fails O s := h.same (fun k hk _ => hb.block k (h.lt k hk)) hb.size
/-- A file is laid: behind the store into the map. -/
theorem DskX.laid (h : DskX w dp mb C D room fuse fails O s) {w' : World} {f : Fe} {g : Fl} {n : Nat} (hg : w.grownBy w' (some mb)) (hO : w'.ownsMap Tryz.prog 9 rdF mb n (C.put (.string s) (.held f)))
    (hl : f.l = (g.l : Int)) (ho : OwnB w 0 5 f.sl g.bs) (hap : ∀ k f' b, k ≠ .string s → look C k = some (.held f') → f.sl.ownBlock = some b → f'.sl.ownBlock ≠ some b)
    (hb : ∀ b, f.sl.ownBlock = some b → b ≠ mb ∧ b ≠ dp) (hG : Good (D.put (.string s) (.held g)) room) :
    DskC w' dp mb (C.put (.string s) (.held f)) (D.put (.string s) (.held g)) room fuse fails (fun k => O k ∨ f.sl.ownBlock = some k) := by
  have hoth : ∀ k, k < w.heap.size → k ≠ mb → w'.heap[k]? = w.heap[k]? := fun k hk hne => hg.block k hk (fun e => hne (by injection e))
  have hCm := canon_map (h.owns.canon law9)
  have hDm := canon_map h.good.canon
  refine ⟨(hoth dp (h.lt dp h.dpO) h.ne).trans h.cells, ⟨owns_tight hO, fun k => ?_, fun k k' f1 f2 b h1 h2 b1 b2 => ?_, .inl h.inO, fun k f1 b h1 b1 => ?_, fun k hk => ?_⟩, hG, .inl h.dpO, h.fuse_, h.fails_⟩
  · by_cases e : k = .string s
    · subst e
      rw [look_put_same hCm (isKey_str s), look_put_same hDm (isKey_str s)]
      exact FRel.mono (w := w) (a := some (.held f)) (b := some (.held g)) ⟨hl, ho⟩ (fun f1 b e1 hb1 => by
        injection e1 with e1
        injection e1 with e1
        subst e1
        exact hoth b (ho.at_base hb1).2 (hb b hb1).1)
    · rw [look_put_other e, look_put_other e]
      exact (h.at_ k e).mono (fun f1 b h1 hb1 => hoth b (h.lt b (h.fileO k f1 b h1 hb1).1) (h.fileO k f1 b h1 hb1).2.1)
  · by_cases e : k = .string s
    · by_cases e' : k' = .string s
      · rw [e, e']
      · subst e
        rw [look_put_same hCm (isKey_str s)] at h1
        rw [look_put_other e'] at h2
        injection h1 with h1
        injection h1 with h1
        subst h1
        exact absurd b2 (hap k' f2 b e' h2 b1)
    · by_cases e' : k' = .string s
      · subst e'
        rw [look_put_same hCm (isKey_str s)] at h2
        rw [look_put_other e] at h1
        injection h2 with h2
        injection h2 with h2
        subst h2
        exact absurd b1 (hap k f1 b e h1 b2)
      · rw [look_put_other e] at h1
        rw [look_put_other e'] at h2
        exact h.apart k k' f1 f2 b h1 h2 b1 b2
  · by_cases e : k = .string s
    · subst e
      rw [look_put_same hCm (isKey_str s)] at h1
      injection h1 with h1
      injection h1 with h1
      subst h1
      exact ⟨.inr b1, hb b b1⟩
    · rw [look_put_other e] at h1
      exact ⟨.inl (h.fileO k f1 b h1 b1).1, (h.fileO k f1 b h1 b1).2⟩
  · rcases hk with hk | hk
    · exact Nat.lt_of_lt_of_le (h.lt k hk) hg.size
    · exact Nat.lt_of_lt_of_le (ho.at_base hk).2 hg.size
/-- A file is taken away. -/
theorem DskC.gone (h : DskC w dp mb C D room fuse fails O) {w' : World} (s : List UInt8) {n : Nat} (hg : w.grownBy w' (some mb)) (hO : w'.ownsMap Tryz.prog 9 rdF mb n (C.del (.string s))) :
    DskC w' dp mb (C.del (.string s)) (D.del (.string s)) room fuse fails O := by
  have hoth : ∀ k, k < w.heap.size → k ≠ mb → w'.heap[k]? = w.heap[k]? := fun k hk hne => hg.block k hk (fun e => hne (by injection e))
  have F := h.files
  refine ⟨(hoth dp (h.lt dp h.dpO) h.ne).trans h.cells, ⟨owns_tight hO, fun k => ?_, fun k k' f1 f2 b h1 h2 b1 b2 => ?_, F.inO, fun k f1 b h1 b1 => ?_, fun k hk => Nat.lt_of_lt_of_le (F.lt k hk) hg.size⟩, h.good.del s, h.dpO, h.fuse_, h.fails_⟩
  · by_cases e : k = .string s
    · subst e
      rw [look_del_same, look_del_same]
      trivial
    · rw [look_del_other e, look_del_other e]
      exact (F.at_ k).mono (fun f1 b h1 hb1 => hoth b (F.lt b (F.fileO k f1 b h1 hb1).1) (F.fileO k f1 b h1 hb1).2.1)
  · by_cases e : k = .string s
    · subst e; rw [look_del_same] at h1; cases h1
    · by_cases e' : k' = .string s
      · subst e'; rw [look_del_same] at h2; cases h2
      · rw [look_del_other e] at h1
        rw [look_del_other e'] at h2
        exact F.apart k k' f1 f2 b h1 h2 b1 b2
  · by_cases e : k = .string s
    · subst e; rw [look_del_same] at h1; cases h1
    · rw [look_del_other e] at h1
      exact F.fileO k f1 b h1 b1
end
theorem clone_any (s : ByteArray) (hs : s.size ≤ 281474976710656) (w : World) : Calls Tryz.prog 79 #[.string s] w fun e w' => e = .returned (.string s) ∧ Below w.heap.size w w' := by
  have C := Lib.hid (Tryz.stringslite_Clone s w hs)
  clear hs
  go_enter Tryz.func79, Tryz.ntmps79
  go_wp2_with fail
  refine C.out.mono ?_
  rintro e w' ⟨rfl, hb⟩
  have H := Lib.hid hb
  clear hb C
  go_wp2
  go_ret
  exact ⟨rfl, H.out⟩

/-- What 'lay' leaves. -/
def LaidD (w : World) (dp mb room : Nat) (C : DataW Fe) (D : FS) (fuse fails : Int) (O : Nat → Prop) (s : List UInt8) (f : Fe) (g : Fl) (e : Ending) (w' : World) : Prop :=
  e = .returned (.tuple #[]) ∧ DskC w' dp mb (C.put (.string s) (.held f)) (D.put (.string s) (.held g)) room fuse fails (fun k => O k ∨ f.sl.ownBlock = some k) ∧ But O w w'
theorem cells2 (w : World) (u v : Value) (t : TypeId) : (w.alloc (.cells #[u, v] t)).cell? ⟨w.heap.size, 0, none⟩ = some u ∧ (w.alloc (.cells #[u, v] t)).cell? ⟨w.heap.size, 1, none⟩ = some v :=
  ⟨(cell_of_row _ _ 0 _ _ _ (heap_alloc_new w _)).trans rfl, (cell_of_row _ _ 1 _ _ _ (heap_alloc_new w _)).trans rfl⟩
set_option linter.unusedSimpArgs false in
set_option maxRecDepth 100000 in
set_option maxHeartbeats 1600000 in
theorem lay_any {w : World} {dp mb room : Nat} {C : DataW Fe} {D : FS} {fuse fails : Int} {O : Nat → Prop} (s : ByteArray) (h : DskX w dp mb C D room fuse fails O s.data.toList) (hs : s.size ≤ 281474976710656) (f : Fe) (g : Fl)
    (hl : f.l = (g.l : Int)) (ho : OwnB w 0 5 f.sl g.bs) (hap : ∀ k f' b, k ≠ .string s.data.toList → look C k = some (.held f') → f.sl.ownBlock = some b → f'.sl.ownBlock ≠ some b)
    (hb : ∀ b, f.sl.ownBlock = some b → b ≠ mb ∧ b ≠ dp) (hG : Good (D.put (.string s.data.toList) (.held g)) room) :
    Calls Tryz.prog 59 #[.pointer (some ⟨dp, 0, none⟩), .string s, .agg #[.slice f.a f.n f.c, .int .i64 f.l]] w (LaidD w dp mb room C D fuse fails O s.data.toList f g) := by
  have CL := Lib.hid (clone_any s hs)
  have HH := Lib.hid (And.intro h (And.intro hl (And.intro ho (And.intro hap (And.intro hb hG)))))
  have c0 := h.cell
  have hlt := h.lt dp h.dpO
  have c1 : (w.alloc (.cells #[.slice f.a f.n f.c, .int .i64 f.l] 72)).cell? ⟨dp, 0, none⟩ = some (.map (some mb)) := (World.cell?_alloc_past _ _ _ hlt).trans c0
  obtain ⟨b0, b1⟩ := cells2 w (.slice f.a f.n f.c) (.int .i64 f.l) 72
  have HB : Below w.heap.size w (w.alloc (.cells #[.slice f.a f.n f.c, .int .i64 f.l] 72)) := (Below.refl _ _).alloc (Nat.le_refl _) _
  clear h hl ho hap hb hG c0
  go_enter Tryz.func59, Tryz.ntmps59
  go_wp2_with fail
  refine wp_region_held_drew (S := fun x => x.cell? ⟨dp, 0, none⟩ = some (.map (some mb)) ∧ x.cell? ⟨w.heap.size, 0, none⟩ = some (.slice f.a f.n f.c) ∧ x.cell? ⟨w.heap.size, 1, none⟩ = some (.int .i64 f.l)) (by kernel_rfl) ⟨c1, b0, b1⟩ (fun hHeld => ?_)
  refine wpAnyH_take (i := 0) (v := ?_) rfl (by kernel_rfl) (by kernel_rfl) (by kernel_rfl) (fun _ _ _ h => h) (Or.inl ⟨by rfl, ?_⟩) (by assumption) ?_
  rotate_left
  · intro w hSw
    (try dsimp only at hSw)
    go_simp
    all_goals with_reducible rfl
  try simp only [Act.put, List.getElem_toArray, List.getElem_cons_succ, List.getElem_cons_zero, List.setIfInBounds_toArray, List.set_cons_zero, List.set_cons_succ]
  refine wpAnyH_take (i := 1) (v := ?_) rfl (by kernel_rfl) (by kernel_rfl) (by kernel_rfl) (fun _ _ _ h => h) (Or.inl ⟨by rfl, ?_⟩) (by assumption) ?_
  rotate_left
  · intro w hSw
    (try dsimp only at hSw)
    go_simp
    all_goals with_reducible rfl
  try simp only [Act.put, List.getElem_toArray, List.getElem_cons_succ, List.getElem_cons_zero, List.setIfInBounds_toArray, List.set_cons_zero, List.set_cons_succ]
  refine wpAnyH_take (i := 2) (v := ?_) rfl (by kernel_rfl) (by kernel_rfl) (by kernel_rfl) (fun _ _ _ h => h) (Or.inl ⟨by rfl, ?_⟩) (by assumption) ?_
  rotate_left
  · intro w hSw
    (try dsimp only at hSw)
    go_simp
    all_goals with_reducible rfl
  try simp only [Act.put, List.getElem_toArray, List.getElem_cons_succ, List.getElem_cons_zero, List.setIfInBounds_toArray, List.set_cons_zero, List.set_cons_succ]
  refine wpAnyH_take (i := 3) (v := ?_) rfl (by kernel_rfl) (by kernel_rfl) (by kernel_rfl) (fun _ _ _ h => h) (Or.inl ⟨by rfl, ?_⟩) (by assumption) ?_
  rotate_left
  · intro w hSw
    (try dsimp only at hSw)
    go_simp
    all_goals with_reducible rfl
  try simp only [Act.put, List.getElem_toArray, List.getElem_cons_succ, List.getElem_cons_zero, List.setIfInBounds_toArray, List.set_cons_zero, List.set_cons_succ]
  refine wpAnyH_take (i := 4) (v := ?_) rfl (by kernel_rfl) (by kernel_rfl) (by kernel_rfl) (fun _ _ _ h => h) (Or.inl ⟨by rfl, ?_⟩) (by assumption) ?_
  rotate_left
  · intro w hSw
    (try dsimp only at hSw)
    go_simp
    all_goals with_reducible rfl
  try simp only [Act.put, List.getElem_toArray, List.getElem_cons_succ, List.getElem_cons_zero, List.setIfInBounds_toArray, List.set_cons_zero, List.set_cons_succ]
  refine wpAnyH_take (i := 6) (v := ?_) rfl (by kernel_rfl) (by kernel_rfl) (by kernel_rfl) (fun _ _ _ h => h) (Or.inl ⟨by rfl, ?_⟩) (by assumption) ?_
  rotate_left
  · intro w hSw
    (try dsimp only at hSw)
    go_simp
    all_goals with_reducible rfl
  try simp only [Act.put, List.getElem_toArray, List.getElem_cons_succ, List.getElem_cons_zero, List.setIfInBounds_toArray, List.set_cons_zero, List.set_cons_succ]
  refine wpAnyH_ready (rs := [5]) (by kernel_rfl) (by simp) ?_
  refine AllReadyH.cons rfl (fun K hK => ?_) AllReadyH.nil
  rw [if_pos (by rfl)]
  go_simp
  go_at_call 79
  refine (CL.out _).mono ?_
  rintro e w2 ⟨rfl, hb2⟩
  have hB2 := HB.trans (below_drew_of hb2 |>.mono (by simp))
  have k1 := (hb2.cell (p := ⟨dp, 0, none⟩) (by simp; omega)).trans c1
  have k2 := (hb2.cell (p := ⟨w.heap.size, 0, none⟩) (by simp)).trans b0
  have k3 := (hb2.cell (p := ⟨w.heap.size, 1, none⟩) (by simp)).trans b1
  refine hK.out _ _ ?_ (fun hHeld => ?_)
  · exact ⟨k1, k2, k3⟩
  clear hK K
  try simp only [Act.put, List.getElem_toArray, List.getElem_cons_succ, List.getElem_cons_zero, List.setIfInBounds_toArray, List.set_cons_zero, List.set_cons_succ]
  obtain ⟨h, hl, ho, hap, hb, hG⟩ := HH.out
  have h2 := h.below hB2
  have hsz : size C ≤ 64 := by rw [h.size_]; exact h.good.size_
  obtain ⟨w3, hrun, hown3, hg3⟩ := h2.owns.update law9 Tryz.underlying52 (by unfold maxLen; omega) (Files.key (s := s) (by unfold maxLen; omega)) (rdF_val f)
  have hrun : (Instr.mapUpdate 52 (.map (some mb)) (.string s) (.agg #[.slice f.a f.n f.c, .int .i64 f.l])).run Tryz.prog w2 = .ok () w3 := hrun
  have h3 := h2.laid hg3 hown3 hl (ho.below hB2) hap hb hG
  have hne := h.ne
  have hmb := h.lt mb h.inO
  have q1 := hg3.cell k1 (fun e => hne (by injection e))
  have q2 := hg3.cell k2 (by simp; omega)
  have q3 := hg3.cell k3 (by simp; omega)
  have H3 := Lib.hid (And.intro h3 ((But.of_below hB2 : But O w w2).trans (But.grown (O := O) hg3 (fun k e => by injection e with e; subst e; exact h.inO)) (fun i hi => .inl hi)))
  clear h hl ho hap hb hG h2 h3 hown3 hg3 hsz HH CL hb2
  refine wpAnyH_ready (rs := [7]) (by kernel_rfl) (by simp) ?_
  refine AllReadyH.cons rfl (fun K hK => ?_) AllReadyH.nil
  rw [if_pos (by rfl)]
  go_simp
  refine hK.out _ _ ?_ (fun hHeld => ?_)
  · exact ⟨q1, q2, q3⟩
  clear hK K
  try simp only [Act.put, List.getElem_toArray, List.getElem_cons_succ, List.getElem_cons_zero, List.setIfInBounds_toArray, List.set_cons_zero, List.set_cons_succ]
  refine wpAnyH_done (by kernel_rfl) ?_ _
  go_wp2
  go_end0
  exact ⟨rfl, H3.out⟩
end
section
open Go.RowKit
open Go.Maps
attribute [local go_sem] Oper.semAt_some

theorem new_yes (room : Nat) (hr : room ≤ 1048576) (w : World) : Calls Tryz.prog 5 #[.int .i64 (room : Int)] w fun e w' => e = .returned (.pointer (some ⟨w.heap.size + 1, 0, none⟩)) ∧ Below w.heap.size w w' ∧
    Dsk w' (w.heap.size + 1) (.map []) room (-1) 0 (fun k => k = w.heap.size ∨ k = w.heap.size + 1) := by
  have HD := Lib.hid (dsk_new w room hr)
  have hm := fun x => run_makeMap (P := Tryz.prog) 52 x
  go_enter Tryz.func5, Tryz.ntmps5
  go_wp2
  go_ret
  exact ⟨rfl, ((Below.refl _ _).alloc (Nat.le_refl _) _).alloc (by simp) _, HD.out⟩
theorem new_no (room : Int) (hr : ¬ (0 ≤ room ∧ room ≤ 1048576)) (w : World) : Calls Tryz.prog 5 #[.int .i64 room] w fun e w' => e = .returned (.pointer none) ∧ w = w' := by
  by_cases h0 : room < 0
  · go_enter Tryz.func5, Tryz.ntmps5
    go_wp2
    go_ret
    exact ⟨rfl, rfl⟩
  · have h1 : ¬ room ≤ 1048576 := by omega
    clear hr
    go_enter Tryz.func5, Tryz.ntmps5
    go_wp2
    go_ret
    exact ⟨rfl, rfl⟩

/-- The fuse behind a call. -/
def burn (fuse : Int) : Int := if 0 < fuse then fuse - 1 else fuse
theorem burn_ok {fuse : Int} (h : -1 ≤ fuse ∧ fuse ≤ 9223372036854775807) : -1 ≤ burn fuse ∧ burn fuse ≤ 9223372036854775807 := by unfold burn; split <;> omega
/-- A call that answers a number, and leaves what R says. -/
def Tells1 (R : Int → World → Prop) (e : Ending) (w' : World) : Prop := ∃ x : Int, e = .returned (.int .i64 x) ∧ R x w'
section
variable {w : World} {dp mb room : Nat} {C : DataW Fe} {D : FS} {fuse fails : Int} {O : Nat → Prop}
theorem call_dead (h : DskC w dp mb C D room 0 fails O) (v : Value) : Calls Tryz.prog 60 #[.pointer (some ⟨dp, 0, none⟩), v] w fun e w' => e = .returned (.int .i64 42) ∧ w = w' := by
  have c2 := h.cell.2.2.1
  clear h
  go_enter Tryz.func60, Tryz.ntmps60
  go_wp2
  go_ret
  exact ⟨rfl, rfl⟩
set_option maxRecDepth 100000 in
theorem call_do (h : DskC w dp mb C D room fuse fails O) (hf : fuse ≠ 0) (k : FuncId) (caps : Array Value) (hc : ∀ x, (callFunc k caps).run Tryz.prog x = .ok (.enter k caps) x) (R : Int → World → Prop)
    (hk : ∀ w1, DskC w1 dp mb C D room (burn fuse) fails O → But O w w1 → Calls Tryz.prog k caps w1 (Tells1 R)) :
    Calls Tryz.prog 60 #[.pointer (some ⟨dp, 0, none⟩), .func (.func k) #[] caps] w (Tells1 R) := by
  have c2 := h.cell.2.2.1
  have c3 := h.cell.2.2.2.2 2
  have hfb := h.fuse_
  by_cases hp : 0 < fuse
  · have hb : burn fuse = fuse - 1 := by unfold burn; rw [if_pos hp]
    rw [hb] at hk
    have h1 := h.set_ 2 (.int .i64 (fuse - 1)) (fuse' := fuse - 1) (fails' := fails) rfl (by omega) h.fails_
    have HK := Lib.hid (hk _ h1 ((But.refl O w).setCell (p := ⟨dp, 2, none⟩) (.inl h.dpO) _))
    have hw : IntKind.i64.wrap (fuse - 1) = fuse - 1 := by rw [IntKind.wrap_i64]; omega
    clear h hk hb h1 hfb
    go_enter Tryz.func60, Tryz.ntmps60
    go_wp2_with fail
    refine HK.out.mono ?_
    rintro e w' ⟨x, rfl, hR⟩
    have HR := Lib.hid hR
    clear hR HK
    go_wp2
    go_ret
    exact ⟨x, rfl, HR.out⟩
  · have hb : burn fuse = fuse := by unfold burn; rw [if_neg hp]
    rw [hb] at hk
    have HK := Lib.hid (hk _ h (But.refl O w))
    clear h hk hb hfb
    go_enter Tryz.func60, Tryz.ntmps60
    go_wp2_with fail
    refine HK.out.mono ?_
    rintro e w' ⟨x, rfl, hR⟩
    have HR := Lib.hid hR
    clear hR HK
    go_wp2
    go_ret
    exact ⟨x, rfl, HR.out⟩
end
end
section
open Go.RowKit
open Go.Maps
attribute [local go_sem] Oper.semAt_some

section
variable {w : World} {dp mb room : Nat} {C : DataW Fe} {D : FS} {fuse fails : Int} {O : Nat → Prop}
/-- What a region holds on to that looks a name up. -/
def Sees (dp mb : Nat) (C : DataW Fe) (s : ByteArray) (bd bn : Nat) (x : World) : Prop :=
  x.cell? ⟨dp, 0, none⟩ = some (.map (some mb)) ∧ x.cell? ⟨bd, 0, none⟩ = some (.pointer (some ⟨dp, 0, none⟩)) ∧ x.cell? ⟨bn, 0, none⟩ = some (.string s) ∧
    (Instr.lookup 52 (.map (some mb)) (.string s) true).run Tryz.prog x = .ok (.tuple #[.agg #[.slice (cat C (.string s.data.toList)).a (cat C (.string s.data.toList)).n (cat C (.string s.data.toList)).c, .int .i64 (cat C (.string s.data.toList)).l], .bool (has C (.string s.data.toList))]) x ∧
    (Instr.lookup 52 (.map (some mb)) (.string s) false).run Tryz.prog x = .ok (.agg #[.slice (cat C (.string s.data.toList)).a (cat C (.string s.data.toList)).n (cat C (.string s.data.toList)).c, .int .i64 (cat C (.string s.data.toList)).l]) x
theorem DskC.sees (h : DskC w dp mb C D room fuse fails O) {s : ByteArray} (hs : s.size ≤ maxLen) {bd bn : Nat} (c1 : w.cell? ⟨bd, 0, none⟩ = some (.pointer (some ⟨dp, 0, none⟩))) (c2 : w.cell? ⟨bn, 0, none⟩ = some (.string s)) {w' : World} (hb : Below w.heap.size w w') : Sees dp mb C s bd bn w' :=
  ⟨(hb.cell (p := ⟨dp, 0, none⟩) (h.lt dp h.dpO)).trans h.cell.1, (hb.cell (p := ⟨bd, 0, none⟩) (block_lt_of_cell c1)).trans c1, (hb.cell (p := ⟨bn, 0, none⟩) (block_lt_of_cell c2)).trans c2,
    (h.files.run_look hs w' (hb.block mb (h.lt mb h.files.inO))).2, (h.files.run_look hs w' (hb.block mb (h.lt mb h.files.inO))).1⟩

set_option linter.unusedSimpArgs false in
set_option maxRecDepth 100000 in
set_option maxHeartbeats 1600000 in
theorem callOn1_any (h : DskC w dp mb C D room fuse fails O) (s : ByteArray) (hs : s.size ≤ maxLen) (bd bn bf : Nat) (c1 : w.cell? ⟨bd, 0, none⟩ = some (.pointer (some ⟨dp, 0, none⟩))) (c2 : w.cell? ⟨bn, 0, none⟩ = some (.string s))
    (k : FuncId) (p q : Option Addr) (c3 : w.cell? ⟨bf, 0, none⟩ = some (.func (.func k) #[] #[.pointer p, .pointer q])) (hc : ∀ v x, (callFunc k #[v, .pointer p, .pointer q]).run Tryz.prog x = .ok (.enter k #[v, .pointer p, .pointer q]) x)
    (R : Int → World → Prop) (h0 : fat D s.data.toList = none → ∀ w', Below w.heap.size w w' → R 3 w')
    (h1 : ∀ f, fat D s.data.toList = some f → ∀ w', Below w.heap.size w w' → Calls Tryz.prog k #[(cat C (.string s.data.toList)).val, .pointer p, .pointer q] w' (Tells1 R)) :
    Calls Tryz.prog 78 #[.pointer (some ⟨bd, 0, none⟩), .pointer (some ⟨bn, 0, none⟩), .pointer (some ⟨bf, 0, none⟩)] w (Tells1 R) := by
  have SS := Lib.hid (fun (w' : World) (hb : Below w.heap.size w w') => h.sees hs c1 c2 hb)
  have S0 := SS.out w.drew (Below.drew (Below.refl _ _))
  have hhas := h.files.has_ (.string s.data.toList)
  rw [h.good.has_] at hhas
  cases hf : fat D s.data.toList with
  | none =>
    rw [hf] at hhas
    have H0 := Lib.hid (h0 hf)
    have hl3 := block_lt_of_cell c3
    unfold Sees at S0 SS
    rw [show has C (.string s.data.toList) = false from hhas] at S0 SS
    generalize cat C (.string s.data.toList) = cf at *
    clear h0 h1 hf hhas h c1 c2 hs
    have HB : Below w.heap.size w (w.alloc (.cells #[.slice cf.a cf.n cf.c, .int .i64 cf.l] 72)).drew := Below.drew ((Below.refl _ _).alloc (Nat.le_refl _) _)
    go_enter Tryz.func78, Tryz.ntmps78
    go_wp2_with fail
    refine wp_region_held_drew (S := fun x => x.cell? ⟨dp, 0, none⟩ = some (.map (some mb)) ∧ x.cell? ⟨bd, 0, none⟩ = some (.pointer (some ⟨dp, 0, none⟩)) ∧ x.cell? ⟨bn, 0, none⟩ = some (.string s) ∧
      (Instr.lookup 52 (.map (some mb)) (.string s) true).run Tryz.prog x = .ok (.tuple #[.agg #[.slice cf.a cf.n cf.c, .int .i64 cf.l], .bool false]) x) (by kernel_rfl) ⟨S0.1, S0.2.1, S0.2.2.1, S0.2.2.2.1⟩ (fun hHeld => ?_)
    refine wpAnyH_take (i := 0) (v := ?_) rfl (by kernel_rfl) (by kernel_rfl) (by kernel_rfl) (fun _ _ _ h => h) (Or.inl ⟨by rfl, ?_⟩) (by assumption) ?_
    rotate_left
    · intro w hSw
      (try dsimp only at hSw)
      go_simp
      all_goals with_reducible rfl
    try simp only [Act.put, List.getElem_toArray, List.getElem_cons_succ, List.getElem_cons_zero, List.setIfInBounds_toArray, List.set_cons_zero, List.set_cons_succ]
    refine wpAnyH_take (i := 1) (v := ?_) rfl (by kernel_rfl) (by kernel_rfl) (by kernel_rfl) (fun _ _ _ h => h) (Or.inl ⟨by rfl, ?_⟩) (by assumption) ?_
    rotate_left
    · intro w hSw
      (try dsimp only at hSw)
      go_simp
      all_goals with_reducible rfl
    try simp only [Act.put, List.getElem_toArray, List.getElem_cons_succ, List.getElem_cons_zero, List.setIfInBounds_toArray, List.set_cons_zero, List.set_cons_succ]
    refine wpAnyH_take (i := 2) (v := ?_) rfl (by kernel_rfl) (by kernel_rfl) (by kernel_rfl) (fun _ _ _ h => h) (Or.inl ⟨by rfl, ?_⟩) (by assumption) ?_
    rotate_left
    · intro w hSw
      (try dsimp only at hSw)
      go_simp
      all_goals with_reducible rfl
    try simp only [Act.put, List.getElem_toArray, List.getElem_cons_succ, List.getElem_cons_zero, List.setIfInBounds_toArray, List.set_cons_zero, List.set_cons_succ]
    refine wpAnyH_take (i := 3) (v := ?_) rfl (by kernel_rfl) (by kernel_rfl) (by kernel_rfl) (fun _ _ _ h => h) (Or.inl ⟨by rfl, ?_⟩) (by assumption) ?_
    rotate_left
    · intro w hSw
      (try dsimp only at hSw)
      go_simp
      all_goals with_reducible rfl
    try simp only [Act.put, List.getElem_toArray, List.getElem_cons_succ, List.getElem_cons_zero, List.setIfInBounds_toArray, List.set_cons_zero, List.set_cons_succ]
    refine wpAnyH_take (i := 4) (v := ?_) rfl (by kernel_rfl) (by kernel_rfl) (by kernel_rfl) (fun _ _ _ h => h) (Or.inl ⟨by rfl, ?_⟩) (by assumption) ?_
    rotate_left
    · intro w hSw
      (try dsimp only at hSw)
      go_simp
      all_goals with_reducible rfl
    try simp only [Act.put, List.getElem_toArray, List.getElem_cons_succ, List.getElem_cons_zero, List.setIfInBounds_toArray, List.set_cons_zero, List.set_cons_succ]
    refine wpAnyH_take (i := 5) (v := ?_) rfl (by kernel_rfl) (by kernel_rfl) (by kernel_rfl) (fun _ _ _ h => h) (Or.inl ⟨by rfl, ?_⟩) (by assumption) ?_
    rotate_left
    · intro w hSw
      (try dsimp only at hSw)
      go_simp
      all_goals with_reducible rfl
    try simp only [Act.put, List.getElem_toArray, List.getElem_cons_succ, List.getElem_cons_zero, List.setIfInBounds_toArray, List.set_cons_zero, List.set_cons_succ]
    refine wpAnyH_take (i := 6) (v := ?_) rfl (by kernel_rfl) (by kernel_rfl) (by kernel_rfl) (fun _ _ _ h => h) (Or.inl ⟨by rfl, ?_⟩) (by assumption) ?_
    rotate_left
    · intro w hSw
      (try dsimp only at hSw)
      go_simp
      all_goals with_reducible rfl
    try simp only [Act.put, List.getElem_toArray, List.getElem_cons_succ, List.getElem_cons_zero, List.setIfInBounds_toArray, List.set_cons_zero, List.set_cons_succ]
    refine wpAnyH_take (i := 7) (v := ?_) rfl (by kernel_rfl) (by kernel_rfl) (by kernel_rfl) (fun _ _ _ h => h) (Or.inl ⟨by rfl, ?_⟩) (by assumption) ?_
    rotate_left
    · intro w hSw
      (try dsimp only at hSw)
      go_simp
      all_goals with_reducible rfl
    try simp only [Act.put, List.getElem_toArray, List.getElem_cons_succ, List.getElem_cons_zero, List.setIfInBounds_toArray, List.set_cons_zero, List.set_cons_succ]
    refine wpAnyH_take (i := 8) (v := ?_) rfl (by kernel_rfl) (by kernel_rfl) (by kernel_rfl) (fun _ _ _ h => h) (Or.inl ⟨by rfl, ?_⟩) (by assumption) ?_
    rotate_left
    · intro w hSw
      (try dsimp only at hSw)
      go_simp
      all_goals with_reducible rfl
    try simp only [Act.put, List.getElem_toArray, List.getElem_cons_succ, List.getElem_cons_zero, List.setIfInBounds_toArray, List.set_cons_zero, List.set_cons_succ]
    refine wpAnyH_ready (rs := [9]) (by kernel_rfl) (by simp) ?_
    refine AllReadyH.cons rfl (fun K hK => ?_) AllReadyH.nil
    rw [if_pos (by rfl)]
    go_simp
    have S1 := SS.out _ ((Below.drew (Below.refl w.heap.size w)).alloc (Nat.le_refl _) (.cells #[.slice none 0 0, .int .i64 0] 72))
    refine hK.out _ _ ?_ (fun hHeld => ?_)
    · exact ⟨S1.1, S1.2.1, S1.2.2.1, S1.2.2.2.1⟩
    clear hK K
    try simp only [Act.put, List.getElem_toArray, List.getElem_cons_succ, List.getElem_cons_zero, List.setIfInBounds_toArray, List.set_cons_zero, List.set_cons_succ]
    refine wpAnyH_ready (rs := [10]) (by kernel_rfl) (by simp) ?_
    refine AllReadyH.cons rfl (fun K hK => ?_) AllReadyH.nil
    rw [if_pos (by rfl)]
    go_simp
    have S2 := SS.out _ HB
    refine hK.out _ _ ?_ (fun hHeld => ?_)
    · exact ⟨S2.1, S2.2.1, S2.2.2.1, S2.2.2.2.1⟩
    clear hK K
    try simp only [Act.put, List.getElem_toArray, List.getElem_cons_succ, List.getElem_cons_zero, List.setIfInBounds_toArray, List.set_cons_zero, List.set_cons_succ]
    refine wpAnyH_take (i := 11) (v := ?_) rfl (by kernel_rfl) (by kernel_rfl) (by kernel_rfl) (fun _ _ _ h => h) (Or.inl ⟨by rfl, ?_⟩) (by assumption) ?_
    rotate_left
    · intro w hSw
      (try dsimp only at hSw)
      go_simp
      all_goals with_reducible rfl
    try simp only [Act.put, List.getElem_toArray, List.getElem_cons_succ, List.getElem_cons_zero, List.setIfInBounds_toArray, List.set_cons_zero, List.set_cons_succ]
    refine wpAnyH_done (by kernel_rfl) ?_ _
    clear S0 S1 S2 hHeld
    go_wp2
    go_ret
    exact ⟨3, rfl, H0.out _ HB⟩
  | some f =>
    rw [hf] at hhas
    have H1 := Lib.hid (h1 f hf)
    have hl3 := block_lt_of_cell c3
    unfold Sees at S0 SS
    rw [show has C (.string s.data.toList) = true from hhas] at S0 SS
    generalize cat C (.string s.data.toList) = cf at *
    clear h0 h1 hf hhas h c1 c2 hs
    have HB : Below w.heap.size w (w.alloc (.cells #[.slice cf.a cf.n cf.c, .int .i64 cf.l] 72)).drew := Below.drew ((Below.refl _ _).alloc (Nat.le_refl _) _)
    go_enter Tryz.func78, Tryz.ntmps78
    go_wp2_with fail
    refine wp_region_held_drew (S := fun x => x.cell? ⟨dp, 0, none⟩ = some (.map (some mb)) ∧ x.cell? ⟨bd, 0, none⟩ = some (.pointer (some ⟨dp, 0, none⟩)) ∧ x.cell? ⟨bn, 0, none⟩ = some (.string s) ∧
      (Instr.lookup 52 (.map (some mb)) (.string s) true).run Tryz.prog x = .ok (.tuple #[.agg #[.slice cf.a cf.n cf.c, .int .i64 cf.l], .bool true]) x) (by kernel_rfl) ⟨S0.1, S0.2.1, S0.2.2.1, S0.2.2.2.1⟩ (fun hHeld => ?_)
    refine wpAnyH_take (i := 0) (v := ?_) rfl (by kernel_rfl) (by kernel_rfl) (by kernel_rfl) (fun _ _ _ h => h) (Or.inl ⟨by rfl, ?_⟩) (by assumption) ?_
    rotate_left
    · intro w hSw
      (try dsimp only at hSw)
      go_simp
      all_goals with_reducible rfl
    try simp only [Act.put, List.getElem_toArray, List.getElem_cons_succ, List.getElem_cons_zero, List.setIfInBounds_toArray, List.set_cons_zero, List.set_cons_succ]
    refine wpAnyH_take (i := 1) (v := ?_) rfl (by kernel_rfl) (by kernel_rfl) (by kernel_rfl) (fun _ _ _ h => h) (Or.inl ⟨by rfl, ?_⟩) (by assumption) ?_
    rotate_left
    · intro w hSw
      (try dsimp only at hSw)
      go_simp
      all_goals with_reducible rfl
    try simp only [Act.put, List.getElem_toArray, List.getElem_cons_succ, List.getElem_cons_zero, List.setIfInBounds_toArray, List.set_cons_zero, List.set_cons_succ]
    refine wpAnyH_take (i := 2) (v := ?_) rfl (by kernel_rfl) (by kernel_rfl) (by kernel_rfl) (fun _ _ _ h => h) (Or.inl ⟨by rfl, ?_⟩) (by assumption) ?_
    rotate_left
    · intro w hSw
      (try dsimp only at hSw)
      go_simp
      all_goals with_reducible rfl
    try simp only [Act.put, List.getElem_toArray, List.getElem_cons_succ, List.getElem_cons_zero, List.setIfInBounds_toArray, List.set_cons_zero, List.set_cons_succ]
    refine wpAnyH_take (i := 3) (v := ?_) rfl (by kernel_rfl) (by kernel_rfl) (by kernel_rfl) (fun _ _ _ h => h) (Or.inl ⟨by rfl, ?_⟩) (by assumption) ?_
    rotate_left
    · intro w hSw
      (try dsimp only at hSw)
      go_simp
      all_goals with_reducible rfl
    try simp only [Act.put, List.getElem_toArray, List.getElem_cons_succ, List.getElem_cons_zero, List.setIfInBounds_toArray, List.set_cons_zero, List.set_cons_succ]
    refine wpAnyH_take (i := 4) (v := ?_) rfl (by kernel_rfl) (by kernel_rfl) (by kernel_rfl) (fun _ _ _ h => h) (Or.inl ⟨by rfl, ?_⟩) (by assumption) ?_
    rotate_left
    · intro w hSw
      (try dsimp only at hSw)
      go_simp
      all_goals with_reducible rfl
    try simp only [Act.put, List.getElem_toArray, List.getElem_cons_succ, List.getElem_cons_zero, List.setIfInBounds_toArray, List.set_cons_zero, List.set_cons_succ]
    refine wpAnyH_take (i := 5) (v := ?_) rfl (by kernel_rfl) (by kernel_rfl) (by kernel_rfl) (fun _ _ _ h => h) (Or.inl ⟨by rfl, ?_⟩) (by assumption) ?_
    rotate_left
    · intro w hSw
      (try dsimp only at hSw)
      go_simp
      all_goals with_reducible rfl
    try simp only [Act.put, List.getElem_toArray, List.getElem_cons_succ, List.getElem_cons_zero, List.setIfInBounds_toArray, List.set_cons_zero, List.set_cons_succ]
    refine wpAnyH_take (i := 6) (v := ?_) rfl (by kernel_rfl) (by kernel_rfl) (by kernel_rfl) (fun _ _ _ h => h) (Or.inl ⟨by rfl, ?_⟩) (by assumption) ?_
    rotate_left
    · intro w hSw
      (try dsimp only at hSw)
      go_simp
      all_goals with_reducible rfl
    try simp only [Act.put, List.getElem_toArray, List.getElem_cons_succ, List.getElem_cons_zero, List.setIfInBounds_toArray, List.set_cons_zero, List.set_cons_succ]
    refine wpAnyH_take (i := 7) (v := ?_) rfl (by kernel_rfl) (by kernel_rfl) (by kernel_rfl) (fun _ _ _ h => h) (Or.inl ⟨by rfl, ?_⟩) (by assumption) ?_
    rotate_left
    · intro w hSw
      (try dsimp only at hSw)
      go_simp
      all_goals with_reducible rfl
    try simp only [Act.put, List.getElem_toArray, List.getElem_cons_succ, List.getElem_cons_zero, List.setIfInBounds_toArray, List.set_cons_zero, List.set_cons_succ]
    refine wpAnyH_take (i := 8) (v := ?_) rfl (by kernel_rfl) (by kernel_rfl) (by kernel_rfl) (fun _ _ _ h => h) (Or.inl ⟨by rfl, ?_⟩) (by assumption) ?_
    rotate_left
    · intro w hSw
      (try dsimp only at hSw)
      go_simp
      all_goals with_reducible rfl
    try simp only [Act.put, List.getElem_toArray, List.getElem_cons_succ, List.getElem_cons_zero, List.setIfInBounds_toArray, List.set_cons_zero, List.set_cons_succ]
    refine wpAnyH_ready (rs := [9]) (by kernel_rfl) (by simp) ?_
    refine AllReadyH.cons rfl (fun K hK => ?_) AllReadyH.nil
    rw [if_pos (by rfl)]
    go_simp
    have S1 := SS.out _ ((Below.drew (Below.refl w.heap.size w)).alloc (Nat.le_refl _) (.cells #[.slice none 0 0, .int .i64 0] 72))
    refine hK.out _ _ ?_ (fun hHeld => ?_)
    · exact ⟨S1.1, S1.2.1, S1.2.2.1, S1.2.2.2.1⟩
    clear hK K
    try simp only [Act.put, List.getElem_toArray, List.getElem_cons_succ, List.getElem_cons_zero, List.setIfInBounds_toArray, List.set_cons_zero, List.set_cons_succ]
    refine wpAnyH_ready (rs := [10]) (by kernel_rfl) (by simp) ?_
    refine AllReadyH.cons rfl (fun K hK => ?_) AllReadyH.nil
    rw [if_pos (by rfl)]
    go_simp
    have S2 := SS.out _ HB
    refine hK.out _ _ ?_ (fun hHeld => ?_)
    · exact ⟨S2.1, S2.2.1, S2.2.2.1, S2.2.2.2.1⟩
    clear hK K
    try simp only [Act.put, List.getElem_toArray, List.getElem_cons_succ, List.getElem_cons_zero, List.setIfInBounds_toArray, List.set_cons_zero, List.set_cons_succ]
    refine wpAnyH_take (i := 11) (v := ?_) rfl (by kernel_rfl) (by kernel_rfl) (by kernel_rfl) (fun _ _ _ h => h) (Or.inl ⟨by rfl, ?_⟩) (by assumption) ?_
    rotate_left
    · intro w hSw
      (try dsimp only at hSw)
      go_simp
      all_goals with_reducible rfl
    try simp only [Act.put, List.getElem_toArray, List.getElem_cons_succ, List.getElem_cons_zero, List.setIfInBounds_toArray, List.set_cons_zero, List.set_cons_succ]
    refine wpAnyH_done (by kernel_rfl) ?_ _
    clear S0 S1 S2 hHeld
    have d3 : (w.alloc (.cells #[.slice cf.a cf.n cf.c, .int .i64 cf.l] 72)).drew.cell? ⟨bf, 0, none⟩ = some (.func (.func k) #[] #[.pointer p, .pointer q]) := (World.cell?_alloc_past _ _ _ hl3).trans c3
    have K1 := Lib.hid (H1.out _ HB)
    clear H1 c3
    go_wp2_with fail
    refine K1.out.mono ?_
    rintro e w' ⟨x, rfl, hR⟩
    have HR := Lib.hid hR
    clear hR K1 d3
    go_wp2
    go_ret
    exact ⟨x, rfl, HR.out⟩
theorem callOn_dead (h : DskC w dp mb C D room 0 fails O) (s : ByteArray) (k : FuncId) (p q : Option Addr) : Calls Tryz.prog 57 #[.pointer (some ⟨dp, 0, none⟩), .string s, .func (.func k) #[] #[.pointer p, .pointer q]] w fun e w' => e = .returned (.int .i64 42) ∧ Below w.heap.size w w' := by
  have hb1 : Below w.heap.size w (w.alloc (.cells #[.pointer (some ⟨dp, 0, none⟩)] 25)) := (Below.refl _ _).alloc (Nat.le_refl _) _
  have hb3 : Below w.heap.size w (((w.alloc (.cells #[.pointer (some ⟨dp, 0, none⟩)] 25)).alloc (.cells #[.string s] 9)).alloc (.cells #[.func (.func k) #[] #[.pointer p, .pointer q]] 79)) := (hb1.alloc (by simp) _).alloc (by simp; omega) _
  have CD := Lib.hid (fun v => call_dead (h.below hb3) v)
  clear h
  go_enter Tryz.func57, Tryz.ntmps57
  go_wp2_with fail
  refine (CD.out _).mono ?_
  rintro e w' ⟨rfl, rfl⟩
  go_wp2
  go_ret
  exact ⟨rfl, hb3⟩
set_option maxRecDepth 100000 in
theorem callOn_any (h : DskC w dp mb C D room fuse fails O) (hf : fuse ≠ 0) (s : ByteArray) (hs : s.size ≤ maxLen)
    (k : FuncId) (p q : Option Addr) (hc : ∀ v x, (callFunc k #[v, .pointer p, .pointer q]).run Tryz.prog x = .ok (.enter k #[v, .pointer p, .pointer q]) x)
    (R : Int → World → Prop) (h0 : fat D s.data.toList = none → ∀ w', DskC w' dp mb C D room (burn fuse) fails O → But O w w' → R 3 w')
    (h1 : ∀ f, fat D s.data.toList = some f → ∀ w', DskC w' dp mb C D room (burn fuse) fails O → But O w w' → Calls Tryz.prog k #[(cat C (.string s.data.toList)).val, .pointer p, .pointer q] w' (Tells1 R)) :
    Calls Tryz.prog 57 #[.pointer (some ⟨dp, 0, none⟩), .string s, .func (.func k) #[] #[.pointer p, .pointer q]] w (Tells1 R) := by
  have hb1 : Below w.heap.size w (w.alloc (.cells #[.pointer (some ⟨dp, 0, none⟩)] 25)) := (Below.refl _ _).alloc (Nat.le_refl _) _
  have hb3 : Below w.heap.size w (((w.alloc (.cells #[.pointer (some ⟨dp, 0, none⟩)] 25)).alloc (.cells #[.string s] 9)).alloc (.cells #[.func (.func k) #[] #[.pointer p, .pointer q]] 79)) := (hb1.alloc (by simp) _).alloc (by simp; omega) _
  have CD : Calls Tryz.prog 60 #[.pointer (some ⟨dp, 0, none⟩), .func (.func 78) #[] #[.pointer (some ⟨w.heap.size, 0, none⟩), .pointer (some ⟨w.heap.size + 1, 0, none⟩), .pointer (some ⟨w.heap.size + 1 + 1, 0, none⟩)]]
      (((w.alloc (.cells #[.pointer (some ⟨dp, 0, none⟩)] 25)).alloc (.cells #[.string s] 9)).alloc (.cells #[.func (.func k) #[] #[.pointer p, .pointer q]] 79)) (Tells1 R) := by
    refine call_do (h.below hb3) hf _ _ (fun x => by kernel_rfl) R (fun w1 d1 bt => ?_)
    have hB : But O w w1 := (But.of_below (O := O) hb3).trans bt (fun i hi => .inl hi)
    have hO := h.lt
    refine callOn1_any d1 s hs _ _ _ ?_ ?_ k p q ?_ hc R (fun e w' hb => h0 e w' (d1.below hb) (hB.trans (But.of_below (O := O) hb) (fun i hi => .inl hi)))
      (fun f e w' hb => h1 f e w' (d1.below hb) (hB.trans (But.of_below (O := O) hb) (fun i hi => .inl hi)))
    · exact (bt.cell (by simp <;> omega) (fun ho => by have := hO _ ho; omega)).trans ((World.cell?_alloc_past _ _ _ (by simp <;> omega)).trans ((World.cell?_alloc_past _ _ _ (by simp)).trans (cell_of_row _ _ 0 _ _ _ (heap_alloc_new w _))))
    · have := cell_of_row _ _ 0 _ _ _ (heap_alloc_new (w.alloc (.cells #[.pointer (some ⟨dp, 0, none⟩)] 25)) (.cells #[.string s] 9))
      simp only [World.size_alloc] at this
      exact (bt.cell (by simp <;> omega) (fun ho => by have := hO _ ho; omega)).trans ((World.cell?_alloc_past _ _ _ (by simp)).trans this)
    · have := cell_of_row _ _ 0 _ _ _ (heap_alloc_new ((w.alloc (.cells #[.pointer (some ⟨dp, 0, none⟩)] 25)).alloc (.cells #[.string s] 9)) (.cells #[.func (.func k) #[] #[.pointer p, .pointer q]] 79))
      simp only [World.size_alloc] at this
      exact (bt.cell (by simp) (fun ho => by have := hO _ ho; omega)).trans this
  have HC := Lib.hid CD
  clear CD h hf h0 h1 hb1 hb3
  go_enter Tryz.func57, Tryz.ntmps57
  go_wp2_with fail
  refine HC.out.mono ?_
  rintro e w' ⟨x, rfl, hR⟩
  have HR := Lib.hid hR
  clear hR HC
  go_wp2
  go_ret
  exact ⟨x, rfl, HR.out⟩
end
end
section
open Go.RowKit
open Go.Maps
attribute [local go_sem] Oper.semAt_some

/-- What a disk is, but for memory. -/
structure St where
  D : FS
  room : Nat
  fuse : Int
  fails : Int
def IsD (w : World) (dp : Nat) (t : St) (O : Nat → Prop) : Prop := Dsk w dp t.D t.room t.fuse t.fails O
def St.burnt (t : St) : St := { t with fuse := burn t.fuse }
/-- What Sync answers, and leaves. -/
def St.sync (t : St) (s : List UInt8) : Int × St :=
  if t.fuse = 0 then (42, t) else
  match fat t.D s with
  | none => (3, t.burnt)
  | some f => if 0 < t.fails then (41, { t.burnt with fails := t.fails - 1 }) else (0, { t.burnt with D := t.D.put (.string s) (.held ⟨f.bs, f.bs.length⟩) })
def St.delete (t : St) (s : List UInt8) : Int × St :=
  if t.fuse = 0 then (42, t) else
  match fat t.D s with
  | none => (3, t.burnt)
  | some _ => (0, { t.burnt with D := t.D.del (.string s) })
/-- A call's answer, and what it leaves. -/
def Left (w : World) (dp : Nat) (O : Nat → Prop) (r : Int × St) (x : Int) (w' : World) : Prop :=
  x = r.1 ∧ ∃ O', IsD w' dp r.2 O' ∧ But O w w' ∧ ∀ k, O' k → O k ∨ w.heap.size ≤ k
/-- .. behind what made only new memory, or turned the disk. -/
theorem Left.of {w w1 w' : World} {dp : Nat} {O : Nat → Prop} {r : Int × St} {x : Int} (h : Left w1 dp O r x w') (hb : But O w w1) : Left w dp O r x w' := by
  obtain ⟨e, O', h1, h2, h3⟩ := h
  exact ⟨e, O', h1, hb.trans h2 (fun _ hi => .inl hi), fun k hk => (h3 k hk).imp id (Nat.le_trans hb.size)⟩
theorem Left.same {w w' : World} {dp mb : Nat} {C : DataW Fe} {O : Nat → Prop} {x : Int} {t : St} (h : DskC w' dp mb C t.D t.room t.fuse t.fails O) (hb : But O w w') : Left w dp O (x, t) x w' :=
  ⟨rfl, O, ⟨mb, C, h⟩, hb, fun _ hk => .inl hk⟩
theorem Left.laid {w w1 w' : World} {dp mb room : Nat} {C : DataW Fe} {D : FS} {fuse fails : Int} {O : Nat → Prop} {s : List UInt8} {f : Fe} {g : Fl} {e : Ending} (h : LaidD w1 dp mb room C D fuse fails O s f g e w') (hb : But O w w1)
    (hO : ∀ k, f.sl.ownBlock = some k → O k ∨ w.heap.size ≤ k) : Left w dp O (0, ⟨D.put (.string s) (.held g), room, fuse, fails⟩) 0 w' :=
  ⟨rfl, _, ⟨mb, _, h.2.1⟩, hb.trans h.2.2 (fun _ hi => .inl hi), fun k hk => hk.elim .inl (hO k)⟩

theorem own_len {w : World} {base : Nat} {e : TypeId} {a : Option Addr} {n c : Nat} {bs : List Nat} (h : OwnB w base e (.slice a n c) bs) : n = bs.length := by
  rcases h.2 with ⟨h', h0⟩ | ⟨g', cap', cur, h', _⟩
  · injection h' with _ h2 _
    omega
  · injection h'
section
variable {w : World} {dp mb room : Nat} {C : DataW Fe} {D : FS} {fuse fails : Int} {O : Nat → Prop}
theorem DskC.len_ (h : DskC w dp mb C D room fuse fails O) {s : List UInt8} {g : Fl} (hg : fat D s = some g) : (cat C (.string s)).n = g.bs.length := own_len (h.files.cat_ s g hg).2.2
theorem DskC.room_ (h : DskC w dp mb C D room fuse fails O) {s : List UInt8} {g : Fl} (hg : fat D s = some g) : g.bs.length ≤ 1048576 := by
  have h1 := (h.good.at_ hg).2.2.2
  have h2 := h.good.tot_
  have h3 := h.good.room_
  omega
/-- A file whose bytes are as they were may last as one likes. -/
theorem DskC.good_put (h : DskC w dp mb C D room fuse fails O) {s : List UInt8} {g : Fl} (hg : fat D s = some g) (l : Nat) (hl : l ≤ g.bs.length) : Good (D.put (.string s) (.held ⟨g.bs, l⟩)) room :=
  h.good.put (h.good.at_ hg).1 hl (h.good.at_ hg).2.2.1 (.inl (by rw [hg]; rfl)) (by rw [hg]; have := h.good.tot_; simp; omega)

set_option maxRecDepth 100000 in
theorem sync1_any (h : DskC w dp mb C D room fuse fails O) (s : ByteArray) (hs : s.size ≤ 281474976710656) (g : Fl) (hg : fat D s.data.toList = some g) (bd bn : Nat) (c1 : w.cell? ⟨bd, 0, none⟩ = some (.pointer (some ⟨dp, 0, none⟩))) (c2 : w.cell? ⟨bn, 0, none⟩ = some (.string s)) :
    Calls Tryz.prog 58 #[(cat C (.string s.data.toList)).val, .pointer (some ⟨bd, 0, none⟩), .pointer (some ⟨bn, 0, none⟩)] w
      (Tells1 (Left w dp O (if 0 < fails then (41, ⟨D, room, fuse, fails - 1⟩) else (0, ⟨D.put (.string s.data.toList) (.held ⟨g.bs, g.bs.length⟩), room, fuse, fails⟩)))) := by
  have hC := h.files.cat_ s.data.toList g hg
  have hn := h.len_ hg
  have hgp := h.good_put hg g.bs.length (Nat.le_refl _)
  have hr := h.room_ hg
  have hap : ∀ k f' b, k ≠ .string s.data.toList → look C k = some (.held f') → (cat C (.string s.data.toList)).sl.ownBlock = some b → f'.sl.ownBlock ≠ some b :=
    fun k f' b hk hl hb he => hk (h.files.apart k _ f' _ b hl hC.1 he hb)
  have hbk : ∀ b, (cat C (.string s.data.toList)).sl.ownBlock = some b → O b ∧ b ≠ mb ∧ b ≠ dp := fun b hb => h.files.fileO _ _ b hC.1 hb
  have HH := Lib.hid (And.intro h (And.intro hC (And.intro hgp (And.intro hap (And.intro hbk hn)))))
  have c3 := h.cell.2.2.2.1
  have z3 := h.cell.2.2.2.2 3
  have hfl := h.fails_
  have hld := h.lt dp h.dpO
  have hl1 := block_lt_of_cell c1
  have hl2 := block_lt_of_cell c2
  show Calls Tryz.prog 58 #[.agg #[.slice (cat C (.string s.data.toList)).a (cat C (.string s.data.toList)).n (cat C (.string s.data.toList)).c, .int .i64 (cat C (.string s.data.toList)).l], .pointer (some ⟨bd, 0, none⟩), .pointer (some ⟨bn, 0, none⟩)] w _
  generalize cat C (.string s.data.toList) = f at *
  have k3 : (w.alloc (.cells #[.slice f.a f.n f.c, .int .i64 f.l] 72)).cell? ⟨dp, 3, none⟩ = some (.int .i64 fails) := (World.cell?_alloc_past _ _ _ hld).trans c3
  have y3 : (w.alloc (.cells #[.slice f.a f.n f.c, .int .i64 f.l] 72)).frozen? ⟨dp, 3, none⟩ = false := (World.frozen?_of_block (w := w) (a := ⟨dp, 3, none⟩) (heap_alloc_old _ _ hld)).trans z3
  have k1 : (w.alloc (.cells #[.slice f.a f.n f.c, .int .i64 f.l] 72)).cell? ⟨bd, 0, none⟩ = some (.pointer (some ⟨dp, 0, none⟩)) := (World.cell?_alloc_past _ _ _ hl1).trans c1
  have k2 : (w.alloc (.cells #[.slice f.a f.n f.c, .int .i64 f.l] 72)).cell? ⟨bn, 0, none⟩ = some (.string s) := (World.cell?_alloc_past _ _ _ hl2).trans c2
  have hB : Below w.heap.size w (w.alloc (.cells #[.slice f.a f.n f.c, .int .i64 f.l] 72)) := (Below.refl _ _).alloc (Nat.le_refl _) _
  by_cases hp : 0 < fails
  · rw [if_pos hp]
    have hw : IntKind.i64.wrap (fails - 1) = fails - 1 := by rw [IntKind.wrap_i64]; omega
    have h2 := Lib.hid ((h.set_ 3 (.int .i64 (fails - 1)) (fuse' := fuse) (fails' := fails - 1) rfl h.fuse_ (by omega)).below ((Below.refl _ _).alloc (Nat.le_refl _) (.cells #[.slice f.a f.n f.c, .int .i64 f.l] 72)))
    clear h hC hn hgp hap hbk hfl c1 c2 c3 z3
    go_enter Tryz.func58, Tryz.ntmps58
    go_wp2
    go_ret
    exact ⟨41, rfl, Left.same h2.out (((But.refl O w).setCell (p := ⟨dp, 3, none⟩) (.inl HH.out.1.dpO) _).alloc _)⟩
  · rw [if_neg hp]
    have hC2 : OwnB w 0 5 f.sl g.bs := hC.2.2
    have hB2 : Below w.heap.size w (w.alloc (.cells #[.slice f.a f.n f.c, .int .i64 (f.n : Int)] 72)) := (Below.refl _ _).alloc (Nat.le_refl _) _
    have LY := Lib.hid (lay_any s ((h.below hB2).x s.data.toList) hs ⟨f.a, f.n, f.c, (f.n : Int)⟩ ⟨g.bs, g.bs.length⟩ (by show (f.n : Int) = _; rw [hn]) (hC2.below hB2) (fun k f' b hk hl hb => hap k f' b hk hl hb) (fun b hb => (hbk b hb).2) hgp)
    have k1 : (w.alloc (.cells #[.slice f.a f.n f.c, .int .i64 (f.n : Int)] 72)).cell? ⟨bd, 0, none⟩ = some (.pointer (some ⟨dp, 0, none⟩)) := (World.cell?_alloc_past _ _ _ hl1).trans c1
    have k2 : (w.alloc (.cells #[.slice f.a f.n f.c, .int .i64 (f.n : Int)] 72)).cell? ⟨bn, 0, none⟩ = some (.string s) := (World.cell?_alloc_past _ _ _ hl2).trans c2
    clear h hC hn hgp hap hbk hfl c1 c2 c3 z3 hC2
    go_enter Tryz.func58, Tryz.ntmps58
    go_wp2_with fail
    refine LY.out.mono ?_
    rintro e w' hL
    have he := hL.1
    subst he
    have HL := Lib.hid hL
    clear hL LY
    go_wp2
    go_ret
    exact ⟨0, rfl, Left.laid HL.out (But.of_below hB2) (fun k hk => .inl (HH.out.2.2.2.2.1 k hk).1)⟩

theorem delete1_any (h : DskC w dp mb C D room fuse fails O) (s : ByteArray) (hs : s.size ≤ 281474976710656) (bd bn : Nat) (c1 : w.cell? ⟨bd, 0, none⟩ = some (.pointer (some ⟨dp, 0, none⟩))) (c2 : w.cell? ⟨bn, 0, none⟩ = some (.string s)) :
    Calls Tryz.prog 63 #[(cat C (.string s.data.toList)).val, .pointer (some ⟨bd, 0, none⟩), .pointer (some ⟨bn, 0, none⟩)] w
      (Tells1 (Left w dp O (0, ⟨D.del (.string s.data.toList), room, fuse, fails⟩))) := by
  show Calls Tryz.prog 63 #[.agg #[.slice (cat C (.string s.data.toList)).a (cat C (.string s.data.toList)).n (cat C (.string s.data.toList)).c, .int .i64 (cat C (.string s.data.toList)).l], .pointer (some ⟨bd, 0, none⟩), .pointer (some ⟨bn, 0, none⟩)] w _
  generalize cat C (.string s.data.toList) = f at *
  have hB : Below w.heap.size w (w.alloc (.cells #[.slice f.a f.n f.c, .int .i64 f.l] 72)).drew := Below.drew ((Below.refl _ _).alloc (Nat.le_refl _) _)
  have h2 := h.below hB
  have k1 := (hB.cell (p := ⟨bd, 0, none⟩) (block_lt_of_cell c1)).trans c1
  have k2 := (hB.cell (p := ⟨bn, 0, none⟩) (block_lt_of_cell c2)).trans c2
  have k0 := h2.cell.1
  have hne := h.ne
  have hmO := h.files.inO
  obtain ⟨w3, hrun, hown3, ht3⟩ := h2.files.owns.drop law9 Tryz.underlying52 (Files.key (s := s) (by unfold maxLen; omega)) 0
  have hg3 := ht3.grown
  have h3 := h2.gone s.data.toList hg3 hown3
  have q1 := hg3.cell k1 (fun e => by
    injection e with e
    subst e
    obtain ⟨es, clock, hb, _⟩ := h2.files.owns
    simp [World.cell?, hb] at k1)
  have q2 := hg3.cell k2 (fun e => by
    injection e with e
    subst e
    obtain ⟨es, clock, hb, _⟩ := h2.files.owns
    simp [World.cell?, hb] at k2)
  have q0 := hg3.cell k0 (fun e => hne (by injection e))
  have H3 := Lib.hid (And.intro h3 ((But.of_below (O := O) hB).trans (But.grown (O := O) hg3 (fun k e => by injection e with e; subst e; exact hmO)) (fun _ hi => .inl hi)))
  clear h h2 h3 hown3 ht3 hg3 hne hmO c1 c2 hB
  go_enter Tryz.func63, Tryz.ntmps63
  go_wp2_with fail
  refine wp_region_held_drew (S := fun x => x.cell? ⟨dp, 0, none⟩ = some (.map (some mb)) ∧ x.cell? ⟨bd, 0, none⟩ = some (.pointer (some ⟨dp, 0, none⟩)) ∧ x.cell? ⟨bn, 0, none⟩ = some (.string s)) (by kernel_rfl) ⟨k0, k1, k2⟩ (fun hHeld => ?_)
  refine wpAnyH_take (i := 0) (v := ?_) rfl (by kernel_rfl) (by kernel_rfl) (by kernel_rfl) (fun _ _ _ h => h) (Or.inl ⟨by rfl, ?_⟩) (by assumption) ?_
  rotate_left
  · intro w hSw
    (try dsimp only at hSw)
    go_simp
    all_goals with_reducible rfl
  try simp only [Act.put, List.getElem_toArray, List.getElem_cons_succ, List.getElem_cons_zero, List.setIfInBounds_toArray, List.set_cons_zero, List.set_cons_succ]
  refine wpAnyH_take (i := 1) (v := ?_) rfl (by kernel_rfl) (by kernel_rfl) (by kernel_rfl) (fun _ _ _ h => h) (Or.inl ⟨by rfl, ?_⟩) (by assumption) ?_
  rotate_left
  · intro w hSw
    (try dsimp only at hSw)
    go_simp
    all_goals with_reducible rfl
  try simp only [Act.put, List.getElem_toArray, List.getElem_cons_succ, List.getElem_cons_zero, List.setIfInBounds_toArray, List.set_cons_zero, List.set_cons_succ]
  refine wpAnyH_take (i := 2) (v := ?_) rfl (by kernel_rfl) (by kernel_rfl) (by kernel_rfl) (fun _ _ _ h => h) (Or.inl ⟨by rfl, ?_⟩) (by assumption) ?_
  rotate_left
  · intro w hSw
    (try dsimp only at hSw)
    go_simp
    all_goals with_reducible rfl
  try simp only [Act.put, List.getElem_toArray, List.getElem_cons_succ, List.getElem_cons_zero, List.setIfInBounds_toArray, List.set_cons_zero, List.set_cons_succ]
  refine wpAnyH_take (i := 3) (v := ?_) rfl (by kernel_rfl) (by kernel_rfl) (by kernel_rfl) (fun _ _ _ h => h) (Or.inl ⟨by rfl, ?_⟩) (by assumption) ?_
  rotate_left
  · intro w hSw
    (try dsimp only at hSw)
    go_simp
    all_goals with_reducible rfl
  try simp only [Act.put, List.getElem_toArray, List.getElem_cons_succ, List.getElem_cons_zero, List.setIfInBounds_toArray, List.set_cons_zero, List.set_cons_succ]
  refine wpAnyH_take (i := 4) (v := ?_) rfl (by kernel_rfl) (by kernel_rfl) (by kernel_rfl) (fun _ _ _ h => h) (Or.inl ⟨by rfl, ?_⟩) (by assumption) ?_
  rotate_left
  · intro w hSw
    (try dsimp only at hSw)
    go_simp
    all_goals with_reducible rfl
  try simp only [Act.put, List.getElem_toArray, List.getElem_cons_succ, List.getElem_cons_zero, List.setIfInBounds_toArray, List.set_cons_zero, List.set_cons_succ]
  refine wpAnyH_ready (rs := [5]) (by kernel_rfl) (by simp) ?_
  refine AllReadyH.cons rfl (fun K hK => ?_) AllReadyH.nil
  rw [if_pos (by rfl)]
  go_simp
  refine hK.out _ _ ?_ (fun hHeld => ?_)
  · exact ⟨q0, q1, q2⟩
  clear hK K
  try simp only [Act.put, List.getElem_toArray, List.getElem_cons_succ, List.getElem_cons_zero, List.setIfInBounds_toArray, List.set_cons_zero, List.set_cons_succ]
  refine wpAnyH_done (by kernel_rfl) ?_ _
  go_wp2
  go_ret
  exact ⟨0, rfl, Left.same H3.out.1 H3.out.2⟩
end

theorem sync_any {w : World} {dp : Nat} {t : St} {O : Nat → Prop} (h : IsD w dp t O) (s : ByteArray) (hs : s.size ≤ 281474976710656) :
    Calls Tryz.prog 25 #[.pointer (some ⟨dp, 0, none⟩), .string s] w (Tells1 (Left w dp O (t.sync s.data.toList))) := by
  obtain ⟨mb, C, h⟩ := h
  have hb2 : Below w.heap.size w ((w.alloc (.cells #[.pointer (some ⟨dp, 0, none⟩)] 25)).alloc (.cells #[.string s] 9)) := ((Below.refl _ _).alloc (Nat.le_refl _) _).alloc (by simp) _
  have hO := h.lt
  have CC : Calls Tryz.prog 57 #[.pointer (some ⟨dp, 0, none⟩), .string s, .func (.func 58) #[] #[.pointer (some ⟨w.heap.size, 0, none⟩), .pointer (some ⟨w.heap.size + 1, 0, none⟩)]]
      ((w.alloc (.cells #[.pointer (some ⟨dp, 0, none⟩)] 25)).alloc (.cells #[.string s] 9)) (Tells1 (Left w dp O (t.sync s.data.toList))) := by
    have h2 := h.below hb2
    by_cases hf : t.fuse = 0
    · have e : t.sync s.data.toList = (42, t) := by unfold St.sync; rw [if_pos hf]
      rw [e]
      refine (callOn_dead (hf ▸ h2) s _ _ _).mono ?_
      rintro _ w' ⟨rfl, hb⟩
      exact ⟨42, rfl, Left.same (h2.below hb) ((But.of_below (O := O) hb2).trans (But.of_below (O := O) hb) (fun _ hi => .inl hi))⟩
    · refine callOn_any h2 hf s (by unfold maxLen; omega) _ _ _ (fun v x => by kernel_rfl) _ (fun hn w' h3 hb => ?_) (fun f hn w' h3 hb => ?_)
      · have e : t.sync s.data.toList = (3, t.burnt) := by unfold St.sync; rw [if_neg hf, hn]
        rw [e]
        exact Left.same (t := t.burnt) h3 ((But.of_below (O := O) hb2).trans hb (fun _ hi => .inl hi))
      · have e : t.sync s.data.toList = (if 0 < t.fails then (41, ⟨t.D, t.room, burn t.fuse, t.fails - 1⟩) else (0, ⟨t.D.put (.string s.data.toList) (.held ⟨f.bs, f.bs.length⟩), t.room, burn t.fuse, t.fails⟩)) := by
          unfold St.sync; rw [if_neg hf, hn]; rfl
        rw [e]
        refine (sync1_any h3 s hs f hn _ _ ?_ ?_).mono ?_
        · exact (hb.cell (by simp; omega) (fun ho => by have := hO _ ho; omega)).trans ((World.cell?_alloc_past _ _ _ (by simp)).trans (cell_of_row _ _ 0 _ _ _ (heap_alloc_new w _)))
        · have := cell_of_row _ _ 0 _ _ _ (heap_alloc_new (w.alloc (.cells #[.pointer (some ⟨dp, 0, none⟩)] 25)) (.cells #[.string s] 9))
          simp only [World.size_alloc] at this
          exact (hb.cell (by simp) (fun ho => by have := hO _ ho; omega)).trans this
        · rintro _ w'' ⟨x, rfl, hL⟩
          exact ⟨x, rfl, hL.of ((But.of_below (O := O) hb2).trans hb (fun _ hi => .inl hi))⟩
  have HC := Lib.hid CC
  clear CC h hb2 hO
  go_enter Tryz.func25, Tryz.ntmps25
  go_wp2_with fail
  refine HC.out.mono ?_
  rintro e w' ⟨x, rfl, hR⟩
  have HR := Lib.hid hR
  clear hR HC
  go_wp2
  go_ret
  exact ⟨x, rfl, HR.out⟩
theorem delete_any {w : World} {dp : Nat} {t : St} {O : Nat → Prop} (h : IsD w dp t O) (s : ByteArray) (hs : s.size ≤ 281474976710656) :
    Calls Tryz.prog 27 #[.pointer (some ⟨dp, 0, none⟩), .string s] w (Tells1 (Left w dp O (t.delete s.data.toList))) := by
  obtain ⟨mb, C, h⟩ := h
  have hb2 : Below w.heap.size w ((w.alloc (.cells #[.pointer (some ⟨dp, 0, none⟩)] 25)).alloc (.cells #[.string s] 9)) := ((Below.refl _ _).alloc (Nat.le_refl _) _).alloc (by simp) _
  have hO := h.lt
  have CC : Calls Tryz.prog 57 #[.pointer (some ⟨dp, 0, none⟩), .string s, .func (.func 63) #[] #[.pointer (some ⟨w.heap.size, 0, none⟩), .pointer (some ⟨w.heap.size + 1, 0, none⟩)]]
      ((w.alloc (.cells #[.pointer (some ⟨dp, 0, none⟩)] 25)).alloc (.cells #[.string s] 9)) (Tells1 (Left w dp O (t.delete s.data.toList))) := by
    have h2 := h.below hb2
    by_cases hf : t.fuse = 0
    · have e : t.delete s.data.toList = (42, t) := by unfold St.delete; rw [if_pos hf]
      rw [e]
      refine (callOn_dead (hf ▸ h2) s _ _ _).mono ?_
      rintro _ w' ⟨rfl, hb⟩
      exact ⟨42, rfl, Left.same (h2.below hb) ((But.of_below (O := O) hb2).trans (But.of_below (O := O) hb) (fun _ hi => .inl hi))⟩
    · refine callOn_any h2 hf s (by unfold maxLen; omega) _ _ _ (fun v x => by kernel_rfl) _ (fun hn w' h3 hb => ?_) (fun f hn w' h3 hb => ?_)
      · have e : t.delete s.data.toList = (3, t.burnt) := by unfold St.delete; rw [if_neg hf, hn]
        rw [e]
        exact Left.same (t := t.burnt) h3 ((But.of_below (O := O) hb2).trans hb (fun _ hi => .inl hi))
      · have e : t.delete s.data.toList = (0, ⟨t.D.del (.string s.data.toList), t.room, burn t.fuse, t.fails⟩) := by
          unfold St.delete; rw [if_neg hf, hn]; rfl
        rw [e]
        refine (delete1_any h3 s hs _ _ ?_ ?_).mono ?_
        · exact (hb.cell (by simp; omega) (fun ho => by have := hO _ ho; omega)).trans ((World.cell?_alloc_past _ _ _ (by simp)).trans (cell_of_row _ _ 0 _ _ _ (heap_alloc_new w _)))
        · have := cell_of_row _ _ 0 _ _ _ (heap_alloc_new (w.alloc (.cells #[.pointer (some ⟨dp, 0, none⟩)] 25)) (.cells #[.string s] 9))
          simp only [World.size_alloc] at this
          exact (hb.cell (by simp) (fun ho => by have := hO _ ho; omega)).trans this
        · rintro _ w'' ⟨x, rfl, hL⟩
          exact ⟨x, rfl, hL.of ((But.of_below (O := O) hb2).trans hb (fun _ hi => .inl hi))⟩
  have HC := Lib.hid CC
  clear CC h hb2 hO
  go_enter Tryz.func27, Tryz.ntmps27
  go_wp2_with fail
  refine HC.out.mono ?_
  rintro e w' ⟨x, rfl, hR⟩
  have HR := Lib.hid hR
  clear hR HC
  go_wp2
  go_ret
  exact ⟨x, rfl, HR.out⟩
end
end Go.Proofs.YtohiheohndmccaaGreat
