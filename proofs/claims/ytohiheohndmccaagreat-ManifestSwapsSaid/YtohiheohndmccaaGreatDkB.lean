/- A disk in memory: what its files are, in words of maps; what a world keeps. Contracts of the program's disk: names, what is kept, New; look-ups. -/
import Derived.Test.YtohiheohndmccaaGreatLine
import Derived.Test.YtohiheohndmccaaGreatBut
import Derived.Test.YtohiheohndmccaaGreatProg
import Derived.Test.YtohiheohndmccaaGreatChecked
import Derived.Maps.Ext
import Derived.Maps.StringElems
import Derived.Sort.KeysCollected
import Derived.Deep.QuietTactic
import Derived.BigQuiet
namespace Go.Proofs.YtohiheohndmccaaGreat
section
open Go.RowKit
open Go.Maps

/-! ### maps as read -/
section
variable {H : Type}
/-- What stands at a key. -/
def look (D : DataW H) (k : Lit) : Option (DataW H) :=
  match D with
  | .map es => (es.find? fun p => p.1.sameKey k).map (·.2)
  | _ => none
theorem look_empty (k : Lit) : look (.map [] : DataW H) k = none := rfl
theorem look_put_same {D : DataW H} {k : Lit} (hD : IsMap D) (hk : WideAt.IsKeyLit k) (d : DataW H) : look (D.put k d) k = some d := by
  obtain ⟨es, rfl⟩ := hD
  show ((DataW.insert (k, d) (es.filter fun p => !p.1.sameKey k)).find? (fun p => p.1.sameKey k)).map (·.2) = some d
  rw [find_insert_hit (f := fun p => p.1.sameKey k) (WideAt.sameKey_self hk) _ (fun p hp => by simpa using (List.mem_filter.1 hp).2)]
  rfl
theorem look_put_other {D : DataW H} {k k' : Lit} (hne : k' ≠ k) (d : DataW H) : look (D.put k d) k' = look D k' := by
  cases D <;> try rfl
  rename_i es
  show ((DataW.insert (k, d) (es.filter fun p => !p.1.sameKey k)).find? (fun p => p.1.sameKey k')).map (·.2) = (es.find? (fun p => p.1.sameKey k')).map (·.2)
  rw [find_insert_miss (f := fun p => p.1.sameKey k') (sameKey_ne hne.symm), find_filter_keep (keep_other hne)]
theorem look_del_same {D : DataW H} {k : Lit} : look (D.del k) k = none := by
  cases D <;> try rfl
  rename_i es
  show ((es.filter fun p => !p.1.sameKey k).find? (fun p => p.1.sameKey k)).map (·.2) = none
  rw [List.find?_eq_none.2 (fun p hp => by simpa using (List.mem_filter.1 hp).2)]
  rfl
theorem look_del_other {D : DataW H} {k k' : Lit} (hne : k' ≠ k) : look (D.del k) k' = look D k' := by
  cases D <;> try rfl
  rename_i es
  show ((es.filter fun p => !p.1.sameKey k).find? (fun p => p.1.sameKey k')).map (·.2) = (es.find? (fun p => p.1.sameKey k')).map (·.2)
  rw [find_filter_keep (keep_other hne)]
theorem has_look (D : DataW H) (k : Lit) : has D k = (look D k).isSome := by
  cases D <;> try rfl
  rename_i es
  show es.any (fun p => p.1.sameKey k) = ((es.find? fun p => p.1.sameKey k).map (·.2)).isSome
  rw [Option.isSome_map]
  induction es with
  | nil => rfl
  | cons x r ih => cases hx : x.1.sameKey k <;> simp [hx, ih]
theorem atKey_look (D : DataW H) (k : Lit) (z : DataW H) : D.atKey k z = (look D k).getD z := by
  cases D <;> try rfl
  rename_i es
  show (match es.find? (fun p => p.1.sameKey k) with | some p => p.2 | none => z) = ((es.find? fun p => p.1.sameKey k).map (·.2)).getD z
  cases es.find? (fun p => p.1.sameKey k) <;> rfl
theorem canon_map {D : DataW H} (h : Canon D) : IsMap D := let ⟨es, e, _⟩ := h; ⟨es, e⟩
theorem canon_tidy {D : DataW H} (h : Canon D) : Tidy D := let ⟨es, e, h1, _⟩ := h; ⟨es, e, apart_of_rising h1⟩
theorem look_ext {D E : DataW H} (hD : Canon D) (hE : Canon E) (h : ∀ k, look D k = look E k) : D = E :=
  Maps.ext hD hE (fun k => by rw [has_look, has_look, h]) (fun k z _ => by rw [atKey_look, atKey_look, h])
theorem isKey_str (l : List UInt8) : WideAt.IsKeyLit (.string l) := trivial
theorem canon_del {D : DataW H} (h : Canon D) (k : Lit) : Canon (D.del k) := by
  obtain ⟨es, rfl, h1, h2⟩ := h
  exact ⟨_, rfl, h1.filter _, fun p hp => h2 p (List.mem_filter.1 hp).1⟩
theorem before_total {a b : List UInt8} (h : a ≠ b) : bytesBefore a b = true ∨ bytesBefore b a = true := by
  induction a generalizing b with
  | nil => cases b with
    | nil => exact absurd rfl h
    | cons y s => exact .inl rfl
  | cons x r ih => cases b with
    | nil => exact .inr rfl
    | cons y s =>
      simp only [bytesBefore, Bool.or_eq_true, Bool.and_eq_true, decide_eq_true_eq, beq_iff_eq]
      by_cases hxy : x = y
      · subst hxy
        have : r ≠ s := fun e => h (by rw [e])
        rcases ih this with h' | h'
        · exact .inl (.inr ⟨rfl, h'⟩)
        · exact .inr (.inr ⟨rfl, h'⟩)
      · have : x.toNat ≠ y.toNat := fun e => hxy (UInt8.toNat_inj.1 e)
        simp only [UInt8.lt_iff_toNat_lt]
        omega
theorem canon_put {D : DataW H} (h : Canon D) (hs : ∀ k, has D k = true → ∃ l, k = .string l) (l : List UInt8) (d : DataW H) : Canon (D.put (.string l) d) := by
  obtain ⟨es, rfl, h1, h2⟩ := h
  have hstr : ∀ p ∈ es, ∃ m, p.1 = .string m := fun p hp => hs p.1 (List.any_eq_true.2 ⟨p, hp, WideAt.sameKey_self (h2 p hp)⟩)
  have O : OneKind (fun k : Lit => ∃ m, k = .string m) := ⟨fun ⟨m, e⟩ => by rw [e]; trivial, fun ⟨m, e⟩ ⟨n, e'⟩ hne => by
    subst e e'
    exact before_total (fun e => hne (by rw [e]))⟩
  refine ⟨_, rfl, insert_sorted O ⟨l, rfl⟩ _ (h1.filter _) (fun p hp => hstr p (List.mem_filter.1 hp).1) (fun p hp e => ?_), fun p hp => ?_⟩
  · have := (List.mem_filter.1 hp).2
    rw [e] at this
    simp [WideAt.sameKey_self (isKey_str l)] at this
  · rcases ChangeMaps.mem_insert_iff.1 hp with rfl | hp
    · trivial
    · exact h2 p (List.mem_filter.1 hp).1
end

/-! ### files -/
/-- A file: its bytes, and how many of them last. -/
structure Fl where
  bs : List Nat
  l : Nat
def Fl.zero : Fl := ⟨[], 0⟩
abbrev FS := DataW Fl
/-- What stands at a name. -/
def fat (D : FS) (k : List UInt8) : Option Fl := match look D (.string k) with | some (.held f) => some f | _ => none
/-- All files' bytes. -/
def lenOf : DataW Fl → Nat | .held f => f.bs.length | _ => 0
def tot : FS → Nat
  | .map es => (es.map fun p => lenOf p.2).sum
  | _ => 0
theorem sum_insert (f : Lit × DataW Fl → Nat) (x : Lit × DataW Fl) : ∀ l : List (Lit × DataW Fl), ((DataW.insert x l).map f).sum = f x + (l.map f).sum
  | [] => rfl
  | y :: r => by
    unfold DataW.insert
    split
    · rfl
    · simp [sum_insert f x r]; omega
theorem tot_del {D : FS} (hD : Tidy D) (k : Lit) : tot (D.del k) + ((look D k).map lenOf).getD 0 = tot D := by
  obtain ⟨es, rfl, hp⟩ := hD
  show ((es.filter fun p => !p.1.sameKey k).map fun p => lenOf p.2).sum + (((es.find? fun p => p.1.sameKey k).map (·.2)).map lenOf).getD 0 = (es.map fun p => lenOf p.2).sum
  induction es with
  | nil => rfl
  | cons x r ih =>
    obtain ⟨h1, h2⟩ := List.pairwise_cons.1 hp
    cases hx : x.1.sameKey k
    · have := ih h2
      simp [hx] at this ⊢
      omega
    · have hno : r.filter (fun p => !p.1.sameKey k) = r := List.filter_eq_self.2 (fun p hp' => by
        cases hs : p.1.sameKey k
        · rfl
        · exact absurd ((WideAt.sameKey_eq hx).trans (WideAt.sameKey_eq hs).symm) (h1 p hp'))
      simp [hx, hno]
      omega
theorem put_del {D : FS} (hD : IsMap D) (k : Lit) (d : DataW Fl) : tot (D.put k d) = lenOf d + tot (D.del k) := by
  obtain ⟨es, rfl⟩ := hD
  exact sum_insert (fun p => lenOf p.2) (k, d) _
theorem tot_put {D : FS} (hD : Tidy D) (k : Lit) (d : DataW Fl) : tot (D.put k d) + ((look D k).map lenOf).getD 0 = tot D + lenOf d := by
  have := tot_del hD k
  rw [put_del hD.isMap]
  omega

/-! ### names -/
def chOk (c : Nat) : Bool := decide (97 ≤ c ∧ c ≤ 122) || decide (48 ≤ c ∧ c ≤ 57) || decide (c = 46) || decide (c = 45)
def nmOk (s : List UInt8) : Bool := decide (1 ≤ s.length ∧ s.length ≤ 16) && s.all fun c => chOk c.toNat

/-- What a disk's files are. -/
structure Good (D : FS) (room : Nat) : Prop where
  canon : Canon D
  room_ : room ≤ 1048576
  tot_ : tot D ≤ room
  size_ : size D ≤ 64
  files : ∀ k d, look D k = some d → ∃ s f, k = .string s ∧ nmOk s = true ∧ d = .held f ∧ f.l ≤ f.bs.length ∧ (∀ c ∈ f.bs, c < 256)

theorem Good.strs {D : FS} {room : Nat} (h : Good D room) : ∀ k, has D k = true → ∃ l, k = .string l := by
  intro k hk
  rw [has_look] at hk
  obtain ⟨d, hd⟩ := Option.isSome_iff_exists.1 hk
  obtain ⟨s, _, e, _⟩ := h.files k d hd
  exact ⟨s, e⟩
theorem Good.look_ {D : FS} {room : Nat} (h : Good D room) (s : List UInt8) : look D (.string s) = (fat D s).map .held := by
  unfold fat
  cases hl : look D (.string s) with
  | none => rfl
  | some d =>
    obtain ⟨_, f, _, _, e, _⟩ := h.files _ d hl
    subst e
    rfl
theorem Good.has_ {D : FS} {room : Nat} (h : Good D room) (s : List UInt8) : has D (.string s) = (fat D s).isSome := by
  rw [has_look, h.look_]
  cases fat D s <;> rfl
theorem Good.at_ {D : FS} {room : Nat} (h : Good D room) {s : List UInt8} {f : Fl} (hf : fat D s = some f) : nmOk s = true ∧ f.l ≤ f.bs.length ∧ (∀ c ∈ f.bs, c < 256) ∧ f.bs.length ≤ tot D := by
  have hl : look D (.string s) = some (.held f) := by rw [h.look_, hf]; rfl
  obtain ⟨s', f', e1, h1, e2, h2, h3⟩ := h.files _ _ hl
  injection e1 with e1
  injection e2 with e2
  subst e1 e2
  refine ⟨h1, h2, h3, ?_⟩
  have := tot_del (canon_tidy h.canon) (.string s)
  rw [hl] at this
  simp [lenOf] at this
  omega
theorem fat_put_same {D : FS} (hD : IsMap D) (s : List UInt8) (f : Fl) : fat (D.put (.string s) (.held f)) s = some f := by
  unfold fat
  rw [look_put_same hD (isKey_str s)]
theorem fat_put_other {D : FS} {s s' : List UInt8} (h : s' ≠ s) (f : Fl) : fat (D.put (.string s) (.held f)) s' = fat D s' := by
  unfold fat
  rw [look_put_other (fun e => h (by injection e))]
theorem fat_del_same {D : FS} (s : List UInt8) : fat (D.del (.string s)) s = none := by
  unfold fat
  rw [look_del_same]
theorem fat_del_other {D : FS} {s s' : List UInt8} (h : s' ≠ s) : fat (D.del (.string s)) s' = fat D s' := by
  unfold fat
  rw [look_del_other (fun e => h (by injection e))]
theorem Good.empty {room : Nat} (h : room ≤ 1048576) : Good (.map []) room :=
  ⟨canon_empty, h, by simp [tot], by simp [size], fun k d hk => by cases hk⟩
theorem Good.del {D : FS} {room : Nat} (h : Good D room) (s : List UInt8) : Good (D.del (.string s)) room := by
  refine ⟨canon_del h.canon _, h.room_, ?_, ?_, fun k d hk => ?_⟩
  · have := tot_del (canon_tidy h.canon) (.string s)
    have := h.tot_
    omega
  · have := size_del (k := .string s) (canon_tidy h.canon)
    have := h.size_
    omega
  · by_cases e : k = .string s
    · subst e
      rw [look_del_same] at hk
      cases hk
    · rw [look_del_other e] at hk
      exact h.files k d hk
/-- A file is laid. -/
theorem Good.put {D : FS} {room : Nat} (h : Good D room) {s : List UInt8} {f : Fl} (hs : nmOk s = true) (hl : f.l ≤ f.bs.length) (hb : ∀ c ∈ f.bs, c < 256)
    (hsz : (fat D s).isSome = true ∨ size D < 64) (ht : tot D + f.bs.length ≤ room + ((fat D s).getD Fl.zero).bs.length) : Good (D.put (.string s) (.held f)) room := by
  refine ⟨canon_put h.canon h.strs _ _, h.room_, ?_, ?_, fun k d hk => ?_⟩
  · have := tot_put (canon_tidy h.canon) (.string s) (.held f)
    rw [h.look_] at this
    cases hf : fat D s with
    | none => rw [hf] at this ht; simp [lenOf, Fl.zero] at this ht; omega
    | some g => rw [hf] at this ht; simp [lenOf] at this ht; omega
  · rw [size_put (canon_tidy h.canon), h.has_]
    have := h.size_
    cases hf : (fat D s).isSome
    · rw [hf] at hsz
      simp at hsz ⊢
      omega
    · simp
      omega
  · by_cases e : k = .string s
    · subst e
      rw [look_put_same (canon_map h.canon) (isKey_str s)] at hk
      injection hk with hk
      exact ⟨s, f, rfl, hs, hk.symm, hl, hb⟩
    · rw [look_put_other e] at hk
      exact h.files k d hk

/-! ### a map's entries in memory -/
/-- What the map holds: a slice, and how many of its bytes last. -/
structure Fe where
  a : Option Addr
  n : Nat
  c : Nat
  l : Int
def Fe.zero : Fe := ⟨none, 0, 0, 0⟩
def Fe.sl (f : Fe) : Value := .slice f.a f.n f.c
def Fe.val (f : Fe) : Value := .agg #[.slice f.a f.n f.c, .int .i64 f.l]
def rdF : Value → Option (DataW Fe × List MemPlace)
  | .agg cs => match cs.toList with
    | [.slice a n c, .int .i64 l] => some (.held ⟨a, n, c, l⟩, [])
    | _ => none
  | _ => none
theorem rdF_val (f : Fe) : rdF f.val = some (.held f, []) := rfl
theorem rdF_inv {v : Value} {z : DataW Fe × List MemPlace} (h : rdF v = some z) : ∃ f : Fe, v = f.val ∧ z = (.held f, []) := by
  unfold rdF at h
  split at h
  · rename_i cs
    split at h
    · rename_i a n c l he
      injection h with h
      refine ⟨⟨a, n, c, l⟩, ?_, h.symm⟩
      show Value.agg cs = Value.agg #[.slice a n c, .int .i64 l]
      rw [← he]
    · cases h
  · cases h
/-- What the map holds at a key. -/
def cat (C : DataW Fe) (k : Lit) : Fe := match look C k with | some (.held f) => f | _ => Fe.zero

/-- A file in memory. -/
def FRel (w : World) : Option (DataW Fe) → Option (DataW Fl) → Prop
  | none, none => True
  | some (.held f), some (.held g) => f.l = (g.l : Int) ∧ OwnB w 0 5 f.sl g.bs
  | _, _ => False
theorem FRel.mono {w w' : World} {a : Option (DataW Fe)} {b : Option (DataW Fl)} (h : FRel w a b) (hk : ∀ f g, a = some (.held f) → f.sl.ownBlock = some g → w'.heap[g]? = w.heap[g]?) : FRel w' a b := by
  match a, b, h with
  | none, none, _ => exact trivial
  | some (.held f), some (.held g), h =>
    refine ⟨h.1, h.2.1, ?_⟩
    rcases h.2.2 with h1 | ⟨gg, cap, cur, e, h1, h2, h3⟩
    · exact .inl h1
    · exact .inr ⟨gg, cap, cur, e, h1, (hk f gg rfl (by rw [e]; rfl)).trans h2, h3⟩

/-- Files in memory: block mb is the map; O holds all blocks that they take up. -/
structure Files (w : World) (mb dp : Nat) (C : DataW Fe) (D : FS) (O : Nat → Prop) : Prop where
  owns : w.ownsMap Tryz.prog 9 rdF mb (size C) C
  at_ : ∀ k, FRel w (look C k) (look D k)
  apart : ∀ k k' f f' g, look C k = some (.held f) → look C k' = some (.held f') → f.sl.ownBlock = some g → f'.sl.ownBlock = some g → k = k'
  inO : O mb
  fileO : ∀ k f g, look C k = some (.held f) → f.sl.ownBlock = some g → O g ∧ g ≠ mb ∧ g ≠ dp
  lt : ∀ k, O k → k < w.heap.size
/-- A disk: block dp. -/
structure DskC (w : World) (dp mb : Nat) (C : DataW Fe) (D : FS) (room : Nat) (fuse fails : Int) (O : Nat → Prop) : Prop where
  cells : w.heap[dp]? = some (.cells #[.map (some mb), .int .i64 (room : Int), .int .i64 fuse, .int .i64 fails] 54 (0, 0))
  files : Files w mb dp C D O
  good : Good D room
  dpO : O dp
  fuse_ : -1 ≤ fuse ∧ fuse ≤ 9223372036854775807
  fails_ : 0 ≤ fails ∧ fails ≤ 9223372036854775807
def Dsk (w : World) (dp : Nat) (D : FS) (room : Nat) (fuse fails : Int) (O : Nat → Prop) : Prop := ∃ mb C, DskC w dp mb C D room fuse fails O

theorem Files.same {w w' : World} {mb dp : Nat} {C : DataW Fe} {D : FS} {O : Nat → Prop} (h : Files w mb dp C D O) (hk : ∀ k, O k → w'.heap[k]? = w.heap[k]?) (hz : w.heap.size ≤ w'.heap.size) : Files w' mb dp C D O := by
  refine ⟨?_, fun k => (h.at_ k).mono (fun f g hf hg => hk g (h.fileO k f g hf hg).1), h.apart, h.inO, h.fileO, fun k ho => Nat.lt_of_lt_of_le (h.lt k ho) hz⟩
  obtain ⟨es, clock, hb, F, hs, hD⟩ := h.owns
  exact ⟨es, clock, (hk mb h.inO).trans hb, F, hs, hD⟩
theorem DskC.same {w w' : World} {dp mb : Nat} {C : DataW Fe} {D : FS} {room : Nat} {fuse fails : Int} {O : Nat → Prop} (h : DskC w dp mb C D room fuse fails O) (hk : ∀ k, O k → w'.heap[k]? = w.heap[k]?) (hz : w.heap.size ≤ w'.heap.size) : DskC w' dp mb C D room fuse fails O :=
  ⟨(hk dp h.dpO).trans h.cells, h.files.same hk hz, h.good, h.dpO, h.fuse_, h.fails_⟩
theorem Dsk.same {w w' : World} {dp : Nat} {D : FS} {room : Nat} {fuse fails : Int} {O : Nat → Prop} (h : Dsk w dp D room fuse fails O) (hk : ∀ k, O k → w'.heap[k]? = w.heap[k]?) (hz : w.heap.size ≤ w'.heap.size) : Dsk w' dp D room fuse fails O :=
  let ⟨mb, C, h⟩ := h; ⟨mb, C, h.same hk hz⟩
theorem DskC.lt {w : World} {dp mb : Nat} {C : DataW Fe} {D : FS} {room : Nat} {fuse fails : Int} {O : Nat → Prop} (h : DskC w dp mb C D room fuse fails O) : ∀ k, O k → k < w.heap.size := h.files.lt
theorem Dsk.lt {w : World} {dp : Nat} {D : FS} {room : Nat} {fuse fails : Int} {O : Nat → Prop} (h : Dsk w dp D room fuse fails O) : ∀ k, O k → k < w.heap.size := let ⟨_, _, h⟩ := h; h.lt
theorem Dsk.good {w : World} {dp : Nat} {D : FS} {room : Nat} {fuse fails : Int} {O : Nat → Prop} (h : Dsk w dp D room fuse fails O) : Good D room := let ⟨_, _, h⟩ := h; h.good
theorem DskC.below {w w' : World} {dp mb : Nat} {C : DataW Fe} {D : FS} {room : Nat} {fuse fails : Int} {O : Nat → Prop} (h : DskC w dp mb C D room fuse fails O) (hb : Below w.heap.size w w') : DskC w' dp mb C D room fuse fails O :=
  h.same (fun k hk => hb.block k (h.lt k hk)) hb.size
theorem Dsk.below {w w' : World} {dp : Nat} {D : FS} {room : Nat} {fuse fails : Int} {O : Nat → Prop} (h : Dsk w dp D room fuse fails O) (hb : Below w.heap.size w w') : Dsk w' dp D room fuse fails O :=
  h.same (fun k hk => hb.block k (h.lt k hk)) hb.size
/-- Another thing's calls leave a disk. -/
theorem Dsk.but {w w' : World} {dp : Nat} {D : FS} {room : Nat} {fuse fails : Int} {O P : Nat → Prop} (h : Dsk w dp D room fuse fails O) (hb : But P w w') (hno : ∀ k, O k → ¬ P k) : Dsk w' dp D room fuse fails O :=
  h.same (fun k hk => hb.block k (h.lt k hk) (hno k hk)) hb.size

theorem DskC.cell {w : World} {dp mb : Nat} {C : DataW Fe} {D : FS} {room : Nat} {fuse fails : Int} {O : Nat → Prop} (h : DskC w dp mb C D room fuse fails O) :
    w.cell? ⟨dp, 0, none⟩ = some (.map (some mb)) ∧ w.cell? ⟨dp, 1, none⟩ = some (.int .i64 (room : Int)) ∧ w.cell? ⟨dp, 2, none⟩ = some (.int .i64 fuse) ∧ w.cell? ⟨dp, 3, none⟩ = some (.int .i64 fails) ∧ (∀ j, w.frozen? ⟨dp, j, none⟩ = false) :=
  ⟨(cell_of_row w dp 0 _ _ _ h.cells).trans rfl, (cell_of_row w dp 1 _ _ _ h.cells).trans rfl, (cell_of_row w dp 2 _ _ _ h.cells).trans rfl, (cell_of_row w dp 3 _ _ _ h.cells).trans rfl, fun j => frozen_of_row w dp j _ _ h.cells⟩
theorem law9 : Keyed Tryz.prog 9 := string_keyed Tryz.underlying9
theorem Files.key {s : ByteArray} (hs : s.size ≤ maxLen) : keyOf Tryz.prog 9 (.string s) = some (.string s.data.toList) := WideMaps.keyOf_string_mk Tryz.underlying9 hs
theorem Files.canon {w : World} {mb dp : Nat} {C : DataW Fe} {D : FS} {O : Nat → Prop} (h : Files w mb dp C D O) : Canon C := h.owns.canon law9
theorem Files.has_ {w : World} {mb dp : Nat} {C : DataW Fe} {D : FS} {O : Nat → Prop} (h : Files w mb dp C D O) (k : Lit) : has C k = has D k := by
  rw [has_look, has_look]
  have := h.at_ k
  match hc : look C k, hd : look D k with
  | none, none => rfl
  | some _, some _ => rfl
  | none, some _ => rw [hc, hd] at this; exact this.elim
  | some x, none => rw [hc, hd] at this; cases x <;> exact this.elim
end
section
open Go.RowKit
open Go.Maps

theorem inName_any (c : Nat) (hc : c < 256) (w : World) : Calls Tryz.prog 80 #[.int .u8 (c : Int)] w fun e w' => e = .returned (.bool (chOk c)) ∧ w = w' := by
  have Hc := Lib.hid hc
  clear hc
  go_enter Tryz.func80, Tryz.ntmps80
  go_wp2
  all_goals
    go_ret
    refine ⟨ret_bool ?_, rfl⟩
    unfold chOk
    rw [Bool.eq_iff_iff]
    simp
    try omega

set_option maxRecDepth 100000 in
set_option maxHeartbeats 800000 in
theorem isName_any (s : ByteArray) (hs : s.size ≤ maxLen) (w : World) : Calls Tryz.prog 62 #[.string s] w fun e w' => e = .returned (.bool (nmOk s.data.toList)) ∧ w = w' := by
  unfold maxLen at hs
  have hlen : s.data.toList.length = s.size := by simp
  by_cases h1 : 1 ≤ s.size
  · by_cases h16 : s.size ≤ 16
    · have Hn : Hid (nmOk s.data.toList = s.data.toList.all fun c => chOk c.toNat) := by
        show _ = _
        unfold nmOk
        rw [hlen]
        simp [h1, h16]
      go_enter Tryz.func62, Tryz.ntmps62
      go_wp2_with fail
      go_loop [14] (fun i => ∃ k : Nat, k ≤ s.size ∧ i = .int .i64 k ∧ ((s.data.toList.take k).all fun c => chOk c.toNat) = true) (fun i => s.size - (intOf i).toNat)
      case atStart => exact ⟨0, Nat.zero_le _, rfl, rfl⟩
      case round =>
        obtain ⟨k, hk, rfl, hall⟩ := hrel
        by_cases hlt : k < s.size
        · have hts : s.data.toList.take (k + 1) = s.data.toList.take k ++ [s[k]] := by
            rw [List.take_succ_eq_append_getElem (by simpa using hlt)]; rfl
          have IN := Lib.hid (inName_any s[k].toNat s[k].toNat_lt)
          have Ha : Hid (((s.data.toList.take (k + 1)).all fun c => chOk c.toNat) = chOk s[k].toNat) := by
            show _ = _
            rw [hts, List.all_append, hall]; simp
          have Hf : Hid (chOk s[k].toNat = false → (s.data.toList.all fun c => chOk c.toNat) = false) := by
            intro hf
            rw [List.all_eq_false]
            exact ⟨s[k], by have : s[k] = s.data.toList[k]'(by simpa using hlt) := rfl
                            rw [this]; exact List.getElem_mem _, by simp [hf]⟩
          clear hts hall
          cases hb : chOk s[k].toNat
          · rw [hb] at Ha
            have Hf := Hf.out hb
            rw [hb] at IN
            have Hr := Lib.hid (Hn.out.trans Hf)
            clear hb Ha Hn Hf
            go_wp2_with (go_at_call 80; refine (IN.out _).mono ?_; rintro e w' ⟨rfl, rfl⟩)
            go_ret
            exact ⟨ret_bool Hr.out.symm, rfl⟩
          · have Ha := Lib.hid (Ha.out.trans hb)
            rw [hb] at IN
            clear hb Hf
            go_wp2_with (go_at_call 80; refine (IN.out _).mono ?_; rintro e w' ⟨rfl, rfl⟩)
            go_round
            case rel => exact ⟨k + 1, by omega, by go_num, Ha.out⟩
            case measure => simp [intOf]; omega
        · have hkn : k = s.size := by omega
          subst hkn
          rw [List.take_of_length_le (by simp)] at hall
          have Hr := Lib.hid (Hn.out.trans hall)
          clear hall Hn
          go_wp2
          go_ret
          exact ⟨ret_bool Hr.out.symm, rfl⟩
    · have Hn : Hid (nmOk s.data.toList = false) := by
        show _ = _
        unfold nmOk
        rw [hlen]
        simp [h16]
      go_enter Tryz.func62, Tryz.ntmps62
      go_wp2
      go_ret
      exact ⟨ret_bool Hn.out.symm, rfl⟩
  · have h0 : s.size = 0 := by omega
    have Hn : Hid (nmOk s.data.toList = false) := by
      show _ = _
      unfold nmOk
      rw [hlen]
      simp [h1]
    have h1' : s.size < 1 := by omega
    clear hlen
    go_enter Tryz.func62, Tryz.ntmps62
    go_wp2
    go_ret
    exact ⟨ret_bool Hn.out.symm, rfl⟩
end
end Go.Proofs.YtohiheohndmccaaGreat
