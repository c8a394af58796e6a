/- The reference's disk in memory: a row of files, by their names; what a world keeps; where a file is. The reference's disk: New, call, Fuse, Fail, Name, at, Used, Synced. The reference's disk: Name, Used, Synced, Read, List. Rows of the reference's files: cuts, append, without. The reference's disk: mathematics of put, of without, of one file that is turned. The reference's disk: put, Delete, Sync. -/
import Derived.Test.YtohiheohndmccaaGreatDkO
import Derived.Test.YtohiheohndmccaaGreatDkL
import Derived.Test.YtohiheohndmccaaGreatOwI
import Derived.Test.YtohiheohndmccaaGreatDkS
import Derived.Test.YtohiheohndmccaaGreatTake
import Derived.Deep.CutRange
import Derived.Laws.OwnMore
namespace Go.Proofs.YtohiheohndmccaaGreat
set_option linter.unusedSimpArgs false
section
open Go.RowKit
open Go.Maps
attribute [local go_sem] Oper.semAt_some

/-- A file, with where its bytes lie. -/
structure REnt where
  s : List UInt8
  a : Option Addr
  c : Nat
  bs : List Nat
  l : Nat
abbrev REnt.cells (e : REnt) : List Value := [.string ⟨e.s.toArray⟩, .slice e.a e.bs.length e.c, .int .i64 (e.l : Int)]
abbrev REnt.fl (e : REnt) : Fl := ⟨e.bs, e.l⟩
abbrev REnt.ent (e : REnt) : Lit × DataW Fl := (.string e.s, .held e.fl)
def rcells (es : List REnt) : List Value := es.flatMap REnt.cells
def rD (es : List REnt) : FS := .map (es.map REnt.ent)
theorem rcells_append (a b : List REnt) : rcells (a ++ b) = rcells a ++ rcells b := by simp [rcells]
theorem rcells_len (es : List REnt) : (rcells es).length = es.length * 3 := by
  induction es with
  | nil => rfl
  | cons e es ih =>
    show (e.cells ++ rcells es).length = _
    rw [List.length_append, ih]
    simp
    omega
theorem rcells_get : ∀ (es : List REnt) (k : Nat) (e : REnt), es[k]? = some e → (rcells es)[k * 3]? = some (.string ⟨e.s.toArray⟩) ∧ (rcells es)[k * 3 + 1]? = some (.slice e.a e.bs.length e.c) ∧ (rcells es)[k * 3 + 2]? = some (.int .i64 (e.l : Int)) := by
  intro es
  induction es with
  | nil => intro k e h; simp at h
  | cons x es ih =>
    intro k e h
    cases k with
    | zero =>
      simp at h
      subst h
      exact ⟨rfl, rfl, rfl⟩
    | succ k =>
      have := ih k e (by simpa using h)
      have q : ∀ j, (rcells (x :: es))[j + 3]? = (rcells es)[j]? := fun j => rfl
      rw [show (k + 1) * 3 = k * 3 + 3 from by omega, show k * 3 + 3 + 1 = k * 3 + 1 + 3 from by omega, show k * 3 + 3 + 2 = k * 3 + 2 + 3 from by omega, q, q, q]
      exact this

/-- The reference's disk: block rp; O holds all blocks that it takes up. -/
structure RdC (w : World) (rp : Nat) (t : St) (O : Nat → Prop) (a : Option Addr) (c : Nat) (es : List REnt) : Prop where
  cells : w.heap[rp]? = some (.cells #[.int .i64 (t.room : Int), .slice a es.length c, .int .i64 t.fuse, .int .i64 t.fails] 57 (0, 0))
  own : w.ownsRow 0 70 3 (.slice a es.length c) es.length (rcells es)
  D_ : t.D = rD es
  good : Good t.D t.room
  bytes : ∀ e ∈ es, Sl w w.heap.size e.a e.bs.length e.c e.bs ∧ (0 < e.bs.length → ∀ b o, e.a = some ⟨b, o, none⟩ → O b ∧ b ≠ rp ∧ (Value.slice a es.length c).ownBlock ≠ some b)
  rpO : O rp
  ownO : ∀ g, (Value.slice a es.length c).ownBlock = some g → O g ∧ g ≠ rp
  lt : ∀ k, O k → k < w.heap.size
  fuse_ : -1 ≤ t.fuse ∧ t.fuse ≤ 9223372036854775807
  fails_ : 0 ≤ t.fails ∧ t.fails ≤ 9223372036854775807
def Rd (w : World) (rp : Nat) (t : St) (O : Nat → Prop) : Prop := ∃ a c es, RdC w rp t O a c es

section
variable {w w' : World} {rp : Nat} {t : St} {O P : Nat → Prop} {a : Option Addr} {c : Nat} {es : List REnt}
theorem RdC.same (h : RdC w rp t O a c es) (hk : ∀ k, O k → w'.heap[k]? = w.heap[k]?) (hz : w.heap.size ≤ w'.heap.size) : RdC w' rp t O a c es := by
  refine ⟨(hk rp h.rpO).trans h.cells, ⟨h.own.1, ?_⟩, h.D_, h.good, fun e he => ⟨(h.bytes e he).1.same_ hz (fun hp b o e' => hk b ((h.bytes e he).2 hp b o e').1), (h.bytes e he).2⟩, h.rpO, h.ownO, fun k hk' => Nat.lt_of_lt_of_le (h.lt k hk') hz, h.fuse_, h.fails_⟩
  rcases h.own.2 with h1 | ⟨g, cap, cur, e, h1, h2, h3⟩
  · exact .inl h1
  · exact .inr ⟨g, cap, cur, e, h1, (hk g (h.ownO g (by rw [e]; rfl)).1).trans h2, h3⟩
theorem Rd.same (h : Rd w rp t O) (hk : ∀ k, O k → w'.heap[k]? = w.heap[k]?) (hz : w.heap.size ≤ w'.heap.size) : Rd w' rp t O := let ⟨a, c, es, h⟩ := h; ⟨a, c, es, h.same hk hz⟩
theorem RdC.below (h : RdC w rp t O a c es) (hb : Below w.heap.size w w') : RdC w' rp t O a c es := h.same (fun k hk => hb.block k (h.lt k hk)) hb.size
theorem Rd.below (h : Rd w rp t O) (hb : Below w.heap.size w w') : Rd w' rp t O := let ⟨a, c, es, h⟩ := h; ⟨a, c, es, h.below hb⟩
theorem Rd.lt (h : Rd w rp t O) : ∀ k, O k → k < w.heap.size := let ⟨_, _, _, h⟩ := h; h.lt
theorem Rd.good (h : Rd w rp t O) : Good t.D t.room := let ⟨_, _, _, h⟩ := h; h.good
/-- Another thing's calls leave it. -/
theorem Rd.but (h : Rd w rp t O) (hb : But P w w') (hno : ∀ k, O k → ¬ P k) : Rd w' rp t O := h.same (fun k hk => hb.block k (h.lt k hk) (hno k hk)) hb.size
theorem RdC.cell (h : RdC w rp t O a c es) :
    w.cell? ⟨rp, 0, none⟩ = some (.int .i64 (t.room : Int)) ∧ w.cell? ⟨rp, 1, none⟩ = some (.slice a es.length c) ∧ w.cell? ⟨rp, 2, none⟩ = some (.int .i64 t.fuse) ∧ w.cell? ⟨rp, 3, none⟩ = some (.int .i64 t.fails) ∧ (∀ j, w.frozen? ⟨rp, j, none⟩ = false) :=
  ⟨(cell_of_row w rp 0 _ _ _ h.cells).trans rfl, (cell_of_row w rp 1 _ _ _ h.cells).trans rfl, (cell_of_row w rp 2 _ _ _ h.cells).trans rfl, (cell_of_row w rp 3 _ _ _ h.cells).trans rfl, fun j => frozen_of_row w rp j _ _ h.cells⟩
/-- A file's cells. -/
theorem RdC.at_ (h : RdC w rp t O a c es) (hp : 0 < es.length) : ∃ g, a = some ⟨g, 0, none⟩ ∧ O g ∧ g ≠ rp ∧ g < w.heap.size ∧ es.length ≤ c ∧ c ≤ maxLen ∧ ∀ (k : Nat) (e : REnt), es[k]? = some e → w.cell? ⟨g, k * 3, none⟩ = some (.string ⟨e.s.toArray⟩) ∧ w.cell? ⟨g, k * 3 + 1, none⟩ = some (.slice e.a e.bs.length e.c) ∧ w.cell? ⟨g, k * 3 + 2, none⟩ = some (.int .i64 (e.l : Int)) := by
  rcases h.own.2 with ⟨h1, h0⟩ | ⟨g, cap, cur, e, h1, h2, hn, hc, hsz, htk⟩
  · injection h1 with _ h2 _
    omega
  · injection e with e1 e2 e3
    subst e1 e3
    have hO := h.ownO g rfl
    refine ⟨g, rfl, hO.1, hO.2, lt_of_heap h2, hn, hc, fun k e he => ?_⟩
    have hk := (List.getElem?_eq_some_iff.1 he).1
    obtain ⟨q1, q2, q3⟩ := rcells_get es k e he
    refine ⟨?_, ?_, ?_⟩
    · rw [World.ownsRow.cellAt h.own (k * 3) (by omega), q1]
    · rw [World.ownsRow.cellAt h.own (k * 3 + 1) (by omega), q2]
    · rw [World.ownsRow.cellAt h.own (k * 3 + 2) (by omega), q3]
end

/-- Where a file is; as many as there are: nowhere. -/
def ridx : List REnt → List UInt8 → Nat
  | [], _ => 0
  | e :: es, s => if e.s = s then 0 else ridx es s + 1
theorem ridx_le : ∀ (es : List REnt) (s : List UInt8), ridx es s ≤ es.length
  | [], _ => Nat.le_refl _
  | e :: es, s => by
    unfold ridx
    split
    · exact Nat.zero_le _
    · have := ridx_le es s
      simp only [List.length_cons]
      omega
theorem ridx_skip : ∀ (es : List REnt) (s : List UInt8) (k : Nat), (∀ j e, j < k → es[j]? = some e → e.s ≠ s) → k ≤ es.length → k ≤ ridx es s
  | _, _, 0, _, _ => Nat.zero_le _
  | [], _, k + 1, _, h => by simp at h
  | e :: es, s, k + 1, hj, h => by
    unfold ridx
    rw [if_neg (hj 0 e (by omega) rfl)]
    have := ridx_skip es s k (fun j x hjk hx => hj (j + 1) x (by omega) hx) (by simpa using h)
    omega
theorem ridx_hit : ∀ (es : List REnt) (s : List UInt8) (k : Nat) (e : REnt), (∀ j e, j < k → es[j]? = some e → e.s ≠ s) → es[k]? = some e → e.s = s → ridx es s = k
  | [], _, k, _, _, h, _ => by simp at h
  | x :: es, s, 0, e, _, h, he => by
    have : x = e := by simpa using h
    subst this
    unfold ridx
    rw [if_pos he]
  | x :: es, s, k + 1, e, hj, h, he => by
    unfold ridx
    rw [if_neg (hj 0 x (by omega) rfl), ridx_hit es s k e (fun j y hjk hy => hj (j + 1) y (by omega) hy) (by simpa using h) he]
theorem ridx_fat : ∀ (es : List REnt) (s : List UInt8), fat (rD es) s = es[ridx es s]?.map REnt.fl
  | [], s => rfl
  | e :: es, s => by
    by_cases h : e.s = s
    · have e1 : ridx (e :: es) s = 0 := by unfold ridx; rw [if_pos h]
      rw [e1]
      have hk : (Lit.string e.s).sameKey (.string s) = true := by rw [h]; exact WideAt.sameKey_self (isKey_str s)
      unfold fat rD look
      simp only [List.map_cons, List.find?_cons, REnt.ent, hk]
      rfl
    · have e1 : ridx (e :: es) s = ridx es s + 1 := by rw [ridx, if_neg h]
      rw [e1]
      have hk : (Lit.string e.s).sameKey (.string s) = false := sameKey_ne (fun h' => h (by injection h'))
      have ih := ridx_fat es s
      rw [List.getElem?_cons_succ, ← ih]
      unfold fat rD look
      simp only [List.map_cons, List.find?_cons, REnt.ent, hk]
theorem rD_tot : ∀ es : List REnt, tot (rD es) = (es.map fun e => e.bs.length).sum := by
  intro es
  unfold rD tot
  simp [lenOf, Function.comp_def]
theorem rD_names (es : List REnt) : strKeys (rD es) = es.map (·.s) := by
  rw [strKeys_keysL]
  simp [rD, keysL, Function.comp_def]
  intro e _
  rfl
theorem rD_size (es : List REnt) : size (rD es) = es.length := by simp [rD, size]
end
section
open Go.RowKit
open Go.Maps
attribute [local go_sem] Oper.semAt_some

theorem rnew_no (room : Int) (hr : ¬ (0 ≤ room ∧ room ≤ 1048576)) (w : World) : Calls Tryz.prog 6 #[.int .i64 room] w fun e w' => e = .returned (.pointer none) ∧ w = w' := by
  by_cases h0 : room < 0
  · go_enter Tryz.func6, Tryz.ntmps6
    go_wp2
    go_ret
    exact ⟨rfl, rfl⟩
  · have h1 : 1048576 < room := by omega
    go_enter Tryz.func6, Tryz.ntmps6
    go_wp2
    go_ret
    exact ⟨rfl, rfl⟩
theorem rd_new (w : World) (room : Nat) (hr : room ≤ 1048576) : Rd (w.alloc (.cells #[.int .i64 (room : Int), .slice none 0 0, .int .i64 (-1), .int .i64 0] 57)) w.heap.size ⟨.map [], room, -1, 0⟩ (fun k => k = w.heap.size) :=
  ⟨none, 0, [], heap_alloc_new w _, World.ownsRow_nil _ _ _ _, rfl, Good.empty hr, fun e he => (by cases he), rfl, fun g hg => (by cases hg), fun k hk => by subst hk; simp, ⟨by show (-1 : Int) ≤ -1; omega, by show (-1 : Int) ≤ _; omega⟩, ⟨by show (0 : Int) ≤ 0; omega, by show (0 : Int) ≤ _; omega⟩⟩
theorem rnew_yes (room : Nat) (hr : room ≤ 1048576) (w : World) : Calls Tryz.prog 6 #[.int .i64 (room : Int)] w fun e w' => e = .returned (.pointer (some ⟨w.heap.size, 0, none⟩)) ∧ Below w.heap.size w w' ∧ Rd w' w.heap.size ⟨.map [], room, -1, 0⟩ (fun k => k = w.heap.size) := by
  have HD := Lib.hid (rd_new w room hr)
  go_enter Tryz.func6, Tryz.ntmps6
  go_wp2
  go_ret
  exact ⟨rfl, (Below.refl _ _).alloc (Nat.le_refl _) _, HD.out⟩
section
variable {w : World} {rp : Nat} {t : St} {O : Nat → Prop} {a : Option Addr} {c : Nat} {es : List REnt}
/-- A number of the disk's own is set. -/
theorem RdC.set_ (h : RdC w rp t O a c es) (j : Nat) (u : Value) {fuse' fails' : Int} (hc : ((#[.int .i64 (t.room : Int), .slice a es.length c, .int .i64 t.fuse, .int .i64 t.fails] : Array Value).setIfInBounds j u) = #[.int .i64 (t.room : Int), .slice a es.length c, .int .i64 fuse', .int .i64 fails'])
    (hf : -1 ≤ fuse' ∧ fuse' ≤ 9223372036854775807) (hl : 0 ≤ fails' ∧ fails' ≤ 9223372036854775807) : RdC (w.setCell ⟨rp, j, none⟩ u) rp ⟨t.D, t.room, fuse', fails'⟩ O a c es := by
  have hs := heap_setCell_same w rp j _ _ u h.cells
  rw [hc] at hs
  have hz : w.heap.size ≤ (w.setCell ⟨rp, j, none⟩ u).heap.size := by simp [World.setCell]
  have hoth : ∀ k, k ≠ rp → (w.setCell ⟨rp, j, none⟩ u).heap[k]? = w.heap[k]? := fun k hk => Below.heap_setCell w ⟨rp, j, none⟩ u k hk
  refine ⟨hs, ⟨h.own.1, ?_⟩, h.D_, h.good, fun e he => ⟨(h.bytes e he).1.same_ hz (fun hp b o e' => hoth b ((h.bytes e he).2 hp b o e').2.1), (h.bytes e he).2⟩, h.rpO, h.ownO, fun k ho => by simpa [World.setCell] using h.lt k ho, hf, hl⟩
  rcases h.own.2 with h1 | ⟨g, cap, cur, e, h1, h2, h3⟩
  · exact .inl h1
  · exact .inr ⟨g, cap, cur, e, h1, (hoth g (h.ownO g (by rw [e]; rfl)).2).trans h2, h3⟩
theorem rcall_dead (h : RdC w rp t O a c es) (hf : t.fuse = 0) : Calls Tryz.prog 67 #[.pointer (some ⟨rp, 0, none⟩)] w fun e w' => e = .returned (.bool false) ∧ w = w' := by
  have c2 := h.cell.2.2.1
  rw [hf] at c2
  clear h hf
  go_enter Tryz.func67, Tryz.ntmps67
  go_wp2
  go_ret
  exact ⟨rfl, rfl⟩
set_option maxRecDepth 100000 in
theorem rcall_do (h : RdC w rp t O a c es) (hf : t.fuse ≠ 0) : Calls Tryz.prog 67 #[.pointer (some ⟨rp, 0, none⟩)] w fun e w' => e = .returned (.bool true) ∧ RdC w' rp t.burnt O a c es ∧ But O w w' := by
  have c2 := h.cell.2.2.1
  have c3 := h.cell.2.2.2.2 2
  have hfb := h.fuse_
  have hn : (t.fuse == 0) = false := by simp [hf]
  by_cases hp : 0 < t.fuse
  · have hb : t.burnt = ⟨t.D, t.room, t.fuse - 1, t.fails⟩ := by unfold St.burnt burn; rw [if_pos hp]
    rw [hb]
    have h1 := h.set_ 2 (.int .i64 (t.fuse - 1)) (fuse' := t.fuse - 1) (fails' := t.fails) rfl (by omega) h.fails_
    have HK := Lib.hid (And.intro h1 ((But.refl O w).setCell (p := ⟨rp, 2, none⟩) (.inl h.rpO) (.int .i64 (t.fuse - 1))))
    have hw : IntKind.i64.wrap (t.fuse - 1) = t.fuse - 1 := by rw [IntKind.wrap_i64]; omega
    clear h hb h1 hfb
    generalize t.fuse = fz at *
    go_enter Tryz.func67, Tryz.ntmps67
    go_wp2
    go_ret
    exact ⟨rfl, HK.out.1, HK.out.2⟩
  · have hb : t.burnt = t := by unfold St.burnt burn; rw [if_neg hp]
    rw [hb]
    have HK := Lib.hid h
    clear h hb hfb
    generalize hfz : t.fuse = fz at *
    have Hfz := Lib.hid hfz
    clear hfz
    go_enter Tryz.func67, Tryz.ntmps67
    go_wp2
    go_ret
    exact ⟨rfl, HK.out, But.refl _ _⟩
set_option maxRecDepth 100000 in
theorem rfuse_any (h : RdC w rp t O a c es) (n : Int) (hn : n ≤ 9223372036854775807) :
    Calls Tryz.prog 34 #[.pointer (some ⟨rp, 0, none⟩), .int .i64 n] w fun e w' => e = .returned (.tuple #[]) ∧ RdC w' rp (t.fuse_ n) O a c es ∧ But O w w' := by
  have c2 := h.cell.2.2.1
  have z2 := h.cell.2.2.2.2 2
  have hm := fun (x : World) => max2_any n (-1) x
  have h2 := h.set_ 2 (.int .i64 (max n (-1))) (fuse' := max n (-1)) (fails' := t.fails) rfl (by omega) h.fails_
  have H := Lib.hid (And.intro h2 ((But.refl O w).setCell (p := ⟨rp, 2, none⟩) (.inl h.rpO) (.int .i64 (max n (-1)))))
  have HF : Hid (t.fuse_ n = ⟨t.D, t.room, max n (-1), t.fails⟩) := rfl
  clear h h2 hn
  generalize max n (-1) = m at *
  go_enter Tryz.func34, Tryz.ntmps34
  go_wp2
  go_end0
  exact ⟨rfl, by rw [HF.out]; exact H.out.1, H.out.2⟩
set_option maxRecDepth 100000 in
theorem rfail_any (h : RdC w rp t O a c es) (n : Int) (hn : n ≤ 9223372036854775807) :
    Calls Tryz.prog 35 #[.pointer (some ⟨rp, 0, none⟩), .int .i64 n] w fun e w' => e = .returned (.tuple #[]) ∧ RdC w' rp (t.fail_ n) O a c es ∧ But O w w' := by
  have c2 := h.cell.2.2.2.1
  have z2 := h.cell.2.2.2.2 3
  have hm := fun (x : World) => max2_any n 0 x
  have h2 := h.set_ 3 (.int .i64 (max n 0)) (fuse' := t.fuse) (fails' := max n 0) rfl h.fuse_ (by omega)
  have H := Lib.hid (And.intro h2 ((But.refl O w).setCell (p := ⟨rp, 3, none⟩) (.inl h.rpO) (.int .i64 (max n 0))))
  have HF : Hid (t.fail_ n = ⟨t.D, t.room, t.fuse, max n 0⟩) := rfl
  clear h h2 hn
  generalize max n 0 = m at *
  go_enter Tryz.func35, Tryz.ntmps35
  go_wp2
  go_end0
  exact ⟨rfl, by rw [HF.out]; exact H.out.1, H.out.2⟩
theorem ba_listR {a b : ByteArray} (h : a.data.toList = b.data.toList) : a = b := by
  obtain ⟨⟨x⟩⟩ := a
  obtain ⟨⟨y⟩⟩ := b
  have h : x = y := h
  rw [h]
theorem str_eqR {a b : ByteArray} (h : a = b) : (a.toList == b.toList) = true := by rw [h]; simp
theorem str_neR {a b : ByteArray} (h : ¬ a = b) : (a.toList == b.toList) = false := by
  rw [beq_eq_false_iff_ne]
  intro e
  rw [ByteArray.toList_eq, ByteArray.toList_eq] at e
  exact h (ba_listR e)
/-- Where a file is, as a number; below 0: nowhere. -/
def ratI (es : List REnt) (s : List UInt8) : Int := if ridx es s < es.length then ((ridx es s : Nat) : Int) else -1
set_option linter.unusedSimpArgs false in
set_option maxRecDepth 100000 in
set_option maxHeartbeats 1600000 in
theorem rat_any (h : RdC w rp t O a c es) (s : ByteArray) : Calls Tryz.prog 52 #[.pointer (some ⟨rp, 0, none⟩), .string s] w fun e w' => e = .returned (.int .i64 (ratI es s.data.toList)) ∧ w = w' := by
  have c1 := h.cell.2.1
  have hcap : es.length ≤ 9223372036854775807 := by
    by_cases hp : 0 < es.length
    · obtain ⟨g, _, _, _, _, h1, h2, _⟩ := h.at_ hp
      unfold maxLen at h2
      omega
    · omega
  have HH := Lib.hid h
  clear h
  obtain ⟨n, hn⟩ : ∃ n, n = es.length := ⟨_, rfl⟩
  rw [← hn] at c1 hcap
  have HN := Lib.hid hn
  clear hn
  go_enter Tryz.func52, Tryz.ntmps52
  go_wp2_with fail
  go_loopw [5] (fun i wr => ∃ k : Nat, k ≤ n ∧ i = .int .i64 (k : Int) ∧ (∀ j e, j < k → es[j]? = some e → e.s ≠ s.data.toList) ∧ wr = w) (fun i _ => n - (intOf i).toNat)
  case atStart => exact ⟨0, Nat.zero_le _, rfl, fun j e hj => by omega, rfl⟩
  case round =>
    obtain ⟨k, hk, rfl, hno, rfl⟩ := hrel
    by_cases hlt : k < n
    · obtain ⟨g, hg, _, _, _, _, _, hc⟩ := HH.out.at_ (by have := HN.out; omega)
      subst hg
      have hke : k < es.length := by have := HN.out; omega
      have q0 := (hc k es[k] (List.getElem?_eq_getElem hke)).1
      obtain ⟨e0, he0⟩ : ∃ e0, e0 = es[k] := ⟨_, rfl⟩
      rw [← he0] at q0
      have HE := Lib.hid (show es[k]? = some e0 by rw [he0]; exact List.getElem?_eq_getElem hke)
      have HNo := Lib.hid hno
      clear hc hno he0 hke
      by_cases hs : (⟨e0.s.toArray⟩ : ByteArray) = s
      · have hes : e0.s = s.data.toList := by rw [← hs]
        have Hr := Lib.hid (show ratI es s.data.toList = (k : Int) by
          unfold ratI
          rw [ridx_hit es _ k e0 HNo.out HE.out hes, if_pos (by have := HN.out; omega)])
        have hb := str_eqR hs
        have hb2 : (e0.s == s.toList) = true := by rw [hes, ByteArray.toList_eq]; simp
        clear hs hes
        go_wp2
        go_ret
        exact ⟨ret_i64 Hr.out.symm, rfl⟩
      · have hb := str_neR hs
        have hes : e0.s ≠ s.data.toList := fun h' => hs (by
          apply ByteArray.ext
          show e0.s.toArray = s.data
          rw [h'])
        have hb2 : (e0.s == s.toList) = false := by rw [ByteArray.toList_eq, beq_eq_false_iff_ne]; exact hes
        have Hes := Lib.hid hes
        clear hes
        go_wp2
        go_roundw
        case measure => simp [intOf]; omega
        case rel =>
        refine ⟨k + 1, by omega, by go_num, fun j e hj he => ?_, by trivial⟩
        by_cases hjk : j = k
        · subst hjk
          have := he.symm.trans HE.out
          injection this with this
          rw [this]
          exact Hes.out
        · exact HNo.out j e (by omega) he
    · have hkn : k = n := by omega
      have Hr := Lib.hid (show ratI es s.data.toList = -1 by
        unfold ratI
        have h1 := ridx_skip es s.data.toList k hno (by have := HN.out; omega)
        rw [if_neg (by have := HN.out; omega)])
      clear hno
      go_wp2
      go_ret
      exact ⟨ret_i64 Hr.out.symm, rfl⟩
end
end
section
open Go.RowKit Go.Sort
open Go.Maps
attribute [local go_sem] Oper.semAt_some

set_option linter.unusedSimpArgs false in
set_option maxRecDepth 100000 in
set_option maxHeartbeats 1600000 in
theorem rname_any (s : ByteArray) (hs : s.size ≤ maxLen) (w : World) : Calls Tryz.prog 68 #[.string s] w fun e w' => e = .returned (.bool (nmOk s.data.toList)) ∧ w = w' := by
  unfold maxLen at hs
  have hlen : s.data.toList.length = s.size := by simp
  have Hn : Hid (nmOk s.data.toList = (decide (1 ≤ s.size ∧ s.size ≤ 16) && s.data.toList.all fun c => chOk c.toNat)) := by
    show _ = _
    unfold nmOk
    rw [hlen]
  go_enter Tryz.func68, Tryz.ntmps68
  go_wp2_with fail
  go_loopw [3, 4] (fun i _ wr => ∃ k : Nat, k ≤ s.size ∧ i = .int .i64 (k : Int) ∧ ((s.data.toList.take k).all fun c => chOk c.toNat) = true ∧ wr = w) (fun i _ _ => s.size - (intOf i).toNat)
  case atStart => exact ⟨0, Nat.zero_le _, rfl, rfl, rfl⟩
  case round =>
    obtain ⟨k, hk, rfl, hall, rfl⟩ := hrel
    by_cases hlt : k < s.size
    · have hts : s.data.toList.take (k + 1) = s.data.toList.take k ++ [s[k]] := by
        rw [List.take_succ_eq_append_getElem (by simpa using hlt)]; rfl
      have Ha : Hid (((s.data.toList.take (k + 1)).all fun c => chOk c.toNat) = chOk s[k].toNat) := by
        show _ = _
        rw [hts, List.all_append, hall]; simp
      have Hf : Hid (chOk s[k].toNat = false → (s.data.toList.all fun c => chOk c.toNat) = false) := by
        intro hf
        rw [List.all_eq_false]
        exact ⟨s[k], by have : s[k] = s.data.toList[k]'(by simpa using hlt) := rfl
                        rw [this]; exact List.getElem_mem _, by simp [hf]⟩
      clear hts hall
      go_upto_region 5 with fail
      go_cut [36] from 14 to 36 (fun v wx => v = .bool (!chOk s[k].toNat) ∧ wx = wr)
      case first =>
        clear Ha Hf Hn
        generalize s[k].toNat = cc at *
        by_cases g1 : 97 ≤ cc
        · by_cases g2 : cc ≤ 122
          · have f1 : decide ((97 : Int) ≤ (cc : Int)) = true := by simp <;> omega
            have f2 : decide ((cc : Int) ≤ 122) = true := by simp <;> omega
            have Hv := Lib.hid (show chOk cc = true by unfold chOk; simp <;> omega)
            clear g1 g2
            go_wp2
            go_meet
            case rel => exact ⟨congrArg Value.bool (by rw [Hv.out]; rfl), rfl⟩
          · have g3 : 48 ≤ cc := by omega
            have f1 : decide ((97 : Int) ≤ (cc : Int)) = true := by simp <;> omega
            have f2 : decide ((cc : Int) ≤ 122) = false := by simp <;> omega
            have f3 : decide ((48 : Int) ≤ (cc : Int)) = true := by simp <;> omega
            have f4 : decide ((cc : Int) ≤ 57) = false := by simp <;> omega
            have f5 : ((cc : Int) == 46) = false := by simp <;> omega
            have f6 : ((cc : Int) == 45) = false := by simp <;> omega
            have Hv := Lib.hid (show chOk cc = false by unfold chOk; simp <;> omega)
            clear g1 g2 g3
            go_wp2
            go_meet
            case rel => exact ⟨congrArg Value.bool (by rw [Hv.out]; rfl), rfl⟩
        · by_cases g3 : 48 ≤ cc
          · by_cases g4 : cc ≤ 57
            · have f1 : decide ((97 : Int) ≤ (cc : Int)) = false := by simp <;> omega
              have f3 : decide ((48 : Int) ≤ (cc : Int)) = true := by simp <;> omega
              have f4 : decide ((cc : Int) ≤ 57) = true := by simp <;> omega
              have Hv := Lib.hid (show chOk cc = true by unfold chOk; simp <;> omega)
              clear g1 g3 g4
              go_wp2
              go_meet
              case rel => exact ⟨congrArg Value.bool (by rw [Hv.out]; rfl), rfl⟩
            · have f1 : decide ((97 : Int) ≤ (cc : Int)) = false := by simp <;> omega
              have f3 : decide ((48 : Int) ≤ (cc : Int)) = true := by simp <;> omega
              have f4 : decide ((cc : Int) ≤ 57) = false := by simp <;> omega
              have f5 : ((cc : Int) == 46) = false := by simp <;> omega
              have f6 : ((cc : Int) == 45) = false := by simp <;> omega
              have Hv := Lib.hid (show chOk cc = false by unfold chOk; simp <;> omega)
              clear g1 g3 g4
              go_wp2
              go_meet
              case rel => exact ⟨congrArg Value.bool (by rw [Hv.out]; rfl), rfl⟩
          · by_cases g5 : cc = 46
            · have f1 : decide ((97 : Int) ≤ (cc : Int)) = false := by simp <;> omega
              have f3 : decide ((48 : Int) ≤ (cc : Int)) = false := by simp <;> omega
              have f5 : ((cc : Int) == 46) = true := by simp <;> omega
              have Hv := Lib.hid (show chOk cc = true by unfold chOk; simp <;> omega)
              clear g1 g3 g5
              go_wp2
              go_meet
              case rel => exact ⟨congrArg Value.bool (by rw [Hv.out]; rfl), rfl⟩
            · by_cases g6 : cc = 45
              · have f1 : decide ((97 : Int) ≤ (cc : Int)) = false := by simp <;> omega
                have f3 : decide ((48 : Int) ≤ (cc : Int)) = false := by simp <;> omega
                have f5 : ((cc : Int) == 46) = false := by simp <;> omega
                have f6 : ((cc : Int) == 45) = true := by simp <;> omega
                have Hv := Lib.hid (show chOk cc = true by unfold chOk; simp <;> omega)
                clear g1 g3 g5 g6
                go_wp2
                go_meet
                case rel => exact ⟨congrArg Value.bool (by rw [Hv.out]; rfl), rfl⟩
              · have f1 : decide ((97 : Int) ≤ (cc : Int)) = false := by simp <;> omega
                have f3 : decide ((48 : Int) ≤ (cc : Int)) = false := by simp <;> omega
                have f5 : ((cc : Int) == 46) = false := by simp <;> omega
                have f6 : ((cc : Int) == 45) = false := by simp <;> omega
                have Hv := Lib.hid (show chOk cc = false by unfold chOk; simp <;> omega)
                clear g1 g3 g5 g6
                go_wp2
                go_meet
                case rel => exact ⟨congrArg Value.bool (by rw [Hv.out]; rfl), rfl⟩
      case rest =>
        obtain ⟨rfl, rfl⟩ := hcut
        cases hb : chOk s[k].toNat
        · have Hr := Lib.hid (show nmOk s.data.toList = false by rw [Hn.out, Hf.out hb, Bool.and_false])
          clear hb Ha Hf Hn
          go_wp2
          go_ret
          exact ⟨ret_bool Hr.out.symm, rfl⟩
        · have Ha := Lib.hid (Ha.out.trans hb)
          clear hb Hf
          go_wp2
          go_roundw
          case rel => exact ⟨k + 1, by omega, by go_num, Ha.out, by trivial⟩
          case measure => simp [intOf]; omega
    · have hkn : k = s.size := by omega
      subst hkn
      rw [List.take_of_length_le (by simp)] at hall
      have Hr := Lib.hid (show nmOk s.data.toList = decide (1 ≤ s.size ∧ s.size ≤ 16) by rw [Hn.out, hall, Bool.and_true])
      clear hall Hn
      by_cases h1 : 1 ≤ s.size
      · by_cases h2 : s.size ≤ 16
        · go_wp2
          go_ret
          exact ⟨ret_bool (by rw [Hr.out]; simp [h1, h2] <;> omega), rfl⟩
        · go_wp2
          go_ret
          exact ⟨ret_bool (by rw [Hr.out]; simp [h2] <;> omega), rfl⟩
      · go_wp2
        go_ret
        exact ⟨ret_bool (by rw [Hr.out]; simp [h1] <;> omega), rfl⟩

section
variable {w : World} {rp : Nat} {t : St} {O : Nat → Prop} {a : Option Addr} {c : Nat} {es : List REnt}
theorem RdC.len_ (h : RdC w rp t O a c es) : es.length ≤ 64 := by
  have h1 := h.good.size_
  rw [h.D_, rD_size] at h1
  exact h1
theorem sum_take_le (es : List REnt) : ∀ k, ((es.take k).map fun e => e.bs.length).sum ≤ (es.map fun e => e.bs.length).sum := by
  induction es with
  | nil => intro k; simp
  | cons e es ih =>
    intro k
    cases k with
    | zero => simp
    | succ k => have := ih k; simp only [List.take_succ_cons, List.map_cons, List.sum_cons]; omega
set_option linter.unusedSimpArgs false in
set_option maxRecDepth 100000 in
set_option maxHeartbeats 1600000 in
theorem rused_any (h : RdC w rp t O a c es) : Calls Tryz.prog 19 #[.pointer (some ⟨rp, 0, none⟩)] w fun e w' => e = .returned (.int .i64 ((tot t.D : Nat) : Int)) ∧ w = w' := by
  have c1 := h.cell.2.1
  have hcap := h.len_
  have HT : Hid (tot t.D = (es.map fun e => e.bs.length).sum) := by show _ = _; rw [h.D_, rD_tot]
  have hmx : (es.map fun e => e.bs.length).sum ≤ 1048576 := by
    have h1 := h.good.tot_
    have h2 := h.good.room_
    rw [HT.out] at h1
    omega
  have HS := Lib.hid (And.intro (sum_take_le es) hmx)
  have HH := Lib.hid h
  clear h hmx
  obtain ⟨n, hn⟩ : ∃ n, n = es.length := ⟨_, rfl⟩
  rw [← hn] at c1 hcap
  have HN := Lib.hid hn
  clear hn
  go_enter Tryz.func19, Tryz.ntmps19
  go_wp2_with fail
  go_loopw [3, 4] (fun v i wr => ∃ (k u : Nat), k ≤ n ∧ i = .int .i64 (k : Int) ∧ v = .int .i64 (u : Int) ∧ u = ((es.take k).map fun e => e.bs.length).sum ∧ wr = w) (fun _ i _ => n - (intOf i).toNat)
  case atStart => exact ⟨0, 0, Nat.zero_le _, rfl, rfl, by simp, rfl⟩
  case round =>
    obtain ⟨k, u, hk, rfl, rfl, hu, rfl⟩ := hrel
    by_cases hlt : k < n
    · obtain ⟨g, hg, _, _, _, _, _, hc⟩ := HH.out.at_ (by have := HN.out; omega)
      subst hg
      have hke : k < es.length := by have := HN.out; omega
      have q1 := (hc k es[k] (List.getElem?_eq_getElem hke)).2.1
      have hst : ((es.take (k + 1)).map fun e => e.bs.length).sum = u + es[k].bs.length := by rw [List.take_succ_eq_append_getElem hke, List.map_append, List.sum_append, ← hu]; simp only [List.map_cons, List.map_nil, List.sum_cons, List.sum_nil, Nat.add_zero]
      have hle := HS.out.1 (k + 1)
      have hle2 := HS.out.2
      rw [hst] at hle
      obtain ⟨e0, he0⟩ : ∃ e0, e0 = es[k] := ⟨_, rfl⟩
      rw [← he0] at q1 hst hle
      obtain ⟨m, hm⟩ : ∃ m, m = e0.bs.length := ⟨_, rfl⟩
      rw [← hm] at q1 hst hle
      have hw : IntKind.i64.wrap ((u : Int) + (m : Int)) = ((u + m : Nat) : Int) := by rw [IntKind.wrap_i64]; omega
      have Hst := Lib.hid hst
      clear hc hu he0 hke hm hst
      go_wp2
      go_roundw
      case rel => exact ⟨k + 1, u + m, by omega, by go_num, rfl, Hst.out.symm, by trivial⟩
      case measure => simp [intOf]; omega
    · have hkn : k = n := by omega
      have Hu := Lib.hid (show u = tot t.D by rw [hu, List.take_of_length_le (by have := HN.out; omega), HT.out])
      clear hu
      go_wp2
      go_ret
      exact ⟨ret_i64 (by rw [Hu.out]), rfl⟩
theorem RdC.here (h : RdC w rp t O a c es) {s : List UInt8} (hi : ridx es s < es.length) : ∃ e g, es[ridx es s]? = some e ∧ fat t.D s = some e.fl ∧ a = some ⟨g, 0, none⟩ ∧ g < w.heap.size ∧ w.cell? ⟨g, ridx es s * 3, none⟩ = some (.string ⟨e.s.toArray⟩) ∧ w.cell? ⟨g, ridx es s * 3 + 1, none⟩ = some (.slice e.a e.bs.length e.c) ∧ w.cell? ⟨g, ridx es s * 3 + 2, none⟩ = some (.int .i64 (e.l : Int)) ∧ Sl w w.heap.size e.a e.bs.length e.c e.bs := by
  obtain ⟨g, hg, _, _, hlt, _, _, hc⟩ := h.at_ (by omega)
  have he := List.getElem?_eq_getElem hi
  obtain ⟨q0, q1, q2⟩ := hc _ _ he
  refine ⟨_, g, he, ?_, hg, hlt, q0, q1, q2, (h.bytes _ (List.mem_of_getElem? he)).1⟩
  rw [h.D_, ridx_fat, he]
  rfl
theorem RdC.gone_ (h : RdC w rp t O a c es) {s : List UInt8} (hi : ¬ ridx es s < es.length) : fat t.D s = none := by
  rw [h.D_, ridx_fat, List.getElem?_eq_none (by omega)]
  rfl
set_option maxRecDepth 100000 in
theorem rsynced_any (h : RdC w rp t O a c es) (s : ByteArray) : Calls Tryz.prog 21 #[.pointer (some ⟨rp, 0, none⟩), .string s] w fun e w' => e = .returned (.int .i64 (((fat t.D s.data.toList).getD Fl.zero).l : Int)) ∧ w = w' := by
  have AT := rat_any h s
  have c1 := h.cell.2.1
  have hcap := h.len_
  by_cases hi : ridx es s.data.toList < es.length
  · obtain ⟨e, g, _, hf, hg, _, _, _, q2, _⟩ := h.here hi
    subst hg
    rw [hf]
    unfold ratI at AT
    rw [if_pos hi] at AT
    generalize ridx es s.data.toList = k at *
    have AT := Lib.hid AT
    obtain ⟨n, hn⟩ : ∃ n, n = es.length := ⟨_, rfl⟩
    rw [← hn] at c1 hi hcap
    clear h hn
    go_enter Tryz.func21, Tryz.ntmps21
    go_wp2_with fail
    refine AT.out.mono ?_
    rintro e1 w1 ⟨rfl, rfl⟩
    go_wp2
    go_ret
    exact ⟨rfl, rfl⟩
  · rw [h.gone_ hi]
    unfold ratI at AT
    rw [if_neg hi] at AT
    have AT := Lib.hid AT
    clear h
    go_enter Tryz.func21, Tryz.ntmps21
    go_wp2_with fail
    refine AT.out.mono ?_
    rintro e1 w1 ⟨rfl, rfl⟩
    go_wp2
    go_ret
    exact ⟨rfl, rfl⟩
set_option maxRecDepth 100000 in
set_option maxHeartbeats 1600000 in
theorem rread1_any (h : RdC w rp t O a c es) (s : ByteArray) : Calls Tryz.prog 47 #[.pointer (some ⟨rp, 0, none⟩), .string s] w (NewBytes w ((fat t.D s.data.toList).getD Fl.zero).bs (fat t.D s.data.toList).isSome) := by
  have AT := rat_any h s
  have c1 := h.cell.2.1
  have hcap := h.len_
  by_cases hi : ridx es s.data.toList < es.length
  · obtain ⟨e, g, _, hf, hg, hgl, _, q1, _, hs⟩ := h.here hi
    subst hg
    have hbl : e.bs.length ≤ 1048576 := by
      have h1 := (h.good.at_ hf).2.2.2
      have h2 := h.good.tot_
      have h3 := h.good.room_
      exact Nat.le_trans h1 (Nat.le_trans h2 h3)
    have hrl := block_lt_of_cell c1
    rw [hf]
    unfold ratI at AT
    rw [if_pos hi] at AT
    generalize ridx es s.data.toList = k at *
    have AT := Lib.hid AT
    obtain ⟨n, hn⟩ : ∃ n, n = es.length := ⟨_, rfl⟩
    rw [← hn] at c1 hi hcap
    show Calls _ _ _ _ (NewBytes w e.bs true)
    obtain ⟨m, hm⟩ : ∃ m, m = e.bs.length := ⟨_, rfl⟩
    rw [← hm] at q1 hs hbl
    have Hm := Lib.hid hm
    have hB : Below w.heap.size w (w.alloc (.cells #[] 5)) := (Below.refl _ _).alloc (Nat.le_refl _) _
    have k1 := (hB.cell (p := ⟨rp, 1, none⟩) hrl).trans c1
    have k2 := (hB.cell (p := ⟨g, k * 3 + 1, none⟩) hgl).trans q1
    have hown : OwnB (w.alloc (.cells #[] 5)) w.heap.size 5 (.slice (some ⟨w.heap.size, 0, none⟩) 0 0) [] := OwnB.lit _ [] (Nat.le_refl _) (by decide)
    have H4 := Lib.hid (And.intro hown (hs.below hB (Nat.le_refl _)))
    clear h hn hf hm hown hs hB c1 q1
    go_enter Tryz.func47, Tryz.ntmps47
    go_wp2_with fail
    refine AT.out.mono ?_
    rintro e1 w1 ⟨rfl, rfl⟩
    go_wp2_with (first
      | (at_builtin; refine wpList_append_sl rfl _ _ 32 rfl w.heap.size _ Tryz.underlying32 info_u8 (.slice (some ⟨w.heap.size, 0, none⟩) 0 0) [] rfl H4.out.1 _ e.a m e.c e.bs rfl H4.out.2 (by simp; omega) (by simp) ?_; intro v5 w5 ho5 hg5 hat5; rw [List.nil_append] at ho5; have hB5 : Below w.heap.size w w5 := ((Below.refl _ w).alloc (Nat.le_refl _) (.cells #[] 5)).grown hg5 (by simp) (fun k hk => by simp [Value.ownBlock] at hk; omega); have H5 := Lib.hid (And.intro ho5 hB5); clear ho5 hB5 hg5 hat5)
      | fail)
    obtain ⟨a5, c5, hv5⟩ : ∃ a5 c5, v5 = .slice a5 e.bs.length c5 := by
      rcases H5.out.1.2 with ⟨h1, h2⟩ | ⟨g1, cap1, _, h1, _⟩
      · exact ⟨none, 0, by rw [h1, h2]⟩
      · exact ⟨_, cap1, h1⟩
    subst hv5
    go_wp2
    go_ret2
    exact ⟨a5, c5, rfl, H5.out.1, H5.out.2⟩
  · rw [h.gone_ hi]
    unfold ratI at AT
    rw [if_neg hi] at AT
    have AT := Lib.hid AT
    clear h
    go_enter Tryz.func47, Tryz.ntmps47
    go_wp2_with fail
    refine AT.out.mono ?_
    rintro e1 w1 ⟨rfl, rfl⟩
    go_wp2
    go_ret2
    exact ⟨none, 0, rfl, OwnB.nil_ _ _ _, Below.refl _ _⟩
end
end
section
open Go.RowKit
open Go.Maps
attribute [local go_sem] Oper.semAt_some

/-- A slice of files whose cells are known. -/
structure RFs (w : World) (a : Option Addr) (n c : Nat) (es : List REnt) : Prop where
  len : es.length = n
  le : n ≤ c
  max : c ≤ maxLen
  none_ : a = none → n = 0 ∧ c = 0
  at_ : a ≠ none → ∃ g o, a = some ⟨g, o, none⟩ ∧ g < w.heap.size ∧ ∀ j u, (rcells es)[j]? = some u → w.cell? ⟨g, o + j, none⟩ = some u
/-- v owns these files. -/
def OwnFl (w : World) (base : Nat) (v : Value) (es : List REnt) : Prop := w.ownsRow base 70 3 v es.length (rcells es)
theorem info_file : (Tryz.prog.info? 70).map (fun i => (i.zero, i.size, i.bytes)) = some (some (.agg #[.string ⟨#[]⟩, .slice none 0 0, .int .i64 0]), 3, 48) := by kernel_rfl
theorem rcells_one (es : List REnt) : ∀ u ∈ rcells es, u.oneCell' = true := by
  intro u hu
  obtain ⟨e, _, he⟩ := List.mem_flatMap.1 hu
  simp [REnt.cells] at he
  rcases he with rfl | rfl | rfl <;> rfl
theorem OwnFl.rfs {w : World} {base : Nat} {a : Option Addr} {n c : Nat} {es : List REnt} (h : OwnFl w base (.slice a n c) es) : RFs w a n c es := by
  rcases h.2 with ⟨h1, h0⟩ | ⟨g, cap, cur, e, h1, h2, hn, hc, hsz, htk⟩
  · injection h1 with e1 e2 e3
    subst e1 e2 e3
    exact ⟨h0, Nat.le_refl _, by simp [maxLen], fun _ => ⟨rfl, rfl⟩, fun hne => absurd rfl hne⟩
  · injection e with e1 e2 e3
    subst e1 e2 e3
    refine ⟨rfl, hn, hc, (fun e => by cases e), fun _ => ⟨g, 0, rfl, lt_of_heap h2, fun j u hj => ?_⟩⟩
    have hj' := (List.getElem?_eq_some_iff.1 hj).1
    rw [rcells_len] at hj'
    rw [Nat.zero_add, World.ownsRow.cellAt h j (by omega), hj]
theorem OwnFl.form {w : World} {base : Nat} {v : Value} {es : List REnt} (h : OwnFl w base v es) : ∃ a c, v = .slice a es.length c := by
  rcases h.2 with ⟨h1, h0⟩ | ⟨g, cap, cur, e, _⟩
  · exact ⟨none, 0, by rw [h1, h0]⟩
  · exact ⟨_, cap, e⟩
theorem OwnFl.at_base {w : World} {base : Nat} {v : Value} {es : List REnt} (h : OwnFl w base v es) {b : Nat} (hb : v.ownBlock = some b) : base ≤ b ∧ b < w.heap.size := by
  rcases h.2 with ⟨rfl, _⟩ | ⟨g, cap, cur, rfl, h2, h3, _⟩
  · cases hb
  · injection hb with hb
    subst hb
    exact ⟨h2, lt_of_heap h3⟩
theorem RFs.below {w w' : World} {a : Option Addr} {n c : Nat} {es : List REnt} (h : RFs w a n c es) (hb : Below w.heap.size w w') : RFs w' a n c es :=
  ⟨h.len, h.le, h.max, h.none_, fun hne => by
    obtain ⟨g, o, e, hlt, hc⟩ := h.at_ hne
    exact ⟨g, o, e, Nat.lt_of_lt_of_le hlt hb.size, fun j u hj => (hb.cell (p := ⟨g, o + j, none⟩) hlt).trans (hc j u hj)⟩⟩
theorem RFs.take {w : World} {a : Option Addr} {n c : Nat} {es : List REnt} (h : RFs w a n c es) {k : Nat} (hk : k ≤ n) : RFs w a k c (es.take k) :=
  ⟨by rw [List.length_take, h.len]; omega, Nat.le_trans hk h.le, h.max, fun e => by have := h.none_ e; omega, fun hne => by
    obtain ⟨g, o, e, hlt, hc⟩ := h.at_ hne
    refine ⟨g, o, e, hlt, fun j u hj => hc j u ?_⟩
    have e2 : rcells es = rcells (es.take k) ++ rcells (es.drop k) := by rw [← rcells_append, List.take_append_drop]
    rw [e2, List.getElem?_append_left (List.getElem?_eq_some_iff.1 hj).1]
    exact hj⟩
def fromA3 (a : Option Addr) (c k : Nat) : Option Addr := if c = k then a else a.map (·.add (k * 3))
theorem RFs.from_ {w : World} {a : Option Addr} {n c : Nat} {es : List REnt} (h : RFs w a n c es) {k : Nat} (hk : k ≤ n) : RFs w (fromA3 a c k) (n - k) (c - k) (es.drop k) := by
  have hle := h.le
  refine ⟨by rw [List.length_drop, h.len], by omega, by have := h.max; omega, fun e => ?_, fun hne => ?_⟩
  · unfold fromA3 at e
    split at e
    · have := h.none_ e; omega
    · cases a with
      | none => have := h.none_ rfl; omega
      | some ad => simp at e
  · by_cases hck : c = k
    · unfold fromA3 at hne ⊢
      rw [if_pos hck] at hne ⊢
      obtain ⟨g, o, e, hlt, _⟩ := h.at_ hne
      refine ⟨g, o, e, hlt, fun j u hj => ?_⟩
      rw [List.drop_of_length_le (by rw [h.len]; omega)] at hj
      simp [rcells] at hj
    · unfold fromA3 at hne ⊢
      rw [if_neg hck] at hne ⊢
      have hne' : a ≠ none := fun e => hne (by rw [e]; rfl)
      obtain ⟨g, o, e, hlt, hc⟩ := h.at_ hne'
      subst e
      refine ⟨g, o + k * 3, by show some (Addr.add ⟨g, o, none⟩ (k * 3)) = _; rw [Addr.add_mid], hlt, fun j u hj => ?_⟩
      rw [Nat.add_assoc]
      refine hc (k * 3 + j) u ?_
      have e2 : rcells es = rcells (es.take k) ++ rcells (es.drop k) := by rw [← rcells_append, List.take_append_drop]
      have e3 : (rcells (es.take k)).length = k * 3 := by rw [rcells_len, List.length_take, h.len, Nat.min_eq_left hk]
      rw [e2, List.getElem?_append_right (by omega), e3, Nat.add_sub_cancel_left]
      exact hj
section
variable {P : Program} (t e : TypeId) (ht : P.underlying t = some (.slice e)) {z : Value} {by_ : Nat} (hi : (P.info? e).map (fun i => (i.zero, i.size, i.bytes)) = some (some z, 3, by_))
include ht hi
theorem run_cut3_to (a : Option Addr) (len cap k : Nat) (hk : k ≤ cap) (w : World) :
    (Instr.slice t (.slice a len cap) none (some (.int .i64 (k : Int))) none).run P w = .ok (.slice a k cap) w := by
  obtain ⟨i, hi, _, hz1, _⟩ := info_parts hi
  have hs : (sizeOf e).run P w = .ok 3 w := by simp [sizeOf, typeInfo, hi, hz1]
  have ht' : P.underlying t = some (.slice (P.elem t)) := by simp [Program.elem, ht]
  have he : P.elem t = e := by simp [Program.elem, ht]
  rw [run_slice_h w t _ _ _ ht' .i64 _ (by omega) (by omega), he, hs]
  have ha : a.map (fun x => x.add 0) = a := by cases a <;> simp [Addr.add]
  simp [Result.andThen, sliced, ha]
theorem run_cut3_from (a : Option Addr) (len cap k : Nat) (hk : k ≤ len) (w : World) :
    (Instr.slice t (.slice a len cap) (some (.int .i64 (k : Int))) none none).run P w = .ok (.slice (fromA3 a cap k) (len - k) (cap - k)) w := by
  obtain ⟨i, hi, _, hz1, _⟩ := info_parts hi
  have hs : (sizeOf e).run P w = .ok 3 w := by simp [sizeOf, typeInfo, hi, hz1]
  have ht' : P.underlying t = some (.slice (P.elem t)) := by simp [Program.elem, ht]
  have he : P.elem t = e := by simp [Program.elem, ht]
  rw [run_slice_l w t _ _ _ ht' .i64 _ (by omega) (by omega), he, hs]
  simp [Result.andThen, sliced, fromA3]
end
/-- 'append(v, x...)' of files onto files of the call's own, at a step of a region that draws its order. -/
theorem wp_append_files {w : World} {o : Oper} {a : Act} {K : Act → World → Prop} {Q : Exit → Act → World → Prop} (s x : Operand)
    (ho : o.op = .call { callee := .builtin .append, args := #[s, x], argTypes := #[55, 55] })
    (base : Nat) (v : Value) (es : List REnt) (hs : a.eval s = v) (hown : OwnFl w base v es)
    (A : Option Addr) (m c : Nat) (es2 : List REnt) (hx : a.eval x = .slice A m c) (hc : RFs w A m c es2)
    (hbytes : es.length + m ≤ 1000) (hbase : base ≤ w.heap.size)
    (h : ∀ v' w', OwnFl w' base v' (es ++ es2) → w.grownBy w' v.ownBlock → K (a.put o.dst v') w') :
    o.wp Tryz.prog a w K Q := by
  obtain ⟨i, hi, hz0, hz1, hz2⟩ := info_parts info_file
  have hl2 := hc.len
  have hfin : ∀ v' w', w'.ownsRow base 70 3 v' (es.length + m) (rcells es ++ rcells es2) → OwnFl w' base v' (es ++ es2) := fun v' w' h1 => by
    unfold OwnFl
    rw [rcells_append, List.length_append, hl2]
    exact h1
  cases A with
  | none =>
    obtain ⟨hm0, hc0⟩ := hc.none_ rfl
    subst hc0 hm0
    have hcs : es2 = [] := List.eq_nil_of_length_eq_zero hl2
    subst hcs
    have hrun := run_append_owned_none (P := Tryz.prog) (w := w) base 55 o.type 70 i 3 Tryz.underlying55 hi v es.length (rcells es) hown
    unfold Oper.wp
    simp [execOp, ho, resolve, invoke, builtin, hs, hx, hrun, Result.andThen]
    exact h v w (by simpa using hown) (World.grownBy.refl w _)
  | some ad =>
    obtain ⟨g, off, e, _, hcc⟩ := hc.at_ (by simp)
    injection e with e
    subst e
    obtain ⟨v', w', hr, h1, h2, _⟩ := run_append_own (P := Tryz.prog) w base 55 o.type 70 i _ 3 48 Tryz.underlying55 hi hz0 hz1 hz2 rfl (by decide) v es.length (rcells es) hown ⟨g, off, none⟩ m c (rcells es2) (by rw [rcells_len, hl2])
      (fun j u hj => by rw [Addr.add_mid]; exact hcc j u hj) (rcells_one es2) (by unfold maxLen; omega) (by omega) hbase
    unfold Oper.wp execOp
    simp only [ho, resolve, invoke, builtin, Sem.run_bind, Sem.run_pure, Result.andThen_ok, List.map_toArray, List.map_cons, List.map_nil, hs, hx, hr]
    exact h v' w' (hfin _ _ h1) h2
theorem OwnFl.none_lit (w : World) (base : Nat) (hb : base ≤ w.heap.size) : OwnFl (w.alloc (.cells #[] 70)) base (.slice (some ⟨w.heap.size, 0, none⟩) 0 0) [] := by
  have := World.ownsRow_lit (base := base) (e := 70) (size := 3) w #[] 0 hb (by simp [maxLen]) (by simp)
  simpa [OwnFl, rcells] using this
set_option linter.unusedSimpArgs false in
set_option maxRecDepth 100000 in
set_option maxHeartbeats 3200000 in
/-- The files but for one. -/
theorem rwithout_any (es : List REnt) (a : Option Addr) (n c i : Nat) (w : World) (h : RFs w a n c es) (hi : i < n) (hn : n ≤ 64) :
    Calls Tryz.prog 69 #[.slice a n c, .int .i64 (i : Int)] w fun e w' => ∃ v, e = .returned v ∧ OwnFl w' w.heap.size v (es.take i ++ es.drop (i + 1)) ∧ Below w.heap.size w w' := by
  have hcap := h.le
  obtain ⟨p, hp⟩ : ∃ p, p = i + 1 := ⟨_, rfl⟩
  have w8 : IntKind.i64.wrap ((i : Int) + 1) = (p : Int) := by rw [IntKind.wrap_i64]; omega
  have kc1 : ∀ x, (Instr.slice 55 (.slice a n c) none (some (.int .i64 (i : Int))) none).run Tryz.prog x = .ok (.slice a i c) x := run_cut3_to (P := Tryz.prog) 55 70 Tryz.underlying55 info_file a n c i (by omega)
  obtain ⟨a2, ha2⟩ : ∃ a2, a2 = fromA3 a c p := ⟨_, rfl⟩
  obtain ⟨n2, hn2⟩ : ∃ n2, n2 = n - p := ⟨_, rfl⟩
  obtain ⟨c2, hc2⟩ : ∃ c2, c2 = c - p := ⟨_, rfl⟩
  have kc2 : ∀ x, (Instr.slice 55 (.slice a n c) (some (.int .i64 (p : Int))) none none).run Tryz.prog x = .ok (.slice a2 n2 c2) x := fun x => by
    have := run_cut3_from (P := Tryz.prog) 55 70 Tryz.underlying55 info_file a n c p (by omega) x
    rw [this, ha2, hn2, hc2]
  have HA := Lib.hid (h.take (k := i) (by omega))
  have HB0 := h.from_ (k := p) (by omega)
  rw [← ha2, ← hn2, ← hc2] at HB0
  have HB := Lib.hid HB0
  have hl1 : (es.take i).length = i := by rw [List.length_take, h.len]; omega
  have hn3 : i + n2 ≤ 64 := by omega
  rw [← hp]
  have HP := Lib.hid (And.intro hl1 hn3)
  clear h HB0 ha2 hn2 hc2 hp hl1
  go_enter Tryz.func69, Tryz.ntmps69
  go_upto_region 1 with fail
  refine wp_region_held_drew (S := fun x => Below w.heap.size w x) (by kernel_rfl) (Below.drew (Below.refl _ _)) (fun hHeld => ?_)
  refine wpAnyH_take (i := 1) (v := ?_) rfl (by kernel_rfl) (by kernel_rfl) (by kernel_rfl) (fun _ _ _ h => h) (Or.inl ⟨by rfl, ?_⟩) (by assumption) ?_
  rotate_left
  · intro w hSw
    (try dsimp only at hSw)
    go_simp
    all_goals with_reducible rfl
  try simp only [Act.put, List.getElem_toArray, List.getElem_cons_succ, List.getElem_cons_zero, List.setIfInBounds_toArray, List.set_cons_zero, List.set_cons_succ]
  refine wpAnyH_take (i := 2) (v := ?_) rfl (by kernel_rfl) (by kernel_rfl) (by kernel_rfl) (fun _ _ _ h => h) (Or.inl ⟨by rfl, ?_⟩) (by assumption) ?_
  rotate_left
  · intro w hSw
    (try dsimp only at hSw)
    go_simp
    all_goals with_reducible rfl
  try simp only [Act.put, List.getElem_toArray, List.getElem_cons_succ, List.getElem_cons_zero, List.setIfInBounds_toArray, List.set_cons_zero, List.set_cons_succ]
  refine wpAnyH_take (i := 3) (v := ?_) rfl (by kernel_rfl) (by kernel_rfl) (by kernel_rfl) (fun _ _ _ h => h) (Or.inl ⟨by rfl, ?_⟩) (by assumption) ?_
  rotate_left
  · intro w hSw
    (try dsimp only at hSw)
    go_simp
    all_goals with_reducible rfl
  try simp only [Act.put, List.getElem_toArray, List.getElem_cons_succ, List.getElem_cons_zero, List.setIfInBounds_toArray, List.set_cons_zero, List.set_cons_succ]
  refine wpAnyH_take (i := 5) (v := ?_) rfl (by kernel_rfl) (by kernel_rfl) (by kernel_rfl) (fun _ _ _ h => h) (Or.inl ⟨by rfl, ?_⟩) (by assumption) ?_
  rotate_left
  · intro w hSw
    (try dsimp only at hSw)
    go_simp
    all_goals with_reducible rfl
  try simp only [Act.put, List.getElem_toArray, List.getElem_cons_succ, List.getElem_cons_zero, List.setIfInBounds_toArray, List.set_cons_zero, List.set_cons_succ]
  refine wpAnyH_take (i := 6) (v := ?_) rfl (by kernel_rfl) (by kernel_rfl) (by kernel_rfl) (fun _ _ _ h => h) (Or.inl ⟨by rfl, ?_⟩) (by assumption) ?_
  rotate_left
  · intro w hSw
    (try dsimp only at hSw)
    go_simp
    all_goals with_reducible rfl
  try simp only [Act.put, List.getElem_toArray, List.getElem_cons_succ, List.getElem_cons_zero, List.setIfInBounds_toArray, List.set_cons_zero, List.set_cons_succ]
  refine wpAnyH_take (i := 7) (v := ?_) rfl (by kernel_rfl) (by kernel_rfl) (by kernel_rfl) (fun _ _ _ h => h) (Or.inl ⟨by rfl, ?_⟩) (by assumption) ?_
  rotate_left
  · intro w hSw
    (try dsimp only at hSw)
    go_simp
    all_goals with_reducible rfl
  try simp only [Act.put, List.getElem_toArray, List.getElem_cons_succ, List.getElem_cons_zero, List.setIfInBounds_toArray, List.set_cons_zero, List.set_cons_succ]
  refine wpAnyH_take (i := 8) (v := ?_) rfl (by kernel_rfl) (by kernel_rfl) (by kernel_rfl) (fun _ _ _ h => h) (Or.inl ⟨by rfl, ?_⟩) (by assumption) ?_
  rotate_left
  · intro w hSw
    (try dsimp only at hSw)
    go_simp
    all_goals with_reducible rfl
  try simp only [Act.put, List.getElem_toArray, List.getElem_cons_succ, List.getElem_cons_zero, List.setIfInBounds_toArray, List.set_cons_zero, List.set_cons_succ]
  refine wpAnyH_ready (rs := [0]) (by kernel_rfl) (by simp) ?_
  refine AllReadyH.cons rfl (fun K hK => ?_) AllReadyH.nil
  go_simp
  have hB1 : Below w.heap.size w (w.drew.alloc (.cells #[] 70)) := (Below.drew (Below.refl _ _)).alloc (Nat.le_refl _) _
  have hown1 : OwnFl (w.drew.alloc (.cells #[] 70)) w.heap.size (.slice (some ⟨w.heap.size, 0, none⟩) 0 0) [] := OwnFl.none_lit w.drew w.heap.size (Nat.le_refl _)
  refine hK.out _ _ ?_ (fun hHeld => ?_)
  · exact hB1
  clear hK K
  try simp only [Act.put, List.getElem_toArray, List.getElem_cons_succ, List.getElem_cons_zero, List.setIfInBounds_toArray, List.set_cons_zero, List.set_cons_succ]
  refine wpAnyH_ready (rs := [4]) (by kernel_rfl) (by simp) ?_
  refine AllReadyH.cons rfl (fun K hK => ?_) AllReadyH.nil
  refine wp_append_files (.tmp 5) (.tmp 8) rfl w.heap.size (.slice (some ⟨w.heap.size, 0, none⟩) 0 0) [] rfl hown1 a i c (es.take i) rfl (HA.out.below hB1) (by simp; have := HP.out.2; omega) hB1.size ?_
  intro v2 w2 ho2 hg2
  rw [List.nil_append] at ho2
  have hB2 : Below w.heap.size w w2 := hB1.grown hg2 hB1.size (fun k hk => (hown1.at_base hk).1)
  refine hK.out _ _ ?_ (fun hHeld => ?_)
  · exact hB2
  clear hK K
  try simp only [Act.put, List.getElem_toArray, List.getElem_cons_succ, List.getElem_cons_zero, List.setIfInBounds_toArray, List.set_cons_zero, List.set_cons_succ]
  refine wpAnyH_ready (rs := [9]) (by kernel_rfl) (by simp) ?_
  refine AllReadyH.cons rfl (fun K hK => ?_) AllReadyH.nil
  refine wp_append_files (.tmp 9) (.tmp 13) rfl w.heap.size v2 (es.take i) rfl ho2 a2 n2 c2 (es.drop p) rfl (HB.out.below hB2) (by have := HP.out; omega) hB2.size ?_
  intro v3 w3 ho3 hg3
  have hB3 : Below w.heap.size w w3 := hB2.grown hg3 hB2.size (fun k hk => (ho2.at_base hk).1)
  refine hK.out _ _ ?_ (fun hHeld => ?_)
  · exact hB3
  clear hK K
  try simp only [Act.put, List.getElem_toArray, List.getElem_cons_succ, List.getElem_cons_zero, List.setIfInBounds_toArray, List.set_cons_zero, List.set_cons_succ]
  refine wpAnyH_take (i := 10) (v := ?_) rfl (by kernel_rfl) (by kernel_rfl) (by kernel_rfl) (fun _ _ _ h => h) (Or.inl ⟨by rfl, ?_⟩) (by assumption) ?_
  rotate_left
  · intro w hSw
    (try dsimp only at hSw)
    go_simp
    all_goals with_reducible rfl
  try simp only [Act.put, List.getElem_toArray, List.getElem_cons_succ, List.getElem_cons_zero, List.setIfInBounds_toArray, List.set_cons_zero, List.set_cons_succ]
  refine wpAnyH_done (by kernel_rfl) ?_ _
  clear hHeld
  go_wp2
  go_ret
  exact ⟨v3, rfl, ho3, hB3⟩
end
section
open Go.RowKit
open Go.Maps
attribute [local go_sem] Oper.semAt_some

theorem bytesLess_before : ∀ x y : List UInt8, Op.bytesLess x y = bytesBefore x y
  | [], [] => rfl
  | [], _ :: _ => rfl
  | _ :: _, [] => rfl
  | a :: x, b :: y => by
    unfold Op.bytesLess bytesBefore
    rw [bytesLess_before x y]
theorem toList_mk (l : List UInt8) : (⟨l.toArray⟩ : ByteArray).toList = l := by
  have : (⟨l.toArray⟩ : ByteArray).toList = (⟨l.toArray⟩ : ByteArray).data.toList := by simp
  rw [this]
theorem before_asymm : ∀ {x y : List UInt8}, bytesBefore x y = true → bytesBefore y x = false
  | [], [], h => by cases h
  | [], _ :: _, _ => rfl
  | _ :: _, [], h => by cases h
  | a :: x, b :: y, h => by
    simp only [bytesBefore, Bool.or_eq_true, Bool.and_eq_true, decide_eq_true_eq, beq_iff_eq] at h
    simp only [bytesBefore, Bool.or_eq_false_iff, Bool.and_eq_false_iff, decide_eq_false_iff_not, beq_eq_false_iff_ne]
    rcases h with h | ⟨rfl, h⟩
    · have h1 := UInt8.lt_iff_toNat_lt.1 h
      refine ⟨fun h2 => ?_, .inl (fun h2 => ?_)⟩
      · have := UInt8.lt_iff_toNat_lt.1 h2; omega
      · subst h2; omega
    · refine ⟨fun h2 => ?_, .inr (before_asymm h)⟩
      have := UInt8.lt_iff_toNat_lt.1 h2; omega
/-- Where a file of that name goes. -/
def rput : List REnt → List UInt8 → Nat
  | [], _ => 0
  | e :: es, s => if bytesBefore e.s s = true then rput es s + 1 else 0
theorem rput_le : ∀ (es : List REnt) (s : List UInt8), rput es s ≤ es.length
  | [], _ => Nat.le_refl _
  | e :: es, s => by
    unfold rput
    split
    · have := rput_le es s
      simp only [List.length_cons]
      omega
    · exact Nat.zero_le _
theorem rput_skip : ∀ (es : List REnt) (s : List UInt8) (k : Nat), (∀ j e, j < k → es[j]? = some e → bytesBefore e.s s = true) → k ≤ es.length → k ≤ rput es s
  | _, _, 0, _, _ => Nat.zero_le _
  | [], _, k + 1, _, h => by simp at h
  | e :: es, s, k + 1, hj, h => by
    unfold rput
    rw [if_pos (hj 0 e (by omega) rfl)]
    have := rput_skip es s k (fun j x hjk hx => hj (j + 1) x (by omega) hx) (by simpa using h)
    omega
theorem rput_hit : ∀ (es : List REnt) (s : List UInt8) (k : Nat) (e : REnt), (∀ j e, j < k → es[j]? = some e → bytesBefore e.s s = true) → es[k]? = some e → bytesBefore e.s s = false → rput es s = k
  | [], _, k, _, _, h, _ => by simp at h
  | x :: es, s, 0, e, _, h, he => by
    have : x = e := by simpa using h
    subst this
    unfold rput
    rw [if_neg (by rw [he]; decide)]
  | x :: es, s, k + 1, e, hj, h, he => by
    unfold rput
    rw [if_pos (hj 0 x (by omega) rfl), rput_hit es s k e (fun j y hjk hy => hj (j + 1) y (by omega) hy) (by simpa using h) he]
theorem insert_rput : ∀ (es : List REnt) (f : REnt), (∀ e ∈ es, e.s ≠ f.s) → DataW.insert f.ent (es.map REnt.ent) = (es.take (rput es f.s) ++ f :: es.drop (rput es f.s)).map REnt.ent
  | [], f, _ => rfl
  | e :: es, f, hne => by
    have h1 := hne e (by simp)
    by_cases hb : bytesBefore e.s f.s = true
    · have e1 : rput (e :: es) f.s = rput es f.s + 1 := by rw [rput, if_pos hb]
      rw [e1]
      show DataW.insert f.ent (e.ent :: es.map REnt.ent) = _
      unfold DataW.insert
      rw [if_neg (by show ¬ bytesBefore f.s e.s = true; rw [before_asymm hb]; decide), insert_rput es f (fun x hx => hne x (by simp [hx]))]
      rfl
    · have e1 : rput (e :: es) f.s = 0 := by rw [rput, if_neg hb]
      have hb2 : bytesBefore f.s e.s = true := (before_total h1).resolve_left hb
      rw [e1]
      show DataW.insert f.ent (e.ent :: es.map REnt.ent) = _
      unfold DataW.insert
      rw [if_pos (by show bytesBefore f.s e.s = true; exact hb2)]
      rfl
theorem filter_all (es : List REnt) (s : List UInt8) (h : ∀ e ∈ es, e.s ≠ s) : (es.map REnt.ent).filter (fun p => !p.1.sameKey (.string s)) = es.map REnt.ent := by
  rw [List.filter_eq_self]
  intro p hp
  obtain ⟨e, he, rfl⟩ := List.mem_map.1 hp
  have : (Lit.string e.s).sameKey (.string s) = false := sameKey_ne (fun h' => h e he (by injection h'))
  show (!(Lit.string e.s).sameKey (.string s)) = true
  rw [this]
  rfl
/-- A file of a name that isn't there is laid. -/
theorem rD_put (es : List REnt) (f : REnt) (h : ∀ e ∈ es, e.s ≠ f.s) : rD (es.take (rput es f.s) ++ f :: es.drop (rput es f.s)) = (rD es).put (.string f.s) (.held f.fl) := by
  show _ = DataW.map (DataW.insert f.ent ((es.map REnt.ent).filter fun p => !p.1.sameKey (.string f.s)))
  rw [filter_all es f.s h, insert_rput es f h]
  rfl
/-- Names stand once. -/
theorem RdC.once {w : World} {rp : Nat} {t : St} {O : Nat → Prop} {a : Option Addr} {c : Nat} {es : List REnt} (h : RdC w rp t O a c es) : es.Pairwise fun x y => bytesBefore x.s y.s = true := by
  have hc := h.good.canon
  rw [h.D_] at hc
  obtain ⟨l, hl, h1, _⟩ := hc
  injection hl with hl
  subst hl
  exact (List.pairwise_map.1 h1).imp (fun hxy => hxy)
theorem before_ne {x y : List UInt8} (h : bytesBefore x y = true) : x ≠ y := by
  rintro rfl
  have := before_asymm h
  rw [h] at this
  cases this
/-- The files but for one. -/
theorem rD_del : ∀ (es : List REnt) (s : List UInt8), es.Pairwise (fun x y => bytesBefore x.s y.s = true) → ridx es s < es.length → rD (es.take (ridx es s) ++ es.drop (ridx es s + 1)) = (rD es).del (.string s)
  | [], s, _, h => by simp [ridx] at h
  | e :: es, s, hp, h => by
    obtain ⟨h1, h2⟩ := List.pairwise_cons.1 hp
    by_cases he : e.s = s
    · have e1 : ridx (e :: es) s = 0 := by rw [ridx, if_pos he]
      rw [e1]
      have hk : (Lit.string e.s).sameKey (.string s) = true := by rw [he]; exact WideAt.sameKey_self (isKey_str s)
      show rD es = .map ((e.ent :: es.map REnt.ent).filter fun p => !p.1.sameKey (.string s))
      rw [List.filter_cons_of_neg (by show ¬ (!(Lit.string e.s).sameKey (.string s)) = true; rw [hk]; decide), filter_all es s (fun x hx hxs => before_ne (h1 x hx) (by rw [hxs, he]))]
      rfl
    · have e1 : ridx (e :: es) s = ridx es s + 1 := by rw [ridx, if_neg he]
      rw [e1] at h ⊢
      have hk : (Lit.string e.s).sameKey (.string s) = false := sameKey_ne (fun h' => he (by injection h'))
      have ih := rD_del es s h2 (by simpa using h)
      show rD (e :: (es.take (ridx es s) ++ es.drop (ridx es s + 1))) = .map ((e.ent :: es.map REnt.ent).filter fun p => !p.1.sameKey (.string s))
      rw [List.filter_cons_of_pos (by show (!(Lit.string e.s).sameKey (.string s)) = true; rw [hk]; rfl)]
      injection ih with ih
      show DataW.map (e.ent :: _) = _
      rw [← ih]
theorem put_eq (D : FS) (k : Lit) (d : DataW Fl) : D.put k d = (D.del k).put k d := by
  cases D <;> try rfl
  rename_i es
  show DataW.map (DataW.insert (k, d) (es.filter fun p => !p.1.sameKey k)) = DataW.map (DataW.insert (k, d) ((es.filter fun p => !p.1.sameKey k).filter fun p => !p.1.sameKey k))
  rw [List.filter_filter]
  simp
theorem rput_at : ∀ (es : List REnt) (s : List UInt8), es.Pairwise (fun x y => bytesBefore x.s y.s = true) → ridx es s < es.length → rput (es.take (ridx es s) ++ es.drop (ridx es s + 1)) s = ridx es s
  | [], s, _, h => by simp [ridx] at h
  | e :: es, s, hp, h => by
    obtain ⟨h1, h2⟩ := List.pairwise_cons.1 hp
    by_cases he : e.s = s
    · have e1 : ridx (e :: es) s = 0 := by rw [ridx, if_pos he]
      rw [e1]
      show rput es s = 0
      cases es with
      | nil => rfl
      | cons x es =>
        have hx := h1 x (by simp)
        rw [he] at hx
        rw [rput, if_neg (by rw [before_asymm hx]; decide)]
    · have e1 : ridx (e :: es) s = ridx es s + 1 := by rw [ridx, if_neg he]
      rw [e1] at h ⊢
      have hlt : ridx es s < es.length := by simpa using h
      have ih := rput_at es s h2 hlt
      show rput (e :: (es.take (ridx es s) ++ es.drop (ridx es s + 1))) s = _
      have hx : bytesBefore e.s s = true := by
        have := h1 es[ridx es s] (List.getElem_mem _)
        have hs : es[ridx es s].s = s := by
          clear ih e1 he h h1 h2 hp this
          induction es with
          | nil => simp at hlt
          | cons y es ih =>
            by_cases hy : y.s = s
            · have : ridx (y :: es) s = 0 := by rw [ridx, if_pos hy]
              simp only [this, List.getElem_cons_zero]
              exact hy
            · have e2 : ridx (y :: es) s = ridx es s + 1 := by rw [ridx, if_neg hy]
              simp only [e2, List.getElem_cons_succ]
              exact ih (by rw [e2] at hlt; simpa using hlt)
        rw [hs] at this
        exact this
      rw [rput, if_pos hx, ih]
/-- One file is turned, in its place. -/
theorem rD_set {es : List REnt} (s : List UInt8) (hp : es.Pairwise fun x y => bytesBefore x.s y.s = true) (h : ridx es s < es.length) (f : REnt) (hf : f.s = s) : rD (es.set (ridx es s) f) = (rD es).put (.string s) (.held f.fl) := by
  have hd := rD_del es s hp h
  have hne : ∀ e ∈ es.take (ridx es s) ++ es.drop (ridx es s + 1), e.s ≠ f.s := by
    intro e he hs
    have h1 : fat ((rD es).del (.string s)) s = none := fat_del_same s
    rw [← hd, ridx_fat] at h1
    have h2 := ridx_le (es.take (ridx es s) ++ es.drop (ridx es s + 1)) s
    obtain ⟨j, hj⟩ := List.getElem?_of_mem he
    have h3 : ridx (es.take (ridx es s) ++ es.drop (ridx es s + 1)) s < (es.take (ridx es s) ++ es.drop (ridx es s + 1)).length := by
      refine Nat.lt_of_not_le fun hle => ?_
      have hjl := (List.getElem?_eq_some_iff.1 hj).1
      have hmem : ∀ (l : List REnt) (j : Nat) (e : REnt), l[j]? = some e → e.s = s → ridx l s ≤ j := by
        intro l
        induction l with
        | nil => intro j e hj; simp at hj
        | cons y l ih =>
          intro j e hj hs
          unfold ridx
          split
          · exact Nat.zero_le _
          · rename_i hy
            cases j with
            | zero =>
              have : y = e := by simpa using hj
              subst this
              exact absurd hs hy
            | succ j =>
              have := ih j e (by simpa using hj) hs
              omega
      have := hmem _ j e hj (hs.trans hf)
      omega
    rw [List.getElem?_eq_getElem h3] at h1
    cases h1
  have e1 := rD_put _ f hne
  rw [hf, rput_at es s hp h, hd, ← put_eq] at e1
  rw [← e1]
  congr 1
  have hl : (es.take (ridx es s)).length = ridx es s := by rw [List.length_take]; omega
  rw [List.take_append_of_le_length (by omega), List.take_of_length_le (by omega), List.drop_append_of_le_length (by omega), List.drop_of_length_le (by omega), List.nil_append, List.set_eq_take_append_cons_drop, if_pos h]
end
section
open Go.RowKit
open Go.Maps
attribute [local go_sem] Oper.semAt_some

section
variable {w : World} {rp : Nat} {t : St} {O : Nat → Prop} {a : Option Addr} {c : Nat} {es : List REnt}
/-- What a call of it leaves, of which the answer is x. -/
def RMv (w : World) (rp : Nat) (O : Nat → Prop) (t : St) (w' : World) : Prop := ∃ O', Rd w' rp t O' ∧ But O w w' ∧ ∀ k, O' k → O k ∨ w.heap.size ≤ k
theorem RdC.sl_ne (h : RdC w rp t O a c es) : ∀ e ∈ es, 0 < e.bs.length → ∀ b o, e.a = some ⟨b, o, none⟩ → b < w.heap.size := fun e he hp b o ha => h.lt b ((h.bytes e he).2 hp b o ha).1
/-- Another row of files is laid: v, of the call's own, of files that were there (or whose bytes lie in it). -/
theorem RdC.relayC (h : RdC w rp t O a c es) {w1 : World} (hb : Below w.heap.size w w1) {a' : Option Addr} {c' : Nat} {es' : List REnt} {D' : FS} (hown : OwnFl w1 w.heap.size (.slice a' es'.length c') es') (hD : D' = rD es') (hG : Good D' t.room)
    (hby : ∀ e ∈ es', e ∈ es ∨ (Sl w w.heap.size e.a e.bs.length e.c e.bs ∧ (0 < e.bs.length → ∀ b o, e.a = some ⟨b, o, none⟩ → O b ∧ b ≠ rp))) :
    RdC (w1.setCell ⟨rp, 1, none⟩ (.slice a' es'.length c')) rp ⟨D', t.room, t.fuse, t.fails⟩ (fun k => O k ∨ (w.heap.size ≤ k ∧ k < w1.heap.size)) a' c' es' ∧ But O w (w1.setCell ⟨rp, 1, none⟩ (.slice a' es'.length c')) := by
  have h1 := h.below hb
  have hrl := h.lt rp h.rpO
  have hs := heap_setCell_same w1 rp 1 _ _ (.slice a' es'.length c') h1.cells
  have hoth : ∀ k, k ≠ rp → (w1.setCell ⟨rp, 1, none⟩ (.slice a' es'.length c')).heap[k]? = w1.heap[k]? := fun k hk => Below.heap_setCell w1 ⟨rp, 1, none⟩ _ k hk
  have hz : (w1.setCell ⟨rp, 1, none⟩ (.slice a' es'.length c')).heap.size = w1.heap.size := by simp [World.setCell]
  have hob : ∀ g, (Value.slice a' es'.length c').ownBlock = some g → w.heap.size ≤ g ∧ g < w1.heap.size := fun g hg => hown.at_base hg
  refine ⟨⟨hs, ⟨hown.1, ?_⟩, hD, hG, fun e he => ?_, .inl h.rpO, fun g hg => ⟨.inr (hob g hg), by have := (hob g hg).1; omega⟩, fun k hk => ?_, h.fuse_, h.fails_⟩, ?_⟩
  · rcases hown.2 with h2 | ⟨g, cap, cur, e, h2, h3, h4⟩
    · exact .inl h2
    · exact .inr ⟨g, cap, cur, e, Nat.zero_le _, (hoth g (by omega)).trans h3, h4⟩
  · rcases hby e he with he' | ⟨hsl, hn⟩
    · have h2 := h.bytes e he'
      refine ⟨(h1.bytes e he').1.same_ (by omega) (fun hp b o e' => hoth b (h2.2 hp b o e').2.1), fun hp b o e' => ⟨.inl (h2.2 hp b o e').1, (h2.2 hp b o e').2.1, fun hv => ?_⟩⟩
      have := (hob b hv).1
      have := h.lt b (h2.2 hp b o e').1
      omega
    · refine ⟨((hsl.below hb (Nat.le_refl _)).more hb.size).same_ (by omega) (fun hp b o e' => hoth b (hn hp b o e').2), fun hp b o e' => ⟨.inl (hn hp b o e').1, (hn hp b o e').2, fun hv => ?_⟩⟩
      have := (hob b hv).1
      have := h.lt b (hn hp b o e').1
      omega
  · rcases hk with hk | hk
    · have := h1.lt k hk; omega
    · omega
  · exact (But.of_below (O := O) hb).setCell (p := ⟨rp, 1, none⟩) (.inl h.rpO) _
theorem RdC.relay (h : RdC w rp t O a c es) {w1 : World} (hb : Below w.heap.size w w1) {v : Value} {es' : List REnt} {D' : FS} (hown : OwnFl w1 w.heap.size v es') (hD : D' = rD es') (hG : Good D' t.room)
    (hby : ∀ e ∈ es', e ∈ es ∨ (Sl w w.heap.size e.a e.bs.length e.c e.bs ∧ (0 < e.bs.length → ∀ b o, e.a = some ⟨b, o, none⟩ → O b ∧ b ≠ rp))) :
    RMv w rp O ⟨D', t.room, t.fuse, t.fails⟩ (w1.setCell ⟨rp, 1, none⟩ v) := by
  obtain ⟨a', c', rfl⟩ := hown.form
  obtain ⟨h1, h2⟩ := h.relayC hb hown hD hG hby
  exact ⟨_, ⟨a', c', es', h1⟩, h2, fun k hk => by
    rcases hk with hk | hk
    · exact .inl hk
    · exact .inr hk.1⟩
theorem RdC.rfs (h : RdC w rp t O a c es) : RFs w a es.length c es := OwnFl.rfs h.own
theorem rowner {w : World} {rp : Nat} {t : St} {O : Nat → Prop} (h : Rd w rp t O) : RMv w rp O t w := ⟨O, h, But.refl _ _, fun _ hk => .inl hk⟩
theorem RMv.then {w w1 w' : World} {rp : Nat} {O : Nat → Prop} {t : St} (hb : But O w w1) (h : RMv w1 rp O t w') : RMv w rp O t w' := by
  obtain ⟨O', h1, h2, h3⟩ := h
  exact ⟨O', h1, hb.trans h2 (fun _ hi => .inl hi), fun k hk => (h3 k hk).imp id (Nat.le_trans hb.size)⟩
set_option linter.unusedSimpArgs false in
set_option maxRecDepth 100000 in
set_option maxHeartbeats 1600000 in
theorem rdelete_any (h : RdC w rp t O a c es) (s : ByteArray) : Calls Tryz.prog 33 #[.pointer (some ⟨rp, 0, none⟩), .string s] w fun e w' => e = .returned (.int .i64 (t.delete s.data.toList).1) ∧ RMv w rp O (t.delete s.data.toList).2 w' := by
  by_cases hf : t.fuse = 0
  · have e : t.delete s.data.toList = (42, t) := by unfold St.delete; rw [if_pos hf]
    rw [e]
    have CD := Lib.hid (rcall_dead h hf)
    have HR := Lib.hid (rowner ⟨a, c, es, h⟩)
    clear h
    go_enter Tryz.func33, Tryz.ntmps33
    go_wp2_with fail
    refine CD.out.mono ?_
    rintro e1 w1 ⟨rfl, rfl⟩
    go_wp2
    go_ret
    exact ⟨rfl, HR.out⟩
  · have CD := Lib.hid (rcall_do h hf)
    have hcap := h.len_
    by_cases hi : ridx es s.data.toList < es.length
    · obtain ⟨f0, hfat⟩ : ∃ f, fat t.D s.data.toList = some f := by
        obtain ⟨e0, g, _, hf0, _⟩ := h.here hi
        exact ⟨_, hf0⟩
      have e : t.delete s.data.toList = (0, { t.burnt with D := t.D.del (.string s.data.toList) }) := by unfold St.delete; rw [if_neg hf, hfat]
      rw [e]
      have hd := rD_del es s.data.toList h.once hi
      have HH := Lib.hid h
      clear h e
      go_enter Tryz.func33, Tryz.ntmps33
      go_wp2_with fail
      refine CD.out.mono ?_
      rintro e1 w1 ⟨rfl, h1, b1⟩
      have AT := rat_any h1 s
      unfold ratI at AT
      rw [if_pos hi] at AT
      have AT := Lib.hid AT
      have c1 := h1.cell.2.1
      have WT := Lib.hid (fun (x : World) (hx : Below w1.heap.size w1 x) => rwithout_any es a es.length c (ridx es s.data.toList) x (h1.rfs.below hx) hi hcap)
      have HL := Lib.hid (fun (w2 : World) (v : Value) (hx : Below w1.heap.size w1 w2) (ho : OwnFl w2 w1.heap.size v (es.take (ridx es s.data.toList) ++ es.drop (ridx es s.data.toList + 1))) =>
        h1.relay hx (D' := t.D.del (.string s.data.toList)) ho (by rw [HH.out.D_, hd]) (HH.out.good.del _) (fun e he => .inl (by
          rcases List.mem_append.1 he with he | he
          · exact List.mem_of_mem_take he
          · exact List.mem_of_mem_drop he)))
      have hrl := h1.lt rp h1.rpO
      have z1 := h1.cell.2.2.2.2 1
      have B1 := Lib.hid b1
      generalize ridx es s.data.toList = i at *
      obtain ⟨n, hn⟩ : ∃ n, n = es.length := ⟨_, rfl⟩
      rw [← hn] at c1 hi hcap WT
      clear h1 b1 CD hd hn
      go_wp2_with fail
      refine AT.out.mono ?_
      rintro e1 w2 ⟨rfl, rfl⟩
      go_wp2_with fail
      with_reducible refine (WT.out _ (Below.refl _ _)).mono ?_
      rintro e1 w3 ⟨v, rfl, ho, hb⟩
      have q1 := (hb.cell (p := ⟨rp, 1, none⟩) hrl).trans c1
      have y1 := (World.frozen?_of_block (w := w1) (a := ⟨rp, 1, none⟩) (hb.block rp hrl)).trans z1
      have HF := HL.out w3 v hb ho
      obtain ⟨a9, c9, hv9⟩ := ho.form
      subst hv9
      generalize (es.take i ++ es.drop (i + 1)).length = n9 at HF ⊢
      have HF := Lib.hid HF
      clear ho hb WT HL
      go_wp2
      go_ret
      exact ⟨rfl, RMv.then B1.out HF.out⟩
    · have e : t.delete s.data.toList = (3, t.burnt) := by unfold St.delete; rw [if_neg hf, h.gone_ hi]
      rw [e]
      clear h e
      go_enter Tryz.func33, Tryz.ntmps33
      go_wp2_with fail
      refine CD.out.mono ?_
      rintro e1 w1 ⟨rfl, h1, b1⟩
      have AT := rat_any h1 s
      unfold ratI at AT
      rw [if_neg hi] at AT
      have AT := Lib.hid AT
      have HR := Lib.hid (RMv.then b1 (rowner ⟨a, c, es, h1⟩))
      clear h1 b1 CD
      go_wp2_with fail
      refine AT.out.mono ?_
      rintro e1 w2 ⟨rfl, rfl⟩
      go_wp2
      go_ret
      exact ⟨rfl, HR.out⟩
end
end
end Go.Proofs.YtohiheohndmccaaGreat
