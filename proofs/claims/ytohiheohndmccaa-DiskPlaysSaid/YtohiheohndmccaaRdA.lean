/- The reference's disk in memory: a row of files, by their names; what a world keeps; where a file is. -/
import Derived.Test.YtohiheohndmccaaDkO
namespace Go.Proofs.Ytohiheohndmccaa
open Go.RowKit
open Go.Maps
attribute [local go_sem] Oper.semAt_some

/-- A file, with where its bytes lie. -/
structure REnt where
  s : List UInt8
  a : Option Addr
  c : Nat
  bs : List Nat
  l : Nat
abbrev REnt.cells (e : REnt) : List Value := [.string ⟨e.s.toArray⟩, .slice e.a e.bs.length e.c, .int .i64 (e.l : Int)]
abbrev REnt.fl (e : REnt) : Fl := ⟨e.bs, e.l⟩
abbrev REnt.ent (e : REnt) : Lit × DataW Fl := (.string e.s, .held e.fl)
def rcells (es : List REnt) : List Value := es.flatMap REnt.cells
def rD (es : List REnt) : FS := .map (es.map REnt.ent)
theorem rcells_append (a b : List REnt) : rcells (a ++ b) = rcells a ++ rcells b := by simp [rcells]
theorem rcells_len (es : List REnt) : (rcells es).length = es.length * 3 := by
  induction es with
  | nil => rfl
  | cons e es ih =>
    show (e.cells ++ rcells es).length = _
    rw [List.length_append, ih]
    simp
    omega
theorem rcells_get : ∀ (es : List REnt) (k : Nat) (e : REnt), es[k]? = some e → (rcells es)[k * 3]? = some (.string ⟨e.s.toArray⟩) ∧ (rcells es)[k * 3 + 1]? = some (.slice e.a e.bs.length e.c) ∧ (rcells es)[k * 3 + 2]? = some (.int .i64 (e.l : Int)) := by
  intro es
  induction es with
  | nil => intro k e h; simp at h
  | cons x es ih =>
    intro k e h
    cases k with
    | zero =>
      simp at h
      subst h
      exact ⟨rfl, rfl, rfl⟩
    | succ k =>
      have := ih k e (by simpa using h)
      have q : ∀ j, (rcells (x :: es))[j + 3]? = (rcells es)[j]? := fun j => rfl
      rw [show (k + 1) * 3 = k * 3 + 3 from by omega, show k * 3 + 3 + 1 = k * 3 + 1 + 3 from by omega, show k * 3 + 3 + 2 = k * 3 + 2 + 3 from by omega, q, q, q]
      exact this

/-- The reference's disk: block rp; O holds all blocks that it takes up. -/
structure RdC (w : World) (rp : Nat) (t : St) (O : Nat → Prop) (a : Option Addr) (c : Nat) (es : List REnt) : Prop where
  cells : w.heap[rp]? = some (.cells #[.int .i64 (t.room : Int), .slice a es.length c, .int .i64 t.fuse, .int .i64 t.fails] 54 (0, 0))
  own : w.ownsRow 0 60 3 (.slice a es.length c) es.length (rcells es)
  D_ : t.D = rD es
  good : Good t.D t.room
  bytes : ∀ e ∈ es, Sl w w.heap.size e.a e.bs.length e.c e.bs ∧ (0 < e.bs.length → ∀ b o, e.a = some ⟨b, o, none⟩ → O b ∧ b ≠ rp ∧ (Value.slice a es.length c).ownBlock ≠ some b)
  rpO : O rp
  ownO : ∀ g, (Value.slice a es.length c).ownBlock = some g → O g ∧ g ≠ rp
  lt : ∀ k, O k → k < w.heap.size
  fuse_ : -1 ≤ t.fuse ∧ t.fuse ≤ 9223372036854775807
  fails_ : 0 ≤ t.fails ∧ t.fails ≤ 9223372036854775807
def Rd (w : World) (rp : Nat) (t : St) (O : Nat → Prop) : Prop := ∃ a c es, RdC w rp t O a c es

section
variable {w w' : World} {rp : Nat} {t : St} {O P : Nat → Prop} {a : Option Addr} {c : Nat} {es : List REnt}
theorem RdC.same (h : RdC w rp t O a c es) (hk : ∀ k, O k → w'.heap[k]? = w.heap[k]?) (hz : w.heap.size ≤ w'.heap.size) : RdC w' rp t O a c es := by
  refine ⟨(hk rp h.rpO).trans h.cells, ⟨h.own.1, ?_⟩, h.D_, h.good, fun e he => ⟨(h.bytes e he).1.same_ hz (fun hp b o e' => hk b ((h.bytes e he).2 hp b o e').1), (h.bytes e he).2⟩, h.rpO, h.ownO, fun k hk' => Nat.lt_of_lt_of_le (h.lt k hk') hz, h.fuse_, h.fails_⟩
  rcases h.own.2 with h1 | ⟨g, cap, cur, e, h1, h2, h3⟩
  · exact .inl h1
  · exact .inr ⟨g, cap, cur, e, h1, (hk g (h.ownO g (by rw [e]; rfl)).1).trans h2, h3⟩
theorem Rd.same (h : Rd w rp t O) (hk : ∀ k, O k → w'.heap[k]? = w.heap[k]?) (hz : w.heap.size ≤ w'.heap.size) : Rd w' rp t O := let ⟨a, c, es, h⟩ := h; ⟨a, c, es, h.same hk hz⟩
theorem RdC.below (h : RdC w rp t O a c es) (hb : Below w.heap.size w w') : RdC w' rp t O a c es := h.same (fun k hk => hb.block k (h.lt k hk)) hb.size
theorem Rd.below (h : Rd w rp t O) (hb : Below w.heap.size w w') : Rd w' rp t O := let ⟨a, c, es, h⟩ := h; ⟨a, c, es, h.below hb⟩
theorem Rd.lt (h : Rd w rp t O) : ∀ k, O k → k < w.heap.size := let ⟨_, _, _, h⟩ := h; h.lt
theorem Rd.good (h : Rd w rp t O) : Good t.D t.room := let ⟨_, _, _, h⟩ := h; h.good
/-- Another thing's calls leave it. -/
theorem Rd.but (h : Rd w rp t O) (hb : But P w w') (hno : ∀ k, O k → ¬ P k) : Rd w' rp t O := h.same (fun k hk => hb.block k (h.lt k hk) (hno k hk)) hb.size
theorem RdC.cell (h : RdC w rp t O a c es) :
    w.cell? ⟨rp, 0, none⟩ = some (.int .i64 (t.room : Int)) ∧ w.cell? ⟨rp, 1, none⟩ = some (.slice a es.length c) ∧ w.cell? ⟨rp, 2, none⟩ = some (.int .i64 t.fuse) ∧ w.cell? ⟨rp, 3, none⟩ = some (.int .i64 t.fails) ∧ (∀ j, w.frozen? ⟨rp, j, none⟩ = false) :=
  ⟨(cell_of_row w rp 0 _ _ _ h.cells).trans rfl, (cell_of_row w rp 1 _ _ _ h.cells).trans rfl, (cell_of_row w rp 2 _ _ _ h.cells).trans rfl, (cell_of_row w rp 3 _ _ _ h.cells).trans rfl, fun j => frozen_of_row w rp j _ _ h.cells⟩
/-- A file's cells. -/
theorem RdC.at_ (h : RdC w rp t O a c es) (hp : 0 < es.length) : ∃ g, a = some ⟨g, 0, none⟩ ∧ O g ∧ g ≠ rp ∧ g < w.heap.size ∧ es.length ≤ c ∧ c ≤ maxLen ∧ ∀ (k : Nat) (e : REnt), es[k]? = some e → w.cell? ⟨g, k * 3, none⟩ = some (.string ⟨e.s.toArray⟩) ∧ w.cell? ⟨g, k * 3 + 1, none⟩ = some (.slice e.a e.bs.length e.c) ∧ w.cell? ⟨g, k * 3 + 2, none⟩ = some (.int .i64 (e.l : Int)) := by
  rcases h.own.2 with ⟨h1, h0⟩ | ⟨g, cap, cur, e, h1, h2, hn, hc, hsz, htk⟩
  · injection h1 with _ h2 _
    omega
  · injection e with e1 e2 e3
    subst e1 e3
    have hO := h.ownO g rfl
    refine ⟨g, rfl, hO.1, hO.2, lt_of_heap h2, hn, hc, fun k e he => ?_⟩
    have hk := (List.getElem?_eq_some_iff.1 he).1
    obtain ⟨q1, q2, q3⟩ := rcells_get es k e he
    refine ⟨?_, ?_, ?_⟩
    · rw [World.ownsRow.cellAt h.own (k * 3) (by omega), q1]
    · rw [World.ownsRow.cellAt h.own (k * 3 + 1) (by omega), q2]
    · rw [World.ownsRow.cellAt h.own (k * 3 + 2) (by omega), q3]
end

/-- Where a file is; as many as there are: nowhere. -/
def ridx : List REnt → List UInt8 → Nat
  | [], _ => 0
  | e :: es, s => if e.s = s then 0 else ridx es s + 1
theorem ridx_le : ∀ (es : List REnt) (s : List UInt8), ridx es s ≤ es.length
  | [], _ => Nat.le_refl _
  | e :: es, s => by
    unfold ridx
    split
    · exact Nat.zero_le _
    · have := ridx_le es s
      simp only [List.length_cons]
      omega
theorem ridx_skip : ∀ (es : List REnt) (s : List UInt8) (k : Nat), (∀ j e, j < k → es[j]? = some e → e.s ≠ s) → k ≤ es.length → k ≤ ridx es s
  | _, _, 0, _, _ => Nat.zero_le _
  | [], _, k + 1, _, h => by simp at h
  | e :: es, s, k + 1, hj, h => by
    unfold ridx
    rw [if_neg (hj 0 e (by omega) rfl)]
    have := ridx_skip es s k (fun j x hjk hx => hj (j + 1) x (by omega) hx) (by simpa using h)
    omega
theorem ridx_hit : ∀ (es : List REnt) (s : List UInt8) (k : Nat) (e : REnt), (∀ j e, j < k → es[j]? = some e → e.s ≠ s) → es[k]? = some e → e.s = s → ridx es s = k
  | [], _, k, _, _, h, _ => by simp at h
  | x :: es, s, 0, e, _, h, he => by
    have : x = e := by simpa using h
    subst this
    unfold ridx
    rw [if_pos he]
  | x :: es, s, k + 1, e, hj, h, he => by
    unfold ridx
    rw [if_neg (hj 0 x (by omega) rfl), ridx_hit es s k e (fun j y hjk hy => hj (j + 1) y (by omega) hy) (by simpa using h) he]
theorem ridx_fat : ∀ (es : List REnt) (s : List UInt8), fat (rD es) s = es[ridx es s]?.map REnt.fl
  | [], s => rfl
  | e :: es, s => by
    by_cases h : e.s = s
    · have e1 : ridx (e :: es) s = 0 := by unfold ridx; rw [if_pos h]
      rw [e1]
      have hk : (Lit.string e.s).sameKey (.string s) = true := by rw [h]; exact WideAt.sameKey_self (isKey_str s)
      unfold fat rD look
      simp only [List.map_cons, List.find?_cons, REnt.ent, hk]
      rfl
    · have e1 : ridx (e :: es) s = ridx es s + 1 := by rw [ridx, if_neg h]
      rw [e1]
      have hk : (Lit.string e.s).sameKey (.string s) = false := sameKey_ne (fun h' => h (by injection h'))
      have ih := ridx_fat es s
      rw [List.getElem?_cons_succ, ← ih]
      unfold fat rD look
      simp only [List.map_cons, List.find?_cons, REnt.ent, hk]
theorem rD_tot : ∀ es : List REnt, tot (rD es) = (es.map fun e => e.bs.length).sum := by
  intro es
  unfold rD tot
  simp [lenOf, Function.comp_def]
theorem rD_names (es : List REnt) : strKeys (rD es) = es.map (·.s) := by
  rw [strKeys_keysL]
  simp [rD, keysL, Function.comp_def]
  intro e _
  rfl
theorem rD_size (es : List REnt) : size (rD es) = es.length := by simp [rD, size]
end Go.Proofs.Ytohiheohndmccaa
