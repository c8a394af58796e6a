/- Small words for memory, over any program: a block known whole; a slice of bytes that reads as a list; what stays below a block number. -/
import Derived.WalkKit
import Derived.Laws.Rows
import Derived.Laws.IdiomCopy
import Derived.Deep.MidRow
import Derived.Below
import Derived.Lib.Hide
import Derived.IntWalk
import Derived.OpenShut
namespace Go.Proofs.Ytcfehddnccdejaa
set_option linter.unusedSimpArgs false
set_option linter.unusedVariables false
open Go.RowKit

theorem ret_u32 {a b : Int} (h : a = b) : Ending.returned (.int .u32 a) = .returned (.int .u32 b) := by rw [h]
theorem val_u32 {a b : Int} (h : a = b) : Value.int .u32 a = .int .u32 b := by rw [h]

/-- Stores over a whole block leave just what was stored. -/
theorem heap_setCells_row (g : Nat) (t : TypeId) : ∀ (vs : List Value) (o : Nat) (pre cs : List Value) (w : World), pre.length = o → cs.length = vs.length →
    w.heap[g]? = some (.cells (pre ++ cs).toArray t (0, 0)) → (w.setCells g o vs).heap[g]? = some (.cells (pre ++ vs).toArray t (0, 0)) := by
  intro vs
  induction vs with
  | nil =>
    intro o pre cs w h1 h2 h
    have : cs = [] := List.eq_nil_of_length_eq_zero (by simpa using h2)
    subst this
    simpa [World.setCells] using h
  | cons v vs ih =>
    intro o pre cs w h1 h2 h
    match cs, h2 with
    | c :: cs, h2 =>
      have hs := heap_setCell_same w g o _ t v h
      have e : ((pre ++ c :: cs).toArray.setIfInBounds o v) = ((pre ++ [v]) ++ cs).toArray := by
        rw [List.setIfInBounds_toArray, List.set_append_right _ _ (by omega)]
        simp [h1]
      rw [e] at hs
      have := ih (o + 1) (pre ++ [v]) cs _ (by simp [h1]) (by simpa using h2) hs
      simpa [World.setCells] using this
theorem heap_setCells_whole {g : Nat} {t : TypeId} {cs : List Value} {w : World} (vs : List Value) (hl : cs.length = vs.length)
    (h : w.heap[g]? = some (.cells cs.toArray t (0, 0))) : (w.setCells g 0 vs).heap[g]? = some (.cells vs.toArray t (0, 0)) := by
  simpa using heap_setCells_row g t vs 0 [] cs w rfl hl (by simpa using h)
theorem there_of_block {w : World} {g n : Nat} {cs : Array Value} {t : TypeId} (h : w.heap[g]? = some (.cells cs t (0, 0))) (hn : n ≤ cs.size) : w.there g 0 n := by
  intro j hj
  rw [Nat.zero_add, cell_of_row w g j cs t (0, 0) h]
  exact ⟨by simp; omega, frozen_of_row w g j cs t h⟩
theorem below_setCells' {B : Nat} {a : World} (b : Nat) (hb : B ≤ b) : ∀ (vs : List Value) (o : Nat) {w : World}, Below B a w → Below B a (w.setCells b o vs)
  | [], _, _, h => h
  | v :: r, o, _, h => below_setCells' b hb r (o + 1) (h.setCell (p := ⟨b, o, none⟩) hb v)
theorem lt_of_heap {w : World} {g : Nat} {o : Obj} (h : w.heap[g]? = some o) : g < w.heap.size := by
  rcases Nat.lt_or_ge g w.heap.size with hlt | hge
  · exact hlt
  · rw [Array.getElem?_eq_none hge] at h; cases h

/-- A store into one block leaves another one's cells. -/
theorem cell_set_far {w : World} {p q : Addr} {u v : Value} (h : w.cell? q = some v) (hne : q.block ≠ p.block) : (w.setCell p u).cell? q = some v :=
  (World.cell?_of_block (w := w) (Below.heap_setCell w p u q.block hne)).trans h
theorem cell_set_far_drew {w : World} {p q : Addr} {u v : Value} (h : w.cell? q = some v) (hne : q.block ≠ p.block) : (w.setCell p u).drew.cell? q = some v := cell_set_far h hne

/-- A slice of bytes that lies below block B reads as bs. -/
structure Sl (w : World) (B : Nat) (a : Option Addr) (len cap : Nat) (bs : List Nat) : Prop where
  length : bs.length = len
  le : len ≤ cap
  max : cap ≤ maxLen
  byte : ∀ c ∈ bs, c < 256
  none_ : a = none → cap = 0
  at_ : 0 < len → ∃ b o, a = some ⟨b, o, none⟩ ∧ b < B ∧ ∀ k, k < len → w.cell? ⟨b, o + k, none⟩ = some (.int .u8 ((bs.getD k 0 : Nat) : Int))

theorem Sl.below {w w' : World} {B B' : Nat} {a : Option Addr} {len cap : Nat} {bs : List Nat} (h : Sl w B a len cap bs) (hb : Below B' w w') (hB : B ≤ B') : Sl w' B' a len cap bs :=
  ⟨h.length, h.le, h.max, h.byte, h.none_, fun hp => by
    obtain ⟨b, o, e, hlt, hc⟩ := h.at_ hp
    exact ⟨b, o, e, by omega, fun k hk => (hb.cell (p := ⟨b, o + k, none⟩) (by show b < B'; omega)).trans (hc k hk)⟩⟩
theorem Sl.more {w : World} {B B' : Nat} {a : Option Addr} {len cap : Nat} {bs : List Nat} (h : Sl w B a len cap bs) (hB : B ≤ B') : Sl w B' a len cap bs :=
  h.below (Below.refl _ _) hB
theorem Sl.nil_ {w : World} {B : Nat} : Sl w B none 0 0 [] := ⟨rfl, by omega, by simp [maxLen], by simp, fun _ => rfl, fun h => absurd h (by omega)⟩
theorem Sl.lt {w : World} {B : Nat} {a : Option Addr} {len cap : Nat} {bs : List Nat} (h : Sl w B a len cap bs) {k : Nat} (_hk : k < len) : bs.getD k 0 < 256 := by
  have hl := h.length
  rw [List.getD_eq_getElem?_getD, List.getElem?_eq_getElem (by omega)]
  exact h.byte _ (List.getElem_mem _)
/-- The first k. -/
theorem Sl.take {w : World} {B : Nat} {a : Option Addr} {len cap : Nat} {bs : List Nat} (h : Sl w B a len cap bs) {k : Nat} (hk : k ≤ len) : Sl w B a k cap (bs.take k) :=
  ⟨by rw [List.length_take, h.length]; omega, by have := h.le; omega, h.max, fun c hc => h.byte c (List.mem_of_mem_take hc), h.none_, fun hp => by
    obtain ⟨b, o, e, hlt, hcell⟩ := h.at_ (by omega)
    exact ⟨b, o, e, hlt, fun j hj => by rw [hcell j (by omega), List.getD_eq_getElem?_getD, List.getD_eq_getElem?_getD, List.getElem?_take_of_lt hj]⟩⟩
/-- What is behind the first k, at whatever address the model gives an empty rest. -/
theorem Sl.drop {w : World} {B : Nat} {a a' : Option Addr} {len cap : Nat} {bs : List Nat} (h : Sl w B a len cap bs) {k : Nat} (hk : k ≤ len)
    (ha : k < len → a' = a.map (·.add k)) (hn : a' = none → a = none) : Sl w B a' (len - k) (cap - k) (bs.drop k) :=
  ⟨by rw [List.length_drop, h.length], by have := h.le; omega, by have := h.max; omega, fun c hc => h.byte c (List.mem_of_mem_drop hc), fun e => by rw [h.none_ (hn e)]; omega, fun hp => by
    obtain ⟨b, o, e, hlt, hcell⟩ := h.at_ (by omega)
    refine ⟨b, o + k, by rw [ha (by omega), e]; simp [Addr.add_mid], hlt, fun j hj => ?_⟩
    rw [Nat.add_assoc, hcell (k + j) (by omega), List.getD_eq_getElem?_getD, List.getD_eq_getElem?_getD, List.getElem?_drop]⟩
/-- A slice of bytes that came in reads as a list. -/
theorem Sl.of_row {w : World} {a : Option Addr} {len cap : Nat} {zs : List Int} (h : (a = none ∧ len = 0 ∧ cap = 0 ∧ zs = []) ∨
    ∃ x, a = some x ∧ len ≤ cap ∧ cap ≤ maxLen ∧ zs.length = cap ∧ (∀ i, i < zs.length → w.cell? (x.add i) = some (.int .u8 (zs.getD i 0))) ∧ ∀ n ∈ zs, (Lit.int .u8 n).wf = true) :
    ∃ bs, Sl w w.heap.size a len cap bs := by
  rcases h with ⟨rfl, rfl, rfl, rfl⟩ | ⟨x, rfl, hl, hm, hz, hc, hw⟩
  · exact ⟨[], Sl.nil_⟩
  · have hb : ∀ n ∈ zs, 0 ≤ n ∧ n < 256 := fun n hn => by have := bounds_u8 (hw n hn); omega
    refine ⟨(zs.take len).map Int.toNat, by simp [hz, hl], hl, hm, ?_, fun e => by (cases e), fun hp => ?_⟩
    · intro c hcm
      obtain ⟨n, hn, rfl⟩ := List.mem_map.1 hcm
      have := hb n (List.mem_of_mem_take hn)
      omega
    · obtain ⟨b, off, spot⟩ := x
      have h0 := hc 0 (by omega)
      have hs : spot = none := by simpa [Addr.add] using World.cell?_spot h0
      subst hs
      refine ⟨b, off, rfl, block_lt_of_cell h0, fun k hk => ?_⟩
      have hk' := hc k (by omega)
      rw [Addr.add_mid] at hk'
      rw [hk', List.getD_eq_getElem?_getD, List.getD_eq_getElem?_getD, List.getElem?_map, List.getElem?_take_of_lt hk, List.getElem?_eq_getElem (by omega)]
      have := hb zs[k] (List.getElem_mem _)
      simp only [Option.getD_some, Option.map_some]
      rw [Int.toNat_of_nonneg this.1]
/-- A slice that a literal has just made. -/
theorem Sl.new {w : World} {t : TypeId} {bs : List Nat} {g : Nat} {cs : Array Value} {fr : Nat × Nat} (h : w.heap[g]? = some (.cells cs t fr)) (hcs : cs = (bs.map fun n => Value.int .u8 ((n : Nat) : Int)).toArray)
    (hb : ∀ c ∈ bs, c < 256) (n : Nat) (hn : n = bs.length) (hm : bs.length ≤ maxLen) : Sl w w.heap.size (some ⟨g, 0, none⟩) n n bs := by
  subst hn
  refine ⟨rfl, Nat.le_refl _, hm, hb, fun e => by (cases e), fun _ => ⟨g, 0, rfl, lt_of_heap h, fun k hk => ?_⟩⟩
  rw [Nat.zero_add, cell_of_row w g k cs t fr h, hcs, List.getElem?_toArray, List.getElem?_map, List.getElem?_eq_getElem hk, List.getD_eq_getElem?_getD, List.getElem?_eq_getElem hk]
  rfl

end Go.Proofs.Ytcfehddnccdejaa
