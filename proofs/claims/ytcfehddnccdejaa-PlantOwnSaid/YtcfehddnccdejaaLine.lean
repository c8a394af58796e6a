/- Small words for memory: rows of one-cell values of the call's own; a row of one block whose cells are known; bytes as a string. -/
import Derived.Test.YtcfehddnccdejaaOwn
import Derived.Laws.BytesArg
import Derived.Deep.AppendLies
namespace Go.Proofs.Ytcfehddnccdejaa
set_option linter.unusedSimpArgs false
set_option linter.unusedVariables false
open Go.RowKit

theorem ret_bool {a b : Bool} (h : a = b) : Ending.returned (.bool a) = .returned (.bool b) := by rw [h]
theorem ret_tup2 {a b a' b' : Value} (h : a = a') (k : b = b') : Ending.returned (.tuple #[a, b]) = .returned (.tuple #[a', b']) := by rw [h, k]
theorem ret_tup3 {a b c a' b' c' : Value} (h : a = a') (k : b = b') (l : c = c') : Ending.returned (.tuple #[a, b, c]) = .returned (.tuple #[a', b', c']) := by rw [h, k, l]
theorem ret_i64 {a b : Int} (h : a = b) : Ending.returned (.int .i64 a) = .returned (.int .i64 b) := by rw [h]

theorem grownBy_setCell (w : World) (p : Addr) (u : Value) : w.grownBy (w.setCell p u) (some p.block) :=
  ⟨rfl, rfl, rfl, by simp [World.setCell], fun k _ hne => Below.heap_setCell w p u k (fun h => hne (by rw [h]))⟩
theorem grownBy_below {B : Nat} {a w w' : World} {g : Nat} (h : Below B a w) (hg : w.grownBy w' (some g)) (hB : B ≤ w.heap.size) (hr : B ≤ g) : Below B a w' :=
  h.grown hg hB (fun k hk => by injection hk with hk; omega)

/-- v owns the one-cell values us, in a block from base on. -/
def OwnV (w : World) (base : Nat) (e : TypeId) (v : Value) (us : List Value) : Prop := w.ownsRow base e 1 v us.length us
theorem OwnV.nil_ (w : World) (base : Nat) (e : TypeId) : OwnV w base e (.slice none 0 0) [] := World.ownsRow_nil w base e 1
theorem OwnV.drew {w : World} {base : Nat} {e : TypeId} {v : Value} {us : List Value} (h : OwnV w base e v us) : OwnV w.drew base e v us := h
theorem OwnV.alloc {w : World} {base : Nat} {e : TypeId} {v : Value} {us : List Value} (h : OwnV w base e v us) (o : Obj) : OwnV (w.alloc o) base e v us := World.ownsRow.alloc h o
theorem OwnV.made {w : World} {base : Nat} {e : TypeId} {v z : Value} {n : Nat} (hz : z.cells = #[z]) (h : w.ownsRow base e 1 v n (madeCells z.cells (n * 1)).toList) : OwnV w base e v (List.replicate n z) := by
  have e1 : (madeCells z.cells (n * 1)).toList = List.replicate n z := by
    rw [Nat.mul_one, hz]
    exact toList_madeCells_one _ _
  unfold OwnV
  rw [List.length_replicate, ← e1]
  exact h
theorem OwnV.len {w : World} {base : Nat} {e : TypeId} {g n cap : Nat} {us : List Value} (h : OwnV w base e (.slice (some ⟨g, 0, none⟩) n cap) us) : n = us.length := by
  rcases h.2 with ⟨h', _⟩ | ⟨g', cap', cur, h', _⟩
  · cases h'
  · injection h'
theorem OwnV.cell {w : World} {base : Nat} {e : TypeId} {g n cap : Nat} {us : List Value} (h : OwnV w base e (.slice (some ⟨g, 0, none⟩) n cap) us) {k : Nat} {u : Value} (hk : us[k]? = some u) :
    w.cell? ⟨g, k, none⟩ = some u ∧ w.frozen? ⟨g, k, none⟩ = false := by
  have hn := h.len
  subst hn
  have hlt := (List.getElem?_eq_some_iff.1 hk).1
  exact ⟨by rw [World.ownsRow.cellAt h k (by omega), hk], World.ownsRow.frozenAt h k⟩
theorem OwnV.set_ {w : World} {base : Nat} {e : TypeId} {g n cap : Nat} {us : List Value} (h : OwnV w base e (.slice (some ⟨g, 0, none⟩) n cap) us) (k : Nat) (u : Value) :
    OwnV (w.setCell ⟨g, k, none⟩ u) base e (.slice (some ⟨g, 0, none⟩) n cap) (us.set k u) := by
  have hn := h.len
  subst hn
  have := (World.ownsRow.stored h k u).1
  unfold OwnV
  rw [List.length_set]
  exact this
theorem OwnV.kept {w w' : World} {base : Nat} {e : TypeId} {g n cap : Nat} {us : List Value} {r : Option Nat} (h : OwnV w base e (.slice (some ⟨g, 0, none⟩) n cap) us) (hg : w.grownBy w' r) (hne : some g ≠ r) : OwnV w' base e (.slice (some ⟨g, 0, none⟩) n cap) us :=
  World.ownsRow.kept h hg (.inr hne)
theorem OwnV.base_ {w : World} {base : Nat} {e : TypeId} {g n cap : Nat} {us : List Value} (h : OwnV w base e (.slice (some ⟨g, 0, none⟩) n cap) us) : base ≤ g ∧ g < w.heap.size := by
  rcases h.2 with ⟨h', _⟩ | ⟨g', cap', cur, h', hb, hh, _⟩
  · cases h'
  · injection h' with h1 h2 h3
    injection h1 with h4
    injection h4 with h5
    subst h5
    exact ⟨hb, lt_of_heap hh⟩

/-- A slice whose n elements, c cells each, lie in one block below B: cell j is 'cs j'. -/
structure Row (w : World) (B : Nat) (a : Option Addr) (len cap c : Nat) (cs : Nat → Value) : Prop where
  le : len ≤ cap
  max : cap ≤ maxLen
  at_ : 0 < len → ∃ b o, a = some ⟨b, o, none⟩ ∧ b < B ∧ ∀ j, j < len * c → w.cell? ⟨b, o + j, none⟩ = some (cs j)
theorem Row.below {w w' : World} {B B' : Nat} {a : Option Addr} {len cap c : Nat} {cs : Nat → Value} (h : Row w B a len cap c cs) (hb : Below B' w w') (hB : B ≤ B') : Row w' B' a len cap c cs :=
  ⟨h.le, h.max, fun hp => by
    obtain ⟨b, o, e, hlt, hc⟩ := h.at_ hp
    exact ⟨b, o, e, by omega, fun k hk => (hb.cell (p := ⟨b, o + k, none⟩) (by show b < B'; omega)).trans (hc k hk)⟩⟩
theorem Row.more {w : World} {B B' : Nat} {a : Option Addr} {len cap c : Nat} {cs : Nat → Value} (h : Row w B a len cap c cs) (hB : B ≤ B') : Row w B' a len cap c cs := h.below (Below.refl _ _) hB
/-- What a literal has just made, of any elements. -/
theorem Row.new {w : World} {t : TypeId} {g : Nat} {l : Array Value} {fr : Nat × Nat} {n c : Nat} {cs : Nat → Value} (h : w.heap[g]? = some (.cells l t fr)) (hl : ∀ j, j < n * c → l[j]? = some (cs j)) (hm : n ≤ maxLen) : Row w w.heap.size (some ⟨g, 0, none⟩) n n c cs :=
  ⟨Nat.le_refl _, hm, fun _ => ⟨g, 0, rfl, lt_of_heap h, fun k hk => by rw [Nat.zero_add, cell_of_row w g k l t fr h, hl k hk]⟩⟩

/-- What is owned reads as a slice of bytes, and lies where it may. -/
theorem OwnB.sl_base {w : World} {base : Nat} {e : TypeId} {v : Value} {bs : List Nat} (h : OwnB w base e v bs) (hb : ∀ c ∈ bs, c < 256) :
    ∃ a cap, v = .slice a bs.length cap ∧ Sl w w.heap.size a bs.length cap bs ∧ ∀ b o, a = some ⟨b, o, none⟩ → base ≤ b := by
  obtain ⟨a, cap, hv, hs⟩ := h.sl hb
  refine ⟨a, cap, hv, hs, ?_⟩
  rintro b o rfl
  rcases h.2 with ⟨h', h0⟩ | ⟨g, cap', cur, h', hbase, _⟩
  · rw [hv] at h'; cases h'
  · rw [hv] at h'
    injection h' with h1 h2 h3
    injection h1 with h4
    injection h4 with h5
    omega
theorem OwnB.mono {w : World} {base base' : Nat} {e : TypeId} {v : Value} {bs : List Nat} (h : OwnB w base e v bs) (hb : base' ≤ base) : OwnB w base' e v bs := by
  refine ⟨h.1, ?_⟩
  rcases h.2 with h1 | ⟨g, cap, cur, rfl, h2, h3⟩
  · exact .inl h1
  · exact .inr ⟨g, cap, cur, rfl, Nat.le_trans hb h2, h3⟩
theorem grown_of_below {w w' : World} (hb : Below w.heap.size w w') (r : Option Nat) : w.grownBy w' r := ⟨hb.os, hb.tape, hb.output, hb.size, fun k hk _ => hb.block k hk⟩
theorem OwnB.below {w w' : World} {base : Nat} {e : TypeId} {v : Value} {bs : List Nat} (h : OwnB w base e v bs) (hb : Below w.heap.size w w') : OwnB w' base e v bs :=
  World.ownsRow.kept h (grown_of_below hb none) (by cases hv : v.ownBlock <;> simp)
/-- Where what is owned lies. -/
theorem OwnB.at_base {w : World} {base : Nat} {e : TypeId} {v : Value} {bs : List Nat} (h : OwnB w base e v bs) {b : Nat} (hb : v.ownBlock = some b) : base ≤ b ∧ b < w.heap.size := by
  rcases h.2 with ⟨rfl, _⟩ | ⟨g, cap, cur, rfl, h2, h3, _⟩
  · cases hb
  · injection hb with hb
    subst hb
    exact ⟨h2, lt_of_heap h3⟩
theorem Sl.one (w : World) (t : TypeId) {c : Nat} (hc : c < 256) : Sl (w.alloc (.cells #[.int .u8 (c : Int)] t)) (w.alloc (.cells #[.int .u8 (c : Int)] t)).heap.size (some ⟨w.heap.size, 0, none⟩) 1 1 [c] :=
  Sl.new (bs := [c]) (heap_alloc_new _ _) rfl (by intro x hx; simp at hx; omega) 1 rfl (by simp [maxLen])
theorem Sl.drew {w : World} {B : Nat} {a : Option Addr} {len cap : Nat} {bs : List Nat} (h : Sl w B a len cap bs) : Sl w.drew B a len cap bs := ⟨h.length, h.le, h.max, h.byte, h.none_, h.at_⟩
theorem below_drew_of {w w' : World} (h : Below w.drew.heap.size w.drew w') : Below w.heap.size w w' := (Below.drew (Below.refl w.heap.size w)).trans h
theorem Sl.far {w : World} {B : Nat} {a : Option Addr} {len cap : Nat} {bs : List Nat} (h : Sl w B a len cap bs) (p : Addr) (u : Value) (hne : 0 < len → ∀ b o, a = some ⟨b, o, none⟩ → b ≠ p.block) : Sl (w.setCell p u) B a len cap bs :=
  ⟨h.length, h.le, h.max, h.byte, h.none_, fun hp => by
    obtain ⟨b, o, e, hlt, hc⟩ := h.at_ hp
    exact ⟨b, o, e, hlt, fun k hk => cell_set_far (p := p) (hc k hk) (hne hp b o e)⟩⟩
theorem Sl.farCells {B : Nat} {a : Option Addr} {len cap : Nat} {bs : List Nat} (g : Nat) (hne : 0 < len → ∀ b o, a = some ⟨b, o, none⟩ → b ≠ g) : ∀ (vs : List Value) (o : Nat) {w : World}, Sl w B a len cap bs → Sl (w.setCells g o vs) B a len cap bs
  | [], _, _, h => h
  | v :: r, o, _, h => Sl.farCells g hne r (o + 1) (h.far ⟨g, o, none⟩ v hne)
theorem size_setCells (g : Nat) : ∀ (vs : List Value) (o : Nat) (w : World), (w.setCells g o vs).heap.size = w.heap.size
  | [], _, _ => rfl
  | v :: r, o, w => (size_setCells g r (o + 1) _).trans (by simp [World.setCell])
theorem Sl.kept {w w' : World} {B : Nat} {a : Option Addr} {len cap : Nat} {bs : List Nat} {r : Option Nat} (h : Sl w B a len cap bs) (hg : w.grownBy w' r) (hne : 0 < len → ∀ b o, a = some ⟨b, o, none⟩ → some b ≠ r) : Sl w' B a len cap bs :=
  ⟨h.length, h.le, h.max, h.byte, h.none_, fun hp => by
    obtain ⟨b, o, e, hlt, hc⟩ := h.at_ hp
    exact ⟨b, o, e, hlt, fun k hk => hg.cell (hc k hk) (hne hp b o e)⟩⟩

/-! Bytes as a string. -/
def strOf (bs : List Nat) : ByteArray := ⟨(bs.map fun n => UInt8.ofNat n).toArray⟩
theorem strOf_nil : strOf [] = ByteArray.empty := rfl
theorem strOf_inj {a b : List Nat} (ha : ∀ c ∈ a, c < 256) (hb : ∀ c ∈ b, c < 256) (h : strOf a = strOf b) : a = b := by
  have h1 : (a.map fun n => UInt8.ofNat n) = (b.map fun n => UInt8.ofNat n) := by
    have := congrArg (fun s : ByteArray => s.data.toList) h
    simpa [strOf] using this
  have h2 : ∀ (l : List Nat), (∀ c ∈ l, c < 256) → (l.map fun n => UInt8.ofNat n).map UInt8.toNat = l := by
    intro l hl
    rw [List.map_map]
    conv => rhs; rw [← List.map_id l]
    apply List.map_congr_left
    intro c hc
    have := hl c hc
    simp; omega
  rw [← h2 a ha, ← h2 b hb, h1]
theorem strOf_eq {a b : List Nat} (ha : ∀ c ∈ a, c < 256) (hb : ∀ c ∈ b, c < 256) : strOf a = strOf b ↔ a = b := ⟨strOf_inj ha hb, fun h => by rw [h]⟩
theorem run_str {P : Program} {w : World} {B : Nat} {a : Option Addr} {len cap : Nat} {bs : List Nat} (h : Sl w B a len cap bs) (src e dst : TypeId) (hs : P.underlying src = some (.slice e)) (he : P.underlying e = some (.int .u8))
    (hd : P.underlying dst = some .string) : (convert src dst (.slice a len cap)).run P w = .ok (.string (strOf bs)) w := by
  by_cases hl : 0 < len
  · obtain ⟨b, o, rfl, _, hc⟩ := h.at_ hl
    have := run_convert_bytes_arg (P := P) w src e hs he b o len cap (bs.map fun n => ((n : Nat) : Int)) (by rw [List.length_map, h.length]) (fun i hi => by
      rw [hc i hi, List.getD_eq_getElem?_getD, List.getD_eq_getElem?_getD, List.getElem?_map, List.getElem?_eq_getElem (by rw [h.length]; exact hi)]; rfl) dst hd
    rw [this]
    congr 2
    simp [strOfNums, strOf, Function.comp_def]
  · have hbs : bs = [] := List.eq_nil_of_length_eq_zero (by rw [h.length]; omega)
    subst hbs
    have hl0 : len = 0 := by omega
    subst hl0
    cases a with
    | none => rw [strOf_nil]; exact run_convert_bytes_nil w src e hs he 0 cap dst hd
    | some x =>
      rw [run_convert_bytes_string w src dst e _ 0 cap hs he hd]
      rw [run_bytesToString w _ 0 cap [] (by simp [loadCells]; rfl)]
      simp [strOf_nil]
end Go.Proofs.Ytcfehddnccdejaa
