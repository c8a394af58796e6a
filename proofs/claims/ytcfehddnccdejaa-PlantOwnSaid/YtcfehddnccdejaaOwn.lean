/- Bytes that the call itself owns: append onto them from any slice of bytes; what they read as. -/
import Derived.Test.YtcfehddnccdejaaMem
import Derived.OwnWalk
import Derived.Maps.AppendAt
import Derived.Laws.AppendOwnNone
namespace Go.Proofs.Ytcfehddnccdejaa
set_option linter.unusedSimpArgs false
set_option linter.unusedVariables false
open Go.RowKit

def bv (n : Nat) : Value := .int .u8 (n : Int)
theorem bv_one (bs : List Nat) : ∀ u ∈ bs.map bv, u.oneCell' = true := by
  intro u hu
  obtain ⟨n, _, rfl⟩ := List.mem_map.1 hu
  rfl
/-- v owns the bytes bs, in a block from base on. -/
def OwnB (w : World) (base : Nat) (e : TypeId) (v : Value) (bs : List Nat) : Prop := w.ownsRow base e 1 v bs.length (bs.map bv)

theorem OwnB.nil_ (w : World) (base : Nat) (e : TypeId) : OwnB w base e (.slice none 0 0) [] := World.ownsRow_nil w base e 1
theorem OwnB.lit {w : World} {base : Nat} (e : TypeId) (bs : List Nat) (hb : base ≤ w.heap.size) (hm : bs.length ≤ maxLen) :
    OwnB (w.alloc (.cells (bs.map bv).toArray e)) base e (.slice (some ⟨w.heap.size, 0, none⟩) bs.length bs.length) bs := by
  have := World.ownsRow_lit (base := base) (e := e) (size := 1) w (bs.map bv).toArray bs.length hb hm (by simp)
  simpa [OwnB] using this
/-- What is owned reads as a slice of bytes. -/
theorem OwnB.sl {w : World} {base : Nat} {e : TypeId} {v : Value} {bs : List Nat} (h : OwnB w base e v bs) (hb : ∀ c ∈ bs, c < 256) :
    ∃ a cap, v = .slice a bs.length cap ∧ Sl w w.heap.size a bs.length cap bs := by
  rcases h.2 with ⟨rfl, h0⟩ | ⟨g, cap, cur, rfl, hbase, hh, hn, hc, hsz, htake⟩
  · have : bs = [] := List.eq_nil_of_length_eq_zero h0
    subst this
    exact ⟨none, 0, rfl, Sl.nil_⟩
  · refine ⟨_, cap, rfl, ⟨rfl, hn, hc, hb, fun e => by (cases e), fun _ => ⟨g, 0, rfl, lt_of_heap hh, fun k hk => ?_⟩⟩⟩
    have hcell := World.ownsRow.cellAt h k (by omega)
    rw [Nat.zero_add, hcell, List.getElem?_map, List.getElem?_eq_getElem hk, List.getD_eq_getElem?_getD, List.getElem?_eq_getElem hk]
    rfl

theorem Sl.news {w : World} {B : Nat} {ad : Addr} {m c : Nat} {cs : List Nat} (h : Sl w B (some ad) m c cs) : ∀ j u, (cs.map bv)[j]? = some u → w.cell? (ad.add j) = some u := by
  intro j u hu
  rw [List.getElem?_map] at hu
  obtain ⟨n, hn, rfl⟩ := Option.map_eq_some_iff.1 hu
  have hj : j < m := by
    have := (List.getElem?_eq_some_iff.1 hn).1
    rw [← h.length]; exact this
  obtain ⟨b, o, e, _, hc⟩ := h.at_ (by omega)
  have he : ad = ⟨b, o, none⟩ := by injection e
  subst he
  rw [Addr.add_mid, hc j hj, List.getD_eq_getElem?_getD, hn]
  rfl

/-- 'append(v, x...)' of bytes onto bytes of the call's own, x any slice, nil too. -/
theorem wpList_append_sl {P : Program} {w : World} {ops : Array Oper} {rest : List Oper} {o : Oper} {a : Act} {Q : Exit → Act → World → Prop} (hgd : o.guard = none) (s x : Operand) (t : TypeId)
    (ho : o.op = .call { callee := .builtin .append, args := #[s, x], argTypes := #[t, t] })
    (base : Nat) (e : TypeId) (ht : P.underlying t = some (.slice e)) (hi : (P.info? e).map (fun i => (i.zero, i.size, i.bytes)) = some (some (.int .u8 0), 1, 1))
    (v : Value) (bs : List Nat) (hs : a.eval s = v) (hown : OwnB w base e v bs)
    (B : Nat) (A : Option Addr) (m c : Nat) (cs : List Nat) (hx : a.eval x = .slice A m c) (hc : Sl w B A m c cs)
    (hbytes : bs.length + m ≤ 140737488355328) (hbase : base ≤ w.heap.size)
    (h : ∀ v' w', OwnB w' base e v' (bs ++ cs) → w.grownBy w' v.ownBlock → (v'.ownBlock = v.ownBlock ∨ v'.ownBlock = some w.heap.size) → wpList P ops Q rest (a.put o.dst v') w') :
    wpList P ops Q (o :: rest) a w := by
  obtain ⟨i, hi, hz0, hz1, hz2⟩ := info_parts hi
  cases A with
  | none =>
    have hc0 := hc.none_ rfl
    have hm0 : m = 0 := by have := hc.le; omega
    subst hc0 hm0
    have hcs : cs = [] := List.eq_nil_of_length_eq_zero hc.length
    subst hcs
    refine wpList_append_own_none hgd s x t ho base e i 1 ht hi v bs.length (bs.map bv) hs hown hx ?_
    exact h v w (by simpa using hown) (World.grownBy.refl w _) (.inl rfl)
  | some ad =>
    refine wpList_append_own_at w hgd s x t ho base e i (.int .u8 0) 1 1 ht hi hz0 hz1 hz2 rfl (by decide) v bs.length (bs.map bv) hs hown ad m c (cs.map bv) hx (by rw [List.length_map, hc.length]; omega) hc.news (bv_one cs)
      (by unfold maxLen; omega) (by omega) hbase ?_
    intro v' w' h1 h2 _ h4
    refine h v' w' ?_ h2 h4
    have := hc.length
    unfold OwnB
    rw [List.length_append, List.map_append, this]
    exact h1
/-- What 'make([]byte, n)' leaves. -/
theorem OwnB.made {w : World} {base : Nat} {e : TypeId} {v : Value} {n : Nat} (h : w.ownsRow base e 1 v n (madeCells (Value.int .u8 0).cells (n * 1)).toList) : OwnB w base e v (List.replicate n 0) := by
  have e1 : (madeCells (Value.int .u8 0).cells (n * 1)).toList = (List.replicate n 0).map bv := by
    rw [Nat.mul_one]
    show (madeCells #[Value.int .u8 0] n).toList = _
    rw [toList_madeCells_one, List.map_replicate]
    rfl
  unfold OwnB
  rw [List.length_replicate, ← e1]
  exact h
theorem OwnB.drew {w : World} {base : Nat} {e : TypeId} {v : Value} {bs : List Nat} (h : OwnB w base e v bs) : OwnB w.drew base e v bs := h
theorem OwnB.alloc {w : World} {base : Nat} {e : TypeId} {v : Value} {bs : List Nat} (h : OwnB w base e v bs) (o : Obj) : OwnB (w.alloc o) base e v bs := World.ownsRow.alloc h o
theorem OwnB.cell {w : World} {base : Nat} {e : TypeId} {g n cap : Nat} {bs : List Nat} (h : OwnB w base e (.slice (some ⟨g, 0, none⟩) n cap) bs) {k : Nat} (hk : k < bs.length) :
    w.cell? ⟨g, k, none⟩ = some (.int .u8 ((bs.getD k 0 : Nat) : Int)) ∧ w.frozen? ⟨g, k, none⟩ = false := by
  have hn : n = bs.length := by
    rcases h.2 with ⟨h', _⟩ | ⟨g', cap', cur, h', _⟩
    · cases h'
    · injection h'
  subst hn
  refine ⟨?_, World.ownsRow.frozenAt h k⟩
  rw [World.ownsRow.cellAt h k (by omega), List.getElem?_map, List.getElem?_eq_getElem hk, List.getD_eq_getElem?_getD, List.getElem?_eq_getElem hk]
  rfl
theorem OwnB.set_ {w : World} {base : Nat} {e : TypeId} {g n cap : Nat} {bs : List Nat} (h : OwnB w base e (.slice (some ⟨g, 0, none⟩) n cap) bs) (k u : Nat) :
    OwnB (w.setCell ⟨g, k, none⟩ (bv u)) base e (.slice (some ⟨g, 0, none⟩) n cap) (bs.set k u) := by
  have hn : n = bs.length := by
    rcases h.2 with ⟨h', _⟩ | ⟨g', cap', cur, h', _⟩
    · cases h'
    · injection h'
  subst hn
  have := (World.ownsRow.stored h k (bv u)).1
  unfold OwnB
  rw [List.length_set, List.map_set]
  exact this

/-! Cuts of a slice of bytes, in one form whatever the address. -/
section
variable {P : Program} (t e : TypeId) (ht : P.underlying t = some (.slice e)) (hi : (P.info? e).map (fun i => (i.zero, i.size, i.bytes)) = some (some (.int .u8 0), 1, 1))
include ht hi
theorem run_cut_to (a : Option Addr) (len cap k : Nat) (hk : k ≤ cap) (w : World) :
    (Instr.slice t (.slice a len cap) none (some (.int .i64 (k : Int))) none).run P w = .ok (.slice a k cap) w := by
  obtain ⟨i, hi, _, hz1, _⟩ := info_parts hi
  have hs : (sizeOf e).run P w = .ok 1 w := by simp [sizeOf, typeInfo, hi, hz1]
  have ht' : P.underlying t = some (.slice (P.elem t)) := by simp [Program.elem, ht]
  have he : P.elem t = e := by simp [Program.elem, ht]
  rw [run_slice_h w t _ _ _ ht' .i64 _ (by omega) (by omega), he, hs]
  have ha : a.map (fun x => x.add 0) = a := by cases a <;> simp [Addr.add]
  simp [Result.andThen, sliced, ha]
theorem run_cut_from (a : Option Addr) (len cap k : Nat) (hk : k ≤ len) (w : World) :
    (Instr.slice t (.slice a len cap) (some (.int .i64 (k : Int))) none none).run P w = .ok (.slice (if cap = k then a else a.map (·.add k)) (len - k) (cap - k)) w := by
  obtain ⟨i, hi, _, hz1, _⟩ := info_parts hi
  have hs : (sizeOf e).run P w = .ok 1 w := by simp [sizeOf, typeInfo, hi, hz1]
  have ht' : P.underlying t = some (.slice (P.elem t)) := by simp [Program.elem, ht]
  have he : P.elem t = e := by simp [Program.elem, ht]
  rw [run_slice_l w t _ _ _ ht' .i64 _ (by omega) (by omega), he, hs]
  simp [Result.andThen, sliced]
theorem run_cut_mid (a : Option Addr) (len cap j k : Nat) (hj : j ≤ k) (hk : k ≤ cap) (w : World) :
    (Instr.slice t (.slice a len cap) (some (.int .i64 (j : Int))) (some (.int .i64 (k : Int))) none).run P w = .ok (.slice (if cap = j then a else a.map (·.add j)) (k - j) (cap - j)) w := by
  obtain ⟨i, hi, _, hz1, _⟩ := info_parts hi
  have hs : (sizeOf e).run P w = .ok 1 w := by simp [sizeOf, typeInfo, hi, hz1]
  have ht' : P.underlying t = some (.slice (P.elem t)) := by simp [Program.elem, ht]
  have he : P.elem t = e := by simp [Program.elem, ht]
  rw [run_slice_lh w t _ _ _ ht' .i64 .i64 _ _ (by omega) (by omega) (by omega), he, hs]
  simp [Result.andThen, sliced]
end
/-- 'a[k:]' as the model has it. -/
def fromA (a : Option Addr) (cap k : Nat) : Option Addr := if cap = k then a else a.map (·.add k)
theorem Sl.from_ {w : World} {B : Nat} {a : Option Addr} {len cap : Nat} {bs : List Nat} (h : Sl w B a len cap bs) {k : Nat} (hk : k ≤ len) : Sl w B (fromA a cap k) (len - k) (cap - k) (bs.drop k) :=
  h.drop hk (fun hlt => by unfold fromA; rw [if_neg (by have := h.le; omega)]) (fun hn => by unfold fromA at hn; split at hn <;> simp_all)
theorem Sl.mid {w : World} {B : Nat} {a : Option Addr} {len cap : Nat} {bs : List Nat} (h : Sl w B a len cap bs) {j k : Nat} (hj : j ≤ k) (hk : k ≤ len) : Sl w B (fromA a cap j) (k - j) (cap - j) ((bs.take k).drop j) :=
  (h.take hk).from_ hj
end Go.Proofs.Ytcfehddnccdejaa
