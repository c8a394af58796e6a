/- Rows of numbers: append of any row to numbers of the call's own; cuts. -/
import Derived.Test.YtcfehddnccdejaaInts
import Derived.Maps.AppendAt
import Derived.Laws.AppendOwnNone
namespace Go.Proofs.Ytcfehddnccdejaa
set_option linter.unusedSimpArgs false
set_option linter.unusedVariables false
open Go.RowKit

theorem i64V_one (cs : List Int) : ∀ u ∈ i64V cs, u.oneCell' = true := by
  intro u hu
  obtain ⟨n, _, rfl⟩ := List.mem_map.1 hu
  rfl
theorem Row.news {w : World} {B : Nat} {ad : Addr} {m c : Nat} {l : List Int} (h : Row w B (some ad) m c 1 (intsC l)) (hl : l.length = m) : ∀ j u, (i64V l)[j]? = some u → w.cell? (ad.add j) = some u := by
  intro j u hu
  rw [List.getElem?_map] at hu
  obtain ⟨n, hn, rfl⟩ := Option.map_eq_some_iff.1 hu
  have hj : j < m := by
    have := (List.getElem?_eq_some_iff.1 hn).1
    rw [← hl]; exact this
  obtain ⟨b, o, e, _, hc⟩ := h.at_ (by omega)
  have he : ad = ⟨b, o, none⟩ := by injection e
  subst he
  rw [Addr.add_mid, hc j (by omega)]
  simp only [intsC, List.getD_eq_getElem?_getD, hn]
  rfl
theorem OwnV.at_base {w : World} {base : Nat} {e : TypeId} {v : Value} {us : List Value} (h : OwnV w base e v us) {b : Nat} (hb : v.ownBlock = some b) : base ≤ b ∧ b < w.heap.size := by
  rcases h.2 with ⟨rfl, _⟩ | ⟨g, cap, cur, rfl, h2, h3, _⟩
  · cases hb
  · injection hb with hb
    subst hb
    exact ⟨h2, lt_of_heap h3⟩
theorem OwnV.lit_ {w : World} {base : Nat} (e : TypeId) (l : List Int) (hb : base ≤ w.heap.size) (hm : l.length ≤ maxLen) :
    OwnV (w.alloc (.cells (i64V l).toArray e)) base e (.slice (some ⟨w.heap.size, 0, none⟩) l.length l.length) (i64V l) := by
  have := World.ownsRow_lit (base := base) (e := e) (size := 1) w (i64V l).toArray l.length hb hm (by simp)
  simpa [OwnV] using this
/-- 'append(v, x...)' of numbers onto numbers of the call's own, x any slice, nil too. -/
theorem wpList_append_ints {P : Program} {w : World} {ops : Array Oper} {rest : List Oper} {o : Oper} {a : Act} {Q : Exit → Act → World → Prop} (hgd : o.guard = none) (s x : Operand) (t : TypeId)
    (ho : o.op = .call { callee := .builtin .append, args := #[s, x], argTypes := #[t, t] })
    (base : Nat) (e : TypeId) (ht : P.underlying t = some (.slice e)) (hi : (P.info? e).map (fun i => (i.zero, i.size, i.bytes)) = some (some (.int .i64 0), 1, 8))
    (v : Value) (l : List Int) (hs : a.eval s = v) (hown : OwnV w base e v (i64V l))
    (B : Nat) (A : Option Addr) (m c : Nat) (l2 : List Int) (hx : a.eval x = .slice A m c) (hc : Row w B A m c 1 (intsC l2)) (hl2 : l2.length = m) (hA : A = none → m = 0 ∧ c = 0)
    (hbytes : l.length + m ≤ 1000000000) (hbase : base ≤ w.heap.size)
    (h : ∀ v' w', OwnV w' base e v' (i64V (l ++ l2)) → w.grownBy w' v.ownBlock → (v'.ownBlock = v.ownBlock ∨ v'.ownBlock = some w.heap.size) → wpList P ops Q rest (a.put o.dst v') w') :
    wpList P ops Q (o :: rest) a w := by
  obtain ⟨i, hi, hz0, hz1, hz2⟩ := info_parts hi
  cases A with
  | none =>
    obtain ⟨hm0, hc0⟩ := hA rfl
    subst hc0 hm0
    have hcs : l2 = [] := List.eq_nil_of_length_eq_zero hl2
    subst hcs
    refine wpList_append_own_none hgd s x t ho base e i 1 ht hi v (i64V l).length (i64V l) hs hown hx ?_
    exact h v w (by simpa using hown) (World.grownBy.refl w _) (.inl rfl)
  | some ad =>
    refine wpList_append_own_at w hgd s x t ho base e i (.int .i64 0) 1 8 ht hi hz0 hz1 hz2 rfl (by decide) v (i64V l).length (i64V l) hs hown ad m c (i64V l2) hx (by rw [List.length_map, hl2]; omega) (hc.news hl2) (i64V_one l2)
      (by unfold maxLen; rw [List.length_map]; omega) (by rw [List.length_map]; omega) hbase ?_
    intro v' w' h1 h2 _ h4
    refine h v' w' ?_ h2 h4
    unfold OwnV
    have e1 : i64V (l ++ l2) = i64V l ++ i64V l2 := List.map_append
    rw [e1, List.length_append, show (i64V l2).length = m by rw [List.length_map, hl2]]
    exact h1
/-- The first ones of a row, and those from one on. -/
theorem Row.take_ {w : World} {B : Nat} {a : Option Addr} {n c : Nat} {l : List Int} (h : Row w B a n c 1 (intsC l)) {k : Nat} (hk : k ≤ n) (hl : l.length = n) : Row w B a k c 1 (intsC (l.take k)) := by
  refine ⟨Nat.le_trans hk h.le, h.max, fun hp => ?_⟩
  obtain ⟨b, o, e, hb, hc⟩ := h.at_ (by omega)
  refine ⟨b, o, e, hb, fun j hj => ?_⟩
  rw [hc j (by omega)]
  simp only [intsC, List.getD_eq_getElem?_getD, List.getElem?_take]
  rw [if_pos (by omega)]
theorem Row.from_ {w : World} {B : Nat} {a : Option Addr} {n c : Nat} {l : List Int} (h : Row w B a n c 1 (intsC l)) {k : Nat} (hk : k ≤ n) (hl : l.length = n) : Row w B (fromA a c k) (n - k) (c - k) 1 (intsC (l.drop k)) := by
  have hle := h.le
  have hmx := h.max
  refine ⟨by omega, by omega, fun hp => ?_⟩
  obtain ⟨b, o, e, hb, hc⟩ := h.at_ (by omega)
  subst e
  have hck : k ≠ c := by omega
  refine ⟨b, o + k, ?_, hb, fun j hj => ?_⟩
  · unfold fromA
    rw [if_neg (by omega)]
    show some (Addr.add ⟨b, o, none⟩ k) = _
    rw [Addr.add_mid]
  · rw [show o + k + j = o + (k + j) by omega, hc (k + j) (by omega)]
    simp only [intsC, List.getD_eq_getElem?_getD, List.getElem?_drop]
/-! Cuts of a slice of one-cell values, in one form whatever the address. -/
section
variable {P : Program} (t e : TypeId) (ht : P.underlying t = some (.slice e)) {z : Value} {by_ : Nat} (hi : (P.info? e).map (fun i => (i.zero, i.size, i.bytes)) = some (some z, 1, by_))
include ht hi
theorem run_cut1_to (a : Option Addr) (len cap k : Nat) (hk : k ≤ cap) (w : World) :
    (Instr.slice t (.slice a len cap) none (some (.int .i64 (k : Int))) none).run P w = .ok (.slice a k cap) w := by
  obtain ⟨i, hi, _, hz1, _⟩ := info_parts hi
  have hs : (sizeOf e).run P w = .ok 1 w := by simp [sizeOf, typeInfo, hi, hz1]
  have ht' : P.underlying t = some (.slice (P.elem t)) := by simp [Program.elem, ht]
  have he : P.elem t = e := by simp [Program.elem, ht]
  rw [run_slice_h w t _ _ _ ht' .i64 _ (by omega) (by omega), he, hs]
  have ha : a.map (fun x => x.add 0) = a := by cases a <;> simp [Addr.add]
  simp [Result.andThen, sliced, ha]
theorem run_cut1_from (a : Option Addr) (len cap k : Nat) (hk : k ≤ len) (w : World) :
    (Instr.slice t (.slice a len cap) (some (.int .i64 (k : Int))) none none).run P w = .ok (.slice (if cap = k then a else a.map (·.add k)) (len - k) (cap - k)) w := by
  obtain ⟨i, hi, _, hz1, _⟩ := info_parts hi
  have hs : (sizeOf e).run P w = .ok 1 w := by simp [sizeOf, typeInfo, hi, hz1]
  have ht' : P.underlying t = some (.slice (P.elem t)) := by simp [Program.elem, ht]
  have he : P.elem t = e := by simp [Program.elem, ht]
  rw [run_slice_l w t _ _ _ ht' .i64 _ (by omega) (by omega), he, hs]
  simp [Result.andThen, sliced]
theorem run_cut1_mid (a : Option Addr) (len cap j k : Nat) (hj : j ≤ k) (hk : k ≤ cap) (w : World) :
    (Instr.slice t (.slice a len cap) (some (.int .i64 (j : Int))) (some (.int .i64 (k : Int))) none).run P w = .ok (.slice (if cap = j then a else a.map (·.add j)) (k - j) (cap - j)) w := by
  obtain ⟨i, hi, _, hz1, _⟩ := info_parts hi
  have hs : (sizeOf e).run P w = .ok 1 w := by simp [sizeOf, typeInfo, hi, hz1]
  have ht' : P.underlying t = some (.slice (P.elem t)) := by simp [Program.elem, ht]
  have he : P.elem t = e := by simp [Program.elem, ht]
  rw [run_slice_lh w t _ _ _ ht' .i64 .i64 _ _ (by omega) (by omega) (by omega), he, hs]
  simp [Result.andThen, sliced]
end
end Go.Proofs.Ytcfehddnccdejaa
