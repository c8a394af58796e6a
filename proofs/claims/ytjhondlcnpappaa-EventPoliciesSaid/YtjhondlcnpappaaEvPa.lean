/- Policies that are none, as mathematics; rows of pairs of the call's own. -/
import Derived.Test.YtjhondlcnpappaaEvHe
import Derived.Maps.AppendAt
import Derived.Laws.AppendOwnNone
namespace Go.Proofs.Ytjhondlcnpappaa
open Go.RowKit
open Wir Evn
set_option linter.unusedVariables false
set_option linter.unusedSimpArgs false

namespace Evn
theorem bandsR_le : ∀ (l : List (Int × Int)) (m : Int) (x : Int × Int), bandsR m (l ++ [x]) = true → m ≤ x.1 ∧ ∀ y ∈ l, y.1 < x.1
  | [], m, x, h => by
    simp [bandsR] at h
    exact ⟨h.1.1, by simp⟩
  | a :: l, m, x, h => by
    simp only [List.cons_append, bandsR, Bool.and_eq_true, decide_eq_true_eq] at h
    obtain ⟨h1, h2⟩ := bandsR_le l (a.1 + 1) x h.2.2
    refine ⟨by omega, fun y hy => ?_⟩
    rcases List.mem_cons.1 hy with rfl | hy
    · omega
    · exact h2 y hy
theorem slotsR_le : ∀ (l : List (Int × Int)) (p m : Int) (x : Int × Int), slotsR p m (l ++ [x]) = true → m ≤ x.1 ∧ x.1 ≤ p - 1 ∧ ∀ y ∈ l, y.1 < x.1
  | [], p, m, x, h => by
    simp [slotsR] at h
    exact ⟨h.1.1, h.1.2, by simp⟩
  | a :: l, p, m, x, h => by
    simp only [List.cons_append, slotsR, Bool.and_eq_true, decide_eq_true_eq] at h
    obtain ⟨h1, h2, h3⟩ := slotsR_le l p (a.1 + 1) x h.2.2
    refine ⟨by omega, h2, fun y hy => ?_⟩
    rcases List.mem_cons.1 hy with rfl | hy
    · omega
    · exact h3 y hy
theorem bandsR_up : ∀ (l : List (Int × Int)) (m : Int) (k : Nat), bandsR m l = true → k + 1 < l.length → (l.getD k (0, 0)).1 < (l.getD (k + 1) (0, 0)).1
  | [], _, _, _, hk => by simp at hk
  | [_], _, _, _, hk => by simp at hk
  | a :: b :: r, m, 0, h, _ => by
    simp only [bandsR, Bool.and_eq_true, decide_eq_true_eq] at h
    show a.1 < b.1
    omega
  | a :: b :: r, m, k + 1, h, hk => by
    have h' : bandsR (a.1 + 1) (b :: r) = true := by
      rw [bandsR, Bool.and_eq_true, Bool.and_eq_true] at h
      exact h.2.2
    exact bandsR_up (b :: r) (a.1 + 1) k h' (by simpa using hk)
theorem last_mem {l : List (Int × Int)} (h : 0 < l.length) : l.getD (l.length - 1) (0, 0) ∈ l := by
  rw [List.getD_eq_getElem?_getD, List.getElem?_eq_getElem (by omega)]
  exact List.getElem_mem _
theorem last_split {l : List (Int × Int)} (h : 0 < l.length) : ∃ r, l = r ++ [l.getD (l.length - 1) (0, 0)] := by
  refine ⟨l.take (l.length - 1), ?_⟩
  apply List.ext_getElem?
  intro j
  by_cases h1 : j < l.length - 1
  · rw [List.getElem?_append_left (by simp; omega), List.getElem?_take, if_pos h1]
  · by_cases h2 : j = l.length - 1
    · subst h2
      rw [List.getElem?_append_right (by simp), List.getD_eq_getElem?_getD, List.getElem?_eq_getElem (by omega)]
      simp
    · rw [List.getElem?_eq_none (by omega), List.getElem?_eq_none (by rw [List.length_append, List.length_take]; simp; omega)]
/-- Two neighbours, the other way round. -/
def sw (l : List (Int × Int)) (k : Nat) : List (Int × Int) := (l.set k (l.getD (k + 1) (0, 0))).set (k + 1) (l.getD k (0, 0))
theorem sw_len (l : List (Int × Int)) (k : Nat) : (sw l k).length = l.length := by simp [sw]
theorem sw_bad {l : List (Int × Int)} {m : Int} {k : Nat} (h : bandsR m l = true) (hk : k + 1 < l.length) (m' : Int) : bandsR m' (sw l k) = false := by
  cases hs : bandsR m' (sw l k)
  · rfl
  · have h1 := bandsR_up l m k h hk
    have h2 := bandsR_up (sw l k) m' k hs (by rw [sw_len]; exact hk)
    have e1 : (sw l k).getD k (0, 0) = l.getD (k + 1) (0, 0) := by
      rw [List.getD_eq_getElem?_getD]
      unfold sw
      rw [List.getElem?_set_ne (by omega), List.getElem?_set_self (by omega)]
      rfl
    have e2 : (sw l k).getD (k + 1) (0, 0) = l.getD k (0, 0) := by
      rw [List.getD_eq_getElem?_getD]
      unfold sw
      rw [List.getElem?_set_self (by simp; omega)]
      rfl
    rw [e1, e2] at h2
    omega
theorem bandsOk_twice {l : List (Int × Int)} (h : 0 < l.length) : bandsOk (l ++ [l.getD (l.length - 1) (0, 0)]) = false := by
  unfold bandsOk
  cases hs : bandsR 0 (l ++ [l.getD (l.length - 1) (0, 0)])
  · simp
  · have := (bandsR_le _ _ _ hs).2 _ (last_mem h)
    omega
theorem slotsOk_twice {l : List (Int × Int)} (p : Int) (h : 0 < l.length) : slotsOk (l ++ [l.getD (l.length - 1) (0, 0)]) p = false := by
  unfold slotsOk
  cases hs : slotsR p 0 (l ++ [l.getD (l.length - 1) (0, 0)])
  · simp
  · have := (slotsR_le _ _ _ _ hs).2.2 _ (last_mem h)
    omega
theorem slotsOk_period {l : List (Int × Int)} (h : 0 < l.length) : slotsOk l (l.getD (l.length - 1) (0, 0)).1 = false := by
  unfold slotsOk
  obtain ⟨r, hr⟩ := last_split h
  cases hs : slotsR (l.getD (l.length - 1) (0, 0)).1 0 l
  · simp
  · rw [hr] at hs
    rw [← hr] at hs
    generalize he : l.getD (l.length - 1) (0, 0) = x at hr hs
    rw [hr] at hs
    have := (slotsR_le _ _ _ _ hs).2.1
    omega
theorem pol_kinds {p : Pl} (h : polR p = true) : p.kind = 1 ∨ p.kind = 2 ∨ p.kind = 3 ∨ p.kind = 4 := by
  unfold polR at h
  split at h
  · omega
  split at h
  · omega
  split at h
  · omega
  split at h
  · omega
  · cases h
theorem pol_two {p : Pl} (h : polR p = true) (hk : p.kind = 2) : 1 ≤ p.bands.length ∧ p.bands.length ≤ 8 ∧ bandsR 0 p.bands = true ∧ p.slots = [] := by
  unfold polR at h
  rw [if_neg (by omega), if_pos hk] at h
  unfold bandsOk zeroR at h
  simp only [Bool.and_eq_true, decide_eq_true_eq] at h
  exact ⟨h.1.1.1, h.1.1.2, h.1.2, List.eq_nil_of_length_eq_zero h.2.2.2.2.2.2.2.2⟩
theorem pol_four {p : Pl} (h : polR p = true) (hk : p.kind = 4) : 1 ≤ p.slots.length ∧ p.slots.length ≤ 8 ∧ p.bands = [] := by
  unfold polR at h
  rw [if_neg (by omega), if_neg (by omega), if_neg (by omega), if_pos hk] at h
  unfold slotsOk zeroR at h
  simp only [Bool.and_eq_true, decide_eq_true_eq] at h
  exact ⟨h.1.2.1.1, h.1.2.1.2, List.eq_nil_of_length_eq_zero h.2.2.2.2.2.2.2.1⟩
theorem pol_plain {p : Pl} (h : polR p = true) (hk : p.kind ≠ 2) (hk' : p.kind ≠ 4) : polR { p with target := 0 } = false ∧ p.bands = [] ∧ p.slots = [] := by
  have h4 := pol_kinds h
  have h5 : p.kind = 1 ∨ p.kind = 3 := by omega
  unfold polR zeroR at *
  rcases h5 with h5 | h5 <;> simp [h5] at h ⊢
  · exact ⟨h.2.2.2.2.2.1, h.2.2.2.2.2.2⟩
  · exact ⟨h.2.2.1, h.2.2.2⟩
theorem pol_twice_b {p : Pl} (h : polR p = true) (hk : p.kind = 2) : polR { p with bands := p.bands ++ [p.bands.getD (p.bands.length - 1) (0, 0)] } = false := by
  have h2 := bandsOk_twice (l := p.bands) (by have := pol_two h hk; omega)
  unfold polR
  simp only [hk, h2]
  simp
theorem pol_twice_s {p : Pl} (h : polR p = true) (hk : p.kind = 4) : polR { p with slots := p.slots ++ [p.slots.getD (p.slots.length - 1) (0, 0)] } = false := by
  have h2 := slotsOk_twice (l := p.slots) p.period (by have := pol_four h hk; omega)
  unfold polR
  simp only [hk, h2]
  simp
theorem pol_swap {p : Pl} {k : Nat} (h : polR p = true) (hk : p.kind = 2) (hl : k + 1 < p.bands.length) : polR { p with bands := sw p.bands k } = false := by
  have h2 : bandsOk (sw p.bands k) = false := by
    unfold bandsOk
    rw [sw_bad (pol_two h hk).2.2.1 hl]
    simp
  unfold polR
  simp only [hk, h2]
  simp
theorem pol_period {p : Pl} (h : polR p = true) (hk : p.kind = 4) : polR { p with period := (p.slots.getD (p.slots.length - 1) (0, 0)).1 } = false := by
  have h2 := slotsOk_period (l := p.slots) (by have := pol_four h hk; omega)
  unfold polR
  simp only [hk, h2]
  simp
end Evn

/-- Pairs as cells. -/
def pcells (l : List (Int × Int)) : List Value := (pairs l).map fun n => .int .i64 n
theorem pcells_len (l : List (Int × Int)) : (pcells l).length = l.length * 2 := by rw [pcells, List.length_map, pairs_len]; omega
theorem pcells_append (a b : List (Int × Int)) : pcells (a ++ b) = pcells a ++ pcells b := by simp [pcells, pairs_append]
theorem pcells_one (l : List (Int × Int)) : ∀ u ∈ pcells l, u.oneCell' = true := by
  intro u hu
  obtain ⟨n, _, rfl⟩ := List.mem_map.1 hu
  rfl
theorem pcells_get (l : List (Int × Int)) (j : Nat) (hj : j < l.length * 2) : (pcells l)[j]? = some (intsC (pairs l) j) := by
  have : j < (pairs l).length := by rw [pairs_len]; omega
  simp [pcells, intsC, List.getElem?_eq_getElem this]
theorem PRow.news {w : World} {ad : Addr} {m c : Nat} {l : List (Int × Int)} (h : PRow w (some ad) m c l) : ∀ j u, (pcells l)[j]? = some u → w.cell? (ad.add j) = some u := by
  intro j u hu
  have hj : j < m * 2 := by
    have := (List.getElem?_eq_some_iff.1 hu).1
    rw [pcells_len, h.2] at this
    exact this
  obtain ⟨b, o, e, _, hc⟩ := h.1.at_ (by omega)
  have he : ad = ⟨b, o, none⟩ := by injection e
  subst he
  rw [Addr.add_mid, hc j (by omega), ← pcells_get l j (by rw [h.2]; exact hj), hu]
/-- v owns these pairs. -/
def OwnP (w : World) (base : Nat) (e : TypeId) (v : Value) (l : List (Int × Int)) : Prop := w.ownsRow base e 2 v l.length (pcells l)
theorem OwnP.prow {w : World} {base : Nat} {e : TypeId} {v : Value} {l : List (Int × Int)} (h : OwnP w base e v l) : ∃ a cap, v = .slice a l.length cap ∧ PRow w a l.length cap l := by
  rcases h.2 with ⟨rfl, h0⟩ | ⟨g, cap, cur, rfl, hb, hh, hn, hc, hsz, htk⟩
  · have : l = [] := List.eq_nil_of_length_eq_zero h0
    subst this
    exact ⟨none, 0, rfl, ⟨Nat.le_refl _, by simp [maxLen], fun hp => absurd hp (by simp)⟩, rfl⟩
  · refine ⟨_, cap, rfl, ⟨hn, hc, fun _ => ⟨g, 0, rfl, lt_of_heap hh, fun j hj => ?_⟩⟩, rfl⟩
    rw [Nat.zero_add, World.ownsRow.cellAt h j hj, pcells_get l j hj]
theorem OwnP.below {w w' : World} {base : Nat} {e : TypeId} {v : Value} {l : List (Int × Int)} (h : OwnP w base e v l) (hb : Below w.heap.size w w') : OwnP w' base e v l :=
  World.ownsRow.kept h (grown_of_below hb none) (by cases hv : v.ownBlock <;> simp)
theorem OwnP.lit_ (w : World) (base : Nat) (e : TypeId) (hb : base ≤ w.heap.size) : OwnP (w.alloc (.cells #[] e)) base e (.slice (some ⟨w.heap.size, 0, none⟩) 0 0) [] := by
  have := World.ownsRow_lit (base := base) (e := e) (size := 2) w #[] 0 hb (by simp [maxLen]) rfl
  exact this
theorem run_append_none2 {P : Program} {w : World} (base : Nat) (t ty e : TypeId) (i : TypeInfo) (size c : Nat) (ht : P.underlying t = some (.slice e)) (hi : P.info? e = some i)
    (v : Value) (n : Nat) (xs : List Value) (hown : w.ownsRow base e size v n xs) :
    (Builtin.append_ #[t, t] ty #[v, .slice none 0 c]).run P w = .ok v w := by
  rcases hown.2 with ⟨rfl, rfl⟩ | ⟨g, cap, cur, rfl, _, _, hnc, _⟩
  · simp [Builtin.append_, run_underlying ht, sizeOf, typeInfo, hi, Builtin.lenOf, Builtin.firstCells]
  · simp [Builtin.append_, run_underlying ht, sizeOf, typeInfo, hi, Builtin.lenOf, Builtin.firstCells, hnc, storeCells]
/-- 'append(v, x...)' of pairs onto pairs of the call's own, x any slice, nil too. -/
theorem wp_append_pairs {P : Program} {w : World} {o : Oper} {a : Act} {K : Act → World → Prop} {Q : Exit → Act → World → Prop} (s x : Operand) (t : TypeId)
    (ho : o.op = .call { callee := .builtin .append, args := #[s, x], argTypes := #[t, t] })
    (base : Nat) (e : TypeId) (ht : P.underlying t = some (.slice e)) (hi : (P.info? e).map (fun i => (i.zero, i.size, i.bytes)) = some (some (.agg #[.int .i64 0, .int .i64 0]), 2, 16))
    (v : Value) (l : List (Int × Int)) (hs : a.eval s = v) (hown : OwnP w base e v l)
    (A : Option Addr) (m c : Nat) (l2 : List (Int × Int)) (hx : a.eval x = .slice A m c) (hc : PRow w A m c l2)
    (hbytes : l.length + m ≤ 1000000) (hbase : base ≤ w.heap.size)
    (h : ∀ v' w', OwnP w' base e v' (l ++ l2) → w.grownBy w' v.ownBlock → (v'.ownBlock = v.ownBlock ∨ v'.ownBlock = some w.heap.size) → K (a.put o.dst v') w') : o.wp P a w K Q := by
  obtain ⟨i, hi, hz0, hz1, hz2⟩ := info_parts hi
  cases A with
  | none =>
    have hm0 : m = 0 := by
      cases Nat.eq_zero_or_pos m with
      | inl h => exact h
      | inr h =>
        obtain ⟨b, o, e, _⟩ := hc.1.at_ h
        cases e
    subst hm0
    have hcs : l2 = [] := List.eq_nil_of_length_eq_zero hc.2
    subst hcs
    have hr := run_append_none2 (P := P) (w := w) base t o.type e i 2 c ht hi v _ _ hown
    unfold Oper.wp execOp
    simp only [ho, resolve, invoke, builtin, Sem.run_bind, Sem.run_pure, Result.andThen_ok, List.map_toArray, List.map_cons, List.map_nil, hs, hx, hr]
    exact h v w (by simpa using hown) (World.grownBy.refl w _) (.inl rfl)
  | some ad =>
    obtain ⟨v', w', hr, h2, h3, h4, h5⟩ := run_append_own_at (P := P) w base t o.type e i (.agg #[.int .i64 0, .int .i64 0]) 2 16 ht hi hz0 hz1 hz2 rfl (by decide) v l.length (pcells l) hown ad m c (pcells l2) (by rw [pcells_len, hc.2]) hc.news (pcells_one l2)
      (by unfold maxLen; omega) (by omega) hbase
    unfold Oper.wp execOp
    simp only [ho, resolve, invoke, builtin, Sem.run_bind, Sem.run_pure, Result.andThen_ok, List.map_toArray, List.map_cons, List.map_nil, hs, hx, hr]
    refine h v' w' ?_ h3 h5
    unfold OwnP
    rw [pcells_append, List.length_append, hc.2]
    exact h2
theorem wpList_append_pairs {P : Program} {w : World} {ops : Array Oper} {rest : List Oper} {o : Oper} {a : Act} {Q : Exit → Act → World → Prop} (hgd : o.guard = none) (s x : Operand) (t : TypeId)
    (ho : o.op = .call { callee := .builtin .append, args := #[s, x], argTypes := #[t, t] })
    (base : Nat) (e : TypeId) (ht : P.underlying t = some (.slice e)) (hi : (P.info? e).map (fun i => (i.zero, i.size, i.bytes)) = some (some (.agg #[.int .i64 0, .int .i64 0]), 2, 16))
    (v : Value) (l : List (Int × Int)) (hs : a.eval s = v) (hown : OwnP w base e v l)
    (A : Option Addr) (m c : Nat) (l2 : List (Int × Int)) (hx : a.eval x = .slice A m c) (hc : PRow w A m c l2)
    (hbytes : l.length + m ≤ 1000000) (hbase : base ≤ w.heap.size)
    (h : ∀ v' w', OwnP w' base e v' (l ++ l2) → w.grownBy w' v.ownBlock → (v'.ownBlock = v.ownBlock ∨ v'.ownBlock = some w.heap.size) → wpList P ops Q rest (a.put o.dst v') w') :
    wpList P ops Q (o :: rest) a w :=
  wpList_plain hgd fun _ hK => wp_append_pairs s x t ho base e ht hi v l hs hown A m c l2 hx hc hbytes hbase fun v' w' h1 h2 h3 => hK _ _ (h v' w' h1 h2 h3)
end Go.Proofs.Ytjhondlcnpappaa
