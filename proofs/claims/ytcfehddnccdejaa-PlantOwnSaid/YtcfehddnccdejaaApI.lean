/- 'append(v, x...)' of numbers onto numbers of the call's own, at a step of a region that draws its order. -/
import Derived.Test.YtcfehddnccdejaaOwI
import Derived.Test.YtcfehddnccdejaaTake
import Derived.Laws.OwnMore
namespace Go.Proofs.Ytcfehddnccdejaa
set_option linter.unusedSimpArgs false
set_option linter.unusedVariables false
open Go.RowKit

theorem wp_append_ints {P : Program} {w : World} {o : Oper} {a : Act} {K : Act → World → Prop} {Q : Exit → Act → World → Prop} (s x : Operand) (t : TypeId)
    (ho : o.op = .call { callee := .builtin .append, args := #[s, x], argTypes := #[t, t] })
    (base : Nat) (e : TypeId) (ht : P.underlying t = some (.slice e)) (hi : (P.info? e).map (fun i => (i.zero, i.size, i.bytes)) = some (some (.int .i64 0), 1, 8))
    (v : Value) (l : List Int) (hs : a.eval s = v) (hown : OwnV w base e v (i64V l))
    (B : Nat) (A : Option Addr) (m c : Nat) (l2 : List Int) (hx : a.eval x = .slice A m c) (hc : Row w B A m c 1 (intsC l2)) (hl2 : l2.length = m) (hA : A = none → m = 0 ∧ c = 0)
    (hbytes : l.length + m ≤ 1000000000) (hbase : base ≤ w.heap.size)
    (h : ∀ v' w', OwnV w' base e v' (i64V (l ++ l2)) → w.grownBy w' v.ownBlock → (v'.ownBlock = v.ownBlock ∨ v'.ownBlock = some w.heap.size) → K (a.put o.dst v') w') :
    o.wp P a w K Q := by
  obtain ⟨i, hi, hz0, hz1, hz2⟩ := info_parts hi
  cases A with
  | none =>
    obtain ⟨hm0, hc0⟩ := hA rfl
    subst hc0 hm0
    have hcs : l2 = [] := List.eq_nil_of_length_eq_zero hl2
    subst hcs
    have hrun := run_append_owned_none (P := P) (w := w) base t o.type e i 1 ht hi v (i64V l).length (i64V l) hown
    unfold Oper.wp
    simp [execOp, ho, resolve, invoke, builtin, hs, hx, hrun, Result.andThen]
    exact h v w (by simpa using hown) (World.grownBy.refl w _) (.inl rfl)
  | some ad =>
    obtain ⟨v', w', hr, h1, h2, h3, h4⟩ := run_append_own_at (P := P) w base t o.type e i (.int .i64 0) 1 8 ht hi hz0 hz1 hz2 rfl (by decide) v (i64V l).length (i64V l) hown ad m c (i64V l2) (by rw [List.length_map, hl2]; omega) (hc.news hl2) (i64V_one l2)
      (by unfold maxLen; rw [List.length_map]; omega) (by rw [List.length_map]; omega) hbase
    unfold Oper.wp execOp
    simp only [ho, resolve, invoke, builtin, Sem.run_bind, Sem.run_pure, Result.andThen_ok, List.map_toArray, List.map_cons, List.map_nil, hs, hx, hr]
    refine h v' w' ?_ h2 h4
    unfold OwnV
    have e1 : i64V (l ++ l2) = i64V l ++ i64V l2 := List.map_append
    rw [e1, List.length_append, show (i64V l2).length = m by rw [List.length_map, hl2]]
    exact h1
end Go.Proofs.Ytcfehddnccdejaa
