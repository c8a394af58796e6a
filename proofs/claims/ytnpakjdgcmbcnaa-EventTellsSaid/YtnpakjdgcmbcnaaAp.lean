/- 'append(v, x...)' of bytes onto bytes of the call's own, at a step of a region that draws its order. -/
import Derived.Test.YtnpakjdgcmbcnaaOwn
import Derived.Test.YtnpakjdgcmbcnaaTake
import Derived.Laws.OwnMore
namespace Go.Proofs.Ytnpakjdgcmbcnaa
open Go.RowKit

theorem wp_append_sl {P : Program} {w : World} {o : Oper} {a : Act} {K : Act → World → Prop} {Q : Exit → Act → World → Prop} (s x : Operand) (t : TypeId)
    (ho : o.op = .call { callee := .builtin .append, args := #[s, x], argTypes := #[t, t] })
    (base : Nat) (e : TypeId) (ht : P.underlying t = some (.slice e)) (hi : (P.info? e).map (fun i => (i.zero, i.size, i.bytes)) = some (some (.int .u8 0), 1, 1))
    (v : Value) (bs : List Nat) (hs : a.eval s = v) (hown : OwnB w base e v bs)
    (B : Nat) (A : Option Addr) (m c : Nat) (cs : List Nat) (hx : a.eval x = .slice A m c) (hc : Sl w B A m c cs)
    (hbytes : bs.length + m ≤ 140737488355328) (hbase : base ≤ w.heap.size)
    (h : ∀ v' w', OwnB w' base e v' (bs ++ cs) → w.grownBy w' v.ownBlock → (v'.ownBlock = v.ownBlock ∨ v'.ownBlock = some w.heap.size) → K (a.put o.dst v') w') :
    o.wp P a w K Q := by
  obtain ⟨i, hi, hz0, hz1, hz2⟩ := info_parts hi
  cases A with
  | none =>
    have hc0 := hc.none_ rfl
    have hm0 : m = 0 := by have := hc.le; omega
    subst hc0 hm0
    have hcs : cs = [] := List.eq_nil_of_length_eq_zero hc.length
    subst hcs
    have hrun := run_append_owned_none (P := P) (w := w) base t o.type e i 1 ht hi v bs.length (bs.map bv) hown
    unfold Oper.wp
    simp [execOp, ho, resolve, invoke, builtin, hs, hx, hrun, Result.andThen]
    exact h v w (by simpa using hown) (World.grownBy.refl w _) (.inl rfl)
  | some ad =>
    obtain ⟨v', w', hr, h1, h2, h3, h4⟩ := run_append_own_at (P := P) w base t o.type e i (.int .u8 0) 1 1 ht hi hz0 hz1 hz2 rfl (by decide) v bs.length (bs.map bv) hown ad m c (cs.map bv) (by rw [List.length_map, hc.length]; omega) hc.news (bv_one cs)
      (by unfold maxLen; omega) (by omega) hbase
    unfold Oper.wp execOp
    simp only [ho, resolve, invoke, builtin, Sem.run_bind, Sem.run_pure, Result.andThen_ok, List.map_toArray, List.map_cons, List.map_nil, hs, hx, hr]
    refine h v' w' ?_ h2 h4
    have := hc.length
    unfold OwnB
    rw [List.length_append, List.map_append, this]
    exact h1
end Go.Proofs.Ytnpakjdgcmbcnaa
