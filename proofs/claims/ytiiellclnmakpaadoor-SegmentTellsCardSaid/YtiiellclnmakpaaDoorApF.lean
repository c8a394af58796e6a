/- 'append(s, x...)' of bytes onto a slice of bytes without spare room: what comes is the call's own. -/
import Derived.Test.YtiiellclnmakpaaDoorOwn
import Derived.Laws.Append
namespace Go.Proofs.YtiiellclnmakpaaDoor
open Go.RowKit

theorem wpList_append_full {P : Program} {w : World} {ops : Array Oper} {rest : List Oper} {o : Oper} {a : Act} {Q : Exit → Act → World → Prop} (hgd : o.guard = none) (s x : Operand) (t : TypeId)
    (ho : o.op = .call { callee := .builtin .append, args := #[s, x], argTypes := #[t, t] })
    (e : TypeId) (ht : P.underlying t = some (.slice e)) (hi : (P.info? e).map (fun i => (i.zero, i.size, i.bytes)) = some (some (.int .u8 0), 1, 1))
    (B : Nat) (A : Addr) (n : Nat) (bs : List Nat) (hs : a.eval s = .slice (some A) n n) (hb : Sl w B (some A) n n bs)
    (B' : Nat) (A' : Addr) (m c : Nat) (cs : List Nat) (hx : a.eval x = .slice (some A') m c) (hc : Sl w B' (some A') m c cs)
    (hm : 0 < m) (hbytes : n + m ≤ 140737488355328)
    (h : ∀ v' w', OwnB w' w.heap.size e v' (bs ++ cs) → Below w.heap.size w w' → wpList P ops Q rest (a.put o.dst v') w') :
    wpList P ops Q (o :: rest) a w := by
  obtain ⟨i, hi, hz0, hz1, hz2⟩ := info_parts hi
  refine wpList_plain hgd fun K hK => ?_
  have hln := hb.length
  have hlm := hc.length
  have hr := run_append_grow (P := P) (w := w) t o.type e i (.int .u8 0) ht hi hz0 A n n (bs.map bv) (by rw [List.length_map, hln, hz1]; omega) hb.news A' m c (cs.map bv) (by rw [List.length_map, hlm, hz1]; omega) hc.news (by omega) (by omega) (growslice_fits (by omega) (by rw [hz2]; omega))
  unfold Oper.wp execOp
  simp only [ho, resolve, invoke, builtin, Sem.run_bind, Sem.run_pure, Result.andThen_ok, List.map_toArray, List.map_cons, List.map_nil, hs, hx, hr]
  refine hK _ _ (h _ _ ?_ ((Below.drew (Below.refl _ _)).alloc (Nat.le_refl _) _))
  have hlen : (bs ++ cs).length = n + m := by rw [List.length_append, hln, hlm]
  have hge := grownCap_ge w (n + m) n e
  have hcm : grownCap w (n + m) n e ≤ maxLen := grownCap_le_maxLen w (n + m) n e (by unfold maxLen; omega)
  unfold OwnB
  rw [hlen]
  refine ⟨by rw [List.length_map, hlen]; omega, .inr ⟨w.heap.size, _, _, rfl, Nat.le_refl _, heap_alloc_new w.drew _, hge, hcm, ?_, ?_⟩⟩
  · simp only [Array.size_append, List.size_toArray, size_zeroCells, List.length_map, hln, hlm]
    simp [Value.cells]
    omega
  · simp only [Array.toList_append, List.append_assoc]
    rw [← List.append_assoc, ← List.map_append, Nat.mul_one]
    rw [← hlen, show (bs ++ cs).length = ((bs ++ cs).map bv).length from (List.length_map _).symm]
    exact List.take_left
end Go.Proofs.YtiiellclnmakpaaDoor
