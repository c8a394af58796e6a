/- Arguments that came in, opened: rows of three numbers each. -/
import Derived.Test.YtkmdnmjbjbkpdaaOpenB
import Derived.Test.YtkmdnmjbjbkpdaaAsk
namespace Go.Proofs.Ytkmdnmjbjbkpdaa
open Go.ChangeShapes Go.WideShapes Go.RowKit

section
variable {H : Type} {enc : TypeId × Value → H}
set_option maxRecDepth 100000 in
theorem open_ask {W : World} {n : Nat} {cs : List Value} {x : DataW H × List MemPlace} (h : DataW.trod enc Try.prog W 0 (fun _ => true) true n 30 cs = some x) :
    ∃ q : Int × Int × Int, cs = [.int .i64 q.1, .int .i64 q.2.1, .int .i64 q.2.2] := by
  obtain ⟨xs, n', _, hx, hcl, hxl, hf⟩ := DataW.trod_struct Try.underlying30 h
  have hcl : cs.length = 3 := hcl.trans (by kernel_rfl)
  have hxl : xs.length = 3 := hxl
  match cs, hcl, xs, hxl with
  | [c0, c1, c2], _, [y0, y1, y2], _ =>
    have g0 : DataW.trod enc Try.prog W 0 (fun _ => true) true n' 3 [c0] = some y0 := hf 0 _ rfl
    have g1 : DataW.trod enc Try.prog W 0 (fun _ => true) true n' 2 [c1] = some y1 := hf 1 _ rfl
    have g2 : DataW.trod enc Try.prog W 0 (fun _ => true) true n' 2 [c2] = some y2 := hf 2 _ rfl
    obtain ⟨e0, q0, _, _⟩ := DataW.trod_int Try.underlying3 g0
    obtain ⟨e1, q1, _, _⟩ := DataW.trod_int Try.underlying2 g1
    obtain ⟨e2, q2, _, _⟩ := DataW.trod_int Try.underlying2 g2
    simp at q0 q1 q2
    subst q0 q1 q2
    exact ⟨(e0, e1, e2), rfl⟩
set_option maxRecDepth 100000 in
theorem open_asks {W : World} {r : Reach} {b0 : Nat} {v : Value} {d : DataW H} {p : List MemPlace} (hv : Value.okWide Try.prog W r b0 23 v) (h : DataW.Trod enc Try.prog W 0 (fun _ => true) true 23 v d p) :
    ∃ a cap l, v = .slice a (List.length l) cap ∧ Row W W.heap.size a (List.length l) cap 3 (askC l) := by
  obtain ⟨a, l, c, rfl⟩ := okWide_slice Try.underlying23 hv
  obtain ⟨fuel, hf⟩ := h
  have hf' : DataW.trod enc Try.prog W 0 (fun _ => true) true fuel 23 [.slice a l c] = some (d, p) := by simpa [Value.cells] using hf
  rcases Deep.open_slice Try.underlying23 hf' with ⟨hcs, _⟩ | ⟨x, len, cap, m, n, D, Pl, hcs, _, hl, hm, hmm, hx, hV⟩
  · simp at hcs
    obtain ⟨rfl, rfl, rfl⟩ := hcs
    exact ⟨none, 0, [], rfl, ⟨by simp, by simp [maxLen], fun h => absurd h (by simp)⟩⟩
  · simp at hcs
    obtain ⟨rfl, rfl, rfl⟩ := hcs
    simp at hmm
    have hc3 : Try.prog.cellsOf 30 = 3 := by kernel_rfl
    obtain ⟨F, hF⟩ := Deep.choose_lt (α := Int × Int × Int) (n := l) (p := fun i q => ∀ j, j < 3 → W.cell? ((x.add (i * 3)).add j) = [Value.int .i64 q.1, .int .i64 q.2.1, .int .i64 q.2.2][j]?) (fun i hi => by
      obtain ⟨cs', hc, ht⟩ := hV i (by omega)
      rw [hc3] at hc
      obtain ⟨_, _, hat⟩ := World.cells?_some hc
      obtain ⟨q, e⟩ := open_ask ht
      refine ⟨q, fun j hj => ?_⟩
      rw [← e]
      exact hat j hj)
    refine ⟨some x, c, (List.range l).map F, by simp, by simpa using hl, hm, fun hp => ?_⟩
    simp at hp
    obtain ⟨b, off, spot⟩ := x
    have h0 := hF 0 hp 0 (by decide)
    have hs : spot = none := by simpa [Addr.add] using World.cell?_spot h0
    subst hs
    refine ⟨b, off, rfl, block_lt_of_cell h0, fun j hj => ?_⟩
    simp at hj
    have hk := hF (j / 3) (by omega) (j % 3) (Nat.mod_lt _ (by decide))
    rw [Addr.add_mid, Addr.add_mid, Nat.add_assoc, show j / 3 * 3 + j % 3 = j from by omega] at hk
    rw [hk]
    have hg : ((List.range l).map F).getD (j / 3) (0, 0, 0) = F (j / 3) := by
      rw [List.getD_eq_getElem?_getD, List.getElem?_map, List.getElem?_range (by omega)]; rfl
    unfold askC
    rw [hg]
    have h3 : j % 3 = 0 ∨ j % 3 = 1 ∨ j % 3 = 2 := by omega
    rcases h3 with h | h | h <;> rw [h] <;> rfl
end
end Go.Proofs.Ytkmdnmjbjbkpdaa
