/- Arguments that came in, opened: policies of which the slices are not looked at, states, rows of int32. -/
import Derived.Test.YtdglobolgdhmoaaPdF
import Derived.Test.YtdglobolgdhmoaaOpenI
import Derived.ChangeArms
namespace Go.Proofs.Ytdglobolgdhmoaa
set_option linter.unusedSimpArgs false
set_option linter.unusedVariables false
open Go.ChangeShapes Go.WideShapes Go.RowKit

section
variable {H : Type} {enc : TypeId × Value → H}
set_option maxRecDepth 100000 in
theorem open_state {W : World} {r : Reach} {b0 : Nat} {v : Value} {d : DataW H} {p : List MemPlace} (hv : Value.okWide Try.prog W r b0 23 v) (h : DataW.Trod enc Try.prog W 0 (fun _ => true) true 23 v d p) :
    ∃ (s e : Int) (b : Bool), v = .agg #[.int .i64 s, .int .i64 e, .bool b] := by
  obtain ⟨v0, v1, v2, y0, y1, y2, n, rfl, _, _, h0, h1, h2⟩ := Joins.open_agg3 Try.underlying23 (by kernel_rfl) (by kernel_rfl) hv h
  obtain ⟨s, e0, _, _⟩ := DataW.trod_int Try.underlying2 h0
  obtain ⟨e, e1, _, _⟩ := DataW.trod_int Try.underlying2 h1
  obtain ⟨b, e2, _⟩ := DataW.trod_bool Try.underlying4 h2
  simp at e0 e1 e2
  subst e0 e1 e2
  exact ⟨s, e, b, rfl⟩
set_option maxRecDepth 100000 in
set_option maxHeartbeats 1600000 in
theorem open_pol8 {W : World} {r : Reach} {b0 : Nat} {v : Value} {d : DataW H} {p : List MemPlace} (hv : Value.okWide Try.prog W r b0 30 v) (h : DataW.Trod enc Try.prog W 0 (fun _ => true) true 30 v d p) :
    ∃ (kk bb pe sl : Value) (t kp ki kd : Int), v = .agg #[kk, .int .i64 t, bb, .int .i64 kp, .int .i64 ki, .int .i64 kd, pe, sl] := by
  obtain ⟨cs, rfl, hsz⟩ := okWide_struct Try.underlying30 hv
  obtain ⟨fuel, hf⟩ := h
  have hf2 : DataW.trod enc Try.prog W 0 (fun _ => true) true fuel 30 cs.toList = some (d, p) := by simpa [Value.cells] using hf
  obtain ⟨xs, n', _, hx, hcl, hxl, hg⟩ := DataW.trod_struct Try.underlying30 hf2
  have hcl : cs.toList.length = 8 := hcl.trans (by kernel_rfl)
  have hxl : xs.length = 8 := hxl
  generalize hcs : cs.toList = L at *
  match L, hcl, xs, hxl with
  | [c0, c1, c2, c3, c4, c5, c6, c7], _, [y0, y1, y2, y3, y4, y5, y6, y7], _ =>
    have g1 : DataW.trod enc Try.prog W 0 (fun _ => true) true n' 2 [c1] = some y1 := hg 1 _ rfl
    obtain ⟨e1, q1, _, w1⟩ := DataW.trod_int Try.underlying2 g1
    have g3 : DataW.trod enc Try.prog W 0 (fun _ => true) true n' 2 [c3] = some y3 := hg 3 _ rfl
    obtain ⟨e3, q3, _, w3⟩ := DataW.trod_int Try.underlying2 g3
    have g4 : DataW.trod enc Try.prog W 0 (fun _ => true) true n' 2 [c4] = some y4 := hg 4 _ rfl
    obtain ⟨e4, q4, _, w4⟩ := DataW.trod_int Try.underlying2 g4
    have g5 : DataW.trod enc Try.prog W 0 (fun _ => true) true n' 2 [c5] = some y5 := hg 5 _ rfl
    obtain ⟨e5, q5, _, w5⟩ := DataW.trod_int Try.underlying2 g5
    simp at q1 q3 q4 q5
    subst q1 q3 q4 q5
    have : cs = #[c0, .int .i64 e1, c2, .int .i64 e3, .int .i64 e4, .int .i64 e5, c6, c7] := Array.toList_inj.1 hcs
    subst this
    exact ⟨c0, c2, c6, c7, e1, e3, e4, e5, rfl⟩
set_option maxRecDepth 100000 in
/-- A slice of numbers of 32 bits, cell by cell. -/
theorem open_i32s0 {W : World} {fuel : Nat} {v : Value} {x : DataW H × List MemPlace} (h : DataW.trod enc Try.prog W 0 (fun _ => true) true fuel 38 [v] = some x) :
    ∃ a cap ks, v = .slice a (List.length ks) cap ∧ Row W W.heap.size a (List.length ks) cap 1 (i32C ks) ∧ ∀ k ∈ ks, -2147483648 ≤ k ∧ k ≤ 2147483647 := by
  rcases open_ints Try.underlying38 Try.underlying21 (by kernel_rfl) h with ⟨hcs, _⟩ | ⟨a, l, c, zs, hcs, _, hl, hm, hz, _, hcell, hwz⟩
  · simp at hcs
    subst hcs
    exact ⟨none, 0, [], rfl, ⟨Nat.le_refl _, by simp [maxLen], fun h => absurd h (by simp)⟩, by simp⟩
  · simp at hcs
    subst hcs
    simp at hz
    have hln : (zs.take l).length = l := by rw [List.length_take]; omega
    refine ⟨some a, c, zs.take l, by rw [hln], ⟨by omega, hm, fun hp => ?_⟩, fun k hk => by have := bounds_i32 (hwz k (List.mem_of_mem_take hk)); omega⟩
    rw [hln] at hp ⊢
    obtain ⟨b, off, spot⟩ := a
    have h0 := hcell 0 (by omega)
    have hs : spot = none := by simpa [Addr.add] using World.cell?_spot h0
    subst hs
    refine ⟨b, off, rfl, block_lt_of_cell h0, fun j hj => ?_⟩
    have := hcell j (by omega)
    rw [Addr.add_mid] at this
    rw [this]
    simp only [i32C]
    rw [List.getD_eq_getElem?_getD, List.getD_eq_getElem?_getD, List.getElem?_take_of_lt (by omega)]
set_option maxRecDepth 100000 in
theorem open_i32s1 {W : World} {r : Reach} {b0 : Nat} {v : Value} {d : DataW H} {p : List MemPlace} (hv : Value.okWide Try.prog W r b0 38 v) (h : DataW.Trod enc Try.prog W 0 (fun _ => true) true 38 v d p) :
    ∃ a cap ks, v = .slice a (List.length ks) cap ∧ Row W W.heap.size a (List.length ks) cap 1 (i32C ks) ∧ ∀ k ∈ ks, -2147483648 ≤ k ∧ k ≤ 2147483647 := by
  obtain ⟨a, l, c, rfl⟩ := okWide_slice Try.underlying38 hv
  obtain ⟨fuel, hf⟩ := h
  exact open_i32s0 (by simpa [Value.cells] using hf)
end
end Go.Proofs.Ytdglobolgdhmoaa
