/- Arguments that came in, opened: plants. -/
import Derived.Test.YtcfehddnccdejaaQlB
import Derived.Test.YtcfehddnccdejaaProg
import Derived.Test.YtcfehddnccdejaaChecked
import Derived.Lib.SmallJoins
import Derived.ChangeSlices
import Derived.ProofKit
import Derived.OpenShut
import Derived.Deep.Slices
import Derived.Test.YtcfehddnccdejaaInts
import Derived.SizedLaws
namespace Go.Proofs.Ytcfehddnccdejaa
set_option linter.unusedSimpArgs false
set_option linter.unusedVariables false
open Go.ChangeShapes Go.WideShapes Go.RowKit
open Evn Plt

section
variable {H : Type} {enc : TypeId × Value → H}
/-- A slice of ints, cell by cell; one that is nil has nothing. -/
theorem open_srw0 {W : World} {fuel : Nat} {v : Value} {x : DataW H × List MemPlace} (h : DataW.trod enc Try.prog W 0 (fun _ => true) true fuel 24 [v] = some x) :
    ∃ a cap ks, v = .slice a (List.length ks) cap ∧ SRw W a cap ks := by
  rcases open_ints Try.underlying24 Try.underlying3 (by kernel_rfl) h with ⟨hcs, _⟩ | ⟨a, l, c, zs, hcs, _, hl, hm, hz, _, hcell, hwz⟩
  · simp at hcs
    subst hcs
    exact ⟨none, 0, [], rfl, ⟨Nat.le_refl _, by simp [maxLen], fun h => absurd h (by simp)⟩, fun _ => ⟨rfl, rfl⟩⟩
  · simp at hcs
    subst hcs
    simp at hz
    have hln : (zs.take l).length = l := by rw [List.length_take]; omega
    refine ⟨some a, c, zs.take l, by rw [hln], ⟨by omega, hm, fun hp => ?_⟩, fun h => by cases h⟩
    rw [hln] at hp ⊢
    obtain ⟨b, off, spot⟩ := a
    have h0 := hcell 0 (by omega)
    have hs : spot = none := by simpa [Addr.add] using World.cell?_spot h0
    subst hs
    refine ⟨b, off, rfl, block_lt_of_cell h0, fun j hj => ?_⟩
    have := hcell j (by omega)
    rw [Addr.add_mid] at this
    rw [this]
    simp only [intsC]
    rw [List.getD_eq_getElem?_getD, List.getD_eq_getElem?_getD, List.getElem?_take_of_lt (by omega)]
def ptL (p : Pt) (a : Option Addr) (k : Nat) : List Value := [.int .i64 p.ready, .slice a p.start.length k, .int .i64 p.wait, .int .i64 p.util]
set_option maxRecDepth 100000 in
set_option maxHeartbeats 1600000 in
theorem open_plant0 {W : World} {n : Nat} {cs : List Value} {x : DataW H × List MemPlace} (h : DataW.trod enc Try.prog W 0 (fun _ => true) true n 26 cs = some x) :
    ∃ (p : Pt) (a : Option Addr) (k : Nat), cs = ptL p a k ∧ SRw W a k p.start := by
  obtain ⟨xs, n', _, hx, hcl, hxl, hf⟩ := DataW.trod_struct Try.underlying26 h
  have hcl : cs.length = 4 := hcl.trans (by kernel_rfl)
  have hxl : xs.length = 4 := hxl
  match cs, hcl, xs, hxl with
  | [c0, c1, c2, c3], _, [y0, y1, y2, y3], _ =>
    have g0 : DataW.trod enc Try.prog W 0 (fun _ => true) true n' 3 [c0] = some y0 := hf 0 _ rfl
    obtain ⟨e0, q0, _, w0⟩ := DataW.trod_int Try.underlying3 g0
    have g1 : DataW.trod enc Try.prog W 0 (fun _ => true) true n' 24 [c1] = some y1 := hf 1 _ rfl
    obtain ⟨a, k, l, q1, h1⟩ := open_srw0 g1
    have g2 : DataW.trod enc Try.prog W 0 (fun _ => true) true n' 2 [c2] = some y2 := hf 2 _ rfl
    obtain ⟨e2, q2, _, w2⟩ := DataW.trod_int Try.underlying2 g2
    have g3 : DataW.trod enc Try.prog W 0 (fun _ => true) true n' 2 [c3] = some y3 := hf 3 _ rfl
    obtain ⟨e3, q3, _, w3⟩ := DataW.trod_int Try.underlying2 g3
    simp at q0 q2 q3
    subst q0 q1 q2 q3
    exact ⟨⟨e0, l, e2, e3⟩, a, k, rfl, h1⟩
set_option maxRecDepth 100000 in
theorem open_plant {W : World} {r : Reach} {b0 : Nat} {v : Value} {d : DataW H} {p : List MemPlace} (hv : Value.okWide Try.prog W r b0 26 v) (h : DataW.Trod enc Try.prog W 0 (fun _ => true) true 26 v d p) :
    ∃ (q : Pt) (a : Option Addr) (k : Nat), v = ptV q a k ∧ SRw W a k q.start := by
  obtain ⟨cs, rfl, hsz⟩ := okWide_struct Try.underlying26 hv
  obtain ⟨fuel, hf⟩ := h
  obtain ⟨q, a, k, hc, hm⟩ := open_plant0 (by simpa [Value.cells] using hf)
  have : cs = (ptL q a k).toArray := Array.toList_inj.1 hc
  subst this
  exact ⟨q, a, k, rfl, hm⟩
end
end Go.Proofs.Ytcfehddnccdejaa
