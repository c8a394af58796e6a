/- Arguments that came in, opened: configurations. -/
import Derived.Test.YtcfehddnccdejaaProg
import Derived.Test.YtcfehddnccdejaaChecked
import Derived.Lib.SmallJoins
import Derived.ChangeSlices
import Derived.ProofKit
import Derived.OpenShut
import Derived.Deep.Slices
import Derived.ChangeOld
import Derived.SizedLaws
import Derived.Test.YtcfehddnccdejaaPrw
import Derived.ChangeArms
namespace Go.Proofs.Ytcfehddnccdejaa
set_option linter.unusedSimpArgs false
set_option linter.unusedVariables false
open Go.ChangeShapes Go.WideShapes Go.RowKit
open Wir Evn

section
variable {H : Type} {enc : TypeId × Value → H}
theorem i64_ofC {n : Int} (h : (Lit.int .i64 n).wf = true) : I64 n := bounds_i64 h
def cfL (c : Cf) : List Value := [.int .i64 c.min, .int .i64 c.max, .int .i64 c.rate, .int .i64 c.stable, .int .i64 c.cap, .int .i64 c.delay, .int .i64 c.slack, .int .i64 c.window, .int .i64 c.margin, .int .i64 c.ceil, .int .i64 c.probe, .int .i64 c.breach]
set_option maxRecDepth 100000 in
set_option maxHeartbeats 1600000 in
theorem open_conf0 {W : World} {n : Nat} {cs : List Value} {x : DataW H × List MemPlace} (h : DataW.trod enc Try.prog W 0 (fun _ => true) true n 23 cs = some x) :
    ∃ c : Cf, cs = cfL c ∧ All64 (confN c) := by
  obtain ⟨xs, n', _, hx, hcl, hxl, hf⟩ := DataW.trod_struct Try.underlying23 h
  have hcl : cs.length = 12 := hcl.trans (by kernel_rfl)
  have hxl : xs.length = 12 := hxl
  match cs, hcl, xs, hxl with
  | [c0, c1, c2, c3, c4, c5, c6, c7, c8, c9, c10, c11], _, [y0, y1, y2, y3, y4, y5, y6, y7, y8, y9, y10, y11], _ =>
    have g0 : DataW.trod enc Try.prog W 0 (fun _ => true) true n' 3 [c0] = some y0 := hf 0 _ rfl
    obtain ⟨e0, q0, _, w0⟩ := DataW.trod_int Try.underlying3 g0
    have g1 : DataW.trod enc Try.prog W 0 (fun _ => true) true n' 3 [c1] = some y1 := hf 1 _ rfl
    obtain ⟨e1, q1, _, w1⟩ := DataW.trod_int Try.underlying3 g1
    have g2 : DataW.trod enc Try.prog W 0 (fun _ => true) true n' 3 [c2] = some y2 := hf 2 _ rfl
    obtain ⟨e2, q2, _, w2⟩ := DataW.trod_int Try.underlying3 g2
    have g3 : DataW.trod enc Try.prog W 0 (fun _ => true) true n' 2 [c3] = some y3 := hf 3 _ rfl
    obtain ⟨e3, q3, _, w3⟩ := DataW.trod_int Try.underlying2 g3
    have g4 : DataW.trod enc Try.prog W 0 (fun _ => true) true n' 2 [c4] = some y4 := hf 4 _ rfl
    obtain ⟨e4, q4, _, w4⟩ := DataW.trod_int Try.underlying2 g4
    have g5 : DataW.trod enc Try.prog W 0 (fun _ => true) true n' 3 [c5] = some y5 := hf 5 _ rfl
    obtain ⟨e5, q5, _, w5⟩ := DataW.trod_int Try.underlying3 g5
    have g6 : DataW.trod enc Try.prog W 0 (fun _ => true) true n' 2 [c6] = some y6 := hf 6 _ rfl
    obtain ⟨e6, q6, _, w6⟩ := DataW.trod_int Try.underlying2 g6
    have g7 : DataW.trod enc Try.prog W 0 (fun _ => true) true n' 3 [c7] = some y7 := hf 7 _ rfl
    obtain ⟨e7, q7, _, w7⟩ := DataW.trod_int Try.underlying3 g7
    have g8 : DataW.trod enc Try.prog W 0 (fun _ => true) true n' 2 [c8] = some y8 := hf 8 _ rfl
    obtain ⟨e8, q8, _, w8⟩ := DataW.trod_int Try.underlying2 g8
    have g9 : DataW.trod enc Try.prog W 0 (fun _ => true) true n' 3 [c9] = some y9 := hf 9 _ rfl
    obtain ⟨e9, q9, _, w9⟩ := DataW.trod_int Try.underlying3 g9
    have g10 : DataW.trod enc Try.prog W 0 (fun _ => true) true n' 3 [c10] = some y10 := hf 10 _ rfl
    obtain ⟨e10, q10, _, w10⟩ := DataW.trod_int Try.underlying3 g10
    have g11 : DataW.trod enc Try.prog W 0 (fun _ => true) true n' 3 [c11] = some y11 := hf 11 _ rfl
    obtain ⟨e11, q11, _, w11⟩ := DataW.trod_int Try.underlying3 g11
    simp at q0 q1 q2 q3 q4 q5 q6 q7 q8 q9 q10 q11
    subst q0 q1 q2 q3 q4 q5 q6 q7 q8 q9 q10 q11
    exact ⟨⟨e0, e1, e2, e3, e4, e5, e6, e7, e8, e9, e10, e11⟩, rfl, all64_cons (i64_ofC w0) (all64_cons (i64_ofC w1) (all64_cons (i64_ofC w2) (all64_cons (i64_ofC w3) (all64_cons (i64_ofC w4) (all64_cons (i64_ofC w5) (all64_cons (i64_ofC w6) (all64_cons (i64_ofC w7) (all64_cons (i64_ofC w8) (all64_cons (i64_ofC w9) (all64_cons (i64_ofC w10) (all64_cons (i64_ofC w11) (all64_nil))))))))))))⟩
set_option maxRecDepth 100000 in
theorem open_conf {W : World} {r : Reach} {b0 : Nat} {v : Value} {d : DataW H} {p : List MemPlace} (hv : Value.okWide Try.prog W r b0 23 v) (h : DataW.Trod enc Try.prog W 0 (fun _ => true) true 23 v d p) :
    ∃ c : Cf, v = cfV c ∧ All64 (confN c) := by
  obtain ⟨cs, rfl, hsz⟩ := okWide_struct Try.underlying23 hv
  obtain ⟨fuel, hf⟩ := h
  obtain ⟨c, hc, hm⟩ := open_conf0 (by simpa [Value.cells] using hf)
  have : cs = (cfL c).toArray := Array.toList_inj.1 hc
  subst this
  exact ⟨c, rfl, hm⟩
end
end Go.Proofs.Ytcfehddnccdejaa
