/- A region that draws its order: what is asked of the world may be made more on the way. -/
import Derived.Deep.RegionHeld
import Derived.Below
namespace Go.Proofs.Ytpgjjdpblilljaa
set_option linter.unusedSimpArgs false
set_option linter.unusedVariables false
open Go.RowKit
section
variable {P : Program} {ops : Array Oper} {Q : Exit → Act → World → Prop} {md : Region.Mode} {S : World → Prop}
/-- What is asked of the world may be made more on the way. -/
theorem held_more {S' : World → Prop} (h : ∀ w, S' w → S w) : ∀ {fuel : Nat} {L : Array Bool} {a : Act} {w : World}, wpAnyH P md ops Q S' fuel L a w → wpAnyH P md ops Q S fuel L a w
  | 0, _, _, _, H => H
  | _ + 1, _, _, _, H => ⟨H.1, fun i hi => wpOp_mono (fun _ u hb => ⟨h u hb.1, held_more h hb.2⟩) (H.2 i hi)⟩
/-- From here on: all that lies at w stays. -/
theorem held_below {B : Nat} {w0 w : World} (hb : Below B w0 w) (hB : B ≤ w.heap.size) {fuel : Nat} {L : Array Bool} {a : Act} {w' : World} (h : Below w.heap.size w w → wpAnyH P md ops Q (fun x => Below w.heap.size w x) fuel L a w') : wpAnyH P md ops Q (fun x => Below B w0 x) fuel L a w' :=
  held_more (fun _ hx => hb.trans (hx.mono hB)) (h (Below.refl _ _))
/-- From here on more is asked. -/
theorem held_to {S' : World → Prop} (h : ∀ w, S' w → S w) {fuel : Nat} {L : Array Bool} {a : Act} {w : World} (h' : S' w) (k : S' w → wpAnyH P md ops Q S' fuel L a w) : wpAnyH P md ops Q S fuel L a w := held_more h (k h')
end
end Go.Proofs.Ytpgjjdpblilljaa
