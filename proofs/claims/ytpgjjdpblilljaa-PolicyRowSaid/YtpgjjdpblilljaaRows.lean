/-
  No cell of these rows narrows 'for every input' (looked for: loops, veiled, ifaces, maps, wideKeys, modest, calm, conditions, laid).
  DERIVED. THE GIVEN ROWS OF THIS SEAT. 6 by the template 'for every input the law returns true; each argument reads behind the call as it read before'; 0 by the template 'total and deterministic' (their statements: YtpgjjdpblilljaaTotals.lean).
  GIVEN WITH THE SEED: the statements are not yours to turn. If you find one false, say at which input.
  Laid BY PROGRAM, IN A SANDBOX (cutbox-rows.mjs): the forced cells as the released guide's own fill.sh prints them over the translation 54e3a8ead9cde493… (all of the seat's roots in one cut). By AI agents, Wed Nov 11 2026. No macro, syntax, notation, axiom, sorry.
-/
import Derived.Test.YtpgjjdpblilljaaChecked
import GoSem.Claim
import GoSem.ClaimJoined
import GoSem.ClaimMapViews
import Derived.JoinedTies
import Derived.KernelRfl
namespace Go.Proofs.Ytpgjjdpblilljaa
/- THE CELL 'sum', in the pinned program and in every row, IS THE sha256 OF THE DUMP (.gsa) THAT YtpgjjdpblilljaaProg.lean LOADS. Nothing in Lean hashes anything: it is a label: what it is worth is what the hold of that sum in a sandbox is worth. -/
noncomputable def Try.pinned : Pinned := { name := "ytpgjjdpblilljaa", sum := "54e3a8ead9cde493fc336110eead09002fc8d083caceb5a4d5636bef67e19e04", checked := Try.checked }
namespace Rows
def none {H : Type} : Left H := { results := [], args := [] }

/-- 'governorlaw14.PolicyTells': WHATEVER THE INPUT: true; the input reads as it did. -/
def policyTellsSpec : ChangeSpec := { name := "policyTells", fn := fun _ => fun
  | [d1, d2, d3, d4, d5] => { results := [.lit (.bool true)], args := [d1, d2, d3, d4, d5] }
  | _ => none }
def policyTellsRow : OpenClaim := { program := "ytpgjjdpblilljaa", sum := "54e3a8ead9cde493fc336110eead09002fc8d083caceb5a4d5636bef67e19e04", func := "governor/governorlaw14.PolicyTells", spec := "policyTells", unfollowed := true, recurses := true, apart := false }
def PolicyTellsSaid : Prop := policyTellsRow.holds Try.pinned (OpenSpec.ofChange policyTellsSpec)

/-- ITS FALSE NEIGHBOUR: 'it returns false'. Refute it at one input. -/
def policyTellsWrong : ChangeSpec := { name := "policyTells", fn := fun _ => fun
  | [d1, d2, d3, d4, d5] => { results := [.lit (.bool false)], args := [d1, d2, d3, d4, d5] }
  | _ => none }
def PolicyTellsWrongFalsely : Prop := policyTellsRow.holds Try.pinned (OpenSpec.ofChange policyTellsWrong)

/-- 'governorlaw14.PolicyBounds': WHATEVER THE INPUT: true; the input reads as it did. -/
def policyBoundsSpec : ChangeSpec := { name := "policyBounds", fn := fun _ => fun
  | [d1, d2, d3, d4, d5] => { results := [.lit (.bool true)], args := [d1, d2, d3, d4, d5] }
  | _ => none }
def policyBoundsRow : OpenClaim := { program := "ytpgjjdpblilljaa", sum := "54e3a8ead9cde493fc336110eead09002fc8d083caceb5a4d5636bef67e19e04", func := "governor/governorlaw14.PolicyBounds", spec := "policyBounds", unfollowed := true, recurses := true, apart := false }
def PolicyBoundsSaid : Prop := policyBoundsRow.holds Try.pinned (OpenSpec.ofChange policyBoundsSpec)

/-- ITS FALSE NEIGHBOUR: 'it returns false'. Refute it at one input. -/
def policyBoundsWrong : ChangeSpec := { name := "policyBounds", fn := fun _ => fun
  | [d1, d2, d3, d4, d5] => { results := [.lit (.bool false)], args := [d1, d2, d3, d4, d5] }
  | _ => none }
def PolicyBoundsWrongFalsely : Prop := policyBoundsRow.holds Try.pinned (OpenSpec.ofChange policyBoundsWrong)

/-- 'governorlaw14.PolicyKinds': WHATEVER THE INPUT: true; the input reads as it did. -/
def policyKindsSpec : ChangeSpec := { name := "policyKinds", fn := fun _ => fun
  | [d1, d2, d3, d4, d5] => { results := [.lit (.bool true)], args := [d1, d2, d3, d4, d5] }
  | _ => none }
def policyKindsRow : OpenClaim := { program := "ytpgjjdpblilljaa", sum := "54e3a8ead9cde493fc336110eead09002fc8d083caceb5a4d5636bef67e19e04", func := "governor/governorlaw14.PolicyKinds", spec := "policyKinds", unfollowed := true, recurses := true, apart := false }
def PolicyKindsSaid : Prop := policyKindsRow.holds Try.pinned (OpenSpec.ofChange policyKindsSpec)

/-- ITS FALSE NEIGHBOUR: 'it returns false'. Refute it at one input. -/
def policyKindsWrong : ChangeSpec := { name := "policyKinds", fn := fun _ => fun
  | [d1, d2, d3, d4, d5] => { results := [.lit (.bool false)], args := [d1, d2, d3, d4, d5] }
  | _ => none }
def PolicyKindsWrongFalsely : Prop := policyKindsRow.holds Try.pinned (OpenSpec.ofChange policyKindsWrong)

/-- 'governorlaw14.PolicyTime': WHATEVER THE INPUT: true; the input reads as it did. -/
def policyTimeSpec : ChangeSpec := { name := "policyTime", fn := fun _ => fun
  | [d1, d2, d3, d4, d5, d6] => { results := [.lit (.bool true)], args := [d1, d2, d3, d4, d5, d6] }
  | _ => none }
def policyTimeRow : OpenClaim := { program := "ytpgjjdpblilljaa", sum := "54e3a8ead9cde493fc336110eead09002fc8d083caceb5a4d5636bef67e19e04", func := "governor/governorlaw14.PolicyTime", spec := "policyTime", unfollowed := true, recurses := true, apart := false }
def PolicyTimeSaid : Prop := policyTimeRow.holds Try.pinned (OpenSpec.ofChange policyTimeSpec)

/-- ITS FALSE NEIGHBOUR: 'it returns false'. Refute it at one input. -/
def policyTimeWrong : ChangeSpec := { name := "policyTime", fn := fun _ => fun
  | [d1, d2, d3, d4, d5, d6] => { results := [.lit (.bool false)], args := [d1, d2, d3, d4, d5, d6] }
  | _ => none }
def PolicyTimeWrongFalsely : Prop := policyTimeRow.holds Try.pinned (OpenSpec.ofChange policyTimeWrong)

/-- 'governorlaw14.PolicyRow': WHATEVER THE INPUT: true; the input reads as it did. -/
def policyRowSpec : ChangeSpec := { name := "policyRow", fn := fun _ => fun
  | [d1, d2, d3, d4] => { results := [.lit (.bool true)], args := [d1, d2, d3, d4] }
  | _ => none }
def policyRowRow : OpenClaim := { program := "ytpgjjdpblilljaa", sum := "54e3a8ead9cde493fc336110eead09002fc8d083caceb5a4d5636bef67e19e04", func := "governor/governorlaw14.PolicyRow", spec := "policyRow", unfollowed := true, recurses := true, apart := false }
def PolicyRowSaid : Prop := policyRowRow.holds Try.pinned (OpenSpec.ofChange policyRowSpec)

/-- ITS FALSE NEIGHBOUR: 'it returns false'. Refute it at one input. -/
def policyRowWrong : ChangeSpec := { name := "policyRow", fn := fun _ => fun
  | [d1, d2, d3, d4] => { results := [.lit (.bool false)], args := [d1, d2, d3, d4] }
  | _ => none }
def PolicyRowWrongFalsely : Prop := policyRowRow.holds Try.pinned (OpenSpec.ofChange policyRowWrong)

/-- 'governorlaw14.PolicyMany': WHATEVER THE INPUT: true; the input reads as it did. -/
def policyManySpec : ChangeSpec := { name := "policyMany", fn := fun _ => fun
  | [d1, d2, d3, d4, d5] => { results := [.lit (.bool true)], args := [d1, d2, d3, d4, d5] }
  | _ => none }
def policyManyRow : OpenClaim := { program := "ytpgjjdpblilljaa", sum := "54e3a8ead9cde493fc336110eead09002fc8d083caceb5a4d5636bef67e19e04", func := "governor/governorlaw14.PolicyMany", spec := "policyMany", unfollowed := true, recurses := true, apart := false }
def PolicyManySaid : Prop := policyManyRow.holds Try.pinned (OpenSpec.ofChange policyManySpec)

/-- ITS FALSE NEIGHBOUR: 'it returns false'. Refute it at one input. -/
def policyManyWrong : ChangeSpec := { name := "policyMany", fn := fun _ => fun
  | [d1, d2, d3, d4, d5] => { results := [.lit (.bool false)], args := [d1, d2, d3, d4, d5] }
  | _ => none }
def PolicyManyWrongFalsely : Prop := policyManyRow.holds Try.pinned (OpenSpec.ofChange policyManyWrong)

/- THE SECOND FORM. 'bulk': how many values and letters a reading holds, each counted each time it is reached (what is shared counts as often as it is met; a slice's spare places count too). A statement '..UptoSaid' is the law's where the arguments, and the package variables that the reading takes, are together of bulk at most 1048576: NARROWER than '..Said'. Prove '..Said' where nothing that the law and all that it calls make is longer than what came in: it says more and counts as full. Else prove '..UptoSaid'. A law counts once. -/
mutual
def uptoBulk {H : Type} : DataW H → Nat
  | .lit (.string bytes) => bytes.length + 1
  | .lit _ => 1
  | .nil => 1
  | .ptr d => uptoBulk d + 1
  | .slice elems spare => uptoBulkAll elems + uptoBulkAll spare + 1
  | .agg parts => uptoBulkAll parts + 1
  | .iface _ d => uptoBulk d + 1
  | .map entries => uptoBulkEntries entries + 1
  | .held _ => 1
def uptoBulkAll {H : Type} : List (DataW H) → Nat
  | [] => 0
  | d :: r => uptoBulk d + uptoBulkAll r
def uptoBulkEntries {H : Type} : List (Lit × DataW H) → Nat
  | [] => 0
  | x :: r => uptoBulkEntry x + uptoBulkEntries r
def uptoBulkEntry {H : Type} : Lit × DataW H → Nat
  | (.string bytes, d) => bytes.length + uptoBulk d + 1
  | (_, d) => uptoBulk d + 1
 end
def uptoSmall : (H : Type) → List (DataW H) → Bool := fun _ ds => decide (uptoBulkAll ds ≤ 1048576)
def OpenSpec.upto (s : _root_.Go.ChangeSpec) : _root_.Go.OpenSpec := { _root_.Go.OpenSpec.ofChange s with cond := some uptoSmall }

/-- 'governorlaw14.PolicyTells', WHERE WHAT IT READS IS OF BULK AT MOST 1048576: true; the input reads as it did. -/
def policyTellsUptoRow : OpenClaim := { program := "ytpgjjdpblilljaa", sum := "54e3a8ead9cde493fc336110eead09002fc8d083caceb5a4d5636bef67e19e04", func := "governor/governorlaw14.PolicyTells", spec := "policyTells", unfollowed := true, recurses := true, apart := false, narrowed := true }
def PolicyTellsUptoSaid : Prop := policyTellsUptoRow.holds Try.pinned (OpenSpec.upto policyTellsSpec)

/-- 'governorlaw14.PolicyBounds', WHERE WHAT IT READS IS OF BULK AT MOST 1048576: true; the input reads as it did. -/
def policyBoundsUptoRow : OpenClaim := { program := "ytpgjjdpblilljaa", sum := "54e3a8ead9cde493fc336110eead09002fc8d083caceb5a4d5636bef67e19e04", func := "governor/governorlaw14.PolicyBounds", spec := "policyBounds", unfollowed := true, recurses := true, apart := false, narrowed := true }
def PolicyBoundsUptoSaid : Prop := policyBoundsUptoRow.holds Try.pinned (OpenSpec.upto policyBoundsSpec)

/-- 'governorlaw14.PolicyKinds', WHERE WHAT IT READS IS OF BULK AT MOST 1048576: true; the input reads as it did. -/
def policyKindsUptoRow : OpenClaim := { program := "ytpgjjdpblilljaa", sum := "54e3a8ead9cde493fc336110eead09002fc8d083caceb5a4d5636bef67e19e04", func := "governor/governorlaw14.PolicyKinds", spec := "policyKinds", unfollowed := true, recurses := true, apart := false, narrowed := true }
def PolicyKindsUptoSaid : Prop := policyKindsUptoRow.holds Try.pinned (OpenSpec.upto policyKindsSpec)

/-- 'governorlaw14.PolicyTime', WHERE WHAT IT READS IS OF BULK AT MOST 1048576: true; the input reads as it did. -/
def policyTimeUptoRow : OpenClaim := { program := "ytpgjjdpblilljaa", sum := "54e3a8ead9cde493fc336110eead09002fc8d083caceb5a4d5636bef67e19e04", func := "governor/governorlaw14.PolicyTime", spec := "policyTime", unfollowed := true, recurses := true, apart := false, narrowed := true }
def PolicyTimeUptoSaid : Prop := policyTimeUptoRow.holds Try.pinned (OpenSpec.upto policyTimeSpec)

/-- 'governorlaw14.PolicyRow', WHERE WHAT IT READS IS OF BULK AT MOST 1048576: true; the input reads as it did. -/
def policyRowUptoRow : OpenClaim := { program := "ytpgjjdpblilljaa", sum := "54e3a8ead9cde493fc336110eead09002fc8d083caceb5a4d5636bef67e19e04", func := "governor/governorlaw14.PolicyRow", spec := "policyRow", unfollowed := true, recurses := true, apart := false, narrowed := true }
def PolicyRowUptoSaid : Prop := policyRowUptoRow.holds Try.pinned (OpenSpec.upto policyRowSpec)

/-- 'governorlaw14.PolicyMany', WHERE WHAT IT READS IS OF BULK AT MOST 1048576: true; the input reads as it did. -/
def policyManyUptoRow : OpenClaim := { program := "ytpgjjdpblilljaa", sum := "54e3a8ead9cde493fc336110eead09002fc8d083caceb5a4d5636bef67e19e04", func := "governor/governorlaw14.PolicyMany", spec := "policyMany", unfollowed := true, recurses := true, apart := false, narrowed := true }
def PolicyManyUptoSaid : Prop := policyManyUptoRow.holds Try.pinned (OpenSpec.upto policyManySpec)

end Rows
end Go.Proofs.Ytpgjjdpblilljaa
