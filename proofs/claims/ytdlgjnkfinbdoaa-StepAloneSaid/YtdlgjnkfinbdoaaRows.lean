/-
  No cell of these rows narrows 'for every input' (looked for: loops, veiled, ifaces, maps, wideKeys, modest, calm, conditions, laid).
  DERIVED. THE GIVEN ROWS OF THIS SEAT. 6 by the template 'for every input the law returns true; each argument reads behind the call as it read before'; 0 by the template 'total and deterministic' (their statements: YtdlgjnkfinbdoaaTotals.lean).
  GIVEN WITH THE SEED: the statements are not yours to turn. If you find one false, say at which input.
  Laid BY PROGRAM, IN A SANDBOX (cutbox-rows.mjs): the forced cells as the released guide's own fill.sh prints them over the translation 744c9334af5e1905… (all of the seat's roots in one cut). By AI agents, Wed Nov 11 2026. No macro, syntax, notation, axiom, sorry.
-/
import Derived.Test.YtdlgjnkfinbdoaaChecked
import GoSem.Claim
import GoSem.ClaimJoined
import GoSem.ClaimMapViews
import Derived.JoinedTies
import Derived.KernelRfl
namespace Go.Proofs.Ytdlgjnkfinbdoaa
/- THE CELL 'sum', in the pinned program and in every row, IS THE sha256 OF THE DUMP (.gsa) THAT YtdlgjnkfinbdoaaProg.lean LOADS. Nothing in Lean hashes anything: it is a label: what it is worth is what the hold of that sum in a sandbox is worth. -/
noncomputable def Try.pinned : Pinned := { name := "ytdlgjnkfinbdoaa", sum := "744c9334af5e190579bb904ba608d4b37304eae6028901d47b19879d6d0bd444", checked := Try.checked }
namespace Rows
def none {H : Type} : Left H := { results := [], args := [] }

/-- 'governorlaw11.StepTells': WHATEVER THE INPUT: true; the input reads as it did. -/
def stepTellsSpec : ChangeSpec := { name := "stepTells", fn := fun _ => fun
  | [d1, d2, d3] => { results := [.lit (.bool true)], args := [d1, d2, d3] }
  | _ => none }
def stepTellsRow : OpenClaim := { program := "ytdlgjnkfinbdoaa", sum := "744c9334af5e190579bb904ba608d4b37304eae6028901d47b19879d6d0bd444", func := "governor/governorlaw11.StepTells", spec := "stepTells", unfollowed := true, recurses := true, apart := false }
def StepTellsSaid : Prop := stepTellsRow.holds Try.pinned (OpenSpec.ofChange stepTellsSpec)

/-- ITS FALSE NEIGHBOUR: 'it returns false'. Refute it at one input. -/
def stepTellsWrong : ChangeSpec := { name := "stepTells", fn := fun _ => fun
  | [d1, d2, d3] => { results := [.lit (.bool false)], args := [d1, d2, d3] }
  | _ => none }
def StepTellsWrongFalsely : Prop := stepTellsRow.holds Try.pinned (OpenSpec.ofChange stepTellsWrong)

/-- 'governorlaw11.StepFinds': WHATEVER THE INPUT: true; the input reads as it did. -/
def stepFindsSpec : ChangeSpec := { name := "stepFinds", fn := fun _ => fun
  | [d1, d2] => { results := [.lit (.bool true)], args := [d1, d2] }
  | _ => none }
def stepFindsRow : OpenClaim := { program := "ytdlgjnkfinbdoaa", sum := "744c9334af5e190579bb904ba608d4b37304eae6028901d47b19879d6d0bd444", func := "governor/governorlaw11.StepFinds", spec := "stepFinds", unfollowed := true, recurses := true, apart := false }
def StepFindsSaid : Prop := stepFindsRow.holds Try.pinned (OpenSpec.ofChange stepFindsSpec)

/-- ITS FALSE NEIGHBOUR: 'it returns false'. Refute it at one input. -/
def stepFindsWrong : ChangeSpec := { name := "stepFinds", fn := fun _ => fun
  | [d1, d2] => { results := [.lit (.bool false)], args := [d1, d2] }
  | _ => none }
def StepFindsWrongFalsely : Prop := stepFindsRow.holds Try.pinned (OpenSpec.ofChange stepFindsWrong)

/-- 'governorlaw11.StepEdges': WHATEVER THE INPUT: true; the input reads as it did. -/
def stepEdgesSpec : ChangeSpec := { name := "stepEdges", fn := fun _ => fun
  | [d1, d2] => { results := [.lit (.bool true)], args := [d1, d2] }
  | _ => none }
def stepEdgesRow : OpenClaim := { program := "ytdlgjnkfinbdoaa", sum := "744c9334af5e190579bb904ba608d4b37304eae6028901d47b19879d6d0bd444", func := "governor/governorlaw11.StepEdges", spec := "stepEdges", unfollowed := true, recurses := true, apart := false }
def StepEdgesSaid : Prop := stepEdgesRow.holds Try.pinned (OpenSpec.ofChange stepEdgesSpec)

/-- ITS FALSE NEIGHBOUR: 'it returns false'. Refute it at one input. -/
def stepEdgesWrong : ChangeSpec := { name := "stepEdges", fn := fun _ => fun
  | [d1, d2] => { results := [.lit (.bool false)], args := [d1, d2] }
  | _ => none }
def StepEdgesWrongFalsely : Prop := stepEdgesRow.holds Try.pinned (OpenSpec.ofChange stepEdgesWrong)

/-- 'governorlaw11.StepDeltas': WHATEVER THE INPUT: true; the input reads as it did. -/
def stepDeltasSpec : ChangeSpec := { name := "stepDeltas", fn := fun _ => fun
  | [d1, d2, d3] => { results := [.lit (.bool true)], args := [d1, d2, d3] }
  | _ => none }
def stepDeltasRow : OpenClaim := { program := "ytdlgjnkfinbdoaa", sum := "744c9334af5e190579bb904ba608d4b37304eae6028901d47b19879d6d0bd444", func := "governor/governorlaw11.StepDeltas", spec := "stepDeltas", unfollowed := true, recurses := true, apart := false }
def StepDeltasSaid : Prop := stepDeltasRow.holds Try.pinned (OpenSpec.ofChange stepDeltasSpec)

/-- ITS FALSE NEIGHBOUR: 'it returns false'. Refute it at one input. -/
def stepDeltasWrong : ChangeSpec := { name := "stepDeltas", fn := fun _ => fun
  | [d1, d2, d3] => { results := [.lit (.bool false)], args := [d1, d2, d3] }
  | _ => none }
def StepDeltasWrongFalsely : Prop := stepDeltasRow.holds Try.pinned (OpenSpec.ofChange stepDeltasWrong)

/-- 'governorlaw11.StepGrows': WHATEVER THE INPUT: true; the input reads as it did. -/
def stepGrowsSpec : ChangeSpec := { name := "stepGrows", fn := fun _ => fun
  | [d1, d2, d3, d4] => { results := [.lit (.bool true)], args := [d1, d2, d3, d4] }
  | _ => none }
def stepGrowsRow : OpenClaim := { program := "ytdlgjnkfinbdoaa", sum := "744c9334af5e190579bb904ba608d4b37304eae6028901d47b19879d6d0bd444", func := "governor/governorlaw11.StepGrows", spec := "stepGrows", unfollowed := true, recurses := true, apart := false }
def StepGrowsSaid : Prop := stepGrowsRow.holds Try.pinned (OpenSpec.ofChange stepGrowsSpec)

/-- ITS FALSE NEIGHBOUR: 'it returns false'. Refute it at one input. -/
def stepGrowsWrong : ChangeSpec := { name := "stepGrows", fn := fun _ => fun
  | [d1, d2, d3, d4] => { results := [.lit (.bool false)], args := [d1, d2, d3, d4] }
  | _ => none }
def StepGrowsWrongFalsely : Prop := stepGrowsRow.holds Try.pinned (OpenSpec.ofChange stepGrowsWrong)

/-- 'governorlaw11.StepAlone': WHATEVER THE INPUT: true; the input reads as it did. -/
def stepAloneSpec : ChangeSpec := { name := "stepAlone", fn := fun _ => fun
  | [d1, d2, d3] => { results := [.lit (.bool true)], args := [d1, d2, d3] }
  | _ => none }
def stepAloneRow : OpenClaim := { program := "ytdlgjnkfinbdoaa", sum := "744c9334af5e190579bb904ba608d4b37304eae6028901d47b19879d6d0bd444", func := "governor/governorlaw11.StepAlone", spec := "stepAlone", unfollowed := true, recurses := true, apart := false }
def StepAloneSaid : Prop := stepAloneRow.holds Try.pinned (OpenSpec.ofChange stepAloneSpec)

/-- ITS FALSE NEIGHBOUR: 'it returns false'. Refute it at one input. -/
def stepAloneWrong : ChangeSpec := { name := "stepAlone", fn := fun _ => fun
  | [d1, d2, d3] => { results := [.lit (.bool false)], args := [d1, d2, d3] }
  | _ => none }
def StepAloneWrongFalsely : Prop := stepAloneRow.holds Try.pinned (OpenSpec.ofChange stepAloneWrong)

/- THE SECOND FORM. 'bulk': how many values and letters a reading holds, each counted each time it is reached (what is shared counts as often as it is met; a slice's spare places count too). A statement '..UptoSaid' is the law's where the arguments, and the package variables that the reading takes, are together of bulk at most 1048576: NARROWER than '..Said'. Prove '..Said' where nothing that the law and all that it calls make is longer than what came in: it says more and counts as full. Else prove '..UptoSaid'. A law counts once. -/
mutual
def uptoBulk {H : Type} : DataW H → Nat
  | .lit (.string bytes) => bytes.length + 1
  | .lit _ => 1
  | .nil => 1
  | .ptr d => uptoBulk d + 1
  | .slice elems spare => uptoBulkAll elems + uptoBulkAll spare + 1
  | .agg parts => uptoBulkAll parts + 1
  | .iface _ d => uptoBulk d + 1
  | .map entries => uptoBulkEntries entries + 1
  | .held _ => 1
def uptoBulkAll {H : Type} : List (DataW H) → Nat
  | [] => 0
  | d :: r => uptoBulk d + uptoBulkAll r
def uptoBulkEntries {H : Type} : List (Lit × DataW H) → Nat
  | [] => 0
  | x :: r => uptoBulkEntry x + uptoBulkEntries r
def uptoBulkEntry {H : Type} : Lit × DataW H → Nat
  | (.string bytes, d) => bytes.length + uptoBulk d + 1
  | (_, d) => uptoBulk d + 1
 end
def uptoSmall : (H : Type) → List (DataW H) → Bool := fun _ ds => decide (uptoBulkAll ds ≤ 1048576)
def OpenSpec.upto (s : _root_.Go.ChangeSpec) : _root_.Go.OpenSpec := { _root_.Go.OpenSpec.ofChange s with cond := some uptoSmall }

/-- 'governorlaw11.StepTells', WHERE WHAT IT READS IS OF BULK AT MOST 1048576: true; the input reads as it did. -/
def stepTellsUptoRow : OpenClaim := { program := "ytdlgjnkfinbdoaa", sum := "744c9334af5e190579bb904ba608d4b37304eae6028901d47b19879d6d0bd444", func := "governor/governorlaw11.StepTells", spec := "stepTells", unfollowed := true, recurses := true, apart := false, narrowed := true }
def StepTellsUptoSaid : Prop := stepTellsUptoRow.holds Try.pinned (OpenSpec.upto stepTellsSpec)

/-- 'governorlaw11.StepFinds', WHERE WHAT IT READS IS OF BULK AT MOST 1048576: true; the input reads as it did. -/
def stepFindsUptoRow : OpenClaim := { program := "ytdlgjnkfinbdoaa", sum := "744c9334af5e190579bb904ba608d4b37304eae6028901d47b19879d6d0bd444", func := "governor/governorlaw11.StepFinds", spec := "stepFinds", unfollowed := true, recurses := true, apart := false, narrowed := true }
def StepFindsUptoSaid : Prop := stepFindsUptoRow.holds Try.pinned (OpenSpec.upto stepFindsSpec)

/-- 'governorlaw11.StepEdges', WHERE WHAT IT READS IS OF BULK AT MOST 1048576: true; the input reads as it did. -/
def stepEdgesUptoRow : OpenClaim := { program := "ytdlgjnkfinbdoaa", sum := "744c9334af5e190579bb904ba608d4b37304eae6028901d47b19879d6d0bd444", func := "governor/governorlaw11.StepEdges", spec := "stepEdges", unfollowed := true, recurses := true, apart := false, narrowed := true }
def StepEdgesUptoSaid : Prop := stepEdgesUptoRow.holds Try.pinned (OpenSpec.upto stepEdgesSpec)

/-- 'governorlaw11.StepDeltas', WHERE WHAT IT READS IS OF BULK AT MOST 1048576: true; the input reads as it did. -/
def stepDeltasUptoRow : OpenClaim := { program := "ytdlgjnkfinbdoaa", sum := "744c9334af5e190579bb904ba608d4b37304eae6028901d47b19879d6d0bd444", func := "governor/governorlaw11.StepDeltas", spec := "stepDeltas", unfollowed := true, recurses := true, apart := false, narrowed := true }
def StepDeltasUptoSaid : Prop := stepDeltasUptoRow.holds Try.pinned (OpenSpec.upto stepDeltasSpec)

/-- 'governorlaw11.StepGrows', WHERE WHAT IT READS IS OF BULK AT MOST 1048576: true; the input reads as it did. -/
def stepGrowsUptoRow : OpenClaim := { program := "ytdlgjnkfinbdoaa", sum := "744c9334af5e190579bb904ba608d4b37304eae6028901d47b19879d6d0bd444", func := "governor/governorlaw11.StepGrows", spec := "stepGrows", unfollowed := true, recurses := true, apart := false, narrowed := true }
def StepGrowsUptoSaid : Prop := stepGrowsUptoRow.holds Try.pinned (OpenSpec.upto stepGrowsSpec)

/-- 'governorlaw11.StepAlone', WHERE WHAT IT READS IS OF BULK AT MOST 1048576: true; the input reads as it did. -/
def stepAloneUptoRow : OpenClaim := { program := "ytdlgjnkfinbdoaa", sum := "744c9334af5e190579bb904ba608d4b37304eae6028901d47b19879d6d0bd444", func := "governor/governorlaw11.StepAlone", spec := "stepAlone", unfollowed := true, recurses := true, apart := false, narrowed := true }
def StepAloneUptoSaid : Prop := stepAloneUptoRow.holds Try.pinned (OpenSpec.upto stepAloneSpec)

end Rows
end Go.Proofs.Ytdlgjnkfinbdoaa
