/-
  No cell of these rows narrows 'for every input' (looked for: loops, veiled, ifaces, maps, wideKeys, modest, calm, conditions, laid).
  DERIVED. THE GIVEN ROWS OF THIS SEAT. 6 by the template 'for every input the law returns true; each argument reads behind the call as it read before'; 0 by the template 'total and deterministic' (their statements: YtipblgongblklaaTotals.lean).
  GIVEN WITH THE SEED: the statements are not yours to turn. If you find one false, say at which input.
  Laid BY PROGRAM, IN A SANDBOX (cutbox-rows.mjs): the forced cells as the released guide's own fill.sh prints them over the translation c38859a2c97b194d… (all of the seat's roots in one cut). By AI agents, Wed Nov 11 2026. No macro, syntax, notation, axiom, sorry.
-/
import Derived.Test.YtipblgongblklaaChecked
import GoSem.Claim
import GoSem.ClaimJoined
import GoSem.ClaimMapViews
import Derived.JoinedTies
import Derived.KernelRfl
namespace Go.Proofs.Ytipblgongblklaa
/- THE CELL 'sum', in the pinned program and in every row, IS THE sha256 OF THE DUMP (.gsa) THAT YtipblgongblklaaProg.lean LOADS. Nothing in Lean hashes anything: it is a label: what it is worth is what the hold of that sum in a sandbox is worth. -/
noncomputable def Try.pinned : Pinned := { name := "ytipblgongblklaa", sum := "c38859a2c97b194d0b6fb91630fbd2ee19c88a21923fa08a9fc7cd5b78cdb1a5", checked := Try.checked }
namespace Rows
def none {H : Type} : Left H := { results := [], args := [] }

/-- 'governorlaw13.SchedTells': WHATEVER THE INPUT: true; the input reads as it did. -/
def schedTellsSpec : ChangeSpec := { name := "schedTells", fn := fun _ => fun
  | [d1, d2, d3] => { results := [.lit (.bool true)], args := [d1, d2, d3] }
  | _ => none }
def schedTellsRow : OpenClaim := { program := "ytipblgongblklaa", sum := "c38859a2c97b194d0b6fb91630fbd2ee19c88a21923fa08a9fc7cd5b78cdb1a5", func := "governor/governorlaw13.SchedTells", spec := "schedTells", unfollowed := true, recurses := true, apart := false }
def SchedTellsSaid : Prop := schedTellsRow.holds Try.pinned (OpenSpec.ofChange schedTellsSpec)

/-- ITS FALSE NEIGHBOUR: 'it returns false'. Refute it at one input. -/
def schedTellsWrong : ChangeSpec := { name := "schedTells", fn := fun _ => fun
  | [d1, d2, d3] => { results := [.lit (.bool false)], args := [d1, d2, d3] }
  | _ => none }
def SchedTellsWrongFalsely : Prop := schedTellsRow.holds Try.pinned (OpenSpec.ofChange schedTellsWrong)

/-- 'governorlaw13.SchedPeriod': WHATEVER THE INPUT: true; the input reads as it did. -/
def schedPeriodSpec : ChangeSpec := { name := "schedPeriod", fn := fun _ => fun
  | [d1, d2, d3, d4] => { results := [.lit (.bool true)], args := [d1, d2, d3, d4] }
  | _ => none }
def schedPeriodRow : OpenClaim := { program := "ytipblgongblklaa", sum := "c38859a2c97b194d0b6fb91630fbd2ee19c88a21923fa08a9fc7cd5b78cdb1a5", func := "governor/governorlaw13.SchedPeriod", spec := "schedPeriod", unfollowed := true, recurses := true, apart := false }
def SchedPeriodSaid : Prop := schedPeriodRow.holds Try.pinned (OpenSpec.ofChange schedPeriodSpec)

/-- ITS FALSE NEIGHBOUR: 'it returns false'. Refute it at one input. -/
def schedPeriodWrong : ChangeSpec := { name := "schedPeriod", fn := fun _ => fun
  | [d1, d2, d3, d4] => { results := [.lit (.bool false)], args := [d1, d2, d3, d4] }
  | _ => none }
def SchedPeriodWrongFalsely : Prop := schedPeriodRow.holds Try.pinned (OpenSpec.ofChange schedPeriodWrong)

/-- 'governorlaw13.SchedSlots': WHATEVER THE INPUT: true; the input reads as it did. -/
def schedSlotsSpec : ChangeSpec := { name := "schedSlots", fn := fun _ => fun
  | [d1, d2, d3, d4] => { results := [.lit (.bool true)], args := [d1, d2, d3, d4] }
  | _ => none }
def schedSlotsRow : OpenClaim := { program := "ytipblgongblklaa", sum := "c38859a2c97b194d0b6fb91630fbd2ee19c88a21923fa08a9fc7cd5b78cdb1a5", func := "governor/governorlaw13.SchedSlots", spec := "schedSlots", unfollowed := true, recurses := true, apart := false }
def SchedSlotsSaid : Prop := schedSlotsRow.holds Try.pinned (OpenSpec.ofChange schedSlotsSpec)

/-- ITS FALSE NEIGHBOUR: 'it returns false'. Refute it at one input. -/
def schedSlotsWrong : ChangeSpec := { name := "schedSlots", fn := fun _ => fun
  | [d1, d2, d3, d4] => { results := [.lit (.bool false)], args := [d1, d2, d3, d4] }
  | _ => none }
def SchedSlotsWrongFalsely : Prop := schedSlotsRow.holds Try.pinned (OpenSpec.ofChange schedSlotsWrong)

/-- 'governorlaw13.SchedOne': WHATEVER THE INPUT: true; the input reads as it did. -/
def schedOneSpec : ChangeSpec := { name := "schedOne", fn := fun _ => fun
  | [d1, d2, d3] => { results := [.lit (.bool true)], args := [d1, d2, d3] }
  | _ => none }
def schedOneRow : OpenClaim := { program := "ytipblgongblklaa", sum := "c38859a2c97b194d0b6fb91630fbd2ee19c88a21923fa08a9fc7cd5b78cdb1a5", func := "governor/governorlaw13.SchedOne", spec := "schedOne", unfollowed := true, recurses := true, apart := false }
def SchedOneSaid : Prop := schedOneRow.holds Try.pinned (OpenSpec.ofChange schedOneSpec)

/-- ITS FALSE NEIGHBOUR: 'it returns false'. Refute it at one input. -/
def schedOneWrong : ChangeSpec := { name := "schedOne", fn := fun _ => fun
  | [d1, d2, d3] => { results := [.lit (.bool false)], args := [d1, d2, d3] }
  | _ => none }
def SchedOneWrongFalsely : Prop := schedOneRow.holds Try.pinned (OpenSpec.ofChange schedOneWrong)

/-- 'governorlaw13.SchedSame': WHATEVER THE INPUT: true; the input reads as it did. -/
def schedSameSpec : ChangeSpec := { name := "schedSame", fn := fun _ => fun
  | [d1, d2, d3, d4] => { results := [.lit (.bool true)], args := [d1, d2, d3, d4] }
  | _ => none }
def schedSameRow : OpenClaim := { program := "ytipblgongblklaa", sum := "c38859a2c97b194d0b6fb91630fbd2ee19c88a21923fa08a9fc7cd5b78cdb1a5", func := "governor/governorlaw13.SchedSame", spec := "schedSame", unfollowed := true, recurses := true, apart := false }
def SchedSameSaid : Prop := schedSameRow.holds Try.pinned (OpenSpec.ofChange schedSameSpec)

/-- ITS FALSE NEIGHBOUR: 'it returns false'. Refute it at one input. -/
def schedSameWrong : ChangeSpec := { name := "schedSame", fn := fun _ => fun
  | [d1, d2, d3, d4] => { results := [.lit (.bool false)], args := [d1, d2, d3, d4] }
  | _ => none }
def SchedSameWrongFalsely : Prop := schedSameRow.holds Try.pinned (OpenSpec.ofChange schedSameWrong)

/-- 'governorlaw13.SchedShift': WHATEVER THE INPUT: true; the input reads as it did. -/
def schedShiftSpec : ChangeSpec := { name := "schedShift", fn := fun _ => fun
  | [d1, d2, d3] => { results := [.lit (.bool true)], args := [d1, d2, d3] }
  | _ => none }
def schedShiftRow : OpenClaim := { program := "ytipblgongblklaa", sum := "c38859a2c97b194d0b6fb91630fbd2ee19c88a21923fa08a9fc7cd5b78cdb1a5", func := "governor/governorlaw13.SchedShift", spec := "schedShift", unfollowed := true, recurses := true, apart := false }
def SchedShiftSaid : Prop := schedShiftRow.holds Try.pinned (OpenSpec.ofChange schedShiftSpec)

/-- ITS FALSE NEIGHBOUR: 'it returns false'. Refute it at one input. -/
def schedShiftWrong : ChangeSpec := { name := "schedShift", fn := fun _ => fun
  | [d1, d2, d3] => { results := [.lit (.bool false)], args := [d1, d2, d3] }
  | _ => none }
def SchedShiftWrongFalsely : Prop := schedShiftRow.holds Try.pinned (OpenSpec.ofChange schedShiftWrong)

/- THE SECOND FORM. 'bulk': how many values and letters a reading holds, each counted each time it is reached (what is shared counts as often as it is met; a slice's spare places count too). A statement '..UptoSaid' is the law's where the arguments, and the package variables that the reading takes, are together of bulk at most 1048576: NARROWER than '..Said'. Prove '..Said' where nothing that the law and all that it calls make is longer than what came in: it says more and counts as full. Else prove '..UptoSaid'. A law counts once. -/
mutual
def uptoBulk {H : Type} : DataW H → Nat
  | .lit (.string bytes) => bytes.length + 1
  | .lit _ => 1
  | .nil => 1
  | .ptr d => uptoBulk d + 1
  | .slice elems spare => uptoBulkAll elems + uptoBulkAll spare + 1
  | .agg parts => uptoBulkAll parts + 1
  | .iface _ d => uptoBulk d + 1
  | .map entries => uptoBulkEntries entries + 1
  | .held _ => 1
def uptoBulkAll {H : Type} : List (DataW H) → Nat
  | [] => 0
  | d :: r => uptoBulk d + uptoBulkAll r
def uptoBulkEntries {H : Type} : List (Lit × DataW H) → Nat
  | [] => 0
  | x :: r => uptoBulkEntry x + uptoBulkEntries r
def uptoBulkEntry {H : Type} : Lit × DataW H → Nat
  | (.string bytes, d) => bytes.length + uptoBulk d + 1
  | (_, d) => uptoBulk d + 1
 end
def uptoSmall : (H : Type) → List (DataW H) → Bool := fun _ ds => decide (uptoBulkAll ds ≤ 1048576)
def OpenSpec.upto (s : _root_.Go.ChangeSpec) : _root_.Go.OpenSpec := { _root_.Go.OpenSpec.ofChange s with cond := some uptoSmall }

/-- 'governorlaw13.SchedTells', WHERE WHAT IT READS IS OF BULK AT MOST 1048576: true; the input reads as it did. -/
def schedTellsUptoRow : OpenClaim := { program := "ytipblgongblklaa", sum := "c38859a2c97b194d0b6fb91630fbd2ee19c88a21923fa08a9fc7cd5b78cdb1a5", func := "governor/governorlaw13.SchedTells", spec := "schedTells", unfollowed := true, recurses := true, apart := false, narrowed := true }
def SchedTellsUptoSaid : Prop := schedTellsUptoRow.holds Try.pinned (OpenSpec.upto schedTellsSpec)

/-- 'governorlaw13.SchedPeriod', WHERE WHAT IT READS IS OF BULK AT MOST 1048576: true; the input reads as it did. -/
def schedPeriodUptoRow : OpenClaim := { program := "ytipblgongblklaa", sum := "c38859a2c97b194d0b6fb91630fbd2ee19c88a21923fa08a9fc7cd5b78cdb1a5", func := "governor/governorlaw13.SchedPeriod", spec := "schedPeriod", unfollowed := true, recurses := true, apart := false, narrowed := true }
def SchedPeriodUptoSaid : Prop := schedPeriodUptoRow.holds Try.pinned (OpenSpec.upto schedPeriodSpec)

/-- 'governorlaw13.SchedSlots', WHERE WHAT IT READS IS OF BULK AT MOST 1048576: true; the input reads as it did. -/
def schedSlotsUptoRow : OpenClaim := { program := "ytipblgongblklaa", sum := "c38859a2c97b194d0b6fb91630fbd2ee19c88a21923fa08a9fc7cd5b78cdb1a5", func := "governor/governorlaw13.SchedSlots", spec := "schedSlots", unfollowed := true, recurses := true, apart := false, narrowed := true }
def SchedSlotsUptoSaid : Prop := schedSlotsUptoRow.holds Try.pinned (OpenSpec.upto schedSlotsSpec)

/-- 'governorlaw13.SchedOne', WHERE WHAT IT READS IS OF BULK AT MOST 1048576: true; the input reads as it did. -/
def schedOneUptoRow : OpenClaim := { program := "ytipblgongblklaa", sum := "c38859a2c97b194d0b6fb91630fbd2ee19c88a21923fa08a9fc7cd5b78cdb1a5", func := "governor/governorlaw13.SchedOne", spec := "schedOne", unfollowed := true, recurses := true, apart := false, narrowed := true }
def SchedOneUptoSaid : Prop := schedOneUptoRow.holds Try.pinned (OpenSpec.upto schedOneSpec)

/-- 'governorlaw13.SchedSame', WHERE WHAT IT READS IS OF BULK AT MOST 1048576: true; the input reads as it did. -/
def schedSameUptoRow : OpenClaim := { program := "ytipblgongblklaa", sum := "c38859a2c97b194d0b6fb91630fbd2ee19c88a21923fa08a9fc7cd5b78cdb1a5", func := "governor/governorlaw13.SchedSame", spec := "schedSame", unfollowed := true, recurses := true, apart := false, narrowed := true }
def SchedSameUptoSaid : Prop := schedSameUptoRow.holds Try.pinned (OpenSpec.upto schedSameSpec)

/-- 'governorlaw13.SchedShift', WHERE WHAT IT READS IS OF BULK AT MOST 1048576: true; the input reads as it did. -/
def schedShiftUptoRow : OpenClaim := { program := "ytipblgongblklaa", sum := "c38859a2c97b194d0b6fb91630fbd2ee19c88a21923fa08a9fc7cd5b78cdb1a5", func := "governor/governorlaw13.SchedShift", spec := "schedShift", unfollowed := true, recurses := true, apart := false, narrowed := true }
def SchedShiftUptoSaid : Prop := schedShiftUptoRow.holds Try.pinned (OpenSpec.upto schedShiftSpec)

end Rows
end Go.Proofs.Ytipblgongblklaa
