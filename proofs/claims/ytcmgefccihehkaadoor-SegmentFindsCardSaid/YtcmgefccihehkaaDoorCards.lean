/-
  DERIVED. GIVEN WITH THE SEED: THE CARDS: each row of YtcmgefccihehkaaDoorRows.lean that lists a variable, with what it lists TIED to the program's text (the seventh form; the later family's looks); each row that meets fmt, with fmt's text TOLD by the authors' own Lean function (tested against real Go, not proved from fmt's source: count such statements apart). THE CARD IS WHAT COUNTS. Prove the row's statement (the work); the ties are given (YtcmgefccihehkaaDoorTie.lean); close each card by the builder's one call (the guide's Derived/Test/ToyasCard.lean, 'card_holds'). Laid BY PROGRAM, IN A SANDBOX (cutbox-door.mjs). By AI agents, Wed Nov 11 2026. No macro, syntax, notation, axiom, sorry.
-/
import Derived.Test.YtcmgefccihehkaaDoorRows
import GoSem.ClaimSeven
namespace Go.Proofs.YtcmgefccihehkaaDoor
namespace Rows

/-- THE TIED CARD OF 'governorlaw04.SegmentTells'. -/
def segmentTellsCard : Claim7 := { stood := { row := segmentTellsRow, standIns := [], harness := (true, "dd9f56772152932c5ca18b29d771218f68b8f2cd947ace4e5f2559617acb6ba7"), looks := true }, kinds := [], alts := [], laidByText := true, laidKinds := [.data, .data, .data, .sentinel, .sentinel], laidTests := true, laidLooks := .later }
def SegmentTellsCardSaid : Prop := Claim7.holds Tryd.pinned (.plain (OpenSpec.ofChange segmentTellsSpec)) segmentTellsCard

/-- THE TIED CARD OF 'governorlaw04.SegmentFinds'. -/
def segmentFindsCard : Claim7 := { stood := { row := segmentFindsRow, standIns := [], harness := (true, "dd9f56772152932c5ca18b29d771218f68b8f2cd947ace4e5f2559617acb6ba7"), looks := true }, kinds := [], alts := [], laidByText := true, laidKinds := [.data, .data, .data, .sentinel, .sentinel], laidTests := true, laidLooks := .later }
def SegmentFindsCardSaid : Prop := Claim7.holds Tryd.pinned (.plain (OpenSpec.ofChange segmentFindsSpec)) segmentFindsCard

/-- THE TIED CARD OF 'governorlaw04.SegmentNames'. -/
def segmentNamesCard : Claim7 := { stood := { row := segmentNamesRow, standIns := [], harness := (true, "dd9f56772152932c5ca18b29d771218f68b8f2cd947ace4e5f2559617acb6ba7"), looks := true }, kinds := [], alts := [], laidByText := true, laidKinds := [.data, .data, .data, .sentinel, .sentinel], laidTests := true, laidLooks := .later }
def SegmentNamesCardSaid : Prop := Claim7.holds Tryd.pinned (.plain (OpenSpec.ofChange segmentNamesSpec)) segmentNamesCard

/-- THE TIED CARD OF 'governorlaw04.SegmentBack'. -/
def segmentBackCard : Claim7 := { stood := { row := segmentBackRow, standIns := [], harness := (true, "dd9f56772152932c5ca18b29d771218f68b8f2cd947ace4e5f2559617acb6ba7"), looks := true }, kinds := [], alts := [], laidByText := true, laidKinds := [.data, .data, .data, .sentinel, .sentinel], laidTests := true, laidLooks := .later }
def SegmentBackCardSaid : Prop := Claim7.holds Tryd.pinned (.plain (OpenSpec.ofChange segmentBackSpec)) segmentBackCard

/-- THE TIED CARD OF 'governorlaw04.SegmentIndex'. -/
def segmentIndexCard : Claim7 := { stood := { row := segmentIndexRow, standIns := [], harness := (true, "dd9f56772152932c5ca18b29d771218f68b8f2cd947ace4e5f2559617acb6ba7"), looks := true }, kinds := [], alts := [], laidByText := true, laidKinds := [.data, .data, .data, .sentinel, .sentinel], laidTests := true, laidLooks := .later }
def SegmentIndexCardSaid : Prop := Claim7.holds Tryd.pinned (.plain (OpenSpec.ofChange segmentIndexSpec)) segmentIndexCard

/-- THE TIED CARD OF 'governorlaw04.SegmentSpoilt'. -/
def segmentSpoiltCard : Claim7 := { stood := { row := segmentSpoiltRow, standIns := [], harness := (true, "dd9f56772152932c5ca18b29d771218f68b8f2cd947ace4e5f2559617acb6ba7"), looks := true }, kinds := [], alts := [], laidByText := true, laidKinds := [.data, .data, .data, .sentinel, .sentinel], laidTests := true, laidLooks := .later }
def SegmentSpoiltCardSaid : Prop := Claim7.holds Tryd.pinned (.plain (OpenSpec.ofChange segmentSpoiltSpec)) segmentSpoiltCard

/-- THE SECOND FORM's CARD OF 'governorlaw04.SegmentTells'. -/
def segmentTellsUptoCard : Claim7 := { stood := { row := segmentTellsUptoRow, standIns := [], harness := (true, "dd9f56772152932c5ca18b29d771218f68b8f2cd947ace4e5f2559617acb6ba7"), looks := true }, kinds := [], alts := [], laidByText := true, laidKinds := [.data, .data, .data, .sentinel, .sentinel], laidTests := true, laidLooks := .later }
def SegmentTellsUptoCardSaid : Prop := Claim7.holds Tryd.pinned (.plain (OpenSpec.upto segmentTellsSpec)) segmentTellsUptoCard

/-- THE SECOND FORM's CARD OF 'governorlaw04.SegmentFinds'. -/
def segmentFindsUptoCard : Claim7 := { stood := { row := segmentFindsUptoRow, standIns := [], harness := (true, "dd9f56772152932c5ca18b29d771218f68b8f2cd947ace4e5f2559617acb6ba7"), looks := true }, kinds := [], alts := [], laidByText := true, laidKinds := [.data, .data, .data, .sentinel, .sentinel], laidTests := true, laidLooks := .later }
def SegmentFindsUptoCardSaid : Prop := Claim7.holds Tryd.pinned (.plain (OpenSpec.upto segmentFindsSpec)) segmentFindsUptoCard

/-- THE SECOND FORM's CARD OF 'governorlaw04.SegmentNames'. -/
def segmentNamesUptoCard : Claim7 := { stood := { row := segmentNamesUptoRow, standIns := [], harness := (true, "dd9f56772152932c5ca18b29d771218f68b8f2cd947ace4e5f2559617acb6ba7"), looks := true }, kinds := [], alts := [], laidByText := true, laidKinds := [.data, .data, .data, .sentinel, .sentinel], laidTests := true, laidLooks := .later }
def SegmentNamesUptoCardSaid : Prop := Claim7.holds Tryd.pinned (.plain (OpenSpec.upto segmentNamesSpec)) segmentNamesUptoCard

/-- THE SECOND FORM's CARD OF 'governorlaw04.SegmentBack'. -/
def segmentBackUptoCard : Claim7 := { stood := { row := segmentBackUptoRow, standIns := [], harness := (true, "dd9f56772152932c5ca18b29d771218f68b8f2cd947ace4e5f2559617acb6ba7"), looks := true }, kinds := [], alts := [], laidByText := true, laidKinds := [.data, .data, .data, .sentinel, .sentinel], laidTests := true, laidLooks := .later }
def SegmentBackUptoCardSaid : Prop := Claim7.holds Tryd.pinned (.plain (OpenSpec.upto segmentBackSpec)) segmentBackUptoCard

/-- THE SECOND FORM's CARD OF 'governorlaw04.SegmentIndex'. -/
def segmentIndexUptoCard : Claim7 := { stood := { row := segmentIndexUptoRow, standIns := [], harness := (true, "dd9f56772152932c5ca18b29d771218f68b8f2cd947ace4e5f2559617acb6ba7"), looks := true }, kinds := [], alts := [], laidByText := true, laidKinds := [.data, .data, .data, .sentinel, .sentinel], laidTests := true, laidLooks := .later }
def SegmentIndexUptoCardSaid : Prop := Claim7.holds Tryd.pinned (.plain (OpenSpec.upto segmentIndexSpec)) segmentIndexUptoCard

/-- THE SECOND FORM's CARD OF 'governorlaw04.SegmentSpoilt'. -/
def segmentSpoiltUptoCard : Claim7 := { stood := { row := segmentSpoiltUptoRow, standIns := [], harness := (true, "dd9f56772152932c5ca18b29d771218f68b8f2cd947ace4e5f2559617acb6ba7"), looks := true }, kinds := [], alts := [], laidByText := true, laidKinds := [.data, .data, .data, .sentinel, .sentinel], laidTests := true, laidLooks := .later }
def SegmentSpoiltUptoCardSaid : Prop := Claim7.holds Tryd.pinned (.plain (OpenSpec.upto segmentSpoiltSpec)) segmentSpoiltUptoCard
end Rows
end Go.Proofs.YtcmgefccihehkaaDoor
