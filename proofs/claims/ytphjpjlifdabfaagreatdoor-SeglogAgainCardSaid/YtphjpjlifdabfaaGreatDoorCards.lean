/-
  DERIVED. GIVEN WITH THE SEED: THE CARDS: each row of YtphjpjlifdabfaaGreatDoorRows.lean that lists a variable, with what it lists TIED to the program's text (the seventh form; the later family's looks); each row that meets fmt, with fmt's text TOLD by the authors' own Lean function (tested against real Go, not proved from fmt's source: count such statements apart). THE CARD IS WHAT COUNTS. Prove the row's statement (the work); the ties are given (YtphjpjlifdabfaaGreatDoorTie.lean); close each card by the builder's one call (the guide's Derived/Test/ToyasCard.lean, 'card_holds'). Laid BY PROGRAM, IN A SANDBOX (cutbox-door.mjs). By AI agents, Wed Nov 11 2026. No macro, syntax, notation, axiom, sorry.
-/
import Derived.Test.YtphjpjlifdabfaaGreatDoorRows
import GoSem.ClaimSeven
namespace Go.Proofs.YtphjpjlifdabfaaGreatDoor
namespace Rows

/-- THE TIED CARD OF 'governorlaw06.SeglogPlays'. -/
def seglogPlaysCard : Claim7 := { stood := { row := seglogPlaysRow, standIns := [], harness := (true, "c56fb59249b195c6603c7dbc8911e32d3ab76f45752fb4a5ad7db243a2f653f3"), looks := true }, kinds := [], alts := [], laidByText := true, laidKinds := [.data, .data, .data, .sentinel, .sentinel], laidTests := true, laidLooks := .later }
def SeglogPlaysCardSaid : Prop := Claim7.holds Tryz.pinned (.plain (OpenSpec.ofChange seglogPlaysSpec)) seglogPlaysCard

/-- THE TIED CARD OF 'governorlaw06.SeglogOpens'. -/
def seglogOpensCard : Claim7 := { stood := { row := seglogOpensRow, standIns := [], harness := (true, "c56fb59249b195c6603c7dbc8911e32d3ab76f45752fb4a5ad7db243a2f653f3"), looks := true }, kinds := [], alts := [], laidByText := true, laidKinds := [.data, .data, .data, .sentinel, .sentinel], laidTests := true, laidLooks := .later }
def SeglogOpensCardSaid : Prop := Claim7.holds Tryz.pinned (.plain (OpenSpec.ofChange seglogOpensSpec)) seglogOpensCard

/-- THE TIED CARD OF 'governorlaw06.SeglogPrefix'. -/
def seglogPrefixCard : Claim7 := { stood := { row := seglogPrefixRow, standIns := [], harness := (true, "c56fb59249b195c6603c7dbc8911e32d3ab76f45752fb4a5ad7db243a2f653f3"), looks := true }, kinds := [], alts := [], laidByText := true, laidKinds := [.data, .data, .data, .sentinel, .sentinel], laidTests := true, laidLooks := .later }
def SeglogPrefixCardSaid : Prop := Claim7.holds Tryz.pinned (.plain (OpenSpec.ofChange seglogPrefixSpec)) seglogPrefixCard

/-- THE TIED CARD OF 'governorlaw06.SeglogAgain'. -/
def seglogAgainCard : Claim7 := { stood := { row := seglogAgainRow, standIns := [], harness := (true, "c56fb59249b195c6603c7dbc8911e32d3ab76f45752fb4a5ad7db243a2f653f3"), looks := true }, kinds := [], alts := [], laidByText := true, laidKinds := [.data, .data, .data, .sentinel, .sentinel], laidTests := true, laidLooks := .later }
def SeglogAgainCardSaid : Prop := Claim7.holds Tryz.pinned (.plain (OpenSpec.ofChange seglogAgainSpec)) seglogAgainCard

/-- THE TIED CARD OF 'governorlaw06.SeglogRetains'. -/
def seglogRetainsCard : Claim7 := { stood := { row := seglogRetainsRow, standIns := [], harness := (true, "c56fb59249b195c6603c7dbc8911e32d3ab76f45752fb4a5ad7db243a2f653f3"), looks := true }, kinds := [], alts := [], laidByText := true, laidKinds := [.data, .data, .data, .sentinel, .sentinel], laidTests := true, laidLooks := .later }
def SeglogRetainsCardSaid : Prop := Claim7.holds Tryz.pinned (.plain (OpenSpec.ofChange seglogRetainsSpec)) seglogRetainsCard

/-- THE TIED CARD OF 'governorlaw06.SeglogFull'. -/
def seglogFullCard : Claim7 := { stood := { row := seglogFullRow, standIns := [], harness := (true, "c56fb59249b195c6603c7dbc8911e32d3ab76f45752fb4a5ad7db243a2f653f3"), looks := true }, kinds := [], alts := [], laidByText := true, laidKinds := [.data, .data, .data, .sentinel, .sentinel], laidTests := true, laidLooks := .later }
def SeglogFullCardSaid : Prop := Claim7.holds Tryz.pinned (.plain (OpenSpec.ofChange seglogFullSpec)) seglogFullCard

/-- THE SECOND FORM's CARD OF 'governorlaw06.SeglogPlays'. -/
def seglogPlaysUptoCard : Claim7 := { stood := { row := seglogPlaysUptoRow, standIns := [], harness := (true, "c56fb59249b195c6603c7dbc8911e32d3ab76f45752fb4a5ad7db243a2f653f3"), looks := true }, kinds := [], alts := [], laidByText := true, laidKinds := [.data, .data, .data, .sentinel, .sentinel], laidTests := true, laidLooks := .later }
def SeglogPlaysUptoCardSaid : Prop := Claim7.holds Tryz.pinned (.plain (OpenSpec.upto seglogPlaysSpec)) seglogPlaysUptoCard

/-- THE SECOND FORM's CARD OF 'governorlaw06.SeglogOpens'. -/
def seglogOpensUptoCard : Claim7 := { stood := { row := seglogOpensUptoRow, standIns := [], harness := (true, "c56fb59249b195c6603c7dbc8911e32d3ab76f45752fb4a5ad7db243a2f653f3"), looks := true }, kinds := [], alts := [], laidByText := true, laidKinds := [.data, .data, .data, .sentinel, .sentinel], laidTests := true, laidLooks := .later }
def SeglogOpensUptoCardSaid : Prop := Claim7.holds Tryz.pinned (.plain (OpenSpec.upto seglogOpensSpec)) seglogOpensUptoCard

/-- THE SECOND FORM's CARD OF 'governorlaw06.SeglogPrefix'. -/
def seglogPrefixUptoCard : Claim7 := { stood := { row := seglogPrefixUptoRow, standIns := [], harness := (true, "c56fb59249b195c6603c7dbc8911e32d3ab76f45752fb4a5ad7db243a2f653f3"), looks := true }, kinds := [], alts := [], laidByText := true, laidKinds := [.data, .data, .data, .sentinel, .sentinel], laidTests := true, laidLooks := .later }
def SeglogPrefixUptoCardSaid : Prop := Claim7.holds Tryz.pinned (.plain (OpenSpec.upto seglogPrefixSpec)) seglogPrefixUptoCard

/-- THE SECOND FORM's CARD OF 'governorlaw06.SeglogAgain'. -/
def seglogAgainUptoCard : Claim7 := { stood := { row := seglogAgainUptoRow, standIns := [], harness := (true, "c56fb59249b195c6603c7dbc8911e32d3ab76f45752fb4a5ad7db243a2f653f3"), looks := true }, kinds := [], alts := [], laidByText := true, laidKinds := [.data, .data, .data, .sentinel, .sentinel], laidTests := true, laidLooks := .later }
def SeglogAgainUptoCardSaid : Prop := Claim7.holds Tryz.pinned (.plain (OpenSpec.upto seglogAgainSpec)) seglogAgainUptoCard

/-- THE SECOND FORM's CARD OF 'governorlaw06.SeglogRetains'. -/
def seglogRetainsUptoCard : Claim7 := { stood := { row := seglogRetainsUptoRow, standIns := [], harness := (true, "c56fb59249b195c6603c7dbc8911e32d3ab76f45752fb4a5ad7db243a2f653f3"), looks := true }, kinds := [], alts := [], laidByText := true, laidKinds := [.data, .data, .data, .sentinel, .sentinel], laidTests := true, laidLooks := .later }
def SeglogRetainsUptoCardSaid : Prop := Claim7.holds Tryz.pinned (.plain (OpenSpec.upto seglogRetainsSpec)) seglogRetainsUptoCard

/-- THE SECOND FORM's CARD OF 'governorlaw06.SeglogFull'. -/
def seglogFullUptoCard : Claim7 := { stood := { row := seglogFullUptoRow, standIns := [], harness := (true, "c56fb59249b195c6603c7dbc8911e32d3ab76f45752fb4a5ad7db243a2f653f3"), looks := true }, kinds := [], alts := [], laidByText := true, laidKinds := [.data, .data, .data, .sentinel, .sentinel], laidTests := true, laidLooks := .later }
def SeglogFullUptoCardSaid : Prop := Claim7.holds Tryz.pinned (.plain (OpenSpec.upto seglogFullSpec)) seglogFullUptoCard
end Rows
end Go.Proofs.YtphjpjlifdabfaaGreatDoor
