/-
  DERIVED. GIVEN WITH THE SEED: THE CARDS: each row of YtkcakbgcfnhgaaaGreatDoorRows.lean that lists a variable, with what it lists TIED to the program's text (the seventh form; the later family's looks); each row that meets fmt, with fmt's text TOLD by the authors' own Lean function (tested against real Go, not proved from fmt's source: count such statements apart). THE CARD IS WHAT COUNTS. Prove the row's statement (the work); the ties are given (YtkcakbgcfnhgaaaGreatDoorTie.lean); close each card by the builder's one call (the guide's Derived/Test/ToyasCard.lean, 'card_holds'). Laid BY PROGRAM, IN A SANDBOX (cutbox-door.mjs). By AI agents, Wed Nov 11 2026. No macro, syntax, notation, axiom, sorry.
-/
import Derived.Test.YtkcakbgcfnhgaaaGreatDoorRows
import GoSem.ClaimSeven
namespace Go.Proofs.YtkcakbgcfnhgaaaGreatDoor
namespace Rows

/-- THE TIED CARD OF 'clauselaw.Prints'. -/
def printsCard : Claim7 := { stood := { row := printsRow, standIns := [], harness := (true, "0da90c5f20fea73951846d6aba64e388063f3f092f3241485781c82277f1536f"), looks := true }, kinds := [], alts := [], laidByText := true, laidKinds := [.data, .data, .data, .data, .data, .data, .pinned, .pinned], laidTests := true, laidLooks := .later }
def PrintsCardSaid : Prop := Claim7.holds Tryz.pinned (.plain (OpenSpec.ofChange printsSpec)) printsCard

/-- THE TIED CARD OF 'clausekeep.Round'. -/
def roundCard : Claim7 := { stood := { row := roundRow, standIns := [], harness := (true, "0da90c5f20fea73951846d6aba64e388063f3f092f3241485781c82277f1536f"), looks := true }, kinds := [], alts := [], laidByText := true, laidKinds := [.data, .data, .data, .data, .sentinel, .sentinel, .data, .data, .data, .pinned, .pinned], laidTests := true, laidLooks := .later }
def RoundCardSaid : Prop := Claim7.holds Tryz.pinned (.plain (OpenSpec.ofChange roundSpec)) roundCard

/-- THE TIED CARD OF 'clausekeep.Needed'. -/
def neededCard : Claim7 := { stood := { row := neededRow, standIns := [], harness := (true, "0da90c5f20fea73951846d6aba64e388063f3f092f3241485781c82277f1536f"), looks := true }, kinds := [], alts := [], laidByText := true, laidKinds := [.data, .data, .data, .data, .sentinel, .sentinel, .data, .data, .data, .pinned, .pinned], laidTests := true, laidLooks := .later }
def NeededCardSaid : Prop := Claim7.holds Tryz.pinned (.plain (OpenSpec.ofChange neededSpec)) neededCard

/-- THE TIED CARD OF 'clausekeep.Canon'. -/
def canonCard : Claim7 := { stood := { row := canonRow, standIns := [], harness := (true, "0da90c5f20fea73951846d6aba64e388063f3f092f3241485781c82277f1536f"), looks := true }, kinds := [], alts := [], laidByText := true, laidKinds := [.data, .data, .data, .data, .sentinel, .sentinel, .data, .data, .data, .pinned, .pinned], laidTests := true, laidLooks := .later }
def CanonCardSaid : Prop := Claim7.holds Tryz.pinned (.plain (OpenSpec.ofChange canonSpec)) canonCard

/-- THE SECOND FORM's CARD OF 'clauselaw.Prints'. -/
def printsUptoCard : Claim7 := { stood := { row := printsUptoRow, standIns := [], harness := (true, "0da90c5f20fea73951846d6aba64e388063f3f092f3241485781c82277f1536f"), looks := true }, kinds := [], alts := [], laidByText := true, laidKinds := [.data, .data, .data, .data, .data, .data, .pinned, .pinned], laidTests := true, laidLooks := .later }
def PrintsUptoCardSaid : Prop := Claim7.holds Tryz.pinned (.plain (OpenSpec.upto printsSpec)) printsUptoCard

/-- THE SECOND FORM's CARD OF 'clausekeep.Round'. -/
def roundUptoCard : Claim7 := { stood := { row := roundUptoRow, standIns := [], harness := (true, "0da90c5f20fea73951846d6aba64e388063f3f092f3241485781c82277f1536f"), looks := true }, kinds := [], alts := [], laidByText := true, laidKinds := [.data, .data, .data, .data, .sentinel, .sentinel, .data, .data, .data, .pinned, .pinned], laidTests := true, laidLooks := .later }
def RoundUptoCardSaid : Prop := Claim7.holds Tryz.pinned (.plain (OpenSpec.upto roundSpec)) roundUptoCard

/-- THE SECOND FORM's CARD OF 'clausekeep.Needed'. -/
def neededUptoCard : Claim7 := { stood := { row := neededUptoRow, standIns := [], harness := (true, "0da90c5f20fea73951846d6aba64e388063f3f092f3241485781c82277f1536f"), looks := true }, kinds := [], alts := [], laidByText := true, laidKinds := [.data, .data, .data, .data, .sentinel, .sentinel, .data, .data, .data, .pinned, .pinned], laidTests := true, laidLooks := .later }
def NeededUptoCardSaid : Prop := Claim7.holds Tryz.pinned (.plain (OpenSpec.upto neededSpec)) neededUptoCard

/-- THE SECOND FORM's CARD OF 'clausekeep.Canon'. -/
def canonUptoCard : Claim7 := { stood := { row := canonUptoRow, standIns := [], harness := (true, "0da90c5f20fea73951846d6aba64e388063f3f092f3241485781c82277f1536f"), looks := true }, kinds := [], alts := [], laidByText := true, laidKinds := [.data, .data, .data, .data, .sentinel, .sentinel, .data, .data, .data, .pinned, .pinned], laidTests := true, laidLooks := .later }
def CanonUptoCardSaid : Prop := Claim7.holds Tryz.pinned (.plain (OpenSpec.upto canonSpec)) canonUptoCard
end Rows
end Go.Proofs.YtkcakbgcfnhgaaaGreatDoor
