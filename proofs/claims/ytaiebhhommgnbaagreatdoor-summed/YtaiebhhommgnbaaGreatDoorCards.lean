/-
  DERIVED. GIVEN WITH THE SEED: THE CARDS: each row of YtaiebhhommgnbaaGreatDoorRows.lean that lists a variable, with what it lists TIED to the program's text (the seventh form; the later family's looks); each row that meets fmt, with fmt's text TOLD by the authors' own Lean function (tested against real Go, not proved from fmt's source: count such statements apart). THE CARD IS WHAT COUNTS. Prove the row's statement (the work); the ties are given (YtaiebhhommgnbaaGreatDoorTie.lean); close each card by the builder's one call (the guide's Derived/Test/ToyasCard.lean, 'card_holds'). Laid BY PROGRAM, IN A SANDBOX (cutbox-door.mjs). By AI agents, Wed Nov 11 2026. No macro, syntax, notation, axiom, sorry.
-/
import Derived.Test.YtaiebhhommgnbaaGreatDoorRows
import GoSem.ClaimSeven
namespace Go.Proofs.YtaiebhhommgnbaaGreatDoor
namespace Rows

/-- THE TIED CARD OF 'clausekeep.Divided'. -/
def dividedCard : Claim7 := { stood := { row := dividedRow, standIns := [], harness := (true, "ef052cc2ce8acfe390cca670d1058c41bccf0db8372e5f5fe498467a4122187c"), looks := true }, kinds := [], alts := [], laidByText := true, laidKinds := [.data, .data, .data, .data, .sentinel, .sentinel, .data, .data, .data, .pinned, .pinned], laidTests := true, laidLooks := .later }
def DividedCardSaid : Prop := Claim7.holds Tryz.pinned (.plain (OpenSpec.ofChange dividedSpec)) dividedCard

/-- THE TIED CARD OF 'clausekeep.Summed'. -/
def summedCard : Claim7 := { stood := { row := summedRow, standIns := [], harness := (true, "ef052cc2ce8acfe390cca670d1058c41bccf0db8372e5f5fe498467a4122187c"), looks := true }, kinds := [], alts := [], laidByText := true, laidKinds := [.data, .data, .data, .data, .sentinel, .sentinel, .data, .data, .data, .pinned, .pinned], laidTests := true, laidLooks := .later }
def SummedCardSaid : Prop := Claim7.holds Tryz.pinned (.plain (OpenSpec.ofChange summedSpec)) summedCard

/-- THE SECOND FORM's CARD OF 'clausekeep.Divided'. -/
def dividedUptoCard : Claim7 := { stood := { row := dividedUptoRow, standIns := [], harness := (true, "ef052cc2ce8acfe390cca670d1058c41bccf0db8372e5f5fe498467a4122187c"), looks := true }, kinds := [], alts := [], laidByText := true, laidKinds := [.data, .data, .data, .data, .sentinel, .sentinel, .data, .data, .data, .pinned, .pinned], laidTests := true, laidLooks := .later }
def DividedUptoCardSaid : Prop := Claim7.holds Tryz.pinned (.plain (OpenSpec.upto dividedSpec)) dividedUptoCard

/-- THE SECOND FORM's CARD OF 'clausekeep.Summed'. -/
def summedUptoCard : Claim7 := { stood := { row := summedUptoRow, standIns := [], harness := (true, "ef052cc2ce8acfe390cca670d1058c41bccf0db8372e5f5fe498467a4122187c"), looks := true }, kinds := [], alts := [], laidByText := true, laidKinds := [.data, .data, .data, .data, .sentinel, .sentinel, .data, .data, .data, .pinned, .pinned], laidTests := true, laidLooks := .later }
def SummedUptoCardSaid : Prop := Claim7.holds Tryz.pinned (.plain (OpenSpec.upto summedSpec)) summedUptoCard
end Rows
end Go.Proofs.YtaiebhhommgnbaaGreatDoor
