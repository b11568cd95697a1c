/-
  DERIVED. GIVEN WITH THE SEED: THE CARDS: each row of YtihchcoclncjdaaDoorRows.lean that lists a variable, with what it lists TIED to the program's text (the seventh form; the later family's looks); each row that meets fmt, with fmt's text TOLD by the authors' own Lean function (tested against real Go, not proved from fmt's source: count such statements apart). THE CARD IS WHAT COUNTS. Prove the row's statement (the work); the ties are given (YtihchcoclncjdaaDoorTie.lean); close each card by the builder's one call (the guide's Derived/Test/ToyasCard.lean, 'card_holds'). Laid BY PROGRAM, IN A SANDBOX (cutbox-door.mjs). By AI agents, Wed Nov 11 2026. No macro, syntax, notation, axiom, sorry.
-/
import Derived.Test.YtihchcoclncjdaaDoorRows
import GoSem.ClaimSeven
namespace Go.Proofs.YtihchcoclncjdaaDoor
namespace Rows

/-- THE TIED CARD OF 'clauselaw.Lexes'. -/
def lexesCard : Claim7 := { stood := { row := lexesRow, standIns := [], harness := (true, "ba5962d63343ea985576203c0ec9f6520323d66a6074ca89c858694614201496"), looks := true }, kinds := [], alts := [], laidByText := true, laidKinds := [.data, .data, .data, .pinned, .pinned], laidTests := true, laidLooks := .later }
def LexesCardSaid : Prop := Claim7.holds Tryd.pinned (.plain (OpenSpec.ofChange lexesSpec)) lexesCard

/-- THE SECOND FORM's CARD OF 'clauselaw.Lexes'. -/
def lexesUptoCard : Claim7 := { stood := { row := lexesUptoRow, standIns := [], harness := (true, "ba5962d63343ea985576203c0ec9f6520323d66a6074ca89c858694614201496"), looks := true }, kinds := [], alts := [], laidByText := true, laidKinds := [.data, .data, .data, .pinned, .pinned], laidTests := true, laidLooks := .later }
def LexesUptoCardSaid : Prop := Claim7.holds Tryd.pinned (.plain (OpenSpec.upto lexesSpec)) lexesUptoCard
end Rows
end Go.Proofs.YtihchcoclncjdaaDoor
