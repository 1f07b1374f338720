/-
  DERIVED. GIVEN WITH THE SEED: THE CARDS: each row of YtfkhhplcogedmaaGreatDoorRows.lean that lists a variable, with what it lists TIED to the program's text (the seventh form; the later family's looks); each row that meets fmt, with fmt's text TOLD by the authors' own Lean function (tested against real Go, not proved from fmt's source: count such statements apart). THE CARD IS WHAT COUNTS. Prove the row's statement (the work); the ties are given (YtfkhhplcogedmaaGreatDoorTie.lean); close each card by the builder's one call (the guide's Derived/Test/ToyasCard.lean, 'card_holds'). Laid BY PROGRAM, IN A SANDBOX (cutbox-door.mjs). By AI agents, Wed Nov 11 2026. No macro, syntax, notation, axiom, sorry.
-/
import Derived.Test.YtfkhhplcogedmaaGreatDoorRows
import GoSem.ClaimSeven
namespace Go.Proofs.YtfkhhplcogedmaaGreatDoor
namespace Rows

/-- THE TIED CARD OF 'hindcastlaw15.VerifySays'. -/
def verifySaysCard : Claim7 := { stood := { row := verifySaysRow, standIns := [], harness := (true, "7bb211526c007b982bccf1fc6be30b048ee5d94eafa1b6ec1ae4a7dea5389f90"), looks := true }, kinds := [], alts := [], laidByText := true, laidKinds := [.data], laidTests := true, laidLooks := .later }
def VerifySaysCardSaid : Prop := Claim7.holds Tryz.pinned (.plain (OpenSpec.ofChange verifySaysSpec)) verifySaysCard

/-- THE SECOND FORM's CARD OF 'hindcastlaw15.VerifySays'. -/
def verifySaysUptoCard : Claim7 := { stood := { row := verifySaysUptoRow, standIns := [], harness := (true, "7bb211526c007b982bccf1fc6be30b048ee5d94eafa1b6ec1ae4a7dea5389f90"), looks := true }, kinds := [], alts := [], laidByText := true, laidKinds := [.data], laidTests := true, laidLooks := .later }
def VerifySaysUptoCardSaid : Prop := Claim7.holds Tryz.pinned (.plain (OpenSpec.upto verifySaysSpec)) verifySaysUptoCard
end Rows
end Go.Proofs.YtfkhhplcogedmaaGreatDoor
