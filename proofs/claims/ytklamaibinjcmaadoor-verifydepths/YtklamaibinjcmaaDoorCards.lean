/-
  DERIVED. GIVEN WITH THE SEED: THE CARDS: each row of YtklamaibinjcmaaDoorRows.lean that lists a variable, with what it lists TIED to the program's text (the seventh form; the later family's looks); each row that meets fmt, with fmt's text TOLD by the authors' own Lean function (tested against real Go, not proved from fmt's source: count such statements apart). THE CARD IS WHAT COUNTS. Prove the row's statement (the work); the ties are given (YtklamaibinjcmaaDoorTie.lean); close each card by the builder's one call (the guide's Derived/Test/ToyasCard.lean, 'card_holds'). Laid BY PROGRAM, IN A SANDBOX (cutbox-door.mjs). By AI agents, Wed Nov 11 2026. No macro, syntax, notation, axiom, sorry.
-/
import Derived.Test.YtklamaibinjcmaaDoorRows
import GoSem.ClaimSeven
namespace Go.Proofs.YtklamaibinjcmaaDoor
namespace Rows

/-- THE TIED CARD OF 'hindcastlaw15.VerifyDepths'. -/
def verifyDepthsCard : Claim7 := { stood := { row := verifyDepthsRow, standIns := [], harness := (true, "193f8da748061c5a6eb5cdc4743fad597f206881c8bebab28504204985a8cb7c"), looks := true }, kinds := [], alts := [], laidByText := true, laidKinds := [.data], laidTests := true, laidLooks := .later }
def VerifyDepthsCardSaid : Prop := Claim7.holds Tryd.pinned (.plain (OpenSpec.ofChange verifyDepthsSpec)) verifyDepthsCard

/-- THE TIED CARD OF 'hindcastlaw15.VerifyWalks'. -/
def verifyWalksCard : Claim7 := { stood := { row := verifyWalksRow, standIns := [], harness := (true, "193f8da748061c5a6eb5cdc4743fad597f206881c8bebab28504204985a8cb7c"), looks := true }, kinds := [], alts := [], laidByText := true, laidKinds := [.data], laidTests := true, laidLooks := .later }
def VerifyWalksCardSaid : Prop := Claim7.holds Tryd.pinned (.plain (OpenSpec.ofChange verifyWalksSpec)) verifyWalksCard

/-- THE TIED CARD OF 'hindcastlaw15.VerifyNames'. -/
def verifyNamesCard : Claim7 := { stood := { row := verifyNamesRow, standIns := [], harness := (true, "193f8da748061c5a6eb5cdc4743fad597f206881c8bebab28504204985a8cb7c"), looks := true }, kinds := [], alts := [], laidByText := true, laidKinds := [.data], laidTests := true, laidLooks := .later }
def VerifyNamesCardSaid : Prop := Claim7.holds Tryd.pinned (.plain (OpenSpec.ofChange verifyNamesSpec)) verifyNamesCard

/-- THE SECOND FORM's CARD OF 'hindcastlaw15.VerifyDepths'. -/
def verifyDepthsUptoCard : Claim7 := { stood := { row := verifyDepthsUptoRow, standIns := [], harness := (true, "193f8da748061c5a6eb5cdc4743fad597f206881c8bebab28504204985a8cb7c"), looks := true }, kinds := [], alts := [], laidByText := true, laidKinds := [.data], laidTests := true, laidLooks := .later }
def VerifyDepthsUptoCardSaid : Prop := Claim7.holds Tryd.pinned (.plain (OpenSpec.upto verifyDepthsSpec)) verifyDepthsUptoCard

/-- THE SECOND FORM's CARD OF 'hindcastlaw15.VerifyWalks'. -/
def verifyWalksUptoCard : Claim7 := { stood := { row := verifyWalksUptoRow, standIns := [], harness := (true, "193f8da748061c5a6eb5cdc4743fad597f206881c8bebab28504204985a8cb7c"), looks := true }, kinds := [], alts := [], laidByText := true, laidKinds := [.data], laidTests := true, laidLooks := .later }
def VerifyWalksUptoCardSaid : Prop := Claim7.holds Tryd.pinned (.plain (OpenSpec.upto verifyWalksSpec)) verifyWalksUptoCard

/-- THE SECOND FORM's CARD OF 'hindcastlaw15.VerifyNames'. -/
def verifyNamesUptoCard : Claim7 := { stood := { row := verifyNamesUptoRow, standIns := [], harness := (true, "193f8da748061c5a6eb5cdc4743fad597f206881c8bebab28504204985a8cb7c"), looks := true }, kinds := [], alts := [], laidByText := true, laidKinds := [.data], laidTests := true, laidLooks := .later }
def VerifyNamesUptoCardSaid : Prop := Claim7.holds Tryd.pinned (.plain (OpenSpec.upto verifyNamesSpec)) verifyNamesUptoCard
end Rows
end Go.Proofs.YtklamaibinjcmaaDoor
