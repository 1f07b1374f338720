/-
  NARROWER THAN 'FOR EVERY INPUT', by the rows' own cells (each row's printed sentence says how): VerifySays: laid.
  DERIVED. THE GIVEN ROWS OF THIS SEAT. 1 by the template 'for every input the law returns true; each argument reads behind the call as it read before'; 0 by the template 'total and deterministic' (their statements: YtfkhhplcogedmaaGreatDoorTotals.lean).
  GIVEN WITH THE SEED: the statements are not yours to turn. If you find one false, say at which input.
  Laid BY PROGRAM, IN A SANDBOX (cutbox-rows.mjs): the forced cells as the released guide's own fill.sh prints them over the translation 39deaaf66d58bbe6… (all of the seat's roots in one cut). By AI agents, Wed Nov 11 2026. No macro, syntax, notation, axiom, sorry.
-/
import Derived.Test.YtfkhhplcogedmaaGreatDoorChecked
import GoSem.Claim
import GoSem.ClaimJoined
import GoSem.ClaimMapViews
import Derived.JoinedTies
import Derived.KernelRfl
namespace Go.Proofs.YtfkhhplcogedmaaGreatDoor
/- THE CELL 'sum', in the pinned program and in every row, IS THE sha256 OF THE DUMP (.gsa) THAT YtfkhhplcogedmaaGreatDoorProg.lean LOADS. Nothing in Lean hashes anything: it is a label: what it is worth is what the hold of that sum in a sandbox is worth. -/
noncomputable def Tryz.pinned : Pinned := { name := "ytfkhhplcogedmaagreatdoor", sum := "39deaaf66d58bbe6a092009d128051f9d303b77d1d8cec4d6d20aede6c0d8bc7", checked := Tryz.checked }
namespace Rows
def none {H : Type} : Left H := { results := [], args := [] }

/- WHAT THE LISTED PACKAGE-LEVEL VARIABLES READ AS WHEN THE CALL BEGINS. Each datum BY PROGRAM (the guide's laid-datum.mjs) off the statement by which the dump's own 'gosem.cut.vars' lays the variable. In a bare row this is a premise. The card (YtfkhhplcogedmaaGreatDoorCards.lean) ties it to the program's text. -/
def laid_hindcast_code_rows {H : Type} : DataW H := .agg [.agg [.lit (.string []), .lit (.bool false), .lit (.int .i64 0), .lit (.int .i64 0)], .agg [.lit (.string [112, 117, 115, 104]), .lit (.bool true), .lit (.int .i64 0), .lit (.int .i64 1)], .agg [.lit (.string [108, 111, 97, 100]), .lit (.bool true), .lit (.int .i64 0), .lit (.int .i64 1)], .agg [.lit (.string [115, 116, 111, 114, 101]), .lit (.bool true), .lit (.int .i64 1), .lit (.int .i64 0)], .agg [.lit (.string [102, 105, 101, 108, 100]), .lit (.bool true), .lit (.int .i64 0), .lit (.int .i64 1)], .agg [.lit (.string [112, 117, 116]), .lit (.bool true), .lit (.int .i64 1), .lit (.int .i64 0)], .agg [.lit (.string [97, 100, 100]), .lit (.bool false), .lit (.int .i64 2), .lit (.int .i64 1)], .agg [.lit (.string [115, 117, 98]), .lit (.bool false), .lit (.int .i64 2), .lit (.int .i64 1)], .agg [.lit (.string [109, 117, 108]), .lit (.bool false), .lit (.int .i64 2), .lit (.int .i64 1)], .agg [.lit (.string [100, 105, 118]), .lit (.bool false), .lit (.int .i64 2), .lit (.int .i64 1)], .agg [.lit (.string [114, 101, 109]), .lit (.bool false), .lit (.int .i64 2), .lit (.int .i64 1)], .agg [.lit (.string [110, 101, 103]), .lit (.bool false), .lit (.int .i64 1), .lit (.int .i64 1)], .agg [.lit (.string [101, 113]), .lit (.bool false), .lit (.int .i64 2), .lit (.int .i64 1)], .agg [.lit (.string [110, 101]), .lit (.bool false), .lit (.int .i64 2), .lit (.int .i64 1)], .agg [.lit (.string [108, 116]), .lit (.bool false), .lit (.int .i64 2), .lit (.int .i64 1)], .agg [.lit (.string [108, 101]), .lit (.bool false), .lit (.int .i64 2), .lit (.int .i64 1)], .agg [.lit (.string [103, 116]), .lit (.bool false), .lit (.int .i64 2), .lit (.int .i64 1)], .agg [.lit (.string [103, 101]), .lit (.bool false), .lit (.int .i64 2), .lit (.int .i64 1)], .agg [.lit (.string [110, 111, 116]), .lit (.bool false), .lit (.int .i64 1), .lit (.int .i64 1)], .agg [.lit (.string [106, 117, 109, 112]), .lit (.bool true), .lit (.int .i64 0), .lit (.int .i64 0)], .agg [.lit (.string [122, 101, 114, 111]), .lit (.bool true), .lit (.int .i64 1), .lit (.int .i64 0)], .agg [.lit (.string [99, 97, 108, 108]), .lit (.bool true), .lit (.int .i64 0), .lit (.int .i64 1)], .agg [.lit (.string [114, 101, 116]), .lit (.bool false), .lit (.int .i64 1), .lit (.int .i64 0)], .agg [.lit (.string [115, 116, 111, 112]), .lit (.bool false), .lit (.int .i64 0), .lit (.int .i64 0)], .agg [.lit (.string [115, 116, 101, 112]), .lit (.bool false), .lit (.int .i64 0), .lit (.int .i64 0)], .agg [.lit (.string [101, 109, 105, 116]), .lit (.bool false), .lit (.int .i64 2), .lit (.int .i64 0)], .agg [.lit (.string [112, 97, 114, 116]), .lit (.bool true), .lit (.int .i64 0), .lit (.int .i64 0)], .agg [.lit (.string [115, 112, 97, 119, 110]), .lit (.bool false), .lit (.int .i64 0), .lit (.int .i64 0)], .agg [.lit (.string [103, 105, 118, 101]), .lit (.bool true), .lit (.int .i64 0), .lit (.int .i64 0)], .agg [.lit (.string [116, 97, 107, 101]), .lit (.bool true), .lit (.int .i64 0), .lit (.int .i64 0)], .agg [.lit (.string [100, 105, 101]), .lit (.bool false), .lit (.int .i64 0), .lit (.int .i64 0)], .agg [.lit (.string [114, 97, 110, 100]), .lit (.bool false), .lit (.int .i64 1), .lit (.int .i64 1)], .agg [.lit (.string [116, 105, 99, 107]), .lit (.bool false), .lit (.int .i64 0), .lit (.int .i64 1)], .agg [.lit (.string [109, 101]), .lit (.bool false), .lit (.int .i64 0), .lit (.int .i64 1)], .agg [.lit (.string [105, 110, 112, 117, 116]), .lit (.bool false), .lit (.int .i64 2), .lit (.int .i64 1)], .agg [.lit (.string [104, 97, 115]), .lit (.bool true), .lit (.int .i64 0), .lit (.int .i64 1)], .agg [.lit (.string [109, 105, 110]), .lit (.bool false), .lit (.int .i64 2), .lit (.int .i64 1)], .agg [.lit (.string [109, 97, 120]), .lit (.bool false), .lit (.int .i64 2), .lit (.int .i64 1)], .agg [.lit (.string [97, 98, 115]), .lit (.bool false), .lit (.int .i64 1), .lit (.int .i64 1)], .agg [.lit (.string [100, 114, 111, 112]), .lit (.bool false), .lit (.int .i64 1), .lit (.int .i64 0)]]

/-- 'hindcastlaw15.VerifySays': WHATEVER THE INPUT: true; the input reads as it did. -/
def verifySaysSpec : ChangeSpec := { name := "verifySays", fn := fun _ => fun
  | [d1, d2, d3, d4, d5] => { results := [.lit (.bool true)], args := [d1, d2, d3, d4, d5] }
  | _ => none }
def verifySaysRow : OpenClaim := { program := "ytfkhhplcogedmaagreatdoor", sum := "39deaaf66d58bbe6a092009d128051f9d303b77d1d8cec4d6d20aede6c0d8bc7", func := "hindcast/hindcastlaw15.VerifySays", spec := "verifySays", unfollowed := true, recurses := true, named := ["hindcast/code.rows"], plainKeys := false, apart := false, laid := [("hindcast/code.rows", laid_hindcast_code_rows)] }
def VerifySaysSaid : Prop := verifySaysRow.holds Tryz.pinned (OpenSpec.ofChange verifySaysSpec)

/-- ITS FALSE NEIGHBOUR: 'it returns false'. Refute it at one input. -/
def verifySaysWrong : ChangeSpec := { name := "verifySays", fn := fun _ => fun
  | [d1, d2, d3, d4, d5] => { results := [.lit (.bool false)], args := [d1, d2, d3, d4, d5] }
  | _ => none }
def VerifySaysWrongFalsely : Prop := verifySaysRow.holds Tryz.pinned (OpenSpec.ofChange verifySaysWrong)

/- THE SECOND FORM. 'bulk': how many values and letters a reading holds, each counted each time it is reached (what is shared counts as often as it is met; a slice's spare places count too). A statement '..UptoSaid' is the law's where the arguments, and the package variables that the reading takes, are together of bulk at most 1048576: NARROWER than '..Said'. Prove '..Said' where nothing that the law and all that it calls make is longer than what came in: it says more and counts as full. Else prove '..UptoSaid'. A law counts once. -/
mutual
def uptoBulk {H : Type} : DataW H → Nat
  | .lit (.string bytes) => bytes.length + 1
  | .lit _ => 1
  | .nil => 1
  | .ptr d => uptoBulk d + 1
  | .slice elems spare => uptoBulkAll elems + uptoBulkAll spare + 1
  | .agg parts => uptoBulkAll parts + 1
  | .iface _ d => uptoBulk d + 1
  | .map entries => uptoBulkEntries entries + 1
  | .held _ => 1
def uptoBulkAll {H : Type} : List (DataW H) → Nat
  | [] => 0
  | d :: r => uptoBulk d + uptoBulkAll r
def uptoBulkEntries {H : Type} : List (Lit × DataW H) → Nat
  | [] => 0
  | x :: r => uptoBulkEntry x + uptoBulkEntries r
def uptoBulkEntry {H : Type} : Lit × DataW H → Nat
  | (.string bytes, d) => bytes.length + uptoBulk d + 1
  | (_, d) => uptoBulk d + 1
 end
def uptoSmall : (H : Type) → List (DataW H) → Bool := fun _ ds => decide (uptoBulkAll ds ≤ 1048576)
def OpenSpec.upto (s : _root_.Go.ChangeSpec) : _root_.Go.OpenSpec := { _root_.Go.OpenSpec.ofChange s with cond := some uptoSmall }

/-- 'hindcastlaw15.VerifySays', WHERE WHAT IT READS IS OF BULK AT MOST 1048576: true; the input reads as it did. -/
def verifySaysUptoRow : OpenClaim := { program := "ytfkhhplcogedmaagreatdoor", sum := "39deaaf66d58bbe6a092009d128051f9d303b77d1d8cec4d6d20aede6c0d8bc7", func := "hindcast/hindcastlaw15.VerifySays", spec := "verifySays", unfollowed := true, recurses := true, named := ["hindcast/code.rows"], plainKeys := false, apart := false, laid := [("hindcast/code.rows", laid_hindcast_code_rows)], narrowed := true }
def VerifySaysUptoSaid : Prop := verifySaysUptoRow.holds Tryz.pinned (OpenSpec.upto verifySaysSpec)

end Rows
end Go.Proofs.YtfkhhplcogedmaaGreatDoor
