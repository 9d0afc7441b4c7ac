/-
  NARROWER THAN 'FOR EVERY INPUT', by the rows' own cells (each row's printed sentence says how): TableauRuns: laid · TableauAgain: laid · TableauImages: laid · CodeMeasures: laid.
  DERIVED. THE GIVEN ROWS OF THIS SEAT. 4 by the template 'for every input the law returns true; each argument reads behind the call as it read before'; 0 by the template 'total and deterministic' (their statements: YtlechhmhmakgpaaGreatDoorTotals.lean).
  GIVEN WITH THE SEED: the statements are not yours to turn. If you find one false, say at which input.
  Laid BY PROGRAM, IN A SANDBOX (cutbox-rows.mjs): the forced cells as the released guide's own fill.sh prints them over the translation 82110cc63465b6d0… (all of the seat's roots in one cut). By AI agents, Wed Nov 11 2026. No macro, syntax, notation, axiom, sorry.
-/
import Derived.Test.YtlechhmhmakgpaaGreatDoorChecked
import GoSem.Claim
import GoSem.ClaimJoined
import GoSem.ClaimMapViews
import Derived.JoinedTies
import Derived.KernelRfl
namespace Go.Proofs.YtlechhmhmakgpaaGreatDoor
/- THE CELL 'sum', in the pinned program and in every row, IS THE sha256 OF THE DUMP (.gsa) THAT YtlechhmhmakgpaaGreatDoorProg.lean LOADS. Nothing in Lean hashes anything: it is a label: what it is worth is what the hold of that sum in a sandbox is worth. -/
noncomputable def Tryz.pinned : Pinned := { name := "ytlechhmhmakgpaagreatdoor", sum := "82110cc63465b6d021e3c6f23a140ae8e1b7e7c2db133451b2ba2dabdb3b54f7", checked := Tryz.checked }
namespace Rows
def none {H : Type} : Left H := { results := [], args := [] }

/- WHAT THE LISTED PACKAGE-LEVEL VARIABLES READ AS WHEN THE CALL BEGINS. Each datum BY PROGRAM (the guide's laid-datum.mjs) off the statement by which the dump's own 'gosem.cut.vars' lays the variable. In a bare row this is a premise. The card (YtlechhmhmakgpaaGreatDoorCards.lean) ties it to the program's text. -/
def laid_qloom_circ_shapes {H : Type} : DataW H := .agg [.agg [.lit (.string []), .lit (.bool false), .lit (.bool false), .lit (.bool false), .lit (.bool false)], .agg [.lit (.string [112, 104, 97, 115, 101]), .lit (.bool true), .lit (.bool false), .lit (.bool false), .lit (.bool false)], .agg [.lit (.string [120]), .lit (.bool false), .lit (.bool true), .lit (.bool true), .lit (.bool false)], .agg [.lit (.string [104]), .lit (.bool false), .lit (.bool true), .lit (.bool true), .lit (.bool false)], .agg [.lit (.string [112]), .lit (.bool true), .lit (.bool true), .lit (.bool true), .lit (.bool false)], .agg [.lit (.string [109, 101, 97, 115, 117, 114, 101]), .lit (.bool false), .lit (.bool true), .lit (.bool false), .lit (.bool true)], .agg [.lit (.string [114, 101, 115, 101, 116]), .lit (.bool false), .lit (.bool true), .lit (.bool false), .lit (.bool false)]]
def laid_math_bits_deBruijn32tab {H : Type} : DataW H := .agg [.lit (.int .u8 0), .lit (.int .u8 1), .lit (.int .u8 28), .lit (.int .u8 2), .lit (.int .u8 29), .lit (.int .u8 14), .lit (.int .u8 24), .lit (.int .u8 3), .lit (.int .u8 30), .lit (.int .u8 22), .lit (.int .u8 20), .lit (.int .u8 15), .lit (.int .u8 25), .lit (.int .u8 17), .lit (.int .u8 4), .lit (.int .u8 8), .lit (.int .u8 31), .lit (.int .u8 27), .lit (.int .u8 13), .lit (.int .u8 23), .lit (.int .u8 21), .lit (.int .u8 19), .lit (.int .u8 16), .lit (.int .u8 7), .lit (.int .u8 26), .lit (.int .u8 12), .lit (.int .u8 18), .lit (.int .u8 6), .lit (.int .u8 11), .lit (.int .u8 5), .lit (.int .u8 10), .lit (.int .u8 9)]
def laid_qloom_code_letters {H : Type} : DataW H := .agg [.agg [.lit (.int .u16 1), .lit (.int .u16 0), .lit (.bool false)], .agg [.lit (.int .u16 1), .lit (.int .u16 1), .lit (.bool false)], .agg [.lit (.int .u16 0), .lit (.int .u16 1), .lit (.bool false)]]

/-- 'qloomlaw.TableauRuns': WHATEVER THE INPUT: true; the input reads as it did. -/
def tableauRunsSpec : ChangeSpec := { name := "tableauRuns", fn := fun _ => fun
  | [d1, d2, d3] => { results := [.lit (.bool true)], args := [d1, d2, d3] }
  | _ => none }
def tableauRunsRow : OpenClaim := { program := "ytlechhmhmakgpaagreatdoor", sum := "82110cc63465b6d021e3c6f23a140ae8e1b7e7c2db133451b2ba2dabdb3b54f7", func := "qloom/qloomlaw.TableauRuns", spec := "tableauRuns", unfollowed := true, recurses := true, named := ["qloom/circ.shapes"], plainKeys := false, apart := false, laid := [("qloom/circ.shapes", laid_qloom_circ_shapes)] }
def TableauRunsSaid : Prop := tableauRunsRow.holds Tryz.pinned (OpenSpec.ofChange tableauRunsSpec)

/-- ITS FALSE NEIGHBOUR: 'it returns false'. Refute it at one input. -/
def tableauRunsWrong : ChangeSpec := { name := "tableauRuns", fn := fun _ => fun
  | [d1, d2, d3] => { results := [.lit (.bool false)], args := [d1, d2, d3] }
  | _ => none }
def TableauRunsWrongFalsely : Prop := tableauRunsRow.holds Tryz.pinned (OpenSpec.ofChange tableauRunsWrong)

/-- 'qloomlaw.TableauAgain': WHATEVER THE INPUT: true; the input reads as it did. -/
def tableauAgainSpec : ChangeSpec := { name := "tableauAgain", fn := fun _ => fun
  | [d] => { results := [.lit (.bool true)], args := [d] }
  | _ => none }
def tableauAgainRow : OpenClaim := { program := "ytlechhmhmakgpaagreatdoor", sum := "82110cc63465b6d021e3c6f23a140ae8e1b7e7c2db133451b2ba2dabdb3b54f7", func := "qloom/qloomlaw.TableauAgain", spec := "tableauAgain", unfollowed := true, recurses := true, named := ["qloom/circ.shapes", "math/bits.deBruijn32tab"], plainKeys := false, apart := false, laid := [("math/bits.deBruijn32tab", laid_math_bits_deBruijn32tab), ("qloom/circ.shapes", laid_qloom_circ_shapes)] }
def TableauAgainSaid : Prop := tableauAgainRow.holds Tryz.pinned (OpenSpec.ofChange tableauAgainSpec)

/-- ITS FALSE NEIGHBOUR: 'it returns false'. Refute it at one input. -/
def tableauAgainWrong : ChangeSpec := { name := "tableauAgain", fn := fun _ => fun
  | [d] => { results := [.lit (.bool false)], args := [d] }
  | _ => none }
def TableauAgainWrongFalsely : Prop := tableauAgainRow.holds Tryz.pinned (OpenSpec.ofChange tableauAgainWrong)

/-- 'qloomlaw.TableauImages': WHATEVER THE INPUT: true; the input reads as it did. -/
def tableauImagesSpec : ChangeSpec := { name := "tableauImages", fn := fun _ => fun
  | [d1, d2] => { results := [.lit (.bool true)], args := [d1, d2] }
  | _ => none }
def tableauImagesRow : OpenClaim := { program := "ytlechhmhmakgpaagreatdoor", sum := "82110cc63465b6d021e3c6f23a140ae8e1b7e7c2db133451b2ba2dabdb3b54f7", func := "qloom/qloomlaw.TableauImages", spec := "tableauImages", inPlace := ["internal/bytealg.IndexByteString"], unfollowed := true, recurses := true, named := ["qloom/circ.shapes"], plainKeys := false, apart := false, laid := [("qloom/circ.shapes", laid_qloom_circ_shapes)] }
def TableauImagesSaid : Prop := tableauImagesRow.holds Tryz.pinned (OpenSpec.ofChange tableauImagesSpec)

/-- ITS FALSE NEIGHBOUR: 'it returns false'. Refute it at one input. -/
def tableauImagesWrong : ChangeSpec := { name := "tableauImages", fn := fun _ => fun
  | [d1, d2] => { results := [.lit (.bool false)], args := [d1, d2] }
  | _ => none }
def TableauImagesWrongFalsely : Prop := tableauImagesRow.holds Tryz.pinned (OpenSpec.ofChange tableauImagesWrong)

/-- 'qloomlaw.CodeMeasures': WHATEVER THE INPUT: true; the input reads as it did. -/
def codeMeasuresSpec : ChangeSpec := { name := "codeMeasures", fn := fun _ => fun
  | [d1, d2, d3] => { results := [.lit (.bool true)], args := [d1, d2, d3] }
  | _ => none }
def codeMeasuresRow : OpenClaim := { program := "ytlechhmhmakgpaagreatdoor", sum := "82110cc63465b6d021e3c6f23a140ae8e1b7e7c2db133451b2ba2dabdb3b54f7", func := "qloom/qloomlaw.CodeMeasures", spec := "codeMeasures", inPlace := ["internal/bytealg.IndexByteString"], unfollowed := true, recurses := true, named := ["qloom/code.letters", "qloom/circ.shapes"], plainKeys := false, apart := false, laid := [("qloom/circ.shapes", laid_qloom_circ_shapes), ("qloom/code.letters", laid_qloom_code_letters)] }
def CodeMeasuresSaid : Prop := codeMeasuresRow.holds Tryz.pinned (OpenSpec.ofChange codeMeasuresSpec)

/-- ITS FALSE NEIGHBOUR: 'it returns false'. Refute it at one input. -/
def codeMeasuresWrong : ChangeSpec := { name := "codeMeasures", fn := fun _ => fun
  | [d1, d2, d3] => { results := [.lit (.bool false)], args := [d1, d2, d3] }
  | _ => none }
def CodeMeasuresWrongFalsely : Prop := codeMeasuresRow.holds Tryz.pinned (OpenSpec.ofChange codeMeasuresWrong)

/- THE SECOND FORM. 'bulk': how many values and letters a reading holds, each counted each time it is reached (what is shared counts as often as it is met; a slice's spare places count too). A statement '..UptoSaid' is the law's where the arguments, and the package variables that the reading takes, are together of bulk at most 1048576: NARROWER than '..Said'. Prove '..Said' where nothing that the law and all that it calls make is longer than what came in: it says more and counts as full. Else prove '..UptoSaid'. A law counts once. -/
mutual
def uptoBulk {H : Type} : DataW H → Nat
  | .lit (.string bytes) => bytes.length + 1
  | .lit _ => 1
  | .nil => 1
  | .ptr d => uptoBulk d + 1
  | .slice elems spare => uptoBulkAll elems + uptoBulkAll spare + 1
  | .agg parts => uptoBulkAll parts + 1
  | .iface _ d => uptoBulk d + 1
  | .map entries => uptoBulkEntries entries + 1
  | .held _ => 1
def uptoBulkAll {H : Type} : List (DataW H) → Nat
  | [] => 0
  | d :: r => uptoBulk d + uptoBulkAll r
def uptoBulkEntries {H : Type} : List (Lit × DataW H) → Nat
  | [] => 0
  | x :: r => uptoBulkEntry x + uptoBulkEntries r
def uptoBulkEntry {H : Type} : Lit × DataW H → Nat
  | (.string bytes, d) => bytes.length + uptoBulk d + 1
  | (_, d) => uptoBulk d + 1
 end
def uptoSmall : (H : Type) → List (DataW H) → Bool := fun _ ds => decide (uptoBulkAll ds ≤ 1048576)
def OpenSpec.upto (s : _root_.Go.ChangeSpec) : _root_.Go.OpenSpec := { _root_.Go.OpenSpec.ofChange s with cond := some uptoSmall }

/-- 'qloomlaw.TableauRuns', WHERE WHAT IT READS IS OF BULK AT MOST 1048576: true; the input reads as it did. -/
def tableauRunsUptoRow : OpenClaim := { program := "ytlechhmhmakgpaagreatdoor", sum := "82110cc63465b6d021e3c6f23a140ae8e1b7e7c2db133451b2ba2dabdb3b54f7", func := "qloom/qloomlaw.TableauRuns", spec := "tableauRuns", unfollowed := true, recurses := true, named := ["qloom/circ.shapes"], plainKeys := false, apart := false, laid := [("qloom/circ.shapes", laid_qloom_circ_shapes)], narrowed := true }
def TableauRunsUptoSaid : Prop := tableauRunsUptoRow.holds Tryz.pinned (OpenSpec.upto tableauRunsSpec)

/-- 'qloomlaw.TableauAgain', WHERE WHAT IT READS IS OF BULK AT MOST 1048576: true; the input reads as it did. -/
def tableauAgainUptoRow : OpenClaim := { program := "ytlechhmhmakgpaagreatdoor", sum := "82110cc63465b6d021e3c6f23a140ae8e1b7e7c2db133451b2ba2dabdb3b54f7", func := "qloom/qloomlaw.TableauAgain", spec := "tableauAgain", unfollowed := true, recurses := true, named := ["qloom/circ.shapes", "math/bits.deBruijn32tab"], plainKeys := false, apart := false, laid := [("math/bits.deBruijn32tab", laid_math_bits_deBruijn32tab), ("qloom/circ.shapes", laid_qloom_circ_shapes)], narrowed := true }
def TableauAgainUptoSaid : Prop := tableauAgainUptoRow.holds Tryz.pinned (OpenSpec.upto tableauAgainSpec)

/-- 'qloomlaw.TableauImages', WHERE WHAT IT READS IS OF BULK AT MOST 1048576: true; the input reads as it did. -/
def tableauImagesUptoRow : OpenClaim := { program := "ytlechhmhmakgpaagreatdoor", sum := "82110cc63465b6d021e3c6f23a140ae8e1b7e7c2db133451b2ba2dabdb3b54f7", func := "qloom/qloomlaw.TableauImages", spec := "tableauImages", inPlace := ["internal/bytealg.IndexByteString"], unfollowed := true, recurses := true, named := ["qloom/circ.shapes"], plainKeys := false, apart := false, laid := [("qloom/circ.shapes", laid_qloom_circ_shapes)], narrowed := true }
def TableauImagesUptoSaid : Prop := tableauImagesUptoRow.holds Tryz.pinned (OpenSpec.upto tableauImagesSpec)

/-- 'qloomlaw.CodeMeasures', WHERE WHAT IT READS IS OF BULK AT MOST 1048576: true; the input reads as it did. -/
def codeMeasuresUptoRow : OpenClaim := { program := "ytlechhmhmakgpaagreatdoor", sum := "82110cc63465b6d021e3c6f23a140ae8e1b7e7c2db133451b2ba2dabdb3b54f7", func := "qloom/qloomlaw.CodeMeasures", spec := "codeMeasures", inPlace := ["internal/bytealg.IndexByteString"], unfollowed := true, recurses := true, named := ["qloom/code.letters", "qloom/circ.shapes"], plainKeys := false, apart := false, laid := [("qloom/circ.shapes", laid_qloom_circ_shapes), ("qloom/code.letters", laid_qloom_code_letters)], narrowed := true }
def CodeMeasuresUptoSaid : Prop := codeMeasuresUptoRow.holds Tryz.pinned (OpenSpec.upto codeMeasuresSpec)

end Rows
end Go.Proofs.YtlechhmhmakgpaaGreatDoor
