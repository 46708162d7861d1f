/-
  NARROWER THAN 'FOR EVERY INPUT', by the rows' own cells (each row's printed sentence says how): KnowSees: laid · KnowHides: laid.
  DERIVED. THE GIVEN ROWS OF THIS SEAT. 2 by the template 'for every input the law returns true; each argument reads behind the call as it read before'; 0 by the template 'total and deterministic' (their statements: YtmhabodijmnldaaDoorTotals.lean).
  GIVEN WITH THE SEED: the statements are not yours to turn. If you find one false, say at which input.
  Laid BY PROGRAM, IN A SANDBOX (cutbox-rows.mjs): the forced cells as the released guide's own fill.sh prints them over the translation 735a4ec71319ee78… (all of the seat's roots in one cut). By AI agents, Wed Nov 11 2026. No macro, syntax, notation, axiom, sorry.
-/
import Derived.Test.YtmhabodijmnldaaDoorChecked
import GoSem.Claim
import GoSem.ClaimJoined
import GoSem.ClaimMapViews
import Derived.JoinedTies
import Derived.KernelRfl
namespace Go.Proofs.YtmhabodijmnldaaDoor
/- THE CELL 'sum', in the pinned program and in every row, IS THE sha256 OF THE DUMP (.gsa) THAT YtmhabodijmnldaaDoorProg.lean LOADS. Nothing in Lean hashes anything: it is a label: what it is worth is what the hold of that sum in a sandbox is worth. -/
noncomputable def Tryd.pinned : Pinned := { name := "ytmhabodijmnldaadoor", sum := "735a4ec71319ee78bfdc8e62be68a2a7626d928b4e00df2a44e47b13ab5ce3b1", checked := Tryd.checked }
namespace Rows
def none {H : Type} : Left H := { results := [], args := [] }

/- WHAT THE LISTED PACKAGE-LEVEL VARIABLES READ AS WHEN THE CALL BEGINS. Each datum BY PROGRAM (the guide's laid-datum.mjs) off the statement by which the dump's own 'gosem.cut.vars' lays the variable. In a bare row this is a premise. The card (YtmhabodijmnldaaDoorCards.lean) ties it to the program's text. -/
def laid_mulligan_state_fieldOnly {H : Type} : DataW H := .agg [.lit (.int .i64 4), .lit (.int .i64 5), .lit (.int .i64 6), .lit (.int .i64 7), .lit (.int .i64 8), .lit (.int .i64 9), .lit (.int .i64 10), .lit (.int .i64 11), .lit (.int .i64 12)]

/-- 'mulliganlaw15.KnowSees': WHATEVER THE INPUT: true; the input reads as it did. -/
def knowSeesSpec : ChangeSpec := { name := "knowSees", fn := fun _ => fun
  | [d1, d2] => { results := [.lit (.bool true)], args := [d1, d2] }
  | _ => none }
def knowSeesRow : OpenClaim := { program := "ytmhabodijmnldaadoor", sum := "735a4ec71319ee78bfdc8e62be68a2a7626d928b4e00df2a44e47b13ab5ce3b1", func := "mulligan/mulliganlaw15.KnowSees", spec := "knowSees", named := ["mulligan/state.fieldOnly"], apart := false, laid := [("mulligan/state.fieldOnly", laid_mulligan_state_fieldOnly)] }
def KnowSeesSaid : Prop := knowSeesRow.holds Tryd.pinned (OpenSpec.ofChange knowSeesSpec)

/-- ITS FALSE NEIGHBOUR: 'it returns false'. Refute it at one input. -/
def knowSeesWrong : ChangeSpec := { name := "knowSees", fn := fun _ => fun
  | [d1, d2] => { results := [.lit (.bool false)], args := [d1, d2] }
  | _ => none }
def KnowSeesWrongFalsely : Prop := knowSeesRow.holds Tryd.pinned (OpenSpec.ofChange knowSeesWrong)

/-- 'mulliganlaw15.KnowHides': WHATEVER THE INPUT: true; the input reads as it did. -/
def knowHidesSpec : ChangeSpec := { name := "knowHides", fn := fun _ => fun
  | [d1, d2, d3] => { results := [.lit (.bool true)], args := [d1, d2, d3] }
  | _ => none }
def knowHidesRow : OpenClaim := { program := "ytmhabodijmnldaadoor", sum := "735a4ec71319ee78bfdc8e62be68a2a7626d928b4e00df2a44e47b13ab5ce3b1", func := "mulligan/mulliganlaw15.KnowHides", spec := "knowHides", named := ["mulligan/state.fieldOnly"], apart := false, laid := [("mulligan/state.fieldOnly", laid_mulligan_state_fieldOnly)] }
def KnowHidesSaid : Prop := knowHidesRow.holds Tryd.pinned (OpenSpec.ofChange knowHidesSpec)

/-- ITS FALSE NEIGHBOUR: 'it returns false'. Refute it at one input. -/
def knowHidesWrong : ChangeSpec := { name := "knowHides", fn := fun _ => fun
  | [d1, d2, d3] => { results := [.lit (.bool false)], args := [d1, d2, d3] }
  | _ => none }
def KnowHidesWrongFalsely : Prop := knowHidesRow.holds Tryd.pinned (OpenSpec.ofChange knowHidesWrong)

/- THE SECOND FORM. 'bulk': how many values and letters a reading holds, each counted each time it is reached (what is shared counts as often as it is met; a slice's spare places count too). A statement '..UptoSaid' is the law's where the arguments, and the package variables that the reading takes, are together of bulk at most 1048576: NARROWER than '..Said'. Prove '..Said' where nothing that the law and all that it calls make is longer than what came in: it says more and counts as full. Else prove '..UptoSaid'. A law counts once. -/
mutual
def uptoBulk {H : Type} : DataW H → Nat
  | .lit (.string bytes) => bytes.length + 1
  | .lit _ => 1
  | .nil => 1
  | .ptr d => uptoBulk d + 1
  | .slice elems spare => uptoBulkAll elems + uptoBulkAll spare + 1
  | .agg parts => uptoBulkAll parts + 1
  | .iface _ d => uptoBulk d + 1
  | .map entries => uptoBulkEntries entries + 1
  | .held _ => 1
def uptoBulkAll {H : Type} : List (DataW H) → Nat
  | [] => 0
  | d :: r => uptoBulk d + uptoBulkAll r
def uptoBulkEntries {H : Type} : List (Lit × DataW H) → Nat
  | [] => 0
  | x :: r => uptoBulkEntry x + uptoBulkEntries r
def uptoBulkEntry {H : Type} : Lit × DataW H → Nat
  | (.string bytes, d) => bytes.length + uptoBulk d + 1
  | (_, d) => uptoBulk d + 1
 end
def uptoSmall : (H : Type) → List (DataW H) → Bool := fun _ ds => decide (uptoBulkAll ds ≤ 1048576)
def OpenSpec.upto (s : _root_.Go.ChangeSpec) : _root_.Go.OpenSpec := { _root_.Go.OpenSpec.ofChange s with cond := some uptoSmall }

/-- 'mulliganlaw15.KnowSees', WHERE WHAT IT READS IS OF BULK AT MOST 1048576: true; the input reads as it did. -/
def knowSeesUptoRow : OpenClaim := { program := "ytmhabodijmnldaadoor", sum := "735a4ec71319ee78bfdc8e62be68a2a7626d928b4e00df2a44e47b13ab5ce3b1", func := "mulligan/mulliganlaw15.KnowSees", spec := "knowSees", named := ["mulligan/state.fieldOnly"], apart := false, laid := [("mulligan/state.fieldOnly", laid_mulligan_state_fieldOnly)], narrowed := true }
def KnowSeesUptoSaid : Prop := knowSeesUptoRow.holds Tryd.pinned (OpenSpec.upto knowSeesSpec)

/-- 'mulliganlaw15.KnowHides', WHERE WHAT IT READS IS OF BULK AT MOST 1048576: true; the input reads as it did. -/
def knowHidesUptoRow : OpenClaim := { program := "ytmhabodijmnldaadoor", sum := "735a4ec71319ee78bfdc8e62be68a2a7626d928b4e00df2a44e47b13ab5ce3b1", func := "mulligan/mulliganlaw15.KnowHides", spec := "knowHides", named := ["mulligan/state.fieldOnly"], apart := false, laid := [("mulligan/state.fieldOnly", laid_mulligan_state_fieldOnly)], narrowed := true }
def KnowHidesUptoSaid : Prop := knowHidesUptoRow.holds Tryd.pinned (OpenSpec.upto knowHidesSpec)

end Rows
end Go.Proofs.YtmhabodijmnldaaDoor
