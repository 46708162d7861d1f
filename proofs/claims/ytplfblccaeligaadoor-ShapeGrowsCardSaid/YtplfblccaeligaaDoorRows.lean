/-
  NARROWER THAN 'FOR EVERY INPUT', by the rows' own cells (each row's printed sentence says how): ShapeOf: laid · ShapeHas: laid · ShapePlain: laid · ShapeGrows: laid.
  DERIVED. THE GIVEN ROWS OF THIS SEAT. 4 by the template 'for every input the law returns true; each argument reads behind the call as it read before'; 0 by the template 'total and deterministic' (their statements: YtplfblccaeligaaDoorTotals.lean).
  GIVEN WITH THE SEED: the statements are not yours to turn. If you find one false, say at which input.
  Laid BY PROGRAM, IN A SANDBOX (cutbox-rows.mjs): the forced cells as the released guide's own fill.sh prints them over the translation 03bfd99d84931e5b… (all of the seat's roots in one cut). By AI agents, Wed Nov 11 2026. No macro, syntax, notation, axiom, sorry.
-/
import Derived.Test.YtplfblccaeligaaDoorChecked
import GoSem.Claim
import GoSem.ClaimJoined
import GoSem.ClaimMapViews
import Derived.JoinedTies
import Derived.KernelRfl
namespace Go.Proofs.YtplfblccaeligaaDoor
/- THE CELL 'sum', in the pinned program and in every row, IS THE sha256 OF THE DUMP (.gsa) THAT YtplfblccaeligaaDoorProg.lean LOADS. Nothing in Lean hashes anything: it is a label: what it is worth is what the hold of that sum in a sandbox is worth. -/
noncomputable def Tryd.pinned : Pinned := { name := "ytplfblccaeligaadoor", sum := "03bfd99d84931e5bfc17c6937f93802dedb2b9fe96e2d3af4efff2af4f1ff54e", checked := Tryd.checked }
namespace Rows
def none {H : Type} : Left H := { results := [], args := [] }

/- WHAT THE LISTED PACKAGE-LEVEL VARIABLES READ AS WHEN THE CALL BEGINS. Each datum BY PROGRAM (the guide's laid-datum.mjs) off the statement by which the dump's own 'gosem.cut.vars' lays the variable. In a bare row this is a premise. The card (YtplfblccaeligaaDoorCards.lean) ties it to the program's text. -/
def laid_mulligan_state_fieldOnly {H : Type} : DataW H := .agg [.lit (.int .i64 4), .lit (.int .i64 5), .lit (.int .i64 6), .lit (.int .i64 7), .lit (.int .i64 8), .lit (.int .i64 9), .lit (.int .i64 10), .lit (.int .i64 11), .lit (.int .i64 12)]

/-- 'mulliganlaw17.ShapeOf': WHATEVER THE INPUT: true; the input reads as it did. -/
def shapeOfSpec : ChangeSpec := { name := "shapeOf", fn := fun _ => fun
  | [d1, d2] => { results := [.lit (.bool true)], args := [d1, d2] }
  | _ => none }
def shapeOfRow : OpenClaim := { program := "ytplfblccaeligaadoor", sum := "03bfd99d84931e5bfc17c6937f93802dedb2b9fe96e2d3af4efff2af4f1ff54e", func := "mulligan/mulliganlaw17.ShapeOf", spec := "shapeOf", named := ["mulligan/state.fieldOnly"], apart := false, laid := [("mulligan/state.fieldOnly", laid_mulligan_state_fieldOnly)] }
def ShapeOfSaid : Prop := shapeOfRow.holds Tryd.pinned (OpenSpec.ofChange shapeOfSpec)

/-- ITS FALSE NEIGHBOUR: 'it returns false'. Refute it at one input. -/
def shapeOfWrong : ChangeSpec := { name := "shapeOf", fn := fun _ => fun
  | [d1, d2] => { results := [.lit (.bool false)], args := [d1, d2] }
  | _ => none }
def ShapeOfWrongFalsely : Prop := shapeOfRow.holds Tryd.pinned (OpenSpec.ofChange shapeOfWrong)

/-- 'mulliganlaw17.ShapeHas': WHATEVER THE INPUT: true; the input reads as it did. -/
def shapeHasSpec : ChangeSpec := { name := "shapeHas", fn := fun _ => fun
  | [d1, d2, d3] => { results := [.lit (.bool true)], args := [d1, d2, d3] }
  | _ => none }
def shapeHasRow : OpenClaim := { program := "ytplfblccaeligaadoor", sum := "03bfd99d84931e5bfc17c6937f93802dedb2b9fe96e2d3af4efff2af4f1ff54e", func := "mulligan/mulliganlaw17.ShapeHas", spec := "shapeHas", named := ["mulligan/state.fieldOnly"], apart := false, laid := [("mulligan/state.fieldOnly", laid_mulligan_state_fieldOnly)] }
def ShapeHasSaid : Prop := shapeHasRow.holds Tryd.pinned (OpenSpec.ofChange shapeHasSpec)

/-- ITS FALSE NEIGHBOUR: 'it returns false'. Refute it at one input. -/
def shapeHasWrong : ChangeSpec := { name := "shapeHas", fn := fun _ => fun
  | [d1, d2, d3] => { results := [.lit (.bool false)], args := [d1, d2, d3] }
  | _ => none }
def ShapeHasWrongFalsely : Prop := shapeHasRow.holds Tryd.pinned (OpenSpec.ofChange shapeHasWrong)

/-- 'mulliganlaw17.ShapePlain': WHATEVER THE INPUT: true; the input reads as it did. -/
def shapePlainSpec : ChangeSpec := { name := "shapePlain", fn := fun _ => fun
  | [d] => { results := [.lit (.bool true)], args := [d] }
  | _ => none }
def shapePlainRow : OpenClaim := { program := "ytplfblccaeligaadoor", sum := "03bfd99d84931e5bfc17c6937f93802dedb2b9fe96e2d3af4efff2af4f1ff54e", func := "mulligan/mulliganlaw17.ShapePlain", spec := "shapePlain", named := ["mulligan/state.fieldOnly"], apart := false, laid := [("mulligan/state.fieldOnly", laid_mulligan_state_fieldOnly)] }
def ShapePlainSaid : Prop := shapePlainRow.holds Tryd.pinned (OpenSpec.ofChange shapePlainSpec)

/-- ITS FALSE NEIGHBOUR: 'it returns false'. Refute it at one input. -/
def shapePlainWrong : ChangeSpec := { name := "shapePlain", fn := fun _ => fun
  | [d] => { results := [.lit (.bool false)], args := [d] }
  | _ => none }
def ShapePlainWrongFalsely : Prop := shapePlainRow.holds Tryd.pinned (OpenSpec.ofChange shapePlainWrong)

/-- 'mulliganlaw17.ShapeGrows': WHATEVER THE INPUT: true; the input reads as it did. -/
def shapeGrowsSpec : ChangeSpec := { name := "shapeGrows", fn := fun _ => fun
  | [d1, d2] => { results := [.lit (.bool true)], args := [d1, d2] }
  | _ => none }
def shapeGrowsRow : OpenClaim := { program := "ytplfblccaeligaadoor", sum := "03bfd99d84931e5bfc17c6937f93802dedb2b9fe96e2d3af4efff2af4f1ff54e", func := "mulligan/mulliganlaw17.ShapeGrows", spec := "shapeGrows", named := ["mulligan/state.fieldOnly"], apart := false, laid := [("mulligan/state.fieldOnly", laid_mulligan_state_fieldOnly)] }
def ShapeGrowsSaid : Prop := shapeGrowsRow.holds Tryd.pinned (OpenSpec.ofChange shapeGrowsSpec)

/-- ITS FALSE NEIGHBOUR: 'it returns false'. Refute it at one input. -/
def shapeGrowsWrong : ChangeSpec := { name := "shapeGrows", fn := fun _ => fun
  | [d1, d2] => { results := [.lit (.bool false)], args := [d1, d2] }
  | _ => none }
def ShapeGrowsWrongFalsely : Prop := shapeGrowsRow.holds Tryd.pinned (OpenSpec.ofChange shapeGrowsWrong)

/- THE SECOND FORM. 'bulk': how many values and letters a reading holds, each counted each time it is reached (what is shared counts as often as it is met; a slice's spare places count too). A statement '..UptoSaid' is the law's where the arguments, and the package variables that the reading takes, are together of bulk at most 1048576: NARROWER than '..Said'. Prove '..Said' where nothing that the law and all that it calls make is longer than what came in: it says more and counts as full. Else prove '..UptoSaid'. A law counts once. -/
mutual
def uptoBulk {H : Type} : DataW H → Nat
  | .lit (.string bytes) => bytes.length + 1
  | .lit _ => 1
  | .nil => 1
  | .ptr d => uptoBulk d + 1
  | .slice elems spare => uptoBulkAll elems + uptoBulkAll spare + 1
  | .agg parts => uptoBulkAll parts + 1
  | .iface _ d => uptoBulk d + 1
  | .map entries => uptoBulkEntries entries + 1
  | .held _ => 1
def uptoBulkAll {H : Type} : List (DataW H) → Nat
  | [] => 0
  | d :: r => uptoBulk d + uptoBulkAll r
def uptoBulkEntries {H : Type} : List (Lit × DataW H) → Nat
  | [] => 0
  | x :: r => uptoBulkEntry x + uptoBulkEntries r
def uptoBulkEntry {H : Type} : Lit × DataW H → Nat
  | (.string bytes, d) => bytes.length + uptoBulk d + 1
  | (_, d) => uptoBulk d + 1
 end
def uptoSmall : (H : Type) → List (DataW H) → Bool := fun _ ds => decide (uptoBulkAll ds ≤ 1048576)
def OpenSpec.upto (s : _root_.Go.ChangeSpec) : _root_.Go.OpenSpec := { _root_.Go.OpenSpec.ofChange s with cond := some uptoSmall }

/-- 'mulliganlaw17.ShapeOf', WHERE WHAT IT READS IS OF BULK AT MOST 1048576: true; the input reads as it did. -/
def shapeOfUptoRow : OpenClaim := { program := "ytplfblccaeligaadoor", sum := "03bfd99d84931e5bfc17c6937f93802dedb2b9fe96e2d3af4efff2af4f1ff54e", func := "mulligan/mulliganlaw17.ShapeOf", spec := "shapeOf", named := ["mulligan/state.fieldOnly"], apart := false, laid := [("mulligan/state.fieldOnly", laid_mulligan_state_fieldOnly)], narrowed := true }
def ShapeOfUptoSaid : Prop := shapeOfUptoRow.holds Tryd.pinned (OpenSpec.upto shapeOfSpec)

/-- 'mulliganlaw17.ShapeHas', WHERE WHAT IT READS IS OF BULK AT MOST 1048576: true; the input reads as it did. -/
def shapeHasUptoRow : OpenClaim := { program := "ytplfblccaeligaadoor", sum := "03bfd99d84931e5bfc17c6937f93802dedb2b9fe96e2d3af4efff2af4f1ff54e", func := "mulligan/mulliganlaw17.ShapeHas", spec := "shapeHas", named := ["mulligan/state.fieldOnly"], apart := false, laid := [("mulligan/state.fieldOnly", laid_mulligan_state_fieldOnly)], narrowed := true }
def ShapeHasUptoSaid : Prop := shapeHasUptoRow.holds Tryd.pinned (OpenSpec.upto shapeHasSpec)

/-- 'mulliganlaw17.ShapePlain', WHERE WHAT IT READS IS OF BULK AT MOST 1048576: true; the input reads as it did. -/
def shapePlainUptoRow : OpenClaim := { program := "ytplfblccaeligaadoor", sum := "03bfd99d84931e5bfc17c6937f93802dedb2b9fe96e2d3af4efff2af4f1ff54e", func := "mulligan/mulliganlaw17.ShapePlain", spec := "shapePlain", named := ["mulligan/state.fieldOnly"], apart := false, laid := [("mulligan/state.fieldOnly", laid_mulligan_state_fieldOnly)], narrowed := true }
def ShapePlainUptoSaid : Prop := shapePlainUptoRow.holds Tryd.pinned (OpenSpec.upto shapePlainSpec)

/-- 'mulliganlaw17.ShapeGrows', WHERE WHAT IT READS IS OF BULK AT MOST 1048576: true; the input reads as it did. -/
def shapeGrowsUptoRow : OpenClaim := { program := "ytplfblccaeligaadoor", sum := "03bfd99d84931e5bfc17c6937f93802dedb2b9fe96e2d3af4efff2af4f1ff54e", func := "mulligan/mulliganlaw17.ShapeGrows", spec := "shapeGrows", named := ["mulligan/state.fieldOnly"], apart := false, laid := [("mulligan/state.fieldOnly", laid_mulligan_state_fieldOnly)], narrowed := true }
def ShapeGrowsUptoSaid : Prop := shapeGrowsUptoRow.holds Tryd.pinned (OpenSpec.upto shapeGrowsSpec)

end Rows
end Go.Proofs.YtplfblccaeligaaDoor
