/-
  NARROWER THAN 'FOR EVERY INPUT', by the rows' own cells (each row's printed sentence says how): StateChecks: laid · StateSame: laid · StateZones: laid · StateSides: laid.
  DERIVED. THE GIVEN ROWS OF THIS SEAT. 4 by the template 'for every input the law returns true; each argument reads behind the call as it read before'; 0 by the template 'total and deterministic' (their statements: YtkchpfifngknaaaDoorTotals.lean).
  GIVEN WITH THE SEED: the statements are not yours to turn. If you find one false, say at which input.
  Laid BY PROGRAM, IN A SANDBOX (cutbox-rows.mjs): the forced cells as the released guide's own fill.sh prints them over the translation ab29a1a14f576106… (all of the seat's roots in one cut). By AI agents, Wed Nov 11 2026. No macro, syntax, notation, axiom, sorry.
-/
import Derived.Test.YtkchpfifngknaaaDoorChecked
import GoSem.Claim
import GoSem.ClaimJoined
import GoSem.ClaimMapViews
import Derived.JoinedTies
import Derived.KernelRfl
namespace Go.Proofs.YtkchpfifngknaaaDoor
/- THE CELL 'sum', in the pinned program and in every row, IS THE sha256 OF THE DUMP (.gsa) THAT YtkchpfifngknaaaDoorProg.lean LOADS. Nothing in Lean hashes anything: it is a label: what it is worth is what the hold of that sum in a sandbox is worth. -/
noncomputable def Tryd.pinned : Pinned := { name := "ytkchpfifngknaaadoor", sum := "ab29a1a14f5761069a0a6c1006a04fb94eaf38a3e71b5880c9376f453f54baa0", checked := Tryd.checked }
namespace Rows
def none {H : Type} : Left H := { results := [], args := [] }

/- WHAT THE LISTED PACKAGE-LEVEL VARIABLES READ AS WHEN THE CALL BEGINS. Each datum BY PROGRAM (the guide's laid-datum.mjs) off the statement by which the dump's own 'gosem.cut.vars' lays the variable. In a bare row this is a premise. The card (YtkchpfifngknaaaDoorCards.lean) ties it to the program's text. -/
def laid_mulligan_state_fieldOnly {H : Type} : DataW H := .agg [.lit (.int .i64 4), .lit (.int .i64 5), .lit (.int .i64 6), .lit (.int .i64 7), .lit (.int .i64 8), .lit (.int .i64 9), .lit (.int .i64 10), .lit (.int .i64 11), .lit (.int .i64 12)]

/-- 'mulliganlaw10.StateChecks': WHATEVER THE INPUT: true; the input reads as it did. -/
def stateChecksSpec : ChangeSpec := { name := "stateChecks", fn := fun _ => fun
  | [d] => { results := [.lit (.bool true)], args := [d] }
  | _ => none }
def stateChecksRow : OpenClaim := { program := "ytkchpfifngknaaadoor", sum := "ab29a1a14f5761069a0a6c1006a04fb94eaf38a3e71b5880c9376f453f54baa0", func := "mulligan/mulliganlaw10.StateChecks", spec := "stateChecks", named := ["mulligan/state.fieldOnly"], apart := false, laid := [("mulligan/state.fieldOnly", laid_mulligan_state_fieldOnly)] }
def StateChecksSaid : Prop := stateChecksRow.holds Tryd.pinned (OpenSpec.ofChange stateChecksSpec)

/-- ITS FALSE NEIGHBOUR: 'it returns false'. Refute it at one input. -/
def stateChecksWrong : ChangeSpec := { name := "stateChecks", fn := fun _ => fun
  | [d] => { results := [.lit (.bool false)], args := [d] }
  | _ => none }
def StateChecksWrongFalsely : Prop := stateChecksRow.holds Tryd.pinned (OpenSpec.ofChange stateChecksWrong)

/-- 'mulliganlaw10.StateSame': WHATEVER THE INPUT: true; the input reads as it did. -/
def stateSameSpec : ChangeSpec := { name := "stateSame", fn := fun _ => fun
  | [d1, d2] => { results := [.lit (.bool true)], args := [d1, d2] }
  | _ => none }
def stateSameRow : OpenClaim := { program := "ytkchpfifngknaaadoor", sum := "ab29a1a14f5761069a0a6c1006a04fb94eaf38a3e71b5880c9376f453f54baa0", func := "mulligan/mulliganlaw10.StateSame", spec := "stateSame", named := ["mulligan/state.fieldOnly"], apart := false, laid := [("mulligan/state.fieldOnly", laid_mulligan_state_fieldOnly)] }
def StateSameSaid : Prop := stateSameRow.holds Tryd.pinned (OpenSpec.ofChange stateSameSpec)

/-- ITS FALSE NEIGHBOUR: 'it returns false'. Refute it at one input. -/
def stateSameWrong : ChangeSpec := { name := "stateSame", fn := fun _ => fun
  | [d1, d2] => { results := [.lit (.bool false)], args := [d1, d2] }
  | _ => none }
def StateSameWrongFalsely : Prop := stateSameRow.holds Tryd.pinned (OpenSpec.ofChange stateSameWrong)

/-- 'mulliganlaw10.StateZones': WHATEVER THE INPUT: true; the input reads as it did. -/
def stateZonesSpec : ChangeSpec := { name := "stateZones", fn := fun _ => fun
  | [d1, d2, d3] => { results := [.lit (.bool true)], args := [d1, d2, d3] }
  | _ => none }
def stateZonesRow : OpenClaim := { program := "ytkchpfifngknaaadoor", sum := "ab29a1a14f5761069a0a6c1006a04fb94eaf38a3e71b5880c9376f453f54baa0", func := "mulligan/mulliganlaw10.StateZones", spec := "stateZones", named := ["mulligan/state.fieldOnly"], apart := false, laid := [("mulligan/state.fieldOnly", laid_mulligan_state_fieldOnly)] }
def StateZonesSaid : Prop := stateZonesRow.holds Tryd.pinned (OpenSpec.ofChange stateZonesSpec)

/-- ITS FALSE NEIGHBOUR: 'it returns false'. Refute it at one input. -/
def stateZonesWrong : ChangeSpec := { name := "stateZones", fn := fun _ => fun
  | [d1, d2, d3] => { results := [.lit (.bool false)], args := [d1, d2, d3] }
  | _ => none }
def StateZonesWrongFalsely : Prop := stateZonesRow.holds Tryd.pinned (OpenSpec.ofChange stateZonesWrong)

/-- 'mulliganlaw10.StateSides': WHATEVER THE INPUT: true; the input reads as it did. -/
def stateSidesSpec : ChangeSpec := { name := "stateSides", fn := fun _ => fun
  | [d] => { results := [.lit (.bool true)], args := [d] }
  | _ => none }
def stateSidesRow : OpenClaim := { program := "ytkchpfifngknaaadoor", sum := "ab29a1a14f5761069a0a6c1006a04fb94eaf38a3e71b5880c9376f453f54baa0", func := "mulligan/mulliganlaw10.StateSides", spec := "stateSides", named := ["mulligan/state.fieldOnly"], apart := false, laid := [("mulligan/state.fieldOnly", laid_mulligan_state_fieldOnly)] }
def StateSidesSaid : Prop := stateSidesRow.holds Tryd.pinned (OpenSpec.ofChange stateSidesSpec)

/-- ITS FALSE NEIGHBOUR: 'it returns false'. Refute it at one input. -/
def stateSidesWrong : ChangeSpec := { name := "stateSides", fn := fun _ => fun
  | [d] => { results := [.lit (.bool false)], args := [d] }
  | _ => none }
def StateSidesWrongFalsely : Prop := stateSidesRow.holds Tryd.pinned (OpenSpec.ofChange stateSidesWrong)

/- THE SECOND FORM. 'bulk': how many values and letters a reading holds, each counted each time it is reached (what is shared counts as often as it is met; a slice's spare places count too). A statement '..UptoSaid' is the law's where the arguments, and the package variables that the reading takes, are together of bulk at most 1048576: NARROWER than '..Said'. Prove '..Said' where nothing that the law and all that it calls make is longer than what came in: it says more and counts as full. Else prove '..UptoSaid'. A law counts once. -/
mutual
def uptoBulk {H : Type} : DataW H → Nat
  | .lit (.string bytes) => bytes.length + 1
  | .lit _ => 1
  | .nil => 1
  | .ptr d => uptoBulk d + 1
  | .slice elems spare => uptoBulkAll elems + uptoBulkAll spare + 1
  | .agg parts => uptoBulkAll parts + 1
  | .iface _ d => uptoBulk d + 1
  | .map entries => uptoBulkEntries entries + 1
  | .held _ => 1
def uptoBulkAll {H : Type} : List (DataW H) → Nat
  | [] => 0
  | d :: r => uptoBulk d + uptoBulkAll r
def uptoBulkEntries {H : Type} : List (Lit × DataW H) → Nat
  | [] => 0
  | x :: r => uptoBulkEntry x + uptoBulkEntries r
def uptoBulkEntry {H : Type} : Lit × DataW H → Nat
  | (.string bytes, d) => bytes.length + uptoBulk d + 1
  | (_, d) => uptoBulk d + 1
 end
def uptoSmall : (H : Type) → List (DataW H) → Bool := fun _ ds => decide (uptoBulkAll ds ≤ 1048576)
def OpenSpec.upto (s : _root_.Go.ChangeSpec) : _root_.Go.OpenSpec := { _root_.Go.OpenSpec.ofChange s with cond := some uptoSmall }

/-- 'mulliganlaw10.StateChecks', WHERE WHAT IT READS IS OF BULK AT MOST 1048576: true; the input reads as it did. -/
def stateChecksUptoRow : OpenClaim := { program := "ytkchpfifngknaaadoor", sum := "ab29a1a14f5761069a0a6c1006a04fb94eaf38a3e71b5880c9376f453f54baa0", func := "mulligan/mulliganlaw10.StateChecks", spec := "stateChecks", named := ["mulligan/state.fieldOnly"], apart := false, laid := [("mulligan/state.fieldOnly", laid_mulligan_state_fieldOnly)], narrowed := true }
def StateChecksUptoSaid : Prop := stateChecksUptoRow.holds Tryd.pinned (OpenSpec.upto stateChecksSpec)

/-- 'mulliganlaw10.StateSame', WHERE WHAT IT READS IS OF BULK AT MOST 1048576: true; the input reads as it did. -/
def stateSameUptoRow : OpenClaim := { program := "ytkchpfifngknaaadoor", sum := "ab29a1a14f5761069a0a6c1006a04fb94eaf38a3e71b5880c9376f453f54baa0", func := "mulligan/mulliganlaw10.StateSame", spec := "stateSame", named := ["mulligan/state.fieldOnly"], apart := false, laid := [("mulligan/state.fieldOnly", laid_mulligan_state_fieldOnly)], narrowed := true }
def StateSameUptoSaid : Prop := stateSameUptoRow.holds Tryd.pinned (OpenSpec.upto stateSameSpec)

/-- 'mulliganlaw10.StateZones', WHERE WHAT IT READS IS OF BULK AT MOST 1048576: true; the input reads as it did. -/
def stateZonesUptoRow : OpenClaim := { program := "ytkchpfifngknaaadoor", sum := "ab29a1a14f5761069a0a6c1006a04fb94eaf38a3e71b5880c9376f453f54baa0", func := "mulligan/mulliganlaw10.StateZones", spec := "stateZones", named := ["mulligan/state.fieldOnly"], apart := false, laid := [("mulligan/state.fieldOnly", laid_mulligan_state_fieldOnly)], narrowed := true }
def StateZonesUptoSaid : Prop := stateZonesUptoRow.holds Tryd.pinned (OpenSpec.upto stateZonesSpec)

/-- 'mulliganlaw10.StateSides', WHERE WHAT IT READS IS OF BULK AT MOST 1048576: true; the input reads as it did. -/
def stateSidesUptoRow : OpenClaim := { program := "ytkchpfifngknaaadoor", sum := "ab29a1a14f5761069a0a6c1006a04fb94eaf38a3e71b5880c9376f453f54baa0", func := "mulligan/mulliganlaw10.StateSides", spec := "stateSides", named := ["mulligan/state.fieldOnly"], apart := false, laid := [("mulligan/state.fieldOnly", laid_mulligan_state_fieldOnly)], narrowed := true }
def StateSidesUptoSaid : Prop := stateSidesUptoRow.holds Tryd.pinned (OpenSpec.upto stateSidesSpec)

end Rows
end Go.Proofs.YtkchpfifngknaaaDoor
