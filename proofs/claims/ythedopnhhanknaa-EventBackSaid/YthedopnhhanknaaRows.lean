/-
  No cell of these rows narrows 'for every input' (looked for: loops, veiled, ifaces, maps, wideKeys, modest, calm, conditions, laid).
  DERIVED. THE GIVEN ROWS OF THIS SEAT. 4 by the template 'for every input the law returns true; each argument reads behind the call as it read before'; 0 by the template 'total and deterministic' (their statements: YthedopnhhanknaaTotals.lean).
  GIVEN WITH THE SEED: the statements are not yours to turn. If you find one false, say at which input.
  Laid BY PROGRAM, IN A SANDBOX (cutbox-rows.mjs): the forced cells as the released guide's own fill.sh prints them over the translation 8938d972ea3f4412… (all of the seat's roots in one cut). By AI agents, Wed Nov 11 2026. No macro, syntax, notation, axiom, sorry.
-/
import Derived.Test.YthedopnhhanknaaChecked
import GoSem.Claim
import GoSem.ClaimJoined
import GoSem.ClaimMapViews
import Derived.JoinedTies
import Derived.KernelRfl
namespace Go.Proofs.Ythedopnhhanknaa
/- THE CELL 'sum', in the pinned program and in every row, IS THE sha256 OF THE DUMP (.gsa) THAT YthedopnhhanknaaProg.lean LOADS. Nothing in Lean hashes anything: it is a label: what it is worth is what the hold of that sum in a sandbox is worth. -/
noncomputable def Try.pinned : Pinned := { name := "ythedopnhhanknaa", sum := "8938d972ea3f4412a8bf1d5e105bf53c51b165188761b71c34efd6b07c82569c", checked := Try.checked }
namespace Rows
def none {H : Type} : Left H := { results := [], args := [] }

/-- 'mulliganlaw12.EventApplies': WHATEVER THE INPUT: true; the input reads as it did. -/
def eventAppliesSpec : ChangeSpec := { name := "eventApplies", fn := fun _ => fun
  | [d1, d2] => { results := [.lit (.bool true)], args := [d1, d2] }
  | _ => none }
def eventAppliesRow : OpenClaim := { program := "ythedopnhhanknaa", sum := "8938d972ea3f4412a8bf1d5e105bf53c51b165188761b71c34efd6b07c82569c", func := "mulligan/mulliganlaw12.EventApplies", spec := "eventApplies", apart := false }
def EventAppliesSaid : Prop := eventAppliesRow.holds Try.pinned (OpenSpec.ofChange eventAppliesSpec)

/-- ITS FALSE NEIGHBOUR: 'it returns false'. Refute it at one input. -/
def eventAppliesWrong : ChangeSpec := { name := "eventApplies", fn := fun _ => fun
  | [d1, d2] => { results := [.lit (.bool false)], args := [d1, d2] }
  | _ => none }
def EventAppliesWrongFalsely : Prop := eventAppliesRow.holds Try.pinned (OpenSpec.ofChange eventAppliesWrong)

/-- 'mulliganlaw12.EventInverts': WHATEVER THE INPUT: true; the input reads as it did. -/
def eventInvertsSpec : ChangeSpec := { name := "eventInverts", fn := fun _ => fun
  | [d] => { results := [.lit (.bool true)], args := [d] }
  | _ => none }
def eventInvertsRow : OpenClaim := { program := "ythedopnhhanknaa", sum := "8938d972ea3f4412a8bf1d5e105bf53c51b165188761b71c34efd6b07c82569c", func := "mulligan/mulliganlaw12.EventInverts", spec := "eventInverts", apart := false }
def EventInvertsSaid : Prop := eventInvertsRow.holds Try.pinned (OpenSpec.ofChange eventInvertsSpec)

/-- ITS FALSE NEIGHBOUR: 'it returns false'. Refute it at one input. -/
def eventInvertsWrong : ChangeSpec := { name := "eventInverts", fn := fun _ => fun
  | [d] => { results := [.lit (.bool false)], args := [d] }
  | _ => none }
def EventInvertsWrongFalsely : Prop := eventInvertsRow.holds Try.pinned (OpenSpec.ofChange eventInvertsWrong)

/-- 'mulliganlaw12.EventParses': WHATEVER THE INPUT: true; the input reads as it did. -/
def eventParsesSpec : ChangeSpec := { name := "eventParses", fn := fun _ => fun
  | [d] => { results := [.lit (.bool true)], args := [d] }
  | _ => none }
def eventParsesRow : OpenClaim := { program := "ythedopnhhanknaa", sum := "8938d972ea3f4412a8bf1d5e105bf53c51b165188761b71c34efd6b07c82569c", func := "mulligan/mulliganlaw12.EventParses", spec := "eventParses", apart := false }
def EventParsesSaid : Prop := eventParsesRow.holds Try.pinned (OpenSpec.ofChange eventParsesSpec)

/-- ITS FALSE NEIGHBOUR: 'it returns false'. Refute it at one input. -/
def eventParsesWrong : ChangeSpec := { name := "eventParses", fn := fun _ => fun
  | [d] => { results := [.lit (.bool false)], args := [d] }
  | _ => none }
def EventParsesWrongFalsely : Prop := eventParsesRow.holds Try.pinned (OpenSpec.ofChange eventParsesWrong)

/-- 'mulliganlaw12.EventBack': WHATEVER THE INPUT: true; the input reads as it did. -/
def eventBackSpec : ChangeSpec := { name := "eventBack", fn := fun _ => fun
  | [d1, d2] => { results := [.lit (.bool true)], args := [d1, d2] }
  | _ => none }
def eventBackRow : OpenClaim := { program := "ythedopnhhanknaa", sum := "8938d972ea3f4412a8bf1d5e105bf53c51b165188761b71c34efd6b07c82569c", func := "mulligan/mulliganlaw12.EventBack", spec := "eventBack", apart := false }
def EventBackSaid : Prop := eventBackRow.holds Try.pinned (OpenSpec.ofChange eventBackSpec)

/-- ITS FALSE NEIGHBOUR: 'it returns false'. Refute it at one input. -/
def eventBackWrong : ChangeSpec := { name := "eventBack", fn := fun _ => fun
  | [d1, d2] => { results := [.lit (.bool false)], args := [d1, d2] }
  | _ => none }
def EventBackWrongFalsely : Prop := eventBackRow.holds Try.pinned (OpenSpec.ofChange eventBackWrong)

/- THE SECOND FORM. 'bulk': how many values and letters a reading holds, each counted each time it is reached (what is shared counts as often as it is met; a slice's spare places count too). A statement '..UptoSaid' is the law's where the arguments, and the package variables that the reading takes, are together of bulk at most 1048576: NARROWER than '..Said'. Prove '..Said' where nothing that the law and all that it calls make is longer than what came in: it says more and counts as full. Else prove '..UptoSaid'. A law counts once. -/
mutual
def uptoBulk {H : Type} : DataW H → Nat
  | .lit (.string bytes) => bytes.length + 1
  | .lit _ => 1
  | .nil => 1
  | .ptr d => uptoBulk d + 1
  | .slice elems spare => uptoBulkAll elems + uptoBulkAll spare + 1
  | .agg parts => uptoBulkAll parts + 1
  | .iface _ d => uptoBulk d + 1
  | .map entries => uptoBulkEntries entries + 1
  | .held _ => 1
def uptoBulkAll {H : Type} : List (DataW H) → Nat
  | [] => 0
  | d :: r => uptoBulk d + uptoBulkAll r
def uptoBulkEntries {H : Type} : List (Lit × DataW H) → Nat
  | [] => 0
  | x :: r => uptoBulkEntry x + uptoBulkEntries r
def uptoBulkEntry {H : Type} : Lit × DataW H → Nat
  | (.string bytes, d) => bytes.length + uptoBulk d + 1
  | (_, d) => uptoBulk d + 1
 end
def uptoSmall : (H : Type) → List (DataW H) → Bool := fun _ ds => decide (uptoBulkAll ds ≤ 1048576)
def OpenSpec.upto (s : _root_.Go.ChangeSpec) : _root_.Go.OpenSpec := { _root_.Go.OpenSpec.ofChange s with cond := some uptoSmall }

/-- 'mulliganlaw12.EventApplies', WHERE WHAT IT READS IS OF BULK AT MOST 1048576: true; the input reads as it did. -/
def eventAppliesUptoRow : OpenClaim := { program := "ythedopnhhanknaa", sum := "8938d972ea3f4412a8bf1d5e105bf53c51b165188761b71c34efd6b07c82569c", func := "mulligan/mulliganlaw12.EventApplies", spec := "eventApplies", apart := false, narrowed := true }
def EventAppliesUptoSaid : Prop := eventAppliesUptoRow.holds Try.pinned (OpenSpec.upto eventAppliesSpec)

/-- 'mulliganlaw12.EventInverts', WHERE WHAT IT READS IS OF BULK AT MOST 1048576: true; the input reads as it did. -/
def eventInvertsUptoRow : OpenClaim := { program := "ythedopnhhanknaa", sum := "8938d972ea3f4412a8bf1d5e105bf53c51b165188761b71c34efd6b07c82569c", func := "mulligan/mulliganlaw12.EventInverts", spec := "eventInverts", apart := false, narrowed := true }
def EventInvertsUptoSaid : Prop := eventInvertsUptoRow.holds Try.pinned (OpenSpec.upto eventInvertsSpec)

/-- 'mulliganlaw12.EventParses', WHERE WHAT IT READS IS OF BULK AT MOST 1048576: true; the input reads as it did. -/
def eventParsesUptoRow : OpenClaim := { program := "ythedopnhhanknaa", sum := "8938d972ea3f4412a8bf1d5e105bf53c51b165188761b71c34efd6b07c82569c", func := "mulligan/mulliganlaw12.EventParses", spec := "eventParses", apart := false, narrowed := true }
def EventParsesUptoSaid : Prop := eventParsesUptoRow.holds Try.pinned (OpenSpec.upto eventParsesSpec)

/-- 'mulliganlaw12.EventBack', WHERE WHAT IT READS IS OF BULK AT MOST 1048576: true; the input reads as it did. -/
def eventBackUptoRow : OpenClaim := { program := "ythedopnhhanknaa", sum := "8938d972ea3f4412a8bf1d5e105bf53c51b165188761b71c34efd6b07c82569c", func := "mulligan/mulliganlaw12.EventBack", spec := "eventBack", apart := false, narrowed := true }
def EventBackUptoSaid : Prop := eventBackUptoRow.holds Try.pinned (OpenSpec.upto eventBackSpec)

end Rows
end Go.Proofs.Ythedopnhhanknaa
