/-
  No cell of these rows narrows 'for every input' (looked for: loops, veiled, ifaces, maps, wideKeys, modest, calm, conditions, laid).
  DERIVED. THE GIVEN ROWS OF THIS SEAT. 4 by the template 'for every input the law returns true; each argument reads behind the call as it read before'; 0 by the template 'total and deterministic' (their statements: YtllamlmeklalaaaTotals.lean).
  GIVEN WITH THE SEED: the statements are not yours to turn. If you find one false, say at which input.
  Laid BY PROGRAM, IN A SANDBOX (cutbox-rows.mjs): the forced cells as the released guide's own fill.sh prints them over the translation c49623ec18ffc532… (all of the seat's roots in one cut). By AI agents, Wed Nov 11 2026. No macro, syntax, notation, axiom, sorry.
-/
import Derived.Test.YtllamlmeklalaaaChecked
import GoSem.Claim
import GoSem.ClaimJoined
import GoSem.ClaimMapViews
import Derived.JoinedTies
import Derived.KernelRfl
namespace Go.Proofs.Ytllamlmeklalaaa
/- THE CELL 'sum', in the pinned program and in every row, IS THE sha256 OF THE DUMP (.gsa) THAT YtllamlmeklalaaaProg.lean LOADS. Nothing in Lean hashes anything: it is a label: what it is worth is what the hold of that sum in a sandbox is worth. -/
noncomputable def Try.pinned : Pinned := { name := "ytllamlmeklalaaa", sum := "c49623ec18ffc532e79af906421482033d6a5d7dc4e2c73748edfe582a30e274", checked := Try.checked }
namespace Rows
def none {H : Type} : Left H := { results := [], args := [] }

/-- 'mulliganlaw16.RandPicks': WHATEVER THE INPUT: true; the input reads as it did. -/
def randPicksSpec : ChangeSpec := { name := "randPicks", fn := fun _ => fun
  | [d1, d2, d3] => { results := [.lit (.bool true)], args := [d1, d2, d3] }
  | _ => none }
def randPicksRow : OpenClaim := { program := "ytllamlmeklalaaa", sum := "c49623ec18ffc532e79af906421482033d6a5d7dc4e2c73748edfe582a30e274", func := "mulligan/mulliganlaw16.RandPicks", spec := "randPicks", apart := false }
def RandPicksSaid : Prop := randPicksRow.holds Try.pinned (OpenSpec.ofChange randPicksSpec)

/-- ITS FALSE NEIGHBOUR: 'it returns false'. Refute it at one input. -/
def randPicksWrong : ChangeSpec := { name := "randPicks", fn := fun _ => fun
  | [d1, d2, d3] => { results := [.lit (.bool false)], args := [d1, d2, d3] }
  | _ => none }
def RandPicksWrongFalsely : Prop := randPicksRow.holds Try.pinned (OpenSpec.ofChange randPicksWrong)

/-- 'mulliganlaw16.RandOrders': WHATEVER THE INPUT: true; the input reads as it did. -/
def randOrdersSpec : ChangeSpec := { name := "randOrders", fn := fun _ => fun
  | [d1, d2, d3] => { results := [.lit (.bool true)], args := [d1, d2, d3] }
  | _ => none }
def randOrdersRow : OpenClaim := { program := "ytllamlmeklalaaa", sum := "c49623ec18ffc532e79af906421482033d6a5d7dc4e2c73748edfe582a30e274", func := "mulligan/mulliganlaw16.RandOrders", spec := "randOrders", apart := false }
def RandOrdersSaid : Prop := randOrdersRow.holds Try.pinned (OpenSpec.ofChange randOrdersSpec)

/-- ITS FALSE NEIGHBOUR: 'it returns false'. Refute it at one input. -/
def randOrdersWrong : ChangeSpec := { name := "randOrders", fn := fun _ => fun
  | [d1, d2, d3] => { results := [.lit (.bool false)], args := [d1, d2, d3] }
  | _ => none }
def RandOrdersWrongFalsely : Prop := randOrdersRow.holds Try.pinned (OpenSpec.ofChange randOrdersWrong)

/-- 'mulliganlaw16.RandOnce': WHATEVER THE INPUT: true; the input reads as it did. -/
def randOnceSpec : ChangeSpec := { name := "randOnce", fn := fun _ => fun
  | [d1, d2, d3] => { results := [.lit (.bool true)], args := [d1, d2, d3] }
  | _ => none }
def randOnceRow : OpenClaim := { program := "ytllamlmeklalaaa", sum := "c49623ec18ffc532e79af906421482033d6a5d7dc4e2c73748edfe582a30e274", func := "mulligan/mulliganlaw16.RandOnce", spec := "randOnce", apart := false }
def RandOnceSaid : Prop := randOnceRow.holds Try.pinned (OpenSpec.ofChange randOnceSpec)

/-- ITS FALSE NEIGHBOUR: 'it returns false'. Refute it at one input. -/
def randOnceWrong : ChangeSpec := { name := "randOnce", fn := fun _ => fun
  | [d1, d2, d3] => { results := [.lit (.bool false)], args := [d1, d2, d3] }
  | _ => none }
def RandOnceWrongFalsely : Prop := randOnceRow.holds Try.pinned (OpenSpec.ofChange randOnceWrong)

/-- 'mulliganlaw16.RandAll': WHATEVER THE INPUT: true; the input reads as it did. -/
def randAllSpec : ChangeSpec := { name := "randAll", fn := fun _ => fun
  | [d1, d2] => { results := [.lit (.bool true)], args := [d1, d2] }
  | _ => none }
def randAllRow : OpenClaim := { program := "ytllamlmeklalaaa", sum := "c49623ec18ffc532e79af906421482033d6a5d7dc4e2c73748edfe582a30e274", func := "mulligan/mulliganlaw16.RandAll", spec := "randAll", apart := false }
def RandAllSaid : Prop := randAllRow.holds Try.pinned (OpenSpec.ofChange randAllSpec)

/-- ITS FALSE NEIGHBOUR: 'it returns false'. Refute it at one input. -/
def randAllWrong : ChangeSpec := { name := "randAll", fn := fun _ => fun
  | [d1, d2] => { results := [.lit (.bool false)], args := [d1, d2] }
  | _ => none }
def RandAllWrongFalsely : Prop := randAllRow.holds Try.pinned (OpenSpec.ofChange randAllWrong)

/- THE SECOND FORM. 'bulk': how many values and letters a reading holds, each counted each time it is reached (what is shared counts as often as it is met; a slice's spare places count too). A statement '..UptoSaid' is the law's where the arguments, and the package variables that the reading takes, are together of bulk at most 1048576: NARROWER than '..Said'. Prove '..Said' where nothing that the law and all that it calls make is longer than what came in: it says more and counts as full. Else prove '..UptoSaid'. A law counts once. -/
mutual
def uptoBulk {H : Type} : DataW H → Nat
  | .lit (.string bytes) => bytes.length + 1
  | .lit _ => 1
  | .nil => 1
  | .ptr d => uptoBulk d + 1
  | .slice elems spare => uptoBulkAll elems + uptoBulkAll spare + 1
  | .agg parts => uptoBulkAll parts + 1
  | .iface _ d => uptoBulk d + 1
  | .map entries => uptoBulkEntries entries + 1
  | .held _ => 1
def uptoBulkAll {H : Type} : List (DataW H) → Nat
  | [] => 0
  | d :: r => uptoBulk d + uptoBulkAll r
def uptoBulkEntries {H : Type} : List (Lit × DataW H) → Nat
  | [] => 0
  | x :: r => uptoBulkEntry x + uptoBulkEntries r
def uptoBulkEntry {H : Type} : Lit × DataW H → Nat
  | (.string bytes, d) => bytes.length + uptoBulk d + 1
  | (_, d) => uptoBulk d + 1
 end
def uptoSmall : (H : Type) → List (DataW H) → Bool := fun _ ds => decide (uptoBulkAll ds ≤ 1048576)
def OpenSpec.upto (s : _root_.Go.ChangeSpec) : _root_.Go.OpenSpec := { _root_.Go.OpenSpec.ofChange s with cond := some uptoSmall }

/-- 'mulliganlaw16.RandPicks', WHERE WHAT IT READS IS OF BULK AT MOST 1048576: true; the input reads as it did. -/
def randPicksUptoRow : OpenClaim := { program := "ytllamlmeklalaaa", sum := "c49623ec18ffc532e79af906421482033d6a5d7dc4e2c73748edfe582a30e274", func := "mulligan/mulliganlaw16.RandPicks", spec := "randPicks", apart := false, narrowed := true }
def RandPicksUptoSaid : Prop := randPicksUptoRow.holds Try.pinned (OpenSpec.upto randPicksSpec)

/-- 'mulliganlaw16.RandOrders', WHERE WHAT IT READS IS OF BULK AT MOST 1048576: true; the input reads as it did. -/
def randOrdersUptoRow : OpenClaim := { program := "ytllamlmeklalaaa", sum := "c49623ec18ffc532e79af906421482033d6a5d7dc4e2c73748edfe582a30e274", func := "mulligan/mulliganlaw16.RandOrders", spec := "randOrders", apart := false, narrowed := true }
def RandOrdersUptoSaid : Prop := randOrdersUptoRow.holds Try.pinned (OpenSpec.upto randOrdersSpec)

/-- 'mulliganlaw16.RandOnce', WHERE WHAT IT READS IS OF BULK AT MOST 1048576: true; the input reads as it did. -/
def randOnceUptoRow : OpenClaim := { program := "ytllamlmeklalaaa", sum := "c49623ec18ffc532e79af906421482033d6a5d7dc4e2c73748edfe582a30e274", func := "mulligan/mulliganlaw16.RandOnce", spec := "randOnce", apart := false, narrowed := true }
def RandOnceUptoSaid : Prop := randOnceUptoRow.holds Try.pinned (OpenSpec.upto randOnceSpec)

/-- 'mulliganlaw16.RandAll', WHERE WHAT IT READS IS OF BULK AT MOST 1048576: true; the input reads as it did. -/
def randAllUptoRow : OpenClaim := { program := "ytllamlmeklalaaa", sum := "c49623ec18ffc532e79af906421482033d6a5d7dc4e2c73748edfe582a30e274", func := "mulligan/mulliganlaw16.RandAll", spec := "randAll", apart := false, narrowed := true }
def RandAllUptoSaid : Prop := randAllUptoRow.holds Try.pinned (OpenSpec.upto randAllSpec)

end Rows
end Go.Proofs.Ytllamlmeklalaaa
