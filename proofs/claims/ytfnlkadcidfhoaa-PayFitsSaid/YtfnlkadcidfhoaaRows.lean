/-
  No cell of these rows narrows 'for every input' (looked for: loops, veiled, ifaces, maps, wideKeys, modest, calm, conditions, laid).
  DERIVED. THE GIVEN ROWS OF THIS SEAT. 4 by the template 'for every input the law returns true; each argument reads behind the call as it read before'; 0 by the template 'total and deterministic' (their statements: YtfnlkadcidfhoaaTotals.lean).
  GIVEN WITH THE SEED: the statements are not yours to turn. If you find one false, say at which input.
  Laid BY PROGRAM, IN A SANDBOX (cutbox-rows.mjs): the forced cells as the released guide's own fill.sh prints them over the translation d75cc68f9cb58da9… (all of the seat's roots in one cut). By AI agents, Wed Nov 11 2026. No macro, syntax, notation, axiom, sorry.
-/
import Derived.Test.YtfnlkadcidfhoaaChecked
import GoSem.Claim
import GoSem.ClaimJoined
import GoSem.ClaimMapViews
import Derived.JoinedTies
import Derived.KernelRfl
namespace Go.Proofs.Ytfnlkadcidfhoaa
/- THE CELL 'sum', in the pinned program and in every row, IS THE sha256 OF THE DUMP (.gsa) THAT YtfnlkadcidfhoaaProg.lean LOADS. Nothing in Lean hashes anything: it is a label: what it is worth is what the hold of that sum in a sandbox is worth. -/
noncomputable def Try.pinned : Pinned := { name := "ytfnlkadcidfhoaa", sum := "d75cc68f9cb58da9c897fc96c0c8dcdf18e8056d8b8f3d67ef1dc73905e6073f", checked := Try.checked }
namespace Rows
def none {H : Type} : Left H := { results := [], args := [] }

/-- 'mulliganlaw05.PayPays': WHATEVER THE INPUT: true; the input reads as it did. -/
def payPaysSpec : ChangeSpec := { name := "payPays", fn := fun _ => fun
  | [d1, d2] => { results := [.lit (.bool true)], args := [d1, d2] }
  | _ => none }
def payPaysRow : OpenClaim := { program := "ytfnlkadcidfhoaa", sum := "d75cc68f9cb58da9c897fc96c0c8dcdf18e8056d8b8f3d67ef1dc73905e6073f", func := "mulligan/mulliganlaw05.PayPays", spec := "payPays", plainKeys := false, apart := false }
def PayPaysSaid : Prop := payPaysRow.holds Try.pinned (OpenSpec.ofChange payPaysSpec)

/-- ITS FALSE NEIGHBOUR: 'it returns false'. Refute it at one input. -/
def payPaysWrong : ChangeSpec := { name := "payPays", fn := fun _ => fun
  | [d1, d2] => { results := [.lit (.bool false)], args := [d1, d2] }
  | _ => none }
def PayPaysWrongFalsely : Prop := payPaysRow.holds Try.pinned (OpenSpec.ofChange payPaysWrong)

/-- 'mulliganlaw05.PayWays': WHATEVER THE INPUT: true; the input reads as it did. -/
def payWaysSpec : ChangeSpec := { name := "payWays", fn := fun _ => fun
  | [d1, d2] => { results := [.lit (.bool true)], args := [d1, d2] }
  | _ => none }
def payWaysRow : OpenClaim := { program := "ytfnlkadcidfhoaa", sum := "d75cc68f9cb58da9c897fc96c0c8dcdf18e8056d8b8f3d67ef1dc73905e6073f", func := "mulligan/mulliganlaw05.PayWays", spec := "payWays", recurses := true, plainKeys := false, apart := false }
def PayWaysSaid : Prop := payWaysRow.holds Try.pinned (OpenSpec.ofChange payWaysSpec)

/-- ITS FALSE NEIGHBOUR: 'it returns false'. Refute it at one input. -/
def payWaysWrong : ChangeSpec := { name := "payWays", fn := fun _ => fun
  | [d1, d2] => { results := [.lit (.bool false)], args := [d1, d2] }
  | _ => none }
def PayWaysWrongFalsely : Prop := payWaysRow.holds Try.pinned (OpenSpec.ofChange payWaysWrong)

/-- 'mulliganlaw05.PaySums': WHATEVER THE INPUT: true; the input reads as it did. -/
def paySumsSpec : ChangeSpec := { name := "paySums", fn := fun _ => fun
  | [d1, d2] => { results := [.lit (.bool true)], args := [d1, d2] }
  | _ => none }
def paySumsRow : OpenClaim := { program := "ytfnlkadcidfhoaa", sum := "d75cc68f9cb58da9c897fc96c0c8dcdf18e8056d8b8f3d67ef1dc73905e6073f", func := "mulligan/mulliganlaw05.PaySums", spec := "paySums", plainKeys := false, apart := false }
def PaySumsSaid : Prop := paySumsRow.holds Try.pinned (OpenSpec.ofChange paySumsSpec)

/-- ITS FALSE NEIGHBOUR: 'it returns false'. Refute it at one input. -/
def paySumsWrong : ChangeSpec := { name := "paySums", fn := fun _ => fun
  | [d1, d2] => { results := [.lit (.bool false)], args := [d1, d2] }
  | _ => none }
def PaySumsWrongFalsely : Prop := paySumsRow.holds Try.pinned (OpenSpec.ofChange paySumsWrong)

/-- 'mulliganlaw05.PayFits': WHATEVER THE INPUT: true; the input reads as it did. -/
def payFitsSpec : ChangeSpec := { name := "payFits", fn := fun _ => fun
  | [d1, d2, d3] => { results := [.lit (.bool true)], args := [d1, d2, d3] }
  | _ => none }
def payFitsRow : OpenClaim := { program := "ytfnlkadcidfhoaa", sum := "d75cc68f9cb58da9c897fc96c0c8dcdf18e8056d8b8f3d67ef1dc73905e6073f", func := "mulligan/mulliganlaw05.PayFits", spec := "payFits", recurses := true, plainKeys := false, apart := false }
def PayFitsSaid : Prop := payFitsRow.holds Try.pinned (OpenSpec.ofChange payFitsSpec)

/-- ITS FALSE NEIGHBOUR: 'it returns false'. Refute it at one input. -/
def payFitsWrong : ChangeSpec := { name := "payFits", fn := fun _ => fun
  | [d1, d2, d3] => { results := [.lit (.bool false)], args := [d1, d2, d3] }
  | _ => none }
def PayFitsWrongFalsely : Prop := payFitsRow.holds Try.pinned (OpenSpec.ofChange payFitsWrong)

/- THE SECOND FORM. 'bulk': how many values and letters a reading holds, each counted each time it is reached (what is shared counts as often as it is met; a slice's spare places count too). A statement '..UptoSaid' is the law's where the arguments, and the package variables that the reading takes, are together of bulk at most 1048576: NARROWER than '..Said'. Prove '..Said' where nothing that the law and all that it calls make is longer than what came in: it says more and counts as full. Else prove '..UptoSaid'. A law counts once. -/
mutual
def uptoBulk {H : Type} : DataW H → Nat
  | .lit (.string bytes) => bytes.length + 1
  | .lit _ => 1
  | .nil => 1
  | .ptr d => uptoBulk d + 1
  | .slice elems spare => uptoBulkAll elems + uptoBulkAll spare + 1
  | .agg parts => uptoBulkAll parts + 1
  | .iface _ d => uptoBulk d + 1
  | .map entries => uptoBulkEntries entries + 1
  | .held _ => 1
def uptoBulkAll {H : Type} : List (DataW H) → Nat
  | [] => 0
  | d :: r => uptoBulk d + uptoBulkAll r
def uptoBulkEntries {H : Type} : List (Lit × DataW H) → Nat
  | [] => 0
  | x :: r => uptoBulkEntry x + uptoBulkEntries r
def uptoBulkEntry {H : Type} : Lit × DataW H → Nat
  | (.string bytes, d) => bytes.length + uptoBulk d + 1
  | (_, d) => uptoBulk d + 1
 end
def uptoSmall : (H : Type) → List (DataW H) → Bool := fun _ ds => decide (uptoBulkAll ds ≤ 1048576)
def OpenSpec.upto (s : _root_.Go.ChangeSpec) : _root_.Go.OpenSpec := { _root_.Go.OpenSpec.ofChange s with cond := some uptoSmall }

/-- 'mulliganlaw05.PayPays', WHERE WHAT IT READS IS OF BULK AT MOST 1048576: true; the input reads as it did. -/
def payPaysUptoRow : OpenClaim := { program := "ytfnlkadcidfhoaa", sum := "d75cc68f9cb58da9c897fc96c0c8dcdf18e8056d8b8f3d67ef1dc73905e6073f", func := "mulligan/mulliganlaw05.PayPays", spec := "payPays", plainKeys := false, apart := false, narrowed := true }
def PayPaysUptoSaid : Prop := payPaysUptoRow.holds Try.pinned (OpenSpec.upto payPaysSpec)

/-- 'mulliganlaw05.PayWays', WHERE WHAT IT READS IS OF BULK AT MOST 1048576: true; the input reads as it did. -/
def payWaysUptoRow : OpenClaim := { program := "ytfnlkadcidfhoaa", sum := "d75cc68f9cb58da9c897fc96c0c8dcdf18e8056d8b8f3d67ef1dc73905e6073f", func := "mulligan/mulliganlaw05.PayWays", spec := "payWays", recurses := true, plainKeys := false, apart := false, narrowed := true }
def PayWaysUptoSaid : Prop := payWaysUptoRow.holds Try.pinned (OpenSpec.upto payWaysSpec)

/-- 'mulliganlaw05.PaySums', WHERE WHAT IT READS IS OF BULK AT MOST 1048576: true; the input reads as it did. -/
def paySumsUptoRow : OpenClaim := { program := "ytfnlkadcidfhoaa", sum := "d75cc68f9cb58da9c897fc96c0c8dcdf18e8056d8b8f3d67ef1dc73905e6073f", func := "mulligan/mulliganlaw05.PaySums", spec := "paySums", plainKeys := false, apart := false, narrowed := true }
def PaySumsUptoSaid : Prop := paySumsUptoRow.holds Try.pinned (OpenSpec.upto paySumsSpec)

/-- 'mulliganlaw05.PayFits', WHERE WHAT IT READS IS OF BULK AT MOST 1048576: true; the input reads as it did. -/
def payFitsUptoRow : OpenClaim := { program := "ytfnlkadcidfhoaa", sum := "d75cc68f9cb58da9c897fc96c0c8dcdf18e8056d8b8f3d67ef1dc73905e6073f", func := "mulligan/mulliganlaw05.PayFits", spec := "payFits", recurses := true, plainKeys := false, apart := false, narrowed := true }
def PayFitsUptoSaid : Prop := payFitsUptoRow.holds Try.pinned (OpenSpec.upto payFitsSpec)

end Rows
end Go.Proofs.Ytfnlkadcidfhoaa
