/- Layer 8: which numbers have a card, and which card. -/
import Derived.Test.YtplfblccaeligaaDoorTblRef3
namespace Go.Proofs.YtplfblccaeligaaDoor
open Go.RowKit Ex Mx
namespace Ex
abbrev zeroT : CardT := ⟨0, 0, false, noC, 0, 0, 0, []⟩
def isN (x : Int) : Bool := decide (0 ≤ x ∧ x ≤ 119)
/-- The card of any number. -/
def tblX (x : Int) : CardT := if 0 ≤ x ∧ x ≤ 119 then tblC x.toNat else zeroT
end Ex
end Go.Proofs.YtplfblccaeligaaDoor
