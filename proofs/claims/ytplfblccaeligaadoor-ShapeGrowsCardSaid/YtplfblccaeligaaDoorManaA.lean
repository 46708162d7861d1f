/- Layer 4: Good, Total, Letter of the landed code; the reference's Good. -/
import Derived.Test.YtplfblccaeligaaDoorManaBase
namespace Go.Proofs.YtplfblccaeligaaDoor
open Go.RowKit Mx
attribute [local go_sem] arr_get
def GRel (w2 : World) (f : Nat → Int) (i : Value) (wr : World) : Prop := ∃ k : Nat, i = .int .i64 ((k : Nat) : Int) ∧ k ≤ 6 ∧ GoodK f k ∧ wr = w2
end Go.Proofs.YtplfblccaeligaaDoor
