/- Layer 13: a list of events that a call answers. -/
import Derived.Test.YtmhabodijmnldaaDoorNtEv
namespace Go.Proofs.YtmhabodijmnldaaDoor
open Go.RowKit Ex
set_option maxRecDepth 100000
/-- A list of events that is answered. -/
def EvsP (w : World) (l : List EvT) (en : Ending) (w' : World) : Prop := ∃ A n c, en = .returned (.slice A n c) ∧ n ≤ c ∧ Evs w'.heap.size w' A n l ∧ Below w.heap.size w w'
end Go.Proofs.YtmhabodijmnldaaDoor
