/- Layer 13: the laws' argument in its box. -/
import Derived.Test.YtmneajmedopheaaNtG3
import Derived.Test.YtmneajmedopheaaNtRef
import Derived.Test.YtmneajmedopheaaNtRun
import Derived.Test.YtmneajmedopheaaNtRfI
import Derived.Test.YtmneajmedopheaaNtG2
import Derived.Test.YtmneajmedopheaaStRef6
import Derived.Test.YtmneajmedopheaaNtG1
import Derived.Test.YtmneajmedopheaaIs
namespace Go.Proofs.Ytmneajmedopheaa
open Go.RowKit Ex
set_option maxRecDepth 100000
section
variable {w W W' : World} {gs : Nat} {cs : Array Value}
theorem NW.v {A : Option Addr} {n : Nat} {l : List EvT} (h : NW w gs cs W) (hv : Evs w.heap.size w A n l) : Evs W.heap.size W A n l := hv.grow h.b
end
end Go.Proofs.Ytmneajmedopheaa
