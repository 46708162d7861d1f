/- Layer 9: the reference's Index, Once, Insert, Remove, Deal. -/
import Derived.Test.YtmhabodijmnldaaDoorLstMath
import Derived.Test.YtmhabodijmnldaaDoorIs
import Derived.Test.YtmhabodijmnldaaDoorBase0
import Derived.Test.YtmhabodijmnldaaDoorReg
import Derived.WalkSpells
import Derived.WalkLawsBesides
import Derived.Lib.Hide
import Derived.BigQuiet
import Derived.Deep.QuietTactic
import Derived.Deep.Cut
import Derived.IntWalk
namespace Go.Proofs.YtmhabodijmnldaaDoor
open Go.RowKit Ex
set_option maxRecDepth 100000
theorem info_int : (Tryd.prog.info? 3).map (fun i => (i.zero, i.size, i.bytes)) = some (some (.int .i64 0), 1, 8) := by kernel_rfl
/-- A list that the call made: its own, from its first block on. -/
def OwnQ (l : List Int) (w : World) (e : Ending) (w' : World) : Prop := ∃ A n c, e = .returned (.slice A n c) ∧ Own .i64 3 w' w.heap.size A n c l ∧ Below w.heap.size w w'
end Go.Proofs.YtmhabodijmnldaaDoor
