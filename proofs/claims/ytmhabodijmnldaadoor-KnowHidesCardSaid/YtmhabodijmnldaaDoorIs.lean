/- An error's number, and whether it is that one. -/
import Derived.Test.YtmhabodijmnldaaDoorErr
import Derived.Test.YtmhabodijmnldaaDoorNum
namespace Go.Proofs.YtmhabodijmnldaaDoor
open Go.RowKit
theorem num_by (k : Int) (w : World) : Calls Tryd.prog 11 #[errV k] w fun e w' => e = .returned (.int .i64 k) ∧ w = w' := by
  unfold errV
  split
  · rename_i h; subst h; exact num_nil w
  · rename_i h; exact num_err k h w
theorem is_by (k want : Int) (w : World) : Calls Tryd.prog 12 #[errV k, .int .i64 want] w fun e w' => e = .returned (.bool (k == want)) ∧ w = w' := by
  go_enter Tryd.func12, Tryd.ntmps12
  go_wp2_with fail
  refine (num_by k _).mono ?_
  rintro e w2 ⟨rfl, rfl⟩
  go_wp2_with fail
  go_ret
  exact ⟨rfl, rfl⟩
end Go.Proofs.YtmhabodijmnldaaDoor
