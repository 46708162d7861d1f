/- An error's number, and whether it is that one. -/
import Derived.Test.YtkchpfifngknaaaDoorErr
import Derived.Test.YtkchpfifngknaaaDoorNum
namespace Go.Proofs.YtkchpfifngknaaaDoor
open Go.RowKit
theorem num_by (k : Int) (w : World) : Calls Tryd.prog 9 #[errV k] w fun e w' => e = .returned (.int .i64 k) ∧ w = w' := by
  unfold errV
  split
  · rename_i h; subst h; exact num_nil w
  · rename_i h; exact num_err k h w
theorem is_by (k want : Int) (w : World) : Calls Tryd.prog 21 #[errV k, .int .i64 want] w fun e w' => e = .returned (.bool (k == want)) ∧ w = w' := by
  go_enter Tryd.func21, Tryd.ntmps21
  go_wp2_with fail
  refine (num_by k _).mono ?_
  rintro e w2 ⟨rfl, rfl⟩
  go_wp2_with fail
  go_ret
  exact ⟨rfl, rfl⟩
end Go.Proofs.YtkchpfifngknaaaDoor
