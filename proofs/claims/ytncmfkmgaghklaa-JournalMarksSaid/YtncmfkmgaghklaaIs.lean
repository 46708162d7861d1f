/- An error's number, and whether it is that one. -/
import Derived.Test.YtncmfkmgaghklaaErr
import Derived.Test.YtncmfkmgaghklaaNum
namespace Go.Proofs.Ytncmfkmgaghklaa
open Go.RowKit
theorem num_by (k : Int) (w : World) : Calls Try.prog 12 #[errV k] w fun e w' => e = .returned (.int .i64 k) ∧ w = w' := by
  unfold errV
  split
  · rename_i h; subst h; exact num_nil w
  · rename_i h; exact num_err k h w
theorem is_by (k want : Int) (w : World) : Calls Try.prog 22 #[errV k, .int .i64 want] w fun e w' => e = .returned (.bool (k == want)) ∧ w = w' := by
  go_enter Try.func22, Try.ntmps22
  go_wp2_with fail
  refine (num_by k _).mono ?_
  rintro e w2 ⟨rfl, rfl⟩
  go_wp2_with fail
  go_ret
  exact ⟨rfl, rfl⟩
end Go.Proofs.Ytncmfkmgaghklaa
