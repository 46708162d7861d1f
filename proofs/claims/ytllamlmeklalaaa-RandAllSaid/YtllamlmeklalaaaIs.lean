/- An error's number, and whether it is that one. -/
import Derived.Test.YtllamlmeklalaaaErr
import Derived.Test.YtllamlmeklalaaaNum
namespace Go.Proofs.Ytllamlmeklalaaa
open Go.RowKit
theorem num_by (k : Int) (w : World) : Calls Try.prog 10 #[errV k] w fun e w' => e = .returned (.int .i64 k) ∧ w = w' := by
  unfold errV
  split
  · rename_i h; subst h; exact num_nil w
  · rename_i h; exact num_err k h w
end Go.Proofs.Ytllamlmeklalaaa
