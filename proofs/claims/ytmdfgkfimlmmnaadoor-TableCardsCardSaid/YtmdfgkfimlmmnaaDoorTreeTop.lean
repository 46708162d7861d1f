/- Layer 6: the reference's Check; an error's number. -/
import Derived.Test.YtmdfgkfimlmmnaaDoorTreeCheck
import Derived.Test.YtmdfgkfimlmmnaaDoorNum
namespace Go.Proofs.YtmdfgkfimlmmnaaDoor
open Go.RowKit Ex
/-- The number of what is wrong with an effect. -/
def chkTop (t : ET) (tg : Int) : Int := if ¬ (0 ≤ tg ∧ tg ≤ 5) then 6 else chkT t tg 1
theorem num_by (k : Int) (w : World) : Calls Tryd.prog 17 #[errV k] w fun e w' => e = .returned (.int .i64 k) ∧ w = w' := by
  unfold errV
  split
  · rename_i h; subst h; exact num_nil w
  · rename_i h; exact num_err k h w
theorem is_by (k want : Int) (w : World) : Calls Tryd.prog 11 #[errV k, .int .i64 want] w fun e w' => e = .returned (.bool (k == want)) ∧ w = w' := by
  go_enter Tryd.func11, Tryd.ntmps11
  go_wp2_with fail
  refine (num_by k _).mono ?_
  rintro e w2 ⟨rfl, rfl⟩
  go_wp2_with fail
  go_ret
  exact ⟨rfl, rfl⟩
end Go.Proofs.YtmdfgkfimlmmnaaDoor
