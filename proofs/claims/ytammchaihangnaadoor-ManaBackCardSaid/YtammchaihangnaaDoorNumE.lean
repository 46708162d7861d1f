/- Contract of mulligannum.Num: an error's number. -/
import Derived.Test.YtammchaihangnaaDoorRows
import Derived.WalkKit
import Derived.WalkSpells
import Derived.WalkLawsBesides
import Derived.Lib.Hide
namespace Go.Proofs.YtammchaihangnaaDoor
open Go.RowKit
theorem num_nil (w : World) : Calls Tryd.prog 13 #[.nilIface] w fun e w' => e = .returned (.int .i64 0) ∧ w = w' := by
  go_enter Tryd.func13, Tryd.ntmps13
  go_wp2_with fail
  go_ret
  exact ⟨rfl, rfl⟩
theorem num_err (k : Int) (hk : k ≠ 0) (w : World) : Calls Tryd.prog 13 #[.iface 44 (.int .i64 k)] w fun e w' => e = .returned (.int .i64 k) ∧ w = w' := by
  have h1 : (k != 0) = true := by simpa using hk
  have ht : ∀ (w : World), (Instr.typeAssert (.iface 44 (.int .i64 k)) 26 44 true).run Tryd.prog w = .ok (.tuple #[.int .i64 k, .bool true]) w := fun _ => by kernel_rfl
  clear hk
  go_enter Tryd.func13, Tryd.ntmps13
  go_wp2_with fail
  go_ret
  exact ⟨rfl, rfl⟩
end Go.Proofs.YtammchaihangnaaDoor
