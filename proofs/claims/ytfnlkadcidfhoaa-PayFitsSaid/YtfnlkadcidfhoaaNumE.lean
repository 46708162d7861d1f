/- Contract of mulligannum.Num: an error's number. -/
import Derived.Test.YtfnlkadcidfhoaaRows
import Derived.WalkKit
import Derived.WalkSpells
import Derived.WalkLawsBesides
import Derived.Lib.Hide
namespace Go.Proofs.Ytfnlkadcidfhoaa
open Go.RowKit
theorem num_nil (w : World) : Calls Try.prog 10 #[.nilIface] w fun e w' => e = .returned (.int .i64 0) ∧ w = w' := by
  go_enter Try.func10, Try.ntmps10
  go_wp2_with fail
  go_ret
  exact ⟨rfl, rfl⟩
theorem num_err (k : Int) (hk : k ≠ 0) (w : World) : Calls Try.prog 10 #[.iface 41 (.int .i64 k)] w fun e w' => e = .returned (.int .i64 k) ∧ w = w' := by
  have h1 : (k != 0) = true := by simpa using hk
  have ht : ∀ (w : World), (Instr.typeAssert (.iface 41 (.int .i64 k)) 26 41 true).run Try.prog w = .ok (.tuple #[.int .i64 k, .bool true]) w := fun _ => by kernel_rfl
  clear hk
  go_enter Try.func10, Try.ntmps10
  go_wp2_with fail
  go_ret
  exact ⟨rfl, rfl⟩
end Go.Proofs.Ytfnlkadcidfhoaa
