/- An error, by its number. -/
import Derived.Test.YtplfblccaeligaaDoorRows
import Derived.WalkKit
namespace Go.Proofs.YtplfblccaeligaaDoor
open Go.RowKit
/-- An error, by its number. -/
def errV (e : Int) : Value := if e = 0 then .nilIface else .iface 72 (.int .i64 e)
theorem errV_nil : errV 0 = .nilIface := if_pos rfl
theorem errV_err {e : Int} (h : e ≠ 0) : errV e = .iface 72 (.int .i64 e) := if_neg h
end Go.Proofs.YtplfblccaeligaaDoor
