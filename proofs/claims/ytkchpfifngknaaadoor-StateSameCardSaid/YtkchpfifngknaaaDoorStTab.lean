/- Layer 10: from the row's list to the table of the fields that only what is on the field may have. -/
import Derived.Test.YtkchpfifngknaaaDoorStC5
import Derived.Test.YtkchpfifngknaaaDoorTab
namespace Go.Proofs.YtkchpfifngknaaaDoor
open Go.RowKit Ex
theorem fieldF_is : arr .i64 9 fieldF = ([.int .i64 4, .int .i64 5, .int .i64 6, .int .i64 7, .int .i64 8, .int .i64 9, .int .i64 10, .int .i64 11, .int .i64 12] : List Value).toArray := by kernel_rfl
theorem tabF_of {W : World} {l : List (String × DataW Unit)} (h : laidMetH Tryd.prog l W) (hf : laidVs Tryd.prog l 8 0 0 = some [.int .i64 4, .int .i64 5, .int .i64 6, .int .i64 7, .int .i64 8, .int .i64 9, .int .i64 10, .int .i64 11, .int .i64 12]) : TabF W := by
  obtain ⟨t, ht⟩ := laid_cells h 8 0 0 hf (by simp)
  exact ⟨t, by rw [fieldF_is]; exact ht⟩
theorem tab_checks {W : World} (h : laidMetH Tryd.prog Rows.stateChecksRow.laid W) : TabF W := tabF_of h (by kernel_rfl)
theorem tab_same {W : World} (h : laidMetH Tryd.prog Rows.stateSameRow.laid W) : TabF W := tabF_of h (by kernel_rfl)
theorem tab_zones {W : World} (h : laidMetH Tryd.prog Rows.stateZonesRow.laid W) : TabF W := tabF_of h (by kernel_rfl)
theorem tab_sides {W : World} (h : laidMetH Tryd.prog Rows.stateSidesRow.laid W) : TabF W := tabF_of h (by kernel_rfl)
end Go.Proofs.YtkchpfifngknaaaDoor
