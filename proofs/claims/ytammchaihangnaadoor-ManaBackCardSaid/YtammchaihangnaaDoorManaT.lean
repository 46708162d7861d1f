/- Layer 4: from the row's list to the table of powers of ten. -/
import Derived.Test.YtammchaihangnaaDoorManaH
namespace Go.Proofs.YtammchaihangnaaDoor
open Go.RowKit Mx
theorem pow10_ne : pow10V ≠ [] := by
  intro h
  have := congrArg List.length h
  simp [pow10V, Lib.pow10Tab_length] at this
theorem tabT_of {W : World} (h : laidMetH Tryd.prog Rows.manaTextsRow.laid W) : TabT W := laid_cells h 8 2 1 (by kernel_rfl) pow10_ne
end Go.Proofs.YtammchaihangnaaDoor
