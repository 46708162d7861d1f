/- Layer 1: the laws' walks. -/
import Derived.Test.YtccabmlhlpmhbaaDoorBitsRef
import Derived.Test.YtccabmlhlpmhbaaDoorBitsCode
import Derived.Deep.RegionHeld3
namespace Go.Proofs.YtccabmlhlpmhbaaDoor
open Go.RowKit Bx

theorem alive_narrow : narrowV 200 8 = -56 := by decide +kernel
theorem alive_span : spanB 62 70 = 13835058055282163712 := by decide
theorem alive_true (w : World) : Calls Tryd.prog 4 #[] w fun e w' => e = .returned (.bool true) ∧ w = w' := by
  have h1 := Lib.hid alive_narrow
  have h2 := Lib.hid alive_span
  go_enter Tryd.func4, Tryd.ntmps4
  go_wp2_with fail
  refine (narrow_yes _ _ (by decide) _).mono ?_
  rintro e w' ⟨rfl, rfl⟩
  rw [h1.out]
  go_wp2_with fail
  refine (span_any _ _ _).mono ?_
  rintro e w' ⟨rfl, rfl⟩
  rw [h2.out]
  go_wp2_with fail
  go_ret
  exact ⟨rfl, rfl⟩
end Go.Proofs.YtccabmlhlpmhbaaDoor
