/- Layer 6: the reference's Check; an error's number. -/
import Derived.Test.YtnlhblnkckkeiaaTreeCheck
import Derived.Test.YtnlhblnkckkeiaaNum
namespace Go.Proofs.Ytnlhblnkckkeiaa
open Go.RowKit Ex
/-- The number of what is wrong with an effect. -/
def chkTop (t : ET) (tg : Int) : Int := if ¬ (0 ≤ tg ∧ tg ≤ 5) then 6 else chkT t tg 1
theorem num_by (k : Int) (w : World) : Calls Try.prog 9 #[errV k] w fun e w' => e = .returned (.int .i64 k) ∧ w = w' := by
  unfold errV
  split
  · rename_i h; subst h; exact num_nil w
  · rename_i h; exact num_err k h w
theorem is_by (k want : Int) (w : World) : Calls Try.prog 21 #[errV k, .int .i64 want] w fun e w' => e = .returned (.bool (k == want)) ∧ w = w' := by
  go_enter Try.func21, Try.ntmps21
  go_wp2_with fail
  refine (num_by k _).mono ?_
  rintro e w2 ⟨rfl, rfl⟩
  go_wp2_with fail
  go_ret
  exact ⟨rfl, rfl⟩
set_option linter.unusedSimpArgs false in
set_option maxRecDepth 100000 in
theorem checkTopRef_any (d : Nat) (t : ET) (cs : Array Value) (tg : Int) (w : World) (hr : Reads w.heap.size w d cs t) (hs : sizeT t ≤ 300) :
    Calls Try.prog 29 #[.agg cs, .int .i64 tg] w fun e w' => e = .returned (.int .i64 (chkTop t tg)) ∧ Below w.heap.size w w' := by
  have hsx : (Try.prog.info? 42).map (·.size) = some cs.size := by rw [hr.size]; exact size5
  go_enter Try.func29, Try.ntmps29
  go_upto_region 1 with fail
  obtain ⟨w1, hw1⟩ : ∃ w1, w1 = w.alloc (.cells cs 42) := ⟨_, rfl⟩
  have HE := Lib.hid (show EvAt w1 w.heap.size cs by rw [hw1]; exact EvAt.new _ _)
  have hb1 : Below w.heap.size w w1 := by rw [hw1]; exact (Below.refl _ _).alloc (Nat.le_refl _) _
  rw [← hw1]
  clear hw1
  have hE := HE.out
  by_cases hk : 0 ≤ tg ∧ tg ≤ 5
  · have HT := Lib.hid (show chkTop t tg = chkT t tg 1 by unfold chkTop; rw [if_neg (not_not_intro hk)])
    have d0 : decide (tg < 0) = false := by simp; omega
    have d1 : decide (5 < tg) = false := by simp; omega
    clear hk
    go_upto_region 3 with fail
    go_wp2_with (refine wpList_load_row rfl 42 (.tmp 2) rfl w.heap.size rfl 42 _ (0, 0) _ hE Try.underlying42 rfl hsx ?_)
    refine (checkRef_any d t cs w1 tg 1 (hr.grow hb1) (by omega) (by omega)).mono ?_
    rintro e w2 ⟨rfl, hb2⟩
    go_wp2_with fail
    go_ret
    exact ⟨by rw [HT.out]; rfl, keepB hb2 hb1⟩
  · have HT := Lib.hid (show chkTop t tg = 6 by unfold chkTop; rw [if_pos hk])
    have hb : (decide (tg < 0) || decide (5 < tg)) = true := by simp; omega
    clear hk
    go_wp2_with fail
    all_goals go_ret
    all_goals exact ⟨by rw [HT.out]; rfl, hb1⟩
end Go.Proofs.Ytnlhblnkckkeiaa
