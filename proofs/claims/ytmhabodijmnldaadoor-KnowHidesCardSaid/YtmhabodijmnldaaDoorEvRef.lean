/- Layer 12: the reference's Check, Invert. -/
import Derived.Test.YtmhabodijmnldaaDoorEvT
import Derived.Test.YtmhabodijmnldaaDoorReg
import Derived.Deep.Cut
import Derived.WalkMore
namespace Go.Proofs.YtmhabodijmnldaaDoor
open Go.RowKit Ex
set_option maxRecDepth 100000
set_option linter.unusedSimpArgs false in
set_option maxHeartbeats 0 in
theorem evCheckRef_any (e : EvT) (w : World) : Calls Tryd.prog 34 #[evV e] w fun en w' => en = .returned (.int .i64 (chkE e)) ∧ Below w.heap.size w w' := by
  obtain ⟨k, a, b, c, d, f⟩ := e
  unfold evV
  simp only
  go_enter Tryd.func34, Tryd.ntmps34
  go_upto_region 1 with fail
  obtain ⟨w1, hw1⟩ : ∃ w1, w1 = w.alloc (.cells #[.int .i64 k, .int .i64 a, .int .i64 b, .int .i64 c, .int .i64 d, .int .i64 f] 53) := ⟨_, rfl⟩
  have hrow : w1.heap[w.heap.size]? = some (.cells #[.int .i64 k, .int .i64 a, .int .i64 b, .int .i64 c, .int .i64 d, .int .i64 f] 53 (0, 0)) := by rw [hw1]; exact heap_alloc_new _ _
  have hb1 : Below w.heap.size w w1 := by rw [hw1]; exact (Below.refl _ _).alloc (Nat.le_refl _) _
  rw [← hw1]
  have c0 := cell_of_row w1 w.heap.size 0 _ _ _ hrow
  have c1 := cell_of_row w1 w.heap.size 1 _ _ _ hrow
  have c2 := cell_of_row w1 w.heap.size 2 _ _ _ hrow
  have c3 := cell_of_row w1 w.heap.size 3 _ _ _ hrow
  have c4 := cell_of_row w1 w.heap.size 4 _ _ _ hrow
  have c5 := cell_of_row w1 w.heap.size 5 _ _ _ hrow
  simp at c0 c1 c2 c3 c4 c5
  clear hw1 hrow
  by_cases hk : k = 0
  · subst hk
    go_wp2_with fail
    all_goals go_ret
    all_goals refine ⟨?_, hb1⟩
    all_goals show Ending.returned (.int .i64 _) = Ending.returned (.int .i64 (chkE _))
    all_goals congr 2
    all_goals symm
    all_goals rw [ck0]
    all_goals (repeat' split) <;> omega
  by_cases hk5 : k = 5
  · subst hk5
    go_wp2_with fail
    all_goals go_ret
    all_goals refine ⟨?_, hb1⟩
    all_goals show Ending.returned (.int .i64 _) = Ending.returned (.int .i64 (chkE _))
    all_goals congr 2
    all_goals symm
    all_goals rw [ck5]
    all_goals (repeat' split) <;> omega
  by_cases hk1 : k = 1
  · subst hk1
    go_wp2_with fail
    all_goals go_ret
    all_goals refine ⟨?_, hb1⟩
    all_goals show Ending.returned (.int .i64 _) = Ending.returned (.int .i64 (chkE _))
    all_goals congr 2
    all_goals symm
    all_goals rw [ck1]
    all_goals (repeat' split) <;> omega
  by_cases hk2 : k = 2
  · subst hk2
    by_cases h3 : b = 3
    · subst h3
      go_wp2_with fail
      all_goals go_ret
      all_goals refine ⟨?_, hb1⟩
      all_goals show Ending.returned (.int .i64 _) = Ending.returned (.int .i64 (chkE _))
      all_goals congr 2
      all_goals symm
      all_goals rw [ck2]
      all_goals (repeat' split) <;> omega
    · have hd3 : (b != 3) = true := bne_iff_ne.2 h3
      go_wp2_with fail
      all_goals go_ret
      all_goals refine ⟨?_, hb1⟩
      all_goals show Ending.returned (.int .i64 _) = Ending.returned (.int .i64 (chkE _))
      all_goals congr 2
      all_goals symm
      all_goals rw [ck2]
      all_goals (repeat' split) <;> omega
  by_cases hk3 : k = 3
  · subst hk3
    go_wp2_with fail
    all_goals go_ret
    all_goals refine ⟨?_, hb1⟩
    all_goals show Ending.returned (.int .i64 _) = Ending.returned (.int .i64 (chkE _))
    all_goals congr 2
    all_goals symm
    all_goals rw [ck3]
    all_goals (repeat' split) <;> omega
  by_cases hk4 : k = 4
  · subst hk4
    by_cases ha : a = 0
    · subst ha
      go_wp2_with fail
      all_goals go_ret
      all_goals refine ⟨?_, hb1⟩
      all_goals show Ending.returned (.int .i64 _) = Ending.returned (.int .i64 (chkE _))
      all_goals congr 2
      all_goals symm
      all_goals rw [ck4]
      all_goals (repeat' split) <;> omega
    · have hda : (a != 0) = true := bne_iff_ne.2 ha
      go_wp2_with fail
      all_goals go_ret
      all_goals refine ⟨?_, hb1⟩
      all_goals show Ending.returned (.int .i64 _) = Ending.returned (.int .i64 (chkE _))
      all_goals congr 2
      all_goals symm
      all_goals rw [ck4]
      all_goals (repeat' split) <;> omega
  by_cases hn : k < 0
  · have hd : decide (k < 0) = true := decide_eq_true hn
    go_wp2_with fail
    all_goals go_ret
    all_goals refine ⟨?_, hb1⟩
    all_goals show Ending.returned (.int .i64 _) = Ending.returned (.int .i64 (chkE _))
    all_goals congr 2
    all_goals symm
    all_goals rw [ckN k a b c d f (by omega)]
    all_goals (repeat' split) <;> omega
  · have hd : decide (k < 0) = false := decide_eq_false hn
    have hd5 : decide (5 < k) = true := decide_eq_true (by omega)
    go_wp2_with fail
    all_goals go_ret
    all_goals refine ⟨?_, hb1⟩
    all_goals show Ending.returned (.int .i64 _) = Ending.returned (.int .i64 (chkE _))
    all_goals congr 2
    all_goals symm
    all_goals rw [ckN k a b c d f (by omega)]
    all_goals (repeat' split) <;> omega
end Go.Proofs.YtmhabodijmnldaaDoor
