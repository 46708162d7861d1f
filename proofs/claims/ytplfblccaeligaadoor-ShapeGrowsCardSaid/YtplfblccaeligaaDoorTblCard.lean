/- Layer 8: the reference's Card of any number. -/
import Derived.Test.YtplfblccaeligaaDoorShG5
import Derived.Test.YtplfblccaeligaaDoorTblRefC
import Derived.Test.YtplfblccaeligaaDoorTblRefF
import Derived.Test.YtplfblccaeligaaDoorTblIs
namespace Go.Proofs.YtplfblccaeligaaDoor
open Go.RowKit Ex Mx
theorem zeroD_card : zeroD = cardC zeroT none 0 0 := by unfold cardC; rw [arr6]; rfl
set_option linter.unusedSimpArgs false in
set_option maxRecDepth 100000 in
set_option maxHeartbeats 1000000 in
theorem cardRef_out (x : Int) (w : World) (h : ¬ (0 ≤ x ∧ x ≤ 119)) : Calls Tryd.prog 22 #[.int .i64 x] w (CardQ zeroT (.bool false) w) := by
  have hb : (decide (x < 0) || decide (119 < x)) = true := by simp; omega
  go_enter Tryd.func22, Tryd.ntmps22
  go_upto_region 1 with fail
  obtain ⟨w1, hw1⟩ : ∃ w1, w1 = w.alloc (.cells zeroD 55) := ⟨_, rfl⟩
  have hZ : CdAt w1 w.heap.size zeroD := by rw [hw1]; exact CdAt.new _ _
  have hb1 : Below w.heap.size w w1 := by rw [hw1]; exact (Below.refl _ _).alloc (Nat.le_refl _) _
  rw [← hw1]
  clear hw1 h
  have h1 : zeroD.all (·.oneCell') = true := by rw [zeroD_card]; exact card_one _ _ _ _
  go_wp2_with (refine wpList_store_row rfl 55 (.tmp 2) (.tmp 15) rfl w.heap.size zeroD rfl rfl 55 zeroD hZ size13 rfl h1 ?_)
  all_goals refine bodyPost_ret (v := .tuple #[.agg zeroD, .bool false]) ?_ rfl ⟨_, rfl, ?_, below_setRow hb1 _ _ (Nat.le_refl _)⟩
  all_goals first
    | exact results_cell_tmp (ty := 55) (p := 2) (q := 3) (by kernel_rfl) _ _ w.heap.size 55 _ (0, 0) _ rfl (setRow_heap _ _ _ _ _ _ hZ) Tryd.underlying55 rfl size13
    | exact ⟨in_0, in_0, wide_no, in_0, in_0, in_0, none, 0, zeroD_card, Nat.le_refl _, by unfold maxLen; omega, no_ab⟩
/-- The reference's card of any number. -/
theorem cardRef_any (x : Int) (w : World) : Calls Tryd.prog 22 #[.int .i64 x] w (CardQ (tblX x) (.bool (isN x)) w) := by
  by_cases h : 0 ≤ x ∧ x ≤ 119
  · have hT : tblX x = tblC x.toNat := if_pos h
    have hN : isN x = true := decide_eq_true h
    rw [hT, hN]
    obtain ⟨n, rfl⟩ : ∃ n : Nat, x = (n : Int) := ⟨x.toNat, by omega⟩
    rw [Int.toNat_natCast]
    have hn : n < 120 := by omega
    by_cases h5 : n < 5
    · exact cardRef_src n w h5
    · by_cases h10 : n < 10
      · exact cardRef_src5 n w (by omega) h10
      · by_cases h50 : n < 50
        · exact cardRef_beast n w (by omega) h50
        · by_cases h80 : n < 80
          · exact cardRef_magic n w (by omega) h80
          · by_cases h100 : n < 100
            · exact cardRef_relic n w (by omega) h100
            · by_cases h112 : n < 112
              · exact cardRef_special n w (by omega) h112
              · exact cardRef_tok n w (by omega) hn
  · rw [show tblX x = zeroT from if_neg h, show isN x = false from decide_eq_false h]
    exact cardRef_out x w h
end Go.Proofs.YtplfblccaeligaaDoor
