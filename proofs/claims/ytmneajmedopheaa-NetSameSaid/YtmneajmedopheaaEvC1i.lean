/- Layer 12: the code's Invert. -/
import Derived.Test.YtmneajmedopheaaNtG1
import Derived.Test.YtmneajmedopheaaNtG3
namespace Go.Proofs.Ytmneajmedopheaa
open Go.RowKit Ex
set_option maxRecDepth 100000
set_option linter.unusedSimpArgs false in
set_option maxHeartbeats 0 in
theorem inv_code (e : EvT) (w : World) : Calls Try.prog 23 #[evV e] w fun en w' => en = .returned (evV (invE e)) ∧ Below w.heap.size w w' := by
  obtain ⟨r, hr⟩ : ∃ r, r = invE e := ⟨_, rfl⟩
  rw [← hr]
  obtain ⟨k, a, b, c, d, f⟩ := e
  unfold evV
  simp only
  go_enter Try.func23, Try.ntmps23
  go_upto_region 1 with fail
  obtain ⟨w2, hw2⟩ : ∃ w2, w2 = (w.alloc (.cells (evC ⟨k, a, b, c, d, f⟩) 45)).alloc (.cells (evC ev0) 45) := ⟨_, rfl⟩
  have hb1 : Below (w.alloc (.cells (evC ⟨k, a, b, c, d, f⟩) 45)).heap.size (w.alloc (.cells (evC ⟨k, a, b, c, d, f⟩) 45)) w2 := by rw [hw2]; exact (Below.refl _ _).alloc (Nat.le_refl _) _
  have hb0 : Below w.heap.size w (w.alloc (.cells (evC ⟨k, a, b, c, d, f⟩) 45)) := (Below.refl _ _).alloc (Nat.le_refl _) _
  have hE1 : EvB w2 w.heap.size ⟨k, a, b, c, d, f⟩ := EvB.keep (heap_alloc_new _ _) hb1
  have hE2 : EvB w2 (w.heap.size + 1) ev0 := by rw [hw2]; have := heap_alloc_new (w.alloc (.cells (evC ⟨k, a, b, c, d, f⟩) 45)) (.cells (evC ev0) 45); rwa [World.size_alloc] at this
  have hb2 := keepB hb1 hb0
  show Code.wp _ _ _ _ ((w.alloc (.cells (evC ⟨k, a, b, c, d, f⟩) 45)).alloc (.cells (evC ev0) 45))
  rw [← hw2]
  clear hw2 hb1 hb0
  obtain ⟨g1, hg1⟩ : ∃ g, g = w.heap.size := ⟨_, rfl⟩
  obtain ⟨g2, hg2⟩ : ∃ g, g = w.heap.size + 1 := ⟨_, rfl⟩
  rw [← hg1] at hE1
  rw [← hg2] at hE2
  rw [← hg1]
  try rw [show g1 + 1 = g2 by omega]
  have hwg1 : w.heap.size ≤ g1 := by omega
  have hwg2 : w.heap.size ≤ g2 := by omega
  have hne : g2 ≠ g1 := by omega
  clear hg1 hg2
  obtain ⟨c0, c1, c2, c3, c4, c5⟩ := hE1.cells
  simp only at c0 c1 c2 c3 c4 c5
  have f0 := frozen_of_row w2 g1 0 _ _ hE1
  by_cases hk : k = 0
  · subst hk
    have HI := Lib.hid (show r = ⟨5, a, b, c, d, f⟩ from hr)
    clear hr
    go_upto_region 12 with fail
    have hS := hE1.set_ 0 (.int .i64 5) (e' := ⟨5, a, b, c, d, f⟩) rfl
    have hZ := hE2.far hne 0 (.int .i64 5)
    have hbS := hb2.setCell (p := ⟨g1, 0, none⟩) hwg1 (.int .i64 5)
    clear c0 c1 c2 c3 c4 c5 f0
    unfold EvB at hS hZ
    have hsz3 := ev_size (⟨5, a, b, c, d, f⟩)
    have hone3 := evC_one (⟨5, a, b, c, d, f⟩)
    have hs36 : (evC ev0).size = (evC (⟨5, a, b, c, d, f⟩)).size := rfl
    obtain ⟨es, hes⟩ : ∃ es, es = evC (⟨5, a, b, c, d, f⟩) := ⟨_, rfl⟩
    have HEs := Lib.hid hes
    rw [← hes] at hS hsz3 hone3 hs36
    clear hes
    go_wp2_with (first
      | (refine wpList_load_row rfl 45 (.tmp 1) rfl g1 rfl 45 _ (0, 0) _ hS Try.underlying45 rfl hsz3 ?_)
      | (refine wpList_store_row rfl 45 (.tmp 2) (.tmp 35) rfl g2 _ rfl rfl 45 (evC ev0) hZ hsz3 hs36 hone3 ?_))
    refine bodyPost_ret (v := .agg es) ?_ rfl ⟨by rw [HI.out, HEs.out]; rfl, below_setRow hbS _ _ hwg2⟩
    exact results_cellE (ty := 45) (p := 2) (by kernel_rfl) _ _ g2 45 _ (0, 0) _ rfl (setRow_heap _ _ _ _ _ _ hZ) Try.underlying45 rfl hsz3
  by_cases hk5 : k = 5
  · subst hk5
    have HI := Lib.hid (show r = ⟨0, a, b, c, d, f⟩ from hr)
    clear hr
    go_upto_region 12 with fail
    have hS := hE1.set_ 0 (.int .i64 0) (e' := ⟨0, a, b, c, d, f⟩) rfl
    have hZ := hE2.far hne 0 (.int .i64 0)
    have hbS := hb2.setCell (p := ⟨g1, 0, none⟩) hwg1 (.int .i64 0)
    clear c0 c1 c2 c3 c4 c5 f0
    unfold EvB at hS hZ
    have hsz3 := ev_size (⟨0, a, b, c, d, f⟩)
    have hone3 := evC_one (⟨0, a, b, c, d, f⟩)
    have hs36 : (evC ev0).size = (evC (⟨0, a, b, c, d, f⟩)).size := rfl
    obtain ⟨es, hes⟩ : ∃ es, es = evC (⟨0, a, b, c, d, f⟩) := ⟨_, rfl⟩
    have HEs := Lib.hid hes
    rw [← hes] at hS hsz3 hone3 hs36
    clear hes
    go_wp2_with (first
      | (refine wpList_load_row rfl 45 (.tmp 1) rfl g1 rfl 45 _ (0, 0) _ hS Try.underlying45 rfl hsz3 ?_)
      | (refine wpList_store_row rfl 45 (.tmp 2) (.tmp 35) rfl g2 _ rfl rfl 45 (evC ev0) hZ hsz3 hs36 hone3 ?_))
    refine bodyPost_ret (v := .agg es) ?_ rfl ⟨by rw [HI.out, HEs.out]; rfl, below_setRow hbS _ _ hwg2⟩
    exact results_cellE (ty := 45) (p := 2) (by kernel_rfl) _ _ g2 45 _ (0, 0) _ rfl (setRow_heap _ _ _ _ _ _ hZ) Try.underlying45 rfl hsz3
  by_cases hk1 : k = 1
  · subst hk1
    have HI := Lib.hid (show r = ⟨1, a, d, f, b, c⟩ from hr)
    clear hr
    have hA := hE1.set_ 2 (.int .i64 d) (e' := ⟨1, a, d, c, d, f⟩) rfl
    have hB := hA.set_ 3 (.int .i64 f) (e' := ⟨1, a, d, f, d, f⟩) rfl
    have hC := hB.set_ 4 (.int .i64 b) (e' := ⟨1, a, d, f, b, f⟩) rfl
    have f2 := frozen_of_row _ g1 2 _ _ hE1
    have f3 := frozen_of_row _ g1 3 _ _ hA
    have f4 := frozen_of_row _ g1 4 _ _ hB
    have f5 := frozen_of_row _ g1 5 _ _ hC
    have x3 := hA.cells.2.2.2.1
    have x4 := hB.cells.2.2.2.2.1
    have x5 := hC.cells.2.2.2.2.2
    simp only at x3 x4 x5
    go_upto_region 12 with fail
    have hS := hC.set_ 5 (.int .i64 c) (e' := ⟨1, a, d, f, b, c⟩) rfl
    have hZ := (((hE2.far hne 2 (.int .i64 d)).far hne 3 (.int .i64 f)).far hne 4 (.int .i64 b)).far hne 5 (.int .i64 c)
    have hbS := (((hb2.setCell (p := ⟨g1, 2, none⟩) hwg1 (.int .i64 d)).setCell (p := ⟨g1, 3, none⟩) hwg1 (.int .i64 f)).setCell (p := ⟨g1, 4, none⟩) hwg1 (.int .i64 b)).setCell (p := ⟨g1, 5, none⟩) hwg1 (.int .i64 c)
    clear c0 c1 c2 c3 c4 c5 f0 f2 f3 f4 f5 x3 x4 x5 hA hB hC
    unfold EvB at hS hZ
    have hsz3 := ev_size (⟨1, a, d, f, b, c⟩)
    have hone3 := evC_one (⟨1, a, d, f, b, c⟩)
    have hs36 : (evC ev0).size = (evC (⟨1, a, d, f, b, c⟩)).size := rfl
    obtain ⟨es, hes⟩ : ∃ es, es = evC (⟨1, a, d, f, b, c⟩) := ⟨_, rfl⟩
    have HEs := Lib.hid hes
    rw [← hes] at hS hsz3 hone3 hs36
    clear hes
    go_wp2_with (first
      | (refine wpList_load_row rfl 45 (.tmp 1) rfl g1 rfl 45 _ (0, 0) _ hS Try.underlying45 rfl hsz3 ?_)
      | (refine wpList_store_row rfl 45 (.tmp 2) (.tmp 35) rfl g2 _ rfl rfl 45 (evC ev0) hZ hsz3 hs36 hone3 ?_))
    refine bodyPost_ret (v := .agg es) ?_ rfl ⟨by rw [HI.out, HEs.out]; rfl, below_setRow hbS _ _ hwg2⟩
    exact results_cellE (ty := 45) (p := 2) (by kernel_rfl) _ _ g2 45 _ (0, 0) _ rfl (setRow_heap _ _ _ _ _ _ hZ) Try.underlying45 rfl hsz3
  by_cases hs : k = 2 ∨ k = 3 ∨ k = 4
  · have HI := Lib.hid (show r = ⟨k, a, b, d, c, f⟩ from hr.trans (by unfold invE; simp [hk, hk5, hk1, hs]))
    clear hr
    have hA := hE1.set_ 3 (.int .i64 d) (e' := ⟨k, a, b, d, d, f⟩) rfl
    have f3 := frozen_of_row _ g1 3 _ _ hE1
    have f4 := frozen_of_row _ g1 4 _ _ hA
    have x4 := hA.cells.2.2.2.2.1
    simp only at x4
    have hS := hA.set_ 4 (.int .i64 c) (e' := ⟨k, a, b, d, c, f⟩) rfl
    have hZ := (hE2.far hne 3 (.int .i64 d)).far hne 4 (.int .i64 c)
    have hbS := (hb2.setCell (p := ⟨g1, 3, none⟩) hwg1 (.int .i64 d)).setCell (p := ⟨g1, 4, none⟩) hwg1 (.int .i64 c)
    rcases hs with rfl | rfl | rfl
    · go_upto_region 12 with fail
      clear c0 c1 c2 c3 c4 c5 f0 f3 f4 x4 hA
      unfold EvB at hS hZ
      have hsz3 := ev_size (⟨2, a, b, d, c, f⟩)
      have hone3 := evC_one (⟨2, a, b, d, c, f⟩)
      have hs36 : (evC ev0).size = (evC (⟨2, a, b, d, c, f⟩)).size := rfl
      obtain ⟨es, hes⟩ : ∃ es, es = evC (⟨2, a, b, d, c, f⟩) := ⟨_, rfl⟩
      have HEs := Lib.hid hes
      rw [← hes] at hS hsz3 hone3 hs36
      clear hes
      go_wp2_with (first
        | (refine wpList_load_row rfl 45 (.tmp 1) rfl g1 rfl 45 _ (0, 0) _ hS Try.underlying45 rfl hsz3 ?_)
        | (refine wpList_store_row rfl 45 (.tmp 2) (.tmp 35) rfl g2 _ rfl rfl 45 (evC ev0) hZ hsz3 hs36 hone3 ?_))
      refine bodyPost_ret (v := .agg es) ?_ rfl ⟨by rw [HI.out, HEs.out]; rfl, below_setRow hbS _ _ hwg2⟩
      exact results_cellE (ty := 45) (p := 2) (by kernel_rfl) _ _ g2 45 _ (0, 0) _ rfl (setRow_heap _ _ _ _ _ _ hZ) Try.underlying45 rfl hsz3
    · go_upto_region 12 with fail
      clear c0 c1 c2 c3 c4 c5 f0 f3 f4 x4 hA
      unfold EvB at hS hZ
      have hsz3 := ev_size (⟨3, a, b, d, c, f⟩)
      have hone3 := evC_one (⟨3, a, b, d, c, f⟩)
      have hs36 : (evC ev0).size = (evC (⟨3, a, b, d, c, f⟩)).size := rfl
      obtain ⟨es, hes⟩ : ∃ es, es = evC (⟨3, a, b, d, c, f⟩) := ⟨_, rfl⟩
      have HEs := Lib.hid hes
      rw [← hes] at hS hsz3 hone3 hs36
      clear hes
      go_wp2_with (first
        | (refine wpList_load_row rfl 45 (.tmp 1) rfl g1 rfl 45 _ (0, 0) _ hS Try.underlying45 rfl hsz3 ?_)
        | (refine wpList_store_row rfl 45 (.tmp 2) (.tmp 35) rfl g2 _ rfl rfl 45 (evC ev0) hZ hsz3 hs36 hone3 ?_))
      refine bodyPost_ret (v := .agg es) ?_ rfl ⟨by rw [HI.out, HEs.out]; rfl, below_setRow hbS _ _ hwg2⟩
      exact results_cellE (ty := 45) (p := 2) (by kernel_rfl) _ _ g2 45 _ (0, 0) _ rfl (setRow_heap _ _ _ _ _ _ hZ) Try.underlying45 rfl hsz3
    · go_upto_region 12 with fail
      clear c0 c1 c2 c3 c4 c5 f0 f3 f4 x4 hA
      unfold EvB at hS hZ
      have hsz3 := ev_size (⟨4, a, b, d, c, f⟩)
      have hone3 := evC_one (⟨4, a, b, d, c, f⟩)
      have hs36 : (evC ev0).size = (evC (⟨4, a, b, d, c, f⟩)).size := rfl
      obtain ⟨es, hes⟩ : ∃ es, es = evC (⟨4, a, b, d, c, f⟩) := ⟨_, rfl⟩
      have HEs := Lib.hid hes
      rw [← hes] at hS hsz3 hone3 hs36
      clear hes
      go_wp2_with (first
        | (refine wpList_load_row rfl 45 (.tmp 1) rfl g1 rfl 45 _ (0, 0) _ hS Try.underlying45 rfl hsz3 ?_)
        | (refine wpList_store_row rfl 45 (.tmp 2) (.tmp 35) rfl g2 _ rfl rfl 45 (evC ev0) hZ hsz3 hs36 hone3 ?_))
      refine bodyPost_ret (v := .agg es) ?_ rfl ⟨by rw [HI.out, HEs.out]; rfl, below_setRow hbS _ _ hwg2⟩
      exact results_cellE (ty := 45) (p := 2) (by kernel_rfl) _ _ g2 45 _ (0, 0) _ rfl (setRow_heap _ _ _ _ _ _ hZ) Try.underlying45 rfl hsz3
  have HI := Lib.hid (show r = ⟨k, a, b, c, d, f⟩ from hr.trans (by unfold invE; simp [hk, hk5, hk1, hs]))
  have d0 : (k == 0) = false := by simpa using hk
  have d5 : (k == 5) = false := by simpa using hk5
  have d1 : (k == 1) = false := by simpa using hk1
  have d2 : (k == 2) = false := by simp; omega
  have d3 : (k == 3) = false := by simp; omega
  have d4 : (k == 4) = false := by simp; omega
  have hS := hE1
  have hZ := hE2
  have hbS := hb2
  clear hr
  go_upto_region 12 with fail
  clear c0 c1 c2 c3 c4 c5 f0 hk hk5 hk1 hs d0 d1 d2 d3 d4 d5
  unfold EvB at hS hZ
  have hsz3 := ev_size (⟨k, a, b, c, d, f⟩)
  have hone3 := evC_one (⟨k, a, b, c, d, f⟩)
  have hs36 : (evC ev0).size = (evC (⟨k, a, b, c, d, f⟩)).size := rfl
  obtain ⟨es, hes⟩ : ∃ es, es = evC (⟨k, a, b, c, d, f⟩) := ⟨_, rfl⟩
  have HEs := Lib.hid hes
  rw [← hes] at hS hsz3 hone3 hs36
  clear hes
  go_wp2_with (first
    | (refine wpList_load_row rfl 45 (.tmp 1) rfl g1 rfl 45 _ (0, 0) _ hS Try.underlying45 rfl hsz3 ?_)
    | (refine wpList_store_row rfl 45 (.tmp 2) (.tmp 35) rfl g2 _ rfl rfl 45 (evC ev0) hZ hsz3 hs36 hone3 ?_))
  refine bodyPost_ret (v := .agg es) ?_ rfl ⟨by rw [HI.out, HEs.out]; rfl, below_setRow hbS _ _ hwg2⟩
  exact results_cellE (ty := 45) (p := 2) (by kernel_rfl) _ _ g2 45 _ (0, 0) _ rfl (setRow_heap _ _ _ _ _ _ hZ) Try.underlying45 rfl hsz3
end Go.Proofs.Ytmneajmedopheaa
