/- Layer 13: the code's Undo. -/
import Derived.Test.YtmneajmedopheaaNtC1
import Derived.Test.YtmneajmedopheaaNtCi
namespace Go.Proofs.Ytmneajmedopheaa
open Go.RowKit Ex
set_option maxRecDepth 100000
set_option linter.unusedSimpArgs false in
set_option maxHeartbeats 0 in
theorem undo_code (s : StT) (O : SlT) (L : Nat → SlT) (cs : Array Value) (A : Option Addr) (n c : Nat) (l : List EvT) (w : World) (h : ReadsS w.heap.size w cs s O L) (hn : s.objs.length ≤ 500) (hll : ∀ z < 11, (s.lists z).length ≤ 500)
    (hE : Evs w.heap.size w A n l) (hm : n ≤ 200) : Calls Try.prog 11 #[.agg cs, .slice A n c] w (RnP w (runS s (invL l))) := by
  have H := Lib.hid h
  have HE := Lib.hid hE
  have HLL := Lib.hid (And.intro hn hll)
  have HM := Lib.hid hm
  have hz := st0_is
  have hcs := h.size
  clear h hE hll hn hm
  go_enter Try.func11, Try.ntmps11
  go_upto_region 1 with fail
  have hb1 : Below (w.alloc (.cells cs 29)).heap.size (w.alloc (.cells cs 29)) ((w.alloc (.cells cs 29)).alloc (.cells st0 29)) := (Below.refl _ _).alloc (Nat.le_refl _) _
  have hb0 : Below w.heap.size w (w.alloc (.cells cs 29)) := (Below.refl _ _).alloc (Nat.le_refl _) _
  have hs1 := (StAt.new w cs).keep hb1
  have hr1 : StAt ((w.alloc (.cells cs 29)).alloc (.cells st0 29)) (w.heap.size + 1) st0 := by
    have h := StAt.new (w.alloc (.cells cs 29)) st0
    simpa using h
  have hbw := keepB hb1 hb0
  obtain ⟨w1, hw1⟩ : ∃ w1, w1 = (w.alloc (.cells cs 29)).alloc (.cells st0 29) := ⟨_, rfl⟩
  obtain ⟨gs, hgs⟩ : ∃ g, g = w.heap.size := ⟨_, rfl⟩
  obtain ⟨gr, hgr⟩ : ∃ g, g = gs + 1 := ⟨_, rfl⟩
  rw [← hw1] at hs1 hr1 hbw
  rw [← hgs] at hs1 hr1
  rw [← hgr] at hr1
  show Code.wp _ _ _ _ ((w.alloc (.cells cs 29)).alloc (.cells st0 29))
  rw [← hw1, ← hgs, ← hgr]
  have HG := Lib.hid (show w.heap.size ≤ gr ∧ gs ≠ gr by omega)
  have HW := Lib.hid (show NW w gs cs w1 from ⟨hbw, hs1⟩)
  have HR1 := Lib.hid hr1
  clear hw1 hb0 hb1 hgs hgr hs1 hr1 hbw
  have HInv := Lib.hid (invL_code A n c l w1.drew (HE.out.grow (HW.out.keep (Below.refl _ _).drew).b) HM.out)
  clear hz
  refine wp_region_held_drew (S := fun W => NW w gs cs W) (by kernel_rfl) (show NW w gs cs w1.drew from HW.out.keep (Below.refl _ _).drew) (fun hHeld => ?_)
  refine wpAnyH_take (i := 0) (v := .agg cs) rfl (by kernel_rfl) (by kernel_rfl) (by kernel_rfl) (fun _ _ _ h => h) (yields_st (by rfl) (.tmp 2) rfl gs rfl cs hcs (fun W hW => hW.a)) hHeld ?_
  simp only [Act.put, List.getElem_toArray, List.getElem_cons_zero, List.getElem_cons_succ, List.setIfInBounds_toArray, List.set_cons_zero, List.set_cons_succ]
  refine wpAnyH_take (i := 1) (v := ?_) rfl (by kernel_rfl) (by kernel_rfl) (by kernel_rfl) (fun _ _ _ h => h) (Or.inl ⟨by rfl, ?_⟩) hHeld ?_
  rotate_left
  · (intro w hSw; go_simp; (try with_reducible rfl))
  simp only [Act.put, List.getElem_toArray, List.getElem_cons_zero, List.getElem_cons_succ, List.setIfInBounds_toArray, List.set_cons_zero, List.set_cons_succ]
  refine wpAnyH_ready (rs := [2]) (by kernel_rfl) (by simp) ?_
  refine AllReadyH.cons rfl (fun K hK => ?_) AllReadyH.nil
  simp only [List.getElem_toArray, List.getElem_cons_zero, List.getElem_cons_succ]
  go_simp
  refine HInv.out.mono ?_
  rintro en wF ⟨A6, c6, rfl, hc6, hV6, hb6⟩
  have hbF := keepB hb6 (Below.refl w1.heap.size w1).drew
  go_wp2_with fail
  have hHeld := hHeld.keep hb6
  refine hK.out _ _ hHeld (fun _ => ?_)
  clear hK K
  try simp only [Act.put, List.setIfInBounds_toArray, List.set_cons_zero, List.set_cons_succ]
  refine wpAnyH_ready (rs := [3]) (by kernel_rfl) (by simp) ?_
  refine AllReadyH.cons rfl (fun K hK => ?_) AllReadyH.nil
  simp only [List.getElem_toArray, List.getElem_cons_zero, List.getElem_cons_succ]
  go_simp
  have hrn := run_code s O L cs A6 n c6 (invL l) wF (hHeld.reads H.out) HLL.out.1 HLL.out.2 hV6 HM.out
  unfold RnP at hrn
  obtain ⟨r, hr⟩ : ∃ r, r = runS s (invL l) := ⟨_, rfl⟩
  rw [← hr] at hrn
  have HRr := Lib.hid hr
  clear hr
  refine hrn.mono ?_
  rintro en wG ⟨cM, OM, LM, rfl, hNM, hb7⟩
  clear hrn
  go_wp2_with fail
  have HGF := Lib.hid (show gr < wF.heap.size from Nat.lt_of_lt_of_le HR1.out.lt hbF.size)
  have hcM := hNM.now.size
  have honeM := hNM.now.one
  have hbG := keepB hb7 hbF
  have hHeld := hHeld.keep hb7
  refine hK.out _ _ hHeld (fun _ => ?_)
  clear hK K
  try simp only [Act.put, List.setIfInBounds_toArray, List.set_cons_zero, List.set_cons_succ]
  refine wpAnyH_take (i := 4) (v := ?_) rfl (by kernel_rfl) (by kernel_rfl) (by kernel_rfl) (fun _ _ _ h => h) (Or.inl ⟨by rfl, ?_⟩) hHeld ?_
  rotate_left
  · (intro w hSw; go_simp; (try with_reducible rfl))
  simp only [Act.put, List.getElem_toArray, List.getElem_cons_zero, List.getElem_cons_succ, List.setIfInBounds_toArray, List.set_cons_zero, List.set_cons_succ]
  refine wpAnyH_take (i := 5) (v := ?_) rfl (by kernel_rfl) (by kernel_rfl) (by kernel_rfl) (fun _ _ _ h => h) (Or.inl ⟨by rfl, ?_⟩) hHeld ?_
  rotate_left
  · (intro w hSw; go_simp; (try with_reducible rfl))
  simp only [Act.put, List.getElem_toArray, List.getElem_cons_zero, List.getElem_cons_succ, List.setIfInBounds_toArray, List.set_cons_zero, List.set_cons_succ]
  refine wpAnyH_take (i := 6) (v := ?_) rfl (by kernel_rfl) (by kernel_rfl) (by kernel_rfl) (fun _ _ _ h => h) (Or.inl ⟨by rfl, ?_⟩) hHeld ?_
  rotate_left
  · (intro w hSw; go_simp; (try with_reducible rfl))
  simp only [Act.put, List.getElem_toArray, List.getElem_cons_zero, List.getElem_cons_succ, List.setIfInBounds_toArray, List.set_cons_zero, List.set_cons_succ]
  have haN : wG.heap[gr]? = some (.cells st0 29 (0, 0)) := HR1.out.keep hbG
  refine wpAnyH_ready (rs := [7]) (by kernel_rfl) (by simp) ?_
  refine AllReadyH.cons rfl (fun K hK => ?_) AllReadyH.nil
  simp only [List.getElem_toArray, List.getElem_cons_zero, List.getElem_cons_succ]
  refine wp_store_row 29 (.tmp 4) (.tmp 11) rfl gr _ rfl rfl 29 _ haN (by rw [hcM]; exact size37) (by rw [hcM]; exact stC_size _ _ _ _) honeM ?_
  have hHeld := hHeld.row HG.out.1 HG.out.2 cM
  have HF := Lib.hid (show ReadsN w.heap.size (wG.setRow gr cM) cM r.1 OM LM ∧ Below w.heap.size w (wG.setRow gr cM) from ⟨(hNM.row HGF.out cM).low (Nat.le_of_lt (Nat.lt_of_le_of_lt HG.out.1 HGF.out)), hHeld.b⟩)
  refine hK.out _ _ hHeld (fun _ => ?_)
  clear hK K
  try simp only [Act.put, List.setIfInBounds_toArray, List.set_cons_zero, List.set_cons_succ]
  refine wpAnyH_take (i := 8) (v := ?_) rfl (by kernel_rfl) (by kernel_rfl) (by kernel_rfl) (fun _ _ _ h => h) (Or.inl ⟨by rfl, ?_⟩) hHeld ?_
  rotate_left
  · (intro w hSw; go_simp; (try with_reducible rfl))
  simp only [Act.put, List.getElem_toArray, List.getElem_cons_zero, List.getElem_cons_succ, List.setIfInBounds_toArray, List.set_cons_zero, List.set_cons_succ]
  refine wpAnyH_take (i := 9) (v := ?_) rfl (by kernel_rfl) (by kernel_rfl) (by kernel_rfl) (fun _ _ _ h => h) (Or.inl ⟨by rfl, ?_⟩) hHeld ?_
  rotate_left
  · (intro w hSw; go_simp; (try with_reducible rfl))
  simp only [Act.put, List.getElem_toArray, List.getElem_cons_zero, List.getElem_cons_succ, List.setIfInBounds_toArray, List.set_cons_zero, List.set_cons_succ]
  refine wpAnyH_done (by kernel_rfl) ?_ _
  have hsz : (Try.prog.info? 29).map (·.size) = some cM.size := by rw [hcM]; exact size37
  clear hHeld hb6 hb7 hbF hbG hV6 hc6 HInv
  go_wp2_with fail
  refine bodyPost_ret (v := .tuple #[.agg cM, .int .i64 (r.2.1 : Int), errV r.2.2]) ?_ rfl ⟨cM, OM, LM, by rw [← HRr.out], by rw [← HRr.out]; exact HF.out.1, HF.out.2⟩
  exact results_cell_tmp2 (ty := 29) (p := 4) (q := 5) (r := 6) (by kernel_rfl) _ _ gr 29 _ (0, 0) _ rfl (setRow_heap _ _ _ _ _ _ haN) Try.underlying29 rfl hsz
end Go.Proofs.Ytmneajmedopheaa
