/- Layer 12: the reference's Invert. -/
import Derived.Test.YtmhabodijmnldaaDoorEvT
import Derived.Test.YtmhabodijmnldaaDoorReg
import Derived.Deep.Cut
import Derived.WalkMore
namespace Go.Proofs.YtmhabodijmnldaaDoor
open Go.RowKit Ex
set_option maxRecDepth 100000
/-- An event's six cells. -/
def evC (e : EvT) : Array Value := #[.int .i64 e.k, .int .i64 e.a, .int .i64 e.b, .int .i64 e.c, .int .i64 e.d, .int .i64 e.e]
def EvB (w : World) (g : Nat) (e : EvT) : Prop := w.heap[g]? = some (.cells (evC e) 53 (0, 0))
theorem evC_one (e : EvT) : (evC e).all (·.oneCell') = true := by simp [evC, Value.oneCell']
theorem ev_size (e : EvT) : (Tryd.prog.info? 53).map (·.size) = some (evC e).size := by kernel_rfl
def ev0 : EvT := ⟨0, 0, 0, 0, 0, 0⟩
theorem ev_box (wr : World) (e : EvT) : ∃ w3, w3 = (wr.alloc (.cells (evC ev0) 53)).setRow wr.heap.size (evC e) ∧ EvB w3 wr.heap.size e ∧ Below wr.heap.size wr w3 := by
  refine ⟨_, rfl, ?_, below_setRow ((Below.refl _ _).alloc (Nat.le_refl _) _) _ _ (Nat.le_refl _)⟩
  unfold EvB
  exact setRow_heap _ _ _ _ _ _ (heap_alloc_new _ _)
theorem ev0_is : #[Value.int .i64 0, .int .i64 0, .int .i64 0, .int .i64 0, .int .i64 0, .int .i64 0] = evC ev0 := rfl
theorem EvB.cells {w : World} {g : Nat} {e : EvT} (h : EvB w g e) : w.cell? ⟨g, 0, none⟩ = some (.int .i64 e.k) ∧ w.cell? ⟨g, 1, none⟩ = some (.int .i64 e.a) ∧ w.cell? ⟨g, 2, none⟩ = some (.int .i64 e.b) ∧ w.cell? ⟨g, 3, none⟩ = some (.int .i64 e.c) ∧ w.cell? ⟨g, 4, none⟩ = some (.int .i64 e.d) ∧ w.cell? ⟨g, 5, none⟩ = some (.int .i64 e.e) :=
  ⟨cell_of_row w g 0 _ _ _ h, cell_of_row w g 1 _ _ _ h, cell_of_row w g 2 _ _ _ h, cell_of_row w g 3 _ _ _ h, cell_of_row w g 4 _ _ _ h, cell_of_row w g 5 _ _ _ h⟩
theorem EvB.lt {w : World} {g : Nat} {e : EvT} (h : EvB w g e) : g < w.heap.size := (Array.getElem?_eq_some_iff.1 h).1
theorem EvB.keep {w w' : World} {g : Nat} {e : EvT} (h : EvB w g e) (hb : Below w.heap.size w w') : EvB w' g e := (hb.block g h.lt).trans h
theorem results_cellE {P : Program} {fn : Func} {p : Tmp} {ty : TypeId} (h : fn.results = #[.cell p ty]) (tmps : Array Value) (w : World) (g : Nat) (t : TypeId) (cs : Array Value) (fr : Nat × Nat) (d : TypeDesc)
    (hp : tmps.getD p undef = .pointer (some ⟨g, 0, none⟩)) (hg : w.heap[g]? = some (.cells cs t fr))
    (hu : P.underlying ty = some d) (hd : (match d with | .struct _ | .array _ _ => true | _ => false) = true) (hi : (P.info? ty).map (·.size) = some cs.size) :
    (results fn tmps).run P w = .ok (.agg cs) w := by
  have hp' : tmps[p]?.getD undef = .pointer (some ⟨g, 0, none⟩) := by simpa using hp
  simp [results, h, hp', asAddr, run_loadVar_row w g t ty cs fr d hg hu hd hi]
theorem EvB.set_ {w : World} {g : Nat} {e e' : EvT} (h : EvB w g e) (i : Nat) (v : Value) (he : (evC e).setIfInBounds i v = evC e') : EvB (w.setCell ⟨g, i, none⟩ v) g e' := by
  unfold EvB
  rw [heap_setCell_same w g i _ _ _ h, he]
theorem EvB.far {w : World} {g g' : Nat} {e : EvT} (h : EvB w g e) (hg : g ≠ g') (i : Nat) (v : Value) : EvB (w.setCell ⟨g', i, none⟩ v) g e :=
  (heap_setCell_other w ⟨g', i, none⟩ g v (by simpa using hg)).trans h
set_option linter.unusedSimpArgs false in
set_option maxHeartbeats 0 in
theorem invRef_any (e : EvT) (w : World) : Calls Tryd.prog 19 #[evV e] w fun en w' => en = .returned (evV (invE e)) ∧ Below w.heap.size w w' := by
  obtain ⟨k, a, b, c, d, f⟩ := e
  unfold evV
  simp only
  go_enter Tryd.func19, Tryd.ntmps19
  go_upto_region 1 with fail
  obtain ⟨w2, hw2⟩ : ∃ w2, w2 = (w.alloc (.cells (evC ⟨k, a, b, c, d, f⟩) 53)).alloc (.cells (evC ev0) 53) := ⟨_, rfl⟩
  have hb1 : Below (w.alloc (.cells (evC ⟨k, a, b, c, d, f⟩) 53)).heap.size (w.alloc (.cells (evC ⟨k, a, b, c, d, f⟩) 53)) w2 := by rw [hw2]; exact (Below.refl _ _).alloc (Nat.le_refl _) _
  have hb0 : Below w.heap.size w (w.alloc (.cells (evC ⟨k, a, b, c, d, f⟩) 53)) := (Below.refl _ _).alloc (Nat.le_refl _) _
  have hE1 : EvB w2 w.heap.size ⟨k, a, b, c, d, f⟩ := EvB.keep (heap_alloc_new _ _) hb1
  have hE2 : EvB w2 (w.heap.size + 1) ev0 := by rw [hw2]; have := heap_alloc_new (w.alloc (.cells (evC ⟨k, a, b, c, d, f⟩) 53)) (.cells (evC ev0) 53); rwa [World.size_alloc] at this
  have hb2 := keepB hb1 hb0
  show Code.wp _ _ _ _ ((w.alloc (.cells (evC ⟨k, a, b, c, d, f⟩) 53)).alloc (.cells (evC ev0) 53))
  rw [← hw2]
  have hsz2 : w.heap.size + 1 < w2.heap.size := by rw [hw2]; simp
  clear hw2 hb1 hb0
  have hsz := ev_size ⟨k, a, b, c, d, f⟩
  have hone := evC_one ⟨k, a, b, c, d, f⟩
  have hs6 : (evC ev0).size = (evC ⟨k, a, b, c, d, f⟩).size := rfl
  have hz6 := ev0_is
  have hnew : (w2.alloc (.cells (evC ev0) 53)).heap[w2.heap.size]? = some (.cells (evC ev0) 53 (0, 0)) := heap_alloc_new _ _
  obtain ⟨es, hes⟩ : ∃ es, es = evC ⟨k, a, b, c, d, f⟩ := ⟨_, rfl⟩
  have HEs := Lib.hid hes
  have hE1' : w2.heap[w.heap.size]? = some (.cells es 53 (0, 0)) := by rw [hes]; exact hE1
  rw [← hes] at hsz hone hs6
  clear hes
  go_upto_region 2 with (first
    | (refine wpList_load_row rfl 53 (.tmp 1) rfl w.heap.size rfl 53 _ (0, 0) _ hE1' Tryd.underlying53 rfl hsz ?_)
    | (refine wpList_store_row rfl 53 (.tmp 3) (.tmp 4) rfl w2.heap.size _ rfl rfl 53 (evC ev0) hnew hsz hs6 hone ?_))
  rw [HEs.out]
  obtain ⟨w3, hw3, hE3, hb3⟩ := ev_box w2 ⟨k, a, b, c, d, f⟩
  rw [← hw3]
  replace hE1 := hE1.keep hb3
  replace hE2 := hE2.keep hb3
  have hl2 := hE2.lt
  have hlw := hb2.size
  have hlt2 : w.heap.size + 1 < w2.heap.size := by have : w.heap.size + 1 < w2.heap.size := hsz2; exact this
  replace hb3 := keepB hb3 hb2
  obtain ⟨g1, hg1⟩ : ∃ g1, g1 = w.heap.size := ⟨_, rfl⟩
  obtain ⟨g2, hg2⟩ : ∃ g2, g2 = w.heap.size + 1 := ⟨_, rfl⟩
  obtain ⟨g3, hg3⟩ : ∃ g3, g3 = w2.heap.size := ⟨_, rfl⟩
  have h12 : g1 < g2 := by omega
  have h23 : g2 < g3 := by omega
  have hwg2 : w.heap.size ≤ g2 := by omega
  have hwg3 : w.heap.size ≤ g3 := by omega
  rw [← hg2] at hE2
  rw [← hg3] at hE3
  rw [← hg1] at hE1
  rw [← hg1, show g1 + 1 = g2 by omega, ← hg3]
  clear hw3 hg1 hg2 hg3 hnew hE1' hs6 hone hsz HEs hb2 hl2 hlw hlt2 hsz2 hz6
  obtain ⟨c0, c1, c2, c3, c4, c5⟩ := hE1.cells
  obtain ⟨d0, d1, d2, d3, d4, d5⟩ := hE3.cells
  have f0 := frozen_of_row w3 g3 0 _ _ hE3
  simp only at c0 c1 c2 c3 c4 c5 d0 d1 d2 d3 d4 d5
  by_cases hk0 : k = 0
  · subst hk0
    have HI := Lib.hid (show invE ⟨0, a, b, c, d, f⟩ = ⟨5, a, b, c, d, f⟩ from rfl)
    have hS := hE3.set_ 0 (.int .i64 5) (e' := ⟨5, a, b, c, d, f⟩) rfl
    have hZ := hE2.far (show g2 ≠ g3 by omega) 0 (.int .i64 5)
    have hbS := hb3.setCell (p := ⟨g3, 0, none⟩) (show w.heap.size ≤ g3 from hwg3) (.int .i64 5)
    go_upto_region 13 with fail
    have hsz3 := ev_size (⟨5, a, b, c, d, f⟩)
    have hone3 := evC_one (⟨5, a, b, c, d, f⟩)
    have hs36 : (evC ev0).size = (evC (⟨5, a, b, c, d, f⟩)).size := rfl
    clear c0 c1 c2 c3 c4 c5 d0 d1 d2 d3 d4 d5 f0
    obtain ⟨es, hes⟩ : ∃ es, es = evC (⟨5, a, b, c, d, f⟩) := ⟨_, rfl⟩
    have HEs := Lib.hid hes
    unfold EvB at hS hZ
    rw [← hes] at hS hsz3 hone3 hs36
    clear hes
    go_wp2_with (first
      | (refine wpList_load_row rfl 53 (.tmp 3) rfl g3 rfl 53 _ (0, 0) _ hS Tryd.underlying53 rfl hsz3 ?_)
      | (refine wpList_store_row rfl 53 (.tmp 2) (.tmp 37) rfl g2 _ rfl rfl 53 (evC ev0) hZ hsz3 hs36 hone3 ?_))
    refine bodyPost_ret (v := .agg es) ?_ rfl ⟨by rw [HI.out, HEs.out]; rfl, below_setRow hbS _ _ hwg2⟩
    exact results_cellE (ty := 53) (p := 2) (by kernel_rfl) _ _ g2 53 _ (0, 0) _ rfl (setRow_heap _ _ _ _ _ _ hZ) Tryd.underlying53 rfl hsz3
  by_cases hk5 : k = 5
  · subst hk5
    have HI := Lib.hid (show invE ⟨5, a, b, c, d, f⟩ = ⟨0, a, b, c, d, f⟩ from rfl)
    have hS := hE3.set_ 0 (.int .i64 0) (e' := ⟨0, a, b, c, d, f⟩) rfl
    have hZ := hE2.far (show g2 ≠ g3 by omega) 0 (.int .i64 0)
    have hbS := hb3.setCell (p := ⟨g3, 0, none⟩) (show w.heap.size ≤ g3 from hwg3) (.int .i64 0)
    go_upto_region 13 with fail
    have hsz3 := ev_size (⟨0, a, b, c, d, f⟩)
    have hone3 := evC_one (⟨0, a, b, c, d, f⟩)
    have hs36 : (evC ev0).size = (evC (⟨0, a, b, c, d, f⟩)).size := rfl
    clear c0 c1 c2 c3 c4 c5 d0 d1 d2 d3 d4 d5 f0
    obtain ⟨es, hes⟩ : ∃ es, es = evC (⟨0, a, b, c, d, f⟩) := ⟨_, rfl⟩
    have HEs := Lib.hid hes
    unfold EvB at hS hZ
    rw [← hes] at hS hsz3 hone3 hs36
    clear hes
    go_wp2_with (first
      | (refine wpList_load_row rfl 53 (.tmp 3) rfl g3 rfl 53 _ (0, 0) _ hS Tryd.underlying53 rfl hsz3 ?_)
      | (refine wpList_store_row rfl 53 (.tmp 2) (.tmp 37) rfl g2 _ rfl rfl 53 (evC ev0) hZ hsz3 hs36 hone3 ?_))
    refine bodyPost_ret (v := .agg es) ?_ rfl ⟨by rw [HI.out, HEs.out]; rfl, below_setRow hbS _ _ hwg2⟩
    exact results_cellE (ty := 53) (p := 2) (by kernel_rfl) _ _ g2 53 _ (0, 0) _ rfl (setRow_heap _ _ _ _ _ _ hZ) Tryd.underlying53 rfl hsz3
  have n0 : (k == 0) = false := beq_eq_false_iff_ne.2 hk0
  have n5 : (k == 5) = false := beq_eq_false_iff_ne.2 hk5
  by_cases hk1 : k = 1
  · subst hk1
    go_upto_region 8 with fail
    have HI := Lib.hid (show invE ⟨1, a, b, c, d, f⟩ = ⟨1, a, d, f, b, c⟩ from rfl)
    have hA := hE3.set_ 2 (.int .i64 d) (e' := ⟨1, a, d, c, d, f⟩) rfl
    have hB := hA.set_ 3 (.int .i64 f) (e' := ⟨1, a, d, f, d, f⟩) rfl
    have hC := hB.set_ 4 (.int .i64 b) (e' := ⟨1, a, d, f, b, f⟩) rfl
    have hS := hC.set_ 5 (.int .i64 c) (e' := ⟨1, a, d, f, b, c⟩) rfl
    have hZ := (((hE2.far (show g2 ≠ g3 by omega) 2 (.int .i64 d)).far (show g2 ≠ g3 by omega) 3 (.int .i64 f)).far (show g2 ≠ g3 by omega) 4 (.int .i64 b)).far (show g2 ≠ g3 by omega) 5 (.int .i64 c)
    have hbS := (((hb3.setCell (p := ⟨g3, 2, none⟩) (show w.heap.size ≤ g3 from hwg3) (.int .i64 d)).setCell (p := ⟨g3, 3, none⟩) (show w.heap.size ≤ g3 from hwg3) (.int .i64 f)).setCell (p := ⟨g3, 4, none⟩) (show w.heap.size ≤ g3 from hwg3) (.int .i64 b)).setCell (p := ⟨g3, 5, none⟩) (show w.heap.size ≤ g3 from hwg3) (.int .i64 c)
    replace hbS := hbS.drew
    have e1 := hE1.far (show g1 ≠ g3 by omega) 2 (.int .i64 d)
    have e2 := e1.far (show g1 ≠ g3 by omega) 3 (.int .i64 f)
    have e3 := e2.far (show g1 ≠ g3 by omega) 4 (.int .i64 b)
    have e4 := e3.far (show g1 ≠ g3 by omega) 5 (.int .i64 c)
    have x2 := hE3.cells.2.2.1
    have y2 := frozen_of_row w3 g3 2 _ _ hE3
    have x3 := hA.cells.2.2.2.1
    have y3 := frozen_of_row _ g3 3 _ _ hA
    have x4 := hB.cells.2.2.2.2.1
    have y4 := frozen_of_row _ g3 4 _ _ hB
    have x5 := hC.cells.2.2.2.2.2
    have y5 := frozen_of_row _ g3 5 _ _ hC
    have l2 : ∀ W, EvB W g1 ⟨1, a, b, c, d, f⟩ → W.cell? ⟨g1, 2, none⟩ = some (.int .i64 b) := fun W h => h.cells.2.2.1
    have l3 : ∀ W, EvB W g1 ⟨1, a, b, c, d, f⟩ → W.cell? ⟨g1, 3, none⟩ = some (.int .i64 c) := fun W h => h.cells.2.2.2.1
    have l4 : ∀ W, EvB W g1 ⟨1, a, b, c, d, f⟩ → W.cell? ⟨g1, 4, none⟩ = some (.int .i64 d) := fun W h => h.cells.2.2.2.2.1
    have l5 : ∀ W, EvB W g1 ⟨1, a, b, c, d, f⟩ → W.cell? ⟨g1, 5, none⟩ = some (.int .i64 f) := fun W h => h.cells.2.2.2.2.2
    refine wp_region_held_drew (S := fun W => EvB W g1 ⟨1, a, b, c, d, f⟩) (by kernel_rfl) (show EvB w3.drew g1 _ from hE1) (fun hHeld => ?_)
    refine wpAnyH_take (i := 0) (v := ?_) rfl (by kernel_rfl) (by kernel_rfl) (by kernel_rfl) (fun _ _ _ h => h) (Or.inl ⟨by rfl, ?_⟩) hHeld ?_
    rotate_left
    · (intro w hSw; go_simp; (try with_reducible rfl))
    simp only [Act.put, List.getElem_toArray, List.getElem_cons_zero, List.getElem_cons_succ, List.setIfInBounds_toArray, List.set_cons_zero, List.set_cons_succ]
    refine wpAnyH_take (i := 1) (v := ?_) rfl (by kernel_rfl) (by kernel_rfl) (by kernel_rfl) (fun _ _ _ h => h) (Or.inl ⟨by rfl, ?_⟩) hHeld ?_
    rotate_left
    · (intro w hSw; go_simp; (try with_reducible rfl))
    simp only [Act.put, List.getElem_toArray, List.getElem_cons_zero, List.getElem_cons_succ, List.setIfInBounds_toArray, List.set_cons_zero, List.set_cons_succ]
    refine wpAnyH_take (i := 2) (v := ?_) rfl (by kernel_rfl) (by kernel_rfl) (by kernel_rfl) (fun _ _ _ h => h) (Or.inl ⟨by rfl, ?_⟩) hHeld ?_
    rotate_left
    · (intro w hSw; go_simp; (try with_reducible rfl))
    simp only [Act.put, List.getElem_toArray, List.getElem_cons_zero, List.getElem_cons_succ, List.setIfInBounds_toArray, List.set_cons_zero, List.set_cons_succ]
    refine wpAnyH_take (i := 3) (v := ?_) rfl (by kernel_rfl) (by kernel_rfl) (by kernel_rfl) (fun _ _ _ h => h) (Or.inl ⟨by rfl, ?_⟩) hHeld ?_
    rotate_left
    · (intro w hSw; go_simp; (try with_reducible rfl))
    simp only [Act.put, List.getElem_toArray, List.getElem_cons_zero, List.getElem_cons_succ, List.setIfInBounds_toArray, List.set_cons_zero, List.set_cons_succ]
    refine wpAnyH_take (i := 4) (v := ?_) rfl (by kernel_rfl) (by kernel_rfl) (by kernel_rfl) (fun _ _ _ h => h) (Or.inl ⟨by rfl, ?_⟩) hHeld ?_
    rotate_left
    · (intro w hSw; go_simp; (try with_reducible rfl))
    simp only [Act.put, List.getElem_toArray, List.getElem_cons_zero, List.getElem_cons_succ, List.setIfInBounds_toArray, List.set_cons_zero, List.set_cons_succ]
    refine wpAnyH_take (i := 5) (v := ?_) rfl (by kernel_rfl) (by kernel_rfl) (by kernel_rfl) (fun _ _ _ h => h) (Or.inl ⟨by rfl, ?_⟩) hHeld ?_
    rotate_left
    · (intro w hSw; go_simp; (try with_reducible rfl))
    simp only [Act.put, List.getElem_toArray, List.getElem_cons_zero, List.getElem_cons_succ, List.setIfInBounds_toArray, List.set_cons_zero, List.set_cons_succ]
    refine wpAnyH_take (i := 6) (v := ?_) rfl (by kernel_rfl) (by kernel_rfl) (by kernel_rfl) (fun _ _ _ h => h) (Or.inl ⟨by rfl, ?_⟩) hHeld ?_
    rotate_left
    · (intro w hSw; go_simp; (try with_reducible rfl))
    simp only [Act.put, List.getElem_toArray, List.getElem_cons_zero, List.getElem_cons_succ, List.setIfInBounds_toArray, List.set_cons_zero, List.set_cons_succ]
    refine wpAnyH_take (i := 7) (v := ?_) rfl (by kernel_rfl) (by kernel_rfl) (by kernel_rfl) (fun _ _ _ h => h) (Or.inl ⟨by rfl, ?_⟩) hHeld ?_
    rotate_left
    · (intro w hSw; go_simp; (try with_reducible rfl))
    simp only [Act.put, List.getElem_toArray, List.getElem_cons_zero, List.getElem_cons_succ, List.setIfInBounds_toArray, List.set_cons_zero, List.set_cons_succ]
    refine wpAnyH_take (i := 8) (v := ?_) rfl (by kernel_rfl) (by kernel_rfl) (by kernel_rfl) (fun _ _ _ h => h) (Or.inl ⟨by rfl, ?_⟩) hHeld ?_
    rotate_left
    · (intro w hSw; go_simp; (try with_reducible rfl))
    simp only [Act.put, List.getElem_toArray, List.getElem_cons_zero, List.getElem_cons_succ, List.setIfInBounds_toArray, List.set_cons_zero, List.set_cons_succ]
    refine wpAnyH_ready (rs := [9]) (by kernel_rfl) (by simp) ?_
    refine AllReadyH.cons rfl (fun K hK => ?_) AllReadyH.nil
    simp only [List.getElem_toArray, List.getElem_cons_zero, List.getElem_cons_succ]
    go_simp
    refine hK.out _ _ e1 (fun _ => ?_)
    try simp only [Act.put, List.setIfInBounds_toArray, List.set_cons_zero, List.set_cons_succ]
    clear hK K
    replace hHeld := e1
    refine wpAnyH_take (i := 10) (v := ?_) rfl (by kernel_rfl) (by kernel_rfl) (by kernel_rfl) (fun _ _ _ h => h) (Or.inl ⟨by rfl, ?_⟩) hHeld ?_
    rotate_left
    · (intro w hSw; go_simp; (try with_reducible rfl))
    simp only [Act.put, List.getElem_toArray, List.getElem_cons_zero, List.getElem_cons_succ, List.setIfInBounds_toArray, List.set_cons_zero, List.set_cons_succ]
    refine wpAnyH_ready (rs := [11]) (by kernel_rfl) (by simp) ?_
    refine AllReadyH.cons rfl (fun K hK => ?_) AllReadyH.nil
    simp only [List.getElem_toArray, List.getElem_cons_zero, List.getElem_cons_succ]
    go_simp
    refine hK.out _ _ e2 (fun _ => ?_)
    try simp only [Act.put, List.setIfInBounds_toArray, List.set_cons_zero, List.set_cons_succ]
    clear hK K
    replace hHeld := e2
    refine wpAnyH_take (i := 12) (v := ?_) rfl (by kernel_rfl) (by kernel_rfl) (by kernel_rfl) (fun _ _ _ h => h) (Or.inl ⟨by rfl, ?_⟩) hHeld ?_
    rotate_left
    · (intro w hSw; go_simp; (try with_reducible rfl))
    simp only [Act.put, List.getElem_toArray, List.getElem_cons_zero, List.getElem_cons_succ, List.setIfInBounds_toArray, List.set_cons_zero, List.set_cons_succ]
    refine wpAnyH_ready (rs := [13]) (by kernel_rfl) (by simp) ?_
    refine AllReadyH.cons rfl (fun K hK => ?_) AllReadyH.nil
    simp only [List.getElem_toArray, List.getElem_cons_zero, List.getElem_cons_succ]
    go_simp
    refine hK.out _ _ e3 (fun _ => ?_)
    try simp only [Act.put, List.setIfInBounds_toArray, List.set_cons_zero, List.set_cons_succ]
    clear hK K
    replace hHeld := e3
    refine wpAnyH_take (i := 14) (v := ?_) rfl (by kernel_rfl) (by kernel_rfl) (by kernel_rfl) (fun _ _ _ h => h) (Or.inl ⟨by rfl, ?_⟩) hHeld ?_
    rotate_left
    · (intro w hSw; go_simp; (try with_reducible rfl))
    simp only [Act.put, List.getElem_toArray, List.getElem_cons_zero, List.getElem_cons_succ, List.setIfInBounds_toArray, List.set_cons_zero, List.set_cons_succ]
    refine wpAnyH_ready (rs := [15]) (by kernel_rfl) (by simp) ?_
    refine AllReadyH.cons rfl (fun K hK => ?_) AllReadyH.nil
    simp only [List.getElem_toArray, List.getElem_cons_zero, List.getElem_cons_succ]
    go_simp
    refine hK.out _ _ e4 (fun _ => ?_)
    try simp only [Act.put, List.setIfInBounds_toArray, List.set_cons_zero, List.set_cons_succ]
    clear hK K
    replace hHeld := e4
    refine wpAnyH_done (by kernel_rfl) ?_ _
    clear hA hB hC e1 e2 e3 e4 x2 y2 x3 y3 x4 y4 x5 y5 l2 l3 l4 l5 hHeld
    go_upto_region 13 with fail
    have hsz3 := ev_size (⟨1, a, d, f, b, c⟩)
    have hone3 := evC_one (⟨1, a, d, f, b, c⟩)
    have hs36 : (evC ev0).size = (evC (⟨1, a, d, f, b, c⟩)).size := rfl
    clear c0 c1 c2 c3 c4 c5 d0 d1 d2 d3 d4 d5 f0
    obtain ⟨es, hes⟩ : ∃ es, es = evC (⟨1, a, d, f, b, c⟩) := ⟨_, rfl⟩
    have HEs := Lib.hid hes
    unfold EvB at hS hZ
    rw [← hes] at hS hsz3 hone3 hs36
    clear hes
    go_wp2_with (first
      | (refine wpList_load_row rfl 53 (.tmp 3) rfl g3 rfl 53 _ (0, 0) _ hS Tryd.underlying53 rfl hsz3 ?_)
      | (refine wpList_store_row rfl 53 (.tmp 2) (.tmp 37) rfl g2 _ rfl rfl 53 (evC ev0) hZ hsz3 hs36 hone3 ?_))
    refine bodyPost_ret (v := .agg es) ?_ rfl ⟨by rw [HI.out, HEs.out]; rfl, below_setRow hbS _ _ hwg2⟩
    exact results_cellE (ty := 53) (p := 2) (by kernel_rfl) _ _ g2 53 _ (0, 0) _ rfl (setRow_heap _ _ _ _ _ _ hZ) Tryd.underlying53 rfl hsz3
  have n1 : (k == 1) = false := beq_eq_false_iff_ne.2 hk1
  by_cases hk2 : k = 2 ∨ k = 3 ∨ k = 4
  · rcases hk2 with rfl | rfl | rfl
    · skip
      have HI := Lib.hid (show invE ⟨2, a, b, c, d, f⟩ = ⟨2, a, b, d, c, f⟩ from rfl)
      go_upto_region 12 with fail
      have hA := hE3.set_ 3 (.int .i64 d) (e' := ⟨2, a, b, d, d, f⟩) rfl
      have hS := hA.set_ 4 (.int .i64 c) (e' := ⟨2, a, b, d, c, f⟩) rfl
      have hZ := (hE2.far (show g2 ≠ g3 by omega) 3 (.int .i64 d)).far (show g2 ≠ g3 by omega) 4 (.int .i64 c)
      have hbS := (hb3.setCell (p := ⟨g3, 3, none⟩) (show w.heap.size ≤ g3 from hwg3) (.int .i64 d)).setCell (p := ⟨g3, 4, none⟩) (show w.heap.size ≤ g3 from hwg3) (.int .i64 c)
      replace hbS := hbS.drew
      have e1 := hE1.far (show g1 ≠ g3 by omega) 3 (.int .i64 d)
      have e2 := e1.far (show g1 ≠ g3 by omega) 4 (.int .i64 c)
      have x2 := hE3.cells.2.2.2.1
      have y2 := frozen_of_row w3 g3 3 _ _ hE3
      have x3 := hA.cells.2.2.2.2.1
      have y3 := frozen_of_row _ g3 4 _ _ hA
      have l3 : ∀ W, EvB W g1 ⟨2, a, b, c, d, f⟩ → W.cell? ⟨g1, 3, none⟩ = some (.int .i64 c) := fun W h => h.cells.2.2.2.1
      have l4 : ∀ W, EvB W g1 ⟨2, a, b, c, d, f⟩ → W.cell? ⟨g1, 4, none⟩ = some (.int .i64 d) := fun W h => h.cells.2.2.2.2.1
      refine wp_region_held_drew (S := fun W => EvB W g1 ⟨2, a, b, c, d, f⟩) (by kernel_rfl) (show EvB w3.drew g1 _ from hE1) (fun hHeld => ?_)
      refine wpAnyH_take (i := 0) (v := ?_) rfl (by kernel_rfl) (by kernel_rfl) (by kernel_rfl) (fun _ _ _ h => h) (Or.inl ⟨by rfl, ?_⟩) hHeld ?_
      rotate_left
      · (intro w hSw; go_simp; (try with_reducible rfl))
      simp only [Act.put, List.getElem_toArray, List.getElem_cons_zero, List.getElem_cons_succ, List.setIfInBounds_toArray, List.set_cons_zero, List.set_cons_succ]
      refine wpAnyH_take (i := 1) (v := ?_) rfl (by kernel_rfl) (by kernel_rfl) (by kernel_rfl) (fun _ _ _ h => h) (Or.inl ⟨by rfl, ?_⟩) hHeld ?_
      rotate_left
      · (intro w hSw; go_simp; (try with_reducible rfl))
      simp only [Act.put, List.getElem_toArray, List.getElem_cons_zero, List.getElem_cons_succ, List.setIfInBounds_toArray, List.set_cons_zero, List.set_cons_succ]
      refine wpAnyH_take (i := 2) (v := ?_) rfl (by kernel_rfl) (by kernel_rfl) (by kernel_rfl) (fun _ _ _ h => h) (Or.inl ⟨by rfl, ?_⟩) hHeld ?_
      rotate_left
      · (intro w hSw; go_simp; (try with_reducible rfl))
      simp only [Act.put, List.getElem_toArray, List.getElem_cons_zero, List.getElem_cons_succ, List.setIfInBounds_toArray, List.set_cons_zero, List.set_cons_succ]
      refine wpAnyH_take (i := 3) (v := ?_) rfl (by kernel_rfl) (by kernel_rfl) (by kernel_rfl) (fun _ _ _ h => h) (Or.inl ⟨by rfl, ?_⟩) hHeld ?_
      rotate_left
      · (intro w hSw; go_simp; (try with_reducible rfl))
      simp only [Act.put, List.getElem_toArray, List.getElem_cons_zero, List.getElem_cons_succ, List.setIfInBounds_toArray, List.set_cons_zero, List.set_cons_succ]
      refine wpAnyH_take (i := 4) (v := ?_) rfl (by kernel_rfl) (by kernel_rfl) (by kernel_rfl) (fun _ _ _ h => h) (Or.inl ⟨by rfl, ?_⟩) hHeld ?_
      rotate_left
      · (intro w hSw; go_simp; (try with_reducible rfl))
      simp only [Act.put, List.getElem_toArray, List.getElem_cons_zero, List.getElem_cons_succ, List.setIfInBounds_toArray, List.set_cons_zero, List.set_cons_succ]
      refine wpAnyH_ready (rs := [5]) (by kernel_rfl) (by simp) ?_
      refine AllReadyH.cons rfl (fun K hK => ?_) AllReadyH.nil
      simp only [List.getElem_toArray, List.getElem_cons_zero, List.getElem_cons_succ]
      go_simp
      refine hK.out _ _ e1 (fun _ => ?_)
      try simp only [Act.put, List.setIfInBounds_toArray, List.set_cons_zero, List.set_cons_succ]
      clear hK K
      replace hHeld := e1
      refine wpAnyH_take (i := 6) (v := ?_) rfl (by kernel_rfl) (by kernel_rfl) (by kernel_rfl) (fun _ _ _ h => h) (Or.inl ⟨by rfl, ?_⟩) hHeld ?_
      rotate_left
      · (intro w hSw; go_simp; (try with_reducible rfl))
      simp only [Act.put, List.getElem_toArray, List.getElem_cons_zero, List.getElem_cons_succ, List.setIfInBounds_toArray, List.set_cons_zero, List.set_cons_succ]
      refine wpAnyH_ready (rs := [7]) (by kernel_rfl) (by simp) ?_
      refine AllReadyH.cons rfl (fun K hK => ?_) AllReadyH.nil
      simp only [List.getElem_toArray, List.getElem_cons_zero, List.getElem_cons_succ]
      go_simp
      refine hK.out _ _ e2 (fun _ => ?_)
      try simp only [Act.put, List.setIfInBounds_toArray, List.set_cons_zero, List.set_cons_succ]
      clear hK K
      replace hHeld := e2
      refine wpAnyH_done (by kernel_rfl) ?_ _
      clear hA e1 e2 x2 y2 x3 y3 l3 l4 hHeld
      go_upto_region 13 with fail
      have hsz3 := ev_size (⟨2, a, b, d, c, f⟩)
      have hone3 := evC_one (⟨2, a, b, d, c, f⟩)
      have hs36 : (evC ev0).size = (evC (⟨2, a, b, d, c, f⟩)).size := rfl
      clear c0 c1 c2 c3 c4 c5 d0 d1 d2 d3 d4 d5 f0
      obtain ⟨es, hes⟩ : ∃ es, es = evC (⟨2, a, b, d, c, f⟩) := ⟨_, rfl⟩
      have HEs := Lib.hid hes
      unfold EvB at hS hZ
      rw [← hes] at hS hsz3 hone3 hs36
      clear hes
      go_wp2_with (first
        | (refine wpList_load_row rfl 53 (.tmp 3) rfl g3 rfl 53 _ (0, 0) _ hS Tryd.underlying53 rfl hsz3 ?_)
        | (refine wpList_store_row rfl 53 (.tmp 2) (.tmp 37) rfl g2 _ rfl rfl 53 (evC ev0) hZ hsz3 hs36 hone3 ?_))
      refine bodyPost_ret (v := .agg es) ?_ rfl ⟨by rw [HI.out, HEs.out]; rfl, below_setRow hbS _ _ hwg2⟩
      exact results_cellE (ty := 53) (p := 2) (by kernel_rfl) _ _ g2 53 _ (0, 0) _ rfl (setRow_heap _ _ _ _ _ _ hZ) Tryd.underlying53 rfl hsz3
    · skip
      have HI := Lib.hid (show invE ⟨3, a, b, c, d, f⟩ = ⟨3, a, b, d, c, f⟩ from rfl)
      go_upto_region 12 with fail
      have hA := hE3.set_ 3 (.int .i64 d) (e' := ⟨3, a, b, d, d, f⟩) rfl
      have hS := hA.set_ 4 (.int .i64 c) (e' := ⟨3, a, b, d, c, f⟩) rfl
      have hZ := (hE2.far (show g2 ≠ g3 by omega) 3 (.int .i64 d)).far (show g2 ≠ g3 by omega) 4 (.int .i64 c)
      have hbS := (hb3.setCell (p := ⟨g3, 3, none⟩) (show w.heap.size ≤ g3 from hwg3) (.int .i64 d)).setCell (p := ⟨g3, 4, none⟩) (show w.heap.size ≤ g3 from hwg3) (.int .i64 c)
      replace hbS := hbS.drew
      have e1 := hE1.far (show g1 ≠ g3 by omega) 3 (.int .i64 d)
      have e2 := e1.far (show g1 ≠ g3 by omega) 4 (.int .i64 c)
      have x2 := hE3.cells.2.2.2.1
      have y2 := frozen_of_row w3 g3 3 _ _ hE3
      have x3 := hA.cells.2.2.2.2.1
      have y3 := frozen_of_row _ g3 4 _ _ hA
      have l3 : ∀ W, EvB W g1 ⟨3, a, b, c, d, f⟩ → W.cell? ⟨g1, 3, none⟩ = some (.int .i64 c) := fun W h => h.cells.2.2.2.1
      have l4 : ∀ W, EvB W g1 ⟨3, a, b, c, d, f⟩ → W.cell? ⟨g1, 4, none⟩ = some (.int .i64 d) := fun W h => h.cells.2.2.2.2.1
      refine wp_region_held_drew (S := fun W => EvB W g1 ⟨3, a, b, c, d, f⟩) (by kernel_rfl) (show EvB w3.drew g1 _ from hE1) (fun hHeld => ?_)
      refine wpAnyH_take (i := 0) (v := ?_) rfl (by kernel_rfl) (by kernel_rfl) (by kernel_rfl) (fun _ _ _ h => h) (Or.inl ⟨by rfl, ?_⟩) hHeld ?_
      rotate_left
      · (intro w hSw; go_simp; (try with_reducible rfl))
      simp only [Act.put, List.getElem_toArray, List.getElem_cons_zero, List.getElem_cons_succ, List.setIfInBounds_toArray, List.set_cons_zero, List.set_cons_succ]
      refine wpAnyH_take (i := 1) (v := ?_) rfl (by kernel_rfl) (by kernel_rfl) (by kernel_rfl) (fun _ _ _ h => h) (Or.inl ⟨by rfl, ?_⟩) hHeld ?_
      rotate_left
      · (intro w hSw; go_simp; (try with_reducible rfl))
      simp only [Act.put, List.getElem_toArray, List.getElem_cons_zero, List.getElem_cons_succ, List.setIfInBounds_toArray, List.set_cons_zero, List.set_cons_succ]
      refine wpAnyH_take (i := 2) (v := ?_) rfl (by kernel_rfl) (by kernel_rfl) (by kernel_rfl) (fun _ _ _ h => h) (Or.inl ⟨by rfl, ?_⟩) hHeld ?_
      rotate_left
      · (intro w hSw; go_simp; (try with_reducible rfl))
      simp only [Act.put, List.getElem_toArray, List.getElem_cons_zero, List.getElem_cons_succ, List.setIfInBounds_toArray, List.set_cons_zero, List.set_cons_succ]
      refine wpAnyH_take (i := 3) (v := ?_) rfl (by kernel_rfl) (by kernel_rfl) (by kernel_rfl) (fun _ _ _ h => h) (Or.inl ⟨by rfl, ?_⟩) hHeld ?_
      rotate_left
      · (intro w hSw; go_simp; (try with_reducible rfl))
      simp only [Act.put, List.getElem_toArray, List.getElem_cons_zero, List.getElem_cons_succ, List.setIfInBounds_toArray, List.set_cons_zero, List.set_cons_succ]
      refine wpAnyH_take (i := 4) (v := ?_) rfl (by kernel_rfl) (by kernel_rfl) (by kernel_rfl) (fun _ _ _ h => h) (Or.inl ⟨by rfl, ?_⟩) hHeld ?_
      rotate_left
      · (intro w hSw; go_simp; (try with_reducible rfl))
      simp only [Act.put, List.getElem_toArray, List.getElem_cons_zero, List.getElem_cons_succ, List.setIfInBounds_toArray, List.set_cons_zero, List.set_cons_succ]
      refine wpAnyH_ready (rs := [5]) (by kernel_rfl) (by simp) ?_
      refine AllReadyH.cons rfl (fun K hK => ?_) AllReadyH.nil
      simp only [List.getElem_toArray, List.getElem_cons_zero, List.getElem_cons_succ]
      go_simp
      refine hK.out _ _ e1 (fun _ => ?_)
      try simp only [Act.put, List.setIfInBounds_toArray, List.set_cons_zero, List.set_cons_succ]
      clear hK K
      replace hHeld := e1
      refine wpAnyH_take (i := 6) (v := ?_) rfl (by kernel_rfl) (by kernel_rfl) (by kernel_rfl) (fun _ _ _ h => h) (Or.inl ⟨by rfl, ?_⟩) hHeld ?_
      rotate_left
      · (intro w hSw; go_simp; (try with_reducible rfl))
      simp only [Act.put, List.getElem_toArray, List.getElem_cons_zero, List.getElem_cons_succ, List.setIfInBounds_toArray, List.set_cons_zero, List.set_cons_succ]
      refine wpAnyH_ready (rs := [7]) (by kernel_rfl) (by simp) ?_
      refine AllReadyH.cons rfl (fun K hK => ?_) AllReadyH.nil
      simp only [List.getElem_toArray, List.getElem_cons_zero, List.getElem_cons_succ]
      go_simp
      refine hK.out _ _ e2 (fun _ => ?_)
      try simp only [Act.put, List.setIfInBounds_toArray, List.set_cons_zero, List.set_cons_succ]
      clear hK K
      replace hHeld := e2
      refine wpAnyH_done (by kernel_rfl) ?_ _
      clear hA e1 e2 x2 y2 x3 y3 l3 l4 hHeld
      go_upto_region 13 with fail
      have hsz3 := ev_size (⟨3, a, b, d, c, f⟩)
      have hone3 := evC_one (⟨3, a, b, d, c, f⟩)
      have hs36 : (evC ev0).size = (evC (⟨3, a, b, d, c, f⟩)).size := rfl
      clear c0 c1 c2 c3 c4 c5 d0 d1 d2 d3 d4 d5 f0
      obtain ⟨es, hes⟩ : ∃ es, es = evC (⟨3, a, b, d, c, f⟩) := ⟨_, rfl⟩
      have HEs := Lib.hid hes
      unfold EvB at hS hZ
      rw [← hes] at hS hsz3 hone3 hs36
      clear hes
      go_wp2_with (first
        | (refine wpList_load_row rfl 53 (.tmp 3) rfl g3 rfl 53 _ (0, 0) _ hS Tryd.underlying53 rfl hsz3 ?_)
        | (refine wpList_store_row rfl 53 (.tmp 2) (.tmp 37) rfl g2 _ rfl rfl 53 (evC ev0) hZ hsz3 hs36 hone3 ?_))
      refine bodyPost_ret (v := .agg es) ?_ rfl ⟨by rw [HI.out, HEs.out]; rfl, below_setRow hbS _ _ hwg2⟩
      exact results_cellE (ty := 53) (p := 2) (by kernel_rfl) _ _ g2 53 _ (0, 0) _ rfl (setRow_heap _ _ _ _ _ _ hZ) Tryd.underlying53 rfl hsz3
    · skip
      have HI := Lib.hid (show invE ⟨4, a, b, c, d, f⟩ = ⟨4, a, b, d, c, f⟩ from rfl)
      go_upto_region 12 with fail
      have hA := hE3.set_ 3 (.int .i64 d) (e' := ⟨4, a, b, d, d, f⟩) rfl
      have hS := hA.set_ 4 (.int .i64 c) (e' := ⟨4, a, b, d, c, f⟩) rfl
      have hZ := (hE2.far (show g2 ≠ g3 by omega) 3 (.int .i64 d)).far (show g2 ≠ g3 by omega) 4 (.int .i64 c)
      have hbS := (hb3.setCell (p := ⟨g3, 3, none⟩) (show w.heap.size ≤ g3 from hwg3) (.int .i64 d)).setCell (p := ⟨g3, 4, none⟩) (show w.heap.size ≤ g3 from hwg3) (.int .i64 c)
      replace hbS := hbS.drew
      have e1 := hE1.far (show g1 ≠ g3 by omega) 3 (.int .i64 d)
      have e2 := e1.far (show g1 ≠ g3 by omega) 4 (.int .i64 c)
      have x2 := hE3.cells.2.2.2.1
      have y2 := frozen_of_row w3 g3 3 _ _ hE3
      have x3 := hA.cells.2.2.2.2.1
      have y3 := frozen_of_row _ g3 4 _ _ hA
      have l3 : ∀ W, EvB W g1 ⟨4, a, b, c, d, f⟩ → W.cell? ⟨g1, 3, none⟩ = some (.int .i64 c) := fun W h => h.cells.2.2.2.1
      have l4 : ∀ W, EvB W g1 ⟨4, a, b, c, d, f⟩ → W.cell? ⟨g1, 4, none⟩ = some (.int .i64 d) := fun W h => h.cells.2.2.2.2.1
      refine wp_region_held_drew (S := fun W => EvB W g1 ⟨4, a, b, c, d, f⟩) (by kernel_rfl) (show EvB w3.drew g1 _ from hE1) (fun hHeld => ?_)
      refine wpAnyH_take (i := 0) (v := ?_) rfl (by kernel_rfl) (by kernel_rfl) (by kernel_rfl) (fun _ _ _ h => h) (Or.inl ⟨by rfl, ?_⟩) hHeld ?_
      rotate_left
      · (intro w hSw; go_simp; (try with_reducible rfl))
      simp only [Act.put, List.getElem_toArray, List.getElem_cons_zero, List.getElem_cons_succ, List.setIfInBounds_toArray, List.set_cons_zero, List.set_cons_succ]
      refine wpAnyH_take (i := 1) (v := ?_) rfl (by kernel_rfl) (by kernel_rfl) (by kernel_rfl) (fun _ _ _ h => h) (Or.inl ⟨by rfl, ?_⟩) hHeld ?_
      rotate_left
      · (intro w hSw; go_simp; (try with_reducible rfl))
      simp only [Act.put, List.getElem_toArray, List.getElem_cons_zero, List.getElem_cons_succ, List.setIfInBounds_toArray, List.set_cons_zero, List.set_cons_succ]
      refine wpAnyH_take (i := 2) (v := ?_) rfl (by kernel_rfl) (by kernel_rfl) (by kernel_rfl) (fun _ _ _ h => h) (Or.inl ⟨by rfl, ?_⟩) hHeld ?_
      rotate_left
      · (intro w hSw; go_simp; (try with_reducible rfl))
      simp only [Act.put, List.getElem_toArray, List.getElem_cons_zero, List.getElem_cons_succ, List.setIfInBounds_toArray, List.set_cons_zero, List.set_cons_succ]
      refine wpAnyH_take (i := 3) (v := ?_) rfl (by kernel_rfl) (by kernel_rfl) (by kernel_rfl) (fun _ _ _ h => h) (Or.inl ⟨by rfl, ?_⟩) hHeld ?_
      rotate_left
      · (intro w hSw; go_simp; (try with_reducible rfl))
      simp only [Act.put, List.getElem_toArray, List.getElem_cons_zero, List.getElem_cons_succ, List.setIfInBounds_toArray, List.set_cons_zero, List.set_cons_succ]
      refine wpAnyH_take (i := 4) (v := ?_) rfl (by kernel_rfl) (by kernel_rfl) (by kernel_rfl) (fun _ _ _ h => h) (Or.inl ⟨by rfl, ?_⟩) hHeld ?_
      rotate_left
      · (intro w hSw; go_simp; (try with_reducible rfl))
      simp only [Act.put, List.getElem_toArray, List.getElem_cons_zero, List.getElem_cons_succ, List.setIfInBounds_toArray, List.set_cons_zero, List.set_cons_succ]
      refine wpAnyH_ready (rs := [5]) (by kernel_rfl) (by simp) ?_
      refine AllReadyH.cons rfl (fun K hK => ?_) AllReadyH.nil
      simp only [List.getElem_toArray, List.getElem_cons_zero, List.getElem_cons_succ]
      go_simp
      refine hK.out _ _ e1 (fun _ => ?_)
      try simp only [Act.put, List.setIfInBounds_toArray, List.set_cons_zero, List.set_cons_succ]
      clear hK K
      replace hHeld := e1
      refine wpAnyH_take (i := 6) (v := ?_) rfl (by kernel_rfl) (by kernel_rfl) (by kernel_rfl) (fun _ _ _ h => h) (Or.inl ⟨by rfl, ?_⟩) hHeld ?_
      rotate_left
      · (intro w hSw; go_simp; (try with_reducible rfl))
      simp only [Act.put, List.getElem_toArray, List.getElem_cons_zero, List.getElem_cons_succ, List.setIfInBounds_toArray, List.set_cons_zero, List.set_cons_succ]
      refine wpAnyH_ready (rs := [7]) (by kernel_rfl) (by simp) ?_
      refine AllReadyH.cons rfl (fun K hK => ?_) AllReadyH.nil
      simp only [List.getElem_toArray, List.getElem_cons_zero, List.getElem_cons_succ]
      go_simp
      refine hK.out _ _ e2 (fun _ => ?_)
      try simp only [Act.put, List.setIfInBounds_toArray, List.set_cons_zero, List.set_cons_succ]
      clear hK K
      replace hHeld := e2
      refine wpAnyH_done (by kernel_rfl) ?_ _
      clear hA e1 e2 x2 y2 x3 y3 l3 l4 hHeld
      go_upto_region 13 with fail
      have hsz3 := ev_size (⟨4, a, b, d, c, f⟩)
      have hone3 := evC_one (⟨4, a, b, d, c, f⟩)
      have hs36 : (evC ev0).size = (evC (⟨4, a, b, d, c, f⟩)).size := rfl
      clear c0 c1 c2 c3 c4 c5 d0 d1 d2 d3 d4 d5 f0
      obtain ⟨es, hes⟩ : ∃ es, es = evC (⟨4, a, b, d, c, f⟩) := ⟨_, rfl⟩
      have HEs := Lib.hid hes
      unfold EvB at hS hZ
      rw [← hes] at hS hsz3 hone3 hs36
      clear hes
      go_wp2_with (first
        | (refine wpList_load_row rfl 53 (.tmp 3) rfl g3 rfl 53 _ (0, 0) _ hS Tryd.underlying53 rfl hsz3 ?_)
        | (refine wpList_store_row rfl 53 (.tmp 2) (.tmp 37) rfl g2 _ rfl rfl 53 (evC ev0) hZ hsz3 hs36 hone3 ?_))
      refine bodyPost_ret (v := .agg es) ?_ rfl ⟨by rw [HI.out, HEs.out]; rfl, below_setRow hbS _ _ hwg2⟩
      exact results_cellE (ty := 53) (p := 2) (by kernel_rfl) _ _ g2 53 _ (0, 0) _ rfl (setRow_heap _ _ _ _ _ _ hZ) Tryd.underlying53 rfl hsz3
  have n2 : (k == 2) = false := beq_eq_false_iff_ne.2 (by omega)
  have n3 : (k == 3) = false := beq_eq_false_iff_ne.2 (by omega)
  have n4 : (k == 4) = false := beq_eq_false_iff_ne.2 (by omega)
  have HI := Lib.hid (show invE ⟨k, a, b, c, d, f⟩ = ⟨k, a, b, c, d, f⟩ by unfold invE; simp only [hk0, hk5, hk1, hk2, if_false])
  have hS := hE3
  have hZ := hE2
  have hbS := hb3
  go_upto_region 13 with fail
  have hsz3 := ev_size (⟨k, a, b, c, d, f⟩)
  have hone3 := evC_one (⟨k, a, b, c, d, f⟩)
  have hs36 : (evC ev0).size = (evC (⟨k, a, b, c, d, f⟩)).size := rfl
  clear c0 c1 c2 c3 c4 c5 d0 d1 d2 d3 d4 d5 f0
  obtain ⟨es, hes⟩ : ∃ es, es = evC (⟨k, a, b, c, d, f⟩) := ⟨_, rfl⟩
  have HEs := Lib.hid hes
  unfold EvB at hS hZ
  rw [← hes] at hS hsz3 hone3 hs36
  clear hes
  go_wp2_with (first
    | (refine wpList_load_row rfl 53 (.tmp 3) rfl g3 rfl 53 _ (0, 0) _ hS Tryd.underlying53 rfl hsz3 ?_)
    | (refine wpList_store_row rfl 53 (.tmp 2) (.tmp 37) rfl g2 _ rfl rfl 53 (evC ev0) hZ hsz3 hs36 hone3 ?_))
  refine bodyPost_ret (v := .agg es) ?_ rfl ⟨by rw [HI.out, HEs.out]; rfl, below_setRow hbS _ _ hwg2⟩
  exact results_cellE (ty := 53) (p := 2) (by kernel_rfl) _ _ g2 53 _ (0, 0) _ rfl (setRow_heap _ _ _ _ _ _ hZ) Tryd.underlying53 rfl hsz3
end Go.Proofs.YtmhabodijmnldaaDoor
