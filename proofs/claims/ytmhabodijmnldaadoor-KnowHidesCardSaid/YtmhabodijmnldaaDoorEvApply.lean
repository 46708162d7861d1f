/- Layer 12: the reference's Apply. -/
import Derived.Test.YtmhabodijmnldaaDoorEvAp
import Derived.Test.YtmhabodijmnldaaDoorLstRef2
namespace Go.Proofs.YtmhabodijmnldaaDoor
open Go.RowKit Ex
set_option maxRecDepth 100000
theorem OwnS.lt {W : World} {base : Nat} {s : StT} {O : SlT} {L : Nat → SlT} (h : OwnS W base s O L) : ∀ j, OwnB O L j → base ≤ j ∧ j < W.heap.size := by
  rintro j (hj | ⟨z, hz, hj⟩)
  · exact h.o.lt j hj
  · exact (h.l z hz).2.lt j hj
theorem ap_start (w : World) (cs : Array Value) (e : EvT) : ∃ w3, w3 = ((w.alloc (.cells cs 29)).alloc (.cells (evC e) 53)).alloc (.cells st0 29) ∧ Below w.heap.size w w3 ∧ StAt w3 w.heap.size cs ∧ EvB w3 (w.heap.size + 1) e ∧ StAt w3 (w.heap.size + 2) st0 ∧ w3.heap.size = w.heap.size + 3 := by
  have b1 : Below w.heap.size w (w.alloc (.cells cs 29)) := (Below.refl _ _).alloc (Nat.le_refl _) _
  have b2 : Below (w.alloc (.cells cs 29)).heap.size (w.alloc (.cells cs 29)) ((w.alloc (.cells cs 29)).alloc (.cells (evC e) 53)) := (Below.refl _ _).alloc (Nat.le_refl _) _
  have b3 : Below ((w.alloc (.cells cs 29)).alloc (.cells (evC e) 53)).heap.size ((w.alloc (.cells cs 29)).alloc (.cells (evC e) 53)) (((w.alloc (.cells cs 29)).alloc (.cells (evC e) 53)).alloc (.cells st0 29)) := (Below.refl _ _).alloc (Nat.le_refl _) _
  have h2 : EvB ((w.alloc (.cells cs 29)).alloc (.cells (evC e) 53)) (w.heap.size + 1) e := by
    have := heap_alloc_new (w.alloc (.cells cs 29)) (.cells (evC e) 53); rwa [World.size_alloc] at this
  have h3 : StAt (((w.alloc (.cells cs 29)).alloc (.cells (evC e) 53)).alloc (.cells st0 29)) (w.heap.size + 2) st0 := by
    have := StAt.new ((w.alloc (.cells cs 29)).alloc (.cells (evC e) 53)) st0; rwa [World.size_alloc, World.size_alloc] at this
  exact ⟨_, rfl, keepB b3 (keepB b2 b1), ((StAt.new w cs).keep b2).keep b3, h2.keep b3, h3, by simp⟩
set_option linter.unusedSimpArgs false in
set_option maxHeartbeats 0 in
theorem applyRef_any (s : StT) (O : SlT) (L : Nat → SlT) (cs : Array Value) (e : EvT) (w : World) (h : ReadsS w.heap.size w cs s O L) (hn : s.objs.length ≤ 1000000) (hll : ∀ z < 11, (s.lists z).length ≤ 1000000) (hi : EvI e) :
    Calls Tryd.prog 17 #[.agg cs, evV e] w (ApR w (applyS s e)) := by
  have HE := Lib.hid hi
  have H := Lib.hid h
  have hcsz := h.size
  show Calls _ _ #[.agg cs, .agg (evC e)] w _
  clear h hi
  obtain ⟨es, hes⟩ : ∃ es, es = evC e := ⟨_, rfl⟩
  have HEs := Lib.hid hes
  rw [← hes]
  clear hes
  go_enter Tryd.func17, Tryd.ntmps17
  go_upto_region 1 with fail
  rw [st0_is]
  obtain ⟨w3, hw3, hb3, hs3, he3, hr3, hz3⟩ := ap_start w cs e
  rw [← HEs.out] at hw3
  rw [← hw3]
  obtain ⟨ge, hge⟩ : ∃ g, g = w.heap.size + 1 := ⟨_, rfl⟩
  obtain ⟨gr, hgr⟩ : ∃ g, g = w.heap.size + 2 := ⟨_, rfl⟩
  have hwe : w.heap.size < ge := by omega
  have her : ge < gr := by omega
  have hwr : w.heap.size ≤ gr := by omega
  rw [← hge] at he3
  rw [← hgr] at hr3
  rw [show w.heap.size + 1 = ge by omega, show ge + 1 = gr by omega]
  have hrl : gr < w3.heap.size := hr3.lt
  clear hw3 hge hgr hz3
  have hesz : (Tryd.prog.info? 53).map (·.size) = some es.size := by rw [HEs.out]; exact ev_size e
  have hrow : w3.heap[ge]? = some (.cells es 53 (0, 0)) := by rw [HEs.out]; exact he3
  go_wp2_with (refine wpList_load_row rfl 53 (.tmp 3) rfl ge rfl 53 _ (0, 0) _ hrow Tryd.underlying53 rfl hesz ?_)
  rw [HEs.out]
  refine (evCheckRef_any e w3).mono ?_
  rintro en w4 ⟨rfl, hb4⟩
  have hb9 := keepB hb4 hb3
  have hs4 := hs3.keep hb4
  have he4 := he3.keep hb4
  have hr9 := hr3.keep hb4
  clear hb4 hb3 hs3 he3 hr3 hrow hesz
  by_cases hck : chkE e = 0
  case neg =>
    have HA := Lib.hid (show applyS s e = (sT0, chkE e) by unfold applyS; rw [if_pos hck])
    obtain ⟨q, hq⟩ : ∃ q, q = chkE e := ⟨_, rfl⟩
    rw [← hq] at HA hck ⊢
    have hne : (q != 0) = true := bne_iff_ne.2 hck
    clear hq
    have hsz0 := st0_size'
    have hone0 := st0_one'
    go_wp2_with (first
      | (refine wpList_build0 rfl rfl ?_)
      | (refine wpList_store_row rfl 29 (.tmp 4) (.tmp 16) rfl gr _ rfl rfl 29 st0 hr9 hsz0 rfl hone0 ?_))
    refine bodyPost_ret (v := .tuple #[.agg st0, .int .i64 q]) ?_ rfl ⟨st0, nilS, fun _ => nilS, by rw [HA.out], by rw [HA.out]; exact reads_0 _ _, by rw [HA.out]; exact own_zero _ _, below_setRow hb9 _ _ hwr⟩
    exact results_cell_tmp (ty := 29) (p := 4) (q := 5) (by kernel_rfl) _ _ gr 29 _ (0, 0) _ rfl (setRow_heap _ _ _ _ _ _ hr9) Tryd.underlying29 rfl hsz0
  have HKd := Lib.hid (chkE_kind hck)
  have HAp := Lib.hid (show applyS s e = if e.k = 0 then ap0 s e else if e.k = 1 then ap1 s e else if e.k = 2 then ap2 s e else if e.k = 3 then ap3 s e else if e.k = 4 then ap4 s e else ap5 s e by unfold applyS; rw [if_neg (by omega)])
  rw [hck]
  clear hck
  have hcs : cs = stC O L s.pl s.gm := H.out.cs
  have hcz : (Tryd.prog.info? 29).map (·.size) = some cs.size := by rw [hcsz]; exact size37
  have HCs0 := Lib.hid hcs
  clear hcs
  have hcopy := numCopy_own s O L cs w4 ((H.out.below hb9).more hb9.size) hn hll
  go_upto_region 4 with fail
  go_wp2_with (refine wpList_load_row rfl 29 (.tmp 2) rfl w.heap.size rfl 29 _ (0, 0) _ hs4 Tryd.underlying29 rfl hcz ?_)
  refine hcopy.mono ?_
  rintro en w5 ⟨cs5, rfl, O5, L5, hcs5, hO5, hb5⟩
  have hcsz5 : (Tryd.prog.info? 29).map (·.size) = some cs5.size := by rw [hcs5, stC_size]; exact size37
  have hcs05 : st0.size = cs5.size := by rw [hcs5, stC_size]; exact stC_size _ _ _ _
  have hone5 : cs5.all (·.oneCell') = true := by rw [hcs5]; exact stC_one _ _ _ _
  have HCs5 := Lib.hid hcs5
  have hz37 := st0_is
  have hnew : (w5.alloc (.cells st0 29)).heap[w5.heap.size]? = some (.cells st0 29 (0, 0)) := heap_alloc_new _ _
  clear hcs5
  go_upto_region 5 with (refine wpList_store_row rfl 29 (.tmp 7) (.tmp 19) rfl w5.heap.size _ rfl rfl 29 st0 hnew hcsz5 hcs05 hone5 ?_)
  obtain ⟨w6, hw6, hs6, hb6⟩ := box_new w5 cs5
  rw [← hw6]
  rw [HCs5.out] at hs6
  have hl9 := hr9.lt
  have hl5 := hb5.size
  obtain ⟨gs, hgs⟩ : ∃ g, g = w5.heap.size := ⟨_, rfl⟩
  rw [← hgs] at hs6 ⊢
  have hsg : w.heap.size < w4.heap.size := by omega
  have HP := Lib.hid (show AP w ge gr gs e s O5 L5 w6 from ⟨keepB hb6 (keepB hb5 hb9), (he4.keep hb5).keep hb6, (hr9.keep hb5).keep hb6, hs6, (hO5.below hb6).low (by omega), fun j hj => by have := hO5.lt j hj; omega⟩)
  have HPB := Lib.hid (show ApB w ge gr gs from ⟨by omega, her, by omega⟩)
  clear hw6 hgs hnew hz37 hone5 hcs05 hcsz5 HCs5 hcz HCs0 hcopy hO5 hb5 hb6 hs6 hl9 hl5 hs4 he4 hr9 hb9 hsg hrl hcsz
  obtain ⟨A5, n5, c5⟩ := O5
  obtain rfl : n5 = s.objs.length := HP.out.o.on
  have hc0 := (HP.out.a.cell 0).trans (stC_objs _ _ _ _)
  obtain ⟨k, a, b, c, d, f⟩ := e
  obtain ⟨e0, e1, e2, e3, e4, e5⟩ := HP.out.e.cells
  simp only at e0 e1 e2 e3 e4 e5
  replace hc0 : w6.cell? ⟨gs, 0, none⟩ = some (.slice A5 s.objs.length c5) := hc0
  go_upto_region 6 with fail
  clear hc0
  rcases HKd.out with ⟨hk, h1⟩ | ⟨hk, h1⟩ | ⟨hk, h1⟩ | ⟨hk, h1⟩ | ⟨hk, h1⟩ | ⟨hk, h1⟩
  all_goals try simp only at hk h1
  all_goals subst hk
  · obtain ⟨rfl, rfl, h1⟩ := h1
    have HA0 := Lib.hid (show applyS s ⟨0, a, b, c, 0, 0⟩ = ap0 s ⟨0, a, b, c, 0, 0⟩ from HAp.out)
    by_cases hfull : 400 ≤ s.objs.length
    · have hd : decide ((400 : Int) ≤ (s.objs.length : Int)) = true := decide_eq_true (by omega)
      have HA := Lib.hid (show applyS s ⟨0, a, b, c, 0, 0⟩ = (sT0, 5) by
        rw [HA0.out]; unfold ap0; rw [if_pos hfull])
      have hr9 := HP.out.r
      have hb9 := HP.out.b
      go_upto_region 12 with fail
      clear e0 e1 e2 e3 e4 e5
      have hsz0 := st0_size'
      have hone0 := st0_one'
      go_wp2_with (first
        | (refine wpList_build0 rfl rfl ?_)
        | (refine wpList_store_row rfl 29 (.tmp 4) (.tmp 44) rfl gr _ rfl rfl 29 st0 hr9 hsz0 rfl hone0 ?_))
      refine bodyPost_ret (v := .tuple #[.agg st0, .int .i64 5]) ?_ rfl ⟨st0, nilS, fun _ => nilS, by rw [HA.out], by rw [HA.out]; exact reads_0 _ _, by rw [HA.out]; exact own_zero _ _, below_setRow hb9 _ _ hwr⟩
      exact results_cell_tmp (ty := 29) (p := 4) (q := 5) (by kernel_rfl) _ _ gr 29 _ (0, 0) _ rfl (setRow_heap _ _ _ _ _ _ hr9) Tryd.underlying29 rfl hsz0
    have hd : decide ((400 : Int) ≤ (s.objs.length : Int)) = false := decide_eq_false (by omega)
    have HA := Lib.hid (show applyS s ⟨0, a, b, c, 0, 0⟩ = (⟨s.objs ++ [madeO a b c], updL s.lists 10 (s.lists 10 ++ [(s.objs.length : Int)]), s.pl, s.gm⟩, 0) by
      rw [HA0.out]; unfold ap0; rw [if_neg hfull])
    have hz18 := st_zero18
    have hnew : (w6.alloc (.cells (arr .i64 18 fun _ => 0) 49)).heap[w6.heap.size]? = some (.cells (arr .i64 18 fun _ => 0) 49 (0, 0)) := heap_alloc_new _ _
    have hsx : (Tryd.prog.info? 49).map (·.size) = some (arr .i64 18 fun _ => 0).size := by rw [arr_size]; exact st_size18
    go_upto_region 14 with (first
      | (refine wpList_buildO0 rfl rfl ?_)
      | (refine wpList_store_row rfl 49 (.tmp 9) (.tmp 45) rfl w6.heap.size _ rfl rfl 49 (arr .i64 18 fun _ => 0) hnew hsx (by rw [arr_size]) (arr_one .i64 18 _) ?_))
    obtain ⟨w7, hw7, hO7, hb7⟩ := ob_box w6 (fun _ => 0)
    rw [← hw7]
    have HP7 := Lib.hid (HP.out.keep hb7)
    have HB7 := Lib.hid hb7
    obtain ⟨g9, hg9⟩ : ∃ g9, g9 = w6.heap.size := ⟨_, rfl⟩
    have hl9 := HP.out.a.lt
    have hA0 : ArrAt .i64 18 49 w7 g9 (fun _ => 0) := by rw [hg9]; exact hO7
    rw [← hg9]
    have hsg : gs < g9 := by omega
    have h69 : w6.heap.size ≤ g9 := by omega
    have h6e : ge < gs := by have := HPB.out.r; have := HPB.out.s; omega
    clear hw7 hnew hsx hz18 hO7 hb7 hg9 hl9 e0 e1 e2 e3 e4 e5
    obtain ⟨e0, e1, e2, e3, e4, e5⟩ := HP7.out.e.cells
    simp only at e0 e1 e2 e3 e4 e5
    have hHeld : EvB w7.drew ge ⟨0, a, b, c, 0, 0⟩ := HP7.out.e
    have hb : Below w6.heap.size w6 w7.drew := HB7.out.drew
    have hA : ArrAt .i64 18 49 w7.drew g9 (fun _ => 0) := hA0
    have l1 : ∀ W, EvB W ge ⟨0, a, b, c, 0, 0⟩ → W.cell? ⟨ge, 1, none⟩ = some (.int .i64 a) := fun W h => h.cells.2.1
    have l2 : ∀ W, EvB W ge ⟨0, a, b, c, 0, 0⟩ → W.cell? ⟨ge, 2, none⟩ = some (.int .i64 b) := fun W h => h.cells.2.2.1
    have l3 : ∀ W, EvB W ge ⟨0, a, b, c, 0, 0⟩ → W.cell? ⟨ge, 3, none⟩ = some (.int .i64 c) := fun W h => h.cells.2.2.2.1
    refine wp_region_held_drew (S := fun W => EvB W ge ⟨0, a, b, c, 0, 0⟩) (by kernel_rfl) hHeld (fun hHeld => ?_)
    obtain ⟨v0, hv0⟩ : ∃ v0, v0 = w7.drew := ⟨_, rfl⟩
    rw [← hv0] at hHeld hb hA ⊢
    clear hv0 hA0
    refine wpAnyH_take (i := 0) (v := ?_) rfl (by kernel_rfl) (by kernel_rfl) (by kernel_rfl) (fun _ _ _ h => h) (Or.inl ⟨by rfl, ?_⟩) hHeld ?_
    rotate_left
    · (intro w hSw; go_simp; (try with_reducible rfl))
    simp only [Act.put, List.getElem_toArray, List.getElem_cons_zero, List.getElem_cons_succ, List.setIfInBounds_toArray, List.set_cons_zero, List.set_cons_succ]
    refine wpAnyH_take (i := 1) (v := ?_) rfl (by kernel_rfl) (by kernel_rfl) (by kernel_rfl) (fun _ _ _ h => h) (Or.inl ⟨by rfl, ?_⟩) hHeld ?_
    rotate_left
    · (intro w hSw; go_simp; (try with_reducible rfl))
    simp only [Act.put, List.getElem_toArray, List.getElem_cons_zero, List.getElem_cons_succ, List.setIfInBounds_toArray, List.set_cons_zero, List.set_cons_succ]
    refine wpAnyH_take (i := 2) (v := ?_) rfl (by kernel_rfl) (by kernel_rfl) (by kernel_rfl) (fun _ _ _ h => h) (Or.inl ⟨by rfl, ?_⟩) hHeld ?_
    rotate_left
    · (intro w hSw; go_simp; (try with_reducible rfl))
    simp only [Act.put, List.getElem_toArray, List.getElem_cons_zero, List.getElem_cons_succ, List.setIfInBounds_toArray, List.set_cons_zero, List.set_cons_succ]
    refine wpAnyH_take (i := 3) (v := ?_) rfl (by kernel_rfl) (by kernel_rfl) (by kernel_rfl) (fun _ _ _ h => h) (Or.inl ⟨by rfl, ?_⟩) hHeld ?_
    rotate_left
    · (intro w hSw; go_simp; (try with_reducible rfl))
    simp only [Act.put, List.getElem_toArray, List.getElem_cons_zero, List.getElem_cons_succ, List.setIfInBounds_toArray, List.set_cons_zero, List.set_cons_succ]
    refine wpAnyH_take (i := 4) (v := ?_) rfl (by kernel_rfl) (by kernel_rfl) (by kernel_rfl) (fun _ _ _ h => h) (Or.inl ⟨by rfl, ?_⟩) hHeld ?_
    rotate_left
    · (intro w hSw; go_simp; (try with_reducible rfl))
    simp only [Act.put, List.getElem_toArray, List.getElem_cons_zero, List.getElem_cons_succ, List.setIfInBounds_toArray, List.set_cons_zero, List.set_cons_succ]
    refine wpAnyH_take (i := 5) (v := ?_) rfl (by kernel_rfl) (by kernel_rfl) (by kernel_rfl) (fun _ _ _ h => h) (Or.inl ⟨by rfl, ?_⟩) hHeld ?_
    rotate_left
    · (intro w hSw; go_simp; (try with_reducible rfl))
    simp only [Act.put, List.getElem_toArray, List.getElem_cons_zero, List.getElem_cons_succ, List.setIfInBounds_toArray, List.set_cons_zero, List.set_cons_succ]
    refine wpAnyH_take (i := 6) (v := ?_) rfl (by kernel_rfl) (by kernel_rfl) (by kernel_rfl) (fun _ _ _ h => h) (Or.inl ⟨by rfl, ?_⟩) hHeld ?_
    rotate_left
    · (intro w hSw; go_simp; (try with_reducible rfl))
    simp only [Act.put, List.getElem_toArray, List.getElem_cons_zero, List.getElem_cons_succ, List.setIfInBounds_toArray, List.set_cons_zero, List.set_cons_succ]
    refine wpAnyH_take (i := 7) (v := ?_) rfl (by kernel_rfl) (by kernel_rfl) (by kernel_rfl) (fun _ _ _ h => h) (Or.inl ⟨by rfl, ?_⟩) hHeld ?_
    rotate_left
    · (intro w hSw; go_simp; (try with_reducible rfl))
    simp only [Act.put, List.getElem_toArray, List.getElem_cons_zero, List.getElem_cons_succ, List.setIfInBounds_toArray, List.set_cons_zero, List.set_cons_succ]
    refine wpAnyH_take (i := 8) (v := ?_) rfl (by kernel_rfl) (by kernel_rfl) (by kernel_rfl) (fun _ _ _ h => h) (Or.inl ⟨by rfl, ?_⟩) hHeld ?_
    rotate_left
    · (intro w hSw; go_simp; (try with_reducible rfl))
    simp only [Act.put, List.getElem_toArray, List.getElem_cons_zero, List.getElem_cons_succ, List.setIfInBounds_toArray, List.set_cons_zero, List.set_cons_succ]
    have x0 := hA.cell (show 0 < 18 by omega)
    have y0 := hA.frozen 0
    obtain ⟨v1, hv1⟩ : ∃ v1, v1 = v0.setCell ⟨g9, 0, none⟩ (.int .i64 a) := ⟨_, rfl⟩
    have HV1 := Lib.hid hv1
    have hA1 : ArrAt .i64 18 49 v1 g9 (updI (fun _ => 0) 0 a) := by rw [hv1]; exact hA.set_ 0 a
    have hE1 : EvB v1 ge ⟨0, a, b, c, 0, 0⟩ := by rw [hv1]; exact hHeld.far (show ge ≠ g9 by omega) 0 (.int .i64 a)
    have hb1 : Below w6.heap.size w6 v1 := by rw [hv1]; exact hb.setCell (p := ⟨g9, 0, none⟩) (show w6.heap.size ≤ g9 from h69) (.int .i64 a)
    clear hv1
    refine wpAnyH_ready (rs := [9]) (by kernel_rfl) (by simp) ?_
    refine AllReadyH.cons rfl (fun K hK => ?_) AllReadyH.nil
    simp only [List.getElem_toArray, List.getElem_cons_zero, List.getElem_cons_succ]
    go_simp
    rw [← HV1.out]
    refine hK.out _ _ hE1 (fun _ => ?_)
    try simp only [Act.put, List.setIfInBounds_toArray, List.set_cons_zero, List.set_cons_succ]
    clear hK K x0 y0 HV1 hHeld hb hA
    obtain ⟨v0, rfl⟩ : ∃ v0, v0 = v1 := ⟨_, rfl⟩
    have hHeld := hE1
    have hb := hb1
    have hA := hA1
    clear hE1 hb1 hA1
    refine wpAnyH_take (i := 10) (v := ?_) rfl (by kernel_rfl) (by kernel_rfl) (by kernel_rfl) (fun _ _ _ h => h) (Or.inl ⟨by rfl, ?_⟩) hHeld ?_
    rotate_left
    · (intro w hSw; go_simp; (try with_reducible rfl))
    simp only [Act.put, List.getElem_toArray, List.getElem_cons_zero, List.getElem_cons_succ, List.setIfInBounds_toArray, List.set_cons_zero, List.set_cons_succ]
    have x0 := hA.cell (show 1 < 18 by omega)
    have y0 := hA.frozen 1
    obtain ⟨v1, hv1⟩ : ∃ v1, v1 = v0.setCell ⟨g9, 1, none⟩ (.int .i64 b) := ⟨_, rfl⟩
    have HV1 := Lib.hid hv1
    have hA1 : ArrAt .i64 18 49 v1 g9 (updI (updI (fun _ => 0) 0 a) 1 b) := by rw [hv1]; exact hA.set_ 1 b
    have hE1 : EvB v1 ge ⟨0, a, b, c, 0, 0⟩ := by rw [hv1]; exact hHeld.far (show ge ≠ g9 by omega) 1 (.int .i64 b)
    have hb1 : Below w6.heap.size w6 v1 := by rw [hv1]; exact hb.setCell (p := ⟨g9, 1, none⟩) (show w6.heap.size ≤ g9 from h69) (.int .i64 b)
    clear hv1
    refine wpAnyH_ready (rs := [11]) (by kernel_rfl) (by simp) ?_
    refine AllReadyH.cons rfl (fun K hK => ?_) AllReadyH.nil
    simp only [List.getElem_toArray, List.getElem_cons_zero, List.getElem_cons_succ]
    go_simp
    rw [← HV1.out]
    refine hK.out _ _ hE1 (fun _ => ?_)
    try simp only [Act.put, List.setIfInBounds_toArray, List.set_cons_zero, List.set_cons_succ]
    clear hK K x0 y0 HV1 hHeld hb hA
    obtain ⟨v0, rfl⟩ : ∃ v0, v0 = v1 := ⟨_, rfl⟩
    have hHeld := hE1
    have hb := hb1
    have hA := hA1
    clear hE1 hb1 hA1
    refine wpAnyH_take (i := 12) (v := ?_) rfl (by kernel_rfl) (by kernel_rfl) (by kernel_rfl) (fun _ _ _ h => h) (Or.inl ⟨by rfl, ?_⟩) hHeld ?_
    rotate_left
    · (intro w hSw; go_simp; (try with_reducible rfl))
    simp only [Act.put, List.getElem_toArray, List.getElem_cons_zero, List.getElem_cons_succ, List.setIfInBounds_toArray, List.set_cons_zero, List.set_cons_succ]
    have x0 := hA.cell (show 2 < 18 by omega)
    have y0 := hA.frozen 2
    obtain ⟨v1, hv1⟩ : ∃ v1, v1 = v0.setCell ⟨g9, 2, none⟩ (.int .i64 b) := ⟨_, rfl⟩
    have HV1 := Lib.hid hv1
    have hA1 : ArrAt .i64 18 49 v1 g9 (updI (updI (updI (fun _ => 0) 0 a) 1 b) 2 b) := by rw [hv1]; exact hA.set_ 2 b
    have hE1 : EvB v1 ge ⟨0, a, b, c, 0, 0⟩ := by rw [hv1]; exact hHeld.far (show ge ≠ g9 by omega) 2 (.int .i64 b)
    have hb1 : Below w6.heap.size w6 v1 := by rw [hv1]; exact hb.setCell (p := ⟨g9, 2, none⟩) (show w6.heap.size ≤ g9 from h69) (.int .i64 b)
    clear hv1
    refine wpAnyH_ready (rs := [13]) (by kernel_rfl) (by simp) ?_
    refine AllReadyH.cons rfl (fun K hK => ?_) AllReadyH.nil
    simp only [List.getElem_toArray, List.getElem_cons_zero, List.getElem_cons_succ]
    go_simp
    rw [← HV1.out]
    refine hK.out _ _ hE1 (fun _ => ?_)
    try simp only [Act.put, List.setIfInBounds_toArray, List.set_cons_zero, List.set_cons_succ]
    clear hK K x0 y0 HV1 hHeld hb hA
    obtain ⟨v0, rfl⟩ : ∃ v0, v0 = v1 := ⟨_, rfl⟩
    have hHeld := hE1
    have hb := hb1
    have hA := hA1
    clear hE1 hb1 hA1
    refine wpAnyH_take (i := 14) (v := ?_) rfl (by kernel_rfl) (by kernel_rfl) (by kernel_rfl) (fun _ _ _ h => h) (Or.inl ⟨by rfl, ?_⟩) hHeld ?_
    rotate_left
    · (intro w hSw; go_simp; (try with_reducible rfl))
    simp only [Act.put, List.getElem_toArray, List.getElem_cons_zero, List.getElem_cons_succ, List.setIfInBounds_toArray, List.set_cons_zero, List.set_cons_succ]
    have x0 := hA.cell (show 3 < 18 by omega)
    have y0 := hA.frozen 3
    obtain ⟨v1, hv1⟩ : ∃ v1, v1 = v0.setCell ⟨g9, 3, none⟩ (.int .i64 10) := ⟨_, rfl⟩
    have HV1 := Lib.hid hv1
    have hA1 : ArrAt .i64 18 49 v1 g9 (updI (updI (updI (updI (fun _ => 0) 0 a) 1 b) 2 b) 3 10) := by rw [hv1]; exact hA.set_ 3 10
    have hE1 : EvB v1 ge ⟨0, a, b, c, 0, 0⟩ := by rw [hv1]; exact hHeld.far (show ge ≠ g9 by omega) 3 (.int .i64 10)
    have hb1 : Below w6.heap.size w6 v1 := by rw [hv1]; exact hb.setCell (p := ⟨g9, 3, none⟩) (show w6.heap.size ≤ g9 from h69) (.int .i64 10)
    clear hv1
    refine wpAnyH_ready (rs := [15]) (by kernel_rfl) (by simp) ?_
    refine AllReadyH.cons rfl (fun K hK => ?_) AllReadyH.nil
    simp only [List.getElem_toArray, List.getElem_cons_zero, List.getElem_cons_succ]
    go_simp
    rw [← HV1.out]
    refine hK.out _ _ hE1 (fun _ => ?_)
    try simp only [Act.put, List.setIfInBounds_toArray, List.set_cons_zero, List.set_cons_succ]
    clear hK K x0 y0 HV1 hHeld hb hA
    obtain ⟨v0, rfl⟩ : ∃ v0, v0 = v1 := ⟨_, rfl⟩
    have hHeld := hE1
    have hb := hb1
    have hA := hA1
    clear hE1 hb1 hA1
    refine wpAnyH_take (i := 16) (v := ?_) rfl (by kernel_rfl) (by kernel_rfl) (by kernel_rfl) (fun _ _ _ h => h) (Or.inl ⟨by rfl, ?_⟩) hHeld ?_
    rotate_left
    · (intro w hSw; go_simp; (try with_reducible rfl))
    simp only [Act.put, List.getElem_toArray, List.getElem_cons_zero, List.getElem_cons_succ, List.setIfInBounds_toArray, List.set_cons_zero, List.set_cons_succ]
    have x0 := hA.cell (show 13 < 18 by omega)
    have y0 := hA.frozen 13
    obtain ⟨v1, hv1⟩ : ∃ v1, v1 = v0.setCell ⟨g9, 13, none⟩ (.int .i64 c) := ⟨_, rfl⟩
    have HV1 := Lib.hid hv1
    have hA1 : ArrAt .i64 18 49 v1 g9 (updI (updI (updI (updI (updI (fun _ => 0) 0 a) 1 b) 2 b) 3 10) 13 c) := by rw [hv1]; exact hA.set_ 13 c
    have hE1 : EvB v1 ge ⟨0, a, b, c, 0, 0⟩ := by rw [hv1]; exact hHeld.far (show ge ≠ g9 by omega) 13 (.int .i64 c)
    have hb1 : Below w6.heap.size w6 v1 := by rw [hv1]; exact hb.setCell (p := ⟨g9, 13, none⟩) (show w6.heap.size ≤ g9 from h69) (.int .i64 c)
    clear hv1
    refine wpAnyH_ready (rs := [17]) (by kernel_rfl) (by simp) ?_
    refine AllReadyH.cons rfl (fun K hK => ?_) AllReadyH.nil
    simp only [List.getElem_toArray, List.getElem_cons_zero, List.getElem_cons_succ]
    go_simp
    rw [← HV1.out]
    refine hK.out _ _ hE1 (fun _ => ?_)
    try simp only [Act.put, List.setIfInBounds_toArray, List.set_cons_zero, List.set_cons_succ]
    clear hK K x0 y0 HV1 hHeld hb hA
    obtain ⟨v0, rfl⟩ : ∃ v0, v0 = v1 := ⟨_, rfl⟩
    have hHeld := hE1
    have hb := hb1
    have hA := hA1
    clear hE1 hb1 hA1
    refine wpAnyH_take (i := 18) (v := ?_) rfl (by kernel_rfl) (by kernel_rfl) (by kernel_rfl) (fun _ _ _ h => h) (Or.inl ⟨by rfl, ?_⟩) hHeld ?_
    rotate_left
    · (intro w hSw; go_simp; (try with_reducible rfl))
    simp only [Act.put, List.getElem_toArray, List.getElem_cons_zero, List.getElem_cons_succ, List.setIfInBounds_toArray, List.set_cons_zero, List.set_cons_succ]
    have x0 := hA.cell (show 17 < 18 by omega)
    have y0 := hA.frozen 17
    obtain ⟨v1, hv1⟩ : ∃ v1, v1 = v0.setCell ⟨g9, 17, none⟩ (.int .i64 3) := ⟨_, rfl⟩
    have HV1 := Lib.hid hv1
    have hA1 : ArrAt .i64 18 49 v1 g9 (updI (updI (updI (updI (updI (updI (fun _ => 0) 0 a) 1 b) 2 b) 3 10) 13 c) 17 3) := by rw [hv1]; exact hA.set_ 17 3
    have hE1 : EvB v1 ge ⟨0, a, b, c, 0, 0⟩ := by rw [hv1]; exact hHeld.far (show ge ≠ g9 by omega) 17 (.int .i64 3)
    have hb1 : Below w6.heap.size w6 v1 := by rw [hv1]; exact hb.setCell (p := ⟨g9, 17, none⟩) (show w6.heap.size ≤ g9 from h69) (.int .i64 3)
    clear hv1
    refine wpAnyH_ready (rs := [19]) (by kernel_rfl) (by simp) ?_
    refine AllReadyH.cons rfl (fun K hK => ?_) AllReadyH.nil
    simp only [List.getElem_toArray, List.getElem_cons_zero, List.getElem_cons_succ]
    go_simp
    rw [← HV1.out]
    refine hK.out _ _ hE1 (fun _ => ?_)
    try simp only [Act.put, List.setIfInBounds_toArray, List.set_cons_zero, List.set_cons_succ]
    clear hK K x0 y0 HV1 hHeld hb hA
    obtain ⟨v0, rfl⟩ : ∃ v0, v0 = v1 := ⟨_, rfl⟩
    have hHeld := hE1
    have hb := hb1
    have hA := hA1
    clear hE1 hb1 hA1
    refine wpAnyH_done (by kernel_rfl) ?_ _
    rw [made_upd] at hA
    have HO8 := Lib.hid (show ObAt v0 g9 (madeO a b c) from hA)
    have HP8 := Lib.hid (HP.out.keep hb)
    clear hb hA l1 l2 l3 hHeld HB7 HP7 HP e0 e1 e2 e3 e4 e5
    go_upto_region 15 with fail
    have hnO : s.objs.length ≤ 1000000 := by omega
    have hbA : Below v0.heap.size v0 (v0.alloc (.cells (arr .i64 18 (madeO a b c)) 49)) := (Below.refl _ _).alloc (Nat.le_refl _) _
    have HPa := Lib.hid (HP8.out.keep hbA)
    have hown : (v0.alloc (.cells (arr .i64 18 (madeO a b c)) 49)).ownsRow w.heap.size 49 18 (.slice A5 s.objs.length c5) s.objs.length (flatO s.objs) := HPa.out.o.o
    have hob : ObAt (v0.alloc (.cells (arr .i64 18 (madeO a b c)) 49)) v0.heap.size (madeO a b c) := heap_alloc_new _ _
    have hsx : (Tryd.prog.info? 49).map (·.size) = some (arr .i64 18 (madeO a b c)).size := by rw [arr_size]; exact st_size18
    have hbs : w.heap.size ≤ (v0.alloc (.cells (arr .i64 18 (madeO a b c)) 49)).heap.size := HPa.out.b.size
    have hcO : v0.cell? ⟨gs, 0, none⟩ = some (.slice A5 s.objs.length c5) := (HP8.out.a.cell 0).trans (stC_objs _ _ _ _)
    have hrow9 := HO8.out
    go_upto_region 16 with (first
      | (refine wpList_load_row rfl 49 (.tmp 9) rfl g9 rfl 49 _ (0, 0) _ hrow9 Tryd.underlying49 rfl hsx ?_)
      | (refine wpList_buildSliceOf rfl (.tmp 62) rfl (madeO a b c) rfl ?_)
      | (at_builtin; refine wpList_appO1 rfl (.tmp 61) (.tmp 63) rfl w.heap.size A5 s.objs.length c5 s.objs rfl hown v0.heap.size 1 (madeO a b c) rfl hob hnO hbs ?_; intro A9 c9 w9 hown9 hg9; have hra9 := (hg9.block gs HPa.out.a.lt (fun e => (HPa.out.ne gs (.inl e.symm)).2.2 rfl)).trans HPa.out.a; have hcO9 : w9.cell? ⟨gs, 0, none⟩ = some (.slice A5 s.objs.length c5) := (cell_of_row w9 gs 0 _ _ _ hra9).trans (stC_objs _ _ _ _); have hfO9 := frozen_of_row w9 gs 0 _ _ hra9))
    have HP9 := Lib.hid (HPa.out.objs HPB.out hg9 (O' := ⟨A9, s.objs.length + 1, c9⟩) (os := s.objs ++ [madeO a b c]) hown9 (by simp))
    obtain ⟨v9, hv9⟩ : ∃ v9, v9 = w9.setCell ⟨gs, 0, none⟩ (.slice A9 (s.objs.length + 1) c9) := ⟨_, rfl⟩
    have HP9 := Lib.hid (show AP w ge gr gs ⟨0, a, b, c, 0, 0⟩ ⟨s.objs ++ [madeO a b c], s.lists, s.pl, s.gm⟩ ⟨A9, s.objs.length + 1, c9⟩ L5 v9 by rw [hv9]; exact HP9.out)
    rw [← hv9]
    clear hv9 hown9 hg9 hra9 hcO9 hfO9 hrow9 hcO hbs hsx hob hown HPa hbA HP8 HO8
    obtain ⟨i0, hi, hz0, hz1, hz2⟩ := info_parts st_info_int
    have hbA : Below v9.heap.size v9 (v9.alloc (.cells #[.int .i64 (s.objs.length : Int)] 3)) := (Below.refl _ _).alloc (Nat.le_refl _) _
    have HPa := Lib.hid (HP9.out.keep hbA)
    have hownL : Own .i64 3 (v9.alloc (.cells #[.int .i64 (s.objs.length : Int)] 3)) w.heap.size (L5 10).A (L5 10).n (L5 10).c (s.lists 10) := HPa.out.o.l 10 (by omega)
    have hnl : (L5 10).n ≤ 1000000 := by have := hownL.len; have := hll 10 (by omega); omega
    have hbs : w.heap.size ≤ (v9.alloc (.cells #[.int .i64 (s.objs.length : Int)] 3)).heap.size := HPa.out.b.size
    have hcL : v9.cell? ⟨gs, 11, none⟩ = some (.slice (L5 10).A (L5 10).n (L5 10).c) := (HP9.out.a.cell (1 + 10)).trans (stC_list _ _ _ _ (by omega))
    obtain ⟨AL, hAL⟩ : ∃ x, x = (L5 10).A := ⟨_, rfl⟩
    obtain ⟨nL, hnL⟩ : ∃ x, x = (L5 10).n := ⟨_, rfl⟩
    obtain ⟨cL, hcLe⟩ : ∃ x, x = (L5 10).c := ⟨_, rfl⟩
    have hLv : (L5 10).v = .slice AL nL cL := by rw [hAL, hnL, hcLe]; rfl
    rw [← hAL, ← hnL, ← hcLe] at hcL hownL
    rw [← hnL] at hnl
    have HLv := Lib.hid hLv
    clear hAL hnL hcLe hLv
    go_upto_region 45 with (at_builtin; refine wpList_appG rfl (.tmp 68) (.tmp 70) _ rfl .i64 w.heap.size 3 i0 _ 8 Tryd.underlying23 hi hz0 hz1 hz2 rfl AL nL cL (s.lists 10) rfl hownL _ (some ⟨v9.heap.size, 0, none⟩) 1 1 [(s.objs.length : Int)] rfl (Nums.one _ _ _ _) (by omega) (by omega) hbs ?_; intro A10 c10 w10 hown10 hg10 hat10; have hra10 := (hg10.block gs HPa.out.a.lt (fun e => (HPa.out.ne gs (.inr ⟨10, by omega, by rw [HLv.out]; exact e.symm⟩)).2.2 rfl)).trans HPa.out.a; have hcL10 : w10.cell? ⟨gs, 11, none⟩ = some (.slice AL nL cL) := ((cell_of_row w10 gs (1 + 10) _ _ _ hra10).trans (stC_list _ _ _ _ (by omega))).trans (congrArg some HLv.out); have hfL10 := frozen_of_row w10 gs 11 _ _ hra10)
    have HP10 := Lib.hid (HPa.out.list HPB.out (z := 10) (by omega) (by rw [HLv.out]; exact hg10) (y := ⟨A10, nL + 1, c10⟩) hown10 (fun j hj => by
      rcases hat10 with h | h
      · right; rw [HLv.out, ← h]; exact hj
      · left
        have hj : (Value.slice A10 (nL + 1) c10).ownBlock = some j := hj
        rw [h] at hj; injection hj with hj; omega))
    have HP2 := Lib.hid (show AP w ge gr gs ⟨0, a, b, c, 0, 0⟩ ⟨s.objs ++ [madeO a b c], updL s.lists 10 (s.lists 10 ++ [(s.objs.length : Int)]), s.pl, s.gm⟩ ⟨A9, s.objs.length + 1, c9⟩ (updS L5 10 ⟨A10, nL + 1, c10⟩) (w10.setCell ⟨gs, 11, none⟩ (.slice A10 (nL + 1) c10)) from HP10.out)
    have HI := Lib.hid (show I64S ⟨s.objs ++ [madeO a b c], updL s.lists 10 (s.lists 10 ++ [(s.objs.length : Int)]), s.pl, s.gm⟩ from ⟨fun o ho i hi => by
        rcases List.mem_append.1 ho with h | h
        · exact H.out.i64.o o h i hi
        · rw [List.mem_singleton.1 h]; unfold madeO N64; (repeat' split) <;> omega, fun z hz n hn => by
        have hn : n ∈ updL s.lists 10 (s.lists 10 ++ [(s.objs.length : Int)]) z := hn
        by_cases e : z = 10
        · subst e
          rw [updL_at] at hn
          rcases List.mem_append.1 hn with h | h
          · exact H.out.i64.l 10 hz n h
          · rw [List.mem_singleton.1 h]; unfold N64; omega
        · rw [updL_ne _ e] at hn; exact H.out.i64.l z hz n hn, H.out.i64.p, H.out.i64.g⟩)
    obtain ⟨v10, hv10⟩ : ∃ v10, v10 = w10.setCell ⟨gs, 11, none⟩ (.slice A10 (nL + 1) c10) := ⟨_, rfl⟩
    rw [← hv10] at HP2 ⊢
    clear hv10 HP10 hown10 hg10 hat10 hra10 hcL10 hfL10 hcL hownL hbs HPa hbA HP9 hi hz0 hz1 hz2
    have hcs9 := HP2.out.a
    have hr9 := HP2.out.r
    have hb9 := HP2.out.b
    have HRd := Lib.hid (fun cs => HP2.out.final HI.out cs)
    have HRo := Lib.hid (fun cs => HP2.out.finalO cs)
    obtain ⟨cs9, hcs⟩ : ∃ cs9, cs9 = stC (⟨A9, s.objs.length + 1, c9⟩ : SlT) (updS L5 10 ⟨A10, nL + 1, c10⟩) s.pl s.gm := ⟨_, rfl⟩
    have HCs := Lib.hid hcs
    have hcs9 : StAt v10 gs cs9 := by rw [hcs]; exact hcs9
    have hsz9 : (Tryd.prog.info? 29).map (·.size) = some cs9.size := by rw [hcs, stC_size]; exact size37
    have hs09 : st0.size = cs9.size := by rw [hcs, stC_size]; exact stC_size _ _ _ _
    have hone9 : cs9.all (·.oneCell') = true := by rw [hcs]; exact stC_one _ _ _ _
    clear hcs
    go_wp2_with (first
      | (refine wpList_load_row rfl 29 (.tmp 7) rfl gs rfl 29 _ (0, 0) _ hcs9 Tryd.underlying29 rfl hsz9 ?_)
      | (refine wpList_store_row rfl 29 (.tmp 4) (.tmp 266) rfl gr _ rfl rfl 29 st0 hr9 hsz9 hs09 hone9 ?_))
    refine bodyPost_ret (v := .tuple #[.agg cs9, .int .i64 0]) ?_ rfl ⟨cs9, (⟨A9, s.objs.length + 1, c9⟩ : SlT), (updS L5 10 ⟨A10, nL + 1, c10⟩), by rw [HA.out], ?_, ?_, below_setRow hb9 _ _ hwr⟩
    · exact results_cell_tmp (ty := 29) (p := 4) (q := 5) (by kernel_rfl) _ _ gr 29 _ (0, 0) _ rfl (setRow_heap _ _ _ _ _ _ hr9) Tryd.underlying29 rfl hsz9
    · rw [HA.out]
      have := HRd.out cs9
      rw [HCs.out] at this ⊢
      exact this
    · rw [HA.out]
      exact HRo.out _
  · obtain ⟨rfl, rfl, h1⟩ := h1
    have HA0 := Lib.hid (show applyS s ⟨5, a, b, c, 0, 0⟩ = ap5 s ⟨5, a, b, c, 0, 0⟩ from HAp.out)
    have hz18 := st_zero18
    have hnew : (w6.alloc (.cells (arr .i64 18 fun _ => 0) 49)).heap[w6.heap.size]? = some (.cells (arr .i64 18 fun _ => 0) 49 (0, 0)) := heap_alloc_new _ _
    have hsx : (Tryd.prog.info? 49).map (·.size) = some (arr .i64 18 fun _ => 0).size := by rw [arr_size]; exact st_size18
    go_upto_region 19 with (first
      | (refine wpList_buildO0 rfl rfl ?_)
      | (refine wpList_store_row rfl 49 (.tmp 10) (.tmp 76) rfl w6.heap.size _ rfl rfl 49 (arr .i64 18 fun _ => 0) hnew hsx (by rw [arr_size]) (arr_one .i64 18 _) ?_))
    obtain ⟨w7, hw7, hO7, hb7⟩ := ob_box w6 (fun _ => 0)
    rw [← hw7]
    have HP7 := Lib.hid (HP.out.keep hb7)
    have HB7 := Lib.hid hb7
    obtain ⟨g9, hg9⟩ : ∃ g9, g9 = w6.heap.size := ⟨_, rfl⟩
    have hl9 := HP.out.a.lt
    have hA0 : ArrAt .i64 18 49 w7 g9 (fun _ => 0) := by rw [hg9]; exact hO7
    rw [← hg9]
    have hsg : gs < g9 := by omega
    have h69 : w6.heap.size ≤ g9 := by omega
    have h6e : ge < gs := by have := HPB.out.r; have := HPB.out.s; omega
    clear hw7 hnew hsx hz18 hO7 hb7 hg9 hl9 e0 e1 e2 e3 e4 e5
    obtain ⟨e0, e1, e2, e3, e4, e5⟩ := HP7.out.e.cells
    simp only at e0 e1 e2 e3 e4 e5
    have hHeld : EvB w7.drew ge ⟨5, a, b, c, 0, 0⟩ := HP7.out.e
    have hb : Below w6.heap.size w6 w7.drew := HB7.out.drew
    have hA : ArrAt .i64 18 49 w7.drew g9 (fun _ => 0) := hA0
    have l1 : ∀ W, EvB W ge ⟨5, a, b, c, 0, 0⟩ → W.cell? ⟨ge, 1, none⟩ = some (.int .i64 a) := fun W h => h.cells.2.1
    have l2 : ∀ W, EvB W ge ⟨5, a, b, c, 0, 0⟩ → W.cell? ⟨ge, 2, none⟩ = some (.int .i64 b) := fun W h => h.cells.2.2.1
    have l3 : ∀ W, EvB W ge ⟨5, a, b, c, 0, 0⟩ → W.cell? ⟨ge, 3, none⟩ = some (.int .i64 c) := fun W h => h.cells.2.2.2.1
    refine wp_region_held_drew (S := fun W => EvB W ge ⟨5, a, b, c, 0, 0⟩) (by kernel_rfl) hHeld (fun hHeld => ?_)
    obtain ⟨v0, hv0⟩ : ∃ v0, v0 = w7.drew := ⟨_, rfl⟩
    rw [← hv0] at hHeld hb hA ⊢
    clear hv0 hA0
    refine wpAnyH_take (i := 0) (v := ?_) rfl (by kernel_rfl) (by kernel_rfl) (by kernel_rfl) (fun _ _ _ h => h) (Or.inl ⟨by rfl, ?_⟩) hHeld ?_
    rotate_left
    · (intro w hSw; go_simp; (try with_reducible rfl))
    simp only [Act.put, List.getElem_toArray, List.getElem_cons_zero, List.getElem_cons_succ, List.setIfInBounds_toArray, List.set_cons_zero, List.set_cons_succ]
    refine wpAnyH_take (i := 1) (v := ?_) rfl (by kernel_rfl) (by kernel_rfl) (by kernel_rfl) (fun _ _ _ h => h) (Or.inl ⟨by rfl, ?_⟩) hHeld ?_
    rotate_left
    · (intro w hSw; go_simp; (try with_reducible rfl))
    simp only [Act.put, List.getElem_toArray, List.getElem_cons_zero, List.getElem_cons_succ, List.setIfInBounds_toArray, List.set_cons_zero, List.set_cons_succ]
    refine wpAnyH_take (i := 2) (v := ?_) rfl (by kernel_rfl) (by kernel_rfl) (by kernel_rfl) (fun _ _ _ h => h) (Or.inl ⟨by rfl, ?_⟩) hHeld ?_
    rotate_left
    · (intro w hSw; go_simp; (try with_reducible rfl))
    simp only [Act.put, List.getElem_toArray, List.getElem_cons_zero, List.getElem_cons_succ, List.setIfInBounds_toArray, List.set_cons_zero, List.set_cons_succ]
    refine wpAnyH_take (i := 3) (v := ?_) rfl (by kernel_rfl) (by kernel_rfl) (by kernel_rfl) (fun _ _ _ h => h) (Or.inl ⟨by rfl, ?_⟩) hHeld ?_
    rotate_left
    · (intro w hSw; go_simp; (try with_reducible rfl))
    simp only [Act.put, List.getElem_toArray, List.getElem_cons_zero, List.getElem_cons_succ, List.setIfInBounds_toArray, List.set_cons_zero, List.set_cons_succ]
    refine wpAnyH_take (i := 4) (v := ?_) rfl (by kernel_rfl) (by kernel_rfl) (by kernel_rfl) (fun _ _ _ h => h) (Or.inl ⟨by rfl, ?_⟩) hHeld ?_
    rotate_left
    · (intro w hSw; go_simp; (try with_reducible rfl))
    simp only [Act.put, List.getElem_toArray, List.getElem_cons_zero, List.getElem_cons_succ, List.setIfInBounds_toArray, List.set_cons_zero, List.set_cons_succ]
    refine wpAnyH_take (i := 5) (v := ?_) rfl (by kernel_rfl) (by kernel_rfl) (by kernel_rfl) (fun _ _ _ h => h) (Or.inl ⟨by rfl, ?_⟩) hHeld ?_
    rotate_left
    · (intro w hSw; go_simp; (try with_reducible rfl))
    simp only [Act.put, List.getElem_toArray, List.getElem_cons_zero, List.getElem_cons_succ, List.setIfInBounds_toArray, List.set_cons_zero, List.set_cons_succ]
    refine wpAnyH_take (i := 6) (v := ?_) rfl (by kernel_rfl) (by kernel_rfl) (by kernel_rfl) (fun _ _ _ h => h) (Or.inl ⟨by rfl, ?_⟩) hHeld ?_
    rotate_left
    · (intro w hSw; go_simp; (try with_reducible rfl))
    simp only [Act.put, List.getElem_toArray, List.getElem_cons_zero, List.getElem_cons_succ, List.setIfInBounds_toArray, List.set_cons_zero, List.set_cons_succ]
    refine wpAnyH_take (i := 7) (v := ?_) rfl (by kernel_rfl) (by kernel_rfl) (by kernel_rfl) (fun _ _ _ h => h) (Or.inl ⟨by rfl, ?_⟩) hHeld ?_
    rotate_left
    · (intro w hSw; go_simp; (try with_reducible rfl))
    simp only [Act.put, List.getElem_toArray, List.getElem_cons_zero, List.getElem_cons_succ, List.setIfInBounds_toArray, List.set_cons_zero, List.set_cons_succ]
    refine wpAnyH_take (i := 8) (v := ?_) rfl (by kernel_rfl) (by kernel_rfl) (by kernel_rfl) (fun _ _ _ h => h) (Or.inl ⟨by rfl, ?_⟩) hHeld ?_
    rotate_left
    · (intro w hSw; go_simp; (try with_reducible rfl))
    simp only [Act.put, List.getElem_toArray, List.getElem_cons_zero, List.getElem_cons_succ, List.setIfInBounds_toArray, List.set_cons_zero, List.set_cons_succ]
    have x0 := hA.cell (show 0 < 18 by omega)
    have y0 := hA.frozen 0
    obtain ⟨v1, hv1⟩ : ∃ v1, v1 = v0.setCell ⟨g9, 0, none⟩ (.int .i64 a) := ⟨_, rfl⟩
    have HV1 := Lib.hid hv1
    have hA1 : ArrAt .i64 18 49 v1 g9 (updI (fun _ => 0) 0 a) := by rw [hv1]; exact hA.set_ 0 a
    have hE1 : EvB v1 ge ⟨5, a, b, c, 0, 0⟩ := by rw [hv1]; exact hHeld.far (show ge ≠ g9 by omega) 0 (.int .i64 a)
    have hb1 : Below w6.heap.size w6 v1 := by rw [hv1]; exact hb.setCell (p := ⟨g9, 0, none⟩) (show w6.heap.size ≤ g9 from h69) (.int .i64 a)
    clear hv1
    refine wpAnyH_ready (rs := [9]) (by kernel_rfl) (by simp) ?_
    refine AllReadyH.cons rfl (fun K hK => ?_) AllReadyH.nil
    simp only [List.getElem_toArray, List.getElem_cons_zero, List.getElem_cons_succ]
    go_simp
    rw [← HV1.out]
    refine hK.out _ _ hE1 (fun _ => ?_)
    try simp only [Act.put, List.setIfInBounds_toArray, List.set_cons_zero, List.set_cons_succ]
    clear hK K x0 y0 HV1 hHeld hb hA
    obtain ⟨v0, rfl⟩ : ∃ v0, v0 = v1 := ⟨_, rfl⟩
    have hHeld := hE1
    have hb := hb1
    have hA := hA1
    clear hE1 hb1 hA1
    refine wpAnyH_take (i := 10) (v := ?_) rfl (by kernel_rfl) (by kernel_rfl) (by kernel_rfl) (fun _ _ _ h => h) (Or.inl ⟨by rfl, ?_⟩) hHeld ?_
    rotate_left
    · (intro w hSw; go_simp; (try with_reducible rfl))
    simp only [Act.put, List.getElem_toArray, List.getElem_cons_zero, List.getElem_cons_succ, List.setIfInBounds_toArray, List.set_cons_zero, List.set_cons_succ]
    have x0 := hA.cell (show 1 < 18 by omega)
    have y0 := hA.frozen 1
    obtain ⟨v1, hv1⟩ : ∃ v1, v1 = v0.setCell ⟨g9, 1, none⟩ (.int .i64 b) := ⟨_, rfl⟩
    have HV1 := Lib.hid hv1
    have hA1 : ArrAt .i64 18 49 v1 g9 (updI (updI (fun _ => 0) 0 a) 1 b) := by rw [hv1]; exact hA.set_ 1 b
    have hE1 : EvB v1 ge ⟨5, a, b, c, 0, 0⟩ := by rw [hv1]; exact hHeld.far (show ge ≠ g9 by omega) 1 (.int .i64 b)
    have hb1 : Below w6.heap.size w6 v1 := by rw [hv1]; exact hb.setCell (p := ⟨g9, 1, none⟩) (show w6.heap.size ≤ g9 from h69) (.int .i64 b)
    clear hv1
    refine wpAnyH_ready (rs := [11]) (by kernel_rfl) (by simp) ?_
    refine AllReadyH.cons rfl (fun K hK => ?_) AllReadyH.nil
    simp only [List.getElem_toArray, List.getElem_cons_zero, List.getElem_cons_succ]
    go_simp
    rw [← HV1.out]
    refine hK.out _ _ hE1 (fun _ => ?_)
    try simp only [Act.put, List.setIfInBounds_toArray, List.set_cons_zero, List.set_cons_succ]
    clear hK K x0 y0 HV1 hHeld hb hA
    obtain ⟨v0, rfl⟩ : ∃ v0, v0 = v1 := ⟨_, rfl⟩
    have hHeld := hE1
    have hb := hb1
    have hA := hA1
    clear hE1 hb1 hA1
    refine wpAnyH_take (i := 12) (v := ?_) rfl (by kernel_rfl) (by kernel_rfl) (by kernel_rfl) (fun _ _ _ h => h) (Or.inl ⟨by rfl, ?_⟩) hHeld ?_
    rotate_left
    · (intro w hSw; go_simp; (try with_reducible rfl))
    simp only [Act.put, List.getElem_toArray, List.getElem_cons_zero, List.getElem_cons_succ, List.setIfInBounds_toArray, List.set_cons_zero, List.set_cons_succ]
    have x0 := hA.cell (show 2 < 18 by omega)
    have y0 := hA.frozen 2
    obtain ⟨v1, hv1⟩ : ∃ v1, v1 = v0.setCell ⟨g9, 2, none⟩ (.int .i64 b) := ⟨_, rfl⟩
    have HV1 := Lib.hid hv1
    have hA1 : ArrAt .i64 18 49 v1 g9 (updI (updI (updI (fun _ => 0) 0 a) 1 b) 2 b) := by rw [hv1]; exact hA.set_ 2 b
    have hE1 : EvB v1 ge ⟨5, a, b, c, 0, 0⟩ := by rw [hv1]; exact hHeld.far (show ge ≠ g9 by omega) 2 (.int .i64 b)
    have hb1 : Below w6.heap.size w6 v1 := by rw [hv1]; exact hb.setCell (p := ⟨g9, 2, none⟩) (show w6.heap.size ≤ g9 from h69) (.int .i64 b)
    clear hv1
    refine wpAnyH_ready (rs := [13]) (by kernel_rfl) (by simp) ?_
    refine AllReadyH.cons rfl (fun K hK => ?_) AllReadyH.nil
    simp only [List.getElem_toArray, List.getElem_cons_zero, List.getElem_cons_succ]
    go_simp
    rw [← HV1.out]
    refine hK.out _ _ hE1 (fun _ => ?_)
    try simp only [Act.put, List.setIfInBounds_toArray, List.set_cons_zero, List.set_cons_succ]
    clear hK K x0 y0 HV1 hHeld hb hA
    obtain ⟨v0, rfl⟩ : ∃ v0, v0 = v1 := ⟨_, rfl⟩
    have hHeld := hE1
    have hb := hb1
    have hA := hA1
    clear hE1 hb1 hA1
    refine wpAnyH_take (i := 14) (v := ?_) rfl (by kernel_rfl) (by kernel_rfl) (by kernel_rfl) (fun _ _ _ h => h) (Or.inl ⟨by rfl, ?_⟩) hHeld ?_
    rotate_left
    · (intro w hSw; go_simp; (try with_reducible rfl))
    simp only [Act.put, List.getElem_toArray, List.getElem_cons_zero, List.getElem_cons_succ, List.setIfInBounds_toArray, List.set_cons_zero, List.set_cons_succ]
    have x0 := hA.cell (show 3 < 18 by omega)
    have y0 := hA.frozen 3
    obtain ⟨v1, hv1⟩ : ∃ v1, v1 = v0.setCell ⟨g9, 3, none⟩ (.int .i64 10) := ⟨_, rfl⟩
    have HV1 := Lib.hid hv1
    have hA1 : ArrAt .i64 18 49 v1 g9 (updI (updI (updI (updI (fun _ => 0) 0 a) 1 b) 2 b) 3 10) := by rw [hv1]; exact hA.set_ 3 10
    have hE1 : EvB v1 ge ⟨5, a, b, c, 0, 0⟩ := by rw [hv1]; exact hHeld.far (show ge ≠ g9 by omega) 3 (.int .i64 10)
    have hb1 : Below w6.heap.size w6 v1 := by rw [hv1]; exact hb.setCell (p := ⟨g9, 3, none⟩) (show w6.heap.size ≤ g9 from h69) (.int .i64 10)
    clear hv1
    refine wpAnyH_ready (rs := [15]) (by kernel_rfl) (by simp) ?_
    refine AllReadyH.cons rfl (fun K hK => ?_) AllReadyH.nil
    simp only [List.getElem_toArray, List.getElem_cons_zero, List.getElem_cons_succ]
    go_simp
    rw [← HV1.out]
    refine hK.out _ _ hE1 (fun _ => ?_)
    try simp only [Act.put, List.setIfInBounds_toArray, List.set_cons_zero, List.set_cons_succ]
    clear hK K x0 y0 HV1 hHeld hb hA
    obtain ⟨v0, rfl⟩ : ∃ v0, v0 = v1 := ⟨_, rfl⟩
    have hHeld := hE1
    have hb := hb1
    have hA := hA1
    clear hE1 hb1 hA1
    refine wpAnyH_take (i := 16) (v := ?_) rfl (by kernel_rfl) (by kernel_rfl) (by kernel_rfl) (fun _ _ _ h => h) (Or.inl ⟨by rfl, ?_⟩) hHeld ?_
    rotate_left
    · (intro w hSw; go_simp; (try with_reducible rfl))
    simp only [Act.put, List.getElem_toArray, List.getElem_cons_zero, List.getElem_cons_succ, List.setIfInBounds_toArray, List.set_cons_zero, List.set_cons_succ]
    have x0 := hA.cell (show 13 < 18 by omega)
    have y0 := hA.frozen 13
    obtain ⟨v1, hv1⟩ : ∃ v1, v1 = v0.setCell ⟨g9, 13, none⟩ (.int .i64 c) := ⟨_, rfl⟩
    have HV1 := Lib.hid hv1
    have hA1 : ArrAt .i64 18 49 v1 g9 (updI (updI (updI (updI (updI (fun _ => 0) 0 a) 1 b) 2 b) 3 10) 13 c) := by rw [hv1]; exact hA.set_ 13 c
    have hE1 : EvB v1 ge ⟨5, a, b, c, 0, 0⟩ := by rw [hv1]; exact hHeld.far (show ge ≠ g9 by omega) 13 (.int .i64 c)
    have hb1 : Below w6.heap.size w6 v1 := by rw [hv1]; exact hb.setCell (p := ⟨g9, 13, none⟩) (show w6.heap.size ≤ g9 from h69) (.int .i64 c)
    clear hv1
    refine wpAnyH_ready (rs := [17]) (by kernel_rfl) (by simp) ?_
    refine AllReadyH.cons rfl (fun K hK => ?_) AllReadyH.nil
    simp only [List.getElem_toArray, List.getElem_cons_zero, List.getElem_cons_succ]
    go_simp
    rw [← HV1.out]
    refine hK.out _ _ hE1 (fun _ => ?_)
    try simp only [Act.put, List.setIfInBounds_toArray, List.set_cons_zero, List.set_cons_succ]
    clear hK K x0 y0 HV1 hHeld hb hA
    obtain ⟨v0, rfl⟩ : ∃ v0, v0 = v1 := ⟨_, rfl⟩
    have hHeld := hE1
    have hb := hb1
    have hA := hA1
    clear hE1 hb1 hA1
    refine wpAnyH_take (i := 18) (v := ?_) rfl (by kernel_rfl) (by kernel_rfl) (by kernel_rfl) (fun _ _ _ h => h) (Or.inl ⟨by rfl, ?_⟩) hHeld ?_
    rotate_left
    · (intro w hSw; go_simp; (try with_reducible rfl))
    simp only [Act.put, List.getElem_toArray, List.getElem_cons_zero, List.getElem_cons_succ, List.setIfInBounds_toArray, List.set_cons_zero, List.set_cons_succ]
    have x0 := hA.cell (show 17 < 18 by omega)
    have y0 := hA.frozen 17
    obtain ⟨v1, hv1⟩ : ∃ v1, v1 = v0.setCell ⟨g9, 17, none⟩ (.int .i64 3) := ⟨_, rfl⟩
    have HV1 := Lib.hid hv1
    have hA1 : ArrAt .i64 18 49 v1 g9 (updI (updI (updI (updI (updI (updI (fun _ => 0) 0 a) 1 b) 2 b) 3 10) 13 c) 17 3) := by rw [hv1]; exact hA.set_ 17 3
    have hE1 : EvB v1 ge ⟨5, a, b, c, 0, 0⟩ := by rw [hv1]; exact hHeld.far (show ge ≠ g9 by omega) 17 (.int .i64 3)
    have hb1 : Below w6.heap.size w6 v1 := by rw [hv1]; exact hb.setCell (p := ⟨g9, 17, none⟩) (show w6.heap.size ≤ g9 from h69) (.int .i64 3)
    clear hv1
    refine wpAnyH_ready (rs := [19]) (by kernel_rfl) (by simp) ?_
    refine AllReadyH.cons rfl (fun K hK => ?_) AllReadyH.nil
    simp only [List.getElem_toArray, List.getElem_cons_zero, List.getElem_cons_succ]
    go_simp
    rw [← HV1.out]
    refine hK.out _ _ hE1 (fun _ => ?_)
    try simp only [Act.put, List.setIfInBounds_toArray, List.set_cons_zero, List.set_cons_succ]
    clear hK K x0 y0 HV1 hHeld hb hA
    obtain ⟨v0, rfl⟩ : ∃ v0, v0 = v1 := ⟨_, rfl⟩
    have hHeld := hE1
    have hb := hb1
    have hA := hA1
    clear hE1 hb1 hA1
    refine wpAnyH_done (by kernel_rfl) ?_ _
    rw [made_upd] at hA
    have HO8 := Lib.hid (show ObAt v0 g9 (madeO a b c) from hA)
    have HP8 := Lib.hid (HP.out.keep hb)
    clear hb hA l1 l2 l3 hHeld HB7 HP7 HP e0 e1 e2 e3 e4 e5
    have hnL : (L5 10).n = (s.lists 10).length := (HP8.out.o.l 10 (by omega)).1.symm
    have hcL : v0.cell? ⟨gs, 11, none⟩ = some (.slice (L5 10).A (L5 10).n (L5 10).c) := (HP8.out.a.cell (1 + 10)).trans (stC_list _ _ _ _ (by omega))
    obtain ⟨nL, hnLe⟩ : ∃ x, x = (s.lists 10).length := ⟨_, rfl⟩
    rw [hnL, ← hnLe] at hcL
    obtain ⟨AL, hAL⟩ : ∃ x, x = (L5 10).A := ⟨_, rfl⟩
    obtain ⟨cL, hcLe⟩ : ∃ x, x = (L5 10).c := ⟨_, rfl⟩
    have HLv := Lib.hid (show (L5 10).v = .slice AL nL cL by rw [hAL, hnLe, ← hnL, hcLe]; rfl)
    rw [← hAL, ← hcLe] at hcL
    have HnL := Lib.hid hnLe
    clear hnL hnLe hAL hcLe
    go_upto_region 21 with fail
    have hcO : v0.cell? ⟨gs, 0, none⟩ = some (.slice A5 s.objs.length c5) := (HP8.out.a.cell 0).trans (stC_objs _ _ _ _)
    have hlL : ∀ W, Below v0.heap.size v0 W → W.cell? ⟨gs, 11, none⟩ = some (.slice AL nL cL) := fun W hW => (hW.cell (World.block_lt_of_cell? v0 _ hcL)).trans hcL
    have hlO : ∀ W, Below v0.heap.size v0 W → W.cell? ⟨gs, 0, none⟩ = some (.slice A5 s.objs.length c5) := fun W hW => (hW.cell (World.block_lt_of_cell? v0 _ hcO)).trans hcO
    have hr9 : StAt v0.drew gr st0 := HP8.out.r
    have hb9 : Below w.heap.size w v0.drew := HP8.out.b.drew
    clear hcL hcO
    by_cases hn0 : s.objs.length = 0
    · have HA := Lib.hid (show applyS s ⟨5, a, b, c, 0, 0⟩ = (sT0, 20) by
        rw [HA0.out]; unfold ap5; rw [if_pos (.inl hn0)])
      have d0 : ((s.objs.length : Int) == 0) = true := by rw [beq_iff_eq]; omega
      clear hn0
      refine wp_region_held_drew (S := fun W => Below v0.heap.size v0 W) (by kernel_rfl) (Below.refl _ _).drew (fun hHeld => ?_)
      refine wpAnyH_take (i := 0) (v := ?_) rfl (by kernel_rfl) (by kernel_rfl) (by kernel_rfl) (fun _ _ _ h => h) (Or.inl ⟨by rfl, ?_⟩) hHeld ?_
      rotate_left
      · (intro w hSw; go_simp; (try with_reducible rfl))
      simp only [Act.put, List.getElem_toArray, List.getElem_cons_zero, List.getElem_cons_succ, List.setIfInBounds_toArray, List.set_cons_zero, List.set_cons_succ]
      refine wpAnyH_take (i := 1) (v := ?_) rfl (by kernel_rfl) (by kernel_rfl) (by kernel_rfl) (fun _ _ _ h => h) (Or.inl ⟨by rfl, ?_⟩) hHeld ?_
      rotate_left
      · (intro w hSw; go_simp; (try with_reducible rfl))
      simp only [Act.put, List.getElem_toArray, List.getElem_cons_zero, List.getElem_cons_succ, List.setIfInBounds_toArray, List.set_cons_zero, List.set_cons_succ]
      refine wpAnyH_take (i := 2) (v := ?_) rfl (by kernel_rfl) (by kernel_rfl) (by kernel_rfl) (fun _ _ _ h => h) (Or.inl ⟨by rfl, ?_⟩) hHeld ?_
      rotate_left
      · (intro w hSw; go_simp; (try with_reducible rfl))
      simp only [Act.put, List.getElem_toArray, List.getElem_cons_zero, List.getElem_cons_succ, List.setIfInBounds_toArray, List.set_cons_zero, List.set_cons_succ]
      refine wpAnyH_take (i := 3) (v := undef) rfl (by kernel_rfl) (by kernel_rfl) (by kernel_rfl) (fun _ _ _ h => h) (Or.inr ⟨by rfl, rfl⟩) hHeld ?_
      simp only [Act.put, List.getElem_toArray, List.getElem_cons_zero, List.getElem_cons_succ, List.setIfInBounds_toArray, List.set_cons_zero, List.set_cons_succ]
      refine wpAnyH_take (i := 4) (v := undef) rfl (by kernel_rfl) (by kernel_rfl) (by kernel_rfl) (fun _ _ _ h => h) (Or.inr ⟨by rfl, rfl⟩) hHeld ?_
      simp only [Act.put, List.getElem_toArray, List.getElem_cons_zero, List.getElem_cons_succ, List.setIfInBounds_toArray, List.set_cons_zero, List.set_cons_succ]
      refine wpAnyH_take (i := 5) (v := ?_) rfl (by kernel_rfl) (by kernel_rfl) (by kernel_rfl) (fun _ _ _ h => h) (Or.inl ⟨by rfl, ?_⟩) hHeld ?_
      rotate_left
      · (intro w hSw; go_simp; (try with_reducible rfl))
      simp only [Act.put, List.getElem_toArray, List.getElem_cons_zero, List.getElem_cons_succ, List.setIfInBounds_toArray, List.set_cons_zero, List.set_cons_succ]
      refine wpAnyH_take (i := 6) (v := ?_) rfl (by kernel_rfl) (by kernel_rfl) (by kernel_rfl) (fun _ _ _ h => h) (Or.inl ⟨by rfl, ?_⟩) hHeld ?_
      rotate_left
      · (intro w hSw; go_simp; (try with_reducible rfl))
      simp only [Act.put, List.getElem_toArray, List.getElem_cons_zero, List.getElem_cons_succ, List.setIfInBounds_toArray, List.set_cons_zero, List.set_cons_succ]
      refine wpAnyH_take (i := 7) (v := undef) rfl (by kernel_rfl) (by kernel_rfl) (by kernel_rfl) (fun _ _ _ h => h) (Or.inr ⟨by rfl, rfl⟩) hHeld ?_
      simp only [Act.put, List.getElem_toArray, List.getElem_cons_zero, List.getElem_cons_succ, List.setIfInBounds_toArray, List.set_cons_zero, List.set_cons_succ]
      refine wpAnyH_take (i := 8) (v := undef) rfl (by kernel_rfl) (by kernel_rfl) (by kernel_rfl) (fun _ _ _ h => h) (Or.inr ⟨by rfl, rfl⟩) hHeld ?_
      simp only [Act.put, List.getElem_toArray, List.getElem_cons_zero, List.getElem_cons_succ, List.setIfInBounds_toArray, List.set_cons_zero, List.set_cons_succ]
      refine wpAnyH_take (i := 9) (v := undef) rfl (by kernel_rfl) (by kernel_rfl) (by kernel_rfl) (fun _ _ _ h => h) (Or.inr ⟨by rfl, rfl⟩) hHeld ?_
      simp only [Act.put, List.getElem_toArray, List.getElem_cons_zero, List.getElem_cons_succ, List.setIfInBounds_toArray, List.set_cons_zero, List.set_cons_succ]
      refine wpAnyH_take (i := 10) (v := undef) rfl (by kernel_rfl) (by kernel_rfl) (by kernel_rfl) (fun _ _ _ h => h) (Or.inr ⟨by rfl, rfl⟩) hHeld ?_
      simp only [Act.put, List.getElem_toArray, List.getElem_cons_zero, List.getElem_cons_succ, List.setIfInBounds_toArray, List.set_cons_zero, List.set_cons_succ]
      refine wpAnyH_take (i := 11) (v := undef) rfl (by kernel_rfl) (by kernel_rfl) (by kernel_rfl) (fun _ _ _ h => h) (Or.inr ⟨by rfl, rfl⟩) hHeld ?_
      simp only [Act.put, List.getElem_toArray, List.getElem_cons_zero, List.getElem_cons_succ, List.setIfInBounds_toArray, List.set_cons_zero, List.set_cons_succ]
      refine wpAnyH_take (i := 12) (v := undef) rfl (by kernel_rfl) (by kernel_rfl) (by kernel_rfl) (fun _ _ _ h => h) (Or.inr ⟨by rfl, rfl⟩) hHeld ?_
      simp only [Act.put, List.getElem_toArray, List.getElem_cons_zero, List.getElem_cons_succ, List.setIfInBounds_toArray, List.set_cons_zero, List.set_cons_succ]
      refine wpAnyH_take (i := 13) (v := undef) rfl (by kernel_rfl) (by kernel_rfl) (by kernel_rfl) (fun _ _ _ h => h) (Or.inr ⟨by rfl, rfl⟩) hHeld ?_
      simp only [Act.put, List.getElem_toArray, List.getElem_cons_zero, List.getElem_cons_succ, List.setIfInBounds_toArray, List.set_cons_zero, List.set_cons_succ]
      refine wpAnyH_take (i := 14) (v := undef) rfl (by kernel_rfl) (by kernel_rfl) (by kernel_rfl) (fun _ _ _ h => h) (Or.inr ⟨by rfl, rfl⟩) hHeld ?_
      simp only [Act.put, List.getElem_toArray, List.getElem_cons_zero, List.getElem_cons_succ, List.setIfInBounds_toArray, List.set_cons_zero, List.set_cons_succ]
      refine wpAnyH_take (i := 15) (v := undef) rfl (by kernel_rfl) (by kernel_rfl) (by kernel_rfl) (fun _ _ _ h => h) (Or.inr ⟨by rfl, rfl⟩) hHeld ?_
      simp only [Act.put, List.getElem_toArray, List.getElem_cons_zero, List.getElem_cons_succ, List.setIfInBounds_toArray, List.set_cons_zero, List.set_cons_succ]
      refine wpAnyH_take (i := 16) (v := undef) rfl (by kernel_rfl) (by kernel_rfl) (by kernel_rfl) (fun _ _ _ h => h) (Or.inr ⟨by rfl, rfl⟩) hHeld ?_
      simp only [Act.put, List.getElem_toArray, List.getElem_cons_zero, List.getElem_cons_succ, List.setIfInBounds_toArray, List.set_cons_zero, List.set_cons_succ]
      refine wpAnyH_take (i := 17) (v := ?_) rfl (by kernel_rfl) (by kernel_rfl) (by kernel_rfl) (fun _ _ _ h => h) (Or.inl ⟨by rfl, ?_⟩) hHeld ?_
      rotate_left
      · (intro w hSw; go_simp; (try with_reducible rfl))
      simp only [Act.put, List.getElem_toArray, List.getElem_cons_zero, List.getElem_cons_succ, List.setIfInBounds_toArray, List.set_cons_zero, List.set_cons_succ]
      refine wpAnyH_take (i := 18) (v := ?_) rfl (by kernel_rfl) (by kernel_rfl) (by kernel_rfl) (fun _ _ _ h => h) (Or.inl ⟨by rfl, ?_⟩) hHeld ?_
      rotate_left
      · (intro w hSw; go_simp; (try with_reducible rfl))
      simp only [Act.put, List.getElem_toArray, List.getElem_cons_zero, List.getElem_cons_succ, List.setIfInBounds_toArray, List.set_cons_zero, List.set_cons_succ]
      refine wpAnyH_take (i := 19) (v := undef) rfl (by kernel_rfl) (by kernel_rfl) (by kernel_rfl) (fun _ _ _ h => h) (Or.inr ⟨by rfl, rfl⟩) hHeld ?_
      simp only [Act.put, List.getElem_toArray, List.getElem_cons_zero, List.getElem_cons_succ, List.setIfInBounds_toArray, List.set_cons_zero, List.set_cons_succ]
      refine wpAnyH_take (i := 20) (v := undef) rfl (by kernel_rfl) (by kernel_rfl) (by kernel_rfl) (fun _ _ _ h => h) (Or.inr ⟨by rfl, rfl⟩) hHeld ?_
      simp only [Act.put, List.getElem_toArray, List.getElem_cons_zero, List.getElem_cons_succ, List.setIfInBounds_toArray, List.set_cons_zero, List.set_cons_succ]
      refine wpAnyH_take (i := 21) (v := undef) rfl (by kernel_rfl) (by kernel_rfl) (by kernel_rfl) (fun _ _ _ h => h) (Or.inr ⟨by rfl, rfl⟩) hHeld ?_
      simp only [Act.put, List.getElem_toArray, List.getElem_cons_zero, List.getElem_cons_succ, List.setIfInBounds_toArray, List.set_cons_zero, List.set_cons_succ]
      refine wpAnyH_take (i := 22) (v := undef) rfl (by kernel_rfl) (by kernel_rfl) (by kernel_rfl) (fun _ _ _ h => h) (Or.inr ⟨by rfl, rfl⟩) hHeld ?_
      simp only [Act.put, List.getElem_toArray, List.getElem_cons_zero, List.getElem_cons_succ, List.setIfInBounds_toArray, List.set_cons_zero, List.set_cons_succ]
      refine wpAnyH_take (i := 23) (v := undef) rfl (by kernel_rfl) (by kernel_rfl) (by kernel_rfl) (fun _ _ _ h => h) (Or.inr ⟨by rfl, rfl⟩) hHeld ?_
      simp only [Act.put, List.getElem_toArray, List.getElem_cons_zero, List.getElem_cons_succ, List.setIfInBounds_toArray, List.set_cons_zero, List.set_cons_succ]
      refine wpAnyH_take (i := 24) (v := undef) rfl (by kernel_rfl) (by kernel_rfl) (by kernel_rfl) (fun _ _ _ h => h) (Or.inr ⟨by rfl, rfl⟩) hHeld ?_
      simp only [Act.put, List.getElem_toArray, List.getElem_cons_zero, List.getElem_cons_succ, List.setIfInBounds_toArray, List.set_cons_zero, List.set_cons_succ]
      refine wpAnyH_take (i := 25) (v := undef) rfl (by kernel_rfl) (by kernel_rfl) (by kernel_rfl) (fun _ _ _ h => h) (Or.inr ⟨by rfl, rfl⟩) hHeld ?_
      simp only [Act.put, List.getElem_toArray, List.getElem_cons_zero, List.getElem_cons_succ, List.setIfInBounds_toArray, List.set_cons_zero, List.set_cons_succ]
      refine wpAnyH_take (i := 26) (v := undef) rfl (by kernel_rfl) (by kernel_rfl) (by kernel_rfl) (fun _ _ _ h => h) (Or.inr ⟨by rfl, rfl⟩) hHeld ?_
      simp only [Act.put, List.getElem_toArray, List.getElem_cons_zero, List.getElem_cons_succ, List.setIfInBounds_toArray, List.set_cons_zero, List.set_cons_succ]
      refine wpAnyH_take (i := 27) (v := ?_) rfl (by kernel_rfl) (by kernel_rfl) (by kernel_rfl) (fun _ _ _ h => h) (Or.inl ⟨by rfl, ?_⟩) hHeld ?_
      rotate_left
      · (intro w hSw; go_simp; (try with_reducible rfl))
      simp only [Act.put, List.getElem_toArray, List.getElem_cons_zero, List.getElem_cons_succ, List.setIfInBounds_toArray, List.set_cons_zero, List.set_cons_succ]
      refine wpAnyH_done (by kernel_rfl) ?_ _
      go_upto_region 22 with fail
      clear hHeld hlL hlO
      have hsz0 := st0_size'
      have hone0 := st0_one'
      go_wp2_with (first
        | (refine wpList_build0 rfl rfl ?_)
        | (refine wpList_store_row rfl 29 (.tmp 4) (.tmp 123) rfl gr _ rfl rfl 29 st0 hr9 hsz0 rfl hone0 ?_))
      refine bodyPost_ret (v := .tuple #[.agg st0, .int .i64 20]) ?_ rfl ⟨st0, nilS, fun _ => nilS, by rw [HA.out], by rw [HA.out]; exact reads_0 _ _, by rw [HA.out]; exact own_zero _ _, below_setRow hb9 _ _ hwr⟩
      exact results_cell_tmp (ty := 29) (p := 4) (q := 5) (by kernel_rfl) _ _ gr 29 _ (0, 0) _ rfl (setRow_heap _ _ _ _ _ _ hr9) Tryd.underlying29 rfl hsz0
    have d0 : ((s.objs.length : Int) == 0) = false := beq_eq_false_iff_ne.2 (by omega)
    by_cases hn1 : nL = 0
    · have HA := Lib.hid (show applyS s ⟨5, a, b, c, 0, 0⟩ = (sT0, 20) by
        rw [HA0.out]; unfold ap5; rw [if_pos (.inr (.inl (by rw [← HnL.out]; exact hn1)))])
      have d1 : ((nL : Int) == 0) = true := by rw [beq_iff_eq]; omega
      clear hn0 hn1
      refine wp_region_held_drew (S := fun W => Below v0.heap.size v0 W) (by kernel_rfl) (Below.refl _ _).drew (fun hHeld => ?_)
      refine wpAnyH_take (i := 0) (v := ?_) rfl (by kernel_rfl) (by kernel_rfl) (by kernel_rfl) (fun _ _ _ h => h) (Or.inl ⟨by rfl, ?_⟩) hHeld ?_
      rotate_left
      · (intro w hSw; go_simp; (try with_reducible rfl))
      simp only [Act.put, List.getElem_toArray, List.getElem_cons_zero, List.getElem_cons_succ, List.setIfInBounds_toArray, List.set_cons_zero, List.set_cons_succ]
      refine wpAnyH_take (i := 1) (v := ?_) rfl (by kernel_rfl) (by kernel_rfl) (by kernel_rfl) (fun _ _ _ h => h) (Or.inl ⟨by rfl, ?_⟩) hHeld ?_
      rotate_left
      · (intro w hSw; go_simp; (try with_reducible rfl))
      simp only [Act.put, List.getElem_toArray, List.getElem_cons_zero, List.getElem_cons_succ, List.setIfInBounds_toArray, List.set_cons_zero, List.set_cons_succ]
      refine wpAnyH_take (i := 2) (v := ?_) rfl (by kernel_rfl) (by kernel_rfl) (by kernel_rfl) (fun _ _ _ h => h) (Or.inl ⟨by rfl, ?_⟩) hHeld ?_
      rotate_left
      · (intro w hSw; go_simp; (try with_reducible rfl))
      simp only [Act.put, List.getElem_toArray, List.getElem_cons_zero, List.getElem_cons_succ, List.setIfInBounds_toArray, List.set_cons_zero, List.set_cons_succ]
      refine wpAnyH_take (i := 3) (v := ?_) rfl (by kernel_rfl) (by kernel_rfl) (by kernel_rfl) (fun _ _ _ h => h) (Or.inl ⟨by rfl, ?_⟩) hHeld ?_
      rotate_left
      · (intro w hSw; go_simp; (try with_reducible rfl))
      simp only [Act.put, List.getElem_toArray, List.getElem_cons_zero, List.getElem_cons_succ, List.setIfInBounds_toArray, List.set_cons_zero, List.set_cons_succ]
      refine wpAnyH_take (i := 4) (v := ?_) rfl (by kernel_rfl) (by kernel_rfl) (by kernel_rfl) (fun _ _ _ h => h) (Or.inl ⟨by rfl, ?_⟩) hHeld ?_
      rotate_left
      · (intro w hSw; go_simp; (try with_reducible rfl))
      simp only [Act.put, List.getElem_toArray, List.getElem_cons_zero, List.getElem_cons_succ, List.setIfInBounds_toArray, List.set_cons_zero, List.set_cons_succ]
      refine wpAnyH_take (i := 5) (v := ?_) rfl (by kernel_rfl) (by kernel_rfl) (by kernel_rfl) (fun _ _ _ h => h) (Or.inl ⟨by rfl, ?_⟩) hHeld ?_
      rotate_left
      · (intro w hSw; go_simp; (try with_reducible rfl))
      simp only [Act.put, List.getElem_toArray, List.getElem_cons_zero, List.getElem_cons_succ, List.setIfInBounds_toArray, List.set_cons_zero, List.set_cons_succ]
      refine wpAnyH_take (i := 6) (v := ?_) rfl (by kernel_rfl) (by kernel_rfl) (by kernel_rfl) (fun _ _ _ h => h) (Or.inl ⟨by rfl, ?_⟩) hHeld ?_
      rotate_left
      · (intro w hSw; go_simp; (try with_reducible rfl))
      simp only [Act.put, List.getElem_toArray, List.getElem_cons_zero, List.getElem_cons_succ, List.setIfInBounds_toArray, List.set_cons_zero, List.set_cons_succ]
      refine wpAnyH_take (i := 7) (v := undef) rfl (by kernel_rfl) (by kernel_rfl) (by kernel_rfl) (fun _ _ _ h => h) (Or.inr ⟨by rfl, rfl⟩) hHeld ?_
      simp only [Act.put, List.getElem_toArray, List.getElem_cons_zero, List.getElem_cons_succ, List.setIfInBounds_toArray, List.set_cons_zero, List.set_cons_succ]
      refine wpAnyH_take (i := 8) (v := undef) rfl (by kernel_rfl) (by kernel_rfl) (by kernel_rfl) (fun _ _ _ h => h) (Or.inr ⟨by rfl, rfl⟩) hHeld ?_
      simp only [Act.put, List.getElem_toArray, List.getElem_cons_zero, List.getElem_cons_succ, List.setIfInBounds_toArray, List.set_cons_zero, List.set_cons_succ]
      refine wpAnyH_take (i := 9) (v := undef) rfl (by kernel_rfl) (by kernel_rfl) (by kernel_rfl) (fun _ _ _ h => h) (Or.inr ⟨by rfl, rfl⟩) hHeld ?_
      simp only [Act.put, List.getElem_toArray, List.getElem_cons_zero, List.getElem_cons_succ, List.setIfInBounds_toArray, List.set_cons_zero, List.set_cons_succ]
      refine wpAnyH_take (i := 10) (v := undef) rfl (by kernel_rfl) (by kernel_rfl) (by kernel_rfl) (fun _ _ _ h => h) (Or.inr ⟨by rfl, rfl⟩) hHeld ?_
      simp only [Act.put, List.getElem_toArray, List.getElem_cons_zero, List.getElem_cons_succ, List.setIfInBounds_toArray, List.set_cons_zero, List.set_cons_succ]
      refine wpAnyH_take (i := 11) (v := undef) rfl (by kernel_rfl) (by kernel_rfl) (by kernel_rfl) (fun _ _ _ h => h) (Or.inr ⟨by rfl, rfl⟩) hHeld ?_
      simp only [Act.put, List.getElem_toArray, List.getElem_cons_zero, List.getElem_cons_succ, List.setIfInBounds_toArray, List.set_cons_zero, List.set_cons_succ]
      refine wpAnyH_take (i := 12) (v := undef) rfl (by kernel_rfl) (by kernel_rfl) (by kernel_rfl) (fun _ _ _ h => h) (Or.inr ⟨by rfl, rfl⟩) hHeld ?_
      simp only [Act.put, List.getElem_toArray, List.getElem_cons_zero, List.getElem_cons_succ, List.setIfInBounds_toArray, List.set_cons_zero, List.set_cons_succ]
      refine wpAnyH_take (i := 13) (v := undef) rfl (by kernel_rfl) (by kernel_rfl) (by kernel_rfl) (fun _ _ _ h => h) (Or.inr ⟨by rfl, rfl⟩) hHeld ?_
      simp only [Act.put, List.getElem_toArray, List.getElem_cons_zero, List.getElem_cons_succ, List.setIfInBounds_toArray, List.set_cons_zero, List.set_cons_succ]
      refine wpAnyH_take (i := 14) (v := undef) rfl (by kernel_rfl) (by kernel_rfl) (by kernel_rfl) (fun _ _ _ h => h) (Or.inr ⟨by rfl, rfl⟩) hHeld ?_
      simp only [Act.put, List.getElem_toArray, List.getElem_cons_zero, List.getElem_cons_succ, List.setIfInBounds_toArray, List.set_cons_zero, List.set_cons_succ]
      refine wpAnyH_take (i := 15) (v := undef) rfl (by kernel_rfl) (by kernel_rfl) (by kernel_rfl) (fun _ _ _ h => h) (Or.inr ⟨by rfl, rfl⟩) hHeld ?_
      simp only [Act.put, List.getElem_toArray, List.getElem_cons_zero, List.getElem_cons_succ, List.setIfInBounds_toArray, List.set_cons_zero, List.set_cons_succ]
      refine wpAnyH_take (i := 16) (v := undef) rfl (by kernel_rfl) (by kernel_rfl) (by kernel_rfl) (fun _ _ _ h => h) (Or.inr ⟨by rfl, rfl⟩) hHeld ?_
      simp only [Act.put, List.getElem_toArray, List.getElem_cons_zero, List.getElem_cons_succ, List.setIfInBounds_toArray, List.set_cons_zero, List.set_cons_succ]
      refine wpAnyH_take (i := 17) (v := ?_) rfl (by kernel_rfl) (by kernel_rfl) (by kernel_rfl) (fun _ _ _ h => h) (Or.inl ⟨by rfl, ?_⟩) hHeld ?_
      rotate_left
      · (intro w hSw; go_simp; (try with_reducible rfl))
      simp only [Act.put, List.getElem_toArray, List.getElem_cons_zero, List.getElem_cons_succ, List.setIfInBounds_toArray, List.set_cons_zero, List.set_cons_succ]
      refine wpAnyH_take (i := 18) (v := ?_) rfl (by kernel_rfl) (by kernel_rfl) (by kernel_rfl) (fun _ _ _ h => h) (Or.inl ⟨by rfl, ?_⟩) hHeld ?_
      rotate_left
      · (intro w hSw; go_simp; (try with_reducible rfl))
      simp only [Act.put, List.getElem_toArray, List.getElem_cons_zero, List.getElem_cons_succ, List.setIfInBounds_toArray, List.set_cons_zero, List.set_cons_succ]
      refine wpAnyH_take (i := 19) (v := undef) rfl (by kernel_rfl) (by kernel_rfl) (by kernel_rfl) (fun _ _ _ h => h) (Or.inr ⟨by rfl, rfl⟩) hHeld ?_
      simp only [Act.put, List.getElem_toArray, List.getElem_cons_zero, List.getElem_cons_succ, List.setIfInBounds_toArray, List.set_cons_zero, List.set_cons_succ]
      refine wpAnyH_take (i := 20) (v := undef) rfl (by kernel_rfl) (by kernel_rfl) (by kernel_rfl) (fun _ _ _ h => h) (Or.inr ⟨by rfl, rfl⟩) hHeld ?_
      simp only [Act.put, List.getElem_toArray, List.getElem_cons_zero, List.getElem_cons_succ, List.setIfInBounds_toArray, List.set_cons_zero, List.set_cons_succ]
      refine wpAnyH_take (i := 21) (v := undef) rfl (by kernel_rfl) (by kernel_rfl) (by kernel_rfl) (fun _ _ _ h => h) (Or.inr ⟨by rfl, rfl⟩) hHeld ?_
      simp only [Act.put, List.getElem_toArray, List.getElem_cons_zero, List.getElem_cons_succ, List.setIfInBounds_toArray, List.set_cons_zero, List.set_cons_succ]
      refine wpAnyH_take (i := 22) (v := undef) rfl (by kernel_rfl) (by kernel_rfl) (by kernel_rfl) (fun _ _ _ h => h) (Or.inr ⟨by rfl, rfl⟩) hHeld ?_
      simp only [Act.put, List.getElem_toArray, List.getElem_cons_zero, List.getElem_cons_succ, List.setIfInBounds_toArray, List.set_cons_zero, List.set_cons_succ]
      refine wpAnyH_take (i := 23) (v := undef) rfl (by kernel_rfl) (by kernel_rfl) (by kernel_rfl) (fun _ _ _ h => h) (Or.inr ⟨by rfl, rfl⟩) hHeld ?_
      simp only [Act.put, List.getElem_toArray, List.getElem_cons_zero, List.getElem_cons_succ, List.setIfInBounds_toArray, List.set_cons_zero, List.set_cons_succ]
      refine wpAnyH_take (i := 24) (v := undef) rfl (by kernel_rfl) (by kernel_rfl) (by kernel_rfl) (fun _ _ _ h => h) (Or.inr ⟨by rfl, rfl⟩) hHeld ?_
      simp only [Act.put, List.getElem_toArray, List.getElem_cons_zero, List.getElem_cons_succ, List.setIfInBounds_toArray, List.set_cons_zero, List.set_cons_succ]
      refine wpAnyH_take (i := 25) (v := undef) rfl (by kernel_rfl) (by kernel_rfl) (by kernel_rfl) (fun _ _ _ h => h) (Or.inr ⟨by rfl, rfl⟩) hHeld ?_
      simp only [Act.put, List.getElem_toArray, List.getElem_cons_zero, List.getElem_cons_succ, List.setIfInBounds_toArray, List.set_cons_zero, List.set_cons_succ]
      refine wpAnyH_take (i := 26) (v := undef) rfl (by kernel_rfl) (by kernel_rfl) (by kernel_rfl) (fun _ _ _ h => h) (Or.inr ⟨by rfl, rfl⟩) hHeld ?_
      simp only [Act.put, List.getElem_toArray, List.getElem_cons_zero, List.getElem_cons_succ, List.setIfInBounds_toArray, List.set_cons_zero, List.set_cons_succ]
      refine wpAnyH_take (i := 27) (v := ?_) rfl (by kernel_rfl) (by kernel_rfl) (by kernel_rfl) (fun _ _ _ h => h) (Or.inl ⟨by rfl, ?_⟩) hHeld ?_
      rotate_left
      · (intro w hSw; go_simp; (try with_reducible rfl))
      simp only [Act.put, List.getElem_toArray, List.getElem_cons_zero, List.getElem_cons_succ, List.setIfInBounds_toArray, List.set_cons_zero, List.set_cons_succ]
      refine wpAnyH_done (by kernel_rfl) ?_ _
      go_upto_region 22 with fail
      clear hHeld hlL hlO
      have hsz0 := st0_size'
      have hone0 := st0_one'
      go_wp2_with (first
        | (refine wpList_build0 rfl rfl ?_)
        | (refine wpList_store_row rfl 29 (.tmp 4) (.tmp 123) rfl gr _ rfl rfl 29 st0 hr9 hsz0 rfl hone0 ?_))
      refine bodyPost_ret (v := .tuple #[.agg st0, .int .i64 20]) ?_ rfl ⟨st0, nilS, fun _ => nilS, by rw [HA.out], by rw [HA.out]; exact reads_0 _ _, by rw [HA.out]; exact own_zero _ _, below_setRow hb9 _ _ hwr⟩
      exact results_cell_tmp (ty := 29) (p := 4) (q := 5) (by kernel_rfl) _ _ gr 29 _ (0, 0) _ rfl (setRow_heap _ _ _ _ _ _ hr9) Tryd.underlying29 rfl hsz0
    have d1 : ((nL : Int) == 0) = false := beq_eq_false_iff_ne.2 (by omega)
    obtain ⟨kL, hkL⟩ : ∃ kL, nL = kL + 1 := ⟨nL - 1, by omega⟩
    obtain ⟨mO, hmO⟩ : ∃ mO, s.objs.length = mO + 1 := ⟨s.objs.length - 1, by omega⟩
    have hwL : IntKind.i64.wrap ((nL : Int) - 1) = (kL : Int) := by have := hll 10 (by omega); have := HnL.out; rw [i64_in (by omega) (by omega)]; omega
    have hwO : IntKind.i64.wrap ((s.objs.length : Int) - 1) = (mO : Int) := by rw [i64_in (by omega) (by omega)]; omega
    have q0 : (0 : Int) ≤ (kL : Int) := by omega
    have q1 : (kL : Int) < (nL : Int) := by omega
    have q2 : (0 : Int) ≤ (mO : Int) := by omega
    have q3 : (mO : Int) < (s.objs.length : Int) := by omega
    have hkl : kL < (s.lists 10).length := by have := HnL.out; omega
    have hmo : mO < s.objs.length := by omega
    have hNL : Nums .i64 v0 v0.heap.size AL nL (s.lists 10) := by
      have h := (HP8.out.o.l 10 (by omega)).nums
      have e := HLv.out
      injection e with e1 e2 _
      rw [e1, e2] at h
      exact h
    obtain ⟨aL, rfl, hbL, hxL⟩ := hNL.at_ hkl
    obtain ⟨x, hx⟩ : ∃ x, x = (s.lists 10)[kL] := ⟨_, rfl⟩
    rw [← hx] at hxL
    have hlx : ∀ W, Below v0.heap.size v0 W → W.cell? (aL.add kL) = some (.int .i64 x) := fun W hW => (hW.cell (by rw [addr_block]; exact hbL)).trans hxL
    have HX := Lib.hid (show (s.lists 10).getD ((s.lists 10).length - 1) 0 = x by rw [show (s.lists 10).length - 1 = kL by have := HnL.out; omega, getD_in _ hkl, hx])
    have HKL := Lib.hid hkL
    have HMO := Lib.hid hmO
    have HN0 := Lib.hid hn0
    have HN1 := Lib.hid hn1
    clear hkL hmO hn0 hn1 hx hNL hxL
    by_cases hxm : x = (mO : Int)
    case neg =>
      have HA := Lib.hid (show applyS s ⟨5, a, b, c, 0, 0⟩ = (sT0, 20) by
        rw [HA0.out]; unfold ap5; rw [if_pos (.inr (.inr (.inl (by rw [HX.out]; have := HMO.out; omega))))])
      have d2 : (x != (mO : Int)) = true := bne_iff_ne.2 hxm
      clear hxm
      refine wp_region_held_drew (S := fun W => Below v0.heap.size v0 W) (by kernel_rfl) (Below.refl _ _).drew (fun hHeld => ?_)
      refine wpAnyH_take (i := 0) (v := ?_) rfl (by kernel_rfl) (by kernel_rfl) (by kernel_rfl) (fun _ _ _ h => h) (Or.inl ⟨by rfl, ?_⟩) hHeld ?_
      rotate_left
      · (intro w hSw; go_simp; (try with_reducible rfl))
      simp only [Act.put, List.getElem_toArray, List.getElem_cons_zero, List.getElem_cons_succ, List.setIfInBounds_toArray, List.set_cons_zero, List.set_cons_succ]
      refine wpAnyH_take (i := 1) (v := ?_) rfl (by kernel_rfl) (by kernel_rfl) (by kernel_rfl) (fun _ _ _ h => h) (Or.inl ⟨by rfl, ?_⟩) hHeld ?_
      rotate_left
      · (intro w hSw; go_simp; (try with_reducible rfl))
      simp only [Act.put, List.getElem_toArray, List.getElem_cons_zero, List.getElem_cons_succ, List.setIfInBounds_toArray, List.set_cons_zero, List.set_cons_succ]
      refine wpAnyH_take (i := 2) (v := ?_) rfl (by kernel_rfl) (by kernel_rfl) (by kernel_rfl) (fun _ _ _ h => h) (Or.inl ⟨by rfl, ?_⟩) hHeld ?_
      rotate_left
      · (intro w hSw; go_simp; (try with_reducible rfl))
      simp only [Act.put, List.getElem_toArray, List.getElem_cons_zero, List.getElem_cons_succ, List.setIfInBounds_toArray, List.set_cons_zero, List.set_cons_succ]
      refine wpAnyH_take (i := 3) (v := ?_) rfl (by kernel_rfl) (by kernel_rfl) (by kernel_rfl) (fun _ _ _ h => h) (Or.inl ⟨by rfl, ?_⟩) hHeld ?_
      rotate_left
      · (intro w hSw; go_simp; (try with_reducible rfl))
      simp only [Act.put, List.getElem_toArray, List.getElem_cons_zero, List.getElem_cons_succ, List.setIfInBounds_toArray, List.set_cons_zero, List.set_cons_succ]
      refine wpAnyH_take (i := 4) (v := ?_) rfl (by kernel_rfl) (by kernel_rfl) (by kernel_rfl) (fun _ _ _ h => h) (Or.inl ⟨by rfl, ?_⟩) hHeld ?_
      rotate_left
      · (intro w hSw; go_simp; (try with_reducible rfl))
      simp only [Act.put, List.getElem_toArray, List.getElem_cons_zero, List.getElem_cons_succ, List.setIfInBounds_toArray, List.set_cons_zero, List.set_cons_succ]
      refine wpAnyH_take (i := 5) (v := ?_) rfl (by kernel_rfl) (by kernel_rfl) (by kernel_rfl) (fun _ _ _ h => h) (Or.inl ⟨by rfl, ?_⟩) hHeld ?_
      rotate_left
      · (intro w hSw; go_simp; (try with_reducible rfl))
      simp only [Act.put, List.getElem_toArray, List.getElem_cons_zero, List.getElem_cons_succ, List.setIfInBounds_toArray, List.set_cons_zero, List.set_cons_succ]
      refine wpAnyH_take (i := 6) (v := ?_) rfl (by kernel_rfl) (by kernel_rfl) (by kernel_rfl) (fun _ _ _ h => h) (Or.inl ⟨by rfl, ?_⟩) hHeld ?_
      rotate_left
      · (intro w hSw; go_simp; (try with_reducible rfl))
      simp only [Act.put, List.getElem_toArray, List.getElem_cons_zero, List.getElem_cons_succ, List.setIfInBounds_toArray, List.set_cons_zero, List.set_cons_succ]
      refine wpAnyH_take (i := 7) (v := ?_) rfl (by kernel_rfl) (by kernel_rfl) (by kernel_rfl) (fun _ _ _ h => h) (Or.inl ⟨by rfl, ?_⟩) hHeld ?_
      rotate_left
      · (intro w hSw; go_simp; (try with_reducible rfl))
      simp only [Act.put, List.getElem_toArray, List.getElem_cons_zero, List.getElem_cons_succ, List.setIfInBounds_toArray, List.set_cons_zero, List.set_cons_succ]
      refine wpAnyH_take (i := 8) (v := ?_) rfl (by kernel_rfl) (by kernel_rfl) (by kernel_rfl) (fun _ _ _ h => h) (Or.inl ⟨by rfl, ?_⟩) hHeld ?_
      rotate_left
      · (intro w hSw; go_simp; (try with_reducible rfl))
      simp only [Act.put, List.getElem_toArray, List.getElem_cons_zero, List.getElem_cons_succ, List.setIfInBounds_toArray, List.set_cons_zero, List.set_cons_succ]
      refine wpAnyH_take (i := 9) (v := ?_) rfl (by kernel_rfl) (by kernel_rfl) (by kernel_rfl) (fun _ _ _ h => h) (Or.inl ⟨by rfl, ?_⟩) hHeld ?_
      rotate_left
      · (intro w hSw; go_simp; (try with_reducible rfl))
      simp only [Act.put, List.getElem_toArray, List.getElem_cons_zero, List.getElem_cons_succ, List.setIfInBounds_toArray, List.set_cons_zero, List.set_cons_succ]
      refine wpAnyH_take (i := 10) (v := ?_) rfl (by kernel_rfl) (by kernel_rfl) (by kernel_rfl) (fun _ _ _ h => h) (Or.inl ⟨by rfl, ?_⟩) hHeld ?_
      rotate_left
      · (intro w hSw; go_simp; (try with_reducible rfl))
      simp only [Act.put, List.getElem_toArray, List.getElem_cons_zero, List.getElem_cons_succ, List.setIfInBounds_toArray, List.set_cons_zero, List.set_cons_succ]
      refine wpAnyH_take (i := 11) (v := ?_) rfl (by kernel_rfl) (by kernel_rfl) (by kernel_rfl) (fun _ _ _ h => h) (Or.inl ⟨by rfl, ?_⟩) hHeld ?_
      rotate_left
      · (intro w hSw; go_simp; (try with_reducible rfl))
      simp only [Act.put, List.getElem_toArray, List.getElem_cons_zero, List.getElem_cons_succ, List.setIfInBounds_toArray, List.set_cons_zero, List.set_cons_succ]
      refine wpAnyH_take (i := 12) (v := ?_) rfl (by kernel_rfl) (by kernel_rfl) (by kernel_rfl) (fun _ _ _ h => h) (Or.inl ⟨by rfl, ?_⟩) hHeld ?_
      rotate_left
      · (intro w hSw; go_simp; (try with_reducible rfl))
      simp only [Act.put, List.getElem_toArray, List.getElem_cons_zero, List.getElem_cons_succ, List.setIfInBounds_toArray, List.set_cons_zero, List.set_cons_succ]
      refine wpAnyH_take (i := 13) (v := ?_) rfl (by kernel_rfl) (by kernel_rfl) (by kernel_rfl) (fun _ _ _ h => h) (Or.inl ⟨by rfl, ?_⟩) hHeld ?_
      rotate_left
      · (intro w hSw; go_simp; (try with_reducible rfl))
      simp only [Act.put, List.getElem_toArray, List.getElem_cons_zero, List.getElem_cons_succ, List.setIfInBounds_toArray, List.set_cons_zero, List.set_cons_succ]
      refine wpAnyH_take (i := 14) (v := ?_) rfl (by kernel_rfl) (by kernel_rfl) (by kernel_rfl) (fun _ _ _ h => h) (Or.inl ⟨by rfl, ?_⟩) hHeld ?_
      rotate_left
      · (intro w hSw; go_simp; (try with_reducible rfl))
      simp only [Act.put, List.getElem_toArray, List.getElem_cons_zero, List.getElem_cons_succ, List.setIfInBounds_toArray, List.set_cons_zero, List.set_cons_succ]
      refine wpAnyH_take (i := 15) (v := ?_) rfl (by kernel_rfl) (by kernel_rfl) (by kernel_rfl) (fun _ _ _ h => h) (Or.inl ⟨by rfl, ?_⟩) hHeld ?_
      rotate_left
      · (intro w hSw; go_simp; (try with_reducible rfl))
      simp only [Act.put, List.getElem_toArray, List.getElem_cons_zero, List.getElem_cons_succ, List.setIfInBounds_toArray, List.set_cons_zero, List.set_cons_succ]
      refine wpAnyH_take (i := 16) (v := ?_) rfl (by kernel_rfl) (by kernel_rfl) (by kernel_rfl) (fun _ _ _ h => h) (Or.inl ⟨by rfl, ?_⟩) hHeld ?_
      rotate_left
      · (intro w hSw; go_simp; (try with_reducible rfl))
      simp only [Act.put, List.getElem_toArray, List.getElem_cons_zero, List.getElem_cons_succ, List.setIfInBounds_toArray, List.set_cons_zero, List.set_cons_succ]
      refine wpAnyH_take (i := 17) (v := ?_) rfl (by kernel_rfl) (by kernel_rfl) (by kernel_rfl) (fun _ _ _ h => h) (Or.inl ⟨by rfl, ?_⟩) hHeld ?_
      rotate_left
      · (intro w hSw; go_simp; (try with_reducible rfl))
      simp only [Act.put, List.getElem_toArray, List.getElem_cons_zero, List.getElem_cons_succ, List.setIfInBounds_toArray, List.set_cons_zero, List.set_cons_succ]
      refine wpAnyH_take (i := 18) (v := ?_) rfl (by kernel_rfl) (by kernel_rfl) (by kernel_rfl) (fun _ _ _ h => h) (Or.inl ⟨by rfl, ?_⟩) hHeld ?_
      rotate_left
      · (intro w hSw; go_simp; (try with_reducible rfl))
      simp only [Act.put, List.getElem_toArray, List.getElem_cons_zero, List.getElem_cons_succ, List.setIfInBounds_toArray, List.set_cons_zero, List.set_cons_succ]
      refine wpAnyH_take (i := 19) (v := undef) rfl (by kernel_rfl) (by kernel_rfl) (by kernel_rfl) (fun _ _ _ h => h) (Or.inr ⟨by rfl, rfl⟩) hHeld ?_
      simp only [Act.put, List.getElem_toArray, List.getElem_cons_zero, List.getElem_cons_succ, List.setIfInBounds_toArray, List.set_cons_zero, List.set_cons_succ]
      refine wpAnyH_take (i := 20) (v := undef) rfl (by kernel_rfl) (by kernel_rfl) (by kernel_rfl) (fun _ _ _ h => h) (Or.inr ⟨by rfl, rfl⟩) hHeld ?_
      simp only [Act.put, List.getElem_toArray, List.getElem_cons_zero, List.getElem_cons_succ, List.setIfInBounds_toArray, List.set_cons_zero, List.set_cons_succ]
      refine wpAnyH_take (i := 21) (v := undef) rfl (by kernel_rfl) (by kernel_rfl) (by kernel_rfl) (fun _ _ _ h => h) (Or.inr ⟨by rfl, rfl⟩) hHeld ?_
      simp only [Act.put, List.getElem_toArray, List.getElem_cons_zero, List.getElem_cons_succ, List.setIfInBounds_toArray, List.set_cons_zero, List.set_cons_succ]
      refine wpAnyH_take (i := 22) (v := undef) rfl (by kernel_rfl) (by kernel_rfl) (by kernel_rfl) (fun _ _ _ h => h) (Or.inr ⟨by rfl, rfl⟩) hHeld ?_
      simp only [Act.put, List.getElem_toArray, List.getElem_cons_zero, List.getElem_cons_succ, List.setIfInBounds_toArray, List.set_cons_zero, List.set_cons_succ]
      refine wpAnyH_take (i := 23) (v := undef) rfl (by kernel_rfl) (by kernel_rfl) (by kernel_rfl) (fun _ _ _ h => h) (Or.inr ⟨by rfl, rfl⟩) hHeld ?_
      simp only [Act.put, List.getElem_toArray, List.getElem_cons_zero, List.getElem_cons_succ, List.setIfInBounds_toArray, List.set_cons_zero, List.set_cons_succ]
      refine wpAnyH_take (i := 24) (v := undef) rfl (by kernel_rfl) (by kernel_rfl) (by kernel_rfl) (fun _ _ _ h => h) (Or.inr ⟨by rfl, rfl⟩) hHeld ?_
      simp only [Act.put, List.getElem_toArray, List.getElem_cons_zero, List.getElem_cons_succ, List.setIfInBounds_toArray, List.set_cons_zero, List.set_cons_succ]
      refine wpAnyH_take (i := 25) (v := undef) rfl (by kernel_rfl) (by kernel_rfl) (by kernel_rfl) (fun _ _ _ h => h) (Or.inr ⟨by rfl, rfl⟩) hHeld ?_
      simp only [Act.put, List.getElem_toArray, List.getElem_cons_zero, List.getElem_cons_succ, List.setIfInBounds_toArray, List.set_cons_zero, List.set_cons_succ]
      refine wpAnyH_take (i := 26) (v := undef) rfl (by kernel_rfl) (by kernel_rfl) (by kernel_rfl) (fun _ _ _ h => h) (Or.inr ⟨by rfl, rfl⟩) hHeld ?_
      simp only [Act.put, List.getElem_toArray, List.getElem_cons_zero, List.getElem_cons_succ, List.setIfInBounds_toArray, List.set_cons_zero, List.set_cons_succ]
      refine wpAnyH_take (i := 27) (v := ?_) rfl (by kernel_rfl) (by kernel_rfl) (by kernel_rfl) (fun _ _ _ h => h) (Or.inl ⟨by rfl, ?_⟩) hHeld ?_
      rotate_left
      · (intro w hSw; go_simp; (try with_reducible rfl))
      simp only [Act.put, List.getElem_toArray, List.getElem_cons_zero, List.getElem_cons_succ, List.setIfInBounds_toArray, List.set_cons_zero, List.set_cons_succ]
      refine wpAnyH_done (by kernel_rfl) ?_ _
      go_upto_region 22 with fail
      clear hHeld hlL hlO hlx
      have hsz0 := st0_size'
      have hone0 := st0_one'
      go_wp2_with (first
        | (refine wpList_build0 rfl rfl ?_)
        | (refine wpList_store_row rfl 29 (.tmp 4) (.tmp 123) rfl gr _ rfl rfl 29 st0 hr9 hsz0 rfl hone0 ?_))
      refine bodyPost_ret (v := .tuple #[.agg st0, .int .i64 20]) ?_ rfl ⟨st0, nilS, fun _ => nilS, by rw [HA.out], by rw [HA.out]; exact reads_0 _ _, by rw [HA.out]; exact own_zero _ _, below_setRow hb9 _ _ hwr⟩
      exact results_cell_tmp (ty := 29) (p := 4) (q := 5) (by kernel_rfl) _ _ gr 29 _ (0, 0) _ rfl (setRow_heap _ _ _ _ _ _ hr9) Tryd.underlying29 rfl hsz0
    have d2 : (x != (mO : Int)) = false := by rw [hxm]; exact bne_self_eq_false _
    obtain ⟨gO, rfl, hcO5⟩ := own_form HP8.out.o.o (show 0 < s.objs.length by omega)
    obtain ⟨A', c', eO, hsO⟩ := slO_of_own HP8.out.o.o rfl
    injection eO with eO1 _ eO3
    subst eO1 eO3
    obtain ⟨b', off', eA, _, hra⟩ := hsO.R.at_ hmo
    injection eA with eA
    injection eA with eA1 eA2
    subst eA1 eA2
    rw [Nat.zero_add] at hra
    obtain ⟨o, ho⟩ : ∃ o, o = s.objs[mO] := ⟨_, rfl⟩
    rw [← ho] at hra
    have HO := Lib.hid (show (s.objs.getD (s.objs.length - 1) fun _ => 0) = o by rw [show s.objs.length - 1 = mO by have := HMO.out; omega, getD_in _ hmo, ho])
    have hlt8 : gO < v0.heap.size := (HP8.out.o.o.lt gO rfl).2
    have hl9 : g9 < v0.heap.size := (Array.getElem?_eq_some_iff.1 HO8.out).1
    obtain ⟨ns, hns⟩ : ∃ ns, ns = !sameI 18 o (madeO a b c) := ⟨_, rfl⟩
    have hneq : ∀ W, (binOp .neq 49 (.agg (arr .i64 18 o)) (.agg (arr .i64 18 (madeO a b c)))).run Tryd.prog W = .ok (.bool ns) W := fun W => by rw [hns]; exact neq_obj _ _ W
    have HNs := Lib.hid hns
    have HXM := Lib.hid hxm
    replace hcO5 : s.objs.length ≤ c5 := hcO5
    clear ho hsO hns hxm
    refine wp_region_held_drew (S := fun W => Below v0.heap.size v0 W) (by kernel_rfl) (Below.refl _ _).drew (fun hHeld => ?_)
    refine wpAnyH_take (i := 0) (v := ?_) rfl (by kernel_rfl) (by kernel_rfl) (by kernel_rfl) (fun _ _ _ h => h) (Or.inl ⟨by rfl, ?_⟩) hHeld ?_
    rotate_left
    · (intro w hSw; go_simp; (try with_reducible rfl))
    simp only [Act.put, List.getElem_toArray, List.getElem_cons_zero, List.getElem_cons_succ, List.setIfInBounds_toArray, List.set_cons_zero, List.set_cons_succ]
    refine wpAnyH_take (i := 1) (v := ?_) rfl (by kernel_rfl) (by kernel_rfl) (by kernel_rfl) (fun _ _ _ h => h) (Or.inl ⟨by rfl, ?_⟩) hHeld ?_
    rotate_left
    · (intro w hSw; go_simp; (try with_reducible rfl))
    simp only [Act.put, List.getElem_toArray, List.getElem_cons_zero, List.getElem_cons_succ, List.setIfInBounds_toArray, List.set_cons_zero, List.set_cons_succ]
    refine wpAnyH_take (i := 2) (v := ?_) rfl (by kernel_rfl) (by kernel_rfl) (by kernel_rfl) (fun _ _ _ h => h) (Or.inl ⟨by rfl, ?_⟩) hHeld ?_
    rotate_left
    · (intro w hSw; go_simp; (try with_reducible rfl))
    simp only [Act.put, List.getElem_toArray, List.getElem_cons_zero, List.getElem_cons_succ, List.setIfInBounds_toArray, List.set_cons_zero, List.set_cons_succ]
    refine wpAnyH_take (i := 3) (v := ?_) rfl (by kernel_rfl) (by kernel_rfl) (by kernel_rfl) (fun _ _ _ h => h) (Or.inl ⟨by rfl, ?_⟩) hHeld ?_
    rotate_left
    · (intro w hSw; go_simp; (try with_reducible rfl))
    simp only [Act.put, List.getElem_toArray, List.getElem_cons_zero, List.getElem_cons_succ, List.setIfInBounds_toArray, List.set_cons_zero, List.set_cons_succ]
    refine wpAnyH_take (i := 4) (v := ?_) rfl (by kernel_rfl) (by kernel_rfl) (by kernel_rfl) (fun _ _ _ h => h) (Or.inl ⟨by rfl, ?_⟩) hHeld ?_
    rotate_left
    · (intro w hSw; go_simp; (try with_reducible rfl))
    simp only [Act.put, List.getElem_toArray, List.getElem_cons_zero, List.getElem_cons_succ, List.setIfInBounds_toArray, List.set_cons_zero, List.set_cons_succ]
    refine wpAnyH_take (i := 5) (v := ?_) rfl (by kernel_rfl) (by kernel_rfl) (by kernel_rfl) (fun _ _ _ h => h) (Or.inl ⟨by rfl, ?_⟩) hHeld ?_
    rotate_left
    · (intro w hSw; go_simp; (try with_reducible rfl))
    simp only [Act.put, List.getElem_toArray, List.getElem_cons_zero, List.getElem_cons_succ, List.setIfInBounds_toArray, List.set_cons_zero, List.set_cons_succ]
    refine wpAnyH_take (i := 6) (v := ?_) rfl (by kernel_rfl) (by kernel_rfl) (by kernel_rfl) (fun _ _ _ h => h) (Or.inl ⟨by rfl, ?_⟩) hHeld ?_
    rotate_left
    · (intro w hSw; go_simp; (try with_reducible rfl))
    simp only [Act.put, List.getElem_toArray, List.getElem_cons_zero, List.getElem_cons_succ, List.setIfInBounds_toArray, List.set_cons_zero, List.set_cons_succ]
    refine wpAnyH_take (i := 7) (v := ?_) rfl (by kernel_rfl) (by kernel_rfl) (by kernel_rfl) (fun _ _ _ h => h) (Or.inl ⟨by rfl, ?_⟩) hHeld ?_
    rotate_left
    · (intro w hSw; go_simp; (try with_reducible rfl))
    simp only [Act.put, List.getElem_toArray, List.getElem_cons_zero, List.getElem_cons_succ, List.setIfInBounds_toArray, List.set_cons_zero, List.set_cons_succ]
    refine wpAnyH_take (i := 8) (v := ?_) rfl (by kernel_rfl) (by kernel_rfl) (by kernel_rfl) (fun _ _ _ h => h) (Or.inl ⟨by rfl, ?_⟩) hHeld ?_
    rotate_left
    · (intro w hSw; go_simp; (try with_reducible rfl))
    simp only [Act.put, List.getElem_toArray, List.getElem_cons_zero, List.getElem_cons_succ, List.setIfInBounds_toArray, List.set_cons_zero, List.set_cons_succ]
    refine wpAnyH_take (i := 9) (v := ?_) rfl (by kernel_rfl) (by kernel_rfl) (by kernel_rfl) (fun _ _ _ h => h) (Or.inl ⟨by rfl, ?_⟩) hHeld ?_
    rotate_left
    · (intro w hSw; go_simp; (try with_reducible rfl))
    simp only [Act.put, List.getElem_toArray, List.getElem_cons_zero, List.getElem_cons_succ, List.setIfInBounds_toArray, List.set_cons_zero, List.set_cons_succ]
    refine wpAnyH_take (i := 10) (v := ?_) rfl (by kernel_rfl) (by kernel_rfl) (by kernel_rfl) (fun _ _ _ h => h) (Or.inl ⟨by rfl, ?_⟩) hHeld ?_
    rotate_left
    · (intro w hSw; go_simp; (try with_reducible rfl))
    simp only [Act.put, List.getElem_toArray, List.getElem_cons_zero, List.getElem_cons_succ, List.setIfInBounds_toArray, List.set_cons_zero, List.set_cons_succ]
    refine wpAnyH_take (i := 11) (v := ?_) rfl (by kernel_rfl) (by kernel_rfl) (by kernel_rfl) (fun _ _ _ h => h) (Or.inl ⟨by rfl, ?_⟩) hHeld ?_
    rotate_left
    · (intro w hSw; go_simp; (try with_reducible rfl))
    simp only [Act.put, List.getElem_toArray, List.getElem_cons_zero, List.getElem_cons_succ, List.setIfInBounds_toArray, List.set_cons_zero, List.set_cons_succ]
    refine wpAnyH_take (i := 12) (v := ?_) rfl (by kernel_rfl) (by kernel_rfl) (by kernel_rfl) (fun _ _ _ h => h) (Or.inl ⟨by rfl, ?_⟩) hHeld ?_
    rotate_left
    · (intro w hSw; go_simp; (try with_reducible rfl))
    simp only [Act.put, List.getElem_toArray, List.getElem_cons_zero, List.getElem_cons_succ, List.setIfInBounds_toArray, List.set_cons_zero, List.set_cons_succ]
    refine wpAnyH_take (i := 13) (v := ?_) rfl (by kernel_rfl) (by kernel_rfl) (by kernel_rfl) (fun _ _ _ h => h) (Or.inl ⟨by rfl, ?_⟩) hHeld ?_
    rotate_left
    · (intro w hSw; go_simp; (try with_reducible rfl))
    simp only [Act.put, List.getElem_toArray, List.getElem_cons_zero, List.getElem_cons_succ, List.setIfInBounds_toArray, List.set_cons_zero, List.set_cons_succ]
    refine wpAnyH_take (i := 14) (v := ?_) rfl (by kernel_rfl) (by kernel_rfl) (by kernel_rfl) (fun _ _ _ h => h) (Or.inl ⟨by rfl, ?_⟩) hHeld ?_
    rotate_left
    · (intro w hSw; go_simp; (try with_reducible rfl))
    simp only [Act.put, List.getElem_toArray, List.getElem_cons_zero, List.getElem_cons_succ, List.setIfInBounds_toArray, List.set_cons_zero, List.set_cons_succ]
    refine wpAnyH_take (i := 15) (v := ?_) rfl (by kernel_rfl) (by kernel_rfl) (by kernel_rfl) (fun _ _ _ h => h) (Or.inl ⟨by rfl, ?_⟩) hHeld ?_
    rotate_left
    · (intro w hSw; go_simp; (try with_reducible rfl))
    simp only [Act.put, List.getElem_toArray, List.getElem_cons_zero, List.getElem_cons_succ, List.setIfInBounds_toArray, List.set_cons_zero, List.set_cons_succ]
    refine wpAnyH_take (i := 16) (v := ?_) rfl (by kernel_rfl) (by kernel_rfl) (by kernel_rfl) (fun _ _ _ h => h) (Or.inl ⟨by rfl, ?_⟩) hHeld ?_
    rotate_left
    · (intro w hSw; go_simp; (try with_reducible rfl))
    simp only [Act.put, List.getElem_toArray, List.getElem_cons_zero, List.getElem_cons_succ, List.setIfInBounds_toArray, List.set_cons_zero, List.set_cons_succ]
    refine wpAnyH_take (i := 17) (v := ?_) rfl (by kernel_rfl) (by kernel_rfl) (by kernel_rfl) (fun _ _ _ h => h) (Or.inl ⟨by rfl, ?_⟩) hHeld ?_
    rotate_left
    · (intro w hSw; go_simp; (try with_reducible rfl))
    simp only [Act.put, List.getElem_toArray, List.getElem_cons_zero, List.getElem_cons_succ, List.setIfInBounds_toArray, List.set_cons_zero, List.set_cons_succ]
    refine wpAnyH_take (i := 18) (v := ?_) rfl (by kernel_rfl) (by kernel_rfl) (by kernel_rfl) (fun _ _ _ h => h) (Or.inl ⟨by rfl, ?_⟩) hHeld ?_
    rotate_left
    · (intro w hSw; go_simp; (try with_reducible rfl))
    simp only [Act.put, List.getElem_toArray, List.getElem_cons_zero, List.getElem_cons_succ, List.setIfInBounds_toArray, List.set_cons_zero, List.set_cons_succ]
    refine wpAnyH_take (i := 19) (v := ?_) rfl (by kernel_rfl) (by kernel_rfl) (by kernel_rfl) (fun _ _ _ h => h) (Or.inl ⟨by rfl, ?_⟩) hHeld ?_
    rotate_left
    · (intro w hSw; go_simp; (try with_reducible rfl))
    simp only [Act.put, List.getElem_toArray, List.getElem_cons_zero, List.getElem_cons_succ, List.setIfInBounds_toArray, List.set_cons_zero, List.set_cons_succ]
    refine wpAnyH_take (i := 20) (v := ?_) rfl (by kernel_rfl) (by kernel_rfl) (by kernel_rfl) (fun _ _ _ h => h) (Or.inl ⟨by rfl, ?_⟩) hHeld ?_
    rotate_left
    · (intro w hSw; go_simp; (try with_reducible rfl))
    simp only [Act.put, List.getElem_toArray, List.getElem_cons_zero, List.getElem_cons_succ, List.setIfInBounds_toArray, List.set_cons_zero, List.set_cons_succ]
    refine wpAnyH_take (i := 21) (v := ?_) rfl (by kernel_rfl) (by kernel_rfl) (by kernel_rfl) (fun _ _ _ h => h) (Or.inl ⟨by rfl, ?_⟩) hHeld ?_
    rotate_left
    · (intro w hSw; go_simp; (try with_reducible rfl))
    simp only [Act.put, List.getElem_toArray, List.getElem_cons_zero, List.getElem_cons_succ, List.setIfInBounds_toArray, List.set_cons_zero, List.set_cons_succ]
    refine wpAnyH_take (i := 22) (v := ?_) rfl (by kernel_rfl) (by kernel_rfl) (by kernel_rfl) (fun _ _ _ h => h) (Or.inl ⟨by rfl, ?_⟩) hHeld ?_
    rotate_left
    · (intro w hSw; go_simp; (try with_reducible rfl))
    simp only [Act.put, List.getElem_toArray, List.getElem_cons_zero, List.getElem_cons_succ, List.setIfInBounds_toArray, List.set_cons_zero, List.set_cons_succ]
    refine wpAnyH_take (i := 23) (v := ?_) rfl (by kernel_rfl) (by kernel_rfl) (by kernel_rfl) (fun _ _ _ h => h) (Or.inl ⟨by rfl, ?_⟩) hHeld ?_
    rotate_left
    · (intro w hSw; go_simp; (try with_reducible rfl))
    simp only [Act.put, List.getElem_toArray, List.getElem_cons_zero, List.getElem_cons_succ, List.setIfInBounds_toArray, List.set_cons_zero, List.set_cons_succ]
    refine wpAnyH_take (i := 24) (v := .agg (arr .i64 18 o)) rfl (by kernel_rfl) (by kernel_rfl) (by kernel_rfl) (fun _ _ _ h => h) (yields_obj (by rfl) (.tmp 118) rfl gO (mO * 18) rfl o (fun W hW => range_below hW hlt8 hra)) hHeld ?_
    simp only [Act.put, List.getElem_toArray, List.getElem_cons_zero, List.getElem_cons_succ, List.setIfInBounds_toArray, List.set_cons_zero, List.set_cons_succ]
    refine wpAnyH_take (i := 25) (v := .agg (arr .i64 18 (madeO a b c))) rfl (by kernel_rfl) (by kernel_rfl) (by kernel_rfl) (fun _ _ _ h => h) (yieldsIf_load (by rfl) 49 (.tmp 10) rfl g9 rfl (fun W hW => (show ArrAt .i64 18 49 W g9 (madeO a b c) from (hW.block g9 hl9).trans HO8.out)) Tryd.underlying49 st_size18) hHeld ?_
    simp only [Act.put, List.getElem_toArray, List.getElem_cons_zero, List.getElem_cons_succ, List.setIfInBounds_toArray, List.set_cons_zero, List.set_cons_succ]
    refine wpAnyH_take (i := 26) (v := ?_) rfl (by kernel_rfl) (by kernel_rfl) (by kernel_rfl) (fun _ _ _ h => h) (Or.inl ⟨by rfl, ?_⟩) hHeld ?_
    rotate_left
    · (intro w hSw; go_simp; (try with_reducible rfl))
    simp only [Act.put, List.getElem_toArray, List.getElem_cons_zero, List.getElem_cons_succ, List.setIfInBounds_toArray, List.set_cons_zero, List.set_cons_succ]
    refine wpAnyH_take (i := 27) (v := ?_) rfl (by kernel_rfl) (by kernel_rfl) (by kernel_rfl) (fun _ _ _ h => h) (Or.inl ⟨by rfl, ?_⟩) hHeld ?_
    rotate_left
    · (intro w hSw; go_simp; (try with_reducible rfl))
    simp only [Act.put, List.getElem_toArray, List.getElem_cons_zero, List.getElem_cons_succ, List.setIfInBounds_toArray, List.set_cons_zero, List.set_cons_succ]
    refine wpAnyH_done (by kernel_rfl) ?_ _
    clear hHeld hneq hra hlx hlL hlO
    cases hnv : ns
    case true =>
      have hsm : sameI 18 o (madeO a b c) = false := by
        cases h : sameI 18 o (madeO a b c)
        · rfl
        · have := HNs.out; rw [h, hnv] at this; cases this
      have HA := Lib.hid (show applyS s ⟨5, a, b, c, 0, 0⟩ = (sT0, 20) by
        rw [HA0.out]; unfold ap5; rw [if_pos (.inr (.inr (.inr (by rw [HO.out]; exact hsm))))])
      subst hnv
      go_upto_region 22 with fail
      have hsz0 := st0_size'
      have hone0 := st0_one'
      go_wp2_with (first
        | (refine wpList_build0 rfl rfl ?_)
        | (refine wpList_store_row rfl 29 (.tmp 4) (.tmp 123) rfl gr _ rfl rfl 29 st0 hr9 hsz0 rfl hone0 ?_))
      refine bodyPost_ret (v := .tuple #[.agg st0, .int .i64 20]) ?_ rfl ⟨st0, nilS, fun _ => nilS, by rw [HA.out], by rw [HA.out]; exact reads_0 _ _, by rw [HA.out]; exact own_zero _ _, below_setRow hb9 _ _ hwr⟩
      exact results_cell_tmp (ty := 29) (p := 4) (q := 5) (by kernel_rfl) _ _ gr 29 _ (0, 0) _ rfl (setRow_heap _ _ _ _ _ _ hr9) Tryd.underlying29 rfl hsz0
    have hsm : sameI 18 o (madeO a b c) = true := by
      cases h : sameI 18 o (madeO a b c)
      · have := HNs.out; rw [h, hnv] at this; cases this
      · rfl
    have HA := Lib.hid (show applyS s ⟨5, a, b, c, 0, 0⟩ = (⟨s.objs.take mO, updL s.lists 10 ((s.lists 10).take kL), s.pl, s.gm⟩, 0) by
      rw [HA0.out]; unfold ap5
      rw [if_neg]
      · rw [show s.objs.length - 1 = mO by have := HMO.out; omega, show (s.lists 10).length - 1 = kL by have := HnL.out; have := HKL.out; omega]
      · rintro (h | h | h | h)
        · have := HMO.out; omega
        · have := HnL.out; have := HKL.out; omega
        · apply h; rw [HX.out]; have := HMO.out; have := HXM.out; omega
        · rw [HO.out] at h; have h : sameI 18 o (madeO a b c) = false := h; rw [hsm] at h; cases h)
    subst hnv
    have hownL : Own .i64 3 v0 w.heap.size (some aL) nL cL (s.lists 10) := by
      have h := HP8.out.o.l 10 (by omega)
      have e := HLv.out
      injection e with e1 e2 e3
      rw [e1, e2, e3] at h
      exact h
    obtain ⟨gL, eL, hcL5⟩ := own_form hownL.2 (show 0 < nL by have := HKL.out; omega)
    injection eL with eL
    subst eL
    have hslO := cut_objs gO s.objs.length c5 mO (by omega) (by omega)
    have hslL := cut_ints gL nL cL kL (by omega) (by omega)
    have hcO : v0.cell? ⟨gs, 0, none⟩ = some (.slice (some ⟨gO, 0, none⟩) s.objs.length c5) := (HP8.out.a.cell 0).trans (stC_objs _ _ _ _)
    have hfO := frozen_of_row v0 gs 0 _ _ HP8.out.a
    have HP1 := Lib.hid ((HP8.out.objs HPB.out (World.grownBy.refl v0 _) (O' := ⟨some ⟨gO, 0, none⟩, mO, c5⟩) (os := s.objs.take mO) (by
      have := owns_take HP8.out.o.o (show mO ≤ s.objs.length by omega)
      rw [flatO_take] at this
      exact this) (by rw [List.length_take]; show mO = _; omega)).drew)
    have HOwL := Lib.hid hownL
    clear hownL hr9 hb9 hsm
    go_upto_region 24 with fail
    clear hcO hfO hslO
    obtain ⟨v1, hv1⟩ : ∃ v1, v1 = (v0.setCell ⟨gs, 0, none⟩ (.slice (some ⟨gO, 0, none⟩) mO c5)).drew := ⟨_, rfl⟩
    have HP1 := Lib.hid (show AP w ge gr gs ⟨5, a, b, c, 0, 0⟩ ⟨s.objs.take mO, s.lists, s.pl, s.gm⟩ ⟨some ⟨gO, 0, none⟩, mO, c5⟩ L5 v1 by rw [hv1]; exact HP1.out)
    rw [← hv1]
    clear hv1
    have hcL : v1.cell? ⟨gs, 11, none⟩ = some (.slice (some ⟨gL, 0, none⟩) nL cL) := ((HP1.out.a.cell (1 + 10)).trans (stC_list _ _ _ _ (by omega))).trans (congrArg some HLv.out)
    have hfL := frozen_of_row v1 gs 11 _ _ HP1.out.a
    have HP2 := Lib.hid (show AP w ge gr gs ⟨5, a, b, c, 0, 0⟩ ⟨s.objs.take mO, updL s.lists 10 ((s.lists 10).take kL), s.pl, s.gm⟩ ⟨some ⟨gO, 0, none⟩, mO, c5⟩ (updS L5 10 ⟨some ⟨gL, 0, none⟩, kL, cL⟩) (v1.setCell ⟨gs, 11, none⟩ (.slice (some ⟨gL, 0, none⟩) kL cL)) from
      HP1.out.list HPB.out (z := 10) (by omega) (World.grownBy.refl v1 _) (y := ⟨some ⟨gL, 0, none⟩, kL, cL⟩) (l := (s.lists 10).take kL) (by
        have h := HP1.out.o.l 10 (by omega)
        have e := HLv.out
        injection e with e1 e2 e3
        rw [e1, e2, e3] at h
        exact h.take_ (show kL ≤ nL by omega)) (fun j hj => .inr (by rw [HLv.out]; exact hj)))
    have HI := Lib.hid (show I64S ⟨s.objs.take mO, updL s.lists 10 ((s.lists 10).take kL), s.pl, s.gm⟩ from ⟨fun o ho i hi => H.out.i64.o o (List.mem_of_mem_take ho) i hi, fun z hz n hn => by
        have hn : n ∈ updL s.lists 10 ((s.lists 10).take kL) z := hn
        by_cases e : z = 10
        · subst e
          rw [updL_at] at hn
          exact H.out.i64.l 10 hz n (List.mem_of_mem_take hn)
        · rw [updL_ne _ e] at hn; exact H.out.i64.l z hz n hn, H.out.i64.p, H.out.i64.g⟩)
    go_upto_region 45 with fail
    obtain ⟨v2, hv2⟩ : ∃ v2, v2 = v1.setCell ⟨gs, 11, none⟩ (.slice (some ⟨gL, 0, none⟩) kL cL) := ⟨_, rfl⟩
    rw [← hv2] at HP2 ⊢
    clear hv2 hcL hfL hslL HP1 HP8 HO8
    have hcs9 := HP2.out.a
    have hr9 := HP2.out.r
    have hb9 := HP2.out.b
    have HRd := Lib.hid (fun cs => HP2.out.final HI.out cs)
    have HRo := Lib.hid (fun cs => HP2.out.finalO cs)
    obtain ⟨cs9, hcs⟩ : ∃ cs9, cs9 = stC (⟨some ⟨gO, 0, none⟩, mO, c5⟩ : SlT) (updS L5 10 ⟨some ⟨gL, 0, none⟩, kL, cL⟩) s.pl s.gm := ⟨_, rfl⟩
    have HCs := Lib.hid hcs
    have hcs9 : StAt v2 gs cs9 := by rw [hcs]; exact hcs9
    have hsz9 : (Tryd.prog.info? 29).map (·.size) = some cs9.size := by rw [hcs, stC_size]; exact size37
    have hs09 : st0.size = cs9.size := by rw [hcs, stC_size]; exact stC_size _ _ _ _
    have hone9 : cs9.all (·.oneCell') = true := by rw [hcs]; exact stC_one _ _ _ _
    clear hcs
    go_wp2_with (first
      | (refine wpList_load_row rfl 29 (.tmp 7) rfl gs rfl 29 _ (0, 0) _ hcs9 Tryd.underlying29 rfl hsz9 ?_)
      | (refine wpList_store_row rfl 29 (.tmp 4) (.tmp 266) rfl gr _ rfl rfl 29 st0 hr9 hsz9 hs09 hone9 ?_))
    refine bodyPost_ret (v := .tuple #[.agg cs9, .int .i64 0]) ?_ rfl ⟨cs9, (⟨some ⟨gO, 0, none⟩, mO, c5⟩ : SlT), (updS L5 10 ⟨some ⟨gL, 0, none⟩, kL, cL⟩), by rw [HA.out], ?_, ?_, below_setRow hb9 _ _ hwr⟩
    · exact results_cell_tmp (ty := 29) (p := 4) (q := 5) (by kernel_rfl) _ _ gr 29 _ (0, 0) _ rfl (setRow_heap _ _ _ _ _ _ hr9) Tryd.underlying29 rfl hsz9
    · rw [HA.out]
      have := HRd.out cs9
      rw [HCs.out] at this ⊢
      exact this
    · rw [HA.out]
      exact HRo.out _
  · obtain ⟨m, rfl⟩ : ∃ m : Nat, a = (m : Int) := Int.eq_ofNat_of_zero_le h1.1
    obtain ⟨nb, rfl⟩ : ∃ n : Nat, b = (n : Int) := Int.eq_ofNat_of_zero_le h1.2.1
    obtain ⟨nc, rfl⟩ : ∃ n : Nat, c = (n : Int) := Int.eq_ofNat_of_zero_le h1.2.2.2.1
    obtain ⟨nd, rfl⟩ : ∃ n : Nat, d = (n : Int) := Int.eq_ofNat_of_zero_le h1.2.2.2.2.1
    obtain ⟨ne, rfl⟩ : ∃ n : Nat, f = (n : Int) := Int.eq_ofNat_of_zero_le h1.2.2.2.2.2.2
    have HA0 := Lib.hid (show applyS s ⟨1, (m : Int), (nb : Int), (nc : Int), (nd : Int), (ne : Int)⟩ = ap1 s ⟨1, (m : Int), (nb : Int), (nc : Int), (nd : Int), (ne : Int)⟩ from HAp.out)
    have hb11 : nb < 11 := by omega
    have hd11 : nd < 11 := by omega
    have p0 : (0 : Int) ≤ (nb : Int) := by omega
    have p1 : (nb : Int) < 11 := by omega
    have p2 : (0 : Int) ≤ (nd : Int) := by omega
    have p3 : (nd : Int) < 11 := by omega
    have p4 : (0 : Int) ≤ (nc : Int) := by omega
    have p5 : (0 : Int) ≤ (m : Int) := by omega
    by_cases hlt : m < s.objs.length
    case neg =>
      have hd : decide ((s.objs.length : Int) ≤ (m : Int)) = true := decide_eq_true (by omega)
      have HA := Lib.hid (show applyS s ⟨1, (m : Int), (nb : Int), (nc : Int), (nd : Int), (ne : Int)⟩ = (sT0, 4) by
        rw [HA0.out]; unfold ap1; rw [if_pos (by simp only; omega)])
      have hr9 := HP.out.r
      have hb9 := HP.out.b
      go_upto_region 27 with fail
      clear e0 e1 e2 e3 e4 e5
      have hsz0 := st0_size'
      have hone0 := st0_one'
      go_wp2_with (first
        | (refine wpList_build0 rfl rfl ?_)
        | (refine wpList_store_row rfl 29 (.tmp 4) (.tmp 144) rfl gr _ rfl rfl 29 st0 hr9 hsz0 rfl hone0 ?_))
      refine bodyPost_ret (v := .tuple #[.agg st0, .int .i64 4]) ?_ rfl ⟨st0, nilS, fun _ => nilS, by rw [HA.out], by rw [HA.out]; exact reads_0 _ _, by rw [HA.out]; exact own_zero _ _, below_setRow hb9 _ _ hwr⟩
      exact results_cell_tmp (ty := 29) (p := 4) (q := 5) (by kernel_rfl) _ _ gr 29 _ (0, 0) _ rfl (setRow_heap _ _ _ _ _ _ hr9) Tryd.underlying29 rfl hsz0
    have hd : decide ((s.objs.length : Int) ≤ (m : Int)) = false := decide_eq_false (by omega)
    have p6 : (m : Int) < (s.objs.length : Int) := by omega
    go_upto_region 28 with fail
    have hcb : w6.cell? ⟨gs, 1 + nb, none⟩ = some (.slice (L5 nb).A (L5 nb).n (L5 nb).c) := (HP.out.a.cell (1 + nb)).trans (stC_list _ _ _ _ hb11)
    have hNb := (HP.out.o.l nb hb11).nums
    obtain ⟨A1, hA1⟩ : ∃ x, x = (L5 nb).A := ⟨_, rfl⟩
    obtain ⟨n1, hn1⟩ : ∃ x, x = (L5 nb).n := ⟨_, rfl⟩
    obtain ⟨c1, hc1⟩ : ∃ x, x = (L5 nb).c := ⟨_, rfl⟩
    have HLv := Lib.hid (show (L5 nb).v = .slice A1 n1 c1 by rw [hA1, hn1, hc1]; rfl)
    rw [← hA1, ← hn1, ← hc1] at hcb
    rw [← hA1, ← hn1] at hNb
    have hn1l := hNb.len
    have hn1m : n1 ≤ 1000000 := by have := hll nb hb11; omega
    have HNb := Lib.hid hNb
    have Hnl := Lib.hid hn1l
    clear hA1 hn1 hc1 hNb hn1l
    have lE1 : ∀ W, Below w6.heap.size w6 W → W.cell? ⟨ge, 1, none⟩ = some (.int .i64 (m : Int)) := fun W hW => (hW.cell (World.block_lt_of_cell? w6 _ e1)).trans e1
    have lE2 : ∀ W, Below w6.heap.size w6 W → W.cell? ⟨ge, 2, none⟩ = some (.int .i64 (nb : Int)) := fun W hW => (hW.cell (World.block_lt_of_cell? w6 _ e2)).trans e2
    have lE3 : ∀ W, Below w6.heap.size w6 W → W.cell? ⟨ge, 3, none⟩ = some (.int .i64 (nc : Int)) := fun W hW => (hW.cell (World.block_lt_of_cell? w6 _ e3)).trans e3
    have lcb : ∀ W, Below w6.heap.size w6 W → W.cell? ⟨gs, 1 + nb, none⟩ = some (.slice A1 n1 c1) := fun W hW => (hW.cell (World.block_lt_of_cell? w6 _ hcb)).trans hcb
    have HE0 := Lib.hid e0
    have HE4 := Lib.hid e4
    have HE5 := Lib.hid e5
    clear e0 e1 e2 e3 e4 e5 hcb
    by_cases hc1 : nc < n1
    case neg =>
      have hd1 : decide ((n1 : Int) ≤ (nc : Int)) = true := decide_eq_true (by omega)
      have hd1n : decide (n1 ≤ nc) = true := decide_eq_true (by omega)
      have HA := Lib.hid (show applyS s ⟨1, (m : Int), (nb : Int), (nc : Int), (nd : Int), (ne : Int)⟩ = (sT0, 20) by
        rw [HA0.out]; unfold ap1; rw [if_neg (by simp only; omega), if_pos (.inl (by simp only [Int.toNat_natCast]; have := Hnl.out; omega))])
      have hr9 : StAt w6.drew gr st0 := HP.out.r
      have hb9 : Below w.heap.size w w6.drew := HP.out.b.drew
      refine wp_region_held_drew (S := fun W => Below w6.heap.size w6 W) (by kernel_rfl) (Below.refl _ _).drew (fun hHeld => ?_)
      refine wpAnyH_take (i := 0) (v := ?_) rfl (by kernel_rfl) (by kernel_rfl) (by kernel_rfl) (fun _ _ _ h => h) (Or.inl ⟨by rfl, ?_⟩) hHeld ?_
      rotate_left
      · (intro w hSw; go_simp; (try with_reducible rfl))
      simp only [Act.put, List.getElem_toArray, List.getElem_cons_zero, List.getElem_cons_succ, List.setIfInBounds_toArray, List.set_cons_zero, List.set_cons_succ]
      refine wpAnyH_take (i := 1) (v := ?_) rfl (by kernel_rfl) (by kernel_rfl) (by kernel_rfl) (fun _ _ _ h => h) (Or.inl ⟨by rfl, ?_⟩) hHeld ?_
      rotate_left
      · (intro w hSw; go_simp; (try with_reducible rfl))
      simp only [Act.put, List.getElem_toArray, List.getElem_cons_zero, List.getElem_cons_succ, List.setIfInBounds_toArray, List.set_cons_zero, List.set_cons_succ]
      refine wpAnyH_take (i := 2) (v := ?_) rfl (by kernel_rfl) (by kernel_rfl) (by kernel_rfl) (fun _ _ _ h => h) (Or.inl ⟨by rfl, ?_⟩) hHeld ?_
      rotate_left
      · (intro w hSw; go_simp; (try with_reducible rfl))
      simp only [Act.put, List.getElem_toArray, List.getElem_cons_zero, List.getElem_cons_succ, List.setIfInBounds_toArray, List.set_cons_zero, List.set_cons_succ]
      refine wpAnyH_take (i := 3) (v := ?_) rfl (by kernel_rfl) (by kernel_rfl) (by kernel_rfl) (fun _ _ _ h => h) (Or.inl ⟨by rfl, ?_⟩) hHeld ?_
      rotate_left
      · (intro w hSw; go_simp; (try with_reducible rfl))
      simp only [Act.put, List.getElem_toArray, List.getElem_cons_zero, List.getElem_cons_succ, List.setIfInBounds_toArray, List.set_cons_zero, List.set_cons_succ]
      refine wpAnyH_take (i := 4) (v := ?_) rfl (by kernel_rfl) (by kernel_rfl) (by kernel_rfl) (fun _ _ _ h => h) (Or.inl ⟨by rfl, ?_⟩) hHeld ?_
      rotate_left
      · (intro w hSw; go_simp; (try with_reducible rfl))
      simp only [Act.put, List.getElem_toArray, List.getElem_cons_zero, List.getElem_cons_succ, List.setIfInBounds_toArray, List.set_cons_zero, List.set_cons_succ]
      refine wpAnyH_take (i := 5) (v := ?_) rfl (by kernel_rfl) (by kernel_rfl) (by kernel_rfl) (fun _ _ _ h => h) (Or.inl ⟨by rfl, ?_⟩) hHeld ?_
      rotate_left
      · (intro w hSw; go_simp; (try with_reducible rfl))
      simp only [Act.put, List.getElem_toArray, List.getElem_cons_zero, List.getElem_cons_succ, List.setIfInBounds_toArray, List.set_cons_zero, List.set_cons_succ]
      refine wpAnyH_take (i := 6) (v := ?_) rfl (by kernel_rfl) (by kernel_rfl) (by kernel_rfl) (fun _ _ _ h => h) (Or.inl ⟨by rfl, ?_⟩) hHeld ?_
      rotate_left
      · (intro w hSw; go_simp; (try with_reducible rfl))
      simp only [Act.put, List.getElem_toArray, List.getElem_cons_zero, List.getElem_cons_succ, List.setIfInBounds_toArray, List.set_cons_zero, List.set_cons_succ]
      refine wpAnyH_take (i := 7) (v := ?_) rfl (by kernel_rfl) (by kernel_rfl) (by kernel_rfl) (fun _ _ _ h => h) (Or.inl ⟨by rfl, ?_⟩) hHeld ?_
      rotate_left
      · (intro w hSw; go_simp; (try with_reducible rfl))
      simp only [Act.put, List.getElem_toArray, List.getElem_cons_zero, List.getElem_cons_succ, List.setIfInBounds_toArray, List.set_cons_zero, List.set_cons_succ]
      refine wpAnyH_take (i := 8) (v := ?_) rfl (by kernel_rfl) (by kernel_rfl) (by kernel_rfl) (fun _ _ _ h => h) (Or.inl ⟨by rfl, ?_⟩) hHeld ?_
      rotate_left
      · (intro w hSw; go_simp; (try with_reducible rfl))
      simp only [Act.put, List.getElem_toArray, List.getElem_cons_zero, List.getElem_cons_succ, List.setIfInBounds_toArray, List.set_cons_zero, List.set_cons_succ]
      refine wpAnyH_take (i := 9) (v := ?_) rfl (by kernel_rfl) (by kernel_rfl) (by kernel_rfl) (fun _ _ _ h => h) (Or.inl ⟨by rfl, ?_⟩) hHeld ?_
      rotate_left
      · (intro w hSw; go_simp; (try with_reducible rfl))
      simp only [Act.put, List.getElem_toArray, List.getElem_cons_zero, List.getElem_cons_succ, List.setIfInBounds_toArray, List.set_cons_zero, List.set_cons_succ]
      refine wpAnyH_take (i := 10) (v := undef) rfl (by kernel_rfl) (by kernel_rfl) (by kernel_rfl) (fun _ _ _ h => h) (Or.inr ⟨by rfl, rfl⟩) hHeld ?_
      simp only [Act.put, List.getElem_toArray, List.getElem_cons_zero, List.getElem_cons_succ, List.setIfInBounds_toArray, List.set_cons_zero, List.set_cons_succ]
      refine wpAnyH_take (i := 11) (v := undef) rfl (by kernel_rfl) (by kernel_rfl) (by kernel_rfl) (fun _ _ _ h => h) (Or.inr ⟨by rfl, rfl⟩) hHeld ?_
      simp only [Act.put, List.getElem_toArray, List.getElem_cons_zero, List.getElem_cons_succ, List.setIfInBounds_toArray, List.set_cons_zero, List.set_cons_succ]
      refine wpAnyH_take (i := 12) (v := undef) rfl (by kernel_rfl) (by kernel_rfl) (by kernel_rfl) (fun _ _ _ h => h) (Or.inr ⟨by rfl, rfl⟩) hHeld ?_
      simp only [Act.put, List.getElem_toArray, List.getElem_cons_zero, List.getElem_cons_succ, List.setIfInBounds_toArray, List.set_cons_zero, List.set_cons_succ]
      refine wpAnyH_take (i := 13) (v := undef) rfl (by kernel_rfl) (by kernel_rfl) (by kernel_rfl) (fun _ _ _ h => h) (Or.inr ⟨by rfl, rfl⟩) hHeld ?_
      simp only [Act.put, List.getElem_toArray, List.getElem_cons_zero, List.getElem_cons_succ, List.setIfInBounds_toArray, List.set_cons_zero, List.set_cons_succ]
      refine wpAnyH_take (i := 14) (v := undef) rfl (by kernel_rfl) (by kernel_rfl) (by kernel_rfl) (fun _ _ _ h => h) (Or.inr ⟨by rfl, rfl⟩) hHeld ?_
      simp only [Act.put, List.getElem_toArray, List.getElem_cons_zero, List.getElem_cons_succ, List.setIfInBounds_toArray, List.set_cons_zero, List.set_cons_succ]
      refine wpAnyH_take (i := 15) (v := undef) rfl (by kernel_rfl) (by kernel_rfl) (by kernel_rfl) (fun _ _ _ h => h) (Or.inr ⟨by rfl, rfl⟩) hHeld ?_
      simp only [Act.put, List.getElem_toArray, List.getElem_cons_zero, List.getElem_cons_succ, List.setIfInBounds_toArray, List.set_cons_zero, List.set_cons_succ]
      refine wpAnyH_take (i := 16) (v := undef) rfl (by kernel_rfl) (by kernel_rfl) (by kernel_rfl) (fun _ _ _ h => h) (Or.inr ⟨by rfl, rfl⟩) hHeld ?_
      simp only [Act.put, List.getElem_toArray, List.getElem_cons_zero, List.getElem_cons_succ, List.setIfInBounds_toArray, List.set_cons_zero, List.set_cons_succ]
      refine wpAnyH_take (i := 17) (v := undef) rfl (by kernel_rfl) (by kernel_rfl) (by kernel_rfl) (fun _ _ _ h => h) (Or.inr ⟨by rfl, rfl⟩) hHeld ?_
      simp only [Act.put, List.getElem_toArray, List.getElem_cons_zero, List.getElem_cons_succ, List.setIfInBounds_toArray, List.set_cons_zero, List.set_cons_succ]
      refine wpAnyH_take (i := 18) (v := undef) rfl (by kernel_rfl) (by kernel_rfl) (by kernel_rfl) (fun _ _ _ h => h) (Or.inr ⟨by rfl, rfl⟩) hHeld ?_
      simp only [Act.put, List.getElem_toArray, List.getElem_cons_zero, List.getElem_cons_succ, List.setIfInBounds_toArray, List.set_cons_zero, List.set_cons_succ]
      refine wpAnyH_take (i := 19) (v := undef) rfl (by kernel_rfl) (by kernel_rfl) (by kernel_rfl) (fun _ _ _ h => h) (Or.inr ⟨by rfl, rfl⟩) hHeld ?_
      simp only [Act.put, List.getElem_toArray, List.getElem_cons_zero, List.getElem_cons_succ, List.setIfInBounds_toArray, List.set_cons_zero, List.set_cons_succ]
      refine wpAnyH_take (i := 20) (v := undef) rfl (by kernel_rfl) (by kernel_rfl) (by kernel_rfl) (fun _ _ _ h => h) (Or.inr ⟨by rfl, rfl⟩) hHeld ?_
      simp only [Act.put, List.getElem_toArray, List.getElem_cons_zero, List.getElem_cons_succ, List.setIfInBounds_toArray, List.set_cons_zero, List.set_cons_succ]
      refine wpAnyH_take (i := 21) (v := undef) rfl (by kernel_rfl) (by kernel_rfl) (by kernel_rfl) (fun _ _ _ h => h) (Or.inr ⟨by rfl, rfl⟩) hHeld ?_
      simp only [Act.put, List.getElem_toArray, List.getElem_cons_zero, List.getElem_cons_succ, List.setIfInBounds_toArray, List.set_cons_zero, List.set_cons_succ]
      refine wpAnyH_take (i := 22) (v := ?_) rfl (by kernel_rfl) (by kernel_rfl) (by kernel_rfl) (fun _ _ _ h => h) (Or.inl ⟨by rfl, ?_⟩) hHeld ?_
      rotate_left
      · (intro w hSw; go_simp; (try with_reducible rfl))
      simp only [Act.put, List.getElem_toArray, List.getElem_cons_zero, List.getElem_cons_succ, List.setIfInBounds_toArray, List.set_cons_zero, List.set_cons_succ]
      refine wpAnyH_done (by kernel_rfl) ?_ _
      go_upto_region 29 with fail
      clear lE1 lE2 lE3 lcb hHeld
      have hsz0 := st0_size'
      have hone0 := st0_one'
      go_wp2_with (first
        | (refine wpList_build0 rfl rfl ?_)
        | (refine wpList_store_row rfl 29 (.tmp 4) (.tmp 168) rfl gr _ rfl rfl 29 st0 hr9 hsz0 rfl hone0 ?_))
      refine bodyPost_ret (v := .tuple #[.agg st0, .int .i64 20]) ?_ rfl ⟨st0, nilS, fun _ => nilS, by rw [HA.out], by rw [HA.out]; exact reads_0 _ _, by rw [HA.out]; exact own_zero _ _, below_setRow hb9 _ _ hwr⟩
      exact results_cell_tmp (ty := 29) (p := 4) (q := 5) (by kernel_rfl) _ _ gr 29 _ (0, 0) _ rfl (setRow_heap _ _ _ _ _ _ hr9) Tryd.underlying29 rfl hsz0
    have hd1 : decide ((n1 : Int) ≤ (nc : Int)) = false := decide_eq_false (by omega)
    have hd1n : decide (n1 ≤ nc) = false := decide_eq_false (by omega)
    have p7 : (nc : Int) < (n1 : Int) := by omega
    obtain ⟨a1, rfl, hb1, hx1⟩ := HNb.out.at_ (show nc < (s.lists nb).length by have := Hnl.out; omega)
    obtain ⟨x, hx⟩ : ∃ x, x = (s.lists nb)[nc]'(by have := Hnl.out; omega) := ⟨_, rfl⟩
    rw [← hx] at hx1
    have HX := Lib.hid (show (s.lists nb).getD nc 0 = x by rw [getD_in _ (by have := Hnl.out; omega), hx])
    have lx : ∀ W, Below w6.heap.size w6 W → W.cell? (a1.add nc) = some (.int .i64 x) := fun W hW => (hW.cell (by rw [addr_block]; exact hb1)).trans hx1
    clear hx hb1 hx1
    by_cases hxm : x = (m : Int)
    case neg =>
      have hd2 : (x != (m : Int)) = true := bne_iff_ne.2 hxm
      have HA := Lib.hid (show applyS s ⟨1, (m : Int), (nb : Int), (nc : Int), (nd : Int), (ne : Int)⟩ = (sT0, 20) by
        rw [HA0.out]; unfold ap1; rw [if_neg (by simp only; omega), if_pos (.inr (by simp only [Int.toNat_natCast]; rw [HX.out]; exact hxm))])
      have hr9 : StAt w6.drew gr st0 := HP.out.r
      have hb9 : Below w.heap.size w w6.drew := HP.out.b.drew
      clear hxm
      refine wp_region_held_drew (S := fun W => Below w6.heap.size w6 W) (by kernel_rfl) (Below.refl _ _).drew (fun hHeld => ?_)
      refine wpAnyH_take (i := 0) (v := ?_) rfl (by kernel_rfl) (by kernel_rfl) (by kernel_rfl) (fun _ _ _ h => h) (Or.inl ⟨by rfl, ?_⟩) hHeld ?_
      rotate_left
      · (intro w hSw; go_simp; (try with_reducible rfl))
      simp only [Act.put, List.getElem_toArray, List.getElem_cons_zero, List.getElem_cons_succ, List.setIfInBounds_toArray, List.set_cons_zero, List.set_cons_succ]
      refine wpAnyH_take (i := 1) (v := ?_) rfl (by kernel_rfl) (by kernel_rfl) (by kernel_rfl) (fun _ _ _ h => h) (Or.inl ⟨by rfl, ?_⟩) hHeld ?_
      rotate_left
      · (intro w hSw; go_simp; (try with_reducible rfl))
      simp only [Act.put, List.getElem_toArray, List.getElem_cons_zero, List.getElem_cons_succ, List.setIfInBounds_toArray, List.set_cons_zero, List.set_cons_succ]
      refine wpAnyH_take (i := 2) (v := ?_) rfl (by kernel_rfl) (by kernel_rfl) (by kernel_rfl) (fun _ _ _ h => h) (Or.inl ⟨by rfl, ?_⟩) hHeld ?_
      rotate_left
      · (intro w hSw; go_simp; (try with_reducible rfl))
      simp only [Act.put, List.getElem_toArray, List.getElem_cons_zero, List.getElem_cons_succ, List.setIfInBounds_toArray, List.set_cons_zero, List.set_cons_succ]
      refine wpAnyH_take (i := 3) (v := ?_) rfl (by kernel_rfl) (by kernel_rfl) (by kernel_rfl) (fun _ _ _ h => h) (Or.inl ⟨by rfl, ?_⟩) hHeld ?_
      rotate_left
      · (intro w hSw; go_simp; (try with_reducible rfl))
      simp only [Act.put, List.getElem_toArray, List.getElem_cons_zero, List.getElem_cons_succ, List.setIfInBounds_toArray, List.set_cons_zero, List.set_cons_succ]
      refine wpAnyH_take (i := 4) (v := ?_) rfl (by kernel_rfl) (by kernel_rfl) (by kernel_rfl) (fun _ _ _ h => h) (Or.inl ⟨by rfl, ?_⟩) hHeld ?_
      rotate_left
      · (intro w hSw; go_simp; (try with_reducible rfl))
      simp only [Act.put, List.getElem_toArray, List.getElem_cons_zero, List.getElem_cons_succ, List.setIfInBounds_toArray, List.set_cons_zero, List.set_cons_succ]
      refine wpAnyH_take (i := 5) (v := ?_) rfl (by kernel_rfl) (by kernel_rfl) (by kernel_rfl) (fun _ _ _ h => h) (Or.inl ⟨by rfl, ?_⟩) hHeld ?_
      rotate_left
      · (intro w hSw; go_simp; (try with_reducible rfl))
      simp only [Act.put, List.getElem_toArray, List.getElem_cons_zero, List.getElem_cons_succ, List.setIfInBounds_toArray, List.set_cons_zero, List.set_cons_succ]
      refine wpAnyH_take (i := 6) (v := ?_) rfl (by kernel_rfl) (by kernel_rfl) (by kernel_rfl) (fun _ _ _ h => h) (Or.inl ⟨by rfl, ?_⟩) hHeld ?_
      rotate_left
      · (intro w hSw; go_simp; (try with_reducible rfl))
      simp only [Act.put, List.getElem_toArray, List.getElem_cons_zero, List.getElem_cons_succ, List.setIfInBounds_toArray, List.set_cons_zero, List.set_cons_succ]
      refine wpAnyH_take (i := 7) (v := ?_) rfl (by kernel_rfl) (by kernel_rfl) (by kernel_rfl) (fun _ _ _ h => h) (Or.inl ⟨by rfl, ?_⟩) hHeld ?_
      rotate_left
      · (intro w hSw; go_simp; (try with_reducible rfl))
      simp only [Act.put, List.getElem_toArray, List.getElem_cons_zero, List.getElem_cons_succ, List.setIfInBounds_toArray, List.set_cons_zero, List.set_cons_succ]
      refine wpAnyH_take (i := 8) (v := ?_) rfl (by kernel_rfl) (by kernel_rfl) (by kernel_rfl) (fun _ _ _ h => h) (Or.inl ⟨by rfl, ?_⟩) hHeld ?_
      rotate_left
      · (intro w hSw; go_simp; (try with_reducible rfl))
      simp only [Act.put, List.getElem_toArray, List.getElem_cons_zero, List.getElem_cons_succ, List.setIfInBounds_toArray, List.set_cons_zero, List.set_cons_succ]
      refine wpAnyH_take (i := 9) (v := ?_) rfl (by kernel_rfl) (by kernel_rfl) (by kernel_rfl) (fun _ _ _ h => h) (Or.inl ⟨by rfl, ?_⟩) hHeld ?_
      rotate_left
      · (intro w hSw; go_simp; (try with_reducible rfl))
      simp only [Act.put, List.getElem_toArray, List.getElem_cons_zero, List.getElem_cons_succ, List.setIfInBounds_toArray, List.set_cons_zero, List.set_cons_succ]
      refine wpAnyH_take (i := 10) (v := ?_) rfl (by kernel_rfl) (by kernel_rfl) (by kernel_rfl) (fun _ _ _ h => h) (Or.inl ⟨by rfl, ?_⟩) hHeld ?_
      rotate_left
      · (intro w hSw; go_simp; (try with_reducible rfl))
      simp only [Act.put, List.getElem_toArray, List.getElem_cons_zero, List.getElem_cons_succ, List.setIfInBounds_toArray, List.set_cons_zero, List.set_cons_succ]
      refine wpAnyH_take (i := 11) (v := ?_) rfl (by kernel_rfl) (by kernel_rfl) (by kernel_rfl) (fun _ _ _ h => h) (Or.inl ⟨by rfl, ?_⟩) hHeld ?_
      rotate_left
      · (intro w hSw; go_simp; (try with_reducible rfl))
      simp only [Act.put, List.getElem_toArray, List.getElem_cons_zero, List.getElem_cons_succ, List.setIfInBounds_toArray, List.set_cons_zero, List.set_cons_succ]
      refine wpAnyH_take (i := 12) (v := ?_) rfl (by kernel_rfl) (by kernel_rfl) (by kernel_rfl) (fun _ _ _ h => h) (Or.inl ⟨by rfl, ?_⟩) hHeld ?_
      rotate_left
      · (intro w hSw; go_simp; (try with_reducible rfl))
      simp only [Act.put, List.getElem_toArray, List.getElem_cons_zero, List.getElem_cons_succ, List.setIfInBounds_toArray, List.set_cons_zero, List.set_cons_succ]
      refine wpAnyH_take (i := 13) (v := ?_) rfl (by kernel_rfl) (by kernel_rfl) (by kernel_rfl) (fun _ _ _ h => h) (Or.inl ⟨by rfl, ?_⟩) hHeld ?_
      rotate_left
      · (intro w hSw; go_simp; (try with_reducible rfl))
      simp only [Act.put, List.getElem_toArray, List.getElem_cons_zero, List.getElem_cons_succ, List.setIfInBounds_toArray, List.set_cons_zero, List.set_cons_succ]
      refine wpAnyH_take (i := 14) (v := ?_) rfl (by kernel_rfl) (by kernel_rfl) (by kernel_rfl) (fun _ _ _ h => h) (Or.inl ⟨by rfl, ?_⟩) hHeld ?_
      rotate_left
      · (intro w hSw; go_simp; (try with_reducible rfl))
      simp only [Act.put, List.getElem_toArray, List.getElem_cons_zero, List.getElem_cons_succ, List.setIfInBounds_toArray, List.set_cons_zero, List.set_cons_succ]
      refine wpAnyH_take (i := 15) (v := ?_) rfl (by kernel_rfl) (by kernel_rfl) (by kernel_rfl) (fun _ _ _ h => h) (Or.inl ⟨by rfl, ?_⟩) hHeld ?_
      rotate_left
      · (intro w hSw; go_simp; (try with_reducible rfl))
      simp only [Act.put, List.getElem_toArray, List.getElem_cons_zero, List.getElem_cons_succ, List.setIfInBounds_toArray, List.set_cons_zero, List.set_cons_succ]
      refine wpAnyH_take (i := 16) (v := ?_) rfl (by kernel_rfl) (by kernel_rfl) (by kernel_rfl) (fun _ _ _ h => h) (Or.inl ⟨by rfl, ?_⟩) hHeld ?_
      rotate_left
      · (intro w hSw; go_simp; (try with_reducible rfl))
      simp only [Act.put, List.getElem_toArray, List.getElem_cons_zero, List.getElem_cons_succ, List.setIfInBounds_toArray, List.set_cons_zero, List.set_cons_succ]
      refine wpAnyH_take (i := 17) (v := ?_) rfl (by kernel_rfl) (by kernel_rfl) (by kernel_rfl) (fun _ _ _ h => h) (Or.inl ⟨by rfl, ?_⟩) hHeld ?_
      rotate_left
      · (intro w hSw; go_simp; (try with_reducible rfl))
      simp only [Act.put, List.getElem_toArray, List.getElem_cons_zero, List.getElem_cons_succ, List.setIfInBounds_toArray, List.set_cons_zero, List.set_cons_succ]
      refine wpAnyH_take (i := 18) (v := ?_) rfl (by kernel_rfl) (by kernel_rfl) (by kernel_rfl) (fun _ _ _ h => h) (Or.inl ⟨by rfl, ?_⟩) hHeld ?_
      rotate_left
      · (intro w hSw; go_simp; (try with_reducible rfl))
      simp only [Act.put, List.getElem_toArray, List.getElem_cons_zero, List.getElem_cons_succ, List.setIfInBounds_toArray, List.set_cons_zero, List.set_cons_succ]
      refine wpAnyH_take (i := 19) (v := ?_) rfl (by kernel_rfl) (by kernel_rfl) (by kernel_rfl) (fun _ _ _ h => h) (Or.inl ⟨by rfl, ?_⟩) hHeld ?_
      rotate_left
      · (intro w hSw; go_simp; (try with_reducible rfl))
      simp only [Act.put, List.getElem_toArray, List.getElem_cons_zero, List.getElem_cons_succ, List.setIfInBounds_toArray, List.set_cons_zero, List.set_cons_succ]
      refine wpAnyH_take (i := 20) (v := ?_) rfl (by kernel_rfl) (by kernel_rfl) (by kernel_rfl) (fun _ _ _ h => h) (Or.inl ⟨by rfl, ?_⟩) hHeld ?_
      rotate_left
      · (intro w hSw; go_simp; (try with_reducible rfl))
      simp only [Act.put, List.getElem_toArray, List.getElem_cons_zero, List.getElem_cons_succ, List.setIfInBounds_toArray, List.set_cons_zero, List.set_cons_succ]
      refine wpAnyH_take (i := 21) (v := ?_) rfl (by kernel_rfl) (by kernel_rfl) (by kernel_rfl) (fun _ _ _ h => h) (Or.inl ⟨by rfl, ?_⟩) hHeld ?_
      rotate_left
      · (intro w hSw; go_simp; (try with_reducible rfl))
      simp only [Act.put, List.getElem_toArray, List.getElem_cons_zero, List.getElem_cons_succ, List.setIfInBounds_toArray, List.set_cons_zero, List.set_cons_succ]
      refine wpAnyH_take (i := 22) (v := ?_) rfl (by kernel_rfl) (by kernel_rfl) (by kernel_rfl) (fun _ _ _ h => h) (Or.inl ⟨by rfl, ?_⟩) hHeld ?_
      rotate_left
      · (intro w hSw; go_simp; (try with_reducible rfl))
      simp only [Act.put, List.getElem_toArray, List.getElem_cons_zero, List.getElem_cons_succ, List.setIfInBounds_toArray, List.set_cons_zero, List.set_cons_succ]
      refine wpAnyH_done (by kernel_rfl) ?_ _
      go_upto_region 29 with fail
      clear lE1 lE2 lE3 lcb lx hHeld
      have hsz0 := st0_size'
      have hone0 := st0_one'
      go_wp2_with (first
        | (refine wpList_build0 rfl rfl ?_)
        | (refine wpList_store_row rfl 29 (.tmp 4) (.tmp 168) rfl gr _ rfl rfl 29 st0 hr9 hsz0 rfl hone0 ?_))
      refine bodyPost_ret (v := .tuple #[.agg st0, .int .i64 20]) ?_ rfl ⟨st0, nilS, fun _ => nilS, by rw [HA.out], by rw [HA.out]; exact reads_0 _ _, by rw [HA.out]; exact own_zero _ _, below_setRow hb9 _ _ hwr⟩
      exact results_cell_tmp (ty := 29) (p := 4) (q := 5) (by kernel_rfl) _ _ gr 29 _ (0, 0) _ rfl (setRow_heap _ _ _ _ _ _ hr9) Tryd.underlying29 rfl hsz0
    have hd2 : (x != (m : Int)) = false := by rw [hxm]; exact bne_self_eq_false _
    have HXM := Lib.hid hxm
    clear hxm
    refine wp_region_held_drew (S := fun W => Below w6.heap.size w6 W) (by kernel_rfl) (Below.refl _ _).drew (fun hHeld => ?_)
    refine wpAnyH_take (i := 0) (v := ?_) rfl (by kernel_rfl) (by kernel_rfl) (by kernel_rfl) (fun _ _ _ h => h) (Or.inl ⟨by rfl, ?_⟩) hHeld ?_
    rotate_left
    · (intro w hSw; go_simp; (try with_reducible rfl))
    simp only [Act.put, List.getElem_toArray, List.getElem_cons_zero, List.getElem_cons_succ, List.setIfInBounds_toArray, List.set_cons_zero, List.set_cons_succ]
    refine wpAnyH_take (i := 1) (v := ?_) rfl (by kernel_rfl) (by kernel_rfl) (by kernel_rfl) (fun _ _ _ h => h) (Or.inl ⟨by rfl, ?_⟩) hHeld ?_
    rotate_left
    · (intro w hSw; go_simp; (try with_reducible rfl))
    simp only [Act.put, List.getElem_toArray, List.getElem_cons_zero, List.getElem_cons_succ, List.setIfInBounds_toArray, List.set_cons_zero, List.set_cons_succ]
    refine wpAnyH_take (i := 2) (v := ?_) rfl (by kernel_rfl) (by kernel_rfl) (by kernel_rfl) (fun _ _ _ h => h) (Or.inl ⟨by rfl, ?_⟩) hHeld ?_
    rotate_left
    · (intro w hSw; go_simp; (try with_reducible rfl))
    simp only [Act.put, List.getElem_toArray, List.getElem_cons_zero, List.getElem_cons_succ, List.setIfInBounds_toArray, List.set_cons_zero, List.set_cons_succ]
    refine wpAnyH_take (i := 3) (v := ?_) rfl (by kernel_rfl) (by kernel_rfl) (by kernel_rfl) (fun _ _ _ h => h) (Or.inl ⟨by rfl, ?_⟩) hHeld ?_
    rotate_left
    · (intro w hSw; go_simp; (try with_reducible rfl))
    simp only [Act.put, List.getElem_toArray, List.getElem_cons_zero, List.getElem_cons_succ, List.setIfInBounds_toArray, List.set_cons_zero, List.set_cons_succ]
    refine wpAnyH_take (i := 4) (v := ?_) rfl (by kernel_rfl) (by kernel_rfl) (by kernel_rfl) (fun _ _ _ h => h) (Or.inl ⟨by rfl, ?_⟩) hHeld ?_
    rotate_left
    · (intro w hSw; go_simp; (try with_reducible rfl))
    simp only [Act.put, List.getElem_toArray, List.getElem_cons_zero, List.getElem_cons_succ, List.setIfInBounds_toArray, List.set_cons_zero, List.set_cons_succ]
    refine wpAnyH_take (i := 5) (v := ?_) rfl (by kernel_rfl) (by kernel_rfl) (by kernel_rfl) (fun _ _ _ h => h) (Or.inl ⟨by rfl, ?_⟩) hHeld ?_
    rotate_left
    · (intro w hSw; go_simp; (try with_reducible rfl))
    simp only [Act.put, List.getElem_toArray, List.getElem_cons_zero, List.getElem_cons_succ, List.setIfInBounds_toArray, List.set_cons_zero, List.set_cons_succ]
    refine wpAnyH_take (i := 6) (v := ?_) rfl (by kernel_rfl) (by kernel_rfl) (by kernel_rfl) (fun _ _ _ h => h) (Or.inl ⟨by rfl, ?_⟩) hHeld ?_
    rotate_left
    · (intro w hSw; go_simp; (try with_reducible rfl))
    simp only [Act.put, List.getElem_toArray, List.getElem_cons_zero, List.getElem_cons_succ, List.setIfInBounds_toArray, List.set_cons_zero, List.set_cons_succ]
    refine wpAnyH_take (i := 7) (v := ?_) rfl (by kernel_rfl) (by kernel_rfl) (by kernel_rfl) (fun _ _ _ h => h) (Or.inl ⟨by rfl, ?_⟩) hHeld ?_
    rotate_left
    · (intro w hSw; go_simp; (try with_reducible rfl))
    simp only [Act.put, List.getElem_toArray, List.getElem_cons_zero, List.getElem_cons_succ, List.setIfInBounds_toArray, List.set_cons_zero, List.set_cons_succ]
    refine wpAnyH_take (i := 8) (v := ?_) rfl (by kernel_rfl) (by kernel_rfl) (by kernel_rfl) (fun _ _ _ h => h) (Or.inl ⟨by rfl, ?_⟩) hHeld ?_
    rotate_left
    · (intro w hSw; go_simp; (try with_reducible rfl))
    simp only [Act.put, List.getElem_toArray, List.getElem_cons_zero, List.getElem_cons_succ, List.setIfInBounds_toArray, List.set_cons_zero, List.set_cons_succ]
    refine wpAnyH_take (i := 9) (v := ?_) rfl (by kernel_rfl) (by kernel_rfl) (by kernel_rfl) (fun _ _ _ h => h) (Or.inl ⟨by rfl, ?_⟩) hHeld ?_
    rotate_left
    · (intro w hSw; go_simp; (try with_reducible rfl))
    simp only [Act.put, List.getElem_toArray, List.getElem_cons_zero, List.getElem_cons_succ, List.setIfInBounds_toArray, List.set_cons_zero, List.set_cons_succ]
    refine wpAnyH_take (i := 10) (v := ?_) rfl (by kernel_rfl) (by kernel_rfl) (by kernel_rfl) (fun _ _ _ h => h) (Or.inl ⟨by rfl, ?_⟩) hHeld ?_
    rotate_left
    · (intro w hSw; go_simp; (try with_reducible rfl))
    simp only [Act.put, List.getElem_toArray, List.getElem_cons_zero, List.getElem_cons_succ, List.setIfInBounds_toArray, List.set_cons_zero, List.set_cons_succ]
    refine wpAnyH_take (i := 11) (v := ?_) rfl (by kernel_rfl) (by kernel_rfl) (by kernel_rfl) (fun _ _ _ h => h) (Or.inl ⟨by rfl, ?_⟩) hHeld ?_
    rotate_left
    · (intro w hSw; go_simp; (try with_reducible rfl))
    simp only [Act.put, List.getElem_toArray, List.getElem_cons_zero, List.getElem_cons_succ, List.setIfInBounds_toArray, List.set_cons_zero, List.set_cons_succ]
    refine wpAnyH_take (i := 12) (v := ?_) rfl (by kernel_rfl) (by kernel_rfl) (by kernel_rfl) (fun _ _ _ h => h) (Or.inl ⟨by rfl, ?_⟩) hHeld ?_
    rotate_left
    · (intro w hSw; go_simp; (try with_reducible rfl))
    simp only [Act.put, List.getElem_toArray, List.getElem_cons_zero, List.getElem_cons_succ, List.setIfInBounds_toArray, List.set_cons_zero, List.set_cons_succ]
    refine wpAnyH_take (i := 13) (v := ?_) rfl (by kernel_rfl) (by kernel_rfl) (by kernel_rfl) (fun _ _ _ h => h) (Or.inl ⟨by rfl, ?_⟩) hHeld ?_
    rotate_left
    · (intro w hSw; go_simp; (try with_reducible rfl))
    simp only [Act.put, List.getElem_toArray, List.getElem_cons_zero, List.getElem_cons_succ, List.setIfInBounds_toArray, List.set_cons_zero, List.set_cons_succ]
    refine wpAnyH_take (i := 14) (v := ?_) rfl (by kernel_rfl) (by kernel_rfl) (by kernel_rfl) (fun _ _ _ h => h) (Or.inl ⟨by rfl, ?_⟩) hHeld ?_
    rotate_left
    · (intro w hSw; go_simp; (try with_reducible rfl))
    simp only [Act.put, List.getElem_toArray, List.getElem_cons_zero, List.getElem_cons_succ, List.setIfInBounds_toArray, List.set_cons_zero, List.set_cons_succ]
    refine wpAnyH_take (i := 15) (v := ?_) rfl (by kernel_rfl) (by kernel_rfl) (by kernel_rfl) (fun _ _ _ h => h) (Or.inl ⟨by rfl, ?_⟩) hHeld ?_
    rotate_left
    · (intro w hSw; go_simp; (try with_reducible rfl))
    simp only [Act.put, List.getElem_toArray, List.getElem_cons_zero, List.getElem_cons_succ, List.setIfInBounds_toArray, List.set_cons_zero, List.set_cons_succ]
    refine wpAnyH_take (i := 16) (v := ?_) rfl (by kernel_rfl) (by kernel_rfl) (by kernel_rfl) (fun _ _ _ h => h) (Or.inl ⟨by rfl, ?_⟩) hHeld ?_
    rotate_left
    · (intro w hSw; go_simp; (try with_reducible rfl))
    simp only [Act.put, List.getElem_toArray, List.getElem_cons_zero, List.getElem_cons_succ, List.setIfInBounds_toArray, List.set_cons_zero, List.set_cons_succ]
    refine wpAnyH_take (i := 17) (v := ?_) rfl (by kernel_rfl) (by kernel_rfl) (by kernel_rfl) (fun _ _ _ h => h) (Or.inl ⟨by rfl, ?_⟩) hHeld ?_
    rotate_left
    · (intro w hSw; go_simp; (try with_reducible rfl))
    simp only [Act.put, List.getElem_toArray, List.getElem_cons_zero, List.getElem_cons_succ, List.setIfInBounds_toArray, List.set_cons_zero, List.set_cons_succ]
    refine wpAnyH_take (i := 18) (v := ?_) rfl (by kernel_rfl) (by kernel_rfl) (by kernel_rfl) (fun _ _ _ h => h) (Or.inl ⟨by rfl, ?_⟩) hHeld ?_
    rotate_left
    · (intro w hSw; go_simp; (try with_reducible rfl))
    simp only [Act.put, List.getElem_toArray, List.getElem_cons_zero, List.getElem_cons_succ, List.setIfInBounds_toArray, List.set_cons_zero, List.set_cons_succ]
    refine wpAnyH_take (i := 19) (v := ?_) rfl (by kernel_rfl) (by kernel_rfl) (by kernel_rfl) (fun _ _ _ h => h) (Or.inl ⟨by rfl, ?_⟩) hHeld ?_
    rotate_left
    · (intro w hSw; go_simp; (try with_reducible rfl))
    simp only [Act.put, List.getElem_toArray, List.getElem_cons_zero, List.getElem_cons_succ, List.setIfInBounds_toArray, List.set_cons_zero, List.set_cons_succ]
    refine wpAnyH_take (i := 20) (v := ?_) rfl (by kernel_rfl) (by kernel_rfl) (by kernel_rfl) (fun _ _ _ h => h) (Or.inl ⟨by rfl, ?_⟩) hHeld ?_
    rotate_left
    · (intro w hSw; go_simp; (try with_reducible rfl))
    simp only [Act.put, List.getElem_toArray, List.getElem_cons_zero, List.getElem_cons_succ, List.setIfInBounds_toArray, List.set_cons_zero, List.set_cons_succ]
    refine wpAnyH_take (i := 21) (v := ?_) rfl (by kernel_rfl) (by kernel_rfl) (by kernel_rfl) (fun _ _ _ h => h) (Or.inl ⟨by rfl, ?_⟩) hHeld ?_
    rotate_left
    · (intro w hSw; go_simp; (try with_reducible rfl))
    simp only [Act.put, List.getElem_toArray, List.getElem_cons_zero, List.getElem_cons_succ, List.setIfInBounds_toArray, List.set_cons_zero, List.set_cons_succ]
    refine wpAnyH_take (i := 22) (v := ?_) rfl (by kernel_rfl) (by kernel_rfl) (by kernel_rfl) (fun _ _ _ h => h) (Or.inl ⟨by rfl, ?_⟩) hHeld ?_
    rotate_left
    · (intro w hSw; go_simp; (try with_reducible rfl))
    simp only [Act.put, List.getElem_toArray, List.getElem_cons_zero, List.getElem_cons_succ, List.setIfInBounds_toArray, List.set_cons_zero, List.set_cons_succ]
    refine wpAnyH_done (by kernel_rfl) ?_ _
    go_upto_region 30 with fail
    clear hd1 hd1n hd2 lx hHeld
    clear lE1 lE2 lE3 lcb
    have lE1 : ∀ W, EvB W ge ⟨1, (m : Int), (nb : Int), (nc : Int), (nd : Int), (ne : Int)⟩ → W.cell? ⟨ge, 1, none⟩ = some (.int .i64 (m : Int)) := fun W h => h.cells.2.1
    have lE2 : ∀ W, EvB W ge ⟨1, (m : Int), (nb : Int), (nc : Int), (nd : Int), (ne : Int)⟩ → W.cell? ⟨ge, 2, none⟩ = some (.int .i64 (nb : Int)) := fun W h => h.cells.2.2.1
    have lE3 : ∀ W, EvB W ge ⟨1, (m : Int), (nb : Int), (nc : Int), (nd : Int), (ne : Int)⟩ → W.cell? ⟨ge, 3, none⟩ = some (.int .i64 (nc : Int)) := fun W h => h.cells.2.2.2.1
    have lE4 : ∀ W, EvB W ge ⟨1, (m : Int), (nb : Int), (nc : Int), (nd : Int), (ne : Int)⟩ → W.cell? ⟨ge, 4, none⟩ = some (.int .i64 (nd : Int)) := fun W h => h.cells.2.2.2.2.1
    have lE5 : ∀ W, EvB W ge ⟨1, (m : Int), (nb : Int), (nc : Int), (nd : Int), (ne : Int)⟩ → W.cell? ⟨ge, 5, none⟩ = some (.int .i64 (ne : Int)) := fun W h => h.cells.2.2.2.2.2
    have HP0 := Lib.hid (show AP w ge gr gs ⟨1, (m : Int), (nb : Int), (nc : Int), (nd : Int), (ne : Int)⟩ s ⟨A5, s.objs.length, c5⟩ L5 w6.drew.drew from HP.out.drew.drew)
    have HN0 := Lib.hid (show Nums .i64 w6.drew.drew w6.drew.drew.heap.size (some a1) n1 (s.lists nb) from HNb.out.drew.drew)
    refine wp_region_held_drew (S := fun W => EvB W ge ⟨1, (m : Int), (nb : Int), (nc : Int), (nd : Int), (ne : Int)⟩) (by kernel_rfl) (show EvB w6.drew.drew ge ⟨1, (m : Int), (nb : Int), (nc : Int), (nd : Int), (ne : Int)⟩ from HP0.out.e) (fun hHeld => ?_)
    obtain ⟨v0, hv0⟩ : ∃ v0, v0 = w6.drew.drew := ⟨_, rfl⟩
    rw [← hv0] at HP0 HN0 hHeld ⊢
    clear hv0
    have x0 : v0.cell? ⟨gs, 1 + nb, none⟩ = some (.slice (some a1) n1 c1) := ((HP0.out.a.cell (1 + nb)).trans (stC_list _ _ _ _ hb11)).trans (congrArg some HLv.out)
    refine wpAnyH_take (i := 0) (v := ?_) rfl (by kernel_rfl) (by kernel_rfl) (by kernel_rfl) (fun _ _ _ h => h) (Or.inl ⟨by rfl, ?_⟩) hHeld ?_
    rotate_left
    · (intro w hSw; go_simp; (try with_reducible rfl))
    simp only [Act.put, List.getElem_toArray, List.getElem_cons_zero, List.getElem_cons_succ, List.setIfInBounds_toArray, List.set_cons_zero, List.set_cons_succ]
    refine wpAnyH_take (i := 1) (v := ?_) rfl (by kernel_rfl) (by kernel_rfl) (by kernel_rfl) (fun _ _ _ h => h) (Or.inl ⟨by rfl, ?_⟩) hHeld ?_
    rotate_left
    · (intro w hSw; go_simp; (try with_reducible rfl))
    simp only [Act.put, List.getElem_toArray, List.getElem_cons_zero, List.getElem_cons_succ, List.setIfInBounds_toArray, List.set_cons_zero, List.set_cons_succ]
    refine wpAnyH_take (i := 2) (v := ?_) rfl (by kernel_rfl) (by kernel_rfl) (by kernel_rfl) (fun _ _ _ h => h) (Or.inl ⟨by rfl, ?_⟩) hHeld ?_
    rotate_left
    · (intro w hSw; go_simp; (try with_reducible rfl))
    simp only [Act.put, List.getElem_toArray, List.getElem_cons_zero, List.getElem_cons_succ, List.setIfInBounds_toArray, List.set_cons_zero, List.set_cons_succ]
    refine wpAnyH_take (i := 3) (v := ?_) rfl (by kernel_rfl) (by kernel_rfl) (by kernel_rfl) (fun _ _ _ h => h) (Or.inl ⟨by rfl, ?_⟩) hHeld ?_
    rotate_left
    · (intro w hSw; go_simp; (try with_reducible rfl))
    simp only [Act.put, List.getElem_toArray, List.getElem_cons_zero, List.getElem_cons_succ, List.setIfInBounds_toArray, List.set_cons_zero, List.set_cons_succ]
    refine wpAnyH_take (i := 4) (v := ?_) rfl (by kernel_rfl) (by kernel_rfl) (by kernel_rfl) (fun _ _ _ h => h) (Or.inl ⟨by rfl, ?_⟩) hHeld ?_
    rotate_left
    · (intro w hSw; go_simp; (try with_reducible rfl))
    simp only [Act.put, List.getElem_toArray, List.getElem_cons_zero, List.getElem_cons_succ, List.setIfInBounds_toArray, List.set_cons_zero, List.set_cons_succ]
    refine wpAnyH_take (i := 5) (v := ?_) rfl (by kernel_rfl) (by kernel_rfl) (by kernel_rfl) (fun _ _ _ h => h) (Or.inl ⟨by rfl, ?_⟩) hHeld ?_
    rotate_left
    · (intro w hSw; go_simp; (try with_reducible rfl))
    simp only [Act.put, List.getElem_toArray, List.getElem_cons_zero, List.getElem_cons_succ, List.setIfInBounds_toArray, List.set_cons_zero, List.set_cons_succ]
    refine wpAnyH_take (i := 7) (v := ?_) rfl (by kernel_rfl) (by kernel_rfl) (by kernel_rfl) (fun _ _ _ h => h) (Or.inl ⟨by rfl, ?_⟩) hHeld ?_
    rotate_left
    · (intro w hSw; go_simp; (try with_reducible rfl))
    simp only [Act.put, List.getElem_toArray, List.getElem_cons_zero, List.getElem_cons_succ, List.setIfInBounds_toArray, List.set_cons_zero, List.set_cons_succ]
    refine wpAnyH_take (i := 8) (v := ?_) rfl (by kernel_rfl) (by kernel_rfl) (by kernel_rfl) (fun _ _ _ h => h) (Or.inl ⟨by rfl, ?_⟩) hHeld ?_
    rotate_left
    · (intro w hSw; go_simp; (try with_reducible rfl))
    simp only [Act.put, List.getElem_toArray, List.getElem_cons_zero, List.getElem_cons_succ, List.setIfInBounds_toArray, List.set_cons_zero, List.set_cons_succ]
    refine wpAnyH_take (i := 10) (v := ?_) rfl (by kernel_rfl) (by kernel_rfl) (by kernel_rfl) (fun _ _ _ h => h) (Or.inl ⟨by rfl, ?_⟩) hHeld ?_
    rotate_left
    · (intro w hSw; go_simp; (try with_reducible rfl))
    simp only [Act.put, List.getElem_toArray, List.getElem_cons_zero, List.getElem_cons_succ, List.setIfInBounds_toArray, List.set_cons_zero, List.set_cons_succ]
    refine wpAnyH_ready (rs := [6]) (by kernel_rfl) (by simp) ?_
    refine AllReadyH.cons rfl (fun K hK => ?_) AllReadyH.nil
    simp only [List.getElem_toArray, List.getElem_cons_zero, List.getElem_cons_succ]
    go_simp
    refine hK.out _ _ hHeld (fun _ => ?_)
    try simp only [Act.put, List.setIfInBounds_toArray, List.set_cons_zero, List.set_cons_succ]
    clear hK K x0
    refine wpAnyH_ready (rs := [9]) (by kernel_rfl) (by simp) ?_
    refine AllReadyH.cons rfl (fun K hK => ?_) AllReadyH.nil
    simp only [List.getElem_toArray, List.getElem_cons_zero, List.getElem_cons_succ]
    go_simp
    refine (removeRef_any (some a1) n1 c1 (s.lists nb) nc v0 v0.heap.size HN0.out (Nat.le_refl _) hn1m hc1).mono ?_
    rintro en w7 ⟨A7, m7, c7, rfl, hown7, hb7⟩
    go_wp2_with fail
    have hS : EvB w7 ge ⟨1, (m : Int), (nb : Int), (nc : Int), (nd : Int), (ne : Int)⟩ := hHeld.keep hb7
    refine hK.out _ _ hS (fun _ => ?_)
    try simp only [Act.put, List.setIfInBounds_toArray, List.set_cons_zero, List.set_cons_succ]
    clear hK K hHeld
    have hHeld := hS
    clear hS
    refine wpAnyH_take (i := 11) (v := ?_) rfl (by kernel_rfl) (by kernel_rfl) (by kernel_rfl) (fun _ _ _ h => h) (Or.inl ⟨by rfl, ?_⟩) hHeld ?_
    rotate_left
    · (intro w hSw; go_simp; (try with_reducible rfl))
    simp only [Act.put, List.getElem_toArray, List.getElem_cons_zero, List.getElem_cons_succ, List.setIfInBounds_toArray, List.set_cons_zero, List.set_cons_succ]
    have HP7 := Lib.hid (HP0.out.keep hb7)
    have x0 := (HP7.out.a.cell (1 + nb)).trans (stC_list _ _ _ _ hb11)
    have y0 := frozen_of_row w7 gs (1 + nb) _ _ HP7.out.a
    have HP8 := Lib.hid (show AP w ge gr gs ⟨1, (m : Int), (nb : Int), (nc : Int), (nd : Int), (ne : Int)⟩ ⟨s.objs, mv1 s ⟨1, (m : Int), (nb : Int), (nc : Int), (nd : Int), (ne : Int)⟩, s.pl, s.gm⟩ ⟨A5, s.objs.length, c5⟩ (updS L5 nb ⟨A7, m7, c7⟩) (w7.setCell ⟨gs, 1 + nb, none⟩ (.slice A7 m7 c7)) from
      HP0.out.list HPB.out hb11 ⟨hb7.os, hb7.tape, hb7.output, hb7.size, fun k hk _ => hb7.block k hk⟩ (y := ⟨A7, m7, c7⟩) (hown7.base_le HP0.out.b.size) (fun j hj => .inl (hown7.ownLt j hj)))
    refine wpAnyH_ready (rs := [12]) (by kernel_rfl) (by simp) ?_
    refine AllReadyH.cons rfl (fun K hK => ?_) AllReadyH.nil
    simp only [List.getElem_toArray, List.getElem_cons_zero, List.getElem_cons_succ]
    go_simp
    have hS := HP8.out.e
    refine hK.out _ _ hS (fun _ => ?_)
    try simp only [Act.put, List.setIfInBounds_toArray, List.set_cons_zero, List.set_cons_succ]
    clear hK K hHeld
    have hHeld := hS
    clear hS
    refine wpAnyH_done (by kernel_rfl) ?_ _
    obtain ⟨v1, hv1⟩ : ∃ v1, v1 = w7.setCell ⟨gs, 1 + nb, none⟩ (.slice A7 m7 c7) := ⟨_, rfl⟩
    rw [← hv1] at HP8 ⊢
    clear hv1 x0 y0 hHeld HP7 hown7 hb7 HN0 HP0 HP
    obtain ⟨L1, hL1⟩ : ∃ L1, L1 = updS L5 nb ⟨A7, m7, c7⟩ := ⟨_, rfl⟩
    rw [← hL1] at HP8
    clear hL1
    obtain ⟨M1, hM1⟩ : ∃ M1, M1 = mv1 s ⟨1, (m : Int), (nb : Int), (nc : Int), (nd : Int), (ne : Int)⟩ := ⟨_, rfl⟩
    have HM1 := Lib.hid hM1
    rw [← hM1] at HP8
    clear hM1
    have hcd : v1.cell? ⟨gs, 1 + nd, none⟩ = some (.slice (L1 nd).A (L1 nd).n (L1 nd).c) := (HP8.out.a.cell (1 + nd)).trans (stC_list _ _ _ _ hd11)
    have hNd := (HP8.out.o.l nd hd11).nums
    obtain ⟨A2, hA2⟩ : ∃ x, x = (L1 nd).A := ⟨_, rfl⟩
    obtain ⟨n2, hn2⟩ : ∃ x, x = (L1 nd).n := ⟨_, rfl⟩
    obtain ⟨c2, hc2⟩ : ∃ x, x = (L1 nd).c := ⟨_, rfl⟩
    have HLv2 := Lib.hid (show (L1 nd).v = .slice A2 n2 c2 by rw [hA2, hn2, hc2]; rfl)
    rw [← hA2, ← hn2, ← hc2] at hcd
    rw [← hA2, ← hn2] at hNd
    have hn2l : (M1 nd).length = n2 := hNd.len
    have hn2m : n2 ≤ 1000000 := by
      rw [← hn2l, HM1.out]
      unfold mv1
      by_cases ed : nd = nb
      · subst ed
        simp only [Int.toNat_natCast, updL_at]
        have := rm_len (s.lists nd) nc (by have := Hnl.out; omega)
        have := hll nd hd11
        omega
      · simp only [Int.toNat_natCast]
        rw [updL_ne _ ed]; exact hll nd hd11
    have HNd := Lib.hid hNd
    have Hn2 := Lib.hid hn2l
    have he1 := HP8.out.e
    clear hA2 hn2 hc2 hNd hn2l
    have ld : ∀ W, Below v1.heap.size v1 W → W.cell? ⟨gs, 1 + nd, none⟩ = some (.slice A2 n2 c2) := fun W hW => (hW.cell (World.block_lt_of_cell? v1 _ hcd)).trans hcd
    have lF4 : ∀ W, Below v1.heap.size v1 W → W.cell? ⟨ge, 4, none⟩ = some (.int .i64 (nd : Int)) := fun W hW => (he1.keep hW).cells.2.2.2.2.1
    have lF5 : ∀ W, Below v1.heap.size v1 W → W.cell? ⟨ge, 5, none⟩ = some (.int .i64 (ne : Int)) := fun W hW => (he1.keep hW).cells.2.2.2.2.2
    go_upto_region 31 with fail
    by_cases hle : ne ≤ n2
    case neg =>
      have hd3 : decide ((n2 : Int) < (ne : Int)) = true := decide_eq_true (by omega)
      have hd3n : decide (n2 < ne) = true := decide_eq_true (by omega)
      have HA := Lib.hid (show applyS s ⟨1, (m : Int), (nb : Int), (nc : Int), (nd : Int), (ne : Int)⟩ = (sT0, 1) by
        rw [HA0.out]; unfold ap1
        rw [if_neg (by simp only; omega), if_neg (by
          rintro (h | h)
          · simp only [Int.toNat_natCast] at h; have := Hnl.out; omega
          · apply h; simp only [Int.toNat_natCast]; rw [HX.out]; exact HXM.out), if_pos (by
          simp only [Int.toNat_natCast]; rw [← HM1.out, Hn2.out]; omega)])
      have hr9 : StAt v1.drew gr st0 := HP8.out.r
      have hb9 : Below w.heap.size w v1.drew := HP8.out.b.drew
      refine wp_region_held_drew (S := fun W => Below v1.heap.size v1 W) (by kernel_rfl) (Below.refl _ _).drew (fun hHeld => ?_)
      refine wpAnyH_take (i := 0) (v := ?_) rfl (by kernel_rfl) (by kernel_rfl) (by kernel_rfl) (fun _ _ _ h => h) (Or.inl ⟨by rfl, ?_⟩) hHeld ?_
      rotate_left
      · (intro w hSw; go_simp; (try with_reducible rfl))
      simp only [Act.put, List.getElem_toArray, List.getElem_cons_zero, List.getElem_cons_succ, List.setIfInBounds_toArray, List.set_cons_zero, List.set_cons_succ]
      refine wpAnyH_take (i := 1) (v := ?_) rfl (by kernel_rfl) (by kernel_rfl) (by kernel_rfl) (fun _ _ _ h => h) (Or.inl ⟨by rfl, ?_⟩) hHeld ?_
      rotate_left
      · (intro w hSw; go_simp; (try with_reducible rfl))
      simp only [Act.put, List.getElem_toArray, List.getElem_cons_zero, List.getElem_cons_succ, List.setIfInBounds_toArray, List.set_cons_zero, List.set_cons_succ]
      refine wpAnyH_take (i := 2) (v := ?_) rfl (by kernel_rfl) (by kernel_rfl) (by kernel_rfl) (fun _ _ _ h => h) (Or.inl ⟨by rfl, ?_⟩) hHeld ?_
      rotate_left
      · (intro w hSw; go_simp; (try with_reducible rfl))
      simp only [Act.put, List.getElem_toArray, List.getElem_cons_zero, List.getElem_cons_succ, List.setIfInBounds_toArray, List.set_cons_zero, List.set_cons_succ]
      refine wpAnyH_take (i := 3) (v := ?_) rfl (by kernel_rfl) (by kernel_rfl) (by kernel_rfl) (fun _ _ _ h => h) (Or.inl ⟨by rfl, ?_⟩) hHeld ?_
      rotate_left
      · (intro w hSw; go_simp; (try with_reducible rfl))
      simp only [Act.put, List.getElem_toArray, List.getElem_cons_zero, List.getElem_cons_succ, List.setIfInBounds_toArray, List.set_cons_zero, List.set_cons_succ]
      refine wpAnyH_take (i := 4) (v := ?_) rfl (by kernel_rfl) (by kernel_rfl) (by kernel_rfl) (fun _ _ _ h => h) (Or.inl ⟨by rfl, ?_⟩) hHeld ?_
      rotate_left
      · (intro w hSw; go_simp; (try with_reducible rfl))
      simp only [Act.put, List.getElem_toArray, List.getElem_cons_zero, List.getElem_cons_succ, List.setIfInBounds_toArray, List.set_cons_zero, List.set_cons_succ]
      refine wpAnyH_take (i := 5) (v := ?_) rfl (by kernel_rfl) (by kernel_rfl) (by kernel_rfl) (fun _ _ _ h => h) (Or.inl ⟨by rfl, ?_⟩) hHeld ?_
      rotate_left
      · (intro w hSw; go_simp; (try with_reducible rfl))
      simp only [Act.put, List.getElem_toArray, List.getElem_cons_zero, List.getElem_cons_succ, List.setIfInBounds_toArray, List.set_cons_zero, List.set_cons_succ]
      refine wpAnyH_take (i := 6) (v := ?_) rfl (by kernel_rfl) (by kernel_rfl) (by kernel_rfl) (fun _ _ _ h => h) (Or.inl ⟨by rfl, ?_⟩) hHeld ?_
      rotate_left
      · (intro w hSw; go_simp; (try with_reducible rfl))
      simp only [Act.put, List.getElem_toArray, List.getElem_cons_zero, List.getElem_cons_succ, List.setIfInBounds_toArray, List.set_cons_zero, List.set_cons_succ]
      refine wpAnyH_take (i := 7) (v := ?_) rfl (by kernel_rfl) (by kernel_rfl) (by kernel_rfl) (fun _ _ _ h => h) (Or.inl ⟨by rfl, ?_⟩) hHeld ?_
      rotate_left
      · (intro w hSw; go_simp; (try with_reducible rfl))
      simp only [Act.put, List.getElem_toArray, List.getElem_cons_zero, List.getElem_cons_succ, List.setIfInBounds_toArray, List.set_cons_zero, List.set_cons_succ]
      refine wpAnyH_take (i := 8) (v := ?_) rfl (by kernel_rfl) (by kernel_rfl) (by kernel_rfl) (fun _ _ _ h => h) (Or.inl ⟨by rfl, ?_⟩) hHeld ?_
      rotate_left
      · (intro w hSw; go_simp; (try with_reducible rfl))
      simp only [Act.put, List.getElem_toArray, List.getElem_cons_zero, List.getElem_cons_succ, List.setIfInBounds_toArray, List.set_cons_zero, List.set_cons_succ]
      refine wpAnyH_done (by kernel_rfl) ?_ _
      go_upto_region 32 with fail
      clear lE1 lE2 lE3 lE4 lE5 lF4 lF5 ld hcd hHeld
      have hsz0 := st0_size'
      have hone0 := st0_one'
      go_wp2_with (first
        | (refine wpList_build0 rfl rfl ?_)
        | (refine wpList_store_row rfl 29 (.tmp 4) (.tmp 190) rfl gr _ rfl rfl 29 st0 hr9 hsz0 rfl hone0 ?_))
      refine bodyPost_ret (v := .tuple #[.agg st0, .int .i64 1]) ?_ rfl ⟨st0, nilS, fun _ => nilS, by rw [HA.out], by rw [HA.out]; exact reads_0 _ _, by rw [HA.out]; exact own_zero _ _, below_setRow hb9 _ _ hwr⟩
      exact results_cell_tmp (ty := 29) (p := 4) (q := 5) (by kernel_rfl) _ _ gr 29 _ (0, 0) _ rfl (setRow_heap _ _ _ _ _ _ hr9) Tryd.underlying29 rfl hsz0
    have hd3 : decide ((n2 : Int) < (ne : Int)) = false := decide_eq_false (by omega)
    have hd3n : decide (n2 < ne) = false := decide_eq_false (by omega)
    refine wp_region_held_drew (S := fun W => Below v1.heap.size v1 W) (by kernel_rfl) (Below.refl _ _).drew (fun hHeld => ?_)
    refine wpAnyH_take (i := 0) (v := ?_) rfl (by kernel_rfl) (by kernel_rfl) (by kernel_rfl) (fun _ _ _ h => h) (Or.inl ⟨by rfl, ?_⟩) hHeld ?_
    rotate_left
    · (intro w hSw; go_simp; (try with_reducible rfl))
    simp only [Act.put, List.getElem_toArray, List.getElem_cons_zero, List.getElem_cons_succ, List.setIfInBounds_toArray, List.set_cons_zero, List.set_cons_succ]
    refine wpAnyH_take (i := 1) (v := ?_) rfl (by kernel_rfl) (by kernel_rfl) (by kernel_rfl) (fun _ _ _ h => h) (Or.inl ⟨by rfl, ?_⟩) hHeld ?_
    rotate_left
    · (intro w hSw; go_simp; (try with_reducible rfl))
    simp only [Act.put, List.getElem_toArray, List.getElem_cons_zero, List.getElem_cons_succ, List.setIfInBounds_toArray, List.set_cons_zero, List.set_cons_succ]
    refine wpAnyH_take (i := 2) (v := ?_) rfl (by kernel_rfl) (by kernel_rfl) (by kernel_rfl) (fun _ _ _ h => h) (Or.inl ⟨by rfl, ?_⟩) hHeld ?_
    rotate_left
    · (intro w hSw; go_simp; (try with_reducible rfl))
    simp only [Act.put, List.getElem_toArray, List.getElem_cons_zero, List.getElem_cons_succ, List.setIfInBounds_toArray, List.set_cons_zero, List.set_cons_succ]
    refine wpAnyH_take (i := 3) (v := ?_) rfl (by kernel_rfl) (by kernel_rfl) (by kernel_rfl) (fun _ _ _ h => h) (Or.inl ⟨by rfl, ?_⟩) hHeld ?_
    rotate_left
    · (intro w hSw; go_simp; (try with_reducible rfl))
    simp only [Act.put, List.getElem_toArray, List.getElem_cons_zero, List.getElem_cons_succ, List.setIfInBounds_toArray, List.set_cons_zero, List.set_cons_succ]
    refine wpAnyH_take (i := 4) (v := ?_) rfl (by kernel_rfl) (by kernel_rfl) (by kernel_rfl) (fun _ _ _ h => h) (Or.inl ⟨by rfl, ?_⟩) hHeld ?_
    rotate_left
    · (intro w hSw; go_simp; (try with_reducible rfl))
    simp only [Act.put, List.getElem_toArray, List.getElem_cons_zero, List.getElem_cons_succ, List.setIfInBounds_toArray, List.set_cons_zero, List.set_cons_succ]
    refine wpAnyH_take (i := 5) (v := ?_) rfl (by kernel_rfl) (by kernel_rfl) (by kernel_rfl) (fun _ _ _ h => h) (Or.inl ⟨by rfl, ?_⟩) hHeld ?_
    rotate_left
    · (intro w hSw; go_simp; (try with_reducible rfl))
    simp only [Act.put, List.getElem_toArray, List.getElem_cons_zero, List.getElem_cons_succ, List.setIfInBounds_toArray, List.set_cons_zero, List.set_cons_succ]
    refine wpAnyH_take (i := 6) (v := ?_) rfl (by kernel_rfl) (by kernel_rfl) (by kernel_rfl) (fun _ _ _ h => h) (Or.inl ⟨by rfl, ?_⟩) hHeld ?_
    rotate_left
    · (intro w hSw; go_simp; (try with_reducible rfl))
    simp only [Act.put, List.getElem_toArray, List.getElem_cons_zero, List.getElem_cons_succ, List.setIfInBounds_toArray, List.set_cons_zero, List.set_cons_succ]
    refine wpAnyH_take (i := 7) (v := ?_) rfl (by kernel_rfl) (by kernel_rfl) (by kernel_rfl) (fun _ _ _ h => h) (Or.inl ⟨by rfl, ?_⟩) hHeld ?_
    rotate_left
    · (intro w hSw; go_simp; (try with_reducible rfl))
    simp only [Act.put, List.getElem_toArray, List.getElem_cons_zero, List.getElem_cons_succ, List.setIfInBounds_toArray, List.set_cons_zero, List.set_cons_succ]
    refine wpAnyH_take (i := 8) (v := ?_) rfl (by kernel_rfl) (by kernel_rfl) (by kernel_rfl) (fun _ _ _ h => h) (Or.inl ⟨by rfl, ?_⟩) hHeld ?_
    rotate_left
    · (intro w hSw; go_simp; (try with_reducible rfl))
    simp only [Act.put, List.getElem_toArray, List.getElem_cons_zero, List.getElem_cons_succ, List.setIfInBounds_toArray, List.set_cons_zero, List.set_cons_succ]
    refine wpAnyH_done (by kernel_rfl) ?_ _
    clear hHeld ld lF4 lF5
    go_upto_region 33 with fail
    clear hd3 hd3n hcd
    have HP9 := Lib.hid (show AP w ge gr gs ⟨1, (m : Int), (nb : Int), (nc : Int), (nd : Int), (ne : Int)⟩ ⟨s.objs, M1, s.pl, s.gm⟩ ⟨A5, s.objs.length, c5⟩ L1 v1.drew.drew from HP8.out.drew.drew)
    have HN9 := Lib.hid (show Nums .i64 v1.drew.drew v1.drew.drew.heap.size A2 n2 (M1 nd) from HNd.out.drew.drew)
    refine wp_region_held_drew (S := fun W => EvB W ge ⟨1, (m : Int), (nb : Int), (nc : Int), (nd : Int), (ne : Int)⟩) (by kernel_rfl) (show EvB v1.drew.drew ge ⟨1, (m : Int), (nb : Int), (nc : Int), (nd : Int), (ne : Int)⟩ from HP9.out.e) (fun hHeld => ?_)
    obtain ⟨v3, hv3⟩ : ∃ v3, v3 = v1.drew.drew := ⟨_, rfl⟩
    rw [← hv3] at HP9 HN9 hHeld ⊢
    clear hv3
    have x0 : v3.cell? ⟨gs, 1 + nd, none⟩ = some (.slice A2 n2 c2) := ((HP9.out.a.cell (1 + nd)).trans (stC_list _ _ _ _ hd11)).trans (congrArg some HLv2.out)
    refine wpAnyH_take (i := 0) (v := ?_) rfl (by kernel_rfl) (by kernel_rfl) (by kernel_rfl) (fun _ _ _ h => h) (Or.inl ⟨by rfl, ?_⟩) hHeld ?_
    rotate_left
    · (intro w hSw; go_simp; (try with_reducible rfl))
    simp only [Act.put, List.getElem_toArray, List.getElem_cons_zero, List.getElem_cons_succ, List.setIfInBounds_toArray, List.set_cons_zero, List.set_cons_succ]
    refine wpAnyH_take (i := 1) (v := ?_) rfl (by kernel_rfl) (by kernel_rfl) (by kernel_rfl) (fun _ _ _ h => h) (Or.inl ⟨by rfl, ?_⟩) hHeld ?_
    rotate_left
    · (intro w hSw; go_simp; (try with_reducible rfl))
    simp only [Act.put, List.getElem_toArray, List.getElem_cons_zero, List.getElem_cons_succ, List.setIfInBounds_toArray, List.set_cons_zero, List.set_cons_succ]
    refine wpAnyH_take (i := 2) (v := ?_) rfl (by kernel_rfl) (by kernel_rfl) (by kernel_rfl) (fun _ _ _ h => h) (Or.inl ⟨by rfl, ?_⟩) hHeld ?_
    rotate_left
    · (intro w hSw; go_simp; (try with_reducible rfl))
    simp only [Act.put, List.getElem_toArray, List.getElem_cons_zero, List.getElem_cons_succ, List.setIfInBounds_toArray, List.set_cons_zero, List.set_cons_succ]
    refine wpAnyH_take (i := 3) (v := ?_) rfl (by kernel_rfl) (by kernel_rfl) (by kernel_rfl) (fun _ _ _ h => h) (Or.inl ⟨by rfl, ?_⟩) hHeld ?_
    rotate_left
    · (intro w hSw; go_simp; (try with_reducible rfl))
    simp only [Act.put, List.getElem_toArray, List.getElem_cons_zero, List.getElem_cons_succ, List.setIfInBounds_toArray, List.set_cons_zero, List.set_cons_succ]
    refine wpAnyH_take (i := 4) (v := ?_) rfl (by kernel_rfl) (by kernel_rfl) (by kernel_rfl) (fun _ _ _ h => h) (Or.inl ⟨by rfl, ?_⟩) hHeld ?_
    rotate_left
    · (intro w hSw; go_simp; (try with_reducible rfl))
    simp only [Act.put, List.getElem_toArray, List.getElem_cons_zero, List.getElem_cons_succ, List.setIfInBounds_toArray, List.set_cons_zero, List.set_cons_succ]
    refine wpAnyH_take (i := 5) (v := ?_) rfl (by kernel_rfl) (by kernel_rfl) (by kernel_rfl) (fun _ _ _ h => h) (Or.inl ⟨by rfl, ?_⟩) hHeld ?_
    rotate_left
    · (intro w hSw; go_simp; (try with_reducible rfl))
    simp only [Act.put, List.getElem_toArray, List.getElem_cons_zero, List.getElem_cons_succ, List.setIfInBounds_toArray, List.set_cons_zero, List.set_cons_succ]
    refine wpAnyH_take (i := 7) (v := ?_) rfl (by kernel_rfl) (by kernel_rfl) (by kernel_rfl) (fun _ _ _ h => h) (Or.inl ⟨by rfl, ?_⟩) hHeld ?_
    rotate_left
    · (intro w hSw; go_simp; (try with_reducible rfl))
    simp only [Act.put, List.getElem_toArray, List.getElem_cons_zero, List.getElem_cons_succ, List.setIfInBounds_toArray, List.set_cons_zero, List.set_cons_succ]
    refine wpAnyH_take (i := 8) (v := ?_) rfl (by kernel_rfl) (by kernel_rfl) (by kernel_rfl) (fun _ _ _ h => h) (Or.inl ⟨by rfl, ?_⟩) hHeld ?_
    rotate_left
    · (intro w hSw; go_simp; (try with_reducible rfl))
    simp only [Act.put, List.getElem_toArray, List.getElem_cons_zero, List.getElem_cons_succ, List.setIfInBounds_toArray, List.set_cons_zero, List.set_cons_succ]
    refine wpAnyH_take (i := 9) (v := ?_) rfl (by kernel_rfl) (by kernel_rfl) (by kernel_rfl) (fun _ _ _ h => h) (Or.inl ⟨by rfl, ?_⟩) hHeld ?_
    rotate_left
    · (intro w hSw; go_simp; (try with_reducible rfl))
    simp only [Act.put, List.getElem_toArray, List.getElem_cons_zero, List.getElem_cons_succ, List.setIfInBounds_toArray, List.set_cons_zero, List.set_cons_succ]
    refine wpAnyH_take (i := 10) (v := ?_) rfl (by kernel_rfl) (by kernel_rfl) (by kernel_rfl) (fun _ _ _ h => h) (Or.inl ⟨by rfl, ?_⟩) hHeld ?_
    rotate_left
    · (intro w hSw; go_simp; (try with_reducible rfl))
    simp only [Act.put, List.getElem_toArray, List.getElem_cons_zero, List.getElem_cons_succ, List.setIfInBounds_toArray, List.set_cons_zero, List.set_cons_succ]
    refine wpAnyH_take (i := 12) (v := ?_) rfl (by kernel_rfl) (by kernel_rfl) (by kernel_rfl) (fun _ _ _ h => h) (Or.inl ⟨by rfl, ?_⟩) hHeld ?_
    rotate_left
    · (intro w hSw; go_simp; (try with_reducible rfl))
    simp only [Act.put, List.getElem_toArray, List.getElem_cons_zero, List.getElem_cons_succ, List.setIfInBounds_toArray, List.set_cons_zero, List.set_cons_succ]
    refine wpAnyH_ready (rs := [6]) (by kernel_rfl) (by simp) ?_
    refine AllReadyH.cons rfl (fun K hK => ?_) AllReadyH.nil
    simp only [List.getElem_toArray, List.getElem_cons_zero, List.getElem_cons_succ]
    go_simp
    refine hK.out _ _ hHeld (fun _ => ?_)
    try simp only [Act.put, List.setIfInBounds_toArray, List.set_cons_zero, List.set_cons_succ]
    clear hK K x0
    refine wpAnyH_ready (rs := [11]) (by kernel_rfl) (by simp) ?_
    refine AllReadyH.cons rfl (fun K hK => ?_) AllReadyH.nil
    simp only [List.getElem_toArray, List.getElem_cons_zero, List.getElem_cons_succ]
    go_simp
    refine (insertRef_any A2 n2 c2 (M1 nd) ne (m : Int) v3 v3.heap.size HN9.out (Nat.le_refl _) hn2m hle).mono ?_
    rintro en w9 ⟨A9, m9, c9, rfl, hown9, hb9'⟩
    go_wp2_with fail
    have hS : EvB w9 ge ⟨1, (m : Int), (nb : Int), (nc : Int), (nd : Int), (ne : Int)⟩ := hHeld.keep hb9'
    refine hK.out _ _ hS (fun _ => ?_)
    try simp only [Act.put, List.setIfInBounds_toArray, List.set_cons_zero, List.set_cons_succ]
    clear hK K hHeld
    have hHeld := hS
    clear hS
    refine wpAnyH_take (i := 13) (v := ?_) rfl (by kernel_rfl) (by kernel_rfl) (by kernel_rfl) (fun _ _ _ h => h) (Or.inl ⟨by rfl, ?_⟩) hHeld ?_
    rotate_left
    · (intro w hSw; go_simp; (try with_reducible rfl))
    simp only [Act.put, List.getElem_toArray, List.getElem_cons_zero, List.getElem_cons_succ, List.setIfInBounds_toArray, List.set_cons_zero, List.set_cons_succ]
    have HPx := Lib.hid (HP9.out.keep hb9')
    have x0 := (HPx.out.a.cell (1 + nd)).trans (stC_list _ _ _ _ hd11)
    have y0 := frozen_of_row w9 gs (1 + nd) _ _ HPx.out.a
    have HPy := Lib.hid (show AP w ge gr gs ⟨1, (m : Int), (nb : Int), (nc : Int), (nd : Int), (ne : Int)⟩ ⟨s.objs, updL M1 nd (insL (M1 nd) ne (m : Int)), s.pl, s.gm⟩ ⟨A5, s.objs.length, c5⟩ (updS L1 nd ⟨A9, m9, c9⟩) (w9.setCell ⟨gs, 1 + nd, none⟩ (.slice A9 m9 c9)) from
      HP9.out.list HPB.out hd11 ⟨hb9'.os, hb9'.tape, hb9'.output, hb9'.size, fun k hk _ => hb9'.block k hk⟩ (y := ⟨A9, m9, c9⟩) (hown9.base_le HP9.out.b.size) (fun j hj => .inl (hown9.ownLt j hj)))
    refine wpAnyH_ready (rs := [14]) (by kernel_rfl) (by simp) ?_
    refine AllReadyH.cons rfl (fun K hK => ?_) AllReadyH.nil
    simp only [List.getElem_toArray, List.getElem_cons_zero, List.getElem_cons_succ]
    go_simp
    have hS := HPy.out.e
    refine hK.out _ _ hS (fun _ => ?_)
    try simp only [Act.put, List.setIfInBounds_toArray, List.set_cons_zero, List.set_cons_succ]
    clear hK K hHeld
    have hHeld := hS
    clear hS
    refine wpAnyH_done (by kernel_rfl) ?_ _
    obtain ⟨v2, hv2⟩ : ∃ v2, v2 = w9.setCell ⟨gs, 1 + nd, none⟩ (.slice A9 m9 c9) := ⟨_, rfl⟩
    rw [← hv2] at HPy ⊢
    obtain ⟨L2, hL2⟩ : ∃ L2, L2 = updS L1 nd ⟨A9, m9, c9⟩ := ⟨_, rfl⟩
    rw [← hL2] at HPy
    clear hv2 hL2 x0 y0 hHeld HPx hown9 hb9' HN9 HP9 HP8 lE1 lE2 lE3 lE4 lE5
    have HA := Lib.hid (show applyS s ⟨1, (m : Int), (nb : Int), (nc : Int), (nd : Int), (ne : Int)⟩ = (⟨setO s.objs m 3 (nd : Int), updL M1 nd (insL (M1 nd) ne (m : Int)), s.pl, s.gm⟩, 0) by
      rw [HA0.out]; unfold ap1
      rw [if_neg (by simp only; omega), if_neg (by
        rintro (h | h)
        · simp only [Int.toNat_natCast] at h; have := Hnl.out; omega
        · apply h; simp only [Int.toNat_natCast]; rw [HX.out]; exact HXM.out), if_neg (by
        simp only [Int.toNat_natCast]; rw [← HM1.out, Hn2.out]; omega)]
      simp only [Int.toNat_natCast]
      rw [← HM1.out])
    obtain ⟨gO, rfl, hcell, hfr, _, _⟩ := owns_set HPy.out.o.o hlt (show 3 < 18 by omega)
    have hcO : v2.cell? ⟨gs, 0, none⟩ = some (.slice (some ⟨gO, 0, none⟩) s.objs.length c5) := (HPy.out.a.cell 0).trans (stC_objs _ _ _ _)
    obtain ⟨e0, e1, e2, e3, e4, e5⟩ := HPy.out.e.cells
    simp only at e0 e1 e2 e3 e4 e5
    have HP2 := Lib.hid ((HPy.out.setO (m * 18 + 3) hlt (show 3 < 18 by omega) rfl (nd : Int)).drew)
    have HI := Lib.hid (show I64S ⟨setO s.objs m 3 (nd : Int), updL M1 nd (insL (M1 nd) ne (m : Int)), s.pl, s.gm⟩ from by
      have hM : ∀ z, z < 11 → ∀ n ∈ M1 z, N64 n := fun z hz n hn => by
        rw [HM1.out] at hn
        unfold mv1 at hn
        simp only [Int.toNat_natCast] at hn
        by_cases ez : z = nb
        · subst ez
          rw [updL_at] at hn
          exact H.out.i64.l z hz n (mem_rmL hn)
        · rw [updL_ne _ ez] at hn; exact H.out.i64.l z hz n hn
      have h2 := H.out.i64.setO hlt 3 HE.out.d
      refine ⟨h2.o, fun z hz n hn => ?_, h2.p, h2.g⟩
      have hn : n ∈ updL M1 nd (insL (M1 nd) ne (m : Int)) z := hn
      by_cases ez : z = nd
      · subst ez
        rw [updL_at] at hn
        rcases mem_insL hn with rfl | h
        · exact HE.out.a
        · exact hM z hz n h
      · rw [updL_ne _ ez] at hn; exact hM z hz n hn)
    go_upto_region 34 with fail
    go_region
    go_upto_region 45 with fail
    clear hcell hfr hcO e0 e1 e2 e3 e4 e5
    have hcs9 := HP2.out.a
    have hr9 := HP2.out.r
    have hb9 := HP2.out.b
    have HRd := Lib.hid (fun cs => HP2.out.final HI.out cs)
    have HRo := Lib.hid (fun cs => HP2.out.finalO cs)
    obtain ⟨cs9, hcs⟩ : ∃ cs9, cs9 = stC (⟨some ⟨gO, 0, none⟩, s.objs.length, c5⟩ : SlT) L2 s.pl s.gm := ⟨_, rfl⟩
    have HCs := Lib.hid hcs
    have hcs9 : StAt (v2.setCell ⟨gO, m * 18 + 3, none⟩ (.int .i64 (nd : Int))).drew gs cs9 := by rw [hcs]; exact hcs9
    have hsz9 : (Tryd.prog.info? 29).map (·.size) = some cs9.size := by rw [hcs, stC_size]; exact size37
    have hs09 : st0.size = cs9.size := by rw [hcs, stC_size]; exact stC_size _ _ _ _
    have hone9 : cs9.all (·.oneCell') = true := by rw [hcs]; exact stC_one _ _ _ _
    clear hcs
    go_wp2_with (first
      | (refine wpList_load_row rfl 29 (.tmp 7) rfl gs rfl 29 _ (0, 0) _ hcs9 Tryd.underlying29 rfl hsz9 ?_)
      | (refine wpList_store_row rfl 29 (.tmp 4) (.tmp 266) rfl gr _ rfl rfl 29 st0 hr9 hsz9 hs09 hone9 ?_))
    refine bodyPost_ret (v := .tuple #[.agg cs9, .int .i64 0]) ?_ rfl ⟨cs9, (⟨some ⟨gO, 0, none⟩, s.objs.length, c5⟩ : SlT), L2, by rw [HA.out], ?_, ?_, below_setRow hb9 _ _ hwr⟩
    · exact results_cell_tmp (ty := 29) (p := 4) (q := 5) (by kernel_rfl) _ _ gr 29 _ (0, 0) _ rfl (setRow_heap _ _ _ _ _ _ hr9) Tryd.underlying29 rfl hsz9
    · rw [HA.out]
      have := HRd.out cs9
      rw [HCs.out] at this ⊢
      exact this
    · rw [HA.out]
      exact HRo.out _
  · obtain ⟨rfl, h1⟩ := h1
    have HA0 := Lib.hid (show applyS s ⟨2, a, b, c, d, 0⟩ = ap2 s ⟨2, a, b, c, d, 0⟩ from HAp.out)
    obtain ⟨m, rfl⟩ : ∃ m : Nat, a = (m : Int) := Int.eq_ofNat_of_zero_le h1.1
    obtain ⟨n, rfl⟩ : ∃ n : Nat, b = (n : Int) := Int.eq_ofNat_of_zero_le h1.2.1
    have hn18 : n < 18 := by omega
    have p0 : (0 : Int) ≤ (n : Int) := by omega
    have p1 : (n : Int) < 18 := by omega
    have p2 : (0 : Int) ≤ (m : Int) := by omega
    by_cases hlt : m < s.objs.length
    case neg =>
      have hd : decide ((s.objs.length : Int) ≤ (m : Int)) = true := decide_eq_true (by omega)
      have HA := Lib.hid (show applyS s ⟨2, (m : Int), (n : Int), c, d, 0⟩ = (sT0, 4) by
        rw [HA0.out]; unfold ap2; rw [if_pos (by simp only; omega)])
      have hr9 := HP.out.r
      have hb9 := HP.out.b
      go_upto_region 37 with fail
      clear e0 e1 e2 e3 e4 e5
      have hsz0 := st0_size'
      have hone0 := st0_one'
      go_wp2_with (first
        | (refine wpList_build0 rfl rfl ?_)
        | (refine wpList_store_row rfl 29 (.tmp 4) (.tmp 219) rfl gr _ rfl rfl 29 st0 hr9 hsz0 rfl hone0 ?_))
      refine bodyPost_ret (v := .tuple #[.agg st0, .int .i64 4]) ?_ rfl ⟨st0, nilS, fun _ => nilS, by rw [HA.out], by rw [HA.out]; exact reads_0 _ _, by rw [HA.out]; exact own_zero _ _, below_setRow hb9 _ _ hwr⟩
      exact results_cell_tmp (ty := 29) (p := 4) (q := 5) (by kernel_rfl) _ _ gr 29 _ (0, 0) _ rfl (setRow_heap _ _ _ _ _ _ hr9) Tryd.underlying29 rfl hsz0
    have hd : decide ((s.objs.length : Int) ≤ (m : Int)) = false := decide_eq_false (by omega)
    have p3 : (m : Int) < (s.objs.length : Int) := by omega
    obtain ⟨gO, rfl, hcell, hfr, _, _⟩ := owns_set HP.out.o.o hlt hn18
    have hcO : w6.cell? ⟨gs, 0, none⟩ = some (.slice (some ⟨gO, 0, none⟩) s.objs.length c5) := (HP.out.a.cell 0).trans (stC_objs _ _ _ _)
    obtain ⟨y, hy⟩ : ∃ y, y = s.objs[m] n := ⟨_, rfl⟩
    rw [← hy] at hcell
    have HY := Lib.hid (show (s.objs.getD m fun _ => 0) n = y by rw [getD_in _ hlt, hy])
    clear hy
    by_cases hyc : y = c
    · have hd2 : (y != c) = false := by rw [hyc]; exact bne_self_eq_false c
      have HA := Lib.hid (show applyS s ⟨2, (m : Int), (n : Int), c, d, 0⟩ = (⟨setO s.objs m n d, s.lists, s.pl, s.gm⟩, 0) by
        rw [HA0.out]; unfold ap2; rw [if_neg (by simp only; omega), if_neg]
        · rfl
        · simp only [Int.toNat_natCast, HY.out, hyc, ne_eq, not_true_eq_false, not_false_eq_true])
      go_upto_region 38 with fail
      clear hyc
      go_wp2_with fail
      go_region
      go_upto_region 40 with fail
      go_region
      go_upto_region 45 with fail
      have HP2 := Lib.hid ((HP.out.setO (m * 18 + n) hlt hn18 rfl d).drew.drew)
      have HI := Lib.hid (H.out.i64.setO hlt n HE.out.d)
      clear hcell hfr hcO e0 e1 e2 e3 e4 e5
      have hcs9 := HP2.out.a
      have hr9 := HP2.out.r
      have hb9 := HP2.out.b
      have HRd := Lib.hid (fun cs => HP2.out.final HI.out cs)
      have HRo := Lib.hid (fun cs => HP2.out.finalO cs)
      obtain ⟨cs9, hcs⟩ : ∃ cs9, cs9 = stC (⟨some ⟨gO, 0, none⟩, s.objs.length, c5⟩ : SlT) L5 s.pl s.gm := ⟨_, rfl⟩
      have HCs := Lib.hid hcs
      have hcs9 : StAt (w6.setCell ⟨gO, m * 18 + n, none⟩ (.int .i64 d)).drew.drew gs cs9 := by rw [hcs]; exact hcs9
      have hsz9 : (Tryd.prog.info? 29).map (·.size) = some cs9.size := by rw [hcs, stC_size]; exact size37
      have hs09 : st0.size = cs9.size := by rw [hcs, stC_size]; exact stC_size _ _ _ _
      have hone9 : cs9.all (·.oneCell') = true := by rw [hcs]; exact stC_one _ _ _ _
      clear hcs
      go_wp2_with (first
        | (refine wpList_load_row rfl 29 (.tmp 7) rfl gs rfl 29 _ (0, 0) _ hcs9 Tryd.underlying29 rfl hsz9 ?_)
        | (refine wpList_store_row rfl 29 (.tmp 4) (.tmp 266) rfl gr _ rfl rfl 29 st0 hr9 hsz9 hs09 hone9 ?_))
      refine bodyPost_ret (v := .tuple #[.agg cs9, .int .i64 0]) ?_ rfl ⟨cs9, (⟨some ⟨gO, 0, none⟩, s.objs.length, c5⟩ : SlT), L5, by rw [HA.out], ?_, ?_, below_setRow hb9 _ _ hwr⟩
      · exact results_cell_tmp (ty := 29) (p := 4) (q := 5) (by kernel_rfl) _ _ gr 29 _ (0, 0) _ rfl (setRow_heap _ _ _ _ _ _ hr9) Tryd.underlying29 rfl hsz9
      · rw [HA.out]
        have := HRd.out cs9
        rw [HCs.out] at this ⊢
        exact this
      · rw [HA.out]
        exact HRo.out _
    · have hd2 : (y != c) = true := bne_iff_ne.2 hyc
      have HA := Lib.hid (show applyS s ⟨2, (m : Int), (n : Int), c, d, 0⟩ = (sT0, 20) by
        rw [HA0.out]; unfold ap2; rw [if_neg (by simp only; omega), if_pos]
        simp only [Int.toNat_natCast, HY.out]; exact hyc)
      have hr9 : StAt w6.drew gr st0 := HP.out.r
      have hb9 : Below w.heap.size w w6.drew := HP.out.b.drew
      go_upto_region 38 with fail
      go_wp2_with fail
      go_region
      go_upto_region 39 with fail
      clear hcell hfr hcO e0 e1 e2 e3 e4 e5
      have hsz0 := st0_size'
      have hone0 := st0_one'
      go_wp2_with (first
        | (refine wpList_build0 rfl rfl ?_)
        | (refine wpList_store_row rfl 29 (.tmp 4) (.tmp 232) rfl gr _ rfl rfl 29 st0 hr9 hsz0 rfl hone0 ?_))
      refine bodyPost_ret (v := .tuple #[.agg st0, .int .i64 20]) ?_ rfl ⟨st0, nilS, fun _ => nilS, by rw [HA.out], by rw [HA.out]; exact reads_0 _ _, by rw [HA.out]; exact own_zero _ _, below_setRow hb9 _ _ hwr⟩
      exact results_cell_tmp (ty := 29) (p := 4) (q := 5) (by kernel_rfl) _ _ gr 29 _ (0, 0) _ rfl (setRow_heap _ _ _ _ _ _ hr9) Tryd.underlying29 rfl hsz0
  · obtain ⟨rfl, h1⟩ := h1
    have HA0 := Lib.hid (show applyS s ⟨3, a, b, c, d, 0⟩ = ap3 s ⟨3, a, b, c, d, 0⟩ from HAp.out)
    obtain ⟨m, rfl⟩ : ∃ m : Nat, a = (m : Int) := Int.eq_ofNat_of_zero_le h1.1
    obtain ⟨n, rfl⟩ : ∃ n : Nat, b = (n : Int) := Int.eq_ofNat_of_zero_le h1.2.2.1
    have hm2 : m < 2 := by omega
    have hn9 : n < 9 := by omega
    have p0 : (0 : Int) ≤ (n : Int) := by omega
    have p1 : (n : Int) < 9 := by omega
    have p2 : (0 : Int) ≤ (m : Int) := by omega
    have p3 : (m : Int) < 2 := by omega
    have hcell := (HP.out.a.cell (12 + (m * 9 + n))).trans (stC_pl _ _ _ _ (by omega))
    have hfr := frozen_of_row w6 gs (12 + (m * 9 + n)) _ _ HP.out.a
    rw [← Nat.add_assoc] at hcell hfr
    obtain ⟨y, hy⟩ : ∃ y, y = s.pl (m * 9 + n) := ⟨_, rfl⟩
    rw [← hy] at hcell
    have HY := Lib.hid hy
    clear hy
    by_cases hyc : y = c
    · have hd : (y != c) = false := by rw [hyc]; exact bne_self_eq_false c
      have HA := Lib.hid (show applyS s ⟨3, (m : Int), (n : Int), c, d, 0⟩ = (⟨s.objs, s.lists, updI s.pl (m * 9 + n) d, s.gm⟩, 0) by
        rw [HA0.out]; unfold ap3; rw [if_neg]
        · rfl
        · simp only [Int.toNat_natCast, ← HY.out, hyc, ne_eq, not_true_eq_false, not_false_eq_true])
      have HP2 := Lib.hid (show AP w ge gr gs ⟨3, (m : Int), (n : Int), c, d, 0⟩ ⟨s.objs, s.lists, updI s.pl (m * 9 + n) d, s.gm⟩ _ _ (w6.setCell ⟨gs, 12 + m * 9 + n, none⟩ (.int .i64 d)).drew.drew by
        have h := (HP.out.nums HPB.out (12 + (m * 9 + n)) (.int .i64 d) (stC_set_pl _ _ _ _ (by omega) d)).drew.drew
        rwa [← Nat.add_assoc] at h)
      have HI := Lib.hid (show I64S ⟨s.objs, s.lists, updI s.pl (m * 9 + n) d, s.gm⟩ from ⟨H.out.i64.o, H.out.i64.l, fun i hi => by
        show N64 (updI s.pl (m * 9 + n) d i)
        unfold updI; split
        · exact HE.out.d
        · exact H.out.i64.p i hi, H.out.i64.g⟩)
      go_upto_region 42 with fail
      clear hyc
      go_wp2_with fail
      go_region
      go_upto_region 44 with fail
      go_region
      go_upto_region 45 with fail
      clear hcell hfr e0 e1 e2 e3 e4 e5
      have hcs9 := HP2.out.a
      have hr9 := HP2.out.r
      have hb9 := HP2.out.b
      have HRd := Lib.hid (fun cs => HP2.out.final HI.out cs)
      have HRo := Lib.hid (fun cs => HP2.out.finalO cs)
      obtain ⟨cs9, hcs⟩ : ∃ cs9, cs9 = stC (⟨A5, s.objs.length, c5⟩ : SlT) L5 (updI s.pl (m * 9 + n) d) s.gm := ⟨_, rfl⟩
      have HCs := Lib.hid hcs
      have hcs9 : StAt (w6.setCell ⟨gs, 12 + m * 9 + n, none⟩ (.int .i64 d)).drew.drew gs cs9 := by rw [hcs]; exact hcs9
      have hsz9 : (Tryd.prog.info? 29).map (·.size) = some cs9.size := by rw [hcs, stC_size]; exact size37
      have hs09 : st0.size = cs9.size := by rw [hcs, stC_size]; exact stC_size _ _ _ _
      have hone9 : cs9.all (·.oneCell') = true := by rw [hcs]; exact stC_one _ _ _ _
      clear hcs
      go_wp2_with (first
        | (refine wpList_load_row rfl 29 (.tmp 7) rfl gs rfl 29 _ (0, 0) _ hcs9 Tryd.underlying29 rfl hsz9 ?_)
        | (refine wpList_store_row rfl 29 (.tmp 4) (.tmp 266) rfl gr _ rfl rfl 29 st0 hr9 hsz9 hs09 hone9 ?_))
      refine bodyPost_ret (v := .tuple #[.agg cs9, .int .i64 0]) ?_ rfl ⟨cs9, (⟨A5, s.objs.length, c5⟩ : SlT), L5, by rw [HA.out], ?_, ?_, below_setRow hb9 _ _ hwr⟩
      · exact results_cell_tmp (ty := 29) (p := 4) (q := 5) (by kernel_rfl) _ _ gr 29 _ (0, 0) _ rfl (setRow_heap _ _ _ _ _ _ hr9) Tryd.underlying29 rfl hsz9
      · rw [HA.out]
        have := HRd.out cs9
        rw [HCs.out] at this ⊢
        exact this
      · rw [HA.out]
        exact HRo.out _
    · have hd : (y != c) = true := bne_iff_ne.2 hyc
      have HA := Lib.hid (show applyS s ⟨3, (m : Int), (n : Int), c, d, 0⟩ = (sT0, 20) by
        rw [HA0.out]; unfold ap3; rw [if_pos]
        simp only [Int.toNat_natCast, ← HY.out]; exact hyc)
      have hr9 : StAt w6.drew gr st0 := HP.out.r
      have hb9 : Below w.heap.size w w6.drew := HP.out.b.drew
      go_upto_region 42 with fail
      go_wp2_with fail
      go_region
      go_upto_region 43 with fail
      clear hcell hfr e0 e1 e2 e3 e4 e5
      have hsz0 := st0_size'
      have hone0 := st0_one'
      go_wp2_with (first
        | (refine wpList_build0 rfl rfl ?_)
        | (refine wpList_store_row rfl 29 (.tmp 4) (.tmp 256) rfl gr _ rfl rfl 29 st0 hr9 hsz0 rfl hone0 ?_))
      refine bodyPost_ret (v := .tuple #[.agg st0, .int .i64 20]) ?_ rfl ⟨st0, nilS, fun _ => nilS, by rw [HA.out], by rw [HA.out]; exact reads_0 _ _, by rw [HA.out]; exact own_zero _ _, below_setRow hb9 _ _ hwr⟩
      exact results_cell_tmp (ty := 29) (p := 4) (q := 5) (by kernel_rfl) _ _ gr 29 _ (0, 0) _ rfl (setRow_heap _ _ _ _ _ _ hr9) Tryd.underlying29 rfl hsz0
  · obtain ⟨rfl, rfl, h1⟩ := h1
    have HA0 := Lib.hid (show applyS s ⟨4, 0, b, c, d, 0⟩ = ap4 s ⟨4, 0, b, c, d, 0⟩ from HAp.out)
    obtain ⟨n, rfl⟩ : ∃ n : Nat, b = (n : Int) := Int.eq_ofNat_of_zero_le h1.1
    have hn7 : n < 7 := by omega
    have p0 : (0 : Int) ≤ (n : Int) := by omega
    have p1 : (n : Int) < 7 := by omega
    have hcell := (HP.out.a.cell (30 + n)).trans (stC_gm _ _ _ _ hn7)
    have hfr := frozen_of_row w6 gs (30 + n) _ _ HP.out.a
    obtain ⟨y, hy⟩ : ∃ y, y = s.gm n := ⟨_, rfl⟩
    rw [← hy] at hcell
    have HY := Lib.hid hy
    clear hy
    by_cases hyc : y = c
    · have hd : (y != c) = false := by rw [hyc]; exact bne_self_eq_false c
      have HA := Lib.hid (show applyS s ⟨4, 0, (n : Int), c, d, 0⟩ = (⟨s.objs, s.lists, s.pl, updI s.gm n d⟩, 0) by
        rw [HA0.out]; unfold ap4; rw [if_neg]
        · rfl
        · simp only [Int.toNat_natCast, ← HY.out, hyc, ne_eq, not_true_eq_false, not_false_eq_true])
      have HP2 := Lib.hid (HP.out.nums HPB.out (30 + n) (.int .i64 d) (stC_set_gm _ _ _ _ hn7 d)).drew
      have HI := Lib.hid (show I64S ⟨s.objs, s.lists, s.pl, updI s.gm n d⟩ from ⟨H.out.i64.o, H.out.i64.l, H.out.i64.p, fun i hi => by
        show N64 (updI s.gm n d i)
        unfold updI; split
        · exact HE.out.d
        · exact H.out.i64.g i hi⟩)
      go_upto_region 7 with fail
      clear hyc
      go_wp2_with fail
      go_region
      go_upto_region 45 with fail
      clear hcell hfr e0 e1 e2 e3 e4 e5
      have hcs9 := HP2.out.a
      have hr9 := HP2.out.r
      have hb9 := HP2.out.b
      have HRd := Lib.hid (fun cs => HP2.out.final HI.out cs)
      have HRo := Lib.hid (fun cs => HP2.out.finalO cs)
      obtain ⟨cs9, hcs⟩ : ∃ cs9, cs9 = stC (⟨A5, s.objs.length, c5⟩ : SlT) L5 s.pl (updI s.gm n d) := ⟨_, rfl⟩
      have HCs := Lib.hid hcs
      have hcs9 : StAt (w6.setCell ⟨gs, 30 + n, none⟩ (.int .i64 d)).drew gs cs9 := by rw [hcs]; exact hcs9
      have hsz9 : (Tryd.prog.info? 29).map (·.size) = some cs9.size := by rw [hcs, stC_size]; exact size37
      have hs09 : st0.size = cs9.size := by rw [hcs, stC_size]; exact stC_size _ _ _ _
      have hone9 : cs9.all (·.oneCell') = true := by rw [hcs]; exact stC_one _ _ _ _
      clear hcs
      go_wp2_with (first
        | (refine wpList_load_row rfl 29 (.tmp 7) rfl gs rfl 29 _ (0, 0) _ hcs9 Tryd.underlying29 rfl hsz9 ?_)
        | (refine wpList_store_row rfl 29 (.tmp 4) (.tmp 266) rfl gr _ rfl rfl 29 st0 hr9 hsz9 hs09 hone9 ?_))
      refine bodyPost_ret (v := .tuple #[.agg cs9, .int .i64 0]) ?_ rfl ⟨cs9, (⟨A5, s.objs.length, c5⟩ : SlT), L5, by rw [HA.out], ?_, ?_, below_setRow hb9 _ _ hwr⟩
      · exact results_cell_tmp (ty := 29) (p := 4) (q := 5) (by kernel_rfl) _ _ gr 29 _ (0, 0) _ rfl (setRow_heap _ _ _ _ _ _ hr9) Tryd.underlying29 rfl hsz9
      · rw [HA.out]
        have := HRd.out cs9
        rw [HCs.out] at this ⊢
        exact this
      · rw [HA.out]
        exact HRo.out _
    · have hd : (y != c) = true := bne_iff_ne.2 hyc
      have HA := Lib.hid (show applyS s ⟨4, 0, (n : Int), c, d, 0⟩ = (sT0, 20) by
        rw [HA0.out]; unfold ap4; rw [if_pos]
        simp only [Int.toNat_natCast, ← HY.out]; exact hyc)
      have hr9 : StAt w6.drew gr st0 := HP.out.r
      have hb9 : Below w.heap.size w w6.drew := HP.out.b.drew
      go_upto_region 7 with fail
      go_wp2_with fail
      go_region
      go_upto_region 8 with fail
      clear hcell hfr e0 e1 e2 e3 e4 e5
      have hsz0 := st0_size'
      have hone0 := st0_one'
      go_wp2_with (first
        | (refine wpList_build0 rfl rfl ?_)
        | (refine wpList_store_row rfl 29 (.tmp 4) (.tmp 33) rfl gr _ rfl rfl 29 st0 hr9 hsz0 rfl hone0 ?_))
      refine bodyPost_ret (v := .tuple #[.agg st0, .int .i64 20]) ?_ rfl ⟨st0, nilS, fun _ => nilS, by rw [HA.out], by rw [HA.out]; exact reads_0 _ _, by rw [HA.out]; exact own_zero _ _, below_setRow hb9 _ _ hwr⟩
      exact results_cell_tmp (ty := 29) (p := 4) (q := 5) (by kernel_rfl) _ _ gr 29 _ (0, 0) _ rfl (setRow_heap _ _ _ _ _ _ hr9) Tryd.underlying29 rfl hsz0
end Go.Proofs.YtmhabodijmnldaaDoor
