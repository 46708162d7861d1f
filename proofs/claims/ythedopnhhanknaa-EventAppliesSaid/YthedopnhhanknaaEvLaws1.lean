/- Layer 12: the law EventApplies. -/
import Derived.Test.YthedopnhhanknaaEvLw
namespace Go.Proofs.Ythedopnhhanknaa
open Go.RowKit Ex
set_option maxRecDepth 100000
set_option linter.unusedSimpArgs false in
set_option maxHeartbeats 0 in
theorem eventApplies_walk {w : World} (E : EvSaid w) (s : StT) (O : SlT) (L : Nat → SlT) (cs : Array Value) (e : EvT) (hR : ReadsS w.heap.size w cs s O L) (hI : EvI e) :
    Calls Try.prog 3 #[.agg cs, evV e] w fun en w' => en = .returned (.bool true) ∧ Below w.heap.size w w' := by
  have hcs := hR.size
  have HR := Lib.hid hR
  have HI := Lib.hid hI
  clear hR hI
  go_enter Try.func3, Try.ntmps3
  go_upto_region 1 with fail
  obtain ⟨w1, hw1⟩ : ∃ w1, w1 = (w.alloc (.cells cs 29)).alloc (.cells (evC e) 31) := ⟨_, rfl⟩
  obtain ⟨gs, hgs⟩ : ∃ g, g = w.heap.size := ⟨_, rfl⟩
  obtain ⟨ge, hge⟩ : ∃ g, g = gs + 1 := ⟨_, rfl⟩
  have HW := Lib.hid (show LW w gs ge cs e w1 from by
    have h1 : Below (w.alloc (.cells cs 29)).heap.size (w.alloc (.cells cs 29)) w1 := by rw [hw1]; exact (Below.refl _ _).alloc (Nat.le_refl _) _
    have h0 : Below w.heap.size w (w.alloc (.cells cs 29)) := (Below.refl _ _).alloc (Nat.le_refl _) _
    refine ⟨keepB h1 h0, by rw [hgs]; exact (StAt.new w cs).keep h1, ?_⟩
    have h := heap_alloc_new (w.alloc (.cells cs 29)) (.cells (evC e) 31)
    rw [hge, hgs, hw1]
    unfold EvB
    rw [World.size_alloc] at h
    exact h)
  have HS := Lib.hid (show BW gs cs s O L w1 from ⟨HW.out.s, by rw [hgs]; exact HR.out.below HW.out.b⟩)
  show Code.wp _ _ _ _ ((w.alloc (.cells cs 29)).alloc (.cells (evC e) 31))
  rw [← hw1, ← hgs]
  try rw [← hge]
  have HGe := Lib.hid (And.intro hgs hge)
  clear hw1 hgs hge
  go_wp2_with fail
  refine (evAlive E w1 HW.out.b).mono ?_
  rintro en w2 ⟨rfl, hb2⟩
  have HW2 := Lib.hid (HW.out.keep hb2)
  have HS2 := Lib.hid (HS.out.keep hb2)
  have hsa := HS2.out.a
  clear HW HS hb2
  go_wp2_with (refine load_wantS (by rfl) (.tmp 2) rfl gs rfl cs hsa hcs ?_)
  have hl := long_any s O L cs 410 w2 w2.heap.size HS2.out.reads (by omega)
  rw [show ((410 : Nat) : Int) = 410 from rfl] at hl
  refine hl.mono ?_
  clear hl hsa
  rintro en w3 ⟨rfl, hb3⟩
  have HW3 := Lib.hid (HW2.out.keep hb3)
  have HS3 := Lib.hid (HS2.out.keep hb3)
  clear HW2 HS2 hb3
  by_cases hlg : longS s 410 = true
  · have hbw := HW3.out.b
    rw [hlg]
    go_wp2_with fail
    go_ret
    exact ⟨rfl, hbw⟩
  replace hlg : longS s 410 = false := by simpa using hlg
  obtain ⟨hn, hll⟩ := long_not (most := 410) hlg
  rw [hlg]
  have HNl := Lib.hid (And.intro hn hll)
  clear hlg hn hll
  -- was
  have hsa := HS3.out.a
  have hcp := numCopy_any s O L cs w3 HS3.out.reads (by have := HNl.out.1; omega) (fun z hz => by have := HNl.out.2 z hz; omega)
  go_wp2_with (refine load_wantS (by rfl) (.tmp 2) rfl gs rfl cs hsa hcs ?_)
  refine hcp.mono ?_
  rintro en w4 ⟨cW, rfl, OW, LW', hRW, _, _, hb4⟩
  clear hcp hsa
  have HW4 := Lib.hid (HW3.out.keep hb4)
  have HS4 := Lib.hid (HS3.out.keep hb4)
  have hcW := hRW.size
  clear HW3 HS3 hb4
  have hnew : (World.alloc w4 (.cells st0 29)).heap[(World.heap w4).size]? = some (.cells st0 29 (0, 0)) := heap_alloc_new _ _
  have hsz : (Try.prog.info? 29).map (·.size) = some cW.size := by rw [hRW.size]; exact size37
  have hs0 : st0.size = cW.size := by rw [hRW.size, show st0.size = 37 from stC_size _ _ _ _]
  have hone := hRW.one
  have hz := st0_is
  go_upto_region 6 with (refine wpList_store_row rfl 29 (.tmp 5) (.tmp 16) rfl (World.heap w4).size _ rfl rfl 29 st0 hnew hsz hs0 hone ?_)
  clear hnew hsz hs0 hone hz
  obtain ⟨w5, hw5, hA5, hb5⟩ := box_new w4 cW
  rw [← hw5]
  have HW5 := Lib.hid (HW4.out.keep hb5)
  have HS5 := Lib.hid (HS4.out.keep hb5)
  have HB5 := Lib.hid (BW.new hRW hA5 hb5)
  obtain ⟨g5, hg5⟩ : ∃ g, g = w4.heap.size := ⟨_, rfl⟩
  rw [← hg5] at HB5 ⊢
  clear hw5 hA5 hb5 hRW HW4 HS4 hg5
  have HLen := Lib.hid (ap_len s e)
  obtain ⟨t, ht⟩ : ∃ t, t = (applyS s e).1 := ⟨_, rfl⟩
  obtain ⟨r, hr⟩ : ∃ r, r = (applyS s e).2 := ⟨_, rfl⟩
  have HT := Lib.hid ht
  have HRr := Lib.hid hr
  -- t
  have hap := E.apply s O L cs e w5 HS5.out.reads (by have := HNl.out.1; omega) (fun z hz => by have := HNl.out.2 z hz; omega) HI.out HW5.out.b
  unfold EvAP at hap
  rw [← ht, ← hr] at hap
  have hsa := HS5.out.a
  have hse := HW5.out.e
  go_wp2_with (first
    | (refine load_wantS (by rfl) (.tmp 2) rfl gs rfl cs hsa hcs ?_)
    | (refine load_ev (by rfl) (.tmp 3) rfl ge rfl e hse ?_))
  refine hap.mono ?_
  rintro en w6 ⟨cT, OT, LT, rfl, hRT, _, hb6⟩
  clear hap hsa hse
  have HW6 := Lib.hid (HW5.out.keep hb6)
  have HS6 := Lib.hid (HS5.out.keep hb6)
  have HB6 := Lib.hid (HB5.out.keep hb6)
  have hcT := hRT.size
  clear HW5 HS5 HB5 hb6 ht hr
  have hnew : (World.alloc w6 (.cells st0 29)).heap[(World.heap w6).size]? = some (.cells st0 29 (0, 0)) := heap_alloc_new _ _
  have hsz : (Try.prog.info? 29).map (·.size) = some cT.size := by rw [hRT.size]; exact size37
  have hs0 : st0.size = cT.size := by rw [hRT.size, show st0.size = 37 from stC_size _ _ _ _]
  have hone := hRT.one
  have hz := st0_is
  go_upto_region 7 with (refine wpList_store_row rfl 29 (.tmp 6) (.tmp 21) rfl (World.heap w6).size _ rfl rfl 29 st0 hnew hsz hs0 hone ?_)
  clear hnew hsz hs0 hone hz
  obtain ⟨w7, hw7, hA7, hb7⟩ := box_new w6 cT
  rw [← hw7]
  have HW7 := Lib.hid (HW6.out.keep hb7)
  have HS7 := Lib.hid (HS6.out.keep hb7)
  have HB7 := Lib.hid (HB6.out.keep hb7)
  have HT7 := Lib.hid (BW.new hRT hA7 hb7)
  obtain ⟨g6, hg6⟩ : ∃ g, g = w6.heap.size := ⟨_, rfl⟩
  rw [← hg6] at HT7 ⊢
  clear hw7 hA7 hb7 hRT HW6 HS6 HB6 hg6
  -- want
  have hap := applyRef_any s O L cs e w7 HS7.out.reads (by have := HNl.out.1; omega) (fun z hz => by have := HNl.out.2 z hz; omega) HI.out
  unfold ApR at hap
  rw [← HT.out, ← HRr.out] at hap
  have hsa := HS7.out.a
  have hse := HW7.out.e
  go_wp2_with (first
    | (refine load_wantS (by rfl) (.tmp 2) rfl gs rfl cs hsa hcs ?_)
    | (refine load_ev (by rfl) (.tmp 3) rfl ge rfl e hse ?_))
  refine hap.mono ?_
  rintro en w8 ⟨cN, ON, LN, rfl, hRN, hb8⟩
  clear hap hsa hse
  have HW8 := Lib.hid (HW7.out.keep hb8)
  have HS8 := Lib.hid (HS7.out.keep hb8)
  have HB8 := Lib.hid (HB7.out.keep hb8)
  have HT8 := Lib.hid (HT7.out.keep hb8)
  have hcN := hRN.size
  clear HW7 HS7 HB7 HT7 hb8
  have hnew : (World.alloc w8 (.cells st0 29)).heap[(World.heap w8).size]? = some (.cells st0 29 (0, 0)) := heap_alloc_new _ _
  have hsz : (Try.prog.info? 29).map (·.size) = some cN.size := by rw [hRN.size]; exact size37
  have hs0 : st0.size = cN.size := by rw [hRN.size, show st0.size = 37 from stC_size _ _ _ _]
  have hone := hRN.one
  have hz := st0_is
  go_upto_region 8 with (refine wpList_store_row rfl 29 (.tmp 8) (.tmp 27) rfl (World.heap w8).size _ rfl rfl 29 st0 hnew hsz hs0 hone ?_)
  clear hnew hsz hs0 hone hz
  obtain ⟨w9, hw9, hA9, hb9⟩ := box_new w8 cN
  rw [← hw9]
  have HW9 := Lib.hid (HW8.out.keep hb9)
  have HS9 := Lib.hid (HS8.out.keep hb9)
  have HB9 := Lib.hid (HB8.out.keep hb9)
  have HT9 := Lib.hid (HT8.out.keep hb9)
  have HN9 := Lib.hid (BW.new hRN hA9 hb9)
  obtain ⟨g8, hg8⟩ : ∃ g, g = w8.heap.size := ⟨_, rfl⟩
  rw [← hg8] at HN9 ⊢
  clear hw9 hA9 hb9 hRN HW8 HS8 HB8 HT8 hg8
  have HTl := Lib.hid (show t.objs.length ≤ 1000000 ∧ ∀ z < 11, (t.lists z).length ≤ 1000000 from by
    have h := HLen.out
    rw [← HT.out] at h
    exact ⟨by have := h.1; have := HNl.out.1; omega, fun z hz => by have := h.2 z; have := HNl.out.2 z hz; omega⟩)
  have HSl := Lib.hid (show s.objs.length ≤ 1000000 ∧ ∀ z < 11, (s.lists z).length ≤ 1000000 from ⟨by have := HNl.out.1; omega, fun z hz => by have := HNl.out.2 z hz; omega⟩)
  have hrr : (r != r) = false := bne_self_eq_false _
  have hcc : (chkE e != chkE e) = false := bne_self_eq_false _
  refine region_below (by kernel_rfl) (fun hHeld => ?_)
  refine wpAnyH_take (i := 0) (v := .agg cT) rfl (by kernel_rfl) (by kernel_rfl) (by kernel_rfl) (fun _ _ _ h => h) (yields_st (by rfl) (.tmp 6) rfl g6 rfl cT hcT (fun W hW => (HT9.out.a).keep hW)) hHeld ?_
  simp only [Act.put, List.getElem_toArray, List.getElem_cons_zero, List.getElem_cons_succ, List.setIfInBounds_toArray, List.set_cons_zero, List.set_cons_succ]
  refine wpAnyH_take (i := 1) (v := .agg cN) rfl (by kernel_rfl) (by kernel_rfl) (by kernel_rfl) (fun _ _ _ h => h) (yields_st (by rfl) (.tmp 8) rfl g8 rfl cN hcN (fun W hW => (HN9.out.a).keep hW)) hHeld ?_
  simp only [Act.put, List.getElem_toArray, List.getElem_cons_zero, List.getElem_cons_succ, List.setIfInBounds_toArray, List.set_cons_zero, List.set_cons_succ]
  refine wpAnyH_ready (rs := [2]) (by kernel_rfl) (by simp) ?_
  refine AllReadyH.cons rfl (fun K hK => ?_) AllReadyH.nil
  simp only [List.getElem_toArray, List.getElem_cons_zero, List.getElem_cons_succ]
  go_simp
  have hst := states_any t t OT ON LT LN cT cN w9.drew (HT9.out.keep (Below.refl _ _).drew).reads (HN9.out.keep (Below.refl _ _).drew).reads HTl.out.1 HTl.out.1 HTl.out.2 HTl.out.2
  rw [sameS_refl] at hst
  refine hst.mono ?_
  rintro en v1 ⟨rfl, hb⟩
  clear hst
  go_wp2_with fail
  have hHeld := keepB hb hHeld
  refine hK.out _ _ hHeld (fun _ => ?_)
  clear hK K
  try simp only [Act.put, List.setIfInBounds_toArray, List.set_cons_zero, List.set_cons_succ]
  refine wpAnyH_take (i := 3) (v := ?_) rfl (by kernel_rfl) (by kernel_rfl) (by kernel_rfl) (fun _ _ _ h => h) (Or.inl ⟨by rfl, ?_⟩) hHeld ?_
  rotate_left
  · (intro w hSw; go_simp; (try with_reducible rfl))
  simp only [Act.put, List.getElem_toArray, List.getElem_cons_zero, List.getElem_cons_succ, List.setIfInBounds_toArray, List.set_cons_zero, List.set_cons_succ]
  refine wpAnyH_take (i := 4) (v := ?_) rfl (by kernel_rfl) (by kernel_rfl) (by kernel_rfl) (fun _ _ _ h => h) (Or.inl ⟨by rfl, ?_⟩) hHeld ?_
  rotate_left
  · (intro w hSw; go_simp; (try with_reducible rfl))
  simp only [Act.put, List.getElem_toArray, List.getElem_cons_zero, List.getElem_cons_succ, List.setIfInBounds_toArray, List.set_cons_zero, List.set_cons_succ]
  refine wpAnyH_take (i := 5) (v := ?_) rfl (by kernel_rfl) (by kernel_rfl) (by kernel_rfl) (fun _ _ _ h => h) (Or.inl ⟨by rfl, ?_⟩) hHeld ?_
  rotate_left
  · (intro w hSw; go_simp; (try with_reducible rfl))
  simp only [Act.put, List.getElem_toArray, List.getElem_cons_zero, List.getElem_cons_succ, List.setIfInBounds_toArray, List.set_cons_zero, List.set_cons_succ]
  refine wpAnyH_take (i := 7) (v := ?_) rfl (by kernel_rfl) (by kernel_rfl) (by kernel_rfl) (fun _ _ _ h => h) (Or.inl ⟨by rfl, ?_⟩) hHeld ?_
  rotate_left
  · (intro w hSw; go_simp; (try with_reducible rfl))
  simp only [Act.put, List.getElem_toArray, List.getElem_cons_zero, List.getElem_cons_succ, List.setIfInBounds_toArray, List.set_cons_zero, List.set_cons_succ]
  refine wpAnyH_ready (rs := [6]) (by kernel_rfl) (by simp) ?_
  refine AllReadyH.cons rfl (fun K hK => ?_) AllReadyH.nil
  simp only [List.getElem_toArray, List.getElem_cons_zero, List.getElem_cons_succ]
  go_simp
  refine (num_by r _).mono ?_
  rintro en v2 ⟨rfl, rfl⟩
  go_wp2_with fail
  have hHeld := keepB (Below.refl _ _) hHeld
  refine hK.out _ _ hHeld (fun _ => ?_)
  clear hK K
  try simp only [Act.put, List.setIfInBounds_toArray, List.set_cons_zero, List.set_cons_succ]
  refine wpAnyH_take (i := 8) (v := ?_) rfl (by kernel_rfl) (by kernel_rfl) (by kernel_rfl) (fun _ _ _ h => h) (Or.inl ⟨by rfl, ?_⟩) hHeld ?_
  rotate_left
  · (intro w hSw; go_simp; (try with_reducible rfl))
  simp only [Act.put, List.getElem_toArray, List.getElem_cons_zero, List.getElem_cons_succ, List.setIfInBounds_toArray, List.set_cons_zero, List.set_cons_succ]
  refine wpAnyH_take (i := 9) (v := ?_) rfl (by kernel_rfl) (by kernel_rfl) (by kernel_rfl) (fun _ _ _ h => h) (Or.inl ⟨by rfl, ?_⟩) hHeld ?_
  rotate_left
  · (intro w hSw; go_simp; (try with_reducible rfl))
  simp only [Act.put, List.getElem_toArray, List.getElem_cons_zero, List.getElem_cons_succ, List.setIfInBounds_toArray, List.set_cons_zero, List.set_cons_succ]
  refine wpAnyH_take (i := 10) (v := ?_) rfl (by kernel_rfl) (by kernel_rfl) (by kernel_rfl) (fun _ _ _ h => h) (Or.inl ⟨by rfl, ?_⟩) hHeld ?_
  rotate_left
  · (intro w hSw; go_simp; (try with_reducible rfl))
  simp only [Act.put, List.getElem_toArray, List.getElem_cons_zero, List.getElem_cons_succ, List.setIfInBounds_toArray, List.set_cons_zero, List.set_cons_succ]
  refine wpAnyH_take (i := 11) (v := .agg cs) rfl (by kernel_rfl) (by kernel_rfl) (by kernel_rfl) (fun _ _ _ h => h) (yields_st (by rfl) (.tmp 2) rfl gs rfl cs hcs (fun W hW => (HS9.out.a).keep hW)) hHeld ?_
  simp only [Act.put, List.getElem_toArray, List.getElem_cons_zero, List.getElem_cons_succ, List.setIfInBounds_toArray, List.set_cons_zero, List.set_cons_succ]
  refine wpAnyH_take (i := 12) (v := .agg cW) rfl (by kernel_rfl) (by kernel_rfl) (by kernel_rfl) (fun _ _ _ h => h) (yields_st (by rfl) (.tmp 5) rfl g5 rfl cW hcW (fun W hW => (HB9.out.a).keep hW)) hHeld ?_
  simp only [Act.put, List.getElem_toArray, List.getElem_cons_zero, List.getElem_cons_succ, List.setIfInBounds_toArray, List.set_cons_zero, List.set_cons_succ]
  refine wpAnyH_ready (rs := [13]) (by kernel_rfl) (by simp) ?_
  refine AllReadyH.cons rfl (fun K hK => ?_) AllReadyH.nil
  simp only [List.getElem_toArray, List.getElem_cons_zero, List.getElem_cons_succ]
  go_simp
  have hst := states_any s s O OW L LW' cs cW _ (HS9.out.keep hHeld).reads (HB9.out.keep hHeld).reads HSl.out.1 HSl.out.1 HSl.out.2 HSl.out.2
  rw [sameS_refl] at hst
  refine hst.mono ?_
  rintro en v3 ⟨rfl, hb⟩
  clear hst
  go_wp2_with fail
  have hHeld := keepB hb hHeld
  refine hK.out _ _ hHeld (fun _ => ?_)
  clear hK K
  try simp only [Act.put, List.setIfInBounds_toArray, List.set_cons_zero, List.set_cons_succ]
  refine wpAnyH_take (i := 14) (v := ?_) rfl (by kernel_rfl) (by kernel_rfl) (by kernel_rfl) (fun _ _ _ h => h) (Or.inl ⟨by rfl, ?_⟩) hHeld ?_
  rotate_left
  · (intro w hSw; go_simp; (try with_reducible rfl))
  simp only [Act.put, List.getElem_toArray, List.getElem_cons_zero, List.getElem_cons_succ, List.setIfInBounds_toArray, List.set_cons_zero, List.set_cons_succ]
  refine wpAnyH_take (i := 15) (v := ?_) rfl (by kernel_rfl) (by kernel_rfl) (by kernel_rfl) (fun _ _ _ h => h) (Or.inl ⟨by rfl, ?_⟩) hHeld ?_
  rotate_left
  · (intro w hSw; go_simp; (try with_reducible rfl))
  simp only [Act.put, List.getElem_toArray, List.getElem_cons_zero, List.getElem_cons_succ, List.setIfInBounds_toArray, List.set_cons_zero, List.set_cons_succ]
  refine wpAnyH_take (i := 16) (v := ?_) rfl (by kernel_rfl) (by kernel_rfl) (by kernel_rfl) (fun _ _ _ h => h) (Or.inl ⟨by rfl, ?_⟩) hHeld ?_
  rotate_left
  · (intro w hSw; go_simp; (try with_reducible rfl))
  simp only [Act.put, List.getElem_toArray, List.getElem_cons_zero, List.getElem_cons_succ, List.setIfInBounds_toArray, List.set_cons_zero, List.set_cons_succ]
  refine wpAnyH_take (i := 17) (v := evV e) rfl (by kernel_rfl) (by kernel_rfl) (by kernel_rfl) (fun _ _ _ h => h) (yields_evb (by rfl) (.tmp 3) rfl ge rfl e (fun W hW => (HW9.out.e).keep hW)) hHeld ?_
  simp only [Act.put, List.getElem_toArray, List.getElem_cons_zero, List.getElem_cons_succ, List.setIfInBounds_toArray, List.set_cons_zero, List.set_cons_succ]
  refine wpAnyH_take (i := 20) (v := evV e) rfl (by kernel_rfl) (by kernel_rfl) (by kernel_rfl) (fun _ _ _ h => h) (yields_evb (by rfl) (.tmp 3) rfl ge rfl e (fun W hW => (HW9.out.e).keep hW)) hHeld ?_
  simp only [Act.put, List.getElem_toArray, List.getElem_cons_zero, List.getElem_cons_succ, List.setIfInBounds_toArray, List.set_cons_zero, List.set_cons_succ]
  refine wpAnyH_ready (rs := [18]) (by kernel_rfl) (by simp) ?_
  refine AllReadyH.cons rfl (fun K hK => ?_) AllReadyH.nil
  simp only [List.getElem_toArray, List.getElem_cons_zero, List.getElem_cons_succ]
  go_simp
  refine (E.check e _ HI.out (keepB hHeld HW9.out.b)).mono ?_
  rintro en v4 ⟨rfl, hb⟩
  go_wp2_with fail
  have hHeld := keepB hb hHeld
  refine hK.out _ _ hHeld (fun _ => ?_)
  clear hK K
  try simp only [Act.put, List.setIfInBounds_toArray, List.set_cons_zero, List.set_cons_succ]
  refine wpAnyH_ready (rs := [19]) (by kernel_rfl) (by simp) ?_
  refine AllReadyH.cons rfl (fun K hK => ?_) AllReadyH.nil
  simp only [List.getElem_toArray, List.getElem_cons_zero, List.getElem_cons_succ]
  go_simp
  refine (num_by (chkE e) _).mono ?_
  rintro en v5 ⟨rfl, rfl⟩
  go_wp2_with fail
  have hHeld := keepB (Below.refl _ _) hHeld
  refine hK.out _ _ hHeld (fun _ => ?_)
  clear hK K
  try simp only [Act.put, List.setIfInBounds_toArray, List.set_cons_zero, List.set_cons_succ]
  refine wpAnyH_ready (rs := [21]) (by kernel_rfl) (by simp) ?_
  refine AllReadyH.cons rfl (fun K hK => ?_) AllReadyH.nil
  simp only [List.getElem_toArray, List.getElem_cons_zero, List.getElem_cons_succ]
  go_simp
  refine (evCheckRef_any e _).mono ?_
  rintro en v6 ⟨rfl, hb⟩
  go_wp2_with fail
  have hHeld := keepB hb hHeld
  refine hK.out _ _ hHeld (fun _ => ?_)
  clear hK K
  try simp only [Act.put, List.setIfInBounds_toArray, List.set_cons_zero, List.set_cons_succ]
  refine wpAnyH_take (i := 22) (v := ?_) rfl (by kernel_rfl) (by kernel_rfl) (by kernel_rfl) (fun _ _ _ h => h) (Or.inl ⟨by rfl, ?_⟩) hHeld ?_
  rotate_left
  · (intro w hSw; go_simp; (try with_reducible rfl))
  simp only [Act.put, List.getElem_toArray, List.getElem_cons_zero, List.getElem_cons_succ, List.setIfInBounds_toArray, List.set_cons_zero, List.set_cons_succ]
  refine wpAnyH_take (i := 23) (v := ?_) rfl (by kernel_rfl) (by kernel_rfl) (by kernel_rfl) (fun _ _ _ h => h) (Or.inl ⟨by rfl, ?_⟩) hHeld ?_
  rotate_left
  · (intro w hSw; go_simp; (try with_reducible rfl))
  simp only [Act.put, List.getElem_toArray, List.getElem_cons_zero, List.getElem_cons_succ, List.setIfInBounds_toArray, List.set_cons_zero, List.set_cons_succ]
  refine wpAnyH_done (by kernel_rfl) ?_ _
  have HW10 := Lib.hid (HW9.out.keep hHeld)
  have HS10 := Lib.hid (HS9.out.keep hHeld)
  have HB10 := Lib.hid (HB9.out.keep hHeld)
  have HN10 := Lib.hid (HN9.out.keep hHeld)
  clear HW9 HS9 HB9 HN9 HT9 hHeld hcc
  obtain ⟨x0, hx0⟩ : ∃ x0, x0 = v6 := ⟨_, rfl⟩
  rw [← hx0] at HW10 HS10 HB10 HN10
  rw [← hx0]
  clear hx0
  -- u
  have hsa := HS10.out.a
  have hcp := numCopy_any s O L cs x0 HS10.out.reads HSl.out.1 HSl.out.2
  go_wp2_with (refine load_wantS (by rfl) (.tmp 2) rfl gs rfl cs hsa hcs ?_)
  refine hcp.mono ?_
  rintro en x1 ⟨cU, rfl, OU, LU, hRU, _, _, hb⟩
  clear hcp hsa
  have HW11 := Lib.hid (HW10.out.keep hb)
  have HB11 := Lib.hid (HB10.out.keep hb)
  have HN11 := Lib.hid (HN10.out.keep hb)
  clear HW10 HS10 HB10 HN10 hb
  have hnew : (World.alloc x1 (.cells st0 29)).heap[(World.heap x1).size]? = some (.cells st0 29 (0, 0)) := heap_alloc_new _ _
  have hsz : (Try.prog.info? 29).map (·.size) = some cU.size := by rw [hRU.size]; exact size37
  have hs0 : st0.size = cU.size := by rw [hRU.size, show st0.size = 37 from stC_size _ _ _ _]
  have hone := hRU.one
  have hz := st0_is
  go_upto_region 11 with (refine wpList_store_row rfl 29 (.tmp 10) (.tmp 54) rfl (World.heap x1).size _ rfl rfl 29 st0 hnew hsz hs0 hone ?_)
  clear hnew hsz hs0 hone hz
  obtain ⟨x2, hx2, hA2, hb2⟩ := box_new x1 cU
  rw [← hx2]
  have HW12 := Lib.hid (HW11.out.keep hb2)
  have HB12 := Lib.hid (HB11.out.keep hb2)
  have HN12 := Lib.hid (HN11.out.keep hb2)
  have HU12 := Lib.hid (BW.new hRU hA2 hb2)
  have hlt5 := HB11.out.a.lt
  have hlt8 := HN11.out.a.lt
  have hltE := HW11.out.e.lt
  have hltW := HW11.out.b.size
  obtain ⟨gu, hgu⟩ : ∃ g, g = x1.heap.size := ⟨_, rfl⟩
  rw [← hgu] at HU12 hlt5 hlt8 hltE hltW ⊢
  clear hx2 hA2 hb2 hRU HW11 HB11 HN11 hgu
  have hdo := E.do_ s OU LU e gu x2 (by have h := HU12.out.a; rw [HU12.out.r.cs] at h; exact h) (by have h := ReadsX.of HU12.out.r (Nat.le_refl _) (Nat.le_of_lt HU12.out.a.lt); rw [HU12.out.r.cs] at h; exact h) hltW (by have := HNl.out.1; omega) (fun z hz => by have := HNl.out.2 z hz; omega) HI.out HW12.out.b
  unfold EvDP at hdo
  rw [← HRr.out] at hdo
  have hse := HW12.out.e
  go_wp2_with (refine load_ev (by rfl) (.tmp 3) rfl ge rfl e hse ?_)
  refine hdo.mono ?_
  rintro en x3 ⟨O3, L3, rfl, ha3, hx3, hs3⟩
  clear hdo hse
  have hb3 : Below w.heap.size w x3 := HW12.out.b.trans (hs3.below HW12.out.b.size hltW)
  have HB13 := Lib.hid (HB12.out.stay hs3 hlt5)
  have HN13 := Lib.hid (HN12.out.stay hs3 hlt8)
  obtain ⟨c3, hc3⟩ : ∃ c3, c3 = stC O3 L3 (doS s e).pl (doS s e).gm := ⟨_, rfl⟩
  rw [← hc3] at ha3 hx3
  have hR3 := hx3.now
  have hc37 := hR3.size
  clear hs3 HW12 HB12 HN12 HU12 hc3 hx3
  go_wp2_with fail
  refine (num_by r _).mono ?_
  rintro en x4 ⟨rfl, rfl⟩
  go_upto_region 13 with fail
  clear hrr
  by_cases hr0 : r = 0
  · subst hr0
    have hd : doS s e = t := by unfold doS; rw [← HRr.out, if_pos rfl, HT.out]
    rw [hd] at hR3
    have hst := states_any t t O3 ON L3 LN c3 cN x3 hR3 HN13.out.reads HTl.out.1 HTl.out.1 HTl.out.2 HTl.out.2
    rw [sameS_refl] at hst
    have hna := HN13.out.a
    go_wp2_with (first
      | (refine load_wantS (by rfl) (.tmp 10) rfl gu rfl c3 ha3 hc37 ?_)
      | (refine load_wantS (by rfl) (.tmp 8) rfl g8 rfl cN hna hcN ?_))
    refine hst.mono ?_
    rintro en x5 ⟨rfl, hb5⟩
    go_wp2_with fail
    go_ret
    exact ⟨rfl, keepB hb5 hb3⟩
  · have hd : doS s e = s := by unfold doS; rw [← HRr.out, if_neg hr0]
    rw [hd] at hR3
    have hst := states_any s s O3 OW L3 LW' c3 cW x3 hR3 HB13.out.reads HSl.out.1 HSl.out.1 HSl.out.2 HSl.out.2
    rw [sameS_refl] at hst
    have hba := HB13.out.a
    have hd0 : (r != 0) = true := bne_iff_ne.2 hr0
    clear hr0
    go_wp2_with (first
      | (refine load_wantS (by rfl) (.tmp 10) rfl gu rfl c3 ha3 hc37 ?_)
      | (refine load_wantS (by rfl) (.tmp 5) rfl g5 rfl cW hba hcW ?_))
    refine hst.mono ?_
    rintro en x5 ⟨rfl, hb5⟩
    go_wp2_with fail
    go_ret
    exact ⟨rfl, keepB hb5 hb3⟩
end Go.Proofs.Ythedopnhhanknaa
