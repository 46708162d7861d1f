/- Layer 13: the law NetRuns. -/
import Derived.Test.YtmneajmedopheaaNtAlive
import Derived.Test.YtmneajmedopheaaNtLw
namespace Go.Proofs.Ytmneajmedopheaa
open Go.RowKit Ex
set_option maxRecDepth 100000
set_option linter.unusedSimpArgs false in
set_option maxHeartbeats 0 in
theorem netRuns_walk {w : World} (E : NtSaid w) (s : StT) (O : SlT) (L : Nat → SlT) (cs : Array Value) (A : Option Addr) (n c : Nat) (l : List EvT) (hR : ReadsS w.heap.size w cs s O L) (hV : Evs w.heap.size w A n l) (hc : n ≤ c) :
    Calls Try.prog 3 #[.agg cs, .slice A n c] w fun en w' => en = .returned (.bool true) ∧ Below w.heap.size w w' := by
  have hcs := hR.size
  have HR := Lib.hid hR
  have HV := Lib.hid hV
  have HC := Lib.hid hc
  clear hR hV hc
  go_enter Try.func3, Try.ntmps3
  go_upto_region 1 with fail
  obtain ⟨w1, hw1⟩ : ∃ w1, w1 = w.alloc (.cells cs 29) := ⟨_, rfl⟩
  obtain ⟨gs, hgs⟩ : ∃ g, g = w.heap.size := ⟨_, rfl⟩
  have HW := Lib.hid (show NW w gs cs w1 from by
    rw [hw1, hgs]
    exact ⟨(Below.refl _ _).alloc (Nat.le_refl _) _, StAt.new w cs⟩)
  show Code.wp _ _ _ _ (w.alloc (.cells cs 29))
  rw [← hw1, ← hgs]
  have HGs := Lib.hid hgs
  clear hw1 hgs
  go_wp2_with fail
  refine (ntAlive E w1 HW.out.b).mono ?_
  rintro en w2 ⟨rfl, hb2⟩
  have HW2 := Lib.hid (HW.out.keep hb2)
  have hsa := HW2.out.a
  clear HW hb2
  go_wp2_with (refine load_wantS (by rfl) (.tmp 2) rfl gs rfl cs hsa hcs ?_)
  have hl := long_any s O L cs 60 w2 w2.heap.size (HW2.out.reads HR.out) (by omega)
  rw [show ((60 : Nat) : Int) = 60 from rfl] at hl
  refine hl.mono ?_
  clear hl hsa
  rintro en w3 ⟨rfl, hb3⟩
  have HW3 := Lib.hid (HW2.out.keep hb3)
  clear HW2 hb3
  by_cases hlg : longS s 60 = true
  · have hbw := HW3.out.b
    rw [hlg]
    go_wp2_with fail
    go_ret
    exact ⟨rfl, hbw⟩
  replace hlg : longS s 60 = false := by simpa using hlg
  obtain ⟨hn, hll⟩ := long_not (most := 60) hlg
  rw [hlg]
  by_cases hng : 60 < n
  · have hbw := HW3.out.b
    have hd : decide ((60 : Int) < (n : Int)) = true := by simp; omega
    go_wp2_with fail
    go_ret
    exact ⟨rfl, hbw⟩
  have hd : decide ((60 : Int) < (n : Int)) = false := by simp; omega
  have HNl := Lib.hid (And.intro hn (And.intro hll (show n ≤ 60 by omega)))
  clear hlg hn hll hng
  have HLs := Lib.hid (show s.objs.length ≤ 500 ∧ ∀ z < 11, (s.lists z).length ≤ 500 from ⟨by have := HNl.out.1; omega, fun z hz => by have := HNl.out.2.1 z hz; omega⟩)
  have hsa := HW3.out.a
  -- t
  have hrn := E.run s O L cs A n c l w3 (HW3.out.reads HR.out) HLs.out.1 HLs.out.2 (HW3.out.v HV.out) HC.out (by have := HNl.out.2.2; omega) HW3.out.b
  unfold RnP at hrn
  obtain ⟨t, ht⟩ : ∃ t, t = (runS s l).1 := ⟨_, rfl⟩
  obtain ⟨k, hk⟩ : ∃ k, k = (runS s l).2.1 := ⟨_, rfl⟩
  obtain ⟨r, hr⟩ : ∃ r, r = (runS s l).2.2 := ⟨_, rfl⟩
  have HT := Lib.hid (And.intro ht (And.intro hk hr))
  rw [← ht, ← hk, ← hr] at hrn
  clear ht hk hr
  go_wp2_with (refine load_wantS (by rfl) (.tmp 2) rfl gs rfl cs hsa hcs ?_)
  refine hrn.mono ?_
  rintro en w7 ⟨cT, OT, LT, rfl, hNT, hb7⟩
  clear hrn hsa
  have HW7 := Lib.hid (HW3.out.keep hb7)
  have hcT := hNT.now.size
  clear HW3 hb7
  have hnew : (World.alloc w7 (.cells st0 29)).heap[(World.heap w7).size]? = some (.cells st0 29 (0, 0)) := heap_alloc_new _ _
  have hsz : (Try.prog.info? 29).map (·.size) = some cT.size := by rw [hNT.now.size]; exact size37
  have hs0 : st0.size = cT.size := by rw [hNT.now.size, show st0.size = 37 from stC_size _ _ _ _]
  have hone := hNT.now.one
  have hz := st0_is
  go_upto_region 6 with (refine wpList_store_row rfl 29 (.tmp 5) (.tmp 24) rfl (World.heap w7).size _ rfl rfl 29 st0 hnew hsz hs0 hone ?_)
  clear hnew hsz hs0 hone hz
  obtain ⟨w8, hw8, hA8, hb8⟩ := box_new w7 cT
  rw [← hw8]
  have HW8 := Lib.hid (HW7.out.keep hb8)
  have HT8 := Lib.hid (BN.new hNT hA8 hb8)
  have HG5 := Lib.hid (show w.heap.size ≤ w7.heap.size ∧ gs ≠ w7.heap.size from ⟨HW7.out.b.size, by have := HW7.out.a.lt; omega⟩)
  obtain ⟨g5, hg5⟩ : ∃ g, g = w7.heap.size := ⟨_, rfl⟩
  rw [← hg5] at HT8 HG5 ⊢
  clear hw8 hA8 hb8 hNT HW7 hg5
  -- want
  have hsa := HW8.out.a
  have hrn := runRef_any s O L cs A n c l w8 (HW8.out.reads HR.out) (by have := HLs.out.1; omega) (fun z hz => by have := HLs.out.2 z hz; omega) (HW8.out.v HV.out) (by have := HNl.out.2.2; omega)
  unfold RnR at hrn
  rw [← HT.out.1, ← HT.out.2.1, ← HT.out.2.2] at hrn
  go_wp2_with (refine load_wantS (by rfl) (.tmp 2) rfl gs rfl cs hsa hcs ?_)
  refine hrn.mono ?_
  rintro en w9 ⟨cN, ON, LN, rfl, hNN, hb9⟩
  clear hrn hsa
  have HW9 := Lib.hid (HW8.out.keep hb9)
  have HT9 := Lib.hid (HT8.out.keep hb9)
  have hg58 := HT8.out.a.lt
  have hcN := hNN.now.size
  clear HW8 HT8 hb9
  have hnew : (World.alloc w9 (.cells st0 29)).heap[(World.heap w9).size]? = some (.cells st0 29 (0, 0)) := heap_alloc_new _ _
  have hsz : (Try.prog.info? 29).map (·.size) = some cN.size := by rw [hNN.now.size]; exact size37
  have hs0 : st0.size = cN.size := by rw [hNN.now.size, show st0.size = 37 from stC_size _ _ _ _]
  have hone := hNN.now.one
  have hz := st0_is
  go_upto_region 7 with (refine wpList_store_row rfl 29 (.tmp 8) (.tmp 31) rfl (World.heap w9).size _ rfl rfl 29 st0 hnew hsz hs0 hone ?_)
  clear hnew hsz hs0 hone hz
  obtain ⟨wA, hwA, hAA, hbA⟩ := box_new w9 cN
  rw [← hwA]
  have HWA := Lib.hid (HW9.out.keep hbA)
  have HTA := Lib.hid (HT9.out.keep hbA)
  have HNA := Lib.hid (BN.new hNN hAA hbA)
  have HG8 := Lib.hid (show w.heap.size ≤ w9.heap.size ∧ gs ≠ w9.heap.size ∧ g5 < w9.heap.size ∧ g5 < w8.heap.size from ⟨HW9.out.b.size, by have := HW9.out.a.lt; omega, HT9.out.a.lt, hg58⟩)
  clear hg58
  obtain ⟨g8, hg8⟩ : ∃ g, g = w9.heap.size := ⟨_, rfl⟩
  rw [← hg8] at HNA HG8 ⊢
  clear hwA hAA hbA hNN HW9 HT9 hg8
  have HTl := Lib.hid (show t.objs.length ≤ 1000000 ∧ ∀ z < 11, (t.lists z).length ≤ 1000000 from by
    have h := runS_len s l
    rw [← HT.out.1, ← HV.out.n] at h
    exact ⟨by have := h.1; have := HNl.out.1; have := HNl.out.2.2; omega, fun z hz => by have := h.2 z; have := HNl.out.2.1 z hz; have := HNl.out.2.2; omega⟩)
  have hst := states_any t t OT ON LT LN cT cN wA HTA.out.reads HNA.out.reads HTl.out.1 HTl.out.1 HTl.out.2 HTl.out.2
  rw [sameS_refl] at hst
  have haT := HTA.out.a
  have haN := HNA.out.a
  have hkk : ((k : Int) != (k : Int)) = false := bne_self_eq_false _
  have hrr : (r != r) = false := bne_self_eq_false _
  go_wp2_with (first
    | (refine load_wantS (by rfl) (.tmp 5) rfl g5 rfl cT haT hcT ?_)
    | (refine load_wantS (by rfl) (.tmp 8) rfl g8 rfl cN haN hcN ?_))
  refine hst.mono ?_
  rintro en wB ⟨rfl, hbB⟩
  clear hst haT haN
  go_wp2_with fail
  refine (num_by r _).mono ?_
  rintro en wC ⟨rfl, rfl⟩
  go_upto_region 9 with fail
  have HWB := Lib.hid (HWA.out.keep hbB)
  have HTB := Lib.hid (HTA.out.keep hbB)
  have HNB := Lib.hid (HNA.out.keep hbB)
  clear HWA HTA HNA hbB hkk hrr HTl
  -- undo
  have hsa := HWB.out.a
  have hrn := E.undo s O L cs A n c l wB (HWB.out.reads HR.out) HLs.out.1 HLs.out.2 (HWB.out.v HV.out) HC.out (by have := HNl.out.2.2; omega) HWB.out.b
  unfold RnP at hrn
  obtain ⟨u, hu⟩ : ∃ u, u = (runS s (invL l)).1 := ⟨_, rfl⟩
  obtain ⟨q, hq⟩ : ∃ q, q = (runS s (invL l)).2.1 := ⟨_, rfl⟩
  obtain ⟨p, hp⟩ : ∃ p, p = (runS s (invL l)).2.2 := ⟨_, rfl⟩
  have HU := Lib.hid (And.intro hu (And.intro hq hp))
  rw [← hu, ← hq, ← hp] at hrn
  clear hu hq hp
  go_wp2_with (refine load_wantS (by rfl) (.tmp 2) rfl gs rfl cs hsa hcs ?_)
  refine hrn.mono ?_
  rintro en wD ⟨cU, OU, LU, rfl, hNU, hbD⟩
  clear hrn hsa
  have HWD := Lib.hid (HWB.out.keep hbD)
  have HND := Lib.hid (HNB.out.keep hbD)
  have hcU := hNU.now.size
  have HGB := Lib.hid (show g5 < wB.heap.size ∧ g8 < wB.heap.size from ⟨HTB.out.a.lt, HNB.out.a.lt⟩)
  have haT : wD.heap[g5]? = some (.cells cT 29 (0, 0)) := HTB.out.a.keep hbD
  have hsz : (Try.prog.info? 29).map (·.size) = some cU.size := by rw [hcU]; exact size37
  have hs0 : cT.size = cU.size := by rw [hcT, hcU]
  have hone := hNU.now.one
  go_upto_region 10 with (refine wpList_store_row rfl 29 (.tmp 5) (.tmp 53) rfl g5 _ rfl rfl 29 cT haT hsz hs0 hone ?_)
  have HWE := Lib.hid (HWD.out.row HG5.out.1 HG5.out.2 cU)
  have HNE := Lib.hid (HND.out.row (cs' := cU) HG8.out.2.2.2 (Ne.symm (Nat.ne_of_lt HG8.out.2.2.1)))
  have HUE := Lib.hid (BN.set_ haT hNU HGB.out.1)
  obtain ⟨wE, hwE⟩ : ∃ wE, wE = wD.setRow g5 cU := ⟨_, rfl⟩
  rw [← hwE] at HWE HNE HUE
  rw [← hwE]
  clear hwE haT hsz hs0 hone hNU hbD HWD HND HWB HTB HNB hcT
  -- want, undone
  have hinv := invLRef_any A n c l wE.drew ((HWE.out.keep (Below.refl _ _).drew).v HV.out) (by have := HNl.out.2.2; omega)
  have HInv := Lib.hid hinv
  clear hinv
  refine wp_region_held_drew (S := fun W => NW w gs cs W) (by kernel_rfl) (show NW w gs cs wE.drew from HWE.out.keep (Below.refl _ _).drew) (fun hHeld => ?_)
  refine wpAnyH_take (i := 0) (v := .agg cs) rfl (by kernel_rfl) (by kernel_rfl) (by kernel_rfl) (fun _ _ _ h => h) (yields_st (by rfl) (.tmp 2) rfl gs rfl cs hcs (fun W hW => hW.a)) hHeld ?_
  simp only [Act.put, List.getElem_toArray, List.getElem_cons_zero, List.getElem_cons_succ, List.setIfInBounds_toArray, List.set_cons_zero, List.set_cons_succ]
  refine wpAnyH_take (i := 1) (v := ?_) rfl (by kernel_rfl) (by kernel_rfl) (by kernel_rfl) (fun _ _ _ h => h) (Or.inl ⟨by rfl, ?_⟩) hHeld ?_
  rotate_left
  · (intro w hSw; go_simp; (try with_reducible rfl))
  simp only [Act.put, List.getElem_toArray, List.getElem_cons_zero, List.getElem_cons_succ, List.setIfInBounds_toArray, List.set_cons_zero, List.set_cons_succ]
  refine wpAnyH_ready (rs := [2]) (by kernel_rfl) (by simp) ?_
  refine AllReadyH.cons rfl (fun K hK => ?_) AllReadyH.nil
  simp only [List.getElem_toArray, List.getElem_cons_zero, List.getElem_cons_succ]
  go_simp
  refine HInv.out.mono ?_
  rintro en wF ⟨A6, c6, rfl, hc6, hV6, hb6⟩
  have hbF := keepB hb6 (Below.refl wE.heap.size wE).drew
  go_wp2_with fail
  have hHeld := hHeld.keep hb6
  refine hK.out _ _ hHeld (fun _ => ?_)
  clear hK K
  try simp only [Act.put, List.setIfInBounds_toArray, List.set_cons_zero, List.set_cons_succ]
  refine wpAnyH_ready (rs := [3]) (by kernel_rfl) (by simp) ?_
  refine AllReadyH.cons rfl (fun K hK => ?_) AllReadyH.nil
  simp only [List.getElem_toArray, List.getElem_cons_zero, List.getElem_cons_succ]
  go_simp
  have hrn := runRef_any s O L cs A6 n c6 (invL l) wF (hHeld.reads HR.out) (by have := HLs.out.1; omega) (fun z hz => by have := HLs.out.2 z hz; omega) hV6 (by have := HNl.out.2.2; omega)
  unfold RnR at hrn
  rw [← HU.out.1, ← HU.out.2.1, ← HU.out.2.2] at hrn
  refine hrn.mono ?_
  rintro en wG ⟨cM, OM, LM, rfl, hNM, hb7⟩
  clear hrn
  go_wp2_with fail
  have HNM := Lib.hid (show ReadsN wF.heap.size wG cM u OM LM from hNM)
  have HGF := Lib.hid (show g8 < wF.heap.size from Nat.lt_of_lt_of_le HNE.out.a.lt hbF.size)
  have hcM := hNM.now.size
  have honeM := hNM.now.one
  have hbG := keepB hb7 hbF
  clear hNM
  have hHeld := hHeld.keep hb7
  refine hK.out _ _ hHeld (fun _ => ?_)
  clear hK K
  try simp only [Act.put, List.setIfInBounds_toArray, List.set_cons_zero, List.set_cons_succ]
  refine wpAnyH_take (i := 4) (v := ?_) rfl (by kernel_rfl) (by kernel_rfl) (by kernel_rfl) (fun _ _ _ h => h) (Or.inl ⟨by rfl, ?_⟩) hHeld ?_
  rotate_left
  · (intro w hSw; go_simp; (try with_reducible rfl))
  simp only [Act.put, List.getElem_toArray, List.getElem_cons_zero, List.getElem_cons_succ, List.setIfInBounds_toArray, List.set_cons_zero, List.set_cons_succ]
  refine wpAnyH_take (i := 5) (v := ?_) rfl (by kernel_rfl) (by kernel_rfl) (by kernel_rfl) (fun _ _ _ h => h) (Or.inl ⟨by rfl, ?_⟩) hHeld ?_
  rotate_left
  · (intro w hSw; go_simp; (try with_reducible rfl))
  simp only [Act.put, List.getElem_toArray, List.getElem_cons_zero, List.getElem_cons_succ, List.setIfInBounds_toArray, List.set_cons_zero, List.set_cons_succ]
  refine wpAnyH_take (i := 6) (v := ?_) rfl (by kernel_rfl) (by kernel_rfl) (by kernel_rfl) (fun _ _ _ h => h) (Or.inl ⟨by rfl, ?_⟩) hHeld ?_
  rotate_left
  · (intro w hSw; go_simp; (try with_reducible rfl))
  simp only [Act.put, List.getElem_toArray, List.getElem_cons_zero, List.getElem_cons_succ, List.setIfInBounds_toArray, List.set_cons_zero, List.set_cons_succ]
  refine wpAnyH_take (i := 7) (v := ?_) rfl (by kernel_rfl) (by kernel_rfl) (by kernel_rfl) (fun _ _ _ h => h) (Or.inl ⟨by rfl, ?_⟩) hHeld ?_
  rotate_left
  · (intro w hSw; go_simp; (try with_reducible rfl))
  simp only [Act.put, List.getElem_toArray, List.getElem_cons_zero, List.getElem_cons_succ, List.setIfInBounds_toArray, List.set_cons_zero, List.set_cons_succ]
  have HNG := Lib.hid (HNE.out.keep hbG)
  have haN : wG.heap[g8]? = some (.cells cN 29 (0, 0)) := HNG.out.a
  refine wpAnyH_ready (rs := [8]) (by kernel_rfl) (by simp) ?_
  refine AllReadyH.cons rfl (fun K hK => ?_) AllReadyH.nil
  simp only [List.getElem_toArray, List.getElem_cons_zero, List.getElem_cons_succ]
  refine wp_store_row 29 (.tmp 8) (.tmp 61) rfl g8 _ rfl rfl 29 _ haN (by rw [hcM]; exact size37) (by rw [hcM, hcN]) honeM ?_
  have hHeld := hHeld.row HG8.out.1 HG8.out.2.1 cM
  have HUG := Lib.hid ((HUE.out.keep hbG).row (cs' := cM) HGB.out.2 (Nat.ne_of_lt HG8.out.2.2.1))
  have HMG := Lib.hid (BN.set_ (s := u) haN HNM.out HGF.out)
  refine hK.out _ _ hHeld (fun _ => ?_)
  clear hK K
  try simp only [Act.put, List.setIfInBounds_toArray, List.set_cons_zero, List.set_cons_succ]
  refine wpAnyH_take (i := 9) (v := ?_) rfl (by kernel_rfl) (by kernel_rfl) (by kernel_rfl) (fun _ _ _ h => h) (Or.inl ⟨by rfl, ?_⟩) hHeld ?_
  rotate_left
  · (intro w hSw; go_simp; (try with_reducible rfl))
  simp only [Act.put, List.getElem_toArray, List.getElem_cons_zero, List.getElem_cons_succ, List.setIfInBounds_toArray, List.set_cons_zero, List.set_cons_succ]
  refine wpAnyH_take (i := 10) (v := ?_) rfl (by kernel_rfl) (by kernel_rfl) (by kernel_rfl) (fun _ _ _ h => h) (Or.inl ⟨by rfl, ?_⟩) hHeld ?_
  rotate_left
  · (intro w hSw; go_simp; (try with_reducible rfl))
  simp only [Act.put, List.getElem_toArray, List.getElem_cons_zero, List.getElem_cons_succ, List.setIfInBounds_toArray, List.set_cons_zero, List.set_cons_succ]
  refine wpAnyH_done (by kernel_rfl) ?_ _
  have HWG := Lib.hid hHeld
  obtain ⟨wH, hwH⟩ : ∃ wH, wH = wG.setRow g8 cM := ⟨_, rfl⟩
  rw [← hwH] at HWG HUG HMG
  rw [← hwH]
  clear hHeld hwH haN hbF hbG hb6 hb7 honeM hV6 hc6 HInv HNM HNG HWE HUE HNE hcN
  have HUl := Lib.hid (show u.objs.length ≤ 1000000 ∧ ∀ z < 11, (u.lists z).length ≤ 1000000 from by
    have h := runS_len s (invL l)
    rw [← HU.out.1, invL_len, ← HV.out.n] at h
    exact ⟨by have := h.1; have := HNl.out.1; have := HNl.out.2.2; omega, fun z hz => by have := h.2 z; have := HNl.out.2.1 z hz; have := HNl.out.2.2; omega⟩)
  have hst := states_any u u OU OM LU LM cU cM wH HUG.out.reads HMG.out.reads HUl.out.1 HUl.out.1 HUl.out.2 HUl.out.2
  rw [sameS_refl] at hst
  have haU := HUG.out.a
  have haM := HMG.out.a
  have hqq : ((q : Int) == (q : Int)) = true := beq_self_eq_true _
  have hpp : (p == p) = true := beq_self_eq_true _
  go_wp2_with (first
    | (refine load_wantS (by rfl) (.tmp 5) rfl g5 rfl cU haU hcU ?_)
    | (refine load_wantS (by rfl) (.tmp 8) rfl g8 rfl cM haM hcM ?_))
  refine hst.mono ?_
  rintro en wI ⟨rfl, hbI⟩
  have HWI := Lib.hid (HWG.out.keep hbI)
  clear hst haU haM HWG HUG HMG hbI
  go_wp2_with fail
  refine (num_by p _).mono ?_
  rintro en wJ ⟨rfl, rfl⟩
  have hi := E.inv A n c l wI (HWI.out.v HV.out) HC.out (by have := HNl.out.2.2; omega) HWI.out.b
  unfold EvsP at hi
  go_wp2_with fail
  refine hi.mono ?_
  rintro en wK ⟨A7, n7, c7, rfl, hc7, hV7, hb7⟩
  have HWK := Lib.hid (HWI.out.keep hb7)
  have HV7 := Lib.hid hV7
  clear hi hc7 hV7 hb7
  have hi := invLRef_any A n c l wK (HWK.out.v HV.out) (by have := HNl.out.2.2; omega)
  go_wp2_with fail
  refine hi.mono ?_
  rintro en wL ⟨A8, c8, rfl, hc8, hV8, hb8⟩
  obtain rfl : n7 = n := by rw [HV7.out.n, hV8.n]
  have hev := events_any A7 A8 n7 c7 c8 (invL l) wL (HV7.out.grow hb8) hV8 (by have := HNl.out.2.2; omega)
  have HWL := Lib.hid (HWK.out.keep hb8)
  clear hi hc8 hV8 hb8 HWK
  go_wp2_with fail
  refine hev.mono ?_
  rintro en wM ⟨rfl, hbM⟩
  have hbw := (HWL.out.keep hbM).b
  clear hev
  go_wp2_with fail
  go_ret
  exact ⟨rfl, hbw⟩
end Go.Proofs.Ytmneajmedopheaa
