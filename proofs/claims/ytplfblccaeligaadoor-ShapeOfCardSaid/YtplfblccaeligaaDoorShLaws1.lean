/- Layer 17: the law ShapeOf. -/
import Derived.Test.YtplfblccaeligaaDoorShG4
import Derived.Test.YtplfblccaeligaaDoorShG7
import Derived.Test.YtplfblccaeligaaDoorShG8
import Derived.Test.YtplfblccaeligaaDoorShRef7
import Derived.Test.YtplfblccaeligaaDoorShG2
namespace Go.Proofs.YtplfblccaeligaaDoor
open Go.RowKit Ex Mx
set_option maxRecDepth 100000
set_option linter.unusedSimpArgs false in
set_option maxHeartbeats 0 in
theorem shapeOf_walk {w : World} (E : ShSaid w) (s : StT) (O : SlT) (L : Nat → SlT) (cs : Array Value) (id : Int) (hR : ReadsS w.heap.size w cs s O L) (hid : N64 id) :
    Calls Tryd.prog 3 #[.agg cs, .int .i64 id] w fun en w' => en = .returned (.bool true) ∧ Below w.heap.size w w' := by
  have hcs := hR.size
  have HR := Lib.hid hR
  have HI := Lib.hid hid
  clear hR hid
  go_enter Tryd.func3, Tryd.ntmps3
  go_upto_region 1 with fail
  obtain ⟨w1, hw1⟩ : ∃ w1, w1 = w.alloc (.cells cs 29) := ⟨_, rfl⟩
  obtain ⟨gs, hgs⟩ : ∃ g, g = w.heap.size := ⟨_, rfl⟩
  have HW := Lib.hid (show SW w gs cs w1 from by
    rw [hw1, hgs]
    exact ⟨(Below.refl _ _).alloc (Nat.le_refl _) _, StAt.new w cs⟩)
  show Code.wp _ _ _ _ (w.alloc (.cells cs 29))
  rw [← hw1, ← hgs]
  have HGs := Lib.hid hgs
  clear hw1 hgs
  go_wp2_with fail
  refine (shAlive E w1 HW.out.b).mono ?_
  rintro en w2 ⟨rfl, hb2⟩
  have HW2 := Lib.hid (HW.out.keep hb2)
  have hsa := HW2.out.a
  clear HW hb2
  go_wp2_with (refine load_wantS (by rfl) (.tmp 2) rfl gs rfl cs hsa hcs ?_)
  have hl := long_any s O L cs 60 w2 w2.heap.size (HW2.out.reads HR.out) (by omega)
  rw [show ((60 : Nat) : Int) = 60 from rfl] at hl
  refine hl.mono ?_
  clear hl hsa
  rintro en w3 ⟨rfl, hb3⟩
  have HW3 := Lib.hid (HW2.out.keep hb3)
  clear HW2 hb3
  by_cases hlg : longS s 60 = true
  · have hbw := HW3.out.b
    rw [hlg]
    go_wp2_with fail
    go_ret
    exact ⟨rfl, hbw⟩
  replace hlg : longS s 60 = false := by simpa using hlg
  obtain ⟨hn, hll⟩ := long_not (most := 60) hlg
  rw [hlg]
  have HNl := Lib.hid (And.intro hn hll)
  clear hlg hn hll
  have HLs := Lib.hid (show s.objs.length ≤ 1000 ∧ ∀ z < 11, (s.lists z).length ≤ 1000 from ⟨by have := HNl.out.1; omega, fun z hz => by have := HNl.out.2 z hz; omega⟩)
  have HLm := Lib.hid (show s.objs.length ≤ 1000000 ∧ ∀ z < 11, (s.lists z).length ≤ 1000000 from ⟨by have := HNl.out.1; omega, fun z hz => by have := HNl.out.2 z hz; omega⟩)
  obtain ⟨bad, hbad⟩ : ∃ b, b = chkS s := ⟨_, rfl⟩
  have hck := st_checkRef_any s O L cs w3 w3.heap.size (HW3.out.reads HR.out) (Nat.le_refl _) HLm.out.1 HLm.out.2
  rw [← hbad] at hck
  have HBad := Lib.hid hbad
  have hsa := HW3.out.a
  clear hbad
  go_wp2_with (refine load_wantS (by rfl) (.tmp 2) rfl gs rfl cs hsa hcs ?_)
  refine hck.mono ?_
  rintro en w4 ⟨rfl, hb4⟩
  have HW4 := Lib.hid (HW3.out.keep hb4)
  clear hck hsa hb4 HW3
  have hnew : (w4.alloc (.cells zero3 34)).heap[w4.heap.size]? = some (.cells zero3 34 (0, 0)) := heap_alloc_new _ _
  have hszn : (Tryd.prog.info? 34).map (·.size) = some zero3.size := by kernel_rfl
  have honen : zero3.all (·.oneCell') = true := by simp [Value.oneCell']
  go_upto_region 6 with (refine wpList_store_row rfl 34 (.tmp 6) (.tmp 19) rfl w4.heap.size _ rfl rfl 34 zero3 hnew hszn rfl honen ?_)
  obtain ⟨w5, hw5, hg6, hb5⟩ := sh_box w4 zero3 zero3 34
  show Code.wp _ _ _ _ ((w4.alloc (.cells zero3 34)).setRow w4.heap.size zero3)
  rw [← hw5]
  obtain ⟨g6, hgg6⟩ : ∃ g, g = w4.heap.size := ⟨_, rfl⟩
  rw [← hgg6] at hg6
  rw [← hgg6]
  have HG6 := Lib.hid (show w.heap.size ≤ g6 ∧ gs < g6 from ⟨by have := HW4.out.b.size; omega, by have := HW4.out.a.lt; omega⟩)
  have HW5 := Lib.hid (HW4.out.keep hb5)
  clear hnew hszn honen hw5 hgg6 hb5 HW4
  by_cases hb0 : bad = 0
  case neg =>
    have HT := Lib.hid (show shV (ofT s id) = zero3 ∧ ofE s id = bad ∧ leftT s id = 0 ∧ isT s id = false from by
      have h0 : chkS s ≠ 0 := by rw [← HBad.out]; exact hb0
      have he : ofE s id = bad := by unfold ofE; rw [if_pos h0, HBad.out]
      have hne : ¬ ofE s id = 0 := by rw [he]; exact hb0
      refine ⟨by unfold ofT; rw [if_neg hne]; rfl, he, by unfold leftT; rw [if_neg hne], ?_⟩
      unfold isT; rw [decide_eq_false h0]; rfl)
    have d0 : (bad == 0) = false := by simp [hb0]
    have HWT := HW5
    clear HW5 HBad hb0
    have hof := E.of_ s O L cs id w5 (HWT.out.reads HR.out) HLs.out.1 HLs.out.2 HI.out HWT.out.b
    rw [HT.out.1, HT.out.2.1] at hof
    have hsa := HWT.out.a
    go_wp2_with (refine load_wantS (by rfl) (.tmp 2) rfl gs rfl cs hsa hcs ?_)
    refine hof.mono ?_
    rintro en wA ⟨rfl, hbA⟩
    have HWA := Lib.hid (HWT.out.keep hbA)
    have hg6A := (hbA.block g6 (Array.getElem?_eq_some_iff.1 hg6).1).trans hg6
    have hnew : (wA.alloc (.cells zero3 38)).heap[wA.heap.size]? = some (.cells zero3 38 (0, 0)) := heap_alloc_new _ _
    have hszn : (Tryd.prog.info? 38).map (·.size) = some (zero3).size := by kernel_rfl
    have honen : (zero3).all (·.oneCell') = true := by simp [Value.oneCell']
    clear hof hsa hbA hg6
    go_upto_region 13 with (refine wpList_store_row rfl 38 (.tmp 9) (.tmp 50) rfl wA.heap.size _ rfl rfl 38 zero3 hnew hszn rfl honen ?_)
    obtain ⟨wB, hwB, hg9, hbB⟩ := sh_box wA zero3 (zero3) 38
    show Code.wp _ _ _ _ ((wA.alloc (.cells zero3 38)).setRow wA.heap.size (zero3))
    rw [← hwB]
    obtain ⟨g9, hgg9⟩ : ∃ g, g = wA.heap.size := ⟨_, rfl⟩
    rw [← hgg9] at hg9
    rw [← hgg9]
    have HWB := Lib.hid (HWA.out.keep hbB)
    have hg6B := (hbB.block g6 (Array.getElem?_eq_some_iff.1 hg6A).1).trans hg6A
    clear hnew hwB hgg9 HWA hbB hg6A honen
    have hlf := E.left s O L cs id wB (HWB.out.reads HR.out) HLs.out.1 HLs.out.2 HI.out HWB.out.b
    rw [HT.out.2.2.1, HT.out.2.1] at hlf
    have hsa := HWB.out.a
    go_wp2_with (refine load_wantS (by rfl) (.tmp 2) rfl gs rfl cs hsa hcs ?_)
    refine hlf.mono ?_
    rintro en wC ⟨rfl, hbC⟩
    have HWC := Lib.hid (HWB.out.keep hbC)
    have hg6C := (hbC.block g6 (Array.getElem?_eq_some_iff.1 hg6B).1).trans hg6B
    have hg9C := (hbC.block g9 (Array.getElem?_eq_some_iff.1 hg9).1).trans hg9
    have hs6 : (Tryd.prog.info? 34).map (·.size) = some (zero3).size := by kernel_rfl
    clear hlf hsa hbC hg6B hg9
    go_wp2_with (first
      | (refine wpList_load_row rfl 38 (.tmp 9) rfl g9 rfl 38 _ (0, 0) _ hg9C Tryd.underlying38 rfl hszn ?_)
      | (refine wpList_load_row rfl 34 (.tmp 6) rfl g6 rfl 34 _ (0, 0) _ hg6C Tryd.underlying34 rfl hs6 ?_))
    refine (num_by bad wC).mono ?_
    rintro en wC' ⟨rfl, rfl⟩
    go_wp2_with fail
    refine (num_by bad wC).mono ?_
    rintro en wC' ⟨rfl, rfl⟩
    have his := E.is_ s O L cs id wC (HWC.out.reads HR.out) HLs.out.1 HLs.out.2 HI.out HWC.out.b
    rw [HT.out.2.2.2] at his
    have hsa := HWC.out.a
    go_wp2_with (refine load_wantS (by rfl) (.tmp 2) rfl gs rfl cs hsa hcs ?_)
    refine his.mono ?_
    rintro en wD ⟨rfl, hbD⟩
    have HF := Lib.hid (keepB hbD HWC.out.b)
    clear his hsa hbD
    go_wp2_with fail
    go_ret
    exact ⟨rfl, HF.out⟩
  subst hb0
  have hic := isRef_any s O L cs id w5 (HW5.out.reads HR.out) HLm.out.1
  obtain ⟨q, hq⟩ : ∃ q, q = isB s id := ⟨_, rfl⟩
  rw [← hq] at hic
  have HQ := Lib.hid hq
  have hsa := HW5.out.a
  clear hq
  go_wp2_with (refine load_wantS (by rfl) (.tmp 2) rfl gs rfl cs hsa hcs ?_)
  refine hic.mono ?_
  rintro en w6 ⟨rfl, hb6⟩
  have HW6 := Lib.hid (HW5.out.keep hb6)
  have hg66 := (hb6.block g6 (Array.getElem?_eq_some_iff.1 hg6).1).trans hg6
  clear hic hsa hb6 HW5 hg6
  cases q with
  | false =>
    have HT := Lib.hid (show shV (ofT s id) = zero3 ∧ ofE s id = 4 ∧ leftT s id = 0 ∧ isT s id = false from by
      have he : ofE s id = 4 := by unfold ofE; rw [if_neg (by rw [← HBad.out]; simp), if_neg (by rw [← HQ.out]; simp)]
      have hne : ¬ ofE s id = 0 := by rw [he]; decide
      refine ⟨by unfold ofT; rw [if_neg hne]; rfl, he, by unfold leftT; rw [if_neg hne], ?_⟩
      unfold isT; rw [← HQ.out, Bool.and_false])
    have HWT := HW6
    have hg6 := hg66
    clear HW6 HBad HQ hg66
    have hof := E.of_ s O L cs id w6 (HWT.out.reads HR.out) HLs.out.1 HLs.out.2 HI.out HWT.out.b
    rw [HT.out.1, HT.out.2.1] at hof
    have hsa := HWT.out.a
    go_wp2_with (refine load_wantS (by rfl) (.tmp 2) rfl gs rfl cs hsa hcs ?_)
    refine hof.mono ?_
    rintro en wA ⟨rfl, hbA⟩
    have HWA := Lib.hid (HWT.out.keep hbA)
    have hg6A := (hbA.block g6 (Array.getElem?_eq_some_iff.1 hg6).1).trans hg6
    have hnew : (wA.alloc (.cells zero3 38)).heap[wA.heap.size]? = some (.cells zero3 38 (0, 0)) := heap_alloc_new _ _
    have hszn : (Tryd.prog.info? 38).map (·.size) = some (zero3).size := by kernel_rfl
    have honen : (zero3).all (·.oneCell') = true := by simp [Value.oneCell']
    clear hof hsa hbA hg6
    go_upto_region 13 with (refine wpList_store_row rfl 38 (.tmp 9) (.tmp 50) rfl wA.heap.size _ rfl rfl 38 zero3 hnew hszn rfl honen ?_)
    obtain ⟨wB, hwB, hg9, hbB⟩ := sh_box wA zero3 (zero3) 38
    show Code.wp _ _ _ _ ((wA.alloc (.cells zero3 38)).setRow wA.heap.size (zero3))
    rw [← hwB]
    obtain ⟨g9, hgg9⟩ : ∃ g, g = wA.heap.size := ⟨_, rfl⟩
    rw [← hgg9] at hg9
    rw [← hgg9]
    have HWB := Lib.hid (HWA.out.keep hbB)
    have hg6B := (hbB.block g6 (Array.getElem?_eq_some_iff.1 hg6A).1).trans hg6A
    clear hnew hwB hgg9 HWA hbB hg6A honen
    have hlf := E.left s O L cs id wB (HWB.out.reads HR.out) HLs.out.1 HLs.out.2 HI.out HWB.out.b
    rw [HT.out.2.2.1, HT.out.2.1] at hlf
    have hsa := HWB.out.a
    go_wp2_with (refine load_wantS (by rfl) (.tmp 2) rfl gs rfl cs hsa hcs ?_)
    refine hlf.mono ?_
    rintro en wC ⟨rfl, hbC⟩
    have HWC := Lib.hid (HWB.out.keep hbC)
    have hg6C := (hbC.block g6 (Array.getElem?_eq_some_iff.1 hg6B).1).trans hg6B
    have hg9C := (hbC.block g9 (Array.getElem?_eq_some_iff.1 hg9).1).trans hg9
    have hs6 : (Tryd.prog.info? 34).map (·.size) = some (zero3).size := by kernel_rfl
    clear hlf hsa hbC hg6B hg9
    go_wp2_with (first
      | (refine wpList_load_row rfl 38 (.tmp 9) rfl g9 rfl 38 _ (0, 0) _ hg9C Tryd.underlying38 rfl hszn ?_)
      | (refine wpList_load_row rfl 34 (.tmp 6) rfl g6 rfl 34 _ (0, 0) _ hg6C Tryd.underlying34 rfl hs6 ?_))
    refine (num_by 4 wC).mono ?_
    rintro en wC' ⟨rfl, rfl⟩
    go_wp2_with fail
    refine (num_by 4 wC).mono ?_
    rintro en wC' ⟨rfl, rfl⟩
    have his := E.is_ s O L cs id wC (HWC.out.reads HR.out) HLs.out.1 HLs.out.2 HI.out HWC.out.b
    rw [HT.out.2.2.2] at his
    have hsa := HWC.out.a
    go_wp2_with (refine load_wantS (by rfl) (.tmp 2) rfl gs rfl cs hsa hcs ?_)
    refine his.mono ?_
    rintro en wD ⟨rfl, hbD⟩
    have HF := Lib.hid (keepB hbD HWC.out.b)
    clear his hsa hbD
    go_wp2_with fail
    go_ret
    exact ⟨rfl, HF.out⟩
  | true =>
    have hin := isB_in HQ.out.symm
    have hbd := ofS_bd HBad.out.symm hin (HLm.out.2 8 (by omega))
    have hnum := right_objS HBad.out.symm hin
    have hofr := ofRef_any s O L cs id w6 (HW6.out.reads HR.out) (HLm.out.2 8 (by omega)) (fun x hx => right_in HBad.out.symm (z := 8) (by omega) hx) hin HLm.out.1 hnum.2.2
    obtain ⟨v1, hv1⟩ : ∃ v, v = (ofS s id).1 := ⟨_, rfl⟩
    obtain ⟨v2, hv2⟩ : ∃ v, v = (ofS s id).2.1 := ⟨_, rfl⟩
    obtain ⟨v3, hv3⟩ : ∃ v : Int, v = (((ofS s id).2.2 : Nat) : Int) := ⟨_, rfl⟩
    have hsv : shV (ofS s id) = #[.int .i64 v1, .int .i64 v2, .int .i64 v3] := by unfold shV; rw [hv1, hv2, hv3]
    rw [hsv] at hofr
    obtain ⟨k, o, rfl, hk, ho, hos⟩ := hin.ob
    obtain ⟨l, hl⟩ : ∃ l, l = v2 - o 6 := ⟨_, rfl⟩
    have HT := Lib.hid (show shV (ofT s (k : Int)) = #[.int .i64 v1, .int .i64 v2, .int .i64 v3] ∧ ofE s (k : Int) = 0 ∧ leftT s (k : Int) = l ∧ isT s (k : Int) = true from by
      have he : ofE s (k : Int) = 0 := by unfold ofE; rw [if_neg (by rw [← HBad.out]; simp), if_pos HQ.out.symm]
      refine ⟨by unfold ofT; rw [if_pos he, hsv], he, by unfold leftT; rw [if_pos he, hl, hv2, hos], ofE_0.1 he⟩)
    rw [hos] at hnum
    rw [← hv2] at hbd
    have hwl : IntKind.i64.wrap (v2 - o 6) = l := by rw [hl]; exact i64_in (by omega) (by omega)
    have hcs0 : cs[0]? = some (.slice O.A O.n O.c) := by rw [HR.out.cs]; exact stC_objs _ _ _ _
    have hOn := HR.out.on
    obtain ⟨b, off, hA, hbw, hra⟩ : ∃ b off, O.A = some ⟨b, off, none⟩ ∧ b < w.heap.size ∧ ∀ j, j < 18 → w.cell? ⟨b, off + k * 18 + j, none⟩ = some (.int .i64 (o j)) := obj_num HR.out.o ho
    rw [hOn, hA] at hcs0
    have h6 := hra 6 (by omega)
    obtain ⟨v6, hv6⟩ : ∃ v, v = o 6 := ⟨_, rfl⟩
    rw [← hv6] at h6 hwl
    have hszn : (Tryd.prog.info? 34).map (·.size) = some (#[Value.int .i64 v1, .int .i64 v2, .int .i64 v3] : Array Value).size := by kernel_rfl
    have honen : (#[Value.int .i64 v1, .int .i64 v2, .int .i64 v3] : Array Value).all (·.oneCell') = true := by simp [Value.oneCell']
    have hsa := HW6.out.a
    clear hv1 hv2 hv3 hsv hbd hnum hra hos ho hA hOn hl hv6 hin
    go_wp2_with (refine load_wantS (by rfl) (.tmp 2) rfl gs rfl cs hsa hcs ?_)
    refine hofr.mono ?_
    rintro en w7 ⟨rfl, hb7⟩
    have hg67 := (hb7.block g6 (Array.getElem?_eq_some_iff.1 hg66).1).trans hg66
    have HW7 := Lib.hid (HW6.out.keep hb7)
    clear hofr hsa hb7 HW6 hg66
    go_upto_region 11 with (refine wpList_store_row rfl 34 (.tmp 6) (.tmp 36) rfl g6 _ rfl rfl 34 zero3 hg67 hszn rfl honen ?_)
    have HW8 := Lib.hid (show SW w gs cs (w7.setRow g6 #[.int .i64 v1, .int .i64 v2, .int .i64 v3]) from ⟨below_setRow HW7.out.b g6 _ HG6.out.1, (setRow_other w7 g6 gs _ (by have := HG6.out.2; omega)).trans HW7.out.a⟩)
    have hg68 : (w7.setRow g6 #[.int .i64 v1, .int .i64 v2, .int .i64 v3]).heap[g6]? = some (.cells #[.int .i64 v1, .int .i64 v2, .int .i64 v3] 34 (0, 0)) := setRow_heap _ _ _ _ _ _ hg67
    obtain ⟨w8, hw8⟩ : ∃ W, W = w7.setRow g6 #[.int .i64 v1, .int .i64 v2, .int .i64 v3] := ⟨_, rfl⟩
    rw [← hw8] at HW8 hg68
    show Code.wp _ _ _ _ (w7.setRow g6 #[.int .i64 v1, .int .i64 v2, .int .i64 v3])
    rw [← hw8]
    clear hw8 hg67 HW7 hszn honen
    have k0 : ∀ W, Below w8.heap.size w8 W → W.cell? ⟨gs, 0, none⟩ = some (.slice (some ⟨b, off, none⟩) s.objs.length O.c) := fun W hW => by rw [(HW8.out.a.keep hW).cell]; exact hcs0
    have k1 : ∀ W, Below w8.heap.size w8 W → W.cell? ⟨g6, 1, none⟩ = some (.int .i64 v2) := fun W hW => by
      have h := (hW.block g6 (Array.getElem?_eq_some_iff.1 hg68).1).trans hg68
      rw [cell_of_row W g6 1 _ _ _ h]; rfl
    have k6 : ∀ W, Below w8.heap.size w8 W → W.cell? ⟨b, off + k * 18 + 6, none⟩ = some (.int .i64 v6) := fun W hW => ((keepB hW HW8.out.b).cell (show (⟨b, off + k * 18 + 6, none⟩ : Addr).block < w.heap.size from hbw)).trans h6
    have p0 : (0 : Int) ≤ (k : Int) := by omega
    have p1 : (k : Int) < (s.objs.length : Int) := by omega
    refine region_below (by kernel_rfl) (fun hHeld => ?_)
    refine wpAnyH_take (i := 0) (v := ?_) rfl (by kernel_rfl) (by kernel_rfl) (by kernel_rfl) (fun _ _ _ h => h) (Or.inl ⟨by rfl, ?_⟩) hHeld ?_
    rotate_left
    · (intro w hSw; go_simp; (try with_reducible rfl))
    simp only [Act.put, List.getElem_toArray, List.getElem_cons_zero, List.getElem_cons_succ, List.setIfInBounds_toArray, List.set_cons_zero, List.set_cons_succ]
    refine wpAnyH_take (i := 1) (v := ?_) rfl (by kernel_rfl) (by kernel_rfl) (by kernel_rfl) (fun _ _ _ h => h) (Or.inl ⟨by rfl, ?_⟩) hHeld ?_
    rotate_left
    · (intro w hSw; go_simp; (try with_reducible rfl))
    simp only [Act.put, List.getElem_toArray, List.getElem_cons_zero, List.getElem_cons_succ, List.setIfInBounds_toArray, List.set_cons_zero, List.set_cons_succ]
    refine wpAnyH_take (i := 2) (v := ?_) rfl (by kernel_rfl) (by kernel_rfl) (by kernel_rfl) (fun _ _ _ h => h) (Or.inl ⟨by rfl, ?_⟩) hHeld ?_
    rotate_left
    · (intro w hSw; go_simp; (try with_reducible rfl))
    simp only [Act.put, List.getElem_toArray, List.getElem_cons_zero, List.getElem_cons_succ, List.setIfInBounds_toArray, List.set_cons_zero, List.set_cons_succ]
    refine wpAnyH_take (i := 3) (v := ?_) rfl (by kernel_rfl) (by kernel_rfl) (by kernel_rfl) (fun _ _ _ h => h) (Or.inl ⟨by rfl, ?_⟩) hHeld ?_
    rotate_left
    · (intro w hSw; go_simp; (try with_reducible rfl))
    simp only [Act.put, List.getElem_toArray, List.getElem_cons_zero, List.getElem_cons_succ, List.setIfInBounds_toArray, List.set_cons_zero, List.set_cons_succ]
    refine wpAnyH_take (i := 4) (v := ?_) rfl (by kernel_rfl) (by kernel_rfl) (by kernel_rfl) (fun _ _ _ h => h) (Or.inl ⟨by rfl, ?_⟩) hHeld ?_
    rotate_left
    · (intro w hSw; go_simp; (try with_reducible rfl))
    simp only [Act.put, List.getElem_toArray, List.getElem_cons_zero, List.getElem_cons_succ, List.setIfInBounds_toArray, List.set_cons_zero, List.set_cons_succ]
    refine wpAnyH_take (i := 5) (v := ?_) rfl (by kernel_rfl) (by kernel_rfl) (by kernel_rfl) (fun _ _ _ h => h) (Or.inl ⟨by rfl, ?_⟩) hHeld ?_
    rotate_left
    · (intro w hSw; go_simp; (try with_reducible rfl))
    simp only [Act.put, List.getElem_toArray, List.getElem_cons_zero, List.getElem_cons_succ, List.setIfInBounds_toArray, List.set_cons_zero, List.set_cons_succ]
    refine wpAnyH_take (i := 6) (v := ?_) rfl (by kernel_rfl) (by kernel_rfl) (by kernel_rfl) (fun _ _ _ h => h) (Or.inl ⟨by rfl, ?_⟩) hHeld ?_
    rotate_left
    · (intro w hSw; go_simp; (try with_reducible rfl))
    simp only [Act.put, List.getElem_toArray, List.getElem_cons_zero, List.getElem_cons_succ, List.setIfInBounds_toArray, List.set_cons_zero, List.set_cons_succ]
    refine wpAnyH_take (i := 7) (v := ?_) rfl (by kernel_rfl) (by kernel_rfl) (by kernel_rfl) (fun _ _ _ h => h) (Or.inl ⟨by rfl, ?_⟩) hHeld ?_
    rotate_left
    · (intro w hSw; go_simp; (try with_reducible rfl))
    simp only [Act.put, List.getElem_toArray, List.getElem_cons_zero, List.getElem_cons_succ, List.setIfInBounds_toArray, List.set_cons_zero, List.set_cons_succ]
    refine wpAnyH_take (i := 8) (v := ?_) rfl (by kernel_rfl) (by kernel_rfl) (by kernel_rfl) (fun _ _ _ h => h) (Or.inl ⟨by rfl, ?_⟩) hHeld ?_
    rotate_left
    · (intro w hSw; go_simp; (try with_reducible rfl))
    simp only [Act.put, List.getElem_toArray, List.getElem_cons_zero, List.getElem_cons_succ, List.setIfInBounds_toArray, List.set_cons_zero, List.set_cons_succ]
    refine wpAnyH_take (i := 9) (v := ?_) rfl (by kernel_rfl) (by kernel_rfl) (by kernel_rfl) (fun _ _ _ h => h) (Or.inl ⟨by rfl, ?_⟩) hHeld ?_
    rotate_left
    · (intro w hSw; go_simp; (try with_reducible rfl))
    simp only [Act.put, List.getElem_toArray, List.getElem_cons_zero, List.getElem_cons_succ, List.setIfInBounds_toArray, List.set_cons_zero, List.set_cons_succ]
    refine wpAnyH_done (by kernel_rfl) ?_ _
    have HWT := Lib.hid (HW8.out.keep hHeld)
    have hg6 := (hHeld.block g6 (Array.getElem?_eq_some_iff.1 hg68).1).trans hg68
    clear k0 k1 k6 p0 p1 hHeld hg68 HW8 hwl h6 hbw hcs0 hk HBad HQ
    generalize w8.drew = w9 at HWT hg6 ⊢
    have HI := Lib.hid (show N64 (k : Int) from HI.out)
    have hof := E.of_ s O L cs (k : Int) w9 (HWT.out.reads HR.out) HLs.out.1 HLs.out.2 HI.out HWT.out.b
    rw [HT.out.1, HT.out.2.1] at hof
    have hsa := HWT.out.a
    go_wp2_with (refine load_wantS (by rfl) (.tmp 2) rfl gs rfl cs hsa hcs ?_)
    refine hof.mono ?_
    rintro en wA ⟨rfl, hbA⟩
    have HWA := Lib.hid (HWT.out.keep hbA)
    have hg6A := (hbA.block g6 (Array.getElem?_eq_some_iff.1 hg6).1).trans hg6
    have hnew : (wA.alloc (.cells zero3 38)).heap[wA.heap.size]? = some (.cells zero3 38 (0, 0)) := heap_alloc_new _ _
    have hszn : (Tryd.prog.info? 38).map (·.size) = some ((#[Value.int .i64 v1, .int .i64 v2, .int .i64 v3] : Array Value)).size := by kernel_rfl
    have honen : ((#[Value.int .i64 v1, .int .i64 v2, .int .i64 v3] : Array Value)).all (·.oneCell') = true := by simp [Value.oneCell']
    clear hof hsa hbA hg6
    go_upto_region 13 with (refine wpList_store_row rfl 38 (.tmp 9) (.tmp 50) rfl wA.heap.size _ rfl rfl 38 zero3 hnew hszn rfl honen ?_)
    obtain ⟨wB, hwB, hg9, hbB⟩ := sh_box wA zero3 ((#[Value.int .i64 v1, .int .i64 v2, .int .i64 v3] : Array Value)) 38
    show Code.wp _ _ _ _ ((wA.alloc (.cells zero3 38)).setRow wA.heap.size ((#[Value.int .i64 v1, .int .i64 v2, .int .i64 v3] : Array Value)))
    rw [← hwB]
    obtain ⟨g9, hgg9⟩ : ∃ g, g = wA.heap.size := ⟨_, rfl⟩
    rw [← hgg9] at hg9
    rw [← hgg9]
    have HWB := Lib.hid (HWA.out.keep hbB)
    have hg6B := (hbB.block g6 (Array.getElem?_eq_some_iff.1 hg6A).1).trans hg6A
    clear hnew hwB hgg9 HWA hbB hg6A honen
    have hlf := E.left s O L cs (k : Int) wB (HWB.out.reads HR.out) HLs.out.1 HLs.out.2 HI.out HWB.out.b
    rw [HT.out.2.2.1, HT.out.2.1] at hlf
    have hsa := HWB.out.a
    go_wp2_with (refine load_wantS (by rfl) (.tmp 2) rfl gs rfl cs hsa hcs ?_)
    refine hlf.mono ?_
    rintro en wC ⟨rfl, hbC⟩
    have HWC := Lib.hid (HWB.out.keep hbC)
    have hg6C := (hbC.block g6 (Array.getElem?_eq_some_iff.1 hg6B).1).trans hg6B
    have hg9C := (hbC.block g9 (Array.getElem?_eq_some_iff.1 hg9).1).trans hg9
    have hs6 : (Tryd.prog.info? 34).map (·.size) = some ((#[Value.int .i64 v1, .int .i64 v2, .int .i64 v3] : Array Value)).size := by kernel_rfl
    clear hlf hsa hbC hg6B hg9
    go_wp2_with (first
      | (refine wpList_load_row rfl 38 (.tmp 9) rfl g9 rfl 38 _ (0, 0) _ hg9C Tryd.underlying38 rfl hszn ?_)
      | (refine wpList_load_row rfl 34 (.tmp 6) rfl g6 rfl 34 _ (0, 0) _ hg6C Tryd.underlying34 rfl hs6 ?_))
    refine (num_by 0 wC).mono ?_
    rintro en wC' ⟨rfl, rfl⟩
    go_wp2_with fail
    refine (num_by 0 wC).mono ?_
    rintro en wC' ⟨rfl, rfl⟩
    have his := E.is_ s O L cs (k : Int) wC (HWC.out.reads HR.out) HLs.out.1 HLs.out.2 HI.out HWC.out.b
    rw [HT.out.2.2.2] at his
    have hsa := HWC.out.a
    go_wp2_with (refine load_wantS (by rfl) (.tmp 2) rfl gs rfl cs hsa hcs ?_)
    refine his.mono ?_
    rintro en wD ⟨rfl, hbD⟩
    have HF := Lib.hid (keepB hbD HWC.out.b)
    clear his hsa hbD
    go_wp2_with fail
    go_ret
    exact ⟨rfl, HF.out⟩
end Go.Proofs.YtplfblccaeligaaDoor
