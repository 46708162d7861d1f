/- Layer 17: the law ShapePlain. -/
import Derived.Test.YtplfblccaeligaaDoorShG4
import Derived.Test.YtplfblccaeligaaDoorShG7
import Derived.Test.YtplfblccaeligaaDoorShPlM
import Derived.Test.YtplfblccaeligaaDoorShRef7
namespace Go.Proofs.YtplfblccaeligaaDoor
open Go.RowKit Ex Mx
set_option maxRecDepth 100000
set_option linter.unusedSimpArgs false in
set_option maxHeartbeats 0 in
theorem shapePlain_walk {w : World} (E : ShSaid w) (s : StT) (O : SlT) (L : Nat → SlT) (cs : Array Value) (hR : ReadsS w.heap.size w cs s O L) :
    Calls Tryd.prog 5 #[.agg cs] w fun en w' => en = .returned (.bool true) ∧ Below w.heap.size w w' := by
  have hcs := hR.size
  have HR := Lib.hid hR
  clear hR
  go_enter Tryd.func5, Tryd.ntmps5
  go_upto_region 1 with fail
  obtain ⟨w1, hw1⟩ : ∃ w1, w1 = w.alloc (.cells cs 29) := ⟨_, rfl⟩
  obtain ⟨gs, hgs⟩ : ∃ g, g = w.heap.size := ⟨_, rfl⟩
  have HW := Lib.hid (show SW w gs cs w1 from by
    rw [hw1, hgs]
    exact ⟨(Below.refl _ _).alloc (Nat.le_refl _) _, StAt.new w cs⟩)
  show Code.wp _ _ _ _ (w.alloc (.cells cs 29))
  rw [← hw1, ← hgs]
  have HGs := Lib.hid hgs
  clear hw1 hgs
  go_wp2_with fail
  refine (shAlive E w1 HW.out.b).mono ?_
  rintro en w2 ⟨rfl, hb2⟩
  have HW2 := Lib.hid (HW.out.keep hb2)
  have hsa := HW2.out.a
  clear HW hb2
  go_wp2_with (refine load_wantS (by rfl) (.tmp 1) rfl gs rfl cs hsa hcs ?_)
  have hl := long_any s O L cs 60 w2 w2.heap.size (HW2.out.reads HR.out) (by omega)
  rw [show ((60 : Nat) : Int) = 60 from rfl] at hl
  refine hl.mono ?_
  clear hl hsa
  rintro en w3 ⟨rfl, hb3⟩
  have HW3 := Lib.hid (HW2.out.keep hb3)
  clear HW2 hb3
  by_cases hlg : longS s 60 = true
  · have hbw := HW3.out.b
    rw [hlg]
    go_wp2_with fail
    go_ret
    exact ⟨rfl, hbw⟩
  replace hlg : longS s 60 = false := by simpa using hlg
  obtain ⟨hn, hll⟩ := long_not (most := 60) hlg
  rw [hlg]
  have HNl := Lib.hid (And.intro hn hll)
  clear hlg hn hll
  have HLs := Lib.hid (show s.objs.length ≤ 1000 ∧ ∀ z < 11, (s.lists z).length ≤ 1000 from ⟨by have := HNl.out.1; omega, fun z hz => by have := HNl.out.2 z hz; omega⟩)
  have HLm := Lib.hid (show s.objs.length ≤ 1000000 ∧ ∀ z < 11, (s.lists z).length ≤ 1000000 from ⟨by have := HNl.out.1; omega, fun z hz => by have := HNl.out.2 z hz; omega⟩)
  obtain ⟨bad, hbad⟩ : ∃ b, b = chkS s := ⟨_, rfl⟩
  have hck := st_checkRef_any s O L cs w3 w3.heap.size (HW3.out.reads HR.out) (Nat.le_refl _) HLm.out.1 HLm.out.2
  rw [← hbad] at hck
  have HBad := Lib.hid hbad
  have hsa := HW3.out.a
  clear hbad
  go_wp2_with (refine load_wantS (by rfl) (.tmp 1) rfl gs rfl cs hsa hcs ?_)
  refine hck.mono ?_
  rintro en w4 ⟨rfl, hb4⟩
  have HW4 := Lib.hid (HW3.out.keep hb4)
  clear hck hsa hb4 HW3
  by_cases hb0 : bad = 0
  case neg =>
    have d0 : (bad != 0) = true := by simp [hb0]
    have hbw := HW4.out.b
    clear hb0
    go_wp2_with fail
    go_ret
    exact ⟨rfl, hbw⟩
  subst hb0
  have HC0 := Lib.hid HBad.out.symm
  have hst := E.statics s O L cs w4 (HW4.out.reads HR.out) HLs.out.1 HLs.out.2 HW4.out.b
  rw [show statT s = (statS s).length from if_pos HC0.out] at hst
  obtain ⟨ns, hns⟩ : ∃ n, n = (statS s).length := ⟨_, rfl⟩
  rw [← hns] at hst
  have hsa := HW4.out.a
  clear HBad
  go_wp2_with (refine load_wantS (by rfl) (.tmp 1) rfl gs rfl cs hsa hcs ?_)
  refine hst.mono ?_
  rintro en w5 ⟨rfl, hb5⟩
  have HW5 := Lib.hid (HW4.out.keep hb5)
  clear hst hsa hb5 HW4
  by_cases hn0 : ns = 0
  case neg =>
    have d0 : ((ns : Int) != 0) = true := by simp; omega
    have hbw := HW5.out.b
    clear hn0
    go_wp2_with fail
    go_ret
    exact ⟨rfl, hbw⟩
  subst hn0
  have HS0 := Lib.hid (show statS s = [] from List.length_eq_zero_iff.1 hns.symm)
  have c0 : cs[0]? = some (.slice O.A O.n O.c) := by rw [HR.out.cs]; exact stC_objs _ _ _ _
  have hOn := HR.out.on
  obtain ⟨A, n, c⟩ := O
  simp only at c0 hOn
  subst hOn
  have cg : w5.cell? ⟨gs, 0, none⟩ = some (.slice A s.objs.length c) := by rw [HW5.out.a.cell]; exact c0
  clear hns c0
  go_upto_region 7 with fail
  have HN := Lib.hid (show s.objs.length ≤ 60 from HNl.out.1)
  go_loopw [3, 27] (fun v i wr => ∃ (k : Nat), v = .int .i64 ((cntB (isB s) k : Nat) : Int) ∧ i = .int .i64 ((k : Nat) : Int) ∧ k ≤ s.objs.length ∧ Hid (SW w gs cs wr)) (fun _ i _ => s.objs.length - (intOf i).toNat)
  case atStart => exact ⟨0, rfl, rfl, by omega, HW5⟩
  case round =>
    clear HW5 cg
    obtain ⟨k, rfl, rfl, hk, HW1⟩ := hrel
    obtain ⟨mn, hmn⟩ : ∃ m, m = cntB (isB s) k := ⟨_, rfl⟩
    rw [← hmn]
    have HMn := Lib.hid hmn
    have hmk : mn ≤ 60 := by have h1 := cntB_le (isB s) k; have h2 := HN.out; omega
    clear hmn
    by_cases hlt : k < s.objs.length
    · obtain ⟨o, ho⟩ : ∃ o, s.objs[k]? = some o := ⟨_, List.getElem?_eq_getElem hlt⟩
      obtain ⟨b, off, ea, hbl, hra⟩ := HR.out.o k o ho
      simp only at ea
      subst ea
      have HRa := Lib.hid (range_below HW1.out.b hbl hra)
      have HO := Lib.hid ho
      have p0 : (0 : Int) ≤ (k : Int) := by omega
      have p1 : (k : Int) < (s.objs.length : Int) := by omega
      have p2 : (k : Int) ≤ 60 := by have := HN.out; omega
      have HK := Lib.hid (show N64 (k : Int) from ⟨by omega, by omega⟩)
      have hz := st_zero18
      have hnew : (wr.alloc (.cells (arr .i64 18 fun _ => 0) 37)).heap[wr.heap.size]? = some (.cells (arr .i64 18 fun _ => 0) 37 (0, 0)) := heap_alloc_new _ _
      have hsx : (Tryd.prog.info? 37).map (·.size) = some (arr .i64 18 o).size := by rw [arr_size]; exact st_size18
      clear ho hra hbl
      go_upto_region 9 with (first
        | (refine load_obj rfl (.tmp 30) rfl b (off + k * 18) rfl o HRa.out ?_)
        | (refine wpList_store_row rfl 37 (.tmp 5) (.tmp 31) rfl wr.heap.size _ rfl rfl 37 (arr .i64 18 fun _ => 0) hnew hsx (by rw [arr_size, arr_size]) (arr_one .i64 18 o) ?_))
      obtain ⟨w6, hw6, hO6, hb6⟩ := ob_box wr o
      rw [← hw6]
      obtain ⟨g5, hg5⟩ : ∃ g, g = wr.heap.size := ⟨_, rfl⟩
      rw [← hg5] at hO6 ⊢
      have HW6 := Lib.hid (HW1.out.keep hb6)
      clear hw6 hg5 hnew hsx hz hb6 HW1 HRa
      obtain ⟨q, hq⟩ : ∃ q, q = isB s (k : Int) := ⟨_, rfl⟩
      have his := E.is_ s _ L cs (k : Int) w6 (HW6.out.reads HR.out) HLs.out.1 HLs.out.2 HK.out HW6.out.b
      rw [show isT s (k : Int) = q from by unfold isT; rw [decide_eq_true HC0.out, Bool.true_and, hq]] at his
      have HQ := Lib.hid hq
      have hsa := HW6.out.a
      clear hq
      go_wp2_with (refine load_wantS (by rfl) (.tmp 1) rfl gs rfl cs hsa hcs ?_)
      refine his.mono ?_
      rintro en w7 ⟨rfl, hb7⟩
      have HW7 := Lib.hid (HW6.out.keep hb7)
      have hO7 := ArrAt.keep (show ArrAt .i64 18 37 w6 g5 o from hO6) hb7
      clear his hsa hb7 HW6 hO6
      cases q with
      | false =>
        have HM2 := Lib.hid (show cntB (isB s) (k + 1) = mn from by rw [cntB_succ, ← HQ.out, ← HMn.out]; rfl)
        clear hO7
        go_wp2_with fail
        go_roundw
        case rel => exact ⟨k + 1, by rw [HM2.out], by go_num, by omega, HW7⟩
        case measure => simp [intOf]; omega
      | true =>
        have HM2 := Lib.hid (show cntB (isB s) (k + 1) = mn + 1 from by rw [cntB_succ, ← HQ.out, ← HMn.out]; rfl)
        have hcd : cdS s (k : Int) = tblX (o 0) := by unfold cdS; rw [objS_at HO.out]
        have hwm : IntKind.i64.wrap ((mn : Int) + 1) = ((mn + 1 : Nat) : Int) := by rw [i64_in (by omega) (by omega)]; rfl
        have c50 := hO7.cell (i := 0) (by omega)
        have hcr := cardRef_any (o 0) w7
        go_wp2_with fail
        refine hcr.mono ?_
        rintro en w8 ⟨ys, rfl, hq8, hb8⟩
        have h13 := cq_size hq8
        have hone := cq_one hq8
        obtain ⟨y, hy⟩ : ∃ y, y = cdS s (k : Int) := ⟨_, rfl⟩
        have HC8 := Lib.hid (show ∃ A k cc, ys = cardC y A k cc from by obtain ⟨_, _, _, _, _, _, A, cc, e, _⟩ := hq8; exact ⟨A, _, cc, by rw [hy, hcd]; exact e⟩)
        have HW8 := Lib.hid (HW7.out.keep hb8)
        have hO8 := hO7.keep hb8
        have hnew : (w8.alloc (.cells zeroD 55)).heap[w8.heap.size]? = some (.cells zeroD 55 (0, 0)) := heap_alloc_new _ _
        have hsz : (Tryd.prog.info? 55).map (·.size) = some ys.size := by rw [h13]; exact size13
        have hs0 : zeroD.size = ys.size := by rw [h13]; rfl
        have HYd := Lib.hid hy
        clear hcr hq8 hb8 hO7 HW7 c50 hy hcd h13
        go_upto_region 12 with (refine wpList_store_row rfl 55 (.tmp 6) (.tmp 42) rfl w8.heap.size _ rfl rfl 55 zeroD hnew hsz hs0 hone ?_)
        obtain ⟨w9, hw9, hc6, hb9⟩ := sh_box w8 zeroD ys 55
        show Code.wp _ _ _ _ ((w8.alloc (.cells zeroD 55)).setRow w8.heap.size ys)
        rw [← hw9]
        obtain ⟨g6, hg6⟩ : ∃ g, g = w8.heap.size := ⟨_, rfl⟩
        rw [← hg6] at hc6
        rw [← hg6]
        have HW9 := Lib.hid (HW8.out.keep hb9)
        have hO9 := hO8.keep hb9
        clear hnew hsz hs0 hone hw9 hg6 hb9 hO8 HW8
        obtain ⟨v1, hv1⟩ : ∃ v, v = (ofS s (k : Int)).1 := ⟨_, rfl⟩
        obtain ⟨v2, hv2⟩ : ∃ v, v = (ofS s (k : Int)).2.1 := ⟨_, rfl⟩
        obtain ⟨v3, hv3⟩ : ∃ v : Int, v = (((ofS s (k : Int)).2.2 : Nat) : Int) := ⟨_, rfl⟩
        have hsv : shV (ofS s (k : Int)) = #[.int .i64 v1, .int .i64 v2, .int .i64 v3] := by unfold shV; rw [hv1, hv2, hv3]
        have he : ofE s (k : Int) = 0 := ofE_0.2 (by unfold isT; rw [decide_eq_true HC0.out, Bool.true_and, HQ.out])
        have hof := E.of_ s _ L cs (k : Int) w9 (HW9.out.reads HR.out) HLs.out.1 HLs.out.2 HK.out HW9.out.b
        rw [show ofT s (k : Int) = ofS s (k : Int) from if_pos he, he, errV_nil, hsv] at hof
        rw [ofS_plain HS0.out, ← HYd.out, objS_at HO.out] at hv1 hv2 hv3
        simp only at hv1 hv2 hv3
        obtain ⟨_, _, b7, b7', b8, b8', b9, b9', b10, b10'⟩ := right_nums HC0.out HO.out
        have hpt := cdS_pt s (k : Int)
        have hsay := cdS_says s (k : Int)
        rw [← HYd.out] at hpt hsay
        have hor : bits .or .i64 y.says (o 10) = v3 := by
          rw [hv3, turnW_or (by omega) (by omega), ← or_small (by omega) (by omega), Int.toNat_of_nonneg hsay.1, Int.toNat_of_nonneg b10]
        obtain ⟨a1, ha1⟩ : ∃ a, a = y.power + o 7 := ⟨_, rfl⟩
        obtain ⟨a2, ha2⟩ : ∃ a, a = y.tough + o 7 := ⟨_, rfl⟩
        have hw1 : IntKind.i64.wrap (y.power + o 7) = a1 := by rw [ha1]; exact i64_in (by omega) (by omega)
        have hw2 : IntKind.i64.wrap (a1 + o 8) = v1 := by rw [hv1, ha1]; exact i64_in (by omega) (by omega)
        have hw3 : IntKind.i64.wrap (y.tough + o 7) = a2 := by rw [ha2]; exact i64_in (by omega) (by omega)
        have hw4 : IntKind.i64.wrap (a2 + o 9) = v2 := by rw [hv2, ha2]; exact i64_in (by omega) (by omega)
        clear hv1 hv2 hv3 ha1 ha2 hsv he b7 b7' b8 b8' b9 b9' b10 b10' hpt hsay
        have hsa := HW9.out.a
        go_wp2_with (refine load_wantS (by rfl) (.tmp 1) rfl gs rfl cs hsa hcs ?_)
        refine hof.mono ?_
        rintro en wA ⟨rfl, hbA⟩
        have HWA := Lib.hid (HW9.out.keep hbA)
        have hOA := hO9.keep hbA
        have hcA := (hbA.block g6 (Array.getElem?_eq_some_iff.1 hc6).1).trans hc6
        have hnew : (wA.alloc (.cells zero3 38)).heap[wA.heap.size]? = some (.cells zero3 38 (0, 0)) := heap_alloc_new _ _
        have hszn : (Tryd.prog.info? 38).map (·.size) = some (#[Value.int .i64 v1, .int .i64 v2, .int .i64 v3] : Array Value).size := by kernel_rfl
        have honen : (#[Value.int .i64 v1, .int .i64 v2, .int .i64 v3] : Array Value).all (·.oneCell') = true := by simp [Value.oneCell']
        clear hof hsa hbA hc6 hO9 HW9
        go_upto_region 13 with (refine wpList_store_row rfl 38 (.tmp 8) (.tmp 48) rfl wA.heap.size _ rfl rfl 38 zero3 hnew hszn rfl honen ?_)
        obtain ⟨wB, hwB, hg8, hbB⟩ := sh_box wA zero3 #[Value.int .i64 v1, .int .i64 v2, .int .i64 v3] 38
        show Code.wp _ _ _ _ ((wA.alloc (.cells zero3 38)).setRow wA.heap.size #[Value.int .i64 v1, .int .i64 v2, .int .i64 v3])
        rw [← hwB]
        obtain ⟨g8, hgg8⟩ : ∃ g, g = wA.heap.size := ⟨_, rfl⟩
        rw [← hgg8] at hg8
        rw [← hgg8]
        have HWB := Lib.hid (HWA.out.keep hbB)
        have hOB := hOA.keep hbB
        have hcB := (hbB.block g6 (Array.getElem?_eq_some_iff.1 hcA).1).trans hcA
        have e0 : wB.cell? ⟨g8, 0, none⟩ = some (.int .i64 v1) := by rw [cell_of_row wB g8 0 _ _ _ hg8]; rfl
        have e1 : wB.cell? ⟨g8, 1, none⟩ = some (.int .i64 v2) := by rw [cell_of_row wB g8 1 _ _ _ hg8]; rfl
        have e2 : wB.cell? ⟨g8, 2, none⟩ = some (.int .i64 v3) := by rw [cell_of_row wB g8 2 _ _ _ hg8]; rfl
        have f9 : wB.cell? ⟨g6, 9, none⟩ = some (.int .i64 y.power) ∧ wB.cell? ⟨g6, 10, none⟩ = some (.int .i64 y.tough) ∧ wB.cell? ⟨g6, 11, none⟩ = some (.int .i64 y.says) := by
          obtain ⟨A5, k5, c5, e5⟩ := HC8.out
          rw [cell_of_row wB g6 9 _ _ _ hcB, cell_of_row wB g6 10 _ _ _ hcB, cell_of_row wB g6 11 _ _ _ hcB, e5]
          unfold cardC
          rw [arr6]
          exact ⟨rfl, rfl, rfl⟩
        obtain ⟨f9, f10, f11⟩ := f9
        have o7 := hOB.cell (i := 7) (by omega)
        have o8 := hOB.cell (i := 8) (by omega)
        have o9 := hOB.cell (i := 9) (by omega)
        have o10 := hOB.cell (i := 10) (by omega)
        have n1 : (v1 != v1) = false := bne_self_eq_false _
        have n2 : (v2 != v2) = false := bne_self_eq_false _
        have n3 : (v3 != v3) = false := bne_self_eq_false _
        clear hnew hszn honen hwB hgg8 hbB hOA hcA hOB hcB hg8 HWA HC8 HYd
        go_wp2_with fail
        go_roundw
        case rel => exact ⟨k + 1, by rw [HM2.out, Int.natCast_add]; rfl, by go_num, by omega, HWB⟩
        case measure => simp [intOf]; omega
    · obtain rfl : k = s.objs.length := by omega
      have hall : mn = (beastS s 0).length + (beastS s 1).length := by rw [HMn.out]; exact beasts_all HC0.out
      have d0 : decide ((s.objs.length : Int) < (s.objs.length : Int)) = false := by simp
      have hl1 : (beastS s 0).length ≤ 60 ∧ (beastS s 1).length ≤ 60 := by omega
      obtain ⟨bl0, hb0⟩ : ∃ b, b = (beastS s 0).length := ⟨_, rfl⟩
      obtain ⟨bl1, hb1⟩ : ∃ b, b = (beastS s 1).length := ⟨_, rfl⟩
      rw [← hb0, ← hb1] at hall hl1
      have HBL0 := Lib.hid hb0.symm
      have HBL1 := Lib.hid hb1.symm
      have hwl : IntKind.i64.wrap ((bl0 : Int) + (bl1 : Int)) = (mn : Int) := by rw [i64_in (by omega) (by omega)]; omega
      clear hall HMn hb0 hb1
      go_upto_region 16 with fail
      refine wp_region_held_drew (S := fun W => SW w gs cs W) (by kernel_rfl) (show SW w gs cs wr.drew from HW1.out.keep (Below.refl _ _).drew) (fun hHeld => ?_)
      clear HW1
      refine wpAnyH_take (i := 0) (v := ?_) rfl (by kernel_rfl) (by kernel_rfl) (by kernel_rfl) (fun _ _ _ h => h) (Or.inl ⟨by rfl, ?_⟩) hHeld ?_
      rotate_left
      · (intro w hSw; go_simp; (try with_reducible rfl))
      simp only [Act.put, List.getElem_toArray, List.getElem_cons_zero, List.getElem_cons_succ, List.setIfInBounds_toArray, List.set_cons_zero, List.set_cons_succ]
      refine wpAnyH_take (i := 1) (v := .agg cs) rfl (by kernel_rfl) (by kernel_rfl) (by kernel_rfl) (fun _ _ _ h => h) (yields_st (by rfl) (.tmp 1) rfl gs rfl cs hcs (fun W hW => SW.a hW)) hHeld ?_
      simp only [Act.put, List.getElem_toArray, List.getElem_cons_zero, List.getElem_cons_succ, List.setIfInBounds_toArray, List.set_cons_zero, List.set_cons_succ]
      refine wpAnyH_take (i := 4) (v := .agg cs) rfl (by kernel_rfl) (by kernel_rfl) (by kernel_rfl) (fun _ _ _ h => h) (yields_st (by rfl) (.tmp 1) rfl gs rfl cs hcs (fun W hW => SW.a hW)) hHeld ?_
      simp only [Act.put, List.getElem_toArray, List.getElem_cons_zero, List.getElem_cons_succ, List.setIfInBounds_toArray, List.set_cons_zero, List.set_cons_succ]
      refine wpAnyH_ready (rs := [2]) (by kernel_rfl) (by simp) ?_
      refine AllReadyH.cons rfl (fun K hK => ?_) AllReadyH.nil
      simp only [List.getElem_toArray, List.getElem_cons_zero, List.getElem_cons_succ]
      go_simp
      have hbe := E.beasts s _ L cs 0 _ (hHeld.reads HR.out) HLs.out.1 HLs.out.2 (by unfold N64; omega) hHeld.b
      unfold ShIP at hbe
      rw [show beastT s 0 = beastS s 0 from if_pos HC0.out] at hbe
      refine hbe.mono ?_
      clear hbe
      rintro en wB ⟨A1, n1, c1, rfl, hc1, hN1, hbB⟩
      go_wp2_with fail
      have hHeld := hHeld.keep hbB
      obtain rfl : n1 = bl0 := hN1.len.symm.trans HBL0.out
      clear hbB hN1 hc1
      refine hK.out _ _ hHeld (fun _ => ?_)
      clear hK K
      try simp only [Act.put, List.setIfInBounds_toArray, List.set_cons_zero, List.set_cons_succ]
      refine wpAnyH_take (i := 3) (v := ?_) rfl (by kernel_rfl) (by kernel_rfl) (by kernel_rfl) (fun _ _ _ h => h) (Or.inl ⟨by rfl, ?_⟩) hHeld ?_
      rotate_left
      · (intro w hSw; go_simp; (try with_reducible rfl))
      simp only [Act.put, List.getElem_toArray, List.getElem_cons_zero, List.getElem_cons_succ, List.setIfInBounds_toArray, List.set_cons_zero, List.set_cons_succ]
      refine wpAnyH_ready (rs := [5]) (by kernel_rfl) (by simp) ?_
      refine AllReadyH.cons rfl (fun K hK => ?_) AllReadyH.nil
      simp only [List.getElem_toArray, List.getElem_cons_zero, List.getElem_cons_succ]
      go_simp
      have hbe := E.beasts s _ L cs 1 _ (hHeld.reads HR.out) HLs.out.1 HLs.out.2 (by unfold N64; omega) hHeld.b
      unfold ShIP at hbe
      rw [show beastT s 1 = beastS s 1 from if_pos HC0.out] at hbe
      refine hbe.mono ?_
      clear hbe
      rintro en wB ⟨A1, n1, c1, rfl, hc1, hN1, hbB⟩
      go_wp2_with fail
      have hHeld := hHeld.keep hbB
      obtain rfl : n1 = bl1 := hN1.len.symm.trans HBL1.out
      clear hbB hN1 hc1
      refine hK.out _ _ hHeld (fun _ => ?_)
      clear hK K
      try simp only [Act.put, List.setIfInBounds_toArray, List.set_cons_zero, List.set_cons_succ]
      refine wpAnyH_take (i := 6) (v := ?_) rfl (by kernel_rfl) (by kernel_rfl) (by kernel_rfl) (fun _ _ _ h => h) (Or.inl ⟨by rfl, ?_⟩) hHeld ?_
      rotate_left
      · (intro w hSw; go_simp; (try with_reducible rfl))
      simp only [Act.put, List.getElem_toArray, List.getElem_cons_zero, List.getElem_cons_succ, List.setIfInBounds_toArray, List.set_cons_zero, List.set_cons_succ]
      refine wpAnyH_take (i := 7) (v := ?_) rfl (by kernel_rfl) (by kernel_rfl) (by kernel_rfl) (fun _ _ _ h => h) (Or.inl ⟨by rfl, ?_⟩) hHeld ?_
      rotate_left
      · (intro w hSw; go_simp; (try with_reducible rfl))
      simp only [Act.put, List.getElem_toArray, List.getElem_cons_zero, List.getElem_cons_succ, List.setIfInBounds_toArray, List.set_cons_zero, List.set_cons_succ]
      refine wpAnyH_take (i := 8) (v := ?_) rfl (by kernel_rfl) (by kernel_rfl) (by kernel_rfl) (fun _ _ _ h => h) (Or.inl ⟨by rfl, ?_⟩) hHeld ?_
      rotate_left
      · (intro w hSw; go_simp; (try with_reducible rfl))
      simp only [Act.put, List.getElem_toArray, List.getElem_cons_zero, List.getElem_cons_succ, List.setIfInBounds_toArray, List.set_cons_zero, List.set_cons_succ]
      refine wpAnyH_take (i := 9) (v := ?_) rfl (by kernel_rfl) (by kernel_rfl) (by kernel_rfl) (fun _ _ _ h => h) (Or.inl ⟨by rfl, ?_⟩) hHeld ?_
      rotate_left
      · (intro w hSw; go_simp; (try with_reducible rfl))
      simp only [Act.put, List.getElem_toArray, List.getElem_cons_zero, List.getElem_cons_succ, List.setIfInBounds_toArray, List.set_cons_zero, List.set_cons_succ]
      refine wpAnyH_done (by kernel_rfl) ?_ _
      have HF := Lib.hid hHeld.b
      clear hHeld
      go_wp2_with fail
      go_ret
      exact ⟨rfl, HF.out⟩
end Go.Proofs.YtplfblccaeligaaDoor
