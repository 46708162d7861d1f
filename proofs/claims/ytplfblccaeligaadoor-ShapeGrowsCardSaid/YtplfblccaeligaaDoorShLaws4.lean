/- Layer 17: the law ShapeGrows. -/
import Derived.Test.YtplfblccaeligaaDoorShG4
import Derived.Test.YtplfblccaeligaaDoorShG7
import Derived.Test.YtplfblccaeligaaDoorShGrM
import Derived.Test.YtplfblccaeligaaDoorShRef7
import Derived.Test.YtplfblccaeligaaDoorEvCopy
import Derived.Test.YtplfblccaeligaaDoorOwnSc
import Derived.Test.YtplfblccaeligaaDoorShG2
namespace Go.Proofs.YtplfblccaeligaaDoor
open Go.RowKit Ex Mx
set_option maxRecDepth 100000
/-- A box that holds a state. -/
structure BG (g : Nat) (cs : Array Value) (s : StT) (O : SlT) (L : Nat → SlT) (W : World) : Prop where
  a : StAt W g cs
  r : ReadsS W.heap.size W cs s O L
theorem BG.keep {g : Nat} {cs : Array Value} {s : StT} {O : SlT} {L : Nat → SlT} {W W' : World} (h : BG g cs s O L W) (hb : Below W.heap.size W W') : BG g cs s O L W' := ⟨h.a.keep hb, h.r.grow hb⟩
set_option linter.unusedSimpArgs false in
set_option maxHeartbeats 0 in
theorem shapeGrows_walk {w : World} (E : ShSaid w) (s : StT) (O : SlT) (L : Nat → SlT) (cs : Array Value) (id : Int) (hR : ReadsS w.heap.size w cs s O L) (hid : N64 id) :
    Calls Tryd.prog 6 #[.agg cs, .int .i64 id] w fun en w' => en = .returned (.bool true) ∧ Below w.heap.size w w' := by
  have hcs := hR.size
  have HR := Lib.hid hR
  have HI := Lib.hid hid
  clear hR hid
  go_enter Tryd.func6, Tryd.ntmps6
  go_upto_region 1 with fail
  obtain ⟨w1, hw1⟩ : ∃ w1, w1 = w.alloc (.cells cs 29) := ⟨_, rfl⟩
  obtain ⟨gs, hgs⟩ : ∃ g, g = w.heap.size := ⟨_, rfl⟩
  have HW := Lib.hid (show SW w gs cs w1 from by
    rw [hw1, hgs]
    exact ⟨(Below.refl _ _).alloc (Nat.le_refl _) _, StAt.new w cs⟩)
  show Code.wp _ _ _ _ (w.alloc (.cells cs 29))
  rw [← hw1, ← hgs]
  have HGs := Lib.hid hgs
  clear hw1 hgs
  go_wp2_with fail
  refine (shAlive E w1 HW.out.b).mono ?_
  rintro en w2 ⟨rfl, hb2⟩
  have HW2 := Lib.hid (HW.out.keep hb2)
  have hsa := HW2.out.a
  clear HW hb2
  go_wp2_with (refine load_wantS (by rfl) (.tmp 2) rfl gs rfl cs hsa hcs ?_)
  have hl := long_any s O L cs 60 w2 w2.heap.size (HW2.out.reads HR.out) (by omega)
  rw [show ((60 : Nat) : Int) = 60 from rfl] at hl
  refine hl.mono ?_
  clear hl hsa
  rintro en w3 ⟨rfl, hb3⟩
  have HW3 := Lib.hid (HW2.out.keep hb3)
  clear HW2 hb3
  by_cases hlg : longS s 60 = true
  · have hbw := HW3.out.b
    rw [hlg]
    go_wp2_with fail
    go_ret
    exact ⟨rfl, hbw⟩
  replace hlg : longS s 60 = false := by simpa using hlg
  obtain ⟨hn, hll⟩ := long_not (most := 60) hlg
  rw [hlg]
  have HNl := Lib.hid (And.intro hn hll)
  clear hlg hn hll
  have HLs := Lib.hid (show s.objs.length ≤ 1000 ∧ ∀ z < 11, (s.lists z).length ≤ 1000 from ⟨by have := HNl.out.1; omega, fun z hz => by have := HNl.out.2 z hz; omega⟩)
  have HLm := Lib.hid (show s.objs.length ≤ 1000000 ∧ ∀ z < 11, (s.lists z).length ≤ 1000000 from ⟨by have := HNl.out.1; omega, fun z hz => by have := HNl.out.2 z hz; omega⟩)
  obtain ⟨q, hq⟩ : ∃ q, q = isT s id := ⟨_, rfl⟩
  have his := E.is_ s O L cs id w3 (HW3.out.reads HR.out) HLs.out.1 HLs.out.2 HI.out HW3.out.b
  rw [← hq] at his
  have hsa := HW3.out.a
  go_wp2_with (refine load_wantS (by rfl) (.tmp 2) rfl gs rfl cs hsa hcs ?_)
  refine his.mono ?_
  rintro en w4 ⟨rfl, hb4⟩
  have HW4 := Lib.hid (HW3.out.keep hb4)
  clear his hsa hb4 HW3
  cases q with
  | false =>
    have hbw := HW4.out.b
    clear hq
    go_wp2_with fail
    go_ret
    exact ⟨rfl, hbw⟩
  | true =>
  have hpr : chkS s = 0 ∧ isB s id = true := by
    unfold isT at hq
    have h := hq.symm
    simp only [Bool.and_eq_true, decide_eq_true_eq] at h
    exact h
  have HC0 := Lib.hid hpr.1
  have HIB := Lib.hid hpr.2
  have hin := isB_in' hpr.2
  obtain ⟨k, o, rfl, hk, ho, hos⟩ := hin.ob
  have HO := Lib.hid ho
  have h38 : o 3 = 8 := by
    have h := hpr.2
    unfold isB at h
    simp only [Bool.and_eq_true, decide_eq_true_eq, beq_iff_eq] at h
    rw [← hos]; exact h.1.2
  have H38 := Lib.hid h38
  have hnum := right_nums HC0.out ho
  have c0 : cs[0]? = some (.slice O.A O.n O.c) := by rw [HR.out.cs]; exact stC_objs _ _ _ _
  have hOn := HR.out.on
  obtain ⟨b, off, hA, hbw, hra⟩ := obj_num HR.out.o ho
  obtain ⟨A, n, c⟩ := O
  simp only at c0 hOn hA
  subst hOn hA
  obtain ⟨x7, hx7⟩ : ∃ x, x = o 7 := ⟨_, rfl⟩
  have h7 := hra 7 (by omega)
  rw [← hx7] at h7
  have k0 : w4.cell? ⟨gs, 0, none⟩ = some (.slice (some ⟨b, off, none⟩) s.objs.length c) := by rw [HW4.out.a.cell]; exact c0
  have k7 : w4.cell? ⟨b, off + k * 18 + 7, none⟩ = some (.int .i64 x7) := (HW4.out.b.cell (show (⟨b, off + k * 18 + 7, none⟩ : Addr).block < w.heap.size from hbw)).trans h7
  have p0 : (0 : Int) ≤ (k : Int) := by omega
  have p1 : (k : Int) < (s.objs.length : Int) := by omega
  have HX7 := Lib.hid (show x7 = o 7 ∧ 0 ≤ x7 from ⟨hx7, by omega⟩)
  clear hq hpr hin ho hos h38 hnum hra h7 hbw hx7
  by_cases h1000 : 1000 < x7
  · have d0 : decide (1000 < x7) = true := decide_eq_true h1000
    have hbw := HW4.out.b
    clear h1000
    go_wp2_with fail
    go_ret
    exact ⟨rfl, hbw⟩
  have d0 : decide (1000 < x7) = false := decide_eq_false h1000
  have HTR := Lib.hid (grow_right HC0.out HO.out H38.out (by rw [← HX7.out.1]; omega))
  have H1000 := Lib.hid h1000
  have hcp := numCopy_own s _ L cs w4 (HW4.out.reads HR.out) HLm.out.1 HLm.out.2
  have hsa := HW4.out.a
  clear h1000
  go_wp2_with (refine load_wantS (by rfl) (.tmp 2) rfl gs rfl cs hsa hcs ?_)
  refine hcp.mono ?_
  rintro en w5 ⟨cC, rfl, OC, LC, hcC, hoC, hb5⟩
  have HW5 := Lib.hid (HW4.out.keep hb5)
  clear hcp hsa k0 k7 d0
  have hz := st0_is
  have hnew : (w5.alloc (.cells st0 29)).heap[w5.heap.size]? = some (.cells st0 29 (0, 0)) := heap_alloc_new _ _
  have hsz : (Tryd.prog.info? 29).map (·.size) = some cC.size := by rw [hcC, stC_size]; exact size37
  have hs0 : st0.size = cC.size := by rw [hcC, stC_size]; exact stC_size _ _ _ _
  have hone : cC.all (·.oneCell') = true := by rw [hcC]; exact stC_one _ _ _ _
  have HcC := Lib.hid hcC
  clear hcC
  go_upto_region 6 with (refine wpList_store_row rfl 29 (.tmp 5) (.tmp 31) rfl w5.heap.size _ rfl rfl 29 st0 hnew hsz hs0 hone ?_)
  clear hnew hsz hs0 hone hz
  obtain ⟨w6, hw6, ha6, hb6⟩ := box_new w5 cC
  rw [← hw6]
  obtain ⟨gt, hgt⟩ : ∃ g, g = w5.heap.size := ⟨_, rfl⟩
  rw [← hgt] at ha6
  rw [← hgt]
  have HW6 := Lib.hid (HW5.out.keep hb6)
  have hw4 := HW4.out.b.size
  have ho6 := (hoC.below hb6).low hw4
  obtain ⟨gb, hgb⟩ := ho6.form (show 0 < s.objs.length by omega)
  obtain ⟨AC, nC, cC'⟩ := OC
  simp only at hgb
  subst hgb
  have hnC : nC = s.objs.length := ho6.on
  subst hnC
  have ho6' : OwnS w6 w.heap.size ⟨s.objs, s.lists, s.pl, s.gm⟩ ⟨some ⟨gb, 0, none⟩, s.objs.length, cC'⟩ LC := ho6
  have hkl : k < s.objs.length := hk
  obtain ⟨hc7, hf7, hgbw⟩ := ho6'.at_ (i := k) (j := 7) hkl (by omega)
  have hat : s.objs[k] = o := by
    have h := HO.out
    rw [List.getElem?_eq_getElem hkl] at h
    exact Option.some.inj h
  rw [hat, ← HX7.out.1] at hc7
  have HOS := Lib.hid ho6'
  have hnb := ho6'.box ha6
  have hnb2 := ho6'.box HW6.out.a
  have HNb := Lib.hid (And.intro hnb hnb2)
  have HGW := Lib.hid hgbw
  have hC0 : cC[0]? = some (.slice (some ⟨gb, 0, none⟩) s.objs.length cC') := by rw [HcC.out]; exact stC_objs _ _ _ _
  obtain ⟨y7, hy7⟩ : ∃ y, y = x7 + 1 := ⟨_, rfl⟩
  have hwy : IntKind.i64.wrap (x7 + 1) = y7 := by have h1 := HX7.out.2; have h2 := H1000.out; rw [hy7]; exact i64_in (by omega) (by omega)
  have HY7 := Lib.hid hy7
  have HA6 := Lib.hid ha6
  clear hw6 hgt hb6 hb5 hoC ho6 ho6' HW4 HW5 hw4 hgbw hat hnb hnb2 hy7 ha6
  have ct : ∀ W, (SW w gs cs W ∧ StAt W gt cC) → W.cell? ⟨gt, 0, none⟩ = some (.slice (some ⟨gb, 0, none⟩) s.objs.length cC') := fun W hW => by rw [hW.2.cell]; exact hC0
  refine wp_region_held_drew (S := fun W => SW w gs cs W ∧ StAt W gt cC) (by kernel_rfl) (show SW w gs cs w6.drew ∧ StAt w6.drew gt cC from ⟨HW6.out.keep (Below.refl _ _).drew, HA6.out⟩) (fun hHeld => ?_)
  have hc7d : w6.drew.cell? ⟨gb, k * 18 + 7, none⟩ = some (.int .i64 x7) := by simpa using hc7
  have hf7d : w6.drew.frozen? ⟨gb, k * 18 + 7, none⟩ = false := by simpa using hf7
  have HOSd := Lib.hid (HOS.out.below (Below.refl w6.heap.size w6).drew)
  clear hc7 hf7 HOS HW6 HA6
  generalize w6.drew = w7 at hHeld hc7d hf7d HOSd ⊢
  refine wpAnyH_take (i := 0) (v := ?_) rfl (by kernel_rfl) (by kernel_rfl) (by kernel_rfl) (fun _ _ _ h => h) (Or.inl ⟨by rfl, ?_⟩) hHeld ?_
  rotate_left
  · (intro w hSw; go_simp; (try with_reducible rfl))
  simp only [Act.put, List.getElem_toArray, List.getElem_cons_zero, List.getElem_cons_succ, List.setIfInBounds_toArray, List.set_cons_zero, List.set_cons_succ]
  refine wpAnyH_take (i := 1) (v := ?_) rfl (by kernel_rfl) (by kernel_rfl) (by kernel_rfl) (fun _ _ _ h => h) (Or.inl ⟨by rfl, ?_⟩) hHeld ?_
  rotate_left
  · (intro w hSw; go_simp; (try with_reducible rfl))
  simp only [Act.put, List.getElem_toArray, List.getElem_cons_zero, List.getElem_cons_succ, List.setIfInBounds_toArray, List.set_cons_zero, List.set_cons_succ]
  refine wpAnyH_take (i := 2) (v := ?_) rfl (by kernel_rfl) (by kernel_rfl) (by kernel_rfl) (fun _ _ _ h => h) (Or.inl ⟨by rfl, ?_⟩) hHeld ?_
  rotate_left
  · (intro w hSw; go_simp; (try with_reducible rfl))
  simp only [Act.put, List.getElem_toArray, List.getElem_cons_zero, List.getElem_cons_succ, List.setIfInBounds_toArray, List.set_cons_zero, List.set_cons_succ]
  refine wpAnyH_take (i := 3) (v := ?_) rfl (by kernel_rfl) (by kernel_rfl) (by kernel_rfl) (fun _ _ _ h => h) (Or.inl ⟨by rfl, ?_⟩) hHeld ?_
  rotate_left
  · (intro w hSw; go_simp; (try with_reducible rfl))
  simp only [Act.put, List.getElem_toArray, List.getElem_cons_zero, List.getElem_cons_succ, List.setIfInBounds_toArray, List.set_cons_zero, List.set_cons_succ]
  refine wpAnyH_take (i := 4) (v := ?_) rfl (by kernel_rfl) (by kernel_rfl) (by kernel_rfl) (fun _ _ _ h => h) (Or.inl ⟨by rfl, ?_⟩) hHeld ?_
  rotate_left
  · (intro w hSw; go_simp; (try with_reducible rfl))
  simp only [Act.put, List.getElem_toArray, List.getElem_cons_zero, List.getElem_cons_succ, List.setIfInBounds_toArray, List.set_cons_zero, List.set_cons_succ]
  refine wpAnyH_take (i := 7) (v := ?_) rfl (by kernel_rfl) (by kernel_rfl) (by kernel_rfl) (fun _ _ _ h => h) (Or.inl ⟨by rfl, ?_⟩) hHeld ?_
  rotate_left
  · (intro w hSw; go_simp; (try with_reducible rfl))
  simp only [Act.put, List.getElem_toArray, List.getElem_cons_zero, List.getElem_cons_succ, List.setIfInBounds_toArray, List.set_cons_zero, List.set_cons_succ]
  refine wpAnyH_ready (rs := [5]) (by kernel_rfl) (by simp) ?_
  refine AllReadyH.cons rfl (fun K hK => ?_) AllReadyH.nil
  simp only [List.getElem_toArray, List.getElem_cons_zero, List.getElem_cons_succ]
  go_simp
  refine hK.out _ _ hHeld (fun _ => ?_)
  clear hK K
  try simp only [Act.put, List.setIfInBounds_toArray, List.set_cons_zero, List.set_cons_succ]
  refine wpAnyH_take (i := 6) (v := ?_) rfl (by kernel_rfl) (by kernel_rfl) (by kernel_rfl) (fun _ _ _ h => h) (Or.inl ⟨by rfl, ?_⟩) hHeld ?_
  rotate_left
  · (intro w hSw; go_simp; (try with_reducible rfl))
  simp only [Act.put, List.getElem_toArray, List.getElem_cons_zero, List.getElem_cons_succ, List.setIfInBounds_toArray, List.set_cons_zero, List.set_cons_succ]
  refine wpAnyH_take (i := 8) (v := ?_) rfl (by kernel_rfl) (by kernel_rfl) (by kernel_rfl) (fun _ _ _ h => h) (Or.inl ⟨by rfl, ?_⟩) hHeld ?_
  rotate_left
  · (intro w hSw; go_simp; (try with_reducible rfl))
  simp only [Act.put, List.getElem_toArray, List.getElem_cons_zero, List.getElem_cons_succ, List.setIfInBounds_toArray, List.set_cons_zero, List.set_cons_succ]
  refine wpAnyH_ready (rs := [9]) (by kernel_rfl) (by simp) ?_
  refine AllReadyH.cons rfl (fun K hK => ?_) AllReadyH.nil
  simp only [List.getElem_toArray, List.getElem_cons_zero, List.getElem_cons_succ]
  go_simp
  have hHeld2 : SW w gs cs (w7.setCell ⟨gb, k * 18 + 7, none⟩ (.int .i64 y7)) ∧ StAt (w7.setCell ⟨gb, k * 18 + 7, none⟩ (.int .i64 y7)) gt cC :=
    ⟨⟨hHeld.1.b.setCell (by simpa using HGW.out) _, (heap_setCell_other w7 ⟨gb, k * 18 + 7, none⟩ gs _ (by simpa using HNb.out.2)).trans hHeld.1.a⟩, (heap_setCell_other w7 ⟨gb, k * 18 + 7, none⟩ gt _ (by simpa using HNb.out.1)).trans hHeld.2⟩
  refine hK.out _ _ hHeld2 (fun _ => ?_)
  clear hK K
  try simp only [Act.put, List.setIfInBounds_toArray, List.set_cons_zero, List.set_cons_succ]
  refine wpAnyH_done (by kernel_rfl) ?_ _
  have hos8 := HOSd.out.setc (i := k) (j := 7) hkl (by omega) y7
  have HBG0 := Lib.hid (show SW w gs cs (w7.setCell ⟨gb, k * 18 + 7, none⟩ (.int .i64 y7)) ∧ BG gt cC (growS s k o) ⟨some ⟨gb, 0, none⟩, s.objs.length, cC'⟩ LC (w7.setCell ⟨gb, k * 18 + 7, none⟩ (.int .i64 y7)) from by
    refine ⟨hHeld2.1, hHeld2.2, ?_⟩
    rw [HY7.out, HX7.out.1, setO_grow HO.out, ← HX7.out.1, ← HY7.out] at hos8
    rw [HcC.out]
    refine OwnS.reads hos8 (fun x hx i hi => ?_) HR.out.lw HR.out.pw HR.out.gw
    rcases List.mem_or_eq_of_mem_set hx with hx | rfl
    · exact HR.out.ow x hx i hi
    · by_cases e : i = 7
      · subst e
        have h1 := HX7.out
        have h2 := H1000.out
        rw [growO_7, ← h1.1]
        exact ⟨by omega, by omega⟩
      · rw [growO_ne e]; exact HR.out.ow o (List.mem_of_getElem? HO.out) i hi)
  have hcC : cC.size = 37 := by rw [HcC.out]; exact stC_size _ _ _ _
  have HTL := Lib.hid (show (growS s k o).objs.length ≤ 1000 ∧ ∀ z < 11, ((growS s k o).lists z).length ≤ 1000 from ⟨by show (s.objs.set k _).length ≤ 1000; rw [List.length_set]; exact HLs.out.1, HLs.out.2⟩)
  clear hos8 hHeld2 hHeld hc7d hf7d HOSd HY7 hwy hC0 HcC HGW ct p0 p1
  generalize w7.setCell ⟨gb, k * 18 + 7, none⟩ (.int .i64 y7) = w8 at HBG0 ⊢
  have cg : w8.cell? ⟨gs, 0, none⟩ = some (.slice (some ⟨b, off, none⟩) s.objs.length c) := by rw [HBG0.out.1.a.cell]; exact c0
  have HOE := Lib.hid (fun m : Nat => ofT_grow HC0.out HTR.out HO.out HIB.out m)
  have HEE := Lib.hid (fun m : Nat => ofE_grow HC0.out HTR.out HO.out (m : Int))
  go_upto_region 8 with fail
  go_loopw [44] (fun i wr => ∃ m : Nat, i = .int .i64 ((m : Nat) : Int) ∧ m ≤ s.objs.length ∧ Hid (SW w gs cs wr ∧ BG gt cC (growS s k o) ⟨some ⟨gb, 0, none⟩, s.objs.length, cC'⟩ LC wr)) (fun i _ => s.objs.length - (intOf i).toNat)
  case atStart => exact ⟨0, rfl, by omega, HBG0⟩
  case round =>
    clear HBG0 cg
    obtain ⟨m, rfl, hm, HB⟩ := hrel
    by_cases hlt : m < s.objs.length
    · have p2 : (m : Int) ≤ 60 := by have := HNl.out.1; omega
      have HMI := Lib.hid (show N64 (m : Int) from ⟨by omega, by omega⟩)
      obtain ⟨v1, hv1⟩ : ∃ v, v = (ofT s (m : Int)).1 := ⟨_, rfl⟩
      obtain ⟨v2, hv2⟩ : ∃ v, v = (ofT s (m : Int)).2.1 := ⟨_, rfl⟩
      obtain ⟨v3, hv3⟩ : ∃ v : Int, v = (((ofT s (m : Int)).2.2 : Nat) : Int) := ⟨_, rfl⟩
      obtain ⟨e9, he9⟩ : ∃ e, e = ofE s (m : Int) := ⟨_, rfl⟩
      have hsv : shV (ofT s (m : Int)) = #[.int .i64 v1, .int .i64 v2, .int .i64 v3] := by unfold shV; rw [hv1, hv2, hv3]
      have HV := Lib.hid (show v1 = (ofT s (m : Int)).1 ∧ v2 = (ofT s (m : Int)).2.1 ∧ v3 = (((ofT s (m : Int)).2.2 : Nat) : Int) from ⟨hv1, hv2, hv3⟩)
      have hof := E.of_ s _ L cs (m : Int) wr (HB.out.1.reads HR.out) HLs.out.1 HLs.out.2 HMI.out HB.out.1.b
      rw [hsv, ← he9] at hof
      have HE9 := Lib.hid he9
      have hsa := HB.out.1.a
      clear hv1 hv2 hv3 he9 hsv
      go_wp2_with (refine load_wantS (by rfl) (.tmp 2) rfl gs rfl cs hsa hcs ?_)
      refine hof.mono ?_
      rintro en wA ⟨rfl, hbA⟩
      have HBA := Lib.hid (And.intro (HB.out.1.keep hbA) (HB.out.2.keep hbA))
      have HX1 := Lib.hid hbA
      clear hof hsa hbA
      have hnew : (World.alloc wA (.cells zero3 38)).heap[(World.heap wA).size]? = some (.cells zero3 38 (0, 0)) := heap_alloc_new _ _
      have hszn : (Tryd.prog.info? 38).map (·.size) = some ((#[Value.int .i64 v1, .int .i64 v2, .int .i64 v3] : Array Value)).size := by kernel_rfl
      have honen : ((#[Value.int .i64 v1, .int .i64 v2, .int .i64 v3] : Array Value)).all (·.oneCell') = true := by simp [Value.oneCell']
      go_upto_region 11 with (refine wpList_store_row rfl 38 (.tmp 7) (.tmp 51) rfl (World.heap wA).size _ rfl rfl 38 zero3 hnew hszn rfl honen ?_)
      obtain ⟨wB, hwN, hg7, hbB⟩ := sh_box wA zero3 ((#[Value.int .i64 v1, .int .i64 v2, .int .i64 v3] : Array Value)) 38
      show Code.wp _ _ _ _ ((World.alloc wA (.cells zero3 38)).setRow (World.heap wA).size ((#[Value.int .i64 v1, .int .i64 v2, .int .i64 v3] : Array Value)))
      rw [← hwN]
      obtain ⟨g7, hgN⟩ : ∃ g, g = (World.heap wA).size := ⟨_, rfl⟩
      rw [← hgN] at hg7
      rw [← hgN]
      have HGg7 := Lib.hid hgN
      clear hnew hszn honen hwN hgN
      have HBB := Lib.hid (And.intro (HBA.out.1.keep hbB) (HBA.out.2.keep hbB))
      have HL7 := Lib.hid (show wr.heap.size ≤ g7 from by have h := HX1.out.size; have h2 := HGg7.out; omega)
      have HX2 := Lib.hid (keepB hbB HX1.out)
      clear hbB HBA HX1
      obtain ⟨u1, hu1⟩ : ∃ v, v = (ofT (growS s k o) (m : Int)).1 := ⟨_, rfl⟩
      obtain ⟨u2, hu2⟩ : ∃ v, v = (ofT (growS s k o) (m : Int)).2.1 := ⟨_, rfl⟩
      obtain ⟨u3, hu3⟩ : ∃ v : Int, v = (((ofT (growS s k o) (m : Int)).2.2 : Nat) : Int) := ⟨_, rfl⟩
      have hsu : shV (ofT (growS s k o) (m : Int)) = #[.int .i64 u1, .int .i64 u2, .int .i64 u3] := by unfold shV; rw [hu1, hu2, hu3]
      have HUU := Lib.hid (show u1 = (ofT (growS s k o) (m : Int)).1 ∧ u2 = (ofT (growS s k o) (m : Int)).2.1 ∧ u3 = (((ofT (growS s k o) (m : Int)).2.2 : Nat) : Int) from ⟨hu1, hu2, hu3⟩)
      have hof := E.of_ (growS s k o) _ LC cC (m : Int) wB HBB.out.2.r HTL.out.1 HTL.out.2 HMI.out HBB.out.1.b
      rw [hsu, HEE.out m, ← HE9.out] at hof
      have hsa := HBB.out.2.a
      clear hu1 hu2 hu3 hsu
      go_wp2_with (refine load_wantS (by rfl) (.tmp 5) rfl gt rfl cC hsa hcC ?_)
      refine hof.mono ?_
      rintro en wC ⟨rfl, hbC⟩
      have HBC := Lib.hid (And.intro (HBB.out.1.keep hbC) (HBB.out.2.keep hbC))
      have hg7 := (hbC.block g7 (Array.getElem?_eq_some_iff.1 hg7).1).trans hg7
      have HLt := Lib.hid (Array.getElem?_eq_some_iff.1 hg7).1
      have HX3 := Lib.hid (keepB hbC HX2.out)
      clear hof hsa hbC HBB HX2
      have hnew : (World.alloc wC (.cells zero3 38)).heap[(World.heap wC).size]? = some (.cells zero3 38 (0, 0)) := heap_alloc_new _ _
      have hszn : (Tryd.prog.info? 38).map (·.size) = some ((#[Value.int .i64 u1, .int .i64 u2, .int .i64 u3] : Array Value)).size := by kernel_rfl
      have honen : ((#[Value.int .i64 u1, .int .i64 u2, .int .i64 u3] : Array Value)).all (·.oneCell') = true := by simp [Value.oneCell']
      go_upto_region 12 with (refine wpList_store_row rfl 38 (.tmp 9) (.tmp 57) rfl (World.heap wC).size _ rfl rfl 38 zero3 hnew hszn rfl honen ?_)
      obtain ⟨wD, hwN, hg9, hbD⟩ := sh_box wC zero3 ((#[Value.int .i64 u1, .int .i64 u2, .int .i64 u3] : Array Value)) 38
      show Code.wp _ _ _ _ ((World.alloc wC (.cells zero3 38)).setRow (World.heap wC).size ((#[Value.int .i64 u1, .int .i64 u2, .int .i64 u3] : Array Value)))
      rw [← hwN]
      obtain ⟨g9, hgN⟩ : ∃ g, g = (World.heap wC).size := ⟨_, rfl⟩
      rw [← hgN] at hg9
      rw [← hgN]
      have HGg9 := Lib.hid hgN
      clear hnew hszn honen hwN hgN
      have HBD := Lib.hid (And.intro (HBC.out.1.keep hbD) (HBC.out.2.keep hbD))
      have hg7 := (hbD.block g7 (Array.getElem?_eq_some_iff.1 hg7).1).trans hg7
      have HNE := Lib.hid (show g7 ≠ g9 from by have h1 := HGg9.out; have h2 := HLt.out; omega)
      have HX4 := Lib.hid (keepB hbD HX3.out)
      clear hbD HBC HX3 HLt
      by_cases hmk : m = k
      · subst hmk
        have dmk : ((m : Int) == (m : Int)) = true := beq_self_eq_true _
        have he : ofE s (m : Int) = 0 := ofE_0.2 (by unfold isT; rw [HC0.out, HIB.out]; rfl)
        have hbd := ofS_bd HC0.out (isB_in' HIB.out) (HLm.out.2 8 (by omega))
        rw [show ofS s (m : Int) = ofT s (m : Int) from (if_pos he).symm, ← HV.out.1, ← HV.out.2.1] at hbd
        have hU := HOE.out m
        rw [if_pos rfl] at hU
        obtain ⟨hu1, hu2, hu3⟩ : u1 = v1 + 1 ∧ u2 = v2 + 1 ∧ u3 = v3 := by
          obtain ⟨a1, a2, a3⟩ := HUU.out
          obtain ⟨b1, b2, b3⟩ := HV.out
          rw [hU] at a1 a2 a3
          simp only at a1 a2 a3
          exact ⟨by rw [a1, b1], by rw [a2, b2], by rw [a3, b3]⟩
        subst hu3
        have hw1 : IntKind.i64.wrap (v1 + 1) = u1 := by rw [hu1]; exact i64_in (by omega) (by omega)
        have hw2 : IntKind.i64.wrap (v2 + 1) = u2 := by rw [hu2]; exact i64_in (by omega) (by omega)
        have c70 : wD.cell? ⟨g7, 0, none⟩ = some (.int .i64 v1) := by rw [cell_of_row wD g7 0 _ _ _ hg7]; rfl
        have f70 : wD.frozen? ⟨g7, 0, none⟩ = false := frozen_of_row wD g7 0 _ _ hg7
        clear hU HUU HV HE9 he hbd hu1 hu2
        go_upto_region 14 with fail
        have hx5 := HX4.out.setCell (p := ⟨g7, 0, none⟩) (by simpa using HL7.out) (.int .i64 u1)
        have h97 : g9 ≠ g7 := Ne.symm HNE.out
        have h95 : (wD.setCell ⟨g7, 0, none⟩ (.int .i64 u1)).heap[g9]? = some (.cells #[.int .i64 u1, .int .i64 u2, .int .i64 u3] 38 (0, 0)) := (heap_setCell_other wD ⟨g7, 0, none⟩ g9 _ (by simpa using h97)).trans hg9
        have h75 : (wD.setCell ⟨g7, 0, none⟩ (.int .i64 u1)).heap[g7]? = some (.cells #[.int .i64 u1, .int .i64 v2, .int .i64 u3] 38 (0, 0)) := by rw [heap_setCell_same wD g7 0 _ _ _ hg7]; rfl
        clear c70 f70 hg7 hg9 HX4 HBD hw1
        generalize wD.setCell ⟨g7, 0, none⟩ (.int .i64 u1) = wE at hx5 h95 h75 ⊢
        have c71 : wE.cell? ⟨g7, 1, none⟩ = some (.int .i64 v2) := by rw [cell_of_row wE g7 1 _ _ _ h75]; rfl
        have f71 : wE.frozen? ⟨g7, 1, none⟩ = false := frozen_of_row wE g7 1 _ _ h75
        have HX5 := Lib.hid hx5
        clear hx5
        go_upto_region 15 with fail
        have hx6 := HX5.out.setCell (p := ⟨g7, 1, none⟩) (by simpa using HL7.out) (.int .i64 u2)
        have h96 : (wE.setCell ⟨g7, 1, none⟩ (.int .i64 u2)).heap[g9]? = some (.cells #[.int .i64 u1, .int .i64 u2, .int .i64 u3] 38 (0, 0)) := (heap_setCell_other wE ⟨g7, 1, none⟩ g9 _ (by simpa using h97)).trans h95
        have h76 : (wE.setCell ⟨g7, 1, none⟩ (.int .i64 u2)).heap[g7]? = some (.cells #[.int .i64 u1, .int .i64 u2, .int .i64 u3] 38 (0, 0)) := by rw [heap_setCell_same wE g7 1 _ _ _ h75]; rfl
        clear c71 f71 h95 h75 HX5 hw2
        generalize wE.setCell ⟨g7, 1, none⟩ (.int .i64 u2) = wF at hx6 h96 h76 ⊢
        have HBF := Lib.hid (And.intro (HB.out.1.keep hx6) (HB.out.2.keep hx6))
        clear hx6 HB
        have hszn : (Tryd.prog.info? 38).map (·.size) = some ((#[Value.int .i64 u1, .int .i64 u2, .int .i64 u3] : Array Value)).size := by kernel_rfl
        go_wp2_with fail
        refine (num_by e9 wF).mono ?_
        rintro en wC' ⟨rfl, rfl⟩
        go_wp2_with fail
        refine (num_by e9 wF).mono ?_
        rintro en wC' ⟨rfl, rfl⟩
        have n0 : (e9 != e9) = false := bne_self_eq_false _
        go_wp2_with (first
          | (refine BigFrame.wpList_want (by rfl) fun _ hK' => wp_load_row 38 (.tmp 7) rfl g7 rfl 38 _ (0, 0) _ h76 Tryd.underlying38 rfl hszn (hK' _ _ ?_))
          | (refine BigFrame.wpList_want (by rfl) fun _ hK' => wp_load_row 38 (.tmp 9) rfl g9 rfl 38 _ (0, 0) _ h96 Tryd.underlying38 rfl hszn (hK' _ _ ?_)))
        go_roundw
        case rel => exact ⟨m + 1, by go_num, by omega, HBF⟩
        case measure => simp [intOf]; omega
      · have dmk : ((m : Int) == (k : Int)) = false := by simp; omega
        have hU := HOE.out m
        rw [if_neg hmk] at hU
        obtain ⟨rfl, rfl, rfl⟩ : u1 = v1 ∧ u2 = v2 ∧ u3 = v3 := by
          obtain ⟨a1, a2, a3⟩ := HUU.out
          obtain ⟨b1, b2, b3⟩ := HV.out
          rw [hU] at a1 a2 a3
          exact ⟨a1.trans b1.symm, a2.trans b2.symm, a3.trans b3.symm⟩
        clear hU hmk HUU HV HE9
        have hszn : (Tryd.prog.info? 38).map (·.size) = some ((#[Value.int .i64 u1, .int .i64 u2, .int .i64 u3] : Array Value)).size := by kernel_rfl
        go_wp2_with fail
        refine (num_by e9 wD).mono ?_
        rintro en wC' ⟨rfl, rfl⟩
        go_wp2_with fail
        refine (num_by e9 wD).mono ?_
        rintro en wC' ⟨rfl, rfl⟩
        have n0 : (e9 != e9) = false := bne_self_eq_false _
        go_wp2_with (first
          | (refine BigFrame.wpList_want (by rfl) fun _ hK' => wp_load_row 38 (.tmp 7) rfl g7 rfl 38 _ (0, 0) _ hg7 Tryd.underlying38 rfl hszn (hK' _ _ ?_))
          | (refine BigFrame.wpList_want (by rfl) fun _ hK' => wp_load_row 38 (.tmp 9) rfl g9 rfl 38 _ (0, 0) _ hg9 Tryd.underlying38 rfl hszn (hK' _ _ ?_)))
        go_roundw
        case rel => exact ⟨m + 1, by go_num, by omega, HBD⟩
        case measure => simp [intOf]; omega
    · obtain rfl : m = s.objs.length := by omega
      have hbw := HB.out.1.b
      go_wp2_with fail
      go_ret
      exact ⟨rfl, hbw⟩
end Go.Proofs.YtplfblccaeligaaDoor
