/- Layer 17: the law ShapeHas. -/
import Derived.Test.YtplfblccaeligaaDoorShG4
import Derived.Test.YtplfblccaeligaaDoorShG7
import Derived.Test.YtplfblccaeligaaDoorShG8
import Derived.Test.YtplfblccaeligaaDoorShRef7
import Derived.Test.YtplfblccaeligaaDoorShG2
namespace Go.Proofs.YtplfblccaeligaaDoor
open Go.RowKit Ex Mx
set_option maxRecDepth 100000
/-- The word's bits below i are there. -/
def bitsB (wd u i : Nat) : Bool := (List.range i).all fun j => !(wd.testBit j) || u.testBit j
theorem bitsB_step (wd u i : Nat) : bitsB wd u (i + 1) = (bitsB wd u i && (!(wd.testBit i) || u.testBit i)) := by
  unfold bitsB
  rw [List.range_succ, List.all_append]; simp
theorem bitsB_end {wd u i : Nat} (hi : i ≤ 8) (h : wd / 2 ^ i = 0) : bitsB wd u i = bitsB wd u 8 := by
  have hz : ∀ j, i ≤ j → wd.testBit j = false := fun j hj => by
    refine Nat.testBit_lt_two_pow ?_
    have h1 : wd < 2 ^ i := by
      rcases Nat.lt_or_ge wd (2 ^ i) with h2 | h2
      · exact h2
      · have := Nat.div_pos h2 (Nat.two_pow_pos i); omega
    exact Nat.lt_of_lt_of_le h1 (Nat.pow_le_pow_right (by omega) hj)
  have hs : ∀ d, i + d ≤ 8 → bitsB wd u (i + d) = bitsB wd u i := by
    intro d
    induction d with
    | zero => intro _; rfl
    | succ d ih =>
      intro hd
      rw [← Nat.add_assoc, bitsB_step, ih (by omega), hz (i + d) (by omega)]; simp
  have := hs (8 - i) (by omega)
  rw [show i + (8 - i) = 8 by omega] at this
  exact this.symm
theorem half_step (x i : Nat) : x / 2 ^ (i + 1) = x / 2 ^ i / 2 := by rw [Nat.pow_succ, Nat.div_div_eq_div_mul]
theorem bit_odd (x i : Nat) : x.testBit i = decide (x / 2 ^ i % 2 = 1) := Nat.testBit_eq_decide_div_mod_eq
theorem field_sh (a b c : Int) (W : World) : (Instr.field 34 (.agg #[.int .i64 a, .int .i64 b, .int .i64 c]) 2).run Tryd.prog W = .ok (.int .i64 c) W := by kernel_rfl
theorem beastS_len (s : StT) (p : Int) : (beastS s p).length ≤ (s.lists 8).length := beastL_len s p _
set_option linter.unusedSimpArgs false in
set_option maxHeartbeats 0 in
theorem shapeHas_walk {w : World} (E : ShSaid w) (s : StT) (O : SlT) (L : Nat → SlT) (cs : Array Value) (id word : Int) (hR : ReadsS w.heap.size w cs s O L) (hid : N64 id) (hwd : N64 word) :
    Calls Tryd.prog 4 #[.agg cs, .int .i64 id, .int .i64 word] w fun en w' => en = .returned (.bool true) ∧ Below w.heap.size w w' := by
  have hcs := hR.size
  have HR := Lib.hid hR
  have HI := Lib.hid hid
  have HP := Lib.hid hwd
  clear hR hid hwd
  go_enter Tryd.func4, Tryd.ntmps4
  go_upto_region 1 with fail
  obtain ⟨w1, hw1⟩ : ∃ w1, w1 = w.alloc (.cells cs 29) := ⟨_, rfl⟩
  obtain ⟨gs, hgs⟩ : ∃ g, g = w.heap.size := ⟨_, rfl⟩
  have HW := Lib.hid (show SW w gs cs w1 from by
    rw [hw1, hgs]
    exact ⟨(Below.refl _ _).alloc (Nat.le_refl _) _, StAt.new w cs⟩)
  show Code.wp _ _ _ _ (w.alloc (.cells cs 29))
  rw [← hw1, ← hgs]
  have HGs := Lib.hid hgs
  clear hw1 hgs
  go_wp2_with fail
  refine (shAlive E w1 HW.out.b).mono ?_
  rintro en w2 ⟨rfl, hb2⟩
  have HW2 := Lib.hid (HW.out.keep hb2)
  have hsa := HW2.out.a
  clear HW hb2
  go_wp2_with (refine load_wantS (by rfl) (.tmp 3) rfl gs rfl cs hsa hcs ?_)
  have hl := long_any s O L cs 60 w2 w2.heap.size (HW2.out.reads HR.out) (by omega)
  rw [show ((60 : Nat) : Int) = 60 from rfl] at hl
  refine hl.mono ?_
  clear hl hsa
  rintro en w3 ⟨rfl, hb3⟩
  have HW3 := Lib.hid (HW2.out.keep hb3)
  clear HW2 hb3
  by_cases hlg : longS s 60 = true
  · have hbw := HW3.out.b
    rw [hlg]
    go_wp2_with fail
    go_ret
    exact ⟨rfl, hbw⟩
  replace hlg : longS s 60 = false := by simpa using hlg
  obtain ⟨hn, hll⟩ := long_not (most := 60) hlg
  rw [hlg]
  have HNl := Lib.hid (And.intro hn hll)
  clear hlg hn hll
  have HLs := Lib.hid (show s.objs.length ≤ 1000 ∧ ∀ z < 11, (s.lists z).length ≤ 1000 from ⟨by have := HNl.out.1; omega, fun z hz => by have := HNl.out.2 z hz; omega⟩)
  have HLm := Lib.hid (show s.objs.length ≤ 1000000 ∧ ∀ z < 11, (s.lists z).length ≤ 1000000 from ⟨by have := HNl.out.1; omega, fun z hz => by have := HNl.out.2 z hz; omega⟩)
  obtain ⟨bad, hbad⟩ : ∃ b, b = chkS s := ⟨_, rfl⟩
  have hck := st_checkRef_any s O L cs w3 w3.heap.size (HW3.out.reads HR.out) (Nat.le_refl _) HLm.out.1 HLm.out.2
  rw [← hbad] at hck
  have HBad := Lib.hid hbad
  have hsa := HW3.out.a
  clear hbad
  go_wp2_with (refine load_wantS (by rfl) (.tmp 3) rfl gs rfl cs hsa hcs ?_)
  refine hck.mono ?_
  rintro en w4 ⟨rfl, hb4⟩
  have HW4 := Lib.hid (HW3.out.keep hb4)
  clear hck hsa hb4 HW3
  by_cases hb0 : bad = 0
  case neg =>
    have h0 : chkS s ≠ 0 := by rw [← HBad.out]; exact hb0
    have HT := Lib.hid (show hasT s id word = false ∧ beastT s word = [] ∧ statT s = 0 from ⟨by unfold hasT isT; rw [decide_eq_false h0]; simp, if_neg h0, if_neg h0⟩)
    have d0 : (bad != 0) = true := by simp [hb0]
    have hh := E.has s O L cs id word w4 (HW4.out.reads HR.out) HLs.out.1 HLs.out.2 HI.out HP.out HW4.out.b
    rw [HT.out.1] at hh
    have hsa := HW4.out.a
    clear h0 hb0 HBad
    go_wp2_with (refine load_wantS (by rfl) (.tmp 3) rfl gs rfl cs hsa hcs ?_)
    refine hh.mono ?_
    rintro en w5 ⟨rfl, hb5⟩
    have HW5 := Lib.hid (HW4.out.keep hb5)
    have hbe := E.beasts s O L cs word w5 (HW5.out.reads HR.out) HLs.out.1 HLs.out.2 HP.out HW5.out.b
    unfold ShIP at hbe
    rw [HT.out.2.1] at hbe
    have hsa := HW5.out.a
    clear hh hb5 HW4
    go_wp2_with (refine load_wantS (by rfl) (.tmp 3) rfl gs rfl cs hsa hcs ?_)
    refine hbe.mono ?_
    rintro en w6 ⟨A1, n1, c1, rfl, hc1, hN1, hb6⟩
    have HW6 := Lib.hid (HW5.out.keep hb6)
    obtain rfl : n1 = 0 := hN1.len.symm
    have hst := E.statics s O L cs w6 (HW6.out.reads HR.out) HLs.out.1 HLs.out.2 HW6.out.b
    rw [HT.out.2.2] at hst
    have hsa := HW6.out.a
    clear hbe hb6 HW5 hN1
    go_wp2_with (refine load_wantS (by rfl) (.tmp 3) rfl gs rfl cs hsa hcs ?_)
    refine hst.mono ?_
    rintro en w7 ⟨rfl, hb7⟩
    have HF := Lib.hid (keepB hb7 HW6.out.b)
    clear hst hsa hb7 HW6
    go_wp2_with fail
    go_ret
    exact ⟨rfl, HF.out⟩
  subst hb0
  have hic := isRef_any s O L cs id w4 (HW4.out.reads HR.out) HLm.out.1
  obtain ⟨q, hq⟩ : ∃ q, q = isB s id := ⟨_, rfl⟩
  rw [← hq] at hic
  have HQ := Lib.hid (show isT s id = q from by unfold isT; rw [decide_eq_true HBad.out.symm, Bool.true_and, hq])
  have HQB := Lib.hid hq
  have hsa := HW4.out.a
  clear hq
  go_wp2_with (refine load_wantS (by rfl) (.tmp 3) rfl gs rfl cs hsa hcs ?_)
  refine hic.mono ?_
  rintro en w5 ⟨rfl, hb5⟩
  have HW5 := Lib.hid (HW4.out.keep hb5)
  clear hic hsa hb5 HW4
  cases q with
  | false =>
    have HH := Lib.hid (show hasT s id word = false from by unfold hasT; rw [HQ.out]; rfl)
    have HWT := HW5
    clear HW5
    obtain ⟨xx, hx⟩ : ∃ xx : Bool, xx = false := ⟨_, rfl⟩
    have hxx : (xx == xx) = true := beq_self_eq_true _
    have HHx := Lib.hid (show hasT s id word = xx from by rw [hx]; exact HH.out)
    go_upto_region 13 with fail
    rw [← hx]
    clear hx HH
    refine wp_region_held_drew (S := fun W => SW w gs cs W) (by kernel_rfl) (show SW w gs cs (World.drew w5) from HWT.out.keep (Below.refl _ _).drew) (fun hHeld => ?_)
    clear HWT
    refine wpAnyH_take (i := 0) (v := .agg cs) rfl (by kernel_rfl) (by kernel_rfl) (by kernel_rfl) (fun _ _ _ h => h) (yields_st (by rfl) (.tmp 3) rfl gs rfl cs hcs (fun W hW => SW.a hW)) hHeld ?_
    simp only [Act.put, List.getElem_toArray, List.getElem_cons_zero, List.getElem_cons_succ, List.setIfInBounds_toArray, List.set_cons_zero, List.set_cons_succ]
    refine wpAnyH_take (i := 1) (v := ?_) rfl (by kernel_rfl) (by kernel_rfl) (by kernel_rfl) (fun _ _ _ h => h) (Or.inl ⟨by rfl, ?_⟩) hHeld ?_
    rotate_left
    · (intro w hSw; go_simp; (try with_reducible rfl))
    simp only [Act.put, List.getElem_toArray, List.getElem_cons_zero, List.getElem_cons_succ, List.setIfInBounds_toArray, List.set_cons_zero, List.set_cons_succ]
    refine wpAnyH_take (i := 2) (v := ?_) rfl (by kernel_rfl) (by kernel_rfl) (by kernel_rfl) (fun _ _ _ h => h) (Or.inl ⟨by rfl, ?_⟩) hHeld ?_
    rotate_left
    · (intro w hSw; go_simp; (try with_reducible rfl))
    simp only [Act.put, List.getElem_toArray, List.getElem_cons_zero, List.getElem_cons_succ, List.setIfInBounds_toArray, List.set_cons_zero, List.set_cons_succ]
    refine wpAnyH_take (i := 4) (v := ?_) rfl (by kernel_rfl) (by kernel_rfl) (by kernel_rfl) (fun _ _ _ h => h) (Or.inl ⟨by rfl, ?_⟩) hHeld ?_
    rotate_left
    · (intro w hSw; go_simp; (try with_reducible rfl))
    simp only [Act.put, List.getElem_toArray, List.getElem_cons_zero, List.getElem_cons_succ, List.setIfInBounds_toArray, List.set_cons_zero, List.set_cons_succ]
    refine wpAnyH_ready (rs := [3]) (by kernel_rfl) (by simp) ?_
    refine AllReadyH.cons rfl (fun K hK => ?_) AllReadyH.nil
    simp only [List.getElem_toArray, List.getElem_cons_zero, List.getElem_cons_succ]
    go_simp
    have hh := E.has s O L cs id word _ (hHeld.reads HR.out) HLs.out.1 HLs.out.2 HI.out HP.out hHeld.b
    rw [HHx.out] at hh
    refine hh.mono ?_
    clear hh
    rintro en wA ⟨rfl, hbA⟩
    go_wp2_with fail
    have hHeld := hHeld.keep hbA
    clear hbA
    refine hK.out _ _ hHeld (fun _ => ?_)
    clear hK K
    try simp only [Act.put, List.setIfInBounds_toArray, List.set_cons_zero, List.set_cons_succ]
    refine wpAnyH_take (i := 5) (v := ?_) rfl (by kernel_rfl) (by kernel_rfl) (by kernel_rfl) (fun _ _ _ h => h) (Or.inl ⟨by rfl, ?_⟩) hHeld ?_
    rotate_left
    · (intro w hSw; go_simp; (try with_reducible rfl))
    simp only [Act.put, List.getElem_toArray, List.getElem_cons_zero, List.getElem_cons_succ, List.setIfInBounds_toArray, List.set_cons_zero, List.set_cons_succ]
    refine wpAnyH_take (i := 6) (v := ?_) rfl (by kernel_rfl) (by kernel_rfl) (by kernel_rfl) (fun _ _ _ h => h) (Or.inl ⟨by rfl, ?_⟩) hHeld ?_
    rotate_left
    · (intro w hSw; go_simp; (try with_reducible rfl))
    simp only [Act.put, List.getElem_toArray, List.getElem_cons_zero, List.getElem_cons_succ, List.setIfInBounds_toArray, List.set_cons_zero, List.set_cons_succ]
    refine wpAnyH_take (i := 7) (v := .agg cs) rfl (by kernel_rfl) (by kernel_rfl) (by kernel_rfl) (fun _ _ _ h => h) (yields_st (by rfl) (.tmp 3) rfl gs rfl cs hcs (fun W hW => SW.a hW)) hHeld ?_
    simp only [Act.put, List.getElem_toArray, List.getElem_cons_zero, List.getElem_cons_succ, List.setIfInBounds_toArray, List.set_cons_zero, List.set_cons_succ]
    refine wpAnyH_take (i := 8) (v := ?_) rfl (by kernel_rfl) (by kernel_rfl) (by kernel_rfl) (fun _ _ _ h => h) (Or.inl ⟨by rfl, ?_⟩) hHeld ?_
    rotate_left
    · (intro w hSw; go_simp; (try with_reducible rfl))
    simp only [Act.put, List.getElem_toArray, List.getElem_cons_zero, List.getElem_cons_succ, List.setIfInBounds_toArray, List.set_cons_zero, List.set_cons_succ]
    refine wpAnyH_take (i := 10) (v := .agg cs) rfl (by kernel_rfl) (by kernel_rfl) (by kernel_rfl) (fun _ _ _ h => h) (yields_st (by rfl) (.tmp 3) rfl gs rfl cs hcs (fun W hW => SW.a hW)) hHeld ?_
    simp only [Act.put, List.getElem_toArray, List.getElem_cons_zero, List.getElem_cons_succ, List.setIfInBounds_toArray, List.set_cons_zero, List.set_cons_succ]
    refine wpAnyH_take (i := 11) (v := ?_) rfl (by kernel_rfl) (by kernel_rfl) (by kernel_rfl) (fun _ _ _ h => h) (Or.inl ⟨by rfl, ?_⟩) hHeld ?_
    rotate_left
    · (intro w hSw; go_simp; (try with_reducible rfl))
    simp only [Act.put, List.getElem_toArray, List.getElem_cons_zero, List.getElem_cons_succ, List.setIfInBounds_toArray, List.set_cons_zero, List.set_cons_succ]
    refine wpAnyH_ready (rs := [9]) (by kernel_rfl) (by simp) ?_
    refine AllReadyH.cons rfl (fun K hK => ?_) AllReadyH.nil
    simp only [List.getElem_toArray, List.getElem_cons_zero, List.getElem_cons_succ]
    go_simp
    have hbe := E.beasts s O L cs word _ (hHeld.reads HR.out) HLs.out.1 HLs.out.2 HP.out hHeld.b
    unfold ShIP at hbe
    rw [show beastT s word = beastS s word from if_pos HBad.out.symm] at hbe
    refine hbe.mono ?_
    clear hbe
    rintro en wB ⟨A1, n1, c1, rfl, hc1, hN1, hbB⟩
    go_wp2_with fail
    have hHeld := hHeld.keep hbB
    have HN1 := Lib.hid hN1
    clear hbB hN1
    refine hK.out _ _ hHeld (fun _ => ?_)
    clear hK K
    try simp only [Act.put, List.setIfInBounds_toArray, List.set_cons_zero, List.set_cons_succ]
    refine wpAnyH_ready (rs := [12]) (by kernel_rfl) (by simp) ?_
    refine AllReadyH.cons rfl (fun K hK => ?_) AllReadyH.nil
    simp only [List.getElem_toArray, List.getElem_cons_zero, List.getElem_cons_succ]
    go_simp
    have hbr := beastsRef_any s O L cs word _ (hHeld.reads HR.out) HLm.out.1 (HLm.out.2 8 (by omega))
    refine hbr.mono ?_
    clear hbr
    rintro en wC ⟨A2, n2, c2, rfl, hc2, hN2, hbC⟩
    go_wp2_with fail
    have hHeld := hHeld.keep hbC
    have HN := Lib.hid (And.intro (HN1.out.belowL hbC (Nat.le_refl _)) hN2)
    clear hbC HN1 hN2
    refine hK.out _ _ hHeld (fun _ => ?_)
    clear hK K
    try simp only [Act.put, List.setIfInBounds_toArray, List.set_cons_zero, List.set_cons_succ]
    refine wpAnyH_ready (rs := [13]) (by kernel_rfl) (by simp) ?_
    refine AllReadyH.cons rfl (fun K hK => ?_) AllReadyH.nil
    simp only [List.getElem_toArray, List.getElem_cons_zero, List.getElem_cons_succ]
    go_simp
    have hin := ints_any A1 A2 n1 c1 n2 c2 _ _ _ _ _ HN.out.1 HN.out.2 (by have h1 := HN.out.1.len; have h2 := beastS_len s word; have h3 := HLs.out.2 8 (by omega); omega) (by have h1 := HN.out.2.len; have h2 := beastS_len s word; have h3 := HLs.out.2 8 (by omega); omega)
    rw [decide_eq_true rfl] at hin
    refine hin.mono ?_
    clear hin
    rintro en wD ⟨rfl, mm, rfl⟩
    go_wp2_with fail
    have hHeld := hHeld.keep (below_drewN (Below.refl _ _) mm)
    clear HN
    refine hK.out _ _ hHeld (fun _ => ?_)
    clear hK K
    try simp only [Act.put, List.setIfInBounds_toArray, List.set_cons_zero, List.set_cons_succ]
    refine wpAnyH_take (i := 14) (v := ?_) rfl (by kernel_rfl) (by kernel_rfl) (by kernel_rfl) (fun _ _ _ h => h) (Or.inl ⟨by rfl, ?_⟩) hHeld ?_
    rotate_left
    · (intro w hSw; go_simp; (try with_reducible rfl))
    simp only [Act.put, List.getElem_toArray, List.getElem_cons_zero, List.getElem_cons_succ, List.setIfInBounds_toArray, List.set_cons_zero, List.set_cons_succ]
    refine wpAnyH_take (i := 15) (v := ?_) rfl (by kernel_rfl) (by kernel_rfl) (by kernel_rfl) (fun _ _ _ h => h) (Or.inl ⟨by rfl, ?_⟩) hHeld ?_
    rotate_left
    · (intro w hSw; go_simp; (try with_reducible rfl))
    simp only [Act.put, List.getElem_toArray, List.getElem_cons_zero, List.getElem_cons_succ, List.setIfInBounds_toArray, List.set_cons_zero, List.set_cons_succ]
    refine wpAnyH_take (i := 16) (v := .agg cs) rfl (by kernel_rfl) (by kernel_rfl) (by kernel_rfl) (fun _ _ _ h => h) (yields_st (by rfl) (.tmp 3) rfl gs rfl cs hcs (fun W hW => SW.a hW)) hHeld ?_
    simp only [Act.put, List.getElem_toArray, List.getElem_cons_zero, List.getElem_cons_succ, List.setIfInBounds_toArray, List.set_cons_zero, List.set_cons_succ]
    refine wpAnyH_take (i := 18) (v := .agg cs) rfl (by kernel_rfl) (by kernel_rfl) (by kernel_rfl) (fun _ _ _ h => h) (yields_st (by rfl) (.tmp 3) rfl gs rfl cs hcs (fun W hW => SW.a hW)) hHeld ?_
    simp only [Act.put, List.getElem_toArray, List.getElem_cons_zero, List.getElem_cons_succ, List.setIfInBounds_toArray, List.set_cons_zero, List.set_cons_succ]
    refine wpAnyH_ready (rs := [17]) (by kernel_rfl) (by simp) ?_
    refine AllReadyH.cons rfl (fun K hK => ?_) AllReadyH.nil
    simp only [List.getElem_toArray, List.getElem_cons_zero, List.getElem_cons_succ]
    go_simp
    have hst := E.statics s O L cs _ (hHeld.reads HR.out) HLs.out.1 HLs.out.2 hHeld.b
    rw [show statT s = (statS s).length from if_pos HBad.out.symm] at hst
    refine hst.mono ?_
    clear hst
    rintro en wF ⟨rfl, hbF⟩
    go_wp2_with fail
    have hHeld := hHeld.keep hbF
    clear hbF
    refine hK.out _ _ hHeld (fun _ => ?_)
    clear hK K
    try simp only [Act.put, List.setIfInBounds_toArray, List.set_cons_zero, List.set_cons_succ]
    refine wpAnyH_ready (rs := [19]) (by kernel_rfl) (by simp) ?_
    refine AllReadyH.cons rfl (fun K hK => ?_) AllReadyH.nil
    simp only [List.getElem_toArray, List.getElem_cons_zero, List.getElem_cons_succ]
    go_simp
    have hsr := staticsRef_any s O L cs _ (hHeld.reads HR.out) (HLm.out.2 8 (by omega)) (fun x hx => right_in HBad.out.symm (z := 8) (by omega) hx)
    unfold StsP at hsr
    refine hsr.mono ?_
    clear hsr
    rintro en wG ⟨A3, n3, c3, rfl, hc3, hI3⟩
    go_wp2_with fail
    obtain rfl : n3 = (statS s).length := hI3.n_
    have hHeld := hHeld.keep hI3.b
    clear hI3
    refine hK.out _ _ hHeld (fun _ => ?_)
    clear hK K
    try simp only [Act.put, List.setIfInBounds_toArray, List.set_cons_zero, List.set_cons_succ]
    refine wpAnyH_take (i := 20) (v := ?_) rfl (by kernel_rfl) (by kernel_rfl) (by kernel_rfl) (fun _ _ _ h => h) (Or.inl ⟨by rfl, ?_⟩) hHeld ?_
    rotate_left
    · (intro w hSw; go_simp; (try with_reducible rfl))
    simp only [Act.put, List.getElem_toArray, List.getElem_cons_zero, List.getElem_cons_succ, List.setIfInBounds_toArray, List.set_cons_zero, List.set_cons_succ]
    refine wpAnyH_take (i := 21) (v := ?_) rfl (by kernel_rfl) (by kernel_rfl) (by kernel_rfl) (fun _ _ _ h => h) (Or.inl ⟨by rfl, ?_⟩) hHeld ?_
    rotate_left
    · (intro w hSw; go_simp; (try with_reducible rfl))
    simp only [Act.put, List.getElem_toArray, List.getElem_cons_zero, List.getElem_cons_succ, List.setIfInBounds_toArray, List.set_cons_zero, List.set_cons_succ]
    refine wpAnyH_take (i := 22) (v := ?_) rfl (by kernel_rfl) (by kernel_rfl) (by kernel_rfl) (fun _ _ _ h => h) (Or.inl ⟨by rfl, ?_⟩) hHeld ?_
    rotate_left
    · (intro w hSw; go_simp; (try with_reducible rfl))
    simp only [Act.put, List.getElem_toArray, List.getElem_cons_zero, List.getElem_cons_succ, List.setIfInBounds_toArray, List.set_cons_zero, List.set_cons_succ]
    refine wpAnyH_take (i := 23) (v := ?_) rfl (by kernel_rfl) (by kernel_rfl) (by kernel_rfl) (fun _ _ _ h => h) (Or.inl ⟨by rfl, ?_⟩) hHeld ?_
    rotate_left
    · (intro w hSw; go_simp; (try with_reducible rfl))
    simp only [Act.put, List.getElem_toArray, List.getElem_cons_zero, List.getElem_cons_succ, List.setIfInBounds_toArray, List.set_cons_zero, List.set_cons_succ]
    refine wpAnyH_done (by kernel_rfl) ?_ _
    have HF := Lib.hid hHeld.b
    clear hHeld
    go_wp2_with fail
    go_ret
    exact ⟨rfl, HF.out⟩
  | true =>
  by_cases hw1 : 1 ≤ word
  case neg =>
    have HH := Lib.hid (show hasT s id word = false from by unfold hasT; rw [decide_eq_false hw1]; simp)
    have d1 : decide (1 ≤ word) = false := decide_eq_false hw1
    have HWT := HW5
    clear HW5 hw1
    obtain ⟨xx, hx⟩ : ∃ xx : Bool, xx = false := ⟨_, rfl⟩
    have hxx : (xx == xx) = true := beq_self_eq_true _
    have HHx := Lib.hid (show hasT s id word = xx from by rw [hx]; exact HH.out)
    go_upto_region 13 with fail
    rw [← hx]
    clear hx HH
    refine wp_region_held_drew (S := fun W => SW w gs cs W) (by kernel_rfl) (show SW w gs cs (World.drew w5) from HWT.out.keep (Below.refl _ _).drew) (fun hHeld => ?_)
    clear HWT
    refine wpAnyH_take (i := 0) (v := .agg cs) rfl (by kernel_rfl) (by kernel_rfl) (by kernel_rfl) (fun _ _ _ h => h) (yields_st (by rfl) (.tmp 3) rfl gs rfl cs hcs (fun W hW => SW.a hW)) hHeld ?_
    simp only [Act.put, List.getElem_toArray, List.getElem_cons_zero, List.getElem_cons_succ, List.setIfInBounds_toArray, List.set_cons_zero, List.set_cons_succ]
    refine wpAnyH_take (i := 1) (v := ?_) rfl (by kernel_rfl) (by kernel_rfl) (by kernel_rfl) (fun _ _ _ h => h) (Or.inl ⟨by rfl, ?_⟩) hHeld ?_
    rotate_left
    · (intro w hSw; go_simp; (try with_reducible rfl))
    simp only [Act.put, List.getElem_toArray, List.getElem_cons_zero, List.getElem_cons_succ, List.setIfInBounds_toArray, List.set_cons_zero, List.set_cons_succ]
    refine wpAnyH_take (i := 2) (v := ?_) rfl (by kernel_rfl) (by kernel_rfl) (by kernel_rfl) (fun _ _ _ h => h) (Or.inl ⟨by rfl, ?_⟩) hHeld ?_
    rotate_left
    · (intro w hSw; go_simp; (try with_reducible rfl))
    simp only [Act.put, List.getElem_toArray, List.getElem_cons_zero, List.getElem_cons_succ, List.setIfInBounds_toArray, List.set_cons_zero, List.set_cons_succ]
    refine wpAnyH_take (i := 4) (v := ?_) rfl (by kernel_rfl) (by kernel_rfl) (by kernel_rfl) (fun _ _ _ h => h) (Or.inl ⟨by rfl, ?_⟩) hHeld ?_
    rotate_left
    · (intro w hSw; go_simp; (try with_reducible rfl))
    simp only [Act.put, List.getElem_toArray, List.getElem_cons_zero, List.getElem_cons_succ, List.setIfInBounds_toArray, List.set_cons_zero, List.set_cons_succ]
    refine wpAnyH_ready (rs := [3]) (by kernel_rfl) (by simp) ?_
    refine AllReadyH.cons rfl (fun K hK => ?_) AllReadyH.nil
    simp only [List.getElem_toArray, List.getElem_cons_zero, List.getElem_cons_succ]
    go_simp
    have hh := E.has s O L cs id word _ (hHeld.reads HR.out) HLs.out.1 HLs.out.2 HI.out HP.out hHeld.b
    rw [HHx.out] at hh
    refine hh.mono ?_
    clear hh
    rintro en wA ⟨rfl, hbA⟩
    go_wp2_with fail
    have hHeld := hHeld.keep hbA
    clear hbA
    refine hK.out _ _ hHeld (fun _ => ?_)
    clear hK K
    try simp only [Act.put, List.setIfInBounds_toArray, List.set_cons_zero, List.set_cons_succ]
    refine wpAnyH_take (i := 5) (v := ?_) rfl (by kernel_rfl) (by kernel_rfl) (by kernel_rfl) (fun _ _ _ h => h) (Or.inl ⟨by rfl, ?_⟩) hHeld ?_
    rotate_left
    · (intro w hSw; go_simp; (try with_reducible rfl))
    simp only [Act.put, List.getElem_toArray, List.getElem_cons_zero, List.getElem_cons_succ, List.setIfInBounds_toArray, List.set_cons_zero, List.set_cons_succ]
    refine wpAnyH_take (i := 6) (v := ?_) rfl (by kernel_rfl) (by kernel_rfl) (by kernel_rfl) (fun _ _ _ h => h) (Or.inl ⟨by rfl, ?_⟩) hHeld ?_
    rotate_left
    · (intro w hSw; go_simp; (try with_reducible rfl))
    simp only [Act.put, List.getElem_toArray, List.getElem_cons_zero, List.getElem_cons_succ, List.setIfInBounds_toArray, List.set_cons_zero, List.set_cons_succ]
    refine wpAnyH_take (i := 7) (v := .agg cs) rfl (by kernel_rfl) (by kernel_rfl) (by kernel_rfl) (fun _ _ _ h => h) (yields_st (by rfl) (.tmp 3) rfl gs rfl cs hcs (fun W hW => SW.a hW)) hHeld ?_
    simp only [Act.put, List.getElem_toArray, List.getElem_cons_zero, List.getElem_cons_succ, List.setIfInBounds_toArray, List.set_cons_zero, List.set_cons_succ]
    refine wpAnyH_take (i := 8) (v := ?_) rfl (by kernel_rfl) (by kernel_rfl) (by kernel_rfl) (fun _ _ _ h => h) (Or.inl ⟨by rfl, ?_⟩) hHeld ?_
    rotate_left
    · (intro w hSw; go_simp; (try with_reducible rfl))
    simp only [Act.put, List.getElem_toArray, List.getElem_cons_zero, List.getElem_cons_succ, List.setIfInBounds_toArray, List.set_cons_zero, List.set_cons_succ]
    refine wpAnyH_take (i := 10) (v := .agg cs) rfl (by kernel_rfl) (by kernel_rfl) (by kernel_rfl) (fun _ _ _ h => h) (yields_st (by rfl) (.tmp 3) rfl gs rfl cs hcs (fun W hW => SW.a hW)) hHeld ?_
    simp only [Act.put, List.getElem_toArray, List.getElem_cons_zero, List.getElem_cons_succ, List.setIfInBounds_toArray, List.set_cons_zero, List.set_cons_succ]
    refine wpAnyH_take (i := 11) (v := ?_) rfl (by kernel_rfl) (by kernel_rfl) (by kernel_rfl) (fun _ _ _ h => h) (Or.inl ⟨by rfl, ?_⟩) hHeld ?_
    rotate_left
    · (intro w hSw; go_simp; (try with_reducible rfl))
    simp only [Act.put, List.getElem_toArray, List.getElem_cons_zero, List.getElem_cons_succ, List.setIfInBounds_toArray, List.set_cons_zero, List.set_cons_succ]
    refine wpAnyH_ready (rs := [9]) (by kernel_rfl) (by simp) ?_
    refine AllReadyH.cons rfl (fun K hK => ?_) AllReadyH.nil
    simp only [List.getElem_toArray, List.getElem_cons_zero, List.getElem_cons_succ]
    go_simp
    have hbe := E.beasts s O L cs word _ (hHeld.reads HR.out) HLs.out.1 HLs.out.2 HP.out hHeld.b
    unfold ShIP at hbe
    rw [show beastT s word = beastS s word from if_pos HBad.out.symm] at hbe
    refine hbe.mono ?_
    clear hbe
    rintro en wB ⟨A1, n1, c1, rfl, hc1, hN1, hbB⟩
    go_wp2_with fail
    have hHeld := hHeld.keep hbB
    have HN1 := Lib.hid hN1
    clear hbB hN1
    refine hK.out _ _ hHeld (fun _ => ?_)
    clear hK K
    try simp only [Act.put, List.setIfInBounds_toArray, List.set_cons_zero, List.set_cons_succ]
    refine wpAnyH_ready (rs := [12]) (by kernel_rfl) (by simp) ?_
    refine AllReadyH.cons rfl (fun K hK => ?_) AllReadyH.nil
    simp only [List.getElem_toArray, List.getElem_cons_zero, List.getElem_cons_succ]
    go_simp
    have hbr := beastsRef_any s O L cs word _ (hHeld.reads HR.out) HLm.out.1 (HLm.out.2 8 (by omega))
    refine hbr.mono ?_
    clear hbr
    rintro en wC ⟨A2, n2, c2, rfl, hc2, hN2, hbC⟩
    go_wp2_with fail
    have hHeld := hHeld.keep hbC
    have HN := Lib.hid (And.intro (HN1.out.belowL hbC (Nat.le_refl _)) hN2)
    clear hbC HN1 hN2
    refine hK.out _ _ hHeld (fun _ => ?_)
    clear hK K
    try simp only [Act.put, List.setIfInBounds_toArray, List.set_cons_zero, List.set_cons_succ]
    refine wpAnyH_ready (rs := [13]) (by kernel_rfl) (by simp) ?_
    refine AllReadyH.cons rfl (fun K hK => ?_) AllReadyH.nil
    simp only [List.getElem_toArray, List.getElem_cons_zero, List.getElem_cons_succ]
    go_simp
    have hin := ints_any A1 A2 n1 c1 n2 c2 _ _ _ _ _ HN.out.1 HN.out.2 (by have h1 := HN.out.1.len; have h2 := beastS_len s word; have h3 := HLs.out.2 8 (by omega); omega) (by have h1 := HN.out.2.len; have h2 := beastS_len s word; have h3 := HLs.out.2 8 (by omega); omega)
    rw [decide_eq_true rfl] at hin
    refine hin.mono ?_
    clear hin
    rintro en wD ⟨rfl, mm, rfl⟩
    go_wp2_with fail
    have hHeld := hHeld.keep (below_drewN (Below.refl _ _) mm)
    clear HN
    refine hK.out _ _ hHeld (fun _ => ?_)
    clear hK K
    try simp only [Act.put, List.setIfInBounds_toArray, List.set_cons_zero, List.set_cons_succ]
    refine wpAnyH_take (i := 14) (v := ?_) rfl (by kernel_rfl) (by kernel_rfl) (by kernel_rfl) (fun _ _ _ h => h) (Or.inl ⟨by rfl, ?_⟩) hHeld ?_
    rotate_left
    · (intro w hSw; go_simp; (try with_reducible rfl))
    simp only [Act.put, List.getElem_toArray, List.getElem_cons_zero, List.getElem_cons_succ, List.setIfInBounds_toArray, List.set_cons_zero, List.set_cons_succ]
    refine wpAnyH_take (i := 15) (v := ?_) rfl (by kernel_rfl) (by kernel_rfl) (by kernel_rfl) (fun _ _ _ h => h) (Or.inl ⟨by rfl, ?_⟩) hHeld ?_
    rotate_left
    · (intro w hSw; go_simp; (try with_reducible rfl))
    simp only [Act.put, List.getElem_toArray, List.getElem_cons_zero, List.getElem_cons_succ, List.setIfInBounds_toArray, List.set_cons_zero, List.set_cons_succ]
    refine wpAnyH_take (i := 16) (v := .agg cs) rfl (by kernel_rfl) (by kernel_rfl) (by kernel_rfl) (fun _ _ _ h => h) (yields_st (by rfl) (.tmp 3) rfl gs rfl cs hcs (fun W hW => SW.a hW)) hHeld ?_
    simp only [Act.put, List.getElem_toArray, List.getElem_cons_zero, List.getElem_cons_succ, List.setIfInBounds_toArray, List.set_cons_zero, List.set_cons_succ]
    refine wpAnyH_take (i := 18) (v := .agg cs) rfl (by kernel_rfl) (by kernel_rfl) (by kernel_rfl) (fun _ _ _ h => h) (yields_st (by rfl) (.tmp 3) rfl gs rfl cs hcs (fun W hW => SW.a hW)) hHeld ?_
    simp only [Act.put, List.getElem_toArray, List.getElem_cons_zero, List.getElem_cons_succ, List.setIfInBounds_toArray, List.set_cons_zero, List.set_cons_succ]
    refine wpAnyH_ready (rs := [17]) (by kernel_rfl) (by simp) ?_
    refine AllReadyH.cons rfl (fun K hK => ?_) AllReadyH.nil
    simp only [List.getElem_toArray, List.getElem_cons_zero, List.getElem_cons_succ]
    go_simp
    have hst := E.statics s O L cs _ (hHeld.reads HR.out) HLs.out.1 HLs.out.2 hHeld.b
    rw [show statT s = (statS s).length from if_pos HBad.out.symm] at hst
    refine hst.mono ?_
    clear hst
    rintro en wF ⟨rfl, hbF⟩
    go_wp2_with fail
    have hHeld := hHeld.keep hbF
    clear hbF
    refine hK.out _ _ hHeld (fun _ => ?_)
    clear hK K
    try simp only [Act.put, List.setIfInBounds_toArray, List.set_cons_zero, List.set_cons_succ]
    refine wpAnyH_ready (rs := [19]) (by kernel_rfl) (by simp) ?_
    refine AllReadyH.cons rfl (fun K hK => ?_) AllReadyH.nil
    simp only [List.getElem_toArray, List.getElem_cons_zero, List.getElem_cons_succ]
    go_simp
    have hsr := staticsRef_any s O L cs _ (hHeld.reads HR.out) (HLm.out.2 8 (by omega)) (fun x hx => right_in HBad.out.symm (z := 8) (by omega) hx)
    unfold StsP at hsr
    refine hsr.mono ?_
    clear hsr
    rintro en wG ⟨A3, n3, c3, rfl, hc3, hI3⟩
    go_wp2_with fail
    obtain rfl : n3 = (statS s).length := hI3.n_
    have hHeld := hHeld.keep hI3.b
    clear hI3
    refine hK.out _ _ hHeld (fun _ => ?_)
    clear hK K
    try simp only [Act.put, List.setIfInBounds_toArray, List.set_cons_zero, List.set_cons_succ]
    refine wpAnyH_take (i := 20) (v := ?_) rfl (by kernel_rfl) (by kernel_rfl) (by kernel_rfl) (fun _ _ _ h => h) (Or.inl ⟨by rfl, ?_⟩) hHeld ?_
    rotate_left
    · (intro w hSw; go_simp; (try with_reducible rfl))
    simp only [Act.put, List.getElem_toArray, List.getElem_cons_zero, List.getElem_cons_succ, List.setIfInBounds_toArray, List.set_cons_zero, List.set_cons_succ]
    refine wpAnyH_take (i := 21) (v := ?_) rfl (by kernel_rfl) (by kernel_rfl) (by kernel_rfl) (fun _ _ _ h => h) (Or.inl ⟨by rfl, ?_⟩) hHeld ?_
    rotate_left
    · (intro w hSw; go_simp; (try with_reducible rfl))
    simp only [Act.put, List.getElem_toArray, List.getElem_cons_zero, List.getElem_cons_succ, List.setIfInBounds_toArray, List.set_cons_zero, List.set_cons_succ]
    refine wpAnyH_take (i := 22) (v := ?_) rfl (by kernel_rfl) (by kernel_rfl) (by kernel_rfl) (fun _ _ _ h => h) (Or.inl ⟨by rfl, ?_⟩) hHeld ?_
    rotate_left
    · (intro w hSw; go_simp; (try with_reducible rfl))
    simp only [Act.put, List.getElem_toArray, List.getElem_cons_zero, List.getElem_cons_succ, List.setIfInBounds_toArray, List.set_cons_zero, List.set_cons_succ]
    refine wpAnyH_take (i := 23) (v := ?_) rfl (by kernel_rfl) (by kernel_rfl) (by kernel_rfl) (fun _ _ _ h => h) (Or.inl ⟨by rfl, ?_⟩) hHeld ?_
    rotate_left
    · (intro w hSw; go_simp; (try with_reducible rfl))
    simp only [Act.put, List.getElem_toArray, List.getElem_cons_zero, List.getElem_cons_succ, List.setIfInBounds_toArray, List.set_cons_zero, List.set_cons_succ]
    refine wpAnyH_done (by kernel_rfl) ?_ _
    have HF := Lib.hid hHeld.b
    clear hHeld
    go_wp2_with fail
    go_ret
    exact ⟨rfl, HF.out⟩
  by_cases hw2 : word ≤ 255
  case neg =>
    have HH := Lib.hid (show hasT s id word = false from by unfold hasT; rw [decide_eq_false hw2]; simp)
    have d2 : decide (word ≤ 255) = false := decide_eq_false hw2
    have HWT := HW5
    clear HW5 hw2
    obtain ⟨xx, hx⟩ : ∃ xx : Bool, xx = false := ⟨_, rfl⟩
    have hxx : (xx == xx) = true := beq_self_eq_true _
    have HHx := Lib.hid (show hasT s id word = xx from by rw [hx]; exact HH.out)
    go_upto_region 13 with fail
    rw [← hx]
    clear hx HH
    refine wp_region_held_drew (S := fun W => SW w gs cs W) (by kernel_rfl) (show SW w gs cs (World.drew w5) from HWT.out.keep (Below.refl _ _).drew) (fun hHeld => ?_)
    clear HWT
    refine wpAnyH_take (i := 0) (v := .agg cs) rfl (by kernel_rfl) (by kernel_rfl) (by kernel_rfl) (fun _ _ _ h => h) (yields_st (by rfl) (.tmp 3) rfl gs rfl cs hcs (fun W hW => SW.a hW)) hHeld ?_
    simp only [Act.put, List.getElem_toArray, List.getElem_cons_zero, List.getElem_cons_succ, List.setIfInBounds_toArray, List.set_cons_zero, List.set_cons_succ]
    refine wpAnyH_take (i := 1) (v := ?_) rfl (by kernel_rfl) (by kernel_rfl) (by kernel_rfl) (fun _ _ _ h => h) (Or.inl ⟨by rfl, ?_⟩) hHeld ?_
    rotate_left
    · (intro w hSw; go_simp; (try with_reducible rfl))
    simp only [Act.put, List.getElem_toArray, List.getElem_cons_zero, List.getElem_cons_succ, List.setIfInBounds_toArray, List.set_cons_zero, List.set_cons_succ]
    refine wpAnyH_take (i := 2) (v := ?_) rfl (by kernel_rfl) (by kernel_rfl) (by kernel_rfl) (fun _ _ _ h => h) (Or.inl ⟨by rfl, ?_⟩) hHeld ?_
    rotate_left
    · (intro w hSw; go_simp; (try with_reducible rfl))
    simp only [Act.put, List.getElem_toArray, List.getElem_cons_zero, List.getElem_cons_succ, List.setIfInBounds_toArray, List.set_cons_zero, List.set_cons_succ]
    refine wpAnyH_take (i := 4) (v := ?_) rfl (by kernel_rfl) (by kernel_rfl) (by kernel_rfl) (fun _ _ _ h => h) (Or.inl ⟨by rfl, ?_⟩) hHeld ?_
    rotate_left
    · (intro w hSw; go_simp; (try with_reducible rfl))
    simp only [Act.put, List.getElem_toArray, List.getElem_cons_zero, List.getElem_cons_succ, List.setIfInBounds_toArray, List.set_cons_zero, List.set_cons_succ]
    refine wpAnyH_ready (rs := [3]) (by kernel_rfl) (by simp) ?_
    refine AllReadyH.cons rfl (fun K hK => ?_) AllReadyH.nil
    simp only [List.getElem_toArray, List.getElem_cons_zero, List.getElem_cons_succ]
    go_simp
    have hh := E.has s O L cs id word _ (hHeld.reads HR.out) HLs.out.1 HLs.out.2 HI.out HP.out hHeld.b
    rw [HHx.out] at hh
    refine hh.mono ?_
    clear hh
    rintro en wA ⟨rfl, hbA⟩
    go_wp2_with fail
    have hHeld := hHeld.keep hbA
    clear hbA
    refine hK.out _ _ hHeld (fun _ => ?_)
    clear hK K
    try simp only [Act.put, List.setIfInBounds_toArray, List.set_cons_zero, List.set_cons_succ]
    refine wpAnyH_take (i := 5) (v := ?_) rfl (by kernel_rfl) (by kernel_rfl) (by kernel_rfl) (fun _ _ _ h => h) (Or.inl ⟨by rfl, ?_⟩) hHeld ?_
    rotate_left
    · (intro w hSw; go_simp; (try with_reducible rfl))
    simp only [Act.put, List.getElem_toArray, List.getElem_cons_zero, List.getElem_cons_succ, List.setIfInBounds_toArray, List.set_cons_zero, List.set_cons_succ]
    refine wpAnyH_take (i := 6) (v := ?_) rfl (by kernel_rfl) (by kernel_rfl) (by kernel_rfl) (fun _ _ _ h => h) (Or.inl ⟨by rfl, ?_⟩) hHeld ?_
    rotate_left
    · (intro w hSw; go_simp; (try with_reducible rfl))
    simp only [Act.put, List.getElem_toArray, List.getElem_cons_zero, List.getElem_cons_succ, List.setIfInBounds_toArray, List.set_cons_zero, List.set_cons_succ]
    refine wpAnyH_take (i := 7) (v := .agg cs) rfl (by kernel_rfl) (by kernel_rfl) (by kernel_rfl) (fun _ _ _ h => h) (yields_st (by rfl) (.tmp 3) rfl gs rfl cs hcs (fun W hW => SW.a hW)) hHeld ?_
    simp only [Act.put, List.getElem_toArray, List.getElem_cons_zero, List.getElem_cons_succ, List.setIfInBounds_toArray, List.set_cons_zero, List.set_cons_succ]
    refine wpAnyH_take (i := 8) (v := ?_) rfl (by kernel_rfl) (by kernel_rfl) (by kernel_rfl) (fun _ _ _ h => h) (Or.inl ⟨by rfl, ?_⟩) hHeld ?_
    rotate_left
    · (intro w hSw; go_simp; (try with_reducible rfl))
    simp only [Act.put, List.getElem_toArray, List.getElem_cons_zero, List.getElem_cons_succ, List.setIfInBounds_toArray, List.set_cons_zero, List.set_cons_succ]
    refine wpAnyH_take (i := 10) (v := .agg cs) rfl (by kernel_rfl) (by kernel_rfl) (by kernel_rfl) (fun _ _ _ h => h) (yields_st (by rfl) (.tmp 3) rfl gs rfl cs hcs (fun W hW => SW.a hW)) hHeld ?_
    simp only [Act.put, List.getElem_toArray, List.getElem_cons_zero, List.getElem_cons_succ, List.setIfInBounds_toArray, List.set_cons_zero, List.set_cons_succ]
    refine wpAnyH_take (i := 11) (v := ?_) rfl (by kernel_rfl) (by kernel_rfl) (by kernel_rfl) (fun _ _ _ h => h) (Or.inl ⟨by rfl, ?_⟩) hHeld ?_
    rotate_left
    · (intro w hSw; go_simp; (try with_reducible rfl))
    simp only [Act.put, List.getElem_toArray, List.getElem_cons_zero, List.getElem_cons_succ, List.setIfInBounds_toArray, List.set_cons_zero, List.set_cons_succ]
    refine wpAnyH_ready (rs := [9]) (by kernel_rfl) (by simp) ?_
    refine AllReadyH.cons rfl (fun K hK => ?_) AllReadyH.nil
    simp only [List.getElem_toArray, List.getElem_cons_zero, List.getElem_cons_succ]
    go_simp
    have hbe := E.beasts s O L cs word _ (hHeld.reads HR.out) HLs.out.1 HLs.out.2 HP.out hHeld.b
    unfold ShIP at hbe
    rw [show beastT s word = beastS s word from if_pos HBad.out.symm] at hbe
    refine hbe.mono ?_
    clear hbe
    rintro en wB ⟨A1, n1, c1, rfl, hc1, hN1, hbB⟩
    go_wp2_with fail
    have hHeld := hHeld.keep hbB
    have HN1 := Lib.hid hN1
    clear hbB hN1
    refine hK.out _ _ hHeld (fun _ => ?_)
    clear hK K
    try simp only [Act.put, List.setIfInBounds_toArray, List.set_cons_zero, List.set_cons_succ]
    refine wpAnyH_ready (rs := [12]) (by kernel_rfl) (by simp) ?_
    refine AllReadyH.cons rfl (fun K hK => ?_) AllReadyH.nil
    simp only [List.getElem_toArray, List.getElem_cons_zero, List.getElem_cons_succ]
    go_simp
    have hbr := beastsRef_any s O L cs word _ (hHeld.reads HR.out) HLm.out.1 (HLm.out.2 8 (by omega))
    refine hbr.mono ?_
    clear hbr
    rintro en wC ⟨A2, n2, c2, rfl, hc2, hN2, hbC⟩
    go_wp2_with fail
    have hHeld := hHeld.keep hbC
    have HN := Lib.hid (And.intro (HN1.out.belowL hbC (Nat.le_refl _)) hN2)
    clear hbC HN1 hN2
    refine hK.out _ _ hHeld (fun _ => ?_)
    clear hK K
    try simp only [Act.put, List.setIfInBounds_toArray, List.set_cons_zero, List.set_cons_succ]
    refine wpAnyH_ready (rs := [13]) (by kernel_rfl) (by simp) ?_
    refine AllReadyH.cons rfl (fun K hK => ?_) AllReadyH.nil
    simp only [List.getElem_toArray, List.getElem_cons_zero, List.getElem_cons_succ]
    go_simp
    have hin := ints_any A1 A2 n1 c1 n2 c2 _ _ _ _ _ HN.out.1 HN.out.2 (by have h1 := HN.out.1.len; have h2 := beastS_len s word; have h3 := HLs.out.2 8 (by omega); omega) (by have h1 := HN.out.2.len; have h2 := beastS_len s word; have h3 := HLs.out.2 8 (by omega); omega)
    rw [decide_eq_true rfl] at hin
    refine hin.mono ?_
    clear hin
    rintro en wD ⟨rfl, mm, rfl⟩
    go_wp2_with fail
    have hHeld := hHeld.keep (below_drewN (Below.refl _ _) mm)
    clear HN
    refine hK.out _ _ hHeld (fun _ => ?_)
    clear hK K
    try simp only [Act.put, List.setIfInBounds_toArray, List.set_cons_zero, List.set_cons_succ]
    refine wpAnyH_take (i := 14) (v := ?_) rfl (by kernel_rfl) (by kernel_rfl) (by kernel_rfl) (fun _ _ _ h => h) (Or.inl ⟨by rfl, ?_⟩) hHeld ?_
    rotate_left
    · (intro w hSw; go_simp; (try with_reducible rfl))
    simp only [Act.put, List.getElem_toArray, List.getElem_cons_zero, List.getElem_cons_succ, List.setIfInBounds_toArray, List.set_cons_zero, List.set_cons_succ]
    refine wpAnyH_take (i := 15) (v := ?_) rfl (by kernel_rfl) (by kernel_rfl) (by kernel_rfl) (fun _ _ _ h => h) (Or.inl ⟨by rfl, ?_⟩) hHeld ?_
    rotate_left
    · (intro w hSw; go_simp; (try with_reducible rfl))
    simp only [Act.put, List.getElem_toArray, List.getElem_cons_zero, List.getElem_cons_succ, List.setIfInBounds_toArray, List.set_cons_zero, List.set_cons_succ]
    refine wpAnyH_take (i := 16) (v := .agg cs) rfl (by kernel_rfl) (by kernel_rfl) (by kernel_rfl) (fun _ _ _ h => h) (yields_st (by rfl) (.tmp 3) rfl gs rfl cs hcs (fun W hW => SW.a hW)) hHeld ?_
    simp only [Act.put, List.getElem_toArray, List.getElem_cons_zero, List.getElem_cons_succ, List.setIfInBounds_toArray, List.set_cons_zero, List.set_cons_succ]
    refine wpAnyH_take (i := 18) (v := .agg cs) rfl (by kernel_rfl) (by kernel_rfl) (by kernel_rfl) (fun _ _ _ h => h) (yields_st (by rfl) (.tmp 3) rfl gs rfl cs hcs (fun W hW => SW.a hW)) hHeld ?_
    simp only [Act.put, List.getElem_toArray, List.getElem_cons_zero, List.getElem_cons_succ, List.setIfInBounds_toArray, List.set_cons_zero, List.set_cons_succ]
    refine wpAnyH_ready (rs := [17]) (by kernel_rfl) (by simp) ?_
    refine AllReadyH.cons rfl (fun K hK => ?_) AllReadyH.nil
    simp only [List.getElem_toArray, List.getElem_cons_zero, List.getElem_cons_succ]
    go_simp
    have hst := E.statics s O L cs _ (hHeld.reads HR.out) HLs.out.1 HLs.out.2 hHeld.b
    rw [show statT s = (statS s).length from if_pos HBad.out.symm] at hst
    refine hst.mono ?_
    clear hst
    rintro en wF ⟨rfl, hbF⟩
    go_wp2_with fail
    have hHeld := hHeld.keep hbF
    clear hbF
    refine hK.out _ _ hHeld (fun _ => ?_)
    clear hK K
    try simp only [Act.put, List.setIfInBounds_toArray, List.set_cons_zero, List.set_cons_succ]
    refine wpAnyH_ready (rs := [19]) (by kernel_rfl) (by simp) ?_
    refine AllReadyH.cons rfl (fun K hK => ?_) AllReadyH.nil
    simp only [List.getElem_toArray, List.getElem_cons_zero, List.getElem_cons_succ]
    go_simp
    have hsr := staticsRef_any s O L cs _ (hHeld.reads HR.out) (HLm.out.2 8 (by omega)) (fun x hx => right_in HBad.out.symm (z := 8) (by omega) hx)
    unfold StsP at hsr
    refine hsr.mono ?_
    clear hsr
    rintro en wG ⟨A3, n3, c3, rfl, hc3, hI3⟩
    go_wp2_with fail
    obtain rfl : n3 = (statS s).length := hI3.n_
    have hHeld := hHeld.keep hI3.b
    clear hI3
    refine hK.out _ _ hHeld (fun _ => ?_)
    clear hK K
    try simp only [Act.put, List.setIfInBounds_toArray, List.set_cons_zero, List.set_cons_succ]
    refine wpAnyH_take (i := 20) (v := ?_) rfl (by kernel_rfl) (by kernel_rfl) (by kernel_rfl) (fun _ _ _ h => h) (Or.inl ⟨by rfl, ?_⟩) hHeld ?_
    rotate_left
    · (intro w hSw; go_simp; (try with_reducible rfl))
    simp only [Act.put, List.getElem_toArray, List.getElem_cons_zero, List.getElem_cons_succ, List.setIfInBounds_toArray, List.set_cons_zero, List.set_cons_succ]
    refine wpAnyH_take (i := 21) (v := ?_) rfl (by kernel_rfl) (by kernel_rfl) (by kernel_rfl) (fun _ _ _ h => h) (Or.inl ⟨by rfl, ?_⟩) hHeld ?_
    rotate_left
    · (intro w hSw; go_simp; (try with_reducible rfl))
    simp only [Act.put, List.getElem_toArray, List.getElem_cons_zero, List.getElem_cons_succ, List.setIfInBounds_toArray, List.set_cons_zero, List.set_cons_succ]
    refine wpAnyH_take (i := 22) (v := ?_) rfl (by kernel_rfl) (by kernel_rfl) (by kernel_rfl) (fun _ _ _ h => h) (Or.inl ⟨by rfl, ?_⟩) hHeld ?_
    rotate_left
    · (intro w hSw; go_simp; (try with_reducible rfl))
    simp only [Act.put, List.getElem_toArray, List.getElem_cons_zero, List.getElem_cons_succ, List.setIfInBounds_toArray, List.set_cons_zero, List.set_cons_succ]
    refine wpAnyH_take (i := 23) (v := ?_) rfl (by kernel_rfl) (by kernel_rfl) (by kernel_rfl) (fun _ _ _ h => h) (Or.inl ⟨by rfl, ?_⟩) hHeld ?_
    rotate_left
    · (intro w hSw; go_simp; (try with_reducible rfl))
    simp only [Act.put, List.getElem_toArray, List.getElem_cons_zero, List.getElem_cons_succ, List.setIfInBounds_toArray, List.set_cons_zero, List.set_cons_succ]
    refine wpAnyH_done (by kernel_rfl) ?_ _
    have HF := Lib.hid hHeld.b
    clear hHeld
    go_wp2_with fail
    go_ret
    exact ⟨rfl, HF.out⟩
  obtain ⟨wd, rfl⟩ : ∃ n : Nat, word = (n : Int) := ⟨word.toNat, by omega⟩
  have hin := isB_in HQB.out.symm
  have hbd := ofS_bd HBad.out.symm hin (HLm.out.2 8 (by omega))
  have hnum := right_objS HBad.out.symm hin
  have hofr := ofRef_any s O L cs id w5 (HW5.out.reads HR.out) (HLm.out.2 8 (by omega)) (fun x hx => right_in HBad.out.symm (z := 8) (by omega) hx) hin HLm.out.1 hnum.2.2
  obtain ⟨u, hu⟩ : ∃ u, u = (ofS s id).2.2 := ⟨_, rfl⟩
  have hsv : shV (ofS s id) = #[.int .i64 (ofS s id).1, .int .i64 (ofS s id).2.1, .int .i64 (u : Int)] := by unfold shV; rw [hu]
  have hu256 : u < 256 := by rw [hu]; exact hbd.2.2.2.2
  have HH := Lib.hid (show hasT s id (wd : Int) = bitsB wd u 8 from by unfold hasT; rw [HQ.out, decide_eq_true hw1, decide_eq_true hw2, Int.toNat_natCast, hu]; rfl)
  rw [hsv] at hofr
  generalize (ofS s id).1 = v1 at hofr
  generalize (ofS s id).2.1 = v2 at hofr
  have HU := Lib.hid hu256
  have HW12 := Lib.hid (And.intro hw1 hw2)
  have hsa := HW5.out.a
  have hfl := field_sh v1 v2 (u : Int)
  clear hu hsv hbd hnum hin HQB hu256
  go_wp2_with (refine load_wantS (by rfl) (.tmp 3) rfl gs rfl cs hsa hcs ?_)
  refine hofr.mono ?_
  rintro en w6 ⟨rfl, hb6⟩
  have HW6 := Lib.hid (HW5.out.keep hb6)
  clear hofr hsa hb6 HW5 hw1 hw2
  go_upto_region 10 with fail
  have HB0 := Lib.hid (show bitsB wd u 0 = true from rfl)
  have HP0 := Lib.hid (show wd = wd / 2 ^ 0 ∧ u = u / 2 ^ 0 from ⟨by simp, by simp⟩)
  go_loopw [7, 8, 9] (fun h v ws wr => ∃ (i a b : Nat) (x : Bool), h = .bool x ∧ v = .int .i64 (a : Int) ∧ ws = .int .i64 (b : Int) ∧ i ≤ 8 ∧ Hid (bitsB wd u i = x) ∧ Hid (a = wd / 2 ^ i ∧ b = u / 2 ^ i) ∧ wr = w6) (fun _ v _ _ => (intOf v).toNat)
  case atStart => exact ⟨0, wd, u, true, rfl, rfl, rfl, by omega, HB0, HP0, rfl⟩
  case round =>
    clear HB0 HP0
    obtain ⟨i, a, b, x, rfl, rfl, rfl, hi, HBi, HAB, rfl⟩ := hrel
    by_cases ha : a = 0
    · subst ha
      have HX := Lib.hid (show bitsB wd u 8 = x from by rw [← HBi.out]; exact (bitsB_end hi HAB.out.1.symm).symm)
      have HH := Lib.hid (show hasT s id (wd : Int) = x from HH.out.trans HX.out)
      have HWT := HW6
      clear HBi HAB HX hi HU HW12 hfl HW6
      obtain ⟨xx, hx⟩ : ∃ xx : Bool, xx = x := ⟨_, rfl⟩
      have hxx : (xx == xx) = true := beq_self_eq_true _
      have HHx := Lib.hid (show hasT s id (wd : Int) = xx from by rw [hx]; exact HH.out)
      go_upto_region 13 with fail
      rw [← hx]
      clear hx HH
      refine wp_region_held_drew (S := fun W => SW w gs cs W) (by kernel_rfl) (show SW w gs cs (World.drew wr) from HWT.out.keep (Below.refl _ _).drew) (fun hHeld => ?_)
      clear HWT
      refine wpAnyH_take (i := 0) (v := .agg cs) rfl (by kernel_rfl) (by kernel_rfl) (by kernel_rfl) (fun _ _ _ h => h) (yields_st (by rfl) (.tmp 3) rfl gs rfl cs hcs (fun W hW => SW.a hW)) hHeld ?_
      simp only [Act.put, List.getElem_toArray, List.getElem_cons_zero, List.getElem_cons_succ, List.setIfInBounds_toArray, List.set_cons_zero, List.set_cons_succ]
      refine wpAnyH_take (i := 1) (v := ?_) rfl (by kernel_rfl) (by kernel_rfl) (by kernel_rfl) (fun _ _ _ h => h) (Or.inl ⟨by rfl, ?_⟩) hHeld ?_
      rotate_left
      · (intro w hSw; go_simp; (try with_reducible rfl))
      simp only [Act.put, List.getElem_toArray, List.getElem_cons_zero, List.getElem_cons_succ, List.setIfInBounds_toArray, List.set_cons_zero, List.set_cons_succ]
      refine wpAnyH_take (i := 2) (v := ?_) rfl (by kernel_rfl) (by kernel_rfl) (by kernel_rfl) (fun _ _ _ h => h) (Or.inl ⟨by rfl, ?_⟩) hHeld ?_
      rotate_left
      · (intro w hSw; go_simp; (try with_reducible rfl))
      simp only [Act.put, List.getElem_toArray, List.getElem_cons_zero, List.getElem_cons_succ, List.setIfInBounds_toArray, List.set_cons_zero, List.set_cons_succ]
      refine wpAnyH_take (i := 4) (v := ?_) rfl (by kernel_rfl) (by kernel_rfl) (by kernel_rfl) (fun _ _ _ h => h) (Or.inl ⟨by rfl, ?_⟩) hHeld ?_
      rotate_left
      · (intro w hSw; go_simp; (try with_reducible rfl))
      simp only [Act.put, List.getElem_toArray, List.getElem_cons_zero, List.getElem_cons_succ, List.setIfInBounds_toArray, List.set_cons_zero, List.set_cons_succ]
      refine wpAnyH_ready (rs := [3]) (by kernel_rfl) (by simp) ?_
      refine AllReadyH.cons rfl (fun K hK => ?_) AllReadyH.nil
      simp only [List.getElem_toArray, List.getElem_cons_zero, List.getElem_cons_succ]
      go_simp
      have hh := E.has s O L cs id (wd : Int) _ (hHeld.reads HR.out) HLs.out.1 HLs.out.2 HI.out HP.out hHeld.b
      rw [HHx.out] at hh
      refine hh.mono ?_
      clear hh
      rintro en wA ⟨rfl, hbA⟩
      go_wp2_with fail
      have hHeld := hHeld.keep hbA
      clear hbA
      refine hK.out _ _ hHeld (fun _ => ?_)
      clear hK K
      try simp only [Act.put, List.setIfInBounds_toArray, List.set_cons_zero, List.set_cons_succ]
      refine wpAnyH_take (i := 5) (v := ?_) rfl (by kernel_rfl) (by kernel_rfl) (by kernel_rfl) (fun _ _ _ h => h) (Or.inl ⟨by rfl, ?_⟩) hHeld ?_
      rotate_left
      · (intro w hSw; go_simp; (try with_reducible rfl))
      simp only [Act.put, List.getElem_toArray, List.getElem_cons_zero, List.getElem_cons_succ, List.setIfInBounds_toArray, List.set_cons_zero, List.set_cons_succ]
      refine wpAnyH_take (i := 6) (v := ?_) rfl (by kernel_rfl) (by kernel_rfl) (by kernel_rfl) (fun _ _ _ h => h) (Or.inl ⟨by rfl, ?_⟩) hHeld ?_
      rotate_left
      · (intro w hSw; go_simp; (try with_reducible rfl))
      simp only [Act.put, List.getElem_toArray, List.getElem_cons_zero, List.getElem_cons_succ, List.setIfInBounds_toArray, List.set_cons_zero, List.set_cons_succ]
      refine wpAnyH_take (i := 7) (v := .agg cs) rfl (by kernel_rfl) (by kernel_rfl) (by kernel_rfl) (fun _ _ _ h => h) (yields_st (by rfl) (.tmp 3) rfl gs rfl cs hcs (fun W hW => SW.a hW)) hHeld ?_
      simp only [Act.put, List.getElem_toArray, List.getElem_cons_zero, List.getElem_cons_succ, List.setIfInBounds_toArray, List.set_cons_zero, List.set_cons_succ]
      refine wpAnyH_take (i := 8) (v := ?_) rfl (by kernel_rfl) (by kernel_rfl) (by kernel_rfl) (fun _ _ _ h => h) (Or.inl ⟨by rfl, ?_⟩) hHeld ?_
      rotate_left
      · (intro w hSw; go_simp; (try with_reducible rfl))
      simp only [Act.put, List.getElem_toArray, List.getElem_cons_zero, List.getElem_cons_succ, List.setIfInBounds_toArray, List.set_cons_zero, List.set_cons_succ]
      refine wpAnyH_take (i := 10) (v := .agg cs) rfl (by kernel_rfl) (by kernel_rfl) (by kernel_rfl) (fun _ _ _ h => h) (yields_st (by rfl) (.tmp 3) rfl gs rfl cs hcs (fun W hW => SW.a hW)) hHeld ?_
      simp only [Act.put, List.getElem_toArray, List.getElem_cons_zero, List.getElem_cons_succ, List.setIfInBounds_toArray, List.set_cons_zero, List.set_cons_succ]
      refine wpAnyH_take (i := 11) (v := ?_) rfl (by kernel_rfl) (by kernel_rfl) (by kernel_rfl) (fun _ _ _ h => h) (Or.inl ⟨by rfl, ?_⟩) hHeld ?_
      rotate_left
      · (intro w hSw; go_simp; (try with_reducible rfl))
      simp only [Act.put, List.getElem_toArray, List.getElem_cons_zero, List.getElem_cons_succ, List.setIfInBounds_toArray, List.set_cons_zero, List.set_cons_succ]
      refine wpAnyH_ready (rs := [9]) (by kernel_rfl) (by simp) ?_
      refine AllReadyH.cons rfl (fun K hK => ?_) AllReadyH.nil
      simp only [List.getElem_toArray, List.getElem_cons_zero, List.getElem_cons_succ]
      go_simp
      have hbe := E.beasts s O L cs (wd : Int) _ (hHeld.reads HR.out) HLs.out.1 HLs.out.2 HP.out hHeld.b
      unfold ShIP at hbe
      rw [show beastT s (wd : Int) = beastS s (wd : Int) from if_pos HBad.out.symm] at hbe
      refine hbe.mono ?_
      clear hbe
      rintro en wB ⟨A1, n1, c1, rfl, hc1, hN1, hbB⟩
      go_wp2_with fail
      have hHeld := hHeld.keep hbB
      have HN1 := Lib.hid hN1
      clear hbB hN1
      refine hK.out _ _ hHeld (fun _ => ?_)
      clear hK K
      try simp only [Act.put, List.setIfInBounds_toArray, List.set_cons_zero, List.set_cons_succ]
      refine wpAnyH_ready (rs := [12]) (by kernel_rfl) (by simp) ?_
      refine AllReadyH.cons rfl (fun K hK => ?_) AllReadyH.nil
      simp only [List.getElem_toArray, List.getElem_cons_zero, List.getElem_cons_succ]
      go_simp
      have hbr := beastsRef_any s O L cs (wd : Int) _ (hHeld.reads HR.out) HLm.out.1 (HLm.out.2 8 (by omega))
      refine hbr.mono ?_
      clear hbr
      rintro en wC ⟨A2, n2, c2, rfl, hc2, hN2, hbC⟩
      go_wp2_with fail
      have hHeld := hHeld.keep hbC
      have HN := Lib.hid (And.intro (HN1.out.belowL hbC (Nat.le_refl _)) hN2)
      clear hbC HN1 hN2
      refine hK.out _ _ hHeld (fun _ => ?_)
      clear hK K
      try simp only [Act.put, List.setIfInBounds_toArray, List.set_cons_zero, List.set_cons_succ]
      refine wpAnyH_ready (rs := [13]) (by kernel_rfl) (by simp) ?_
      refine AllReadyH.cons rfl (fun K hK => ?_) AllReadyH.nil
      simp only [List.getElem_toArray, List.getElem_cons_zero, List.getElem_cons_succ]
      go_simp
      have hin := ints_any A1 A2 n1 c1 n2 c2 _ _ _ _ _ HN.out.1 HN.out.2 (by have h1 := HN.out.1.len; have h2 := beastS_len s (wd : Int); have h3 := HLs.out.2 8 (by omega); omega) (by have h1 := HN.out.2.len; have h2 := beastS_len s (wd : Int); have h3 := HLs.out.2 8 (by omega); omega)
      rw [decide_eq_true rfl] at hin
      refine hin.mono ?_
      clear hin
      rintro en wD ⟨rfl, mm, rfl⟩
      go_wp2_with fail
      have hHeld := hHeld.keep (below_drewN (Below.refl _ _) mm)
      clear HN
      refine hK.out _ _ hHeld (fun _ => ?_)
      clear hK K
      try simp only [Act.put, List.setIfInBounds_toArray, List.set_cons_zero, List.set_cons_succ]
      refine wpAnyH_take (i := 14) (v := ?_) rfl (by kernel_rfl) (by kernel_rfl) (by kernel_rfl) (fun _ _ _ h => h) (Or.inl ⟨by rfl, ?_⟩) hHeld ?_
      rotate_left
      · (intro w hSw; go_simp; (try with_reducible rfl))
      simp only [Act.put, List.getElem_toArray, List.getElem_cons_zero, List.getElem_cons_succ, List.setIfInBounds_toArray, List.set_cons_zero, List.set_cons_succ]
      refine wpAnyH_take (i := 15) (v := ?_) rfl (by kernel_rfl) (by kernel_rfl) (by kernel_rfl) (fun _ _ _ h => h) (Or.inl ⟨by rfl, ?_⟩) hHeld ?_
      rotate_left
      · (intro w hSw; go_simp; (try with_reducible rfl))
      simp only [Act.put, List.getElem_toArray, List.getElem_cons_zero, List.getElem_cons_succ, List.setIfInBounds_toArray, List.set_cons_zero, List.set_cons_succ]
      refine wpAnyH_take (i := 16) (v := .agg cs) rfl (by kernel_rfl) (by kernel_rfl) (by kernel_rfl) (fun _ _ _ h => h) (yields_st (by rfl) (.tmp 3) rfl gs rfl cs hcs (fun W hW => SW.a hW)) hHeld ?_
      simp only [Act.put, List.getElem_toArray, List.getElem_cons_zero, List.getElem_cons_succ, List.setIfInBounds_toArray, List.set_cons_zero, List.set_cons_succ]
      refine wpAnyH_take (i := 18) (v := .agg cs) rfl (by kernel_rfl) (by kernel_rfl) (by kernel_rfl) (fun _ _ _ h => h) (yields_st (by rfl) (.tmp 3) rfl gs rfl cs hcs (fun W hW => SW.a hW)) hHeld ?_
      simp only [Act.put, List.getElem_toArray, List.getElem_cons_zero, List.getElem_cons_succ, List.setIfInBounds_toArray, List.set_cons_zero, List.set_cons_succ]
      refine wpAnyH_ready (rs := [17]) (by kernel_rfl) (by simp) ?_
      refine AllReadyH.cons rfl (fun K hK => ?_) AllReadyH.nil
      simp only [List.getElem_toArray, List.getElem_cons_zero, List.getElem_cons_succ]
      go_simp
      have hst := E.statics s O L cs _ (hHeld.reads HR.out) HLs.out.1 HLs.out.2 hHeld.b
      rw [show statT s = (statS s).length from if_pos HBad.out.symm] at hst
      refine hst.mono ?_
      clear hst
      rintro en wF ⟨rfl, hbF⟩
      go_wp2_with fail
      have hHeld := hHeld.keep hbF
      clear hbF
      refine hK.out _ _ hHeld (fun _ => ?_)
      clear hK K
      try simp only [Act.put, List.setIfInBounds_toArray, List.set_cons_zero, List.set_cons_succ]
      refine wpAnyH_ready (rs := [19]) (by kernel_rfl) (by simp) ?_
      refine AllReadyH.cons rfl (fun K hK => ?_) AllReadyH.nil
      simp only [List.getElem_toArray, List.getElem_cons_zero, List.getElem_cons_succ]
      go_simp
      have hsr := staticsRef_any s O L cs _ (hHeld.reads HR.out) (HLm.out.2 8 (by omega)) (fun x hx => right_in HBad.out.symm (z := 8) (by omega) hx)
      unfold StsP at hsr
      refine hsr.mono ?_
      clear hsr
      rintro en wG ⟨A3, n3, c3, rfl, hc3, hI3⟩
      go_wp2_with fail
      obtain rfl : n3 = (statS s).length := hI3.n_
      have hHeld := hHeld.keep hI3.b
      clear hI3
      refine hK.out _ _ hHeld (fun _ => ?_)
      clear hK K
      try simp only [Act.put, List.setIfInBounds_toArray, List.set_cons_zero, List.set_cons_succ]
      refine wpAnyH_take (i := 20) (v := ?_) rfl (by kernel_rfl) (by kernel_rfl) (by kernel_rfl) (fun _ _ _ h => h) (Or.inl ⟨by rfl, ?_⟩) hHeld ?_
      rotate_left
      · (intro w hSw; go_simp; (try with_reducible rfl))
      simp only [Act.put, List.getElem_toArray, List.getElem_cons_zero, List.getElem_cons_succ, List.setIfInBounds_toArray, List.set_cons_zero, List.set_cons_succ]
      refine wpAnyH_take (i := 21) (v := ?_) rfl (by kernel_rfl) (by kernel_rfl) (by kernel_rfl) (fun _ _ _ h => h) (Or.inl ⟨by rfl, ?_⟩) hHeld ?_
      rotate_left
      · (intro w hSw; go_simp; (try with_reducible rfl))
      simp only [Act.put, List.getElem_toArray, List.getElem_cons_zero, List.getElem_cons_succ, List.setIfInBounds_toArray, List.set_cons_zero, List.set_cons_succ]
      refine wpAnyH_take (i := 22) (v := ?_) rfl (by kernel_rfl) (by kernel_rfl) (by kernel_rfl) (fun _ _ _ h => h) (Or.inl ⟨by rfl, ?_⟩) hHeld ?_
      rotate_left
      · (intro w hSw; go_simp; (try with_reducible rfl))
      simp only [Act.put, List.getElem_toArray, List.getElem_cons_zero, List.getElem_cons_succ, List.setIfInBounds_toArray, List.set_cons_zero, List.set_cons_succ]
      refine wpAnyH_take (i := 23) (v := ?_) rfl (by kernel_rfl) (by kernel_rfl) (by kernel_rfl) (fun _ _ _ h => h) (Or.inl ⟨by rfl, ?_⟩) hHeld ?_
      rotate_left
      · (intro w hSw; go_simp; (try with_reducible rfl))
      simp only [Act.put, List.getElem_toArray, List.getElem_cons_zero, List.getElem_cons_succ, List.setIfInBounds_toArray, List.set_cons_zero, List.set_cons_succ]
      refine wpAnyH_done (by kernel_rfl) ?_ _
      have HF := Lib.hid hHeld.b
      clear hHeld
      go_wp2_with fail
      go_ret
      exact ⟨rfl, HF.out⟩
    · have hda : decide ((0 : Int) < (a : Int)) = true := by simp; omega
      have hda2 : decide (0 < a) = true := by simp; omega
      have hi8 : i < 8 := by
        have h1 := HAB.out.1
        have h2 := HW12.out.2
        rcases Nat.lt_or_ge i 8 with h | h
        · exact h
        · exfalso
          obtain rfl : i = 8 := by omega
          rw [show (2 : Nat) ^ 8 = 256 from rfl] at h1
          omega
      have HNx := Lib.hid (show bitsB wd u (i + 1) = (x && (!(decide (a % 2 = 1)) || decide (b % 2 = 1))) from by rw [bitsB_step, HBi.out, bit_odd, bit_odd, ← HAB.out.1, ← HAB.out.2])
      have HAB2 := Lib.hid (show a / 2 = wd / 2 ^ (i + 1) ∧ b / 2 = u / 2 ^ (i + 1) from ⟨by rw [half_step, ← HAB.out.1], by rw [half_step, ← HAB.out.2]⟩)
      obtain ⟨a2, ha2⟩ : ∃ n, n = a / 2 := ⟨_, rfl⟩
      obtain ⟨b2, hb2⟩ : ∃ n, n = b / 2 := ⟨_, rfl⟩
      have hqa : (a : Int).tdiv 2 = (a2 : Int) := by rw [Int.tdiv_eq_ediv_of_nonneg (by omega)]; omega
      have hqb : (b : Int).tdiv 2 = (b2 : Int) := by rw [Int.tdiv_eq_ediv_of_nonneg (by omega)]; omega
      have hsa2 : a ≤ 255 ∧ b ≤ 255 := by
        have h1 := HAB.out.1
        have h2 := HAB.out.2
        have h3 := Nat.div_le_self wd (2 ^ i)
        have h4 := Nat.div_le_self u (2 ^ i)
        have h5 := HW12.out.2
        have h6 := HU.out
        omega
      have hwa : IntKind.i64.wrap (a2 : Int) = (a2 : Int) := i64_in (by omega) (by omega)
      have hwb : IntKind.i64.wrap (b2 : Int) = (b2 : Int) := i64_in (by omega) (by omega)
      have HM := Lib.hid (show a2 < a by omega)
      rw [← ha2, ← hb2] at HAB2
      clear hfl HBi HAB
      by_cases hb : b % 2 = 1
      · have e2 : (b : Int).tmod 2 = 1 := by rw [Int.tmod_eq_emod_of_nonneg (by omega)]; omega
        by_cases hao : a % 2 = 1
        · have e1 : (a : Int).tmod 2 = 1 := by rw [Int.tmod_eq_emod_of_nonneg (by omega)]; omega
          rw [decide_eq_true hao, decide_eq_true hb] at HNx
          clear hao hb ha2 hb2 hsa2 ha
          cases x with
          | false =>
            have HNy := Lib.hid (show bitsB wd u (i + 1) = false from HNx.out)
            clear HNx
            go_wp2_with fail
            go_roundw
            case rel => exact ⟨i + 1, a2, b2, _, rfl, rfl, rfl, by omega, HNy, HAB2, by trivial⟩
            case measure => have := HM.out; simp [intOf]; omega
          | true =>
            have HNy := Lib.hid (show bitsB wd u (i + 1) = true from HNx.out)
            clear HNx
            go_wp2_with fail
            go_roundw
            case rel => exact ⟨i + 1, a2, b2, _, rfl, rfl, rfl, by omega, HNy, HAB2, by trivial⟩
            case measure => have := HM.out; simp [intOf]; omega
        · have e1 : (a : Int).tmod 2 = 0 := by rw [Int.tmod_eq_emod_of_nonneg (by omega)]; omega
          rw [decide_eq_false hao, decide_eq_true hb] at HNx
          clear hao hb ha2 hb2 hsa2 ha
          cases x with
          | false =>
            have HNy := Lib.hid (show bitsB wd u (i + 1) = false from HNx.out)
            clear HNx
            go_wp2_with fail
            go_roundw
            case rel => exact ⟨i + 1, a2, b2, _, rfl, rfl, rfl, by omega, HNy, HAB2, by trivial⟩
            case measure => have := HM.out; simp [intOf]; omega
          | true =>
            have HNy := Lib.hid (show bitsB wd u (i + 1) = true from HNx.out)
            clear HNx
            go_wp2_with fail
            go_roundw
            case rel => exact ⟨i + 1, a2, b2, _, rfl, rfl, rfl, by omega, HNy, HAB2, by trivial⟩
            case measure => have := HM.out; simp [intOf]; omega
      · have e2 : (b : Int).tmod 2 = 0 := by rw [Int.tmod_eq_emod_of_nonneg (by omega)]; omega
        by_cases hao : a % 2 = 1
        · have e1 : (a : Int).tmod 2 = 1 := by rw [Int.tmod_eq_emod_of_nonneg (by omega)]; omega
          rw [decide_eq_true hao, decide_eq_false hb] at HNx
          clear hao hb ha2 hb2 hsa2 ha
          cases x with
          | false =>
            have HNy := Lib.hid (show bitsB wd u (i + 1) = false from HNx.out)
            clear HNx
            go_wp2_with fail
            go_roundw
            case rel => exact ⟨i + 1, a2, b2, _, rfl, rfl, rfl, by omega, HNy, HAB2, by trivial⟩
            case measure => have := HM.out; simp [intOf]; omega
          | true =>
            have HNy := Lib.hid (show bitsB wd u (i + 1) = false from HNx.out)
            clear HNx
            go_wp2_with fail
            go_roundw
            case rel => exact ⟨i + 1, a2, b2, _, rfl, rfl, rfl, by omega, HNy, HAB2, by trivial⟩
            case measure => have := HM.out; simp [intOf]; omega
        · have e1 : (a : Int).tmod 2 = 0 := by rw [Int.tmod_eq_emod_of_nonneg (by omega)]; omega
          rw [decide_eq_false hao, decide_eq_false hb] at HNx
          clear hao hb ha2 hb2 hsa2 ha
          cases x with
          | false =>
            have HNy := Lib.hid (show bitsB wd u (i + 1) = false from HNx.out)
            clear HNx
            go_wp2_with fail
            go_roundw
            case rel => exact ⟨i + 1, a2, b2, _, rfl, rfl, rfl, by omega, HNy, HAB2, by trivial⟩
            case measure => have := HM.out; simp [intOf]; omega
          | true =>
            have HNy := Lib.hid (show bitsB wd u (i + 1) = true from HNx.out)
            clear HNx
            go_wp2_with fail
            go_roundw
            case rel => exact ⟨i + 1, a2, b2, _, rfl, rfl, rfl, by omega, HNy, HAB2, by trivial⟩
            case measure => have := HM.out; simp [intOf]; omega
end Go.Proofs.YtplfblccaeligaaDoor
