/- Layer 7: contracts of card's costs, of whether an ability is right, of Uses and Aims. -/
import Derived.Test.YtmdfgkfimlmmnaaDoorCardC1
import Derived.Test.YtmdfgkfimlmmnaaDoorTreeC4
namespace Go.Proofs.YtmdfgkfimlmmnaaDoor
open Go.RowKit Ex Mx
namespace Ex
theorem sumW_six {f : Nat → Int} (h : GoodC f) : sumW f 6 = f 0 + f 1 + f 2 + f 3 + f 4 + f 5 := by
  have g0 := h 0 (by omega)
  have g1 := h 1 (by omega)
  have g2 := h 2 (by omega)
  have g3 := h 3 (by omega)
  have g4 := h 4 (by omega)
  have g5 := h 5 (by omega)
  simp only [sumW]
  rw [IntWalk.wrap64_in (0 + f 0) ⟨by omega, by omega⟩, IntWalk.wrap64_in (0 + f 0 + f 1) ⟨by omega, by omega⟩, IntWalk.wrap64_in (0 + f 0 + f 1 + f 2) ⟨by omega, by omega⟩,
    IntWalk.wrap64_in (0 + f 0 + f 1 + f 2 + f 3) ⟨by omega, by omega⟩, IntWalk.wrap64_in (0 + f 0 + f 1 + f 2 + f 3 + f 4) ⟨by omega, by omega⟩, IntWalk.wrap64_in _ ⟨by omega, by omega⟩]
  omega
theorem cost_may {f : Nat → Int} (h : GoodC f) : CostC f false ↔ sumW f 6 ≤ 20 := by
  rw [sumW_six h]; exact ⟨fun q => q.2.1, fun q => ⟨h, q, fun e => (by cases e)⟩⟩
theorem cost_mayNot {f : Nat → Int} (h : GoodC f) : CostC f true ↔ sumW f 6 ≤ 0 := by
  have g0 := h 0 (by omega)
  have g1 := h 1 (by omega)
  have g2 := h 2 (by omega)
  have g3 := h 3 (by omega)
  have g4 := h 4 (by omega)
  have g5 := h 5 (by omega)
  rw [sumW_six h]
  exact ⟨fun q => by have := q.2.2 rfl; omega, fun q => ⟨h, by omega, fun _ => by omega⟩⟩
end Ex
set_option linter.unusedSimpArgs false in
set_option maxRecDepth 100000 in
set_option maxHeartbeats 1000000 in
theorem costFits_any (f : Nat → Int) (may : Bool) (w : World) (hw : Wide f) : Calls Tryd.prog 31 #[.agg (arr .i64 6 f), .bool may] w fun e w' => e = .returned (.bool (decide (CostC f (!may)))) ∧ Below w.heap.size w w' := by
  obtain ⟨q, hq⟩ : ∃ q, q = decide (CostC f (!may)) := ⟨_, rfl⟩
  rw [← hq]
  go_enter Tryd.func31, Tryd.ntmps31
  go_upto_region 1 with fail
  obtain ⟨w1, hw1⟩ : ∃ w1, w1 = w.alloc (.cells (arr .i64 6 f) 24) := ⟨_, rfl⟩
  have ha : w1.heap[w.heap.size]? = some (.cells (arr .i64 6 f) 24 (0, 0)) := by rw [hw1]; exact heap_alloc_new _ _
  have hb1 : Below w.heap.size w w1 := by rw [hw1]; exact (Below.refl _ _).alloc (Nat.le_refl _) _
  rw [← hw1]
  clear hw1
  have HA := Lib.hid ha
  have hrg : w1.rangeAt w.heap.size 0 (arr .i64 6 f).toList := fun j v hv => by rw [Nat.zero_add, cell_of_row w1 w.heap.size j _ 24 (0, 0) HA.out, ← Array.getElem?_toList]; exact hv
  clear ha
  by_cases hg : GoodC f
  · have HG := Lib.hid hg
    have hq2 : q = decide (sumW f 6 ≤ if may = true then 20 else 0) := by
      rw [hq]
      cases may
      · exact decide_eq_decide.2 (by simpa using cost_mayNot hg)
      · exact decide_eq_decide.2 (by simpa using cost_may hg)
    have hcall := good_yes (good_any f w1 hw) hg
    clear hq hg
    cases may
    all_goals go_upto_region 4 with fail
    all_goals go_wp2_with (refine wantCost (by rfl) (.tmp 2) rfl w.heap.size 0 rfl f hrg ?_)
    all_goals refine hcall.mono ?_
    all_goals rintro e w2 ⟨rfl, hb2⟩
    all_goals have hrg2 : w2.rangeAt w.heap.size 0 (arr .i64 6 f).toList := rangeAt_below hb2 (Array.getElem?_eq_some_iff.1 HA.out).1 hrg
    all_goals clear hcall
    all_goals go_wp2_with (refine wantCost (by rfl) (.tmp 2) rfl w.heap.size 0 rfl f hrg2 ?_)
    all_goals refine (total_any f w2 hw).mono ?_
    all_goals rintro e w3 ⟨rfl, hb3⟩
    all_goals obtain ⟨S, hS⟩ : ∃ S, S = sumW f 6 := ⟨_, rfl⟩
    all_goals rw [← hS] at hq2 ⊢
    all_goals have HQ := Lib.hid hq2
    all_goals clear hS hq2 hrg hrg2
    all_goals go_wp2_with fail
    all_goals go_ret
    all_goals exact ⟨by rw [HQ.out]; rfl, keepB hb3 (keepB hb2 hb1)⟩
  · have HQ := Lib.hid (show q = false from hq.trans (decide_eq_false (fun h => hg h.1)))
    have hcall := good_no (good_any f w1 hw) hg
    clear hg hq
    cases may
    all_goals go_upto_region 4 with fail
    all_goals go_wp2_with (refine wantCost (by rfl) (.tmp 2) rfl w.heap.size 0 rfl f hrg ?_)
    all_goals refine hcall.mono ?_
    all_goals rintro e w2 ⟨rfl, hb2⟩
    all_goals clear hcall hrg
    all_goals go_wp2_with fail
    all_goals go_ret
    all_goals exact ⟨by rw [HQ.out]; rfl, keepB hb2 hb1⟩
set_option linter.unusedSimpArgs false in
set_option maxRecDepth 100000 in
set_option maxHeartbeats 1000000 in
theorem checkA_any (d : Nat) (a : AbT) (cs : Array Value) (w : World) (hr : ReadsA w.heap.size w d cs a) (hs : sizeT a.do_ ≤ 300) : Calls Tryd.prog 35 #[.agg cs] w fun e w' => e = .returned (errV (chkA a)) ∧ Below w.heap.size w w' := by
  have hsx : (Tryd.prog.info? 48).map (·.size) = some cs.size := by rw [hr.size]; exact size14
  obtain ⟨_, hwd, _, xs, rfl, hrx⟩ := hr
  go_enter Tryd.func35, Tryd.ntmps35
  go_upto_region 1 with fail
  obtain ⟨w1, hw1⟩ : ∃ w1, w1 = w.alloc (.cells (abC a xs) 48) := ⟨_, rfl⟩
  have hE : AbAt w1 w.heap.size (abC a xs) := by rw [hw1]; exact AbAt.new _ _
  have hb1 : Below w.heap.size w w1 := by rw [hw1]; exact (Below.refl _ _).alloc (Nat.le_refl _) _
  rw [← hw1]
  clear hw1
  have c0 : w1.cell? ⟨w.heap.size, 0, none⟩ = some (.int .i64 a.when_) := by rw [hE.cell]; exact ab_when
  by_cases h0 : 0 ≤ a.when_ ∧ a.when_ ≤ 6
  case neg =>
    have HQ := Lib.hid (show chkA a = 6 by unfold chkA; rw [if_pos h0])
    obtain ⟨x, hx⟩ : ∃ x, x = a.when_ := ⟨_, rfl⟩
    rw [← hx] at c0 h0
    have hb : (decide (x < 0) || decide (7 ≤ x)) = true := by simp; omega
    clear h0 hx
    go_wp2_with fail
    all_goals go_ret
    all_goals exact ⟨by rw [HQ.out]; rfl, hb1⟩
  have d0 : decide (a.when_ < 0) = false := by simp; omega
  have d1 : decide (7 ≤ a.when_) = false := by simp; omega
  have HH0 := Lib.hid h0
  clear h0
  have hct := hE.cost
  by_cases h1 : CostC a.cost (a.when_ != 1)
  case neg =>
    have HQ := Lib.hid (show chkA a = 10 by unfold chkA; rw [if_neg (not_not_intro HH0.out), if_pos h1])
    have hcall := costFits_any a.cost (a.when_ == 1) w1 hwd
    rw [show (!(a.when_ == 1)) = (a.when_ != 1) from rfl, decide_eq_false h1] at hcall
    go_upto_region 3 with fail
    go_wp2_with (refine wantCost (by rfl) (.tmp 13) rfl w.heap.size 1 rfl a.cost hct ?_)
    refine hcall.mono ?_
    rintro e w2 ⟨rfl, hb2⟩
    clear h1 hct c0 d0 d1
    go_wp2_with fail
    all_goals go_ret
    all_goals exact ⟨by rw [HQ.out]; rfl, keepB hb2 hb1⟩
  have hcall := costFits_any a.cost (a.when_ == 1) w1 hwd
  rw [show (!(a.when_ == 1)) = (a.when_ != 1) from rfl, decide_eq_true h1] at hcall
  have HH1 := Lib.hid h1
  clear h1
  go_upto_region 3 with fail
  go_wp2_with (refine wantCost (by rfl) (.tmp 13) rfl w.heap.size 1 rfl a.cost hct ?_)
  refine hcall.mono ?_
  rintro e w2 ⟨rfl, hb2⟩
  have hE2 := hE.keep hb2
  have hbw2 := keepB hb2 hb1
  clear hcall hct c0 d0 d1 hE
  go_wp2_with (refine wpList_load_row rfl 48 (.tmp 1) rfl w.heap.size rfl 48 _ (0, 0) _ hE2 Tryd.underlying48 rfl hsx ?_)
  refine (tapFits_any d a xs w2 (hrx.grow hbw2)).mono ?_
  rintro e w3 ⟨rfl, hb3⟩
  have hE3 := hE2.keep hb3
  have hbw3 := keepB hb3 hbw2
  clear hE2 hb2 hb3 hbw2
  by_cases h2 : TapC a
  case neg =>
    have HQ := Lib.hid (show chkA a = 2 by unfold chkA; rw [if_neg (not_not_intro HH0.out), if_neg (not_not_intro HH1.out), if_pos h2])
    rw [decide_eq_false h2]
    clear h2
    go_wp2_with fail
    all_goals go_ret
    all_goals exact ⟨by rw [HQ.out]; rfl, hbw3⟩
  rw [decide_eq_true h2]
  have HH2 := Lib.hid h2
  clear h2
  go_wp2_with (refine wpList_load_row rfl 48 (.tmp 1) rfl w.heap.size rfl 48 _ (0, 0) _ hE3 Tryd.underlying48 rfl hsx ?_)
  refine (targetFits_any d a xs w3 (hrx.grow hbw3)).mono ?_
  rintro e w4 ⟨rfl, hb4⟩
  have hE4 := hE3.keep hb4
  have hbw4 := keepB hb4 hbw3
  clear hE3 hb4 hbw3
  by_cases h3 : TargC a
  case neg =>
    have HQ := Lib.hid (show chkA a = 11 by unfold chkA; rw [if_neg (not_not_intro HH0.out), if_neg (not_not_intro HH1.out), if_neg (not_not_intro HH2.out), if_pos h3])
    rw [decide_eq_false h3]
    clear h3
    go_wp2_with fail
    all_goals go_ret
    all_goals exact ⟨by rw [HQ.out]; rfl, hbw4⟩
  rw [decide_eq_true h3]
  have HH3 := Lib.hid h3
  clear h3
  have hxs := hrx.size
  have hdo := hE4.do_
  have c8 : w4.cell? ⟨w.heap.size, 8, none⟩ = some (.int .i64 a.target) := by rw [hE4.cell]; exact ab_target
  go_wp2_with (refine wantDo (by rfl) (.tmp 29) rfl w.heap.size 9 rfl xs hxs hdo ?_)
  refine (checkTop_any d a.do_ xs a.target w4 (hrx.grow hbw4) hs).mono ?_
  rintro e w5 ⟨rfl, hb5⟩
  have hE5 := hE4.keep hb5
  have hbw5 := keepB hb5 hbw4
  clear hE4 hb5 hdo c8
  by_cases h4 : chkTop a.do_ a.target = 0
  case neg =>
    have HQ := Lib.hid (show chkA a = chkTop a.do_ a.target by unfold chkA; rw [if_neg (not_not_intro HH0.out), if_neg (not_not_intro HH1.out), if_neg (not_not_intro HH2.out), if_neg (not_not_intro HH3.out), if_pos h4])
    obtain ⟨v, hv⟩ : ∃ v, v = chkTop a.do_ a.target := ⟨_, rfl⟩
    rw [← hv] at h4 HQ ⊢
    have HE := Lib.hid (errV_err h4)
    rw [errV_err h4]
    clear h4 hv
    go_wp2_with fail
    go_ret
    exact ⟨by rw [HQ.out, HE.out]; rfl, hbw5⟩
  rw [h4, errV_nil]
  have hcall := doesFit_any d a xs w5 (hrx.grow hbw5) h4
  have HH4 := Lib.hid h4
  clear h4
  go_wp2_with (refine wpList_load_row rfl 48 (.tmp 1) rfl w.heap.size rfl 48 _ (0, 0) _ hE5 Tryd.underlying48 rfl hsx ?_)
  refine hcall.mono ?_
  rintro e w6 ⟨rfl, hb6⟩
  have hbw6 := keepB hb6 hbw5
  clear hcall hE5 hb6 hbw5
  by_cases h5 : MtC a ∧ StC a
  case neg =>
    have HQ := Lib.hid (show chkA a = 2 by
      unfold chkA
      rw [if_neg (not_not_intro HH0.out), if_neg (not_not_intro HH1.out), if_neg (not_not_intro HH2.out), if_neg (not_not_intro HH3.out), if_neg (not_not_intro HH4.out)]
      by_cases h6 : MtC a
      · rw [if_neg (not_not_intro h6), if_pos (fun h7 => h5 ⟨h6, h7⟩)]
      · rw [if_pos h6])
    rw [decide_eq_false h5]
    clear h5
    go_wp2_with fail
    all_goals go_ret
    all_goals exact ⟨by rw [HQ.out]; rfl, hbw6⟩
  rw [decide_eq_true h5]
  have HQ := Lib.hid (show chkA a = 0 by
    unfold chkA
    rw [if_neg (not_not_intro HH0.out), if_neg (not_not_intro HH1.out), if_neg (not_not_intro HH2.out), if_neg (not_not_intro HH3.out), if_neg (not_not_intro HH4.out), if_neg (not_not_intro h5.1), if_neg (not_not_intro h5.2)])
  clear h5
  go_wp2_with fail
  all_goals go_ret
  all_goals exact ⟨by rw [HQ.out]; rfl, hbw6⟩
set_option linter.unusedSimpArgs false in
set_option maxRecDepth 100000 in
set_option maxHeartbeats 1000000 in
theorem uses_any (d : Nat) (c : CardT) (cs : Array Value) (wh : Int) (w : World) (hr : ReadsC w.heap.size w d cs c) (hs : c.abs.length ≤ 1000) : Calls Tryd.prog 55 #[.agg cs, .int .i64 wh] w (UsesPost (usesL c.abs wh) w) := by
  obtain ⟨i0, hi, hz0, hz1, hz2⟩ := info_parts infoI
  obtain ⟨_, _, _, _, _, _, A, cc, hcs, hl, hc, hx⟩ := hr
  have HX := Lib.hid hx
  have HCs := Lib.hid hcs
  clear hx hcs
  go_enter Tryd.func55, Tryd.ntmps55
  go_upto_region 1 with fail
  obtain ⟨w1, hw1⟩ : ∃ w1, w1 = w.alloc (.cells cs 27) := ⟨_, rfl⟩
  have HE := Lib.hid (show CdAt w1 w.heap.size cs by rw [hw1]; exact CdAt.new _ _)
  have hb1 : Below w.heap.size w w1 := by rw [hw1]; exact (Below.refl _ _).alloc (Nat.le_refl _) _
  rw [← hw1]
  clear hw1
  have c12 : w1.cell? ⟨w.heap.size, 12, none⟩ = some (.slice A c.abs.length cc) := by rw [HE.out.cell, HCs.out]; exact cd_abs
  go_upto_region 3 with fail
  clear c12
  go_loopw [5, 11] (fun v i wr => UsRel w1 c.abs wh v i wr) (fun _ i _ => c.abs.length - (intOf i).toNat)
  case atStart => exact ⟨none, 0, 0, 0, rfl, rfl, by omega, Own.nil _, Below.refl _ _⟩
  case round =>
    obtain ⟨A4, m4, c4, k, rfl, rfl, hk, hown, hb⟩ := hrel
    have HO4 := Lib.hid hown
    have hm4 := hown.len
    have hul := usesK_len c.abs wh k
    have hm4b : m4 ≤ 1000 := by omega
    have hs4 := hb.size
    clear hown hm4 hul
    by_cases hlt : k < c.abs.length
    · obtain ⟨a, ha⟩ : ∃ a, c.abs[k]? = some a := ⟨_, List.getElem?_eq_getElem hlt⟩
      obtain ⟨b, o, ys, rfl, hbb, hrg, hra⟩ := (HX.out.grow hb1).grow hb k a ha
      have hd : decide ((k : Int) < (c.abs.length : Int)) = true := by simp; omega
      go_upto_region 4 with fail
      have hys := hra.size
      have hy1 := hra.one
      have hsy : (Tryd.prog.info? 48).map (·.size) = some ys.size := by rw [hys]; exact size14
      have hraw := hrg
      have hnew : (wr.alloc (.cells zeroA 48)).heap[wr.heap.size]? = some (.cells zeroA 48 (0, 0)) := heap_alloc_new _ _
      go_upto_region 5 with (first
        | (refine load_ab rfl (.tmp 14) rfl b (o + k * 14) rfl ys hys hraw ?_)
        | (refine wpList_store_row rfl 48 (.tmp 7) (.tmp 15) rfl wr.heap.size _ rfl rfl 48 zeroA hnew hsy (by rw [hys]; rfl) hy1 ?_))
      obtain ⟨wn, hwn, hAn, hbn⟩ := ab_box wr (xs := ys)
      have hran := hra.grow hbn
      have hbwn := keepB hbn hb
      rw [← hwn]
      clear hwn hnew hraw hy1
      have HOn := Lib.hid (HO4.out.below hbn (Nat.le_refl _))
      obtain ⟨_, _, _, xs, hye, _⟩ := hran
      have cw : wn.cell? ⟨wr.heap.size, 0, none⟩ = some (.int .i64 a.when_) := by rw [hAn.cell, hye]; exact ab_when
      obtain ⟨x, hx⟩ : ∃ x, x = a.when_ := ⟨_, rfl⟩
      rw [← hx] at cw
      have hsn := hbn.size
      by_cases hw : a.when_ = wh
      · have HN := Lib.hid (usesK_yes ha hw)
        have e1 : (x == wh) = true := by rw [hx]; simpa using hw
        clear hw hx hye hrg hra hAn
        go_wp2_with (at_builtin; refine wpList_app rfl (.tmp 20) (.tmp 22) _ rfl .i64 w1.heap.size 3 i0 _ 8 Tryd.underlying52 hi hz0 hz1 hz2 rfl A4 m4 c4 _ rfl (HOn.out.alloc _) _ (some ⟨wn.heap.size, 0, none⟩) 1 1 [(k : Int)] rfl (Nums.one _ _ _ _) (by omega) (by omega) (by simp; omega) ?_; intro A6 c6 w6 hown6 hg6)
        have HO6 := Lib.hid hown6
        have hbel6 := (HOn.out.alloc (.cells #[.int .i64 (k : Int)] 3)).belowGrown (hbwn.alloc (by omega) _) (by simp; omega) hg6
        clear hown6 hg6 cw
        go_roundw
        case rel => exact ⟨A6, _, c6, k + 1, rfl, by go_num, by omega, by rw [HN.out]; exact HO6.out, hbel6⟩
        case measure => simp [intOf]; omega
      · have HN := Lib.hid (usesK_no ha hw)
        have e1 : (x == wh) = false := by rw [hx]; simpa using hw
        clear hw hx hye hrg hra hAn
        go_wp2_with fail
        go_roundw
        case rel => exact ⟨A4, m4, c4, k + 1, rfl, by go_num, by omega, by rw [HN.out]; exact HOn.out, hbwn⟩
        case measure => simp [intOf]; omega
    · obtain rfl : k = c.abs.length := by omega
      have hd : decide ((c.abs.length : Int) < (c.abs.length : Int)) = false := by simp
      go_wp2_with fail
      go_ret
      exact ⟨A4, m4, c4, rfl, HO4.out.base_le hb1.size, keepB hb hb1⟩
end Go.Proofs.YtmdfgkfimlmmnaaDoor
