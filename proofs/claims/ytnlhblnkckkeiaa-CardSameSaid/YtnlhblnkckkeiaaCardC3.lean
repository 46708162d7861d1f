/- Layer 7: contracts of card's spellsFit and Check. -/
import Derived.Test.YtnlhblnkckkeiaaCardC2
namespace Go.Proofs.Ytnlhblnkckkeiaa
open Go.RowKit Ex Mx
def SpellsC (c : CardT) : Prop := if c.kind = 2 then (usesL c.abs 0).length = 1 ∧ c.abs.length = 1 else (usesL c.abs 0).length = 0 ∧ c.abs.length ≤ 4
instance (c : CardT) : Decidable (SpellsC c) := by unfold SpellsC; infer_instance
set_option linter.unusedSimpArgs false in
set_option maxRecDepth 100000 in
set_option maxHeartbeats 1000000 in
theorem spellsFit_any (d : Nat) (c : CardT) (cs : Array Value) (w : World) (hr : ReadsC w.heap.size w d cs c) (hs : c.abs.length ≤ 1000) : Calls Try.prog 26 #[.agg cs] w fun e w' => e = .returned (.bool (decide (SpellsC c))) ∧ Below w.heap.size w w' := by
  have hsx : (Try.prog.info? 26).map (·.size) = some cs.size := by rw [hr.size]; exact size13
  have HR := Lib.hid hr
  obtain ⟨_, _, _, _, _, _, A, cc, hcs, hl, hc, hx⟩ := hr
  have HCs := Lib.hid hcs
  clear hx hcs
  obtain ⟨q, hq⟩ : ∃ q, q = decide (SpellsC c) := ⟨_, rfl⟩
  rw [← hq]
  go_enter Try.func26, Try.ntmps26
  go_upto_region 1 with fail
  obtain ⟨w1, hw1⟩ : ∃ w1, w1 = w.alloc (.cells cs 26) := ⟨_, rfl⟩
  have HE := Lib.hid (show CdAt w1 w.heap.size cs by rw [hw1]; exact CdAt.new _ _)
  have hb1 : Below w.heap.size w w1 := by rw [hw1]; exact (Below.refl _ _).alloc (Nat.le_refl _) _
  rw [← hw1]
  clear hw1
  have hE := HE.out
  go_wp2_with (refine wantCd (by rfl) (.tmp 1) rfl w.heap.size rfl cs hE hsx ?_)
  refine (uses_any d c cs 0 w1 (HR.out.grow hb1) hs).mono ?_
  rintro e w2 ⟨A2, m2, c2, rfl, hown, hb2⟩
  have hm := hown.len
  have hbw2 := keepB hb2 hb1
  have hE2 := HE.out.keep hb2
  have c0 : w2.cell? ⟨w.heap.size, 0, none⟩ = some (.int .i64 c.kind) := by rw [hE2.cell, HCs.out]; exact cd_kind
  have c12 : w2.cell? ⟨w.heap.size, 12, none⟩ = some (.slice A c.abs.length cc) := by rw [hE2.cell, HCs.out]; exact cd_abs
  have hdef : q = decide (if c.kind = 2 then m2 = 1 ∧ c.abs.length = 1 else m2 = 0 ∧ c.abs.length ≤ 4) := by rw [hq]; exact decide_eq_decide.2 (by unfold SpellsC; rw [hm])
  obtain ⟨k, hk⟩ : ∃ x, x = c.kind := ⟨_, rfl⟩
  obtain ⟨n, hn⟩ : ∃ x, x = c.abs.length := ⟨_, rfl⟩
  rw [← hk] at c0 hdef
  rw [← hn] at c12 hdef
  clear hk hn hm hown hE hE2 hq hl
  by_cases h2 : k = 2
  · have e2 : (k == 2) = true := by simpa using h2
    replace hdef : q = decide (m2 = 1 ∧ n = 1) := by rw [hdef]; exact decide_eq_decide.2 (by rw [if_pos h2])
    by_cases h1 : n = 1
    · have e1 : ((n : Int) == 1) = true := by simp; omega
      have HQ := Lib.hid (show q = ((m2 : Int) == 1) by rw [hdef, Bool.eq_iff_iff, decide_eq_true_iff, beq_iff_eq]; omega)
      clear h2 h1 hdef
      go_wp2_with fail
      all_goals go_ret
      all_goals exact ⟨by rw [HQ.out]; rfl, hbw2⟩
    · have e1 : ((n : Int) == 1) = false := by simp; omega
      have HQ := Lib.hid (show q = false by rw [hdef]; exact decide_eq_false (by omega))
      clear h2 h1 hdef
      go_wp2_with fail
      all_goals go_ret
      all_goals exact ⟨by rw [HQ.out]; rfl, hbw2⟩
  · have e2 : (k == 2) = false := by simpa using h2
    replace hdef : q = decide (m2 = 0 ∧ n ≤ 4) := by rw [hdef]; exact decide_eq_decide.2 (by rw [if_neg h2])
    by_cases h1 : n ≤ 4
    · have e1 : decide ((n : Int) ≤ 4) = true := by simp; omega
      have HQ := Lib.hid (show q = ((m2 : Int) == 0) by rw [hdef, Bool.eq_iff_iff, decide_eq_true_iff, beq_iff_eq]; omega)
      clear h2 h1 hdef
      go_wp2_with fail
      all_goals go_ret
      all_goals exact ⟨by rw [HQ.out]; rfl, hbw2⟩
    · have e1 : decide ((n : Int) ≤ 4) = false := by simp; omega
      have HQ := Lib.hid (show q = false by rw [hdef]; exact decide_eq_false (by omega))
      clear h2 h1 hdef
      go_wp2_with fail
      all_goals go_ret
      all_goals exact ⟨by rw [HQ.out]; rfl, hbw2⟩
def CkcRel (w1 : World) (c : CardT) (i : Value) (wr : World) : Prop := ∃ k : Nat, i = .int .i64 ((k : Nat) : Int) ∧ k ≤ c.abs.length ∧ chkAs (c.abs.take k) = 0 ∧ Below w1.heap.size w1 wr
set_option linter.unusedSimpArgs false in
set_option maxRecDepth 100000 in
set_option maxHeartbeats 1000000 in
theorem checkC_any (d : Nat) (c : CardT) (cs : Array Value) (w : World) (hr : ReadsC w.heap.size w d cs c) (hs : SmallC c) : Calls Try.prog 10 #[.agg cs] w fun e w' => e = .returned (errV (chkC c)) ∧ Below w.heap.size w w' := by
  have hsx : (Try.prog.info? 26).map (·.size) = some cs.size := by rw [hr.size]; exact size13
  have HR := Lib.hid hr
  have HSm := Lib.hid hs
  have hl9 := hs.1
  obtain ⟨_, _, hwd, _, _, _, A, cc, hcs, hl, hc, hx⟩ := hr
  have HX := Lib.hid hx
  have HCs := Lib.hid hcs
  clear hx hcs hs
  go_enter Try.func10, Try.ntmps10
  go_upto_region 1 with fail
  obtain ⟨w1, hw1⟩ : ∃ w1, w1 = w.alloc (.cells cs 26) := ⟨_, rfl⟩
  have HE := Lib.hid (show CdAt w1 w.heap.size cs by rw [hw1]; exact CdAt.new _ _)
  have hb1 : Below w.heap.size w w1 := by rw [hw1]; exact (Below.refl _ _).alloc (Nat.le_refl _) _
  rw [← hw1]
  clear hw1
  have c0 : w1.cell? ⟨w.heap.size, 0, none⟩ = some (.int .i64 c.kind) := by rw [HE.out.cell, HCs.out]; exact cd_kind
  have c1 : w1.cell? ⟨w.heap.size, 1, none⟩ = some (.int .i64 c.colour) := by rw [HE.out.cell, HCs.out]; exact cd_colour
  obtain ⟨kd, hkd⟩ : ∃ x, x = c.kind := ⟨_, rfl⟩
  obtain ⟨cl, hcl⟩ : ∃ x, x = c.colour := ⟨_, rfl⟩
  have hK : KindC c ↔ ((0 ≤ kd ∧ kd ≤ 3) ∧ (0 ≤ cl ∧ cl ≤ 5)) := by unfold KindC; rw [hkd, hcl]
  rw [← hkd] at c0
  rw [← hcl] at c1
  by_cases h0 : (0 ≤ kd ∧ kd ≤ 3) ∧ (0 ≤ cl ∧ cl ≤ 5)
  case neg =>
    have HQ := Lib.hid (show chkC c = 6 by unfold chkC; rw [if_pos (fun h => h0 (hK.1 h))])
    clear hK hkd hcl
    by_cases g0 : 0 ≤ kd
    · have b0 : decide (kd < 0) = false := by simp; omega
      by_cases g1 : kd ≤ 3
      · have b1 : decide (4 ≤ kd) = false := by simp; omega
        by_cases g2 : 0 ≤ cl
        · have b2 : decide (cl < 0) = false := by simp; omega
          have b3 : decide (6 ≤ cl) = true := by simp; omega
          clear h0 g0 g1 g2
          go_wp2_with fail
          all_goals go_ret
          all_goals exact ⟨by rw [HQ.out]; rfl, hb1⟩
        · have b2 : decide (cl < 0) = true := by simp; omega
          clear h0 g0 g1 g2
          go_wp2_with fail
          all_goals go_ret
          all_goals exact ⟨by rw [HQ.out]; rfl, hb1⟩
      · have b1 : decide (4 ≤ kd) = true := by simp; omega
        clear h0 g0 g1
        go_wp2_with fail
        all_goals go_ret
        all_goals exact ⟨by rw [HQ.out]; rfl, hb1⟩
    · have b0 : decide (kd < 0) = true := by simp; omega
      clear h0 g0
      go_wp2_with fail
      all_goals go_ret
      all_goals exact ⟨by rw [HQ.out]; rfl, hb1⟩
  have HH0 := Lib.hid (hK.2 h0)
  have b0 : decide (kd < 0) = false := by simp; omega
  have b1 : decide (4 ≤ kd) = false := by simp; omega
  have b2 : decide (cl < 0) = false := by simp; omega
  have b3 : decide (6 ≤ cl) = false := by simp; omega
  have hct := (show CdAt w1 w.heap.size (cardC c A c.abs.length cc) by rw [← HCs.out]; exact HE.out).cost
  have hcall := costFits_any c.cost (kd != 0) w1 hwd
  rw [show (!(kd != 0)) = (c.kind == 0) by rw [hkd]; cases h : (c.kind == 0) <;> simp [bne, h]] at hcall
  clear h0 hK hkd hcl
  by_cases h1 : CostC c.cost (c.kind == 0)
  case neg =>
    have HQ := Lib.hid (show chkC c = 10 by unfold chkC; rw [if_neg (not_not_intro HH0.out), if_pos h1])
    rw [decide_eq_false h1] at hcall
    go_upto_region 3 with fail
    go_wp2_with (refine wantCost (by rfl) (.tmp 25) rfl w.heap.size 3 rfl c.cost hct ?_)
    refine hcall.mono ?_
    rintro e w2 ⟨rfl, hb2⟩
    clear h1 hct c0 c1 b0 b1 b2 b3
    go_wp2_with fail
    all_goals go_ret
    all_goals exact ⟨by rw [HQ.out]; rfl, keepB hb2 hb1⟩
  rw [decide_eq_true h1] at hcall
  have HH1 := Lib.hid h1
  clear h1
  go_upto_region 3 with fail
  go_wp2_with (refine wantCost (by rfl) (.tmp 25) rfl w.heap.size 3 rfl c.cost hct ?_)
  refine hcall.mono ?_
  rintro e w2 ⟨rfl, hb2⟩
  have hE2 := HE.out.keep hb2
  have hbw2 := keepB hb2 hb1
  clear hcall hct c0 c1 b0 b1 b2 b3
  go_wp2_with (refine wantCd (by rfl) (.tmp 1) rfl w.heap.size rfl cs hE2 hsx ?_)
  refine (numbersFit_any d c cs w2 (HR.out.grow hbw2)).mono ?_
  rintro e w3 ⟨rfl, hb3⟩
  have hE3 := hE2.keep hb3
  have hbw3 := keepB hb3 hbw2
  clear hE2 hb2 hb3 hbw2
  by_cases h2 : BodyC c
  case neg =>
    have HQ := Lib.hid (show chkC c = 1 by unfold chkC; rw [if_neg (not_not_intro HH0.out), if_neg (not_not_intro HH1.out), if_pos h2])
    rw [decide_eq_false h2]
    clear h2
    go_wp2_with fail
    all_goals go_ret
    all_goals exact ⟨by rw [HQ.out]; rfl, hbw3⟩
  rw [decide_eq_true h2]
  have HH2 := Lib.hid h2
  clear h2
  go_wp2_with (refine wantCd (by rfl) (.tmp 1) rfl w.heap.size rfl cs hE3 hsx ?_)
  refine (speedFits_any d c cs w3 (HR.out.grow hbw3)).mono ?_
  rintro e w4 ⟨rfl, hb4⟩
  have hE4 := hE3.keep hb4
  have hbw4 := keepB hb4 hbw3
  clear hE3 hb4 hbw3
  by_cases h3 : c.fast = true → c.kind = 2 ∨ c.kind = 1
  case neg =>
    have HQ := Lib.hid (show chkC c = 2 by unfold chkC; rw [if_neg (not_not_intro HH0.out), if_neg (not_not_intro HH1.out), if_neg (not_not_intro HH2.out), if_pos (fun h => h3 h.1)])
    rw [decide_eq_false h3]
    clear h3
    go_wp2_with fail
    all_goals go_ret
    all_goals exact ⟨by rw [HQ.out]; rfl, hbw4⟩
  rw [decide_eq_true h3]
  have HH3 := Lib.hid h3
  clear h3
  go_wp2_with (refine wantCd (by rfl) (.tmp 1) rfl w.heap.size rfl cs hE4 hsx ?_)
  refine (spellsFit_any d c cs w4 (HR.out.grow hbw4) (by omega)).mono ?_
  rintro e w5 ⟨rfl, hb5⟩
  have hE5 := hE4.keep hb5
  have hbw5 := keepB hb5 hbw4
  clear hE4 hb5 hbw4
  by_cases h4 : SpellsC c
  case neg =>
    have HQ := Lib.hid (show chkC c = 2 by unfold chkC; rw [if_neg (not_not_intro HH0.out), if_neg (not_not_intro HH1.out), if_neg (not_not_intro HH2.out), if_pos (fun h => h4 h.2)])
    rw [decide_eq_false h4]
    clear h4
    go_wp2_with fail
    all_goals go_ret
    all_goals exact ⟨by rw [HQ.out]; rfl, hbw5⟩
  rw [decide_eq_true h4]
  have HT := Lib.hid (show chkC c = chkAs c.abs by unfold chkC; rw [if_neg (not_not_intro HH0.out), if_neg (not_not_intro HH1.out), if_neg (not_not_intro HH2.out), if_neg (not_not_intro ⟨HH3.out, h4⟩)])
  clear h4
  have c12 : w5.cell? ⟨w.heap.size, 12, none⟩ = some (.slice A c.abs.length cc) := by rw [hE5.cell, HCs.out]; exact cd_abs
  clear hE5
  go_upto_region 10 with fail
  clear c12
  go_loopw [49] (fun i wr => CkcRel w5 c i wr) (fun i _ => c.abs.length - (intOf i).toNat)
  case atStart => exact ⟨0, rfl, by omega, rfl, Below.refl _ _⟩
  case round =>
    obtain ⟨k, rfl, hk, hck, hb⟩ := hrel
    have HCk := Lib.hid hck
    clear hck
    by_cases hlt : k < c.abs.length
    · obtain ⟨a, ha⟩ : ∃ a, c.abs[k]? = some a := ⟨_, List.getElem?_eq_getElem hlt⟩
      obtain ⟨b, o, ys, rfl, hbb, hrg, hra⟩ := (HX.out.grow hbw5).grow hb k a ha
      have hsz := HSm.out.2 k a ha
      have HTk := Lib.hid (chkAs_take c.abs k a HCk.out ha)
      have HSt := Lib.hid (chkAs_stop c.abs k a HCk.out ha)
      have hd : decide ((k : Int) < (c.abs.length : Int)) = true := by simp; omega
      go_upto_region 11 with fail
      have hys := hra.size
      have hy1 := hra.one
      have hsy : (Try.prog.info? 44).map (·.size) = some ys.size := by rw [hys]; exact size14
      have hraw := hrg
      have hnew : (wr.alloc (.cells zeroA 44)).heap[wr.heap.size]? = some (.cells zeroA 44 (0, 0)) := heap_alloc_new _ _
      go_upto_region 12 with (first
        | (refine load_ab rfl (.tmp 51) rfl b (o + k * 14) rfl ys hys hraw ?_)
        | (refine wpList_store_row rfl 44 (.tmp 4) (.tmp 52) rfl wr.heap.size _ rfl rfl 44 zeroA hnew hsy (by rw [hys]; rfl) hy1 ?_))
      obtain ⟨wn, hwn, hAn, hbn⟩ := ab_box wr (xs := ys)
      have hran := hra.grow hbn
      have hbwn := keepB hbn hb
      rw [← hwn]
      clear hwn hnew hraw hy1
      go_wp2_with (refine wpList_load_row rfl 44 (.tmp 4) rfl wr.heap.size rfl 44 _ (0, 0) _ hAn Try.underlying44 rfl hsy ?_)
      refine (checkA_any d a ys wn hran hsz).mono ?_
      rintro e w6 ⟨rfl, hb6⟩
      have hbw6 := keepB hb6 hbwn
      obtain ⟨v, hv⟩ : ∃ v, v = chkA a := ⟨_, rfl⟩
      rw [← hv] at HTk HSt ⊢
      clear hv hb6 hran hra hrg hAn hbn
      by_cases hv0 : v = 0
      · have HN := Lib.hid (HTk.out.trans hv0)
        rw [hv0, errV_nil]
        clear hv0
        go_wp2_with fail
        go_roundw
        case rel => exact ⟨k + 1, by go_num, by omega, HN.out, hbw6⟩
        case measure => simp [intOf]; omega
      · have HN := Lib.hid (HT.out.trans (HSt.out hv0))
        have HEv := Lib.hid (errV_err hv0)
        rw [errV_err hv0]
        clear hv0
        go_wp2_with fail
        go_ret
        exact ⟨by rw [HN.out, HEv.out]; rfl, keepB hbw6 hbw5⟩
    · obtain rfl : k = c.abs.length := by omega
      have hd : decide ((c.abs.length : Int) < (c.abs.length : Int)) = false := by simp
      have HN := Lib.hid (show chkC c = 0 by rw [HT.out]; have h := HCk.out; rw [List.take_length] at h; exact h)
      go_wp2_with fail
      go_ret
      exact ⟨by rw [HN.out]; rfl, keepB hb hbw5⟩
end Go.Proofs.Ytnlhblnkckkeiaa
