/- Layer 6: contracts of effect's check, checkWithin and Check. -/
import Derived.Test.YtmdfgkfimlmmnaaDoorTreeC3
import Derived.Test.YtmdfgkfimlmmnaaDoorTreeTop
namespace Go.Proofs.YtmdfgkfimlmmnaaDoor
open Go.RowKit Ex Bx
namespace Ex
/-- The number of what is wrong within it. -/
def withinT (op : Int) (l : List ET) (tg : Int) (dp : Nat) : Int :=
  if op = 20 then (if chkL l 1 (dp + 1) ≠ 0 then chkL l 1 (dp + 1) else if headWho l ≠ 2 then 11 else 0) else chkL l tg (dp + 1)
end Ex
/-- The contract of check, of effects that are at most d deep. -/
def CkAt (d : Nat) : Prop := ∀ (t : ET) (cs : Array Value) (w : World) (tg : Int) (dp : Nat), Reads w.heap.size w d cs t → sizeT t ≤ 1000000 → dp ≤ 9 →
  Calls Tryd.prog 69 #[.agg cs, .int .i64 tg, .int .i64 (dp : Int)] w fun e w' => e = .returned (errV (chkT t tg dp)) ∧ Below w.heap.size w w'
def CwRel (w1 : World) (l : List ET) (tg : Int) (dp : Nat) (i : Value) (wr : World) : Prop :=
  ∃ k : Nat, i = .int .i64 ((k : Nat) : Int) ∧ chkL (l.take k) tg dp = 0 ∧ k ≤ l.length ∧ Below w1.heap.size w1 wr
def CaRel (w1 : World) (xc : Int) (xw : Int) (i : Value) (wr : World) : Prop :=
  ∃ k : Nat, i = .int .i64 ((k : Nat) : Int) ∧ k ≤ 1 ∧ (k = 1 → xc = 0 ∧ xw = 2) ∧ Below w1.heap.size w1 wr
set_option linter.unusedSimpArgs false in
set_option maxRecDepth 100000 in
set_option maxHeartbeats 2000000 in
theorem within_step (d : Nat) (ih : CkAt d) (op n m who : Int) (l : List ET) (cs : Array Value) (w : World) (tg : Int) (dp : Nat) (hr : Reads w.heap.size w (d + 1) cs (.node op n m who l)) (hs : sizeL l ≤ 1000000) (hdp : dp ≤ 8) (hF : FormC op l) :
    Calls Tryd.prog 84 #[.agg cs, .int .i64 tg, .int .i64 (dp : Int)] w fun e w' => e = .returned (errV (withinT op l tg dp)) ∧ Below w.heap.size w w' := by
  obtain ⟨_, _, _, _, A, c, hcs, hl, hc, hx⟩ := hr
  have hlen := sizeL_len l
  have HX := Lib.hid hx
  have HCs := Lib.hid hcs
  clear hx hcs
  go_enter Tryd.func84, Tryd.ntmps84
  go_upto_region 1 with fail
  obtain ⟨w1, hw1⟩ : ∃ w1, w1 = w.alloc (.cells cs 46) := ⟨_, rfl⟩
  have HE := Lib.hid (show EvAt w1 w.heap.size cs by rw [hw1]; exact EvAt.new _ _)
  have hb1 : Below w.heap.size w w1 := by rw [hw1]; exact (Below.refl _ _).alloc (Nat.le_refl _) _
  rw [← hw1]
  clear hw1
  have c0 : w1.cell? ⟨w.heap.size, 0, none⟩ = some (.int .i64 op) := by rw [HE.out.cell, HCs.out]; rfl
  have c4 : w1.cell? ⟨w.heap.size, 4, none⟩ = some (.slice A l.length c) := by rw [HE.out.cell, HCs.out]; rfl
  by_cases h20 : op = 20
  · subst h20
    obtain ⟨x, rfl⟩ : ∃ x, l = [x] := by
      unfold FormC at hF
      rw [if_pos rfl] at hF
      match l, hF.1 with
      | [x], _ => exact ⟨x, rfl⟩
    have HT := Lib.hid (show withinT 20 [x] tg dp = if chkT x 1 (dp + 1) ≠ 0 then chkT x 1 (dp + 1) else if x.who ≠ 2 then 11 else 0 by
      have h1 : chkL [x] 1 (dp + 1) = chkT x 1 (dp + 1) := by simp only [chkL]; split <;> simp_all
      unfold withinT; rw [if_pos rfl, h1]; rfl)
    obtain ⟨b, o, xs, rfl, hbb, hra, hrx⟩ := HX.out 0 x rfl
    simp only [sizeL] at hs
    clear hF
    go_upto_region 5 with fail
    clear c0 c4
    go_loopw [18] (fun i wr => CaRel w1 (chkT x 1 (dp + 1)) x.who i wr) (fun i _ => 1 - (intOf i).toNat)
    case atStart => exact ⟨0, rfl, by omega, (fun h => absurd h (by omega)), Below.refl _ _⟩
    case round =>
      obtain ⟨k, rfl, hk, hkk, hb⟩ := hrel
      by_cases hlt : k < 1
      · obtain rfl : k = 0 := by omega
        clear hkk
        have k := 0
        have hraw := hra
        have hxs := hrx.size
        have hx1 := hrx.one
        have hsx : (Tryd.prog.info? 46).map (·.size) = some xs.size := by rw [hxs]; exact size5
        have hraw := rangeAt_below hb (by have := hb1.size; omega) (rangeAt_below hb1 hbb hra)
        have hnew : (wr.alloc (.cells zeroE 46)).heap[wr.heap.size]? = some (.cells zeroE 46 (0, 0)) := heap_alloc_new _ _
        rw [Nat.zero_mul, Nat.add_zero] at hraw
        go_upto_region 7 with (first
          | (refine load_sub rfl (.tmp 20) rfl b o rfl xs hxs hraw ?_)
          | (refine wpList_store_row rfl 46 (.tmp 9) (.tmp 21) rfl wr.heap.size _ rfl rfl 46 zeroE hnew hsx (by rw [hxs]; rfl) hx1 ?_))
        obtain ⟨wn, hwn, hEn, hbn⟩ := ev_box wr (xs := xs)
        have hrn := hrx.grow (keepB hbn (keepB hb hb1))
        have hbwn := keepB hbn hb
        rw [← hwn]
        clear hwn hnew hraw hx1
        go_wp2_with (refine wpList_load_row rfl 46 (.tmp 9) rfl wr.heap.size rfl 46 _ (0, 0) _ hEn Tryd.underlying46 rfl hsx ?_)
        have hcall := ih x xs wn 1 (dp + 1) hrn (by omega) (by omega)
        rw [show ((dp + 1 : Nat) : Int) = (dp : Int) + 1 by omega] at hcall
        refine hcall.mono ?_
        rintro e w4 ⟨rfl, hb4⟩
        have hbw4 := keepB hb4 hbwn
        obtain ⟨v, hv⟩ : ∃ v, v = chkT x 1 (dp + 1) := ⟨_, rfl⟩
        obtain ⟨y, hy⟩ : ∃ v, v = x.who := ⟨_, rfl⟩
        obtain ⟨Ax, cx, hxe, _, _⟩ := hrx.shape
        rw [← hv, ← hy] at HT
        rw [← hv]
        rw [← hy] at hxe
        have HVe := Lib.hid hv
        have HYe := Lib.hid hy
        have c3 : w4.cell? ⟨wr.heap.size, 3, none⟩ = some (.int .i64 y) := by rw [(hEn.keep hb4).cell, hxe]; rfl
        clear hv hy hcall hrn hb4 hbwn hEn hxe hrx hra
        by_cases hv0 : v = 0
        · replace HT := Lib.hid (HT.out.trans (if_neg (not_not_intro hv0)))
          have HV := Lib.hid hv0
          rw [show errV v = .nilIface by rw [hv0]; exact errV_nil]
          clear hv0
          by_cases hy2 : y = 2
          · have e2 : (y != 2) = false := by simpa using hy2
            have HY := Lib.hid hy2
            clear hy2
            go_wp2_with fail
            go_roundw
            case rel => exact ⟨1, rfl, by omega, (fun _ => ⟨HVe.out.symm.trans HV.out, HYe.out.symm.trans HY.out⟩), hbw4⟩
            case measure => simp [intOf]
          · have e2 : (y != 2) = true := by simpa using hy2
            replace HT := Lib.hid (HT.out.trans (if_pos hy2))
            clear hy2
            go_wp2_with fail
            go_ret
            exact ⟨by rw [HT.out]; rfl, keepB hbw4 hb1⟩
        · replace HT := Lib.hid (HT.out.trans (if_pos hv0))
          rw [errV_err hv0]
          have HV := Lib.hid hv0
          clear hv0
          go_wp2_with fail
          go_ret
          exact ⟨by rw [HT.out, errV_err HV.out]; rfl, keepB hbw4 hb1⟩
      · obtain rfl : k = 1 := by omega
        obtain ⟨h1, h2⟩ := hkk rfl
        replace HT := Lib.hid (HT.out.trans ((if_neg (not_not_intro h1)).trans (if_neg (not_not_intro h2))))
        clear h1 h2 hkk
        go_wp2_with fail
        go_ret
        exact ⟨by rw [HT.out]; rfl, keepB hb hb1⟩
  · have e20 : (op == 20) = false := by simpa using h20
    have HT := Lib.hid (show withinT op l tg dp = chkL l tg (dp + 1) by unfold withinT; rw [if_neg h20])
    clear hF h20
    go_upto_region 5 with fail
    clear c0 c4
    go_loopw [18] (fun i wr => CwRel w1 l tg (dp + 1) i wr) (fun i _ => l.length - (intOf i).toNat)
    case atStart => exact ⟨0, rfl, by simp [chkL], by omega, Below.refl _ _⟩
    case round =>
      obtain ⟨k, rfl, h0, hk, hb⟩ := hrel
      have H0 := Lib.hid h0
      clear h0
      by_cases hlt : k < l.length
      · obtain ⟨t, ht⟩ : ∃ t, l[k]? = some t := ⟨_, List.getElem?_eq_getElem hlt⟩
        obtain ⟨b, o, xs, rfl, hbb, hra, hrx⟩ := HX.out k t ht
        have hd : decide ((k : Int) < (l.length : Int)) = true := by simp; omega
        have hts := size_mem ht
        have HTk := Lib.hid (chkL_take l k t H0.out ht)
        have HSt := Lib.hid (chkL_stop l k t H0.out ht)
        go_upto_region 6 with fail
        have hxs := hrx.size
        have hx1 := hrx.one
        have hsx : (Tryd.prog.info? 46).map (·.size) = some xs.size := by rw [hxs]; exact size5
        have hraw := rangeAt_below hb (by have := hb1.size; omega) (rangeAt_below hb1 hbb hra)
        have hnew : (wr.alloc (.cells zeroE 46)).heap[wr.heap.size]? = some (.cells zeroE 46 (0, 0)) := heap_alloc_new _ _
        go_upto_region 7 with (first
          | (refine load_sub rfl (.tmp 20) rfl b (o + k * 5) rfl xs hxs hraw ?_)
          | (refine wpList_store_row rfl 46 (.tmp 9) (.tmp 21) rfl wr.heap.size _ rfl rfl 46 zeroE hnew hsx (by rw [hxs]; rfl) hx1 ?_))
        obtain ⟨wn, hwn, hEn, hbn⟩ := ev_box wr (xs := xs)
        have hrn := hrx.grow (keepB hbn (keepB hb hb1))
        have hbwn := keepB hbn hb
        rw [← hwn]
        clear hwn hnew hraw hx1
        go_wp2_with (refine wpList_load_row rfl 46 (.tmp 9) rfl wr.heap.size rfl 46 _ (0, 0) _ hEn Tryd.underlying46 rfl hsx ?_)
        have hcall := ih t xs wn tg (dp + 1) hrn (by omega) (by omega)
        rw [show ((dp + 1 : Nat) : Int) = (dp : Int) + 1 by omega] at hcall
        refine hcall.mono ?_
        rintro e w4 ⟨rfl, hb4⟩
        have hbw4 := keepB hb4 hbwn
        obtain ⟨v, hv⟩ : ∃ v, v = chkT t tg (dp + 1) := ⟨_, rfl⟩
        rw [← hv] at HTk HSt ⊢
        have hkr : k < 1000000 := by omega
        clear hv hcall hrn hb4 hbwn hts hd
        by_cases hv0 : v = 0
        · replace HTk := Lib.hid (HTk.out.trans hv0)
          rw [show errV v = .nilIface by rw [hv0]; exact errV_nil]
          clear hv0 HSt
          go_wp2_with fail
          go_roundw
          case rel => exact ⟨k + 1, by go_num, HTk.out, by omega, hbw4⟩
          case measure => (simp [intOf]; try omega)
        · replace HSt := Lib.hid (HT.out.trans (HSt.out hv0))
          rw [errV_err hv0]
          have HV := Lib.hid hv0
          clear hv0 HTk
          go_wp2_with fail
          go_ret
          exact ⟨by rw [HSt.out, errV_err HV.out]; rfl, keepB hbw4 hb1⟩
      · obtain rfl : k = l.length := by omega
        have hd : decide ((l.length : Int) < (l.length : Int)) = false := by simp
        have hz : chkL l tg (dp + 1) = 0 := by
          have h := H0.out
          rw [List.take_length] at h
          exact h
        replace H0 := Lib.hid (HT.out.trans hz)
        clear hz
        go_wp2_with fail
        go_ret
        exact ⟨by rw [H0.out]; rfl, keepB hb hb1⟩
set_option linter.unusedSimpArgs false in
set_option maxRecDepth 100000 in
set_option maxHeartbeats 2000000 in
theorem check_any : ∀ d, CkAt d := by
  intro d
  induction d with
  | zero => exact fun t cs w _ _ h => absurd h id
  | succ d ih =>
    intro t cs w tg dp hr hsz hdp
    have hsx : (Tryd.prog.info? 46).map (·.size) = some cs.size := by rw [hr.size]; exact size5
    obtain ⟨op, n, m, who, l⟩ := t
    have HR := Lib.hid hr
    obtain ⟨_, _, _, _, A, c, hcs, hl, hc, hx⟩ := hr
    have HCs := Lib.hid hcs
    have hrg := fun W => inBounds_any op n m who A l.length c W
    have hft := fun W => fits_any op n m who tg A l.length c W
    rw [← hcs] at hrg hft
    have HRg := Lib.hid hrg
    have HFt := Lib.hid hft
    have HT := Lib.hid (show chkT (.node op n m who l) tg dp = if ¬ (0 ≤ op ∧ op ≤ 25) then 6 else if 8 < dp then 3 else if ¬ RangesC op n m who then 1 else if ¬ FitsC op who tg then 11 else if ¬ FormC op l then 2 else withinT op l tg dp by
      simp only [chkT, withinT])
    simp only [sizeT] at hsz
    clear hx hcs hrg hft
    go_enter Tryd.func69, Tryd.ntmps69
    go_upto_region 1 with fail
    obtain ⟨w1, hw1⟩ : ∃ w1, w1 = w.alloc (.cells cs 46) := ⟨_, rfl⟩
    have HE := Lib.hid (show EvAt w1 w.heap.size cs by rw [hw1]; exact EvAt.new _ _)
    have hb1 : Below w.heap.size w w1 := by rw [hw1]; exact (Below.refl _ _).alloc (Nat.le_refl _) _
    rw [← hw1]
    clear hw1
    have c0 : w1.cell? ⟨w.heap.size, 0, none⟩ = some (.int .i64 op) := by rw [HE.out.cell, HCs.out]; rfl
    by_cases hk : 0 ≤ op ∧ op ≤ 25
    · have d0 : decide (op < 0) = false := by simp; omega
      have d1 : decide (26 ≤ op) = false := by simp; omega
      replace HT := Lib.hid (HT.out.trans (if_neg (not_not_intro hk)))
      by_cases h8 : 8 < dp
      · replace HT := Lib.hid (HT.out.trans (if_pos h8))
        have d2 : decide ((8 : Int) < (dp : Int)) = true := by simp; omega
        clear hk h8
        go_wp2_with fail
        all_goals go_ret
        all_goals exact ⟨by rw [HT.out]; rfl, hb1⟩
      · replace HT := Lib.hid (HT.out.trans (if_neg h8))
        have d2 : decide ((8 : Int) < (dp : Int)) = false := by simp; omega
        clear hk
        go_wp2_with (refine wpList_load_row rfl 46 (.tmp 3) rfl w.heap.size rfl 46 _ (0, 0) _ HE.out Tryd.underlying46 rfl hsx ?_)
        refine (HRg.out w1).mono ?_
        rintro e w2 ⟨rfl, hb2⟩
        have HE2 := Lib.hid (HE.out.keep hb2)
        have hbw2 := keepB hb2 hb1
        clear c0 hb2
        by_cases hR : RangesC op n m who
        · replace HT := Lib.hid (HT.out.trans (if_neg (not_not_intro hR)))
          have dR : decide (RangesC op n m who) = true := by simpa using hR
          rw [dR]
          clear hR dR
          go_wp2_with (refine wpList_load_row rfl 46 (.tmp 3) rfl w.heap.size rfl 46 _ (0, 0) _ HE2.out Tryd.underlying46 rfl hsx ?_)
          refine (HFt.out w2).mono ?_
          rintro e w3 ⟨rfl, hb3⟩
          have HE3 := Lib.hid (HE2.out.keep hb3)
          have hbw3 := keepB hb3 hbw2
          clear hb3
          by_cases hF : FitsC op who tg
          · replace HT := Lib.hid (HT.out.trans (if_neg (not_not_intro hF)))
            have dF : decide (FitsC op who tg) = true := by simpa using hF
            rw [dF]
            clear hF dF
            go_wp2_with (refine wpList_load_row rfl 46 (.tmp 3) rfl w.heap.size rfl 46 _ (0, 0) _ HE3.out Tryd.underlying46 rfl hsx ?_)
            refine (mayHold_any (d + 1) op n m who l cs w3 (HR.out.grow hbw3) (by omega)).mono ?_
            rintro e w4 ⟨rfl, hb4⟩
            have HE4 := Lib.hid (HE3.out.keep hb4)
            have hbw4 := keepB hb4 hbw3
            clear hb4
            by_cases hG : FormC op l
            · replace HT := Lib.hid (HT.out.trans (if_neg (not_not_intro hG)))
              have dG : decide (FormC op l) = true := by simpa using hG
              rw [dG]
              have HG := Lib.hid hG
              clear hG dG
              go_wp2_with (refine wpList_load_row rfl 46 (.tmp 3) rfl w.heap.size rfl 46 _ (0, 0) _ HE4.out Tryd.underlying46 rfl hsx ?_)
              refine (within_step d ih op n m who l cs w4 tg dp (HR.out.grow hbw4) (by omega) (by omega) HG.out).mono ?_
              rintro e w5 ⟨rfl, hb5⟩
              go_wp2_with fail
              go_ret
              exact ⟨by rw [HT.out]; rfl, keepB hb5 hbw4⟩
            · replace HT := Lib.hid (HT.out.trans (if_pos hG))
              have dG : decide (FormC op l) = false := by simpa using hG
              rw [dG]
              clear hG dG
              go_wp2_with fail
              all_goals go_ret
              all_goals exact ⟨by rw [HT.out]; rfl, hbw4⟩
          · replace HT := Lib.hid (HT.out.trans (if_pos hF))
            have dF : decide (FitsC op who tg) = false := by simpa using hF
            rw [dF]
            clear hF dF
            go_wp2_with fail
            all_goals go_ret
            all_goals exact ⟨by rw [HT.out]; rfl, hbw3⟩
        · replace HT := Lib.hid (HT.out.trans (if_pos hR))
          have dR : decide (RangesC op n m who) = false := by simpa using hR
          rw [dR]
          clear hR dR
          go_wp2_with fail
          all_goals go_ret
          all_goals exact ⟨by rw [HT.out]; rfl, hbw2⟩
    · replace HT := Lib.hid (HT.out.trans (if_pos hk))
      have hbb : (decide (op < 0) || decide (26 ≤ op)) = true := by simp; omega
      clear hk
      go_wp2_with fail
      all_goals go_ret
      all_goals exact ⟨by rw [HT.out]; rfl, hb1⟩
set_option linter.unusedSimpArgs false in
set_option maxRecDepth 100000 in
theorem checkTop_any (d : Nat) (t : ET) (cs : Array Value) (tg : Int) (w : World) (hr : Reads w.heap.size w d cs t) (hs : sizeT t ≤ 300) :
    Calls Tryd.prog 58 #[.agg cs, .int .i64 tg] w fun e w' => e = .returned (errV (chkTop t tg)) ∧ Below w.heap.size w w' := by
  have hsx : (Tryd.prog.info? 46).map (·.size) = some cs.size := by rw [hr.size]; exact size5
  go_enter Tryd.func58, Tryd.ntmps58
  go_upto_region 1 with fail
  obtain ⟨w1, hw1⟩ : ∃ w1, w1 = w.alloc (.cells cs 46) := ⟨_, rfl⟩
  have HE := Lib.hid (show EvAt w1 w.heap.size cs by rw [hw1]; exact EvAt.new _ _)
  have hb1 : Below w.heap.size w w1 := by rw [hw1]; exact (Below.refl _ _).alloc (Nat.le_refl _) _
  rw [← hw1]
  clear hw1
  have hE := HE.out
  by_cases hk : 0 ≤ tg ∧ tg ≤ 5
  · have HT := Lib.hid (show chkTop t tg = chkT t tg 1 by unfold chkTop; rw [if_neg (not_not_intro hk)])
    have d0 : decide (tg < 0) = false := by simp; omega
    have d1 : decide (6 ≤ tg) = false := by simp; omega
    clear hk
    go_upto_region 3 with fail
    go_wp2_with (refine wpList_load_row rfl 46 (.tmp 2) rfl w.heap.size rfl 46 _ (0, 0) _ hE Tryd.underlying46 rfl hsx ?_)
    refine (check_any d t cs w1 tg 1 (hr.grow hb1) (by omega) (by omega)).mono ?_
    rintro e w2 ⟨rfl, hb2⟩
    go_wp2_with fail
    go_ret
    exact ⟨by rw [HT.out]; rfl, keepB hb2 hb1⟩
  · have HT := Lib.hid (show chkTop t tg = 6 by unfold chkTop; rw [if_pos hk])
    have hb : (decide (tg < 0) || decide (6 ≤ tg)) = true := by simp; omega
    clear hk
    go_wp2_with fail
    all_goals go_ret
    all_goals exact ⟨by rw [HT.out]; rfl, hb1⟩
end Go.Proofs.YtmdfgkfimlmmnaaDoor
