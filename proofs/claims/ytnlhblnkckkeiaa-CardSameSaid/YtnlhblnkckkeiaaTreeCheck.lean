/- Layer 6: which effects are right: the reference's check. -/
import Derived.Test.YtnlhblnkckkeiaaTreeFits
namespace Go.Proofs.Ytnlhblnkckkeiaa
open Go.RowKit Ex
namespace Ex
def headOp : List ET → Int
  | [] => 0
  | t :: _ => t.op
def headWho : List ET → Int
  | [] => 0
  | t :: _ => t.who
/-- It has as many within as it may, and such ones. -/
def FormC (op : Int) (l : List ET) : Prop :=
  if op = 20 then l.length = 1 ∧ (headOp l = 1 ∨ ObjC (headOp l))
  else if op = 21 then 1 ≤ l.length ∧ l.length ≤ 8
  else if op = 22 then 1 ≤ l.length ∧ l.length ≤ 2
  else l.length = 0
instance (op : Int) (l : List ET) : Decidable (FormC op l) := by unfold FormC; infer_instance
mutual
/-- The number of what is wrong with it, where it stands so deep. -/
def chkT : ET → Int → Nat → Int
  | .node op n m who l, tg, dp =>
    if ¬ (0 ≤ op ∧ op ≤ 25) then 6
    else if 8 < dp then 3
    else if ¬ RangesC op n m who then 1
    else if ¬ FitsC op who tg then 11
    else if ¬ FormC op l then 2
    else if op = 20 then (if chkL l 1 (dp + 1) ≠ 0 then chkL l 1 (dp + 1) else if headWho l ≠ 2 then 11 else 0)
    else chkL l tg (dp + 1)
def chkL : List ET → Int → Nat → Int
  | [], _, _ => 0
  | t :: l, tg, dp => if chkT t tg dp ≠ 0 then chkT t tg dp else chkL l tg dp
end
theorem chkL_take {tg : Int} {dp : Nat} : ∀ (l : List ET) (k : Nat) (t : ET), chkL (l.take k) tg dp = 0 → l[k]? = some t → chkL (l.take (k + 1)) tg dp = chkT t tg dp
  | [], k, t, _, h => by simp at h
  | x :: l, 0, t, _, h => by
    simp at h; subst h
    simp only [List.take_succ_cons, List.take_zero, chkL]
    by_cases e : chkT x tg dp = 0
    · rw [if_neg (by simpa using e), e]
    · rw [if_pos e]
  | x :: l, k + 1, t, h0, h => by
    simp only [List.take_succ_cons, chkL] at h0 ⊢
    by_cases e : chkT x tg dp = 0
    · rw [if_neg (by simpa using e)] at h0
      rw [if_neg (by simpa using e)]
      exact chkL_take l k t h0 (by simpa using h)
    · rw [if_pos e] at h0; exact absurd h0 e
theorem chkL_stop {tg : Int} {dp : Nat} : ∀ (l : List ET) (k : Nat) (t : ET), chkL (l.take k) tg dp = 0 → l[k]? = some t → chkT t tg dp ≠ 0 → chkL l tg dp = chkT t tg dp
  | [], k, t, _, h, _ => by simp at h
  | x :: l, 0, t, _, h, hn => by
    simp at h; subst h
    simp only [chkL]; rw [if_pos hn]
  | x :: l, k + 1, t, h0, h, hn => by
    simp only [List.take_succ_cons, chkL] at h0 ⊢
    by_cases e : chkT x tg dp = 0
    · rw [if_neg (by simpa using e)] at h0
      rw [if_neg (by simpa using e)]
      exact chkL_stop l k t h0 (by simpa using h) hn
    · rw [if_pos e] at h0; exact absurd h0 e
mutual
theorem chkT_range : ∀ (t : ET) (tg : Int) (dp : Nat), 0 ≤ chkT t tg dp ∧ chkT t tg dp ≤ 11
  | .node op n m who l, tg, dp => by
    have h1 := chkL_range l 1 (dp + 1)
    have h2 := chkL_range l tg (dp + 1)
    simp only [chkT]
    repeat' split
    all_goals omega
theorem chkL_range : ∀ (l : List ET) (tg : Int) (dp : Nat), 0 ≤ chkL l tg dp ∧ chkL l tg dp ≤ 11
  | [], _, _ => by simp [chkL]
  | t :: l, tg, dp => by
    have h1 := chkT_range t tg dp
    have h2 := chkL_range l tg dp
    simp only [chkL]
    split <;> omega
end
end Ex
def CkRel (w1 : World) (l : List ET) (tg : Int) (dp : Nat) (i : Value) (wr : World) : Prop :=
  ∃ k : Nat, i = .int .i64 ((k : Nat) : Int) ∧ chkL (l.take k) tg dp = 0 ∧ k ≤ l.length ∧ Below w1.heap.size w1 wr
set_option linter.unusedSimpArgs false in
set_option maxRecDepth 100000 in
set_option maxHeartbeats 8000000 in
theorem checkRef_any : ∀ (d : Nat) (t : ET) (cs : Array Value) (w : World) (tg : Int) (dp : Nat), Reads w.heap.size w d cs t → sizeT t ≤ 1000000 → dp ≤ 9 →
    Calls Try.prog 42 #[.agg cs, .int .i64 tg, .int .i64 (dp : Int)] w fun e w' => e = .returned (.int .i64 (chkT t tg dp)) ∧ Below w.heap.size w w' := by
  intro d
  induction d with
  | zero => exact fun t cs w _ _ h => absurd h id
  | succ d ih =>
    intro t cs w tg dp hr hsz hdp
    have hsx : (Try.prog.info? 42).map (·.size) = some cs.size := by rw [hr.size]; exact size5
    obtain ⟨op, n, m, who, l⟩ := t
    obtain ⟨_, _, _, _, A, c, hcs, hl, hc, hx⟩ := hr
    have HX := Lib.hid hx
    have HCs := Lib.hid hcs
    have hrg := fun W => rangesRef_any op n m who A l.length c W
    have hft := fun W => fitsRef_any op n m who tg A l.length c W
    rw [← hcs] at hrg hft
    have HRg := Lib.hid hrg
    have HFt := Lib.hid hft
    have HT := Lib.hid (show chkT (.node op n m who l) tg dp = _ by simp only [chkT]; exact rfl)
    simp only [sizeT] at hsz
    clear hx hcs hrg hft
    go_enter Try.func42, Try.ntmps42
    go_upto_region 1 with fail
    obtain ⟨w1, hw1⟩ : ∃ w1, w1 = w.alloc (.cells cs 42) := ⟨_, rfl⟩
    have HE := Lib.hid (show EvAt w1 w.heap.size cs by rw [hw1]; exact EvAt.new _ _)
    have hb1 : Below w.heap.size w w1 := by rw [hw1]; exact (Below.refl _ _).alloc (Nat.le_refl _) _
    rw [← hw1]
    clear hw1
    have c0 : w1.cell? ⟨w.heap.size, 0, none⟩ = some (.int .i64 op) := by rw [HE.out.cell, HCs.out]; rfl
    have c4 : w1.cell? ⟨w.heap.size, 4, none⟩ = some (.slice A l.length c) := by rw [HE.out.cell, HCs.out]; rfl
    by_cases hk : 0 ≤ op ∧ op ≤ 25
    · have d0 : decide (op < 0) = false := by simp; omega
      have d1 : decide (25 < op) = false := by simp; omega
      replace HT := Lib.hid (HT.out.trans (if_neg (not_not_intro hk)))
      by_cases h8 : 8 < dp
      · replace HT := Lib.hid (HT.out.trans (if_pos h8))
        have d2 : decide ((8 : Int) < (dp : Int)) = true := by simp; omega
        clear hk h8
        go_wp2_with fail
        go_ret
        exact ⟨by rw [HT.out]; rfl, hb1⟩
      · replace HT := Lib.hid (HT.out.trans (if_neg h8))
        have d2 : decide ((8 : Int) < (dp : Int)) = false := by simp; omega
        go_wp2_with (refine wpList_load_row rfl 42 (.tmp 3) rfl w.heap.size rfl 42 _ (0, 0) _ HE.out Try.underlying42 rfl hsx ?_)
        refine (HRg.out w1).mono ?_
        rintro e w2 ⟨rfl, hb2⟩
        have HE2 := Lib.hid (HE.out.keep hb2)
        have hbw2 := keepB hb2 hb1
        by_cases hR : RangesC op n m who
        · replace HT := Lib.hid (HT.out.trans (if_neg (not_not_intro hR)))
          have dR : decide (RangesC op n m who) = true := by simpa using hR
          rw [dR]
          clear hR dR
          go_wp2_with (refine wpList_load_row rfl 42 (.tmp 3) rfl w.heap.size rfl 42 _ (0, 0) _ HE2.out Try.underlying42 rfl hsx ?_)
          refine (HFt.out w2).mono ?_
          rintro e w3 ⟨rfl, hb3⟩
          have HE3 := Lib.hid (HE2.out.keep hb3)
          have hbw3 := keepB hb3 hbw2
          have c0 : w3.cell? ⟨w.heap.size, 0, none⟩ = some (.int .i64 op) := by rw [HE3.out.cell, HCs.out]; rfl
          have c4 : w3.cell? ⟨w.heap.size, 4, none⟩ = some (.slice A l.length c) := by rw [HE3.out.cell, HCs.out]; rfl
          by_cases hF : FitsC op who tg
          · replace HT := Lib.hid (HT.out.trans (if_neg (not_not_intro hF)))
            have dF : decide (FitsC op who tg) = true := by simpa using hF
            rw [dF]
            have HX3 := Lib.hid (show ∀ i t, l[i]? = some t → ∃ b o xs, A = some ⟨b, o, none⟩ ∧ b < w3.heap.size ∧ w3.rangeAt b (o + i * 5) xs.toList ∧ Reads w3.heap.size w3 d xs t from fun i t hi => by
              obtain ⟨b, o, xs, h1, h2, h3, h4⟩ := HX.out i t hi
              exact ⟨b, o, xs, h1, by have := hbw3.size; omega, rangeAt_below hbw3 h2 h3, h4.grow hbw3⟩)
            have HS := Lib.hid hsz
            clear hF dF hb1 hb2 hb3 hbw2 HE2 HE HX HRg HFt hsx
            by_cases h20 : op = 20
            · replace HT := Lib.hid (show chkT (.node op n m who l) tg dp = if ¬ FormC op l then 2 else if chkL l 1 (dp + 1) ≠ 0 then chkL l 1 (dp + 1) else if headWho l ≠ 2 then 11 else 0 by rw [HT.out, if_pos h20])
              subst h20
              by_cases hL : l.length = 1
              · obtain ⟨x, rfl⟩ : ∃ x, l = [x] := by
                  match l, hL with
                  | [x], _ => exact ⟨x, rfl⟩
                obtain ⟨b, o, xs, rfl, hbb, hra, hrx⟩ := HX3.out 0 x rfl
                rw [Nat.zero_mul, Nat.add_zero] at hra
                obtain ⟨Ax, cx, hxe, _, _⟩ := hrx.shape
                have cx0 : w3.cell? ⟨b, o, none⟩ = some (.int .i64 x.op) := hra 0 _ (by rw [hxe]; rfl)
                have HW := Lib.hid (show ∀ W, Below w3.heap.size w3 W → W.cell? ⟨b, o + 3, none⟩ = some (.int .i64 x.who) from fun W hW => rangeAt_below hW hbb hra 3 _ (by rw [hxe]; rfl))
                have hxs := hrx.size
                clear hxe hL
                have HF := Lib.hid (show FormC 20 [x] ↔ (x.op = 1 ∨ ObjC x.op) by unfold FormC; rw [if_pos rfl]; simp [headOp])
                have H1 := Lib.hid (show chkL [x] 1 (dp + 1) = chkT x 1 (dp + 1) by simp only [chkL]; split <;> simp_all)
                have hsx1 : sizeT x ≤ 1000000 := by have := HS.out; simp only [sizeL] at this; omega
                have hcall := fun W (hW : Below w3.heap.size w3 W) => ih x xs W 1 (dp + 1) (hrx.grow hW) hsx1 (by omega)
                rw [show ((dp + 1 : Nat) : Int) = (dp : Int) + 1 by omega] at hcall
                have HC := Lib.hid hcall
                obtain ⟨xo, hxo⟩ : ∃ y, y = x.op := ⟨_, rfl⟩
                obtain ⟨xw, hxw⟩ : ∃ y, y = x.who := ⟨_, rfl⟩
                obtain ⟨v, hv⟩ : ∃ v, v = chkT x 1 (dp + 1) := ⟨_, rfl⟩
                rw [← hxo] at cx0 HF
                rw [← hxw] at HW
                rw [← hv] at HC H1
                have HWh := Lib.hid (show headWho [x] = xw by rw [hxw]; rfl)
                have hE := HE3.out
                clear hcall hxo hxw hv hrx ih HX3
                by_cases h1 : xo = 1
                · replace HT := Lib.hid (HT.out.trans (if_neg (not_not_intro (HF.out.2 (.inl h1)))))
                  have e1 : (xo != 1) = false := by simpa using h1
                  clear h1
                  go_upto_region 13 with fail
                  go_wp2_with (refine load_sub rfl (.tmp 101) rfl b o rfl xs hxs hra ?_)
                  refine (HC.out w3 (Below.refl _ _)).mono ?_
                  rintro e w5 ⟨rfl, hb5⟩
                  have hw5 := HW.out w5 hb5
                  have c5 : w5.cell? ⟨w.heap.size, 4, none⟩ = some (.slice (some ⟨b, o, none⟩) 1 c) := by rw [(hE.keep hb5).cell, HCs.out]; rfl
                  by_cases hv0 : v = 0
                  · subst hv0
                    replace HT := Lib.hid (HT.out.trans (if_neg (by rw [H1.out]; simp)))
                    by_cases hw2 : xw = 2
                    · replace HT := Lib.hid (HT.out.trans (if_neg (by rw [HWh.out]; simpa using hw2)))
                      have e2 : (xw != 2) = false := by simpa using hw2
                      clear hw2
                      go_wp2_with fail
                      go_ret
                      exact ⟨by rw [HT.out]; rfl, keepB hb5 hbw3⟩
                    · replace HT := Lib.hid (HT.out.trans (if_pos (by rw [HWh.out]; exact hw2)))
                      have e2 : (xw != 2) = true := by simpa using hw2
                      clear hw2
                      go_wp2_with fail
                      go_ret
                      exact ⟨by rw [HT.out]; rfl, keepB hb5 hbw3⟩
                  · replace HT := Lib.hid (HT.out.trans ((if_pos (by rw [H1.out]; exact hv0)).trans H1.out))
                    have e2 : (v != 0) = true := by simpa using hv0
                    clear hv0
                    go_wp2_with fail
                    go_ret
                    exact ⟨by rw [HT.out]; rfl, keepB hb5 hbw3⟩
                · have e1 : (xo != 1) = true := by simpa using h1
                  by_cases hO : ObjC xo
                  · replace HT := Lib.hid (HT.out.trans (if_neg (not_not_intro (HF.out.2 (.inr hO)))))
                    have hob := fun W => objRef_any xo W
                    rw [show decide (ObjC xo) = true by simpa using hO] at hob
                    have HO := Lib.hid hob
                    clear hob hO h1
                    go_wp2_with fail
                    refine (HO.out _).mono ?_
                    rintro e w4 ⟨rfl, rfl⟩
                    go_upto_region 13 with fail
                    go_wp2_with (refine load_sub rfl (.tmp 101) rfl b o rfl xs hxs hra ?_)
                    refine (HC.out w3 (Below.refl _ _)).mono ?_
                    rintro e w5 ⟨rfl, hb5⟩
                    have hw5 := HW.out w5 hb5
                    have c5 : w5.cell? ⟨w.heap.size, 4, none⟩ = some (.slice (some ⟨b, o, none⟩) 1 c) := by rw [(hE.keep hb5).cell, HCs.out]; rfl
                    by_cases hv0 : v = 0
                    · subst hv0
                      replace HT := Lib.hid (HT.out.trans (if_neg (by rw [H1.out]; simp)))
                      by_cases hw2 : xw = 2
                      · replace HT := Lib.hid (HT.out.trans (if_neg (by rw [HWh.out]; simpa using hw2)))
                        have e2 : (xw != 2) = false := by simpa using hw2
                        clear hw2
                        go_wp2_with fail
                        go_ret
                        exact ⟨by rw [HT.out]; rfl, keepB hb5 hbw3⟩
                      · replace HT := Lib.hid (HT.out.trans (if_pos (by rw [HWh.out]; exact hw2)))
                        have e2 : (xw != 2) = true := by simpa using hw2
                        clear hw2
                        go_wp2_with fail
                        go_ret
                        exact ⟨by rw [HT.out]; rfl, keepB hb5 hbw3⟩
                    · replace HT := Lib.hid (HT.out.trans ((if_pos (by rw [H1.out]; exact hv0)).trans H1.out))
                      have e2 : (v != 0) = true := by simpa using hv0
                      clear hv0
                      go_wp2_with fail
                      go_ret
                      exact ⟨by rw [HT.out]; rfl, keepB hb5 hbw3⟩
                  · replace HT := Lib.hid (HT.out.trans (if_pos (fun h => by
                      rcases HF.out.1 h with h | h
                      · exact h1 h
                      · exact hO h)))
                    have hob := fun W => objRef_any xo W
                    rw [show decide (ObjC xo) = false by simpa using hO] at hob
                    have HO := Lib.hid hob
                    clear hob hO h1
                    go_wp2_with fail
                    refine (HO.out _).mono ?_
                    rintro e w4 ⟨rfl, rfl⟩
                    go_wp2_with fail
                    all_goals go_ret
                    all_goals exact ⟨by rw [HT.out]; rfl, hbw3⟩
              · replace HT := Lib.hid (HT.out.trans (if_pos (show ¬ FormC 20 l by unfold FormC; rw [if_pos rfl]; exact fun h => hL h.1)))
                have e1 : ((l.length : Int) != 1) = true := by simp; omega
                go_wp2_with fail
                all_goals go_ret
                all_goals exact ⟨by rw [HT.out]; rfl, hbw3⟩
            · have n20 : (op == 20) = false := by simpa using h20
              replace HT := Lib.hid (show chkT (.node op n m who l) tg dp = if ¬ FormC op l then 2 else chkL l tg (dp + 1) by rw [HT.out, if_neg h20])
              by_cases h21 : op = 21
              · subst h21
                by_cases hL : 1 ≤ l.length ∧ l.length ≤ 8
                · obtain ⟨l1, l2⟩ := hL
                  replace HT := Lib.hid (HT.out.trans (if_neg (not_not_intro (show FormC 21 l by unfold FormC; simp; omega))))
                  have e1 : decide ((l.length : Int) < 1) = false := by simp; omega
                  have e2 : decide ((8 : Int) < (l.length : Int)) = false := by simp; omega
                  go_upto_region 20 with fail
                  have hb1 : Below w3.heap.size w3 w3 := Below.refl _ _
                  go_loopw [118] (fun i wr => CkRel w3 l tg (dp + 1) i wr) (fun i _ => l.length - (intOf i).toNat)
                  case atStart => exact ⟨0, rfl, by simp [chkL], by omega, Below.refl _ _⟩
                  case round =>
                    obtain ⟨k, rfl, h0, hk, hb⟩ := hrel
                    have H0 := Lib.hid h0
                    have hlen := sizeL_len l
                    clear h0
                    by_cases hlt : k < l.length
                    · obtain ⟨t, ht⟩ : ∃ t, l[k]? = some t := ⟨_, List.getElem?_eq_getElem hlt⟩
                      obtain ⟨b, o, xs, rfl, hbb, hra, hrx⟩ := HX3.out k t ht
                      have hd : decide ((k : Int) < (l.length : Int)) = true := by simp; omega
                      have hts := size_mem ht
                      have HTk := Lib.hid (chkL_take l k t H0.out ht)
                      have HSt := Lib.hid (chkL_stop l k t H0.out ht)
                      have hxs := hrx.size
                      have hx1 := hrx.one
                      have hsx : (Try.prog.info? 42).map (·.size) = some xs.size := by rw [hxs]; exact size5
                      have hraw := rangeAt_below hb (by have := hb1.size; omega) (rangeAt_below hb1 hbb hra)
                      have hnew : (wr.alloc (.cells zeroE 42)).heap[wr.heap.size]? = some (.cells zeroE 42 (0, 0)) := heap_alloc_new _ _
                      go_upto_region 22 with (first
                        | (refine load_sub rfl (.tmp 120) rfl b (o + k * 5) rfl xs hxs hraw ?_)
                        | (refine wpList_store_row rfl 42 (.tmp 10) (.tmp 121) rfl wr.heap.size _ rfl rfl 42 zeroE hnew hsx (by rw [hxs]; rfl) hx1 ?_))
                      obtain ⟨wn, hwn, hEn, hbn⟩ := ev_box wr (xs := xs)
                      have hrn := hrx.grow (keepB hbn (keepB hb hb1))
                      have hbwn := keepB hbn hb
                      rw [← hwn]
                      clear hwn hnew hraw hx1
                      go_wp2_with (refine wpList_load_row rfl 42 (.tmp 10) rfl wr.heap.size rfl 42 _ (0, 0) _ hEn Try.underlying42 rfl hsx ?_)
                      have hcall := ih t xs wn tg (dp + 1) hrn (by have := HS.out; omega) (by omega)
                      rw [show ((dp + 1 : Nat) : Int) = (dp : Int) + 1 by omega] at hcall
                      refine hcall.mono ?_
                      rintro e w4 ⟨rfl, hb4⟩
                      have hbw4 := keepB hb4 hbwn
                      obtain ⟨v, hv⟩ : ∃ v, v = chkT t tg (dp + 1) := ⟨_, rfl⟩
                      rw [← hv] at HTk HSt ⊢
                      have hkr : k < 1000000 := by have := HS.out; omega
                      clear hv hcall hrn hb4 hbwn hts hd
                      by_cases hv0 : v = 0
                      · have hd0 : (v != 0) = false := by simpa using hv0
                        have HTk := Lib.hid (HTk.out.trans hv0)
                        clear hv0 HSt
                        go_wp2_with fail
                        go_roundw
                        case rel => exact ⟨k + 1, by go_num, HTk.out, by omega, hbw4⟩
                        case measure => (simp [intOf]; try omega)
                      · have hd0 : (v != 0) = true := by simpa using hv0
                        replace HSt := Lib.hid (HT.out.trans (HSt.out hv0))
                        clear hv0 HTk
                        go_wp2_with fail
                        go_ret
                        exact ⟨by rw [HSt.out]; rfl, keepB hbw4 hbw3⟩
                    · obtain rfl : k = l.length := by omega
                      have hd : decide ((l.length : Int) < (l.length : Int)) = false := by simp
                      have hz : chkL l tg (dp + 1) = 0 := by
                        have h := H0.out
                        rw [List.take_length] at h
                        exact h
                      replace H0 := Lib.hid (HT.out.trans hz)
                      clear hz
                      clear hlen
                      go_wp2_with fail
                      go_ret
                      exact ⟨by rw [H0.out]; rfl, keepB hb hbw3⟩
                · replace HT := Lib.hid (HT.out.trans (if_pos (show ¬ FormC 21 l by unfold FormC; simp; omega)))
                  have e1 : (decide ((l.length : Int) < 1) || decide ((8 : Int) < (l.length : Int))) = true := by simp; omega
                  go_wp2_with fail
                  all_goals go_ret
                  all_goals exact ⟨by rw [HT.out]; rfl, hbw3⟩
              · have n21 : (op == 21) = false := by simpa using h21
                by_cases h22 : op = 22
                · subst h22
                  by_cases hL : 1 ≤ l.length ∧ l.length ≤ 2
                  · obtain ⟨l1, l2⟩ := hL
                    replace HT := Lib.hid (HT.out.trans (if_neg (not_not_intro (show FormC 22 l by unfold FormC; simp; omega))))
                    have e1 : decide ((l.length : Int) < 1) = false := by simp; omega
                    have e2 : decide ((2 : Int) < (l.length : Int)) = false := by simp; omega
                    go_upto_region 20 with fail
                    have hb1 : Below w3.heap.size w3 w3 := Below.refl _ _
                    go_loopw [118] (fun i wr => CkRel w3 l tg (dp + 1) i wr) (fun i _ => l.length - (intOf i).toNat)
                    case atStart => exact ⟨0, rfl, by simp [chkL], by omega, Below.refl _ _⟩
                    case round =>
                      obtain ⟨k, rfl, h0, hk, hb⟩ := hrel
                      have H0 := Lib.hid h0
                      have hlen := sizeL_len l
                      clear h0
                      by_cases hlt : k < l.length
                      · obtain ⟨t, ht⟩ : ∃ t, l[k]? = some t := ⟨_, List.getElem?_eq_getElem hlt⟩
                        obtain ⟨b, o, xs, rfl, hbb, hra, hrx⟩ := HX3.out k t ht
                        have hd : decide ((k : Int) < (l.length : Int)) = true := by simp; omega
                        have hts := size_mem ht
                        have HTk := Lib.hid (chkL_take l k t H0.out ht)
                        have HSt := Lib.hid (chkL_stop l k t H0.out ht)
                        have hxs := hrx.size
                        have hx1 := hrx.one
                        have hsx : (Try.prog.info? 42).map (·.size) = some xs.size := by rw [hxs]; exact size5
                        have hraw := rangeAt_below hb (by have := hb1.size; omega) (rangeAt_below hb1 hbb hra)
                        have hnew : (wr.alloc (.cells zeroE 42)).heap[wr.heap.size]? = some (.cells zeroE 42 (0, 0)) := heap_alloc_new _ _
                        go_upto_region 22 with (first
                          | (refine load_sub rfl (.tmp 120) rfl b (o + k * 5) rfl xs hxs hraw ?_)
                          | (refine wpList_store_row rfl 42 (.tmp 10) (.tmp 121) rfl wr.heap.size _ rfl rfl 42 zeroE hnew hsx (by rw [hxs]; rfl) hx1 ?_))
                        obtain ⟨wn, hwn, hEn, hbn⟩ := ev_box wr (xs := xs)
                        have hrn := hrx.grow (keepB hbn (keepB hb hb1))
                        have hbwn := keepB hbn hb
                        rw [← hwn]
                        clear hwn hnew hraw hx1
                        go_wp2_with (refine wpList_load_row rfl 42 (.tmp 10) rfl wr.heap.size rfl 42 _ (0, 0) _ hEn Try.underlying42 rfl hsx ?_)
                        have hcall := ih t xs wn tg (dp + 1) hrn (by have := HS.out; omega) (by omega)
                        rw [show ((dp + 1 : Nat) : Int) = (dp : Int) + 1 by omega] at hcall
                        refine hcall.mono ?_
                        rintro e w4 ⟨rfl, hb4⟩
                        have hbw4 := keepB hb4 hbwn
                        obtain ⟨v, hv⟩ : ∃ v, v = chkT t tg (dp + 1) := ⟨_, rfl⟩
                        rw [← hv] at HTk HSt ⊢
                        have hkr : k < 1000000 := by have := HS.out; omega
                        clear hv hcall hrn hb4 hbwn hts hd
                        by_cases hv0 : v = 0
                        · have hd0 : (v != 0) = false := by simpa using hv0
                          have HTk := Lib.hid (HTk.out.trans hv0)
                          clear hv0 HSt
                          go_wp2_with fail
                          go_roundw
                          case rel => exact ⟨k + 1, by go_num, HTk.out, by omega, hbw4⟩
                          case measure => (simp [intOf]; try omega)
                        · have hd0 : (v != 0) = true := by simpa using hv0
                          replace HSt := Lib.hid (HT.out.trans (HSt.out hv0))
                          clear hv0 HTk
                          go_wp2_with fail
                          go_ret
                          exact ⟨by rw [HSt.out]; rfl, keepB hbw4 hbw3⟩
                      · obtain rfl : k = l.length := by omega
                        have hd : decide ((l.length : Int) < (l.length : Int)) = false := by simp
                        have hz : chkL l tg (dp + 1) = 0 := by
                          have h := H0.out
                          rw [List.take_length] at h
                          exact h
                        replace H0 := Lib.hid (HT.out.trans hz)
                        clear hz
                        clear hlen
                        go_wp2_with fail
                        go_ret
                        exact ⟨by rw [H0.out]; rfl, keepB hb hbw3⟩
                  · replace HT := Lib.hid (HT.out.trans (if_pos (show ¬ FormC 22 l by unfold FormC; simp; omega)))
                    have e1 : (decide ((l.length : Int) < 1) || decide ((2 : Int) < (l.length : Int))) = true := by simp; omega
                    go_wp2_with fail
                    all_goals go_ret
                    all_goals exact ⟨by rw [HT.out]; rfl, hbw3⟩
                · have n22 : (op == 22) = false := by simpa using h22
                  have HO := Lib.hid (show FormC op l ↔ l.length = 0 by unfold FormC; rw [if_neg h20, if_neg h21, if_neg h22])
                  by_cases hL : l.length = 0
                  · replace HT := Lib.hid (HT.out.trans (if_neg (not_not_intro (HO.out.2 hL))))
                    have e1 : decide ((0 : Int) < (l.length : Int)) = false := by rw [hL]; rfl
                    by_cases ha : op < 20
                    · have ea : decide (op < 20) = true := by simpa using ha
                      go_upto_region 20 with fail
                      have hb1 : Below w3.heap.size w3 w3 := Below.refl _ _
                      go_loopw [118] (fun i wr => CkRel w3 l tg (dp + 1) i wr) (fun i _ => l.length - (intOf i).toNat)
                      case atStart => exact ⟨0, rfl, by simp [chkL], by omega, Below.refl _ _⟩
                      case round =>
                        obtain ⟨k, rfl, h0, hk, hb⟩ := hrel
                        have H0 := Lib.hid h0
                        have hlen := sizeL_len l
                        clear h0
                        by_cases hlt : k < l.length
                        · exact absurd hlt (by omega)
                        · obtain rfl : k = l.length := by omega
                          have hd : decide ((l.length : Int) < (l.length : Int)) = false := by simp
                          have hz : chkL l tg (dp + 1) = 0 := by
                            have h := H0.out
                            rw [List.take_length] at h
                            exact h
                          replace H0 := Lib.hid (HT.out.trans hz)
                          clear hz
                          clear hlen
                          go_wp2_with fail
                          go_ret
                          exact ⟨by rw [H0.out]; rfl, keepB hb hbw3⟩
                    · have ea : decide (op < 20) = false := by simpa using ha
                      have eb : decide (22 < op) = true := by simp; omega
                      go_upto_region 20 with fail
                      have hb1 : Below w3.heap.size w3 w3 := Below.refl _ _
                      go_loopw [118] (fun i wr => CkRel w3 l tg (dp + 1) i wr) (fun i _ => l.length - (intOf i).toNat)
                      case atStart => exact ⟨0, rfl, by simp [chkL], by omega, Below.refl _ _⟩
                      case round =>
                        obtain ⟨k, rfl, h0, hk, hb⟩ := hrel
                        have H0 := Lib.hid h0
                        have hlen := sizeL_len l
                        clear h0
                        by_cases hlt : k < l.length
                        · exact absurd hlt (by omega)
                        · obtain rfl : k = l.length := by omega
                          have hd : decide ((l.length : Int) < (l.length : Int)) = false := by simp
                          have hz : chkL l tg (dp + 1) = 0 := by
                            have h := H0.out
                            rw [List.take_length] at h
                            exact h
                          replace H0 := Lib.hid (HT.out.trans hz)
                          clear hz
                          clear hlen
                          go_wp2_with fail
                          go_ret
                          exact ⟨by rw [H0.out]; rfl, keepB hb hbw3⟩
                  · replace HT := Lib.hid (HT.out.trans (if_pos (fun h => hL (HO.out.1 h))))
                    have e1 : decide ((0 : Int) < (l.length : Int)) = true := by simp; omega
                    have ew : (decide (op < 20) || decide (22 < op)) = true := by simp; omega
                    go_wp2_with fail
                    all_goals go_ret
                    all_goals exact ⟨by rw [HT.out]; rfl, hbw3⟩
          · replace HT := Lib.hid (HT.out.trans (if_pos hF))
            have dF : decide (FitsC op who tg) = false := by simpa using hF
            rw [dF]
            clear hF dF
            go_wp2_with fail
            go_ret
            exact ⟨by rw [HT.out]; rfl, hbw3⟩
        · replace HT := Lib.hid (HT.out.trans (if_pos hR))
          have dR : decide (RangesC op n m who) = false := by simpa using hR
          rw [dR]
          clear hR dR
          go_wp2_with fail
          go_ret
          exact ⟨by rw [HT.out]; rfl, hbw2⟩
    · replace HT := Lib.hid (HT.out.trans (if_pos hk))
      have hb : (decide (op < 0) || decide (25 < op)) = true := by simp; omega
      clear hk
      go_wp2_with fail
      all_goals go_ret
      all_goals exact ⟨by rw [HT.out]; rfl, hb1⟩
end Go.Proofs.Ytnlhblnkckkeiaa
