/- Layer 11: the code's reader: all objects. Layer 11: the code's reader: a list. Layer 11: the code's reader: a state. Layer 11: the code's Parse. Layer 11: what the code's four calls answer. Layer 10: from the row's list to the table of the fields that only what is on the field may have. Layer 11: from the row's list to the tables that canon's calls read. -/
import Derived.Test.YtihbdbgmijkjmaaDoorCanG4
import Derived.Test.YtihbdbgmijkjmaaDoorCanG0
import Derived.Test.YtihbdbgmijkjmaaDoorCanG1
import Derived.Test.YtihbdbgmijkjmaaDoorCanG3
import Derived.Test.YtihbdbgmijkjmaaDoorStC5
import Derived.Test.YtihbdbgmijkjmaaDoorCanG2
namespace Go.Proofs.YtihbdbgmijkjmaaDoor
open Go.RowKit Ex Px Wx
set_option maxRecDepth 100000
theorem owns_but {W W' : World} {g h base : Nat} {v : Value} {n : Nat} {xs : List Value} (x : W.ownsRow base 56 18 v n xs) (hb : But g h W W') (hg : g < base) (hh : h < base) : W'.ownsRow base 56 18 v n xs := by
  refine ⟨x.1, ?_⟩
  rcases x.2 with hv | ⟨k, cap, cur, hv, hbs, hk, rest⟩
  · exact .inl hv
  · exact .inr ⟨k, cap, cur, hv, hbs, (hb.block k (Array.getElem?_eq_some_iff.1 hk).1 (by omega) (by omega)).trans hk, rest⟩
theorem But.grown {g h : Nat} {a w w' : World} {row : Option Nat} (x : But g h a w) (y : w.grownBy w' row) (hr : ∀ k, row = some k → a.heap.size ≤ k) : But g h a w' :=
  ⟨y.os.trans x.os, y.tape.trans x.tape, y.output.trans x.output, Nat.le_trans x.size y.size, fun k hk h1 h2 => (y.block k (Nat.lt_of_lt_of_le hk x.size) (fun e => by have := hr k e.symm; omega)).trans (x.block k hk h1 h2)⟩
/-- What the objects that are read are. -/
def ObsP (w : World) (B g : Nat) (r : List (Nat → Int) × List Int × Int) (en : Ending) (w' : World) : Prop :=
  ∃ A c, en = .returned (.slice A r.1.length c) ∧ w'.ownsRow w.heap.size 56 18 (.slice A r.1.length c) r.1.length (flatO r.1) ∧ RdAt w' B g r.2.1 r.2.2 ∧ But g g w w'
def MaRel (w : World) (g B : Nat) (l : List Int) (e : Int) (m : Nat) (v : Value) (wr : World) : Prop :=
  ∃ (A : Option Addr) (k c : Nat) (os : List (Nat → Int)) (l2 : List Int) (e2 : Int), v = .slice A k c ∧ manyR k l e = (os, l2, e2) ∧ os.length = k ∧ k ≤ m ∧ RdAt wr B g l2 e2 ∧ wr.ownsRow w.heap.size 56 18 (.slice A k c) k (flatO os) ∧ But g g w wr
set_option maxHeartbeats 0 in
theorem objects_code {z : World} (T : TabC z) (g B : Nat) (l : List Int) (e : Int) (w : World) (h : RdAt w B g l e) (hB : B ≤ g) (hzB : z.heap.size ≤ B) (hz : Below z.heap.size z w) :
    Calls Tryd.prog 47 #[.pointer (some ⟨g, 0, none⟩)] w (ObsP w B g (countR l e)) := by
  have HR := Lib.hid h
  have hlt0 := h.lt
  have hBsz : z.heap.size ≤ w.heap.size := by omega
  clear h
  go_enter Tryd.func47, Tryd.ntmps47
  go_wp2_with fail
  refine (number_code g B l e w HR.out hB).mono ?_
  rintro en w1 ⟨rfl, hR1, hb1⟩
  have HR1 := Lib.hid hR1
  have HBt1 := Lib.hid hb1
  clear hR1 hb1
  obtain ⟨n, hn⟩ : ∃ n, n = (numR l e).1 := ⟨_, rfl⟩
  rw [← hn]
  have HN := Lib.hid hn
  clear hn HR
  by_cases h0 : n < 0
  · have hf := fail_code g B _ _ 1 w1 HR1.out hB
    rw [errV_err (by decide)] at hf
    have HHE := Lib.hid (show cntE n (numR l e).2.2 = keepE (numR l e).2.2 1 by unfold cntE; rw [if_neg (by omega), if_pos h0])
    rw [← HHE.out] at hf
    have hd0 : decide (n < 0) = true := decide_eq_true h0
    have hd1 : decide (400 < n) = false := decide_eq_false (by omega)
    go_wp2_with fail
    refine hf.mono ?_
    rintro en w2 ⟨rfl, hR2, hb2⟩
    have hB2 := HBt1.out.trans hb2
    clear hf hb2
    have HR2 := Lib.hid hR2
    have HBt2 := Lib.hid hB2
    clear hR2 hB2
    obtain ⟨e1, he1⟩ : ∃ e1, e1 = cntE n (numR l e).2.2 := ⟨_, rfl⟩
    rw [← he1] at HR2
    have HE1 := Lib.hid he1
    have HNE := Lib.hid (show e1 ≠ 0 from fun h => by have := cntE_few (he1.symm.trans h); omega)
    obtain ⟨l1, hl1⟩ : ∃ l1, l1 = (numR l e).2.1 := ⟨_, rfl⟩
    rw [← hl1] at HR2
    have HL1 := Lib.hid hl1
    clear he1 hl1
    obtain ⟨m, hmn⟩ : ∃ m, m = n.toNat := ⟨_, rfl⟩
    have HC := Lib.hid (show countR l e = manyR m l1 e1 by rw [countR, ← HN.out, ← HE1.out, ← HL1.out, hmn])
    have HMn := Lib.hid hmn
    clear hmn
    go_upto_region 7 with fail
    go_loopw [4] (fun v wr => MaRel w g B l1 e1 m v wr) (fun v _ => m - (match v with | .slice _ k _ => k | _ => 0))
    case atStart => exact ⟨none, 0, 0, [], l1, e1, rfl, rfl, rfl, by omega, HR2.out, World.ownsRow_nil _ _ _ 18, HBt2.out⟩
    case round =>
      clear HR2 HBt2
      obtain ⟨A, k, c, os, l2, e2, rfl, hm, hok, hk, hR, hown, hb⟩ := hrel
      have HM := Lib.hid hm
      have HOk := Lib.hid hok
      have HR := Lib.hid hR
      have HO := Lib.hid hown
      have HBt := Lib.hid hb
      have HLt := Lib.hid hR.lt
      have HSz := Lib.hid hb.size
      obtain ⟨A9, n9, c9, hrow, _⟩ := hR
      have c1 := cell_of_row wr g 1 _ _ _ hrow
      simp at c1
      clear hm hok hown hb hrow
      by_cases hlt : k < m
      · have hd : decide ((k : Int) < n) = true := decide_eq_true (by have := HMn.out; omega)
        have h2 : e2 ≠ 0 := by
          intro h
          have hm := HM.out
          rw [manyR_err k l1 e1 HNE.out] at hm
          simp only [Prod.mk.injEq] at hm
          exact HNE.out (hm.2.2.trans h)
        rw [errV_err h2] at c1
        go_wp2_with fail
        go_ret
        have HF := Lib.hid (show countR l e = (os, l2, e2) by
          rw [HC.out, show m = k + (m - k) by omega, manyR_stay k _ _ _ (by rw [HM.out]; exact h2), HM.out])
        rw [HF.out]
        exact ⟨A, c, by rw [HOk.out]; rfl, by rw [HOk.out]; exact HO.out, HR.out, HBt.out⟩
      · obtain rfl : k = m := by omega
        have hd : decide ((k : Int) < n) = false := decide_eq_false (by have := HMn.out; omega)
        go_wp2_with fail
        go_ret
        rw [HC.out, HM.out]
        exact ⟨A, c, by rw [HOk.out]; rfl, by rw [HOk.out]; exact HO.out, HR.out, HBt.out⟩
  · by_cases h4 : 400 < n
    · have hf := fail_code g B _ _ 5 w1 HR1.out hB
      rw [errV_err (by decide)] at hf
      have HHE := Lib.hid (show cntE n (numR l e).2.2 = keepE (numR l e).2.2 5 by unfold cntE; rw [if_pos h4, if_neg h0])
      rw [← HHE.out] at hf
      have hd0 : decide (n < 0) = false := decide_eq_false h0
      have hd1 : decide (400 < n) = true := decide_eq_true h4
      go_wp2_with fail
      refine hf.mono ?_
      rintro en w2 ⟨rfl, hR2, hb2⟩
      have hB2 := HBt1.out.trans hb2
      clear hf hb2
      have HR2 := Lib.hid hR2
      have HBt2 := Lib.hid hB2
      clear hR2 hB2
      obtain ⟨e1, he1⟩ : ∃ e1, e1 = cntE n (numR l e).2.2 := ⟨_, rfl⟩
      rw [← he1] at HR2
      have HE1 := Lib.hid he1
      have HNE := Lib.hid (show e1 ≠ 0 from fun h => by have := cntE_few (he1.symm.trans h); omega)
      obtain ⟨l1, hl1⟩ : ∃ l1, l1 = (numR l e).2.1 := ⟨_, rfl⟩
      rw [← hl1] at HR2
      have HL1 := Lib.hid hl1
      clear he1 hl1
      obtain ⟨m, hmn⟩ : ∃ m, m = n.toNat := ⟨_, rfl⟩
      have HC := Lib.hid (show countR l e = manyR m l1 e1 by rw [countR, ← HN.out, ← HE1.out, ← HL1.out, hmn])
      have HMn := Lib.hid hmn
      clear hmn
      go_upto_region 7 with fail
      go_loopw [4] (fun v wr => MaRel w g B l1 e1 m v wr) (fun v _ => m - (match v with | .slice _ k _ => k | _ => 0))
      case atStart => exact ⟨none, 0, 0, [], l1, e1, rfl, rfl, rfl, by omega, HR2.out, World.ownsRow_nil _ _ _ 18, HBt2.out⟩
      case round =>
        clear HR2 HBt2
        obtain ⟨A, k, c, os, l2, e2, rfl, hm, hok, hk, hR, hown, hb⟩ := hrel
        have HM := Lib.hid hm
        have HOk := Lib.hid hok
        have HR := Lib.hid hR
        have HO := Lib.hid hown
        have HBt := Lib.hid hb
        have HLt := Lib.hid hR.lt
        have HSz := Lib.hid hb.size
        obtain ⟨A9, n9, c9, hrow, _⟩ := hR
        have c1 := cell_of_row wr g 1 _ _ _ hrow
        simp at c1
        clear hm hok hown hb hrow
        by_cases hlt : k < m
        · have hd : decide ((k : Int) < n) = true := decide_eq_true (by have := HMn.out; omega)
          have h2 : e2 ≠ 0 := by
            intro h
            have hm := HM.out
            rw [manyR_err k l1 e1 HNE.out] at hm
            simp only [Prod.mk.injEq] at hm
            exact HNE.out (hm.2.2.trans h)
          rw [errV_err h2] at c1
          go_wp2_with fail
          go_ret
          have HF := Lib.hid (show countR l e = (os, l2, e2) by
            rw [HC.out, show m = k + (m - k) by omega, manyR_stay k _ _ _ (by rw [HM.out]; exact h2), HM.out])
          rw [HF.out]
          exact ⟨A, c, by rw [HOk.out]; rfl, by rw [HOk.out]; exact HO.out, HR.out, HBt.out⟩
        · obtain rfl : k = m := by omega
          have hd : decide ((k : Int) < n) = false := decide_eq_false (by have := HMn.out; omega)
          go_wp2_with fail
          go_ret
          rw [HC.out, HM.out]
          exact ⟨A, c, by rw [HOk.out]; rfl, by rw [HOk.out]; exact HO.out, HR.out, HBt.out⟩
    · have hd0 : decide (n < 0) = false := decide_eq_false h0
      have hd1 : decide (400 < n) = false := decide_eq_false h4
      have hR2 := HR1.out
      rw [show (numR l e).2.2 = cntE n (numR l e).2.2 by unfold cntE; rw [if_neg h4, if_neg h0]] at hR2
      have hB2 := HBt1.out
      obtain ⟨w2, hw2⟩ : ∃ w2, w2 = w1 := ⟨_, rfl⟩
      rw [← hw2] at hR2 hB2 ⊢
      clear hw2
      have HR2 := Lib.hid hR2
      have HBt2 := Lib.hid hB2
      clear hR2 hB2
      obtain ⟨e1, he1⟩ : ∃ e1, e1 = cntE n (numR l e).2.2 := ⟨_, rfl⟩
      rw [← he1] at HR2
      have HE1 := Lib.hid he1
      obtain ⟨l1, hl1⟩ : ∃ l1, l1 = (numR l e).2.1 := ⟨_, rfl⟩
      rw [← hl1] at HR2
      have HL1 := Lib.hid hl1
      clear he1 hl1
      obtain ⟨m, hmn⟩ : ∃ m, m = n.toNat := ⟨_, rfl⟩
      have HC := Lib.hid (show countR l e = manyR m l1 e1 by rw [countR, ← HN.out, ← HE1.out, ← HL1.out, hmn])
      have HMn := Lib.hid hmn
      clear hmn
      go_upto_region 7 with fail
      go_loopw [4] (fun v wr => MaRel w g B l1 e1 m v wr) (fun v _ => m - (match v with | .slice _ k _ => k | _ => 0))
      case atStart => exact ⟨none, 0, 0, [], l1, e1, rfl, rfl, rfl, by omega, HR2.out, World.ownsRow_nil _ _ _ 18, HBt2.out⟩
      case round =>
        clear HR2 HBt2
        obtain ⟨A, k, c, os, l2, e2, rfl, hm, hok, hk, hR, hown, hb⟩ := hrel
        have HM := Lib.hid hm
        have HOk := Lib.hid hok
        have HR := Lib.hid hR
        have HO := Lib.hid hown
        have HBt := Lib.hid hb
        have HLt := Lib.hid hR.lt
        have HSz := Lib.hid hb.size
        obtain ⟨A9, n9, c9, hrow, _⟩ := hR
        have c1 := cell_of_row wr g 1 _ _ _ hrow
        simp at c1
        clear hm hok hown hb hrow
        by_cases hlt : k < m
        · have hd : decide ((k : Int) < n) = true := decide_eq_true (by have := HMn.out; omega)
          by_cases h2 : e2 = 0
          case neg =>
            rw [errV_err h2] at c1
            go_wp2_with fail
            go_ret
            have HF := Lib.hid (show countR l e = (os, l2, e2) by
              rw [HC.out, show m = k + (m - k) by omega, manyR_stay k _ _ _ (by rw [HM.out]; exact h2), HM.out])
            rw [HF.out]
            exact ⟨A, c, by rw [HOk.out]; rfl, by rw [HOk.out]; exact HO.out, HR.out, HBt.out⟩
          subst h2
          rw [errV_nil] at c1
          have hfew : n ≤ 400 := by
            have h0 : e1 = 0 := by
              apply Classical.byContradiction
              intro h
              have := HM.out
              rw [manyR_err k l1 e1 h] at this
              simp only [Prod.mk.injEq] at this
              exact h this.2.2
            have := HE1.out
            rw [h0] at this
            exact (cntE_few this.symm).2.2
          have hk4 : k ≤ 1000000 := by have := HMn.out; omega
          have hgb : g < w.heap.size := hlt0
          go_upto_region 8 with fail
          clear c1
          have hob := object_code T g B l2 0 wr HR.out hB (by have := HSz.out; omega) hzB (HBt.out.below hz hBsz (by omega) (by omega))
          obtain ⟨f, l3, e3, hq⟩ : ∃ f l3 e3, oneR l2 0 = (f, l3, e3) := ⟨_, _, _, rfl⟩
          rw [hq] at hob
          simp only at hob
          have HM2 := Lib.hid (show manyR (k + 1) l1 e1 = (os ++ [f], l3, e3) by rw [manyR, HM.out]; simp only [ne_eq, not_true_eq_false, if_false]; rw [hq])
          clear hq
          go_wp2_with fail
          refine hob.mono ?_
          rintro en w2 ⟨rfl, hR2, hb2⟩
          have HO2 := Lib.hid (owns_but HO.out hb2 hgb hgb)
          have HR2 := Lib.hid hR2
          have HBt2 := Lib.hid (HBt.out.trans hb2)
          clear hob hR2 hb2
          have hnew : ObAt (w2.alloc (.cells (arr .i64 18 f) 56)) w2.heap.size f := heap_alloc_new w2 _
          have HO3 := Lib.hid (HO2.out.alloc (.cells (arr .i64 18 f) 56))
          have HR3 := Lib.hid (HR2.out.keep (W' := w2.alloc (.cells (arr .i64 18 f) 56)) ((Below.refl _ _).alloc (Nat.le_refl _) _) hB)
          have HBt3 := Lib.hid (HBt2.out.trans (But.ofBelow (w' := w2.alloc (.cells (arr .i64 18 f) 56)) ((Below.refl _ _).alloc (Nat.le_refl _) _)))
          have hs3 : w.heap.size ≤ (w2.alloc (.cells (arr .i64 18 f) 56)).heap.size := HBt3.out.size
          clear HR2 HO2 HBt2
          go_wp2_with (first
            | (refine wpList_buildSliceOf rfl (.tmp 30) rfl f rfl ?_)
            | (at_builtin; (refine wpList_appO1 rfl (.tmp 28) (.tmp 31) rfl w.heap.size A k c os rfl HO3.out w2.heap.size 1 f rfl hnew (by omega) hs3 ?_; intro A4 c4 w4 hown4 hg4)))
          have HO4 := Lib.hid hown4
          have HR4 := Lib.hid (HR3.out.other (W' := w4) (fun q hq => hg4.block q (by have := HR3.out.lt; omega) (fun e => by have := (HO3.out.lt q e.symm).1; omega)) (hg4.block g HR3.out.lt (fun e => by have := (HO3.out.lt g e.symm).1; omega)))
          have HBt4 := Lib.hid (HBt3.out.grown hg4 (fun q e => (HO3.out.lt q e).1))
          clear hown4 hg4 hnew HO3 HR3 HBt3 hs3
          go_roundw
          case rel => exact ⟨A4, k + 1, c4, os ++ [f], l3, e3, rfl, HM2.out, by rw [List.length_append, HOk.out]; rfl, by omega, HR4.out, HO4.out, HBt4.out⟩
          case measure => simp; omega
        · obtain rfl : k = m := by omega
          have hd : decide ((k : Int) < n) = false := decide_eq_false (by have := HMn.out; omega)
          go_wp2_with fail
          go_ret
          rw [HC.out, HM.out]
          exact ⟨A, c, by rw [HOk.out]; rfl, by rw [HOk.out]; exact HO.out, HR.out, HBt.out⟩
end Go.Proofs.YtihbdbgmijkjmaaDoor
namespace Go.Proofs.YtihbdbgmijkjmaaDoor
open Go.RowKit Ex Px Wx
set_option maxRecDepth 100000
theorem tl_len {l : List Int} (hl : byB l) {x : List Int} {k : Nat} {e : Int} (h : tl l 400 = (x, k, e)) : k ≤ 4010 ∧ k ≤ l.length := by
  have h2 := h
  rw [← tl_take hl] at h2
  have hb : byB (l.take 4010) := byB_take 4010 hl
  have a : k ≤ l.length := by
    rcases tl_range hl 400 h with ⟨_, h, _⟩ | ⟨_, h, _⟩ <;> omega
  have b : k ≤ (l.take 4010).length := by
    rcases tl_range hb 400 h2 with ⟨_, h, _⟩ | ⟨_, h, _⟩ <;> omega
  rw [List.length_take] at b
  omega
/-- What a list that is read is. -/
def ListP (w : World) (B g : Nat) (r : List Int × List Int × Int) (en : Ending) (w' : World) : Prop :=
  ∃ A n c, en = .returned (.slice A n c) ∧ Nums .i64 w' w'.heap.size A n r.1 ∧ n ≤ c ∧ (∀ a, A = some a → w.heap.size ≤ a.block) ∧ RdAt w' B g r.2.1 r.2.2 ∧ But g g w w'
set_option maxHeartbeats 0 in
theorem list_code (g B : Nat) (l : List Int) (e : Int) (w : World) (h : RdAt w B g l e) (hB : B ≤ g) :
    Calls Tryd.prog 48 #[.pointer (some ⟨g, 0, none⟩)] w (ListP w B g (listR l e)) := by
  have HR := Lib.hid h
  have hlt := h.lt
  obtain ⟨A, n, c, hrow, _⟩ := h
  have c1 := cell_of_row w g 1 _ _ _ hrow
  simp at c1
  clear hrow
  by_cases he : e = 0
  case neg =>
    rw [errV_err he] at c1
    rw [listR_err he]
    go_enter Tryd.func48, Tryd.ntmps48
    go_wp2_with fail
    go_ret
    exact ⟨none, 0, 0, rfl, Nums.none_, Nat.le_refl _, (fun a ha => by cases ha), HR.out, But.refl g g w⟩
  subst he
  rw [errV_nil] at c1
  have hby := HR.out.by_
  obtain ⟨z, k, e1, ht⟩ : ∃ z k e1, tl l 400 = (z, k, e1) := ⟨_, _, _, rfl⟩
  go_enter Tryd.func48, Tryd.ntmps48
  go_wp2_with fail
  refine (front_code g B 4010 l 0 w HR.out).mono ?_
  rintro e w2 ⟨A2, n2, c2, rfl, hn2, hc2, hN2, hb2⟩
  have HR2 := Lib.hid (HR.out.keep hb2 hB)
  have hs2 := hb2.size
  have HNum := Lib.hid hN2
  have HBy := Lib.hid (byB_take 4010 hby)
  have HT := Lib.hid ht
  have HTl := Lib.hid (tl_len hby ht)
  have HT2 := Lib.hid ((tl_take hby).trans ht)
  have HMn := Lib.hid hn2
  clear hN2 c1 ht hn2 hby
  go_wp2_with fail
  have hn2 := HMn.out
  refine (takeList_gen A2 n2 c2 _ 400 w2 B HNum.out hc2 HBy.out (by omega) (by omega) _ HT2.out).mono ?_
  rintro e w3 hpost
  rcases hpost with ⟨h1, rfl, hb3⟩ | ⟨h1, A1, m1, c1, A3, m3, c3, rfl, hown1, hown3, hb3⟩
  · simp only at h1
    have HR3 := Lib.hid (HR2.out.keep hb3 hB)
    have hf := fail_code g B l 0 e1 w3 HR3.out hB
    rw [errV_err h1, keepE_nil] at hf
    clear HNum HBy hn2 HT2
    go_wp2_with fail
    refine hf.mono ?_
    rintro e w4 ⟨rfl, hR4, hb4⟩
    have HR4 := Lib.hid hR4
    have HB4 := Lib.hid ((But.ofBelow (keepB hb3 hb2)).trans hb4)
    obtain ⟨kk, hkk1⟩ : ∃ kk, kk = n2 := ⟨_, rfl⟩
    have hfew := HR.out.few
    have hn2 := HMn.out
    have hkk : kk ≤ l.length := by omega
    have hw : IntKind.i64.wrap ((n2 : Int) - 0) = (kk : Int) := by rw [i64_in (by omega) (by omega)]; omega
    have hw0 : IntKind.i64.wrap (n2 : Int) = (kk : Int) := by rw [i64_in (by omega) (by omega)]; omega
    have HK := Lib.hid (show l.drop kk = l.drop 4010 by rw [hkk1, HMn.out, drop_min])
    clear hf hR4 hb4 hb2 hb3 hkk1 HMn hn2 hfew
    obtain ⟨A5, n5, c5, hrow5, hN5, hc5, hn5, hby5⟩ := HR4.out
    obtain rfl := hN5.len
    have hcur := cell_of_row w4 g 0 _ _ _ hrow5
    have hfr := frozen_of_row w4 g 0 _ _ hrow5
    simp at hcur
    obtain ⟨A6, hsl, hN6⟩ := cut_from (P := Tryd.prog) hN5 hc5 (i := kk) hkk 30 (by kernel_rfl) (fun _ => by kernel_rfl)
    have HR5 := Lib.hid (HR4.out.setLeft hB (n := l.length - kk) (c := c5 - kk) hN6 (by omega) (by omega) (byB_drop kk hby5))
    clear hrow5 hN5 hN6 hby5
    go_wp2_with fail
    go_ret
    rw [listR_bad HT.out h1, ← HK.out]
    exact ⟨none, 0, 0, rfl, Nums.none_, Nat.le_refl _, (fun a ha => by cases ha), HR5.out, HB4.out.setL 0 _⟩
  · simp only at h1 hown1 hown3
    subst h1
    have HM3 := Lib.hid (show m3 = n2 - k by have := HTl.out; rw [← hown3.len, List.length_drop, List.length_take]; omega)
    have HR3 := Lib.hid (HR2.out.keep hb3 hB)
    have hf := fail_code g B l 0 0 w3 HR3.out hB
    rw [errV_nil, keepE_nil] at hf
    have HO1 := Lib.hid hown1
    clear hown1 hown3 HNum HBy hn2 HT2
    go_wp2_with fail
    refine hf.mono ?_
    rintro e w4 ⟨rfl, hR4, hb4⟩
    have HR4 := Lib.hid hR4
    have HFar := Lib.hid (own_far HO1.out)
    have hgl := HR.out.lt
    have HN1 := Lib.hid (HO1.out.nums.but (fun a ha => by have := HFar.out a ha; omega) hb4)
    have HB4 := Lib.hid ((But.ofBelow (keepB hb3 hb2)).trans hb4)
    have HC1 := Lib.hid HO1.out.cap
    obtain ⟨kk, hkk1⟩ : ∃ kk, kk = k := ⟨_, rfl⟩
    have hfew := HR.out.few
    have hn2 := HMn.out
    have hkk : kk ≤ l.length := by have := HTl.out; omega
    have hw : IntKind.i64.wrap ((n2 : Int) - (m3 : Int)) = (kk : Int) := by have := HM3.out; have := HTl.out; rw [i64_in (by omega) (by omega)]; omega
    have HK := Lib.hid hkk1
    clear hf hR4 hb4 hb3 hb2 HM3 hkk1 HMn hn2 hfew HO1
    obtain ⟨A5, n5, c5, hrow5, hN5, hc5, hn5, hby5⟩ := HR4.out
    obtain rfl := hN5.len
    have hcur := cell_of_row w4 g 0 _ _ _ hrow5
    have hfr := frozen_of_row w4 g 0 _ _ hrow5
    simp at hcur
    obtain ⟨A6, hsl, hN6⟩ := cut_from (P := Tryd.prog) hN5 hc5 (i := kk) hkk 30 (by kernel_rfl) (fun _ => by kernel_rfl)
    have HR5 := Lib.hid (HR4.out.setLeft hB (n := l.length - kk) (c := c5 - kk) hN6 (by omega) (by omega) (byB_drop kk hby5))
    clear hrow5 hN5 hN6 hby5
    go_wp2_with fail
    go_ret
    rw [listR_ok HT.out, ← HK.out]
    refine ⟨A1, m1, c1, rfl, ?_, HC1.out, (fun a ha => by have := HFar.out a ha; omega), HR5.out, HB4.out.setL 0 _⟩
    exact HN1.out.but (fun a ha => by have := HFar.out a ha; omega) ((But.refl g g w4).setL 0 _)
end Go.Proofs.YtihbdbgmijkjmaaDoor
namespace Go.Proofs.YtihbdbgmijkjmaaDoor
open Go.RowKit Ex Px Wx
set_option maxRecDepth 100000
/-- What stands from N on, but in one block, is kept. -/
structure Kp (N h : Nat) (w w' : World) : Prop where
  size : w.heap.size ≤ w'.heap.size
  block : ∀ k, N ≤ k → k < w.heap.size → k ≠ h → w'.heap[k]? = w.heap[k]?
def FarA (N h : Nat) (A : Option Addr) : Prop := ∀ a, A = some a → N ≤ a.block ∧ a.block ≠ h
/-- A state's slices, somewhere from N on, but in one block. -/
structure SR (W : World) (N h : Nat) (s : StT) (O : SlT) (L : Nat → SlT) : Prop where
  on : O.n = s.objs.length
  oc : O.n ≤ O.c
  om : O.c ≤ maxLen
  o : RdO W.heap.size W O.A s.objs
  of : FarA N h O.A
  l : ∀ z < 11, Nums .i64 W W.heap.size (L z).A (L z).n (s.lists z)
  lc : ∀ z < 11, (L z).n ≤ (L z).c
  lf : ∀ z < 11, FarA N h (L z).A
section
variable {W W' : World} {N h : Nat} {s : StT} {O : SlT} {L : Nat → SlT}
theorem Nums.kp {k : IntKind} {A : Option Addr} {n : Nat} {l : List Int} (x : Nums k W W.heap.size A n l) (hf : FarA N h A) (hb : Kp N h W W') : Nums k W' W'.heap.size A n l := by
  refine ⟨x.len, fun j u hu => ?_⟩
  obtain ⟨a, ea, h1, hcell⟩ := x.2 j u hu
  obtain ⟨n1, n2⟩ := hf a ea
  exact ⟨a, ea, Nat.lt_of_lt_of_le h1 hb.size, (World.cell?_of_block (by rw [addr_block]; exact hb.block _ n1 h1 n2)).trans hcell⟩
theorem RdO.kp {A : Option Addr} {l : List (Nat → Int)} (x : RdO W.heap.size W A l) (hf : FarA N h A) (hb : Kp N h W W') : RdO W'.heap.size W' A l := by
  intro i o ho
  obtain ⟨b, off, ea, h1, hra⟩ := x i o ho
  obtain ⟨n1, n2⟩ := hf _ ea
  exact ⟨b, off, ea, Nat.lt_of_lt_of_le h1 hb.size, fun k u hu => (World.cell?_of_block (hb.block b n1 h1 n2)).trans (hra k u hu)⟩
theorem SR.kp (x : SR W N h s O L) (hb : Kp N h W W') : SR W' N h s O L :=
  ⟨x.on, x.oc, x.om, x.o.kp x.of hb, x.of, fun z hz => (x.l z hz).kp (x.lf z hz) hb, x.lc, x.lf⟩
theorem Kp.below (hb : Below W.heap.size W W') : Kp N h W W' := ⟨hb.size, fun k _ hk _ => hb.block k hk⟩
theorem Kp.but {g : Nat} (hb : But g h W W') (hg : g < N) : Kp N h W W' := ⟨hb.size, fun k h1 h2 h3 => hb.block k h2 (by omega) h3⟩
theorem Kp.but1 {g : Nat} (hb : But g g W W') (hg : g < N) : Kp N h W W' := ⟨hb.size, fun k h1 h2 _ => hb.block k h2 (by omega) (by omega)⟩
theorem Kp.setRow (g : Nat) (cs : Array Value) (hg : g < N) : Kp N h W (W.setRow g cs) := ⟨by simp, fun k h1 _ _ => setRow_other W g k cs (by omega)⟩
theorem Kp.setCell (i : Nat) (v : Value) : Kp N h W (W.setCell ⟨h, i, none⟩ v) := ⟨by simp [World.setCell], fun k _ _ h3 => heap_setCell_other W ⟨h, i, none⟩ k v (by simpa using h3)⟩
theorem SR.low {N' : Nat} (x : SR W N h s O L) (hN : N' ≤ N) : SR W N' h s O L :=
  ⟨x.on, x.oc, x.om, x.o, fun a ha => ⟨by have := (x.of a ha).1; omega, (x.of a ha).2⟩, x.l, x.lc, fun z hz a ha => ⟨by have := (x.lf z hz a ha).1; omega, (x.lf z hz a ha).2⟩⟩
/-- Another list. -/
theorem SR.list (x : SR W N h s O L) {z : Nat} {y : SlT} {l : List Int} (h1 : Nums .i64 W W.heap.size y.A y.n l) (h2 : y.n ≤ y.c) (h3 : FarA N h y.A) : SR W N h { s with lists := fun i => if i = z then l else s.lists i } O (updS L z y) := by
  refine ⟨x.on, x.oc, x.om, x.o, x.of, fun j hj => ?_, fun j hj => ?_, fun j hj => ?_⟩
  all_goals by_cases e : j = z
  · subst e; simp only [updS, if_pos]; exact h1
  · simp only [updS, if_neg e]; exact x.l j hj
  · subst e; simp only [updS, if_pos]; exact h2
  · simp only [updS, if_neg e]; exact x.lc j hj
  · subst e; simp only [updS, if_pos]; exact h3
  · simp only [updS, if_neg e]; exact x.lf j hj
theorem SR.nums (x : SR W N h s O L) (p q : Nat → Int) : SR W N h ⟨s.objs, s.lists, p, q⟩ O L := ⟨x.on, x.oc, x.om, x.o, x.of, x.l, x.lc, x.lf⟩
theorem SR.reads (x : SR W N h s O L) (ho : ∀ o ∈ s.objs, ∀ i < 18, N64 (o i)) (hl : ∀ z < 11, ∀ n ∈ s.lists z, N64 n) (hp : ∀ i < 18, N64 (s.pl i)) (hg : ∀ i < 7, N64 (s.gm i)) : ReadsS W.heap.size W (stC O L s.pl s.gm) s O L :=
  ⟨rfl, x.on, x.oc, x.om, x.o, x.l, x.lc, ho, hl, hp, hg⟩
/-- Objects of the call's own, and no lists. -/
theorem SR.ofObjs {A : Option Addr} {n c : Nat} {os : List (Nat → Int)} (ho : W.ownsRow N 56 18 (.slice A n c) n (flatO os)) (hn : n = os.length) (hh : W.heap.size ≤ h) (p q : Nat → Int) : SR W N h ⟨os, fun _ => [], p, q⟩ ⟨A, n, c⟩ (fun _ => nilS) := by
  obtain ⟨A', c', e, hs⟩ := slO_of_own ho hn
  injection e with e1 _ e3
  subst e1 e3
  refine ⟨hn, hs.c, hs.m, hs.R, fun a ha => ?_, fun z _ => Nums.none_, fun z _ => Nat.le_refl _, fun z _ a ha => by cases ha⟩
  obtain ⟨g, o2, cs, t, e, h3, h4⟩ := hs.f a ha
  have := (Array.getElem?_eq_some_iff.1 h4).1
  rw [e]
  exact ⟨h3, by simp only; omega⟩
end
/-- The players' and the game's numbers, part by part. -/
def pC (O : SlT) (L : Nat → SlT) (q : Nat → Int) (p : Nat) (base : Nat → Int) (f : Nat → Int) : Array Value := stC O L (fun i => if 9 * p ≤ i ∧ i < 9 * p + 9 then f (i - 9 * p) else base i) q
theorem pC_get (O : SlT) (L : Nat → SlT) (q base f : Nat → Int) {p j : Nat} (hp : p < 2) (hj : j < 9) : (pC O L q p base f)[12 + 9 * p + j]? = some (.int .i64 (f j)) := by
  unfold pC
  rw [Nat.add_assoc, stC_pl _ _ _ _ (by omega), if_pos (by omega), show 9 * p + j - 9 * p = j by omega]
theorem pC_set (O : SlT) (L : Nat → SlT) (q base f : Nat → Int) {p j : Nat} (hp : p < 2) (hj : j < 9) (x : Int) : (pC O L q p base f).setIfInBounds (12 + 9 * p + j) (.int .i64 x) = pC O L q p base (updI f j x) := by
  unfold pC
  rw [Nat.add_assoc, stC_set_pl _ _ _ _ (by omega)]
  congr 1
  funext i
  unfold updI
  dsimp only
  by_cases e : i = 9 * p + j
  · rw [if_pos e, if_pos (by omega), if_pos (by omega)]
  · rw [if_neg e]
    by_cases h : 9 * p ≤ i ∧ i < 9 * p + 9
    · rw [if_pos h, if_pos h, if_neg (by omega)]
    · rw [if_neg h, if_neg h]
theorem pC_self (O : SlT) (L : Nat → SlT) (q base : Nat → Int) (p : Nat) : pC O L q p base (fun j => base (9 * p + j)) = stC O L base q := by
  unfold pC
  congr 1
  funext i
  dsimp only
  by_cases h : 9 * p ≤ i ∧ i < 9 * p + 9
  · rw [if_pos h, show 9 * p + (i - 9 * p) = i by omega]
  · rw [if_neg h]
/-- A player more. -/
def upTo (xs : List Int) (m : Nat) : Nat → Int := fun i => if i < m then xs.getD i 0 else 0
theorem upTo_step {xs ys : List Int} {p : Nat} (hx : xs.length = 9 * p) : (fun i => if 9 * p ≤ i ∧ i < 9 * p + 9 then (plF (fun j => upTo xs (9 * p) (9 * p + j)) ys 9) (i - 9 * p) else upTo xs (9 * p) i) = upTo (xs ++ ys) (9 * (p + 1)) := by
  funext i
  unfold upTo plF
  dsimp only
  by_cases h : 9 * p ≤ i ∧ i < 9 * p + 9
  · rw [if_pos h, if_pos (by omega), if_pos (by omega), List.getD_eq_getElem?_getD, List.getD_eq_getElem?_getD, List.getElem?_append_right (by omega), hx]
  · rw [if_neg h]
    by_cases h2 : i < 9 * p
    · rw [if_pos h2, if_pos (by omega), List.getD_eq_getElem?_getD, List.getD_eq_getElem?_getD, List.getElem?_append_left (by omega)]
    · rw [if_neg h2, if_neg (by omega)]
theorem mkS_cells (os : List (Nat → Int)) (Lf : Nat → List Int) (O : SlT) (L : Nat → SlT) {xs zs : List Int} (hx : xs.length = 18) : stC O L (upTo xs 18) (fun i => zs.getD i 0) = stC O L (mkS os Lf (xs ++ zs)).pl (mkS os Lf (xs ++ zs)).gm := by
  refine stC_congr O L (fun i hi => ?_) (fun i hi => ?_)
  · show upTo xs 18 i = (xs ++ zs).getD i 0
    unfold upTo
    rw [if_pos hi, List.getD_eq_getElem?_getD, List.getD_eq_getElem?_getD, List.getElem?_append_left (by omega)]
  · show zs.getD i 0 = (xs ++ zs).getD (18 + i) 0
    rw [List.getD_eq_getElem?_getD, List.getD_eq_getElem?_getD, List.getElem?_append_right (by omega), hx, Nat.add_sub_cancel_left]
theorem buildS (A : Option Addr) (n c : Nat) (W : World) : (Instr.build 29 #[(0, .slice A n c)]).run Tryd.prog W = .ok (.agg (stC ⟨A, n, c⟩ (fun _ => nilS) (fun _ => 0) (fun _ => 0))) W := by kernel_rfl
theorem wpList_buildS {ops : Array Oper} {rest : List Oper} {o : Oper} {a : Act} {w : World} {Q : Exit → Act → World → Prop} (hg : o.guard = none) (x : Operand) (ho : o.op = .build 29 #[(0, x)]) (A : Option Addr) (n c : Nat)
    (hx : a.eval x = .slice A n c) (hK : wpList Tryd.prog ops Q rest (a.put o.dst (.agg (stC ⟨A, n, c⟩ (fun _ => nilS) (fun _ => 0) (fun _ => 0)))) w) : wpList Tryd.prog ops Q (o :: rest) a w := by
  refine wpList_plain hg fun K' hK' => ?_
  unfold Oper.wp
  simp [execOp, ho, hx, buildS, Result.andThen]
  exact hK' _ _ hK
/-- What a state that is read is. -/
def StP (w : World) (B g : Nat) (r : StT × List Int × Int) (en : Ending) (w' : World) : Prop :=
  ∃ O L h, en = .returned (.agg (stC O L r.1.pl r.1.gm)) ∧ SR w' w.heap.size h r.1 O L ∧ RdAt w' B g r.2.1 r.2.2 ∧ But g g w w'
def LiRel (w : World) (B g N h : Nat) (os : List (Nat → Int)) (O : SlT) (l : List Int) (e : Int) (i : Value) (wr : World) : Prop :=
  ∃ (z : Nat) (Lf : Nat → List Int) (Lp : Nat → SlT) (l2 : List Int) (e2 : Int), i = .int .i64 ((z : Nat) : Int) ∧ z ≤ 11 ∧ listsR z l e = (Lf, l2, e2) ∧ RdAt wr B g l2 e2 ∧ SR wr N h ⟨os, Lf, fun _ => 0, fun _ => 0⟩ O Lp ∧
    StAt wr h (stC O Lp (fun _ => 0) (fun _ => 0)) ∧ But g g w wr
def PlRel (w : World) (B g N h : Nat) (os : List (Nat → Int)) (Lf : Nat → List Int) (O : SlT) (Lp : Nat → SlT) (l : List Int) (e : Int) (i : Value) (wr : World) : Prop :=
  ∃ (p : Nat) (xs l2 : List Int) (e2 : Int), i = .int .i64 ((p : Nat) : Int) ∧ p ≤ 2 ∧ fillR (9 * p) l e = (xs, l2, e2) ∧ RdAt wr B g l2 e2 ∧ SR wr N h ⟨os, Lf, fun _ => 0, fun _ => 0⟩ O Lp ∧
    StAt wr h (stC O Lp (upTo xs (9 * p)) (fun _ => 0)) ∧ But g g w wr
set_option maxHeartbeats 0 in
theorem state_code {z : World} (T : TabC z) (g B : Nat) (l : List Int) (e : Int) (w : World) (h : RdAt w B g l e) (hB : B ≤ g) (hzB : z.heap.size ≤ B) (hz : Below z.heap.size z w) :
    Calls Tryd.prog 28 #[.pointer (some ⟨g, 0, none⟩)] w (StP w B g (stateR l e)) := by
  have HR := Lib.hid h
  have hlt := h.lt
  clear h
  go_enter Tryd.func28, Tryd.ntmps28
  go_upto_region 1 with fail
  rw [st0_is]
  obtain ⟨w0, hw0⟩ : ∃ w0, w0 = w.alloc (.cells st0 29) := ⟨_, rfl⟩
  rw [← hw0]
  have hA0 : StAt w0 w.heap.size st0 := by rw [hw0]; exact StAt.new _ _
  have hb0 : Below w.heap.size w w0 := by rw [hw0]; exact (Below.refl _ _).alloc (Nat.le_refl _) _
  have hs0 : w0.heap.size = w.heap.size + 1 := by rw [hw0]; simp
  clear hw0
  go_wp2_with fail
  refine (objects_code T g B l e w0 (HR.out.keep hb0 hB) hB hzB (hz.trans (hb0.mono (by omega)))).mono ?_
  rintro en w1 ⟨A1, c1, rfl, hown, hR1, hb1⟩
  obtain ⟨os, l1, e1, hq⟩ : ∃ os l1 e1, countR l e = (os, l1, e1) := ⟨_, _, _, rfl⟩
  rw [hq] at hown hR1 ⊢
  simp only at hown hR1 ⊢
  obtain ⟨n1, hn1⟩ : ∃ n1, n1 = os.length := ⟨_, rfl⟩
  rw [← hn1] at hown ⊢
  have HQ := Lib.hid hq
  have HR1 := Lib.hid hR1
  have HBt1 := Lib.hid ((But.ofBelow hb0 : But g g w w0).trans hb1)
  have hA1 : StAt w1 w.heap.size st0 := (hb1.block _ (by omega) (by omega) (by omega)).trans hA0
  have hs1 : w0.heap.size ≤ w1.heap.size := hb1.size
  obtain ⟨N, hN⟩ : ∃ N, N = w0.heap.size := ⟨_, rfl⟩
  rw [← hN] at hown hs0 hs1
  have HSR1 := Lib.hid (SR.ofObjs hown hn1 (Nat.le_refl w1.heap.size) (fun _ => 0) (fun _ => 0))
  have hgN : g < N := by omega
  have hwN : w.heap.size < N := by omega
  clear hq hR1 hb1 hA0 hb0 hN hown hn1 hs0
  obtain ⟨cs1, hcs1⟩ : ∃ cs1, cs1 = stC ⟨A1, n1, c1⟩ (fun _ => nilS) (fun _ => 0) (fun _ => 0) := ⟨_, rfl⟩
  have hcsz : (Tryd.prog.info? 29).map (·.size) = some cs1.size := by rw [hcs1, stC_size]; exact size37
  have hcs0 : st0.size = cs1.size := by rw [hcs1, stC_size]; exact stC_size _ _ _ _
  have hone : cs1.all (·.oneCell') = true := by rw [hcs1]; exact stC_one _ _ _ _
  have HCs1 := Lib.hid hcs1
  clear hcs1
  have hz37 := st0_is
  have hnew : (w1.alloc (.cells st0 29)).heap[w1.heap.size]? = some (.cells st0 29 (0, 0)) := heap_alloc_new _ _
  go_upto_region 2 with (first
    | (refine wpList_buildS rfl (.tmp 7) rfl A1 n1 c1 rfl ?_; rw [← HCs1.out])
    | (refine wpList_store_row rfl 29 (.tmp 3) (.tmp 8) rfl w1.heap.size _ rfl rfl 29 st0 hnew hcsz hcs0 hone ?_))
  obtain ⟨w2, hw2, hA2, hb2⟩ := box_new w1 cs1
  rw [← hw2]
  rw [HCs1.out] at hA2
  have HSR2 := Lib.hid (HSR1.out.kp (Kp.below hb2))
  have HR2 := Lib.hid (HR1.out.keep hb2 hB)
  have HBt2 := Lib.hid (HBt1.out.trans (But.ofBelow hb2))
  have hA2r : StAt w2 w.heap.size st0 := hA1.keep hb2
  have hlt1 : w.heap.size < w1.heap.size := by omega
  have hgr : g < w1.heap.size := by omega
  obtain ⟨hh, hhh⟩ : ∃ hh, hh = w1.heap.size := ⟨_, rfl⟩
  rw [← hhh] at HSR2 hA2 hlt1 hgr hs1 ⊢
  have HA2 := Lib.hid hA2
  have HA2r := Lib.hid hA2r
  clear hw2 hhh hb2 hA1 HCs1 hcsz hcs0 hone hz37 hnew HR HR1 HSR1 HBt1 hA2 hA2r
  have hgh : g ≠ hh := by omega
  obtain ⟨O, hO⟩ : ∃ O : SlT, O = ⟨A1, n1, c1⟩ := ⟨_, rfl⟩
  rw [← hO] at HSR2 HA2
  clear hO
  go_upto_region 3 with fail
  go_loopw [9] (fun i wr => LiRel w B g N hh os O l1 e1 i wr ∧ StAt wr w.heap.size st0) (fun i _ => 11 - (intOf i).toNat)
  case atStart => exact ⟨⟨0, fun _ => [], fun _ => nilS, l1, e1, rfl, by omega, rfl, HR2.out, HSR2.out, HA2.out, HBt2.out⟩, HA2r.out⟩
  case round =>
    clear HR2 HSR2 HA2 HBt2 HA2r
    obtain ⟨⟨z1, Lf, Lp, l2, e2, rfl, hz1, hls, hR, hS, hA, hb⟩, hA0⟩ := hrel
    have HLs := Lib.hid hls
    have HR := Lib.hid hR
    have HS := Lib.hid hS
    have HA := Lib.hid hA
    have HBt := Lib.hid hb
    have HA0 := Lib.hid hA0
    have hlr : hh < wr.heap.size := hA.lt
    clear hls hR hS hA hb hA0
    by_cases hlt11 : z1 < 11
    · have hd : decide ((z1 : Int) < 11) = true := decide_eq_true (by omega)
      have p0 : (0 : Int) ≤ (z1 : Int) := by omega
      have p1 : (z1 : Int) < 11 := by omega
      have hl := list_code g B l2 e2 wr HR.out hB
      obtain ⟨x, l3, e3, hq⟩ : ∃ x l3 e3, listR l2 e2 = (x, l3, e3) := ⟨_, _, _, rfl⟩
      rw [hq] at hl
      have HLs2 := Lib.hid (show listsR (z1 + 1) l1 e1 = (fun i => if i = z1 then x else Lf i, l3, e3) by rw [listsR, HLs.out]; simp only; rw [hq])
      clear hq
      go_wp2_with fail
      refine hl.mono ?_
      rintro en w3 ⟨A3, n3, c3, rfl, hN3, hc3, hf3, hR3, hb3⟩
      simp only at hN3 hR3
      have hA3 : StAt w3 hh (stC O Lp (fun _ => 0) (fun _ => 0)) := (hb3.block _ hlr (by omega) (by omega)).trans HA.out
      have HS3 := Lib.hid ((HS.out.kp (Kp.but1 hb3 hgN)).list (z := z1) (y := ⟨A3, n3, c3⟩) hN3 hc3 (fun a ha => by have := hf3 a ha; have := HBt.out.size; exact ⟨by omega, by omega⟩))
      have HS4 := Lib.hid (HS3.out.kp (Kp.setCell (1 + z1) (.slice A3 n3 c3)))
      have cz := (hA3.cell (1 + z1)).trans (stC_list _ _ _ _ hlt11)
      have fz := frozen_of_row w3 hh (1 + z1) _ _ hA3
      have HA4 := Lib.hid (show StAt (w3.setCell ⟨hh, 1 + z1, none⟩ (.slice A3 n3 c3)) hh (stC O (updS Lp z1 ⟨A3, n3, c3⟩) (fun _ => 0) (fun _ => 0)) by
        unfold StAt
        rw [heap_setCell_same w3 hh (1 + z1) _ _ _ hA3]
        exact congrArg (fun c => some (Obj.cells c _ _)) (stC_set_list O ⟨A3, n3, c3⟩ Lp _ _ hlt11))
      have HR4 := Lib.hid (show RdAt (w3.setCell ⟨hh, 1 + z1, none⟩ (.slice A3 n3 c3)) B g l3 e3 from hR3.other (fun q hq => heap_setCell_other w3 ⟨hh, 1 + z1, none⟩ q _ (by simp; omega)) (heap_setCell_other w3 ⟨hh, 1 + z1, none⟩ g _ (by simpa using hgh)))
      have HBt4 := Lib.hid (show But g g w (w3.setCell ⟨hh, 1 + z1, none⟩ (.slice A3 n3 c3)) from (HBt.out.trans hb3).inner ((But.refl g hh w3).setR (1 + z1) (.slice A3 n3 c3)) (by omega))
      have HA04 := Lib.hid (show StAt (w3.setCell ⟨hh, 1 + z1, none⟩ (.slice A3 n3 c3)) w.heap.size st0 from (heap_setCell_other w3 ⟨hh, 1 + z1, none⟩ w.heap.size _ (by simp; omega)).trans ((hb3.block _ HA0.out.lt (by omega) (by omega)).trans HA0.out))
      have hRl : hh < w3.heap.size := hA3.lt
      clear hl hN3 hR3 hb3 hf3 hA3 HS3 HR HS HA HBt HA0
      go_wp2_with fail
      go_roundw
      case rel => exact ⟨⟨z1 + 1, _, _, l3, e3, by go_num, by omega, HLs2.out, HR4.out, HS4.out, HA4.out, HBt4.out⟩, HA04.out⟩
      case measure => simp [intOf]; omega
    · obtain rfl : z1 = 11 := by omega
      rw [show ((11 : Nat) : Int) = 11 from rfl]
      have hd : decide ((11 : Int) < 11) = false := by decide
      clear hz1 hlt11
      go_upto_region 8 with fail
      go_loopw [18] (fun i wq => PlRel w B g N hh os Lf O Lp l2 e2 i wq ∧ StAt wq w.heap.size st0) (fun i _ => 2 - (intOf i).toNat)
      case atStart => exact ⟨⟨0, [], l2, e2, rfl, by omega, rfl, HR.out, HS.out, HA.out, HBt.out⟩, HA0.out⟩
      case round =>
        clear HR HS HA HBt HA0 hlr
        obtain ⟨⟨p, xs, l3, e3, rfl, hp, hfl, hR, hS, hA, hb⟩, hA0⟩ := hrel
        have HFl := Lib.hid hfl
        have HXl := Lib.hid (show xs.length = 9 * p by have := fillR_len (9 * p) l2 e2; rw [hfl] at this; exact this)
        have HR := Lib.hid hR
        have HS := Lib.hid hS
        have HA := Lib.hid hA
        have HBt := Lib.hid hb
        have HA0 := Lib.hid hA0
        have hlr : hh < wr.heap.size := hA.lt
        clear hfl hR hS hA hb hA0
        by_cases hp2 : p < 2
        · have hd : decide ((p : Int) < 2) = true := decide_eq_true (by omega)
          have p0 : (0 : Int) ≤ (p : Int) := by omega
          have p1 : (p : Int) < 2 := by omega
          have hrow : wr.heap[hh]? = some (.cells (pC O Lp (fun _ => 0) p (upTo xs (9 * p)) (fun j => upTo xs (9 * p) (9 * p + j))) 29 (0, 0)) := by rw [pC_self]; exact HA.out
          have hf := fill_code g hh B (pC O Lp (fun _ => 0) p (upTo xs (9 * p))) 29 (12 + p * 9) 9 9 (fun j => upTo xs (9 * p) (9 * p + j)) l3 e3 wr HR.out hB (by omega) hgh hrow (fun f j hj => by rw [Nat.mul_comm p 9]; exact pC_get _ _ _ _ _ hp2 hj) (fun f j x hj => by rw [Nat.mul_comm p 9]; exact pC_set _ _ _ _ _ hp2 hj x) (by omega)
          obtain ⟨ys, l4, e4, hq⟩ : ∃ ys l4 e4, fillR 9 l3 e3 = (ys, l4, e4) := ⟨_, _, _, rfl⟩
          rw [hq] at hf
          simp only at hf
          have HFl2 := Lib.hid (show fillR (9 * (p + 1)) l2 e2 = (xs ++ ys, l4, e4) by rw [show 9 * (p + 1) = 9 * p + 9 by omega, fillR_add, HFl.out]; simp only; rw [hq])
          clear hq hrow
          go_wp2_with fail
          refine hf.mono ?_
          rintro en w3 ⟨rfl, hR3, hrow3, hb3⟩
          have HR3 := Lib.hid hR3
          have HS3 := Lib.hid (HS.out.kp (Kp.but hb3 hgN))
          have HA3 := Lib.hid (show StAt w3 hh (stC O Lp (upTo (xs ++ ys) (9 * (p + 1))) (fun _ => 0)) by
            rw [← upTo_step HXl.out]; exact hrow3)
          have HBt3 := Lib.hid (HBt.out.inner hb3 (by omega))
          have HA03 := Lib.hid (show StAt w3 w.heap.size st0 from (hb3.block _ HA0.out.lt (by omega) (by omega)).trans HA0.out)
          clear hf hR3 hrow3 hb3 HR HS HA HBt HA0
          go_wp2_with fail
          go_roundw
          case rel => exact ⟨⟨p + 1, xs ++ ys, l4, e4, by go_num, by omega, HFl2.out, HR3.out, HS3.out, HA3.out, HBt3.out⟩, HA03.out⟩
          case measure => simp [intOf]; omega
        · obtain rfl : p = 2 := by omega
          rw [show ((2 : Nat) : Int) = 2 from rfl]
          have hd : decide ((2 : Int) < 2) = false := by decide
          have hf := fill_code g hh B (stC O Lp (upTo xs (9 * 2))) 29 30 7 7 (fun _ => 0) l3 e3 wr HR.out hB (by omega) hgh HA.out (fun f j hj => stC_gm _ _ _ _ hj) (fun f j x hj => stC_set_gm _ _ _ _ hj x) (by omega)
          obtain ⟨zs, l4, e4, hq⟩ : ∃ zs l4 e4, fillR 7 l3 e3 = (zs, l4, e4) := ⟨_, _, _, rfl⟩
          have hzl := fillR_len 7 l3 e3
          rw [hq] at hf hzl
          simp only at hf hzl
          rw [plF_all hzl] at hf
          have HSt := Lib.hid (show stateR l e = (mkS os Lf (xs ++ zs), l4, e4) by
            rw [stateR_25, HQ.out]
            simp only
            rw [HLs.out]
            simp only
            rw [show (25 : Nat) = 9 * 2 + 7 from rfl, fillR_add, HFl.out]
            simp only
            rw [hq])
          have HCm := Lib.hid (mkS_cells os Lf O Lp (zs := zs) (show xs.length = 18 from HXl.out))
          clear hq hzl hp hp2
          go_upto_region 13 with fail
          refine hf.mono ?_
          rintro en w3 ⟨rfl, hR3, hrow3, hb3⟩
          have hA3 : StAt w3 hh (stC O Lp (mkS os Lf (xs ++ zs)).pl (mkS os Lf (xs ++ zs)).gm) := by rw [← HCm.out]; exact hrow3
          have HR3 := Lib.hid hR3
          have HS3 := Lib.hid ((HS.out.kp (Kp.but hb3 hgN)).nums (mkS os Lf (xs ++ zs)).pl (mkS os Lf (xs ++ zs)).gm)
          have HBt3 := Lib.hid (HBt.out.inner hb3 (by omega))
          have hA03 : StAt w3 w.heap.size st0 := (hb3.block _ HA0.out.lt (by omega) (by omega)).trans HA0.out
          clear hf hR3 hrow3 hb3 HR HS HA HBt HA0
          obtain ⟨cs, hcs⟩ : ∃ cs, cs = stC O Lp (mkS os Lf (xs ++ zs)).pl (mkS os Lf (xs ++ zs)).gm := ⟨_, rfl⟩
          rw [← hcs] at hA3
          have hcsz : (Tryd.prog.info? 29).map (·.size) = some cs.size := by rw [hcs, stC_size]; exact size37
          have hcs0 : st0.size = cs.size := by rw [hcs, stC_size]; exact stC_size _ _ _ _
          have hone : cs.all (·.oneCell') = true := by rw [hcs]; exact stC_one _ _ _ _
          have HCs := Lib.hid hcs
          clear hcs
          go_wp2_with (first
            | (refine wpList_load_row rfl 29 (.tmp 3) rfl hh rfl 29 _ (0, 0) _ hA3 Tryd.underlying29 rfl hcsz ?_)
            | (refine wpList_store_row rfl 29 (.tmp 2) (.tmp 32) rfl w.heap.size _ rfl rfl 29 st0 hA03 hcsz hcs0 hone ?_))
          refine bodyPost_ret (v := .agg cs) ?_ rfl ⟨O, Lp, hh, by rw [HSt.out, HCs.out], ?_, ?_, ?_⟩
          · exact results_cellR (ty := 29) (p := 2) (by kernel_rfl) _ _ w.heap.size 29 _ (0, 0) _ rfl (setRow_heap _ _ _ _ _ _ hA03) Tryd.underlying29 rfl hcsz
          · rw [HSt.out]
            exact (HS3.out.kp (Kp.setRow _ _ hwN)).low (by omega)
          · rw [HSt.out]
            exact HR3.out.other (fun k hk => setRow_other _ _ _ _ (by omega)) (setRow_other _ _ _ _ (by omega))
          · exact HBt3.out.inner (w' := w3.setRow w.heap.size cs) (h := w.heap.size) ⟨rfl, rfl, rfl, by simp, fun k _ _ h2 => setRow_other _ _ _ _ h2⟩ (Nat.le_refl _)
end Go.Proofs.YtihbdbgmijkjmaaDoor
namespace Go.Proofs.YtihbdbgmijkjmaaDoor
open Go.RowKit Ex Px Wx
set_option maxRecDepth 100000
theorem countR_by {l : List Int} {e : Int} (hl : byB l) : byB (countR l e).2.1 ∧ (∀ o ∈ (countR l e).1, ∀ i, i < 18 → i64B (o i)) ∧ (countR l e).1.length ≤ 400 := by
  have h := manyR_by (numR l e).1.toNat (e := cntE (numR l e).1 (numR l e).2.2) (numR_by (e := e) hl)
  refine ⟨h.1, h.2.1, ?_⟩
  unfold countR
  by_cases h0 : cntE (numR l e).1 (numR l e).2.2 = 0
  · have := (cntE_few h0).2.2
    have := h.2.2
    omega
  · rw [manyR_err _ _ _ h0]; simp
/-- What a state that is read is like. -/
structure Fine (s : StT) : Prop where
  ob : ∀ o ∈ s.objs, ∀ i, i < 18 → i64B (o i)
  li : ∀ z, ∀ n ∈ s.lists z, i64B n
  pl : ∀ i, i64B (s.pl i)
  gm : ∀ i, i64B (s.gm i)
  on : s.objs.length ≤ 400
  ln : ∀ z, (s.lists z).length ≤ 400
theorem stateR_by {l : List Int} {e : Int} (hl : byB l) : Fine (stateR l e).1 := by
  rw [stateR_25]
  have h1 := countR_by (e := e) hl
  have h2 := listsR_by 11 (e := (countR l e).2.2) h1.1
  have h3 := fillR_by 25 (e := (listsR 11 (countR l e).2.1 (countR l e).2.2).2.2) h2.1
  generalize fillR 25 (listsR 11 (countR l e).2.1 (countR l e).2.2).2.1 (listsR 11 (countR l e).2.1 (countR l e).2.2).2.2 = r at h3 ⊢
  generalize listsR 11 (countR l e).2.1 (countR l e).2.2 = y at h2 ⊢
  exact ⟨h1.2.1, h2.2.1, fun i => getD_i64 h3.2 i, fun i => getD_i64 h3.2 (18 + i), h1.2.2, h2.2.2⟩
theorem SR.read {W : World} {N h : Nat} {s : StT} {O : SlT} {L : Nat → SlT} (x : SR W N h s O L) (f : Fine s) : ReadsS W.heap.size W (stC O L s.pl s.gm) s O L :=
  x.reads (fun o ho i hi => f.ob o ho i hi) (fun z _ n hn => f.li z n hn) (fun i _ => f.pl i) (fun i _ => f.gm i)
set_option linter.unusedSimpArgs false in
set_option maxHeartbeats 0 in
theorem parse_code {z : World} (T : TabC z) (A : Option Addr) (n c : Nat) (l : List Int) (w : World) (hN : Nums .u8 w w.heap.size A n l) (hc : n ≤ c) (hb : byB l) (hn : n ≤ 1000000) (hz : Below z.heap.size z w) :
    Calls Tryd.prog 16 #[.slice A n c] w (CanPE w l) := by
  have HN := Lib.hid hN
  have HB := Lib.hid hb
  clear hN hb
  go_enter Tryd.func16, Tryd.ntmps16
  go_upto_region 1 with fail
  rw [st0_is]
  obtain ⟨w0, hw0⟩ : ∃ w0, w0 = w.alloc (.cells st0 29) := ⟨_, rfl⟩
  rw [← hw0]
  have hA0 : StAt w0 w.heap.size st0 := by rw [hw0]; exact StAt.new _ _
  have hb0 : Below w.heap.size w w0 := by rw [hw0]; exact (Below.refl _ _).alloc (Nat.le_refl _) _
  have hs0 : w.heap.size < w0.heap.size := by rw [hw0]; simp
  clear hw0
  go_upto_region 2 with fail
  obtain ⟨g, hg⟩ : ∃ g, g = w0.heap.size := ⟨_, rfl⟩
  obtain ⟨w1, hw1⟩ : ∃ w1, w1 = w0.alloc (.cells #[.slice A n c, .nilIface] 68) := ⟨_, rfl⟩
  have hb1 : Below w0.heap.size w0 w1 := by rw [hw1]; exact (Below.refl _ _).alloc (Nat.le_refl _) _
  have hR1 : RdAt w1 w.heap.size g l 0 := by
    refine ⟨A, n, c, ?_, HN.out.below (keepB hb1 hb0), hc, hn, HB.out⟩
    rw [hw1, hg, errV_nil]; exact heap_alloc_new _ _
  rw [← hw1, ← hg]
  have hZ1 := hA0.keep hb1
  have HB1 := Lib.hid (keepB hb1 hb0)
  have hBg : w.heap.size ≤ g := by omega
  have hBg2 : w.heap.size < g := by omega
  have HR1 := Lib.hid hR1
  have HZ1 := Lib.hid hZ1
  clear hw1 hg hb1 hR1 hA0 hb0 hs0 hZ1
  have hsc := state_code T g w.heap.size l 0 w1 HR1.out hBg hz.size (hz.trans (HB1.out.mono (hz.size)))
  obtain ⟨s, l2, e2, hst⟩ : ∃ s l2 e2, stateR l 0 = (s, l2, e2) := ⟨_, _, _, rfl⟩
  rw [hst] at hsc
  have HFine := Lib.hid (show Fine s by have := stateR_by (e := 0) HB.out; rw [hst] at this; exact this)
  have HSt := Lib.hid hst
  clear hst
  go_wp2_with fail
  refine hsc.mono ?_
  rintro en w2 ⟨O, L, h5, rfl, hS2, hR2, hb2⟩
  simp only at hS2 hR2 ⊢
  have hgN : g < w1.heap.size := HR1.out.lt
  have hwN : w.heap.size < w1.heap.size := by omega
  obtain ⟨N, hN⟩ : ∃ N, N = w1.heap.size := ⟨_, rfl⟩
  rw [← hN] at hS2 hgN hwN
  have hN2 : N ≤ w2.heap.size := by have := hb2.size; omega
  have hZ2 : StAt w2 w.heap.size st0 := (hb2.block _ HZ1.out.lt (by omega) (by omega)).trans HZ1.out
  have hB2 := hb2.own HB1.out hBg hBg
  obtain ⟨cs, hcs⟩ : ∃ cs, cs = stC O L s.pl s.gm := ⟨_, rfl⟩
  rw [← hcs]
  have hcsz : (Tryd.prog.info? 29).map (·.size) = some cs.size := by rw [hcs, stC_size]; exact size37
  have hcs0 : st0.size = cs.size := by rw [hcs, stC_size]; exact stC_size _ _ _ _
  have hone : cs.all (·.oneCell') = true := by rw [hcs]; exact stC_one _ _ _ _
  have HCs := Lib.hid hcs
  clear hcs hN hsc HR1 HZ1 HB1 hb2
  have hz37 := st0_is
  have hnew : (w2.alloc (.cells st0 29)).heap[w2.heap.size]? = some (.cells st0 29 (0, 0)) := heap_alloc_new _ _
  go_upto_region 3 with (refine wpList_store_row rfl 29 (.tmp 5) (.tmp 8) rfl w2.heap.size _ rfl rfl 29 st0 hnew hcsz hcs0 hone ?_)
  obtain ⟨w4, hw4, hA4, hb4⟩ := box_new w2 cs
  rw [← hw4]
  have hS4 := hS2.kp (Kp.below hb4)
  have hR4 := hR2.keep hb4 hBg
  have hZ4 := hZ2.keep hb4
  have hB4 := keepB hb4 hB2
  obtain ⟨g5, hg5⟩ : ∃ g5, g5 = w2.heap.size := ⟨_, rfl⟩
  rw [← hg5] at hA4 hN2 ⊢
  have hgg : g < g5 := by omega
  clear hw4 hg5 hb4 hnew hz37 hS2 hR2 hZ2 hB2
  obtain ⟨e3, he3⟩ : ∃ e3, e3 = if 0 < l2.length then keepE e2 3 else e2 := ⟨_, rfl⟩
  have HE3 := Lib.hid he3
  have hrow := hR4
  obtain ⟨A8, n8, c8, hrow8, hN8, _⟩ := hrow
  obtain rfl := hN8.len
  have hcl := cell_of_row w4 g 0 _ _ _ hrow8
  simp at hcl
  clear hrow8 hN8
  by_cases hlen : 0 < l2.length
  · have hf := fail_code g w.heap.size l2 e2 3 w4 hR4 hBg
    rw [errV_err (by decide), show keepE e2 3 = e3 by rw [he3, if_pos hlen]] at hf
    have hd : decide ((0 : Int) < (l2.length : Int)) = true := decide_eq_true (by omega)
    have HS4 := Lib.hid hS4
    have HA4 := Lib.hid hA4
    have HZ4 := Lib.hid hZ4
    have HB4 := Lib.hid hB4
    clear he3 hS4 hR4 hA4 hZ4 hB4
    go_wp2_with fail
    refine hf.mono ?_
    rintro en w5 ⟨rfl, hR5, hb5⟩
    have hS5 := HS4.out.kp (Kp.but1 hb5 hgN)
    have hA5 : StAt w5 g5 cs := (hb5.block _ HA4.out.lt (by omega) (by omega)).trans HA4.out
    have hZ5 : StAt w5 w.heap.size st0 := (hb5.block _ HZ4.out.lt (by omega) (by omega)).trans HZ4.out
    have hB5 := hb5.own HB4.out hBg hBg
    clear hf hb5 HS4 HA4 HZ4 HB4 hcl hlen hd
    have HR5 := Lib.hid hR5
    have HS5 := Lib.hid hS5
    have HA5 := Lib.hid hA5
    have HZ5 := Lib.hid hZ5
    have HB5 := Lib.hid hB5
    have hsz5 : w.heap.size ≤ w5.heap.size := hB5.size
    clear hR5 hS5 hA5 hZ5 hB5
    have hst := HA5.out
    have hchk := check_code T.f s O L cs w5 w5.heap.size (by rw [HCs.out]; exact HS5.out.read HFine.out) (Nat.le_refl _) (by have := HFine.out.on; omega) (fun z _ => by have := HFine.out.ln z; omega) (hz.trans (HB5.out.mono (by have := hz.size; omega)))
    go_wp2_with (refine wpList_load_row rfl 29 (.tmp 5) rfl g5 rfl 29 _ (0, 0) _ hst Tryd.underlying29 rfl hcsz ?_)
    refine hchk.mono ?_
    rintro en w6 ⟨rfl, hb6⟩
    have HR6 := Lib.hid (HR5.out.keep hb6 hBg)
    have HS6 := Lib.hid (HS5.out.kp (Kp.below hb6))
    have HA6 := Lib.hid (HA5.out.keep hb6)
    have HZ6 := Lib.hid (HZ5.out.keep hb6)
    have HB6 := Lib.hid (keepB (hb6) (HB5.out))
    obtain ⟨q, hq⟩ : ∃ q, q = chkS s := ⟨_, rfl⟩
    rw [← hq]
    have HQ := Lib.hid hq
    have hf := fail_code g w.heap.size l2 e3 q w6 HR6.out hBg
    clear hchk hst HR5 HS5 HA5 HZ5 HB5 hb6 hq
    go_wp2_with fail
    refine hf.mono ?_
    rintro en w7 ⟨rfl, hR7, hb7⟩
    have HS7 := Lib.hid (HS6.out.kp (Kp.but1 hb7 hgN))
    have hA7 : StAt w7 g5 cs := (hb7.block _ HA6.out.lt (by omega) (by omega)).trans HA6.out
    have hZ7 : StAt w7 w.heap.size st0 := (hb7.block _ HZ6.out.lt (by omega) (by omega)).trans HZ6.out
    have HB7 := Lib.hid (hb7.own HB6.out hBg hBg)
    obtain ⟨e4, he4⟩ : ∃ e4, e4 = keepE e3 q := ⟨_, rfl⟩
    rw [← he4] at hR7
    obtain ⟨A9, n9, c9, hrow9, _⟩ := hR7
    have hcr := cell_of_row w7 g 1 _ _ _ hrow9
    simp at hcr
    have HPar := Lib.hid (show parseS l = if e4 = 0 then (s, 0) else (sT0, e4) by
      rw [stateR_parse HB.out, HSt.out]
      have : endE l2 e2 (chkS s) = e4 := by rw [he4, HE3.out, HQ.out]; rfl
      rw [this])
    clear hf HR6 HS6 HA6 HZ6 HB6 hb7 he4 hrow9
    by_cases h4 : e4 = 0
    · subst h4
      rw [errV_nil] at hcr
      go_wp2_with (first
        | (refine wpList_load_row rfl 29 (.tmp 5) rfl g5 rfl 29 _ (0, 0) _ hA7 Tryd.underlying29 rfl hcsz ?_)
        | (refine wpList_store_row rfl 29 (.tmp 2) (.tmp 24) rfl w.heap.size _ rfl rfl 29 st0 hZ7 hcsz hcs0 hone ?_))
      refine bodyPost_ret (v := .tuple #[.agg cs, .nilIface]) ?_ rfl ⟨cs, O, L, by rw [HPar.out]; rfl, ?_, below_setRow HB7.out _ _ (Nat.le_refl _)⟩
      · exact results_cell_tmp (ty := 29) (p := 2) (q := 3) (by kernel_rfl) _ _ w.heap.size 29 _ (0, 0) _ rfl (setRow_heap _ _ _ _ _ _ hZ7) Tryd.underlying29 rfl hcsz
      · rw [HPar.out]
        have := (HS7.out.kp (Kp.setRow (h := h5) w.heap.size cs hwN)).read HFine.out
        rw [← HCs.out] at this
        exact this
    · rw [errV_err h4] at hcr
      go_upto_region 7 with fail
      have hsz0 : (Tryd.prog.info? 29).map (·.size) = some st0.size := st0_size
      have hZ7d : StAt w7.drew w.heap.size st0 := hZ7
      have hcd : w7.drew.cell? ⟨g, 1, none⟩ = some (.iface 65 (.int .i64 e4)) := hcr
      have hce : (w7.drew.setRow w.heap.size st0).cell? ⟨g, 1, none⟩ = some (.iface 65 (.int .i64 e4)) := (World.cell?_of_block (setRow_other w7.drew w.heap.size g st0 (by omega))).trans hcd
      refine wp_region_held_drew (S := fun W => W.cell? ⟨g, 1, none⟩ = some (.iface 65 (.int .i64 e4))) (by kernel_rfl) hcd (fun hHeld => ?_)
      refine wpAnyH_take (i := 0) (v := .agg st0) rfl (by kernel_rfl) (by kernel_rfl) (by kernel_rfl) (fun _ _ _ h => h) (Or.inl ⟨by rfl, fun w' _ => by simp [execOp, build0]⟩) hHeld ?_
      simp only [Act.put, List.getElem_toArray, List.getElem_cons_zero, List.getElem_cons_succ, List.setIfInBounds_toArray, List.set_cons_zero, List.set_cons_succ]
      refine wpAnyH_take (i := 1) (v := ?_) rfl (by kernel_rfl) (by kernel_rfl) (by kernel_rfl) (fun _ _ _ h => h) (Or.inl ⟨by rfl, ?_⟩) hHeld ?_
      rotate_left
      · (intro w hSw; go_simp; (try with_reducible rfl))
      simp only [Act.put, List.getElem_toArray, List.getElem_cons_zero, List.getElem_cons_succ, List.setIfInBounds_toArray, List.set_cons_zero, List.set_cons_succ]
      refine wpAnyH_take (i := 2) (v := ?_) rfl (by kernel_rfl) (by kernel_rfl) (by kernel_rfl) (fun _ _ _ h => h) (Or.inl ⟨by rfl, ?_⟩) hHeld ?_
      rotate_left
      · (intro w hSw; go_simp; (try with_reducible rfl))
      simp only [Act.put, List.getElem_toArray, List.getElem_cons_zero, List.getElem_cons_succ, List.setIfInBounds_toArray, List.set_cons_zero, List.set_cons_succ]
      refine wpAnyH_ready (rs := [3]) (by kernel_rfl) (by simp) ?_
      refine AllReadyH.cons rfl (fun K hK => ?_) AllReadyH.nil
      simp only [List.getElem_toArray, List.getElem_cons_zero, List.getElem_cons_succ]
      refine wp_store_row 29 (.tmp 2) (.tmp 21) rfl w.heap.size _ rfl rfl 29 _ hZ7d hsz0 rfl st0_one ?_
      refine hK.out _ _ hce (fun _ => ?_)
      try simp only [Act.put, List.setIfInBounds_toArray, List.set_cons_zero, List.set_cons_succ]
      clear hK K
      replace hHeld := hce
      refine wpAnyH_take (i := 4) (v := ?_) rfl (by kernel_rfl) (by kernel_rfl) (by kernel_rfl) (fun _ _ _ h => h) (Or.inl ⟨by rfl, ?_⟩) hHeld ?_
      rotate_left
      · (intro w hSw; go_simp; (try with_reducible rfl))
      simp only [Act.put, List.getElem_toArray, List.getElem_cons_zero, List.getElem_cons_succ, List.setIfInBounds_toArray, List.set_cons_zero, List.set_cons_succ]
      refine wpAnyH_done (by kernel_rfl) ?_ _
      go_wp2_with fail
      refine bodyPost_ret (v := .tuple #[.agg st0, .iface 65 (.int .i64 e4)]) ?_ rfl ⟨st0, nilS, fun _ => nilS, by rw [HPar.out, if_neg h4, ← errV_err h4], by rw [HPar.out, if_neg h4]; exact reads_0 _ _, below_setRow HB7.out.drew _ _ (Nat.le_refl _)⟩
      exact results_cell_tmp (ty := 29) (p := 2) (q := 3) (by kernel_rfl) _ _ w.heap.size 29 _ (0, 0) _ rfl (setRow_heap _ _ _ _ _ _ hZ7d) Tryd.underlying29 rfl hsz0
  · have hd : decide ((0 : Int) < (l2.length : Int)) = false := decide_eq_false (by omega)
    rw [if_neg hlen] at he3
    rw [← he3] at hR4
    clear he3
    go_upto_region 5 with fail
    obtain ⟨w5, hw5⟩ : ∃ w5, w5 = w4 := ⟨_, rfl⟩
    have hR5 := hR4
    have hS5 := hS4
    have hA5 := hA4
    have hZ5 := hZ4
    have hB5 := hB4
    rw [← hw5] at hR5 hS5 hA5 hZ5 hB5 ⊢
    clear hw5 hR4 hS4 hA4 hZ4 hB4 hcl hlen hd
    have HR5 := Lib.hid hR5
    have HS5 := Lib.hid hS5
    have HA5 := Lib.hid hA5
    have HZ5 := Lib.hid hZ5
    have HB5 := Lib.hid hB5
    have hsz5 : w.heap.size ≤ w5.heap.size := hB5.size
    clear hR5 hS5 hA5 hZ5 hB5
    have hst := HA5.out
    have hchk := check_code T.f s O L cs w5 w5.heap.size (by rw [HCs.out]; exact HS5.out.read HFine.out) (Nat.le_refl _) (by have := HFine.out.on; omega) (fun z _ => by have := HFine.out.ln z; omega) (hz.trans (HB5.out.mono (by have := hz.size; omega)))
    go_wp2_with (refine wpList_load_row rfl 29 (.tmp 5) rfl g5 rfl 29 _ (0, 0) _ hst Tryd.underlying29 rfl hcsz ?_)
    refine hchk.mono ?_
    rintro en w6 ⟨rfl, hb6⟩
    have HR6 := Lib.hid (HR5.out.keep hb6 hBg)
    have HS6 := Lib.hid (HS5.out.kp (Kp.below hb6))
    have HA6 := Lib.hid (HA5.out.keep hb6)
    have HZ6 := Lib.hid (HZ5.out.keep hb6)
    have HB6 := Lib.hid (keepB (hb6) (HB5.out))
    obtain ⟨q, hq⟩ : ∃ q, q = chkS s := ⟨_, rfl⟩
    rw [← hq]
    have HQ := Lib.hid hq
    have hf := fail_code g w.heap.size l2 e3 q w6 HR6.out hBg
    clear hchk hst HR5 HS5 HA5 HZ5 HB5 hb6 hq
    go_wp2_with fail
    refine hf.mono ?_
    rintro en w7 ⟨rfl, hR7, hb7⟩
    have HS7 := Lib.hid (HS6.out.kp (Kp.but1 hb7 hgN))
    have hA7 : StAt w7 g5 cs := (hb7.block _ HA6.out.lt (by omega) (by omega)).trans HA6.out
    have hZ7 : StAt w7 w.heap.size st0 := (hb7.block _ HZ6.out.lt (by omega) (by omega)).trans HZ6.out
    have HB7 := Lib.hid (hb7.own HB6.out hBg hBg)
    obtain ⟨e4, he4⟩ : ∃ e4, e4 = keepE e3 q := ⟨_, rfl⟩
    rw [← he4] at hR7
    obtain ⟨A9, n9, c9, hrow9, _⟩ := hR7
    have hcr := cell_of_row w7 g 1 _ _ _ hrow9
    simp at hcr
    have HPar := Lib.hid (show parseS l = if e4 = 0 then (s, 0) else (sT0, e4) by
      rw [stateR_parse HB.out, HSt.out]
      have : endE l2 e2 (chkS s) = e4 := by rw [he4, HE3.out, HQ.out]; rfl
      rw [this])
    clear hf HR6 HS6 HA6 HZ6 HB6 hb7 he4 hrow9
    by_cases h4 : e4 = 0
    · subst h4
      rw [errV_nil] at hcr
      go_wp2_with (first
        | (refine wpList_load_row rfl 29 (.tmp 5) rfl g5 rfl 29 _ (0, 0) _ hA7 Tryd.underlying29 rfl hcsz ?_)
        | (refine wpList_store_row rfl 29 (.tmp 2) (.tmp 24) rfl w.heap.size _ rfl rfl 29 st0 hZ7 hcsz hcs0 hone ?_))
      refine bodyPost_ret (v := .tuple #[.agg cs, .nilIface]) ?_ rfl ⟨cs, O, L, by rw [HPar.out]; rfl, ?_, below_setRow HB7.out _ _ (Nat.le_refl _)⟩
      · exact results_cell_tmp (ty := 29) (p := 2) (q := 3) (by kernel_rfl) _ _ w.heap.size 29 _ (0, 0) _ rfl (setRow_heap _ _ _ _ _ _ hZ7) Tryd.underlying29 rfl hcsz
      · rw [HPar.out]
        have := (HS7.out.kp (Kp.setRow (h := h5) w.heap.size cs hwN)).read HFine.out
        rw [← HCs.out] at this
        exact this
    · rw [errV_err h4] at hcr
      go_upto_region 7 with fail
      have hsz0 : (Tryd.prog.info? 29).map (·.size) = some st0.size := st0_size
      have hZ7d : StAt w7.drew w.heap.size st0 := hZ7
      have hcd : w7.drew.cell? ⟨g, 1, none⟩ = some (.iface 65 (.int .i64 e4)) := hcr
      have hce : (w7.drew.setRow w.heap.size st0).cell? ⟨g, 1, none⟩ = some (.iface 65 (.int .i64 e4)) := (World.cell?_of_block (setRow_other w7.drew w.heap.size g st0 (by omega))).trans hcd
      refine wp_region_held_drew (S := fun W => W.cell? ⟨g, 1, none⟩ = some (.iface 65 (.int .i64 e4))) (by kernel_rfl) hcd (fun hHeld => ?_)
      refine wpAnyH_take (i := 0) (v := .agg st0) rfl (by kernel_rfl) (by kernel_rfl) (by kernel_rfl) (fun _ _ _ h => h) (Or.inl ⟨by rfl, fun w' _ => by simp [execOp, build0]⟩) hHeld ?_
      simp only [Act.put, List.getElem_toArray, List.getElem_cons_zero, List.getElem_cons_succ, List.setIfInBounds_toArray, List.set_cons_zero, List.set_cons_succ]
      refine wpAnyH_take (i := 1) (v := ?_) rfl (by kernel_rfl) (by kernel_rfl) (by kernel_rfl) (fun _ _ _ h => h) (Or.inl ⟨by rfl, ?_⟩) hHeld ?_
      rotate_left
      · (intro w hSw; go_simp; (try with_reducible rfl))
      simp only [Act.put, List.getElem_toArray, List.getElem_cons_zero, List.getElem_cons_succ, List.setIfInBounds_toArray, List.set_cons_zero, List.set_cons_succ]
      refine wpAnyH_take (i := 2) (v := ?_) rfl (by kernel_rfl) (by kernel_rfl) (by kernel_rfl) (fun _ _ _ h => h) (Or.inl ⟨by rfl, ?_⟩) hHeld ?_
      rotate_left
      · (intro w hSw; go_simp; (try with_reducible rfl))
      simp only [Act.put, List.getElem_toArray, List.getElem_cons_zero, List.getElem_cons_succ, List.setIfInBounds_toArray, List.set_cons_zero, List.set_cons_succ]
      refine wpAnyH_ready (rs := [3]) (by kernel_rfl) (by simp) ?_
      refine AllReadyH.cons rfl (fun K hK => ?_) AllReadyH.nil
      simp only [List.getElem_toArray, List.getElem_cons_zero, List.getElem_cons_succ]
      refine wp_store_row 29 (.tmp 2) (.tmp 21) rfl w.heap.size _ rfl rfl 29 _ hZ7d hsz0 rfl st0_one ?_
      refine hK.out _ _ hce (fun _ => ?_)
      try simp only [Act.put, List.setIfInBounds_toArray, List.set_cons_zero, List.set_cons_succ]
      clear hK K
      replace hHeld := hce
      refine wpAnyH_take (i := 4) (v := ?_) rfl (by kernel_rfl) (by kernel_rfl) (by kernel_rfl) (fun _ _ _ h => h) (Or.inl ⟨by rfl, ?_⟩) hHeld ?_
      rotate_left
      · (intro w hSw; go_simp; (try with_reducible rfl))
      simp only [Act.put, List.getElem_toArray, List.getElem_cons_zero, List.getElem_cons_succ, List.setIfInBounds_toArray, List.set_cons_zero, List.set_cons_succ]
      refine wpAnyH_done (by kernel_rfl) ?_ _
      go_wp2_with fail
      refine bodyPost_ret (v := .tuple #[.agg st0, .iface 65 (.int .i64 e4)]) ?_ rfl ⟨st0, nilS, fun _ => nilS, by rw [HPar.out, if_neg h4, ← errV_err h4], by rw [HPar.out, if_neg h4]; exact reads_0 _ _, below_setRow HB7.out.drew _ _ (Nat.le_refl _)⟩
      exact results_cell_tmp (ty := 29) (p := 2) (q := 3) (by kernel_rfl) _ _ w.heap.size 29 _ (0, 0) _ rfl (setRow_heap _ _ _ _ _ _ hZ7d) Tryd.underlying29 rfl hsz0
end Go.Proofs.YtihbdbgmijkjmaaDoor
namespace Go.Proofs.YtihbdbgmijkjmaaDoor
open Go.RowKit Ex Px Wx
set_option maxRecDepth 100000
set_option maxHeartbeats 0 in
theorem mark_code {z : World} (T : TabC z) (s : StT) (O : SlT) (L : Nat → SlT) (cs : Array Value) (w : World) (h : ReadsS w.heap.size w cs s O L) (hn : s.objs.length ≤ 1000000) (hll : ∀ z < 11, (s.lists z).length ≤ 1000000) (hzw : Below z.heap.size z w) :
    Calls Tryd.prog 11 #[.agg cs] w fun e w' => e = .returned (.tuple #[.int .u64 (markS s), errV (chkS s)]) ∧ Below w.heap.size w w' := by
  have hcsz := h.size
  have HIf := Lib.hid (if_byB (fun o ho i hi => h.ow o ho i hi) (fun z hz n hn => h.lw z hz n hn) (fun i hi => h.pw i hi) (fun i hi => h.gw i hi))
  go_enter Tryd.func11, Tryd.ntmps11
  have hcs := h.cs
  have c0 : cs[0]? = some (.slice O.A O.n O.c) := by rw [hcs]; exact stC_objs _ _ _ _
  have hOn := h.on
  have hOc := h.oc
  have hO := h.o
  have hsz : (Tryd.prog.info? 29).map (·.size) = some cs.size := by rw [h.size]; exact size37
  have H := Lib.hid h
  clear h
  obtain ⟨A, n, c⟩ := O
  simp only at c0 hOn hOc hO
  have HC := Lib.hid hcs
  clear hcs
  subst hOn
  go_upto_region 1 with fail
  have hs0 : StAt (w.alloc (.cells cs 29)) w.heap.size cs := StAt.new _ _
  have hb0 : Below w.heap.size w (w.alloc (.cells cs 29)) := (Below.refl _ _).alloc (Nat.le_refl _) _
  obtain ⟨w1, hw1⟩ : ∃ w1, w1 = w.alloc (.cells cs 29) := ⟨_, rfl⟩
  rw [← hw1] at hs0 hb0 ⊢
  clear hw1
  have c1 := (hs0.cell 0).trans c0
  go_wp2_with (refine wpList_load_row rfl 29 (.tmp 1) rfl w.heap.size rfl 29 _ (0, 0) _ hs0 Tryd.underlying29 rfl hsz ?_)
  refine (bytes_code T s _ L cs w1 (H.out.grow hb0) hn hll (hzw.trans (hb0.mono hzw.size))).mono ?_
  rintro e w2 ⟨A2, n2, c2, rfl, hN2, _, hb2⟩
  have hbw2 := keepB hb2 hb0
  clear c1 hs0 hb0 hb2
  by_cases hck : chkS s = 0
  case neg =>
    have HM := Lib.hid (show markS s = 0 from if_neg hck)
    obtain ⟨q, hq⟩ : ∃ q, q = errV (chkS s) := ⟨_, rfl⟩
    have HQ := Lib.hid hq
    rw [errV_err hck]
    clear hq hN2
    go_wp2_with fail
    go_ret2
    exact ⟨by rw [HM.out, errV_err hck]; rfl, hbw2⟩
  have HM := Lib.hid (show markS s = hashB (bytesS s) from if_pos hck)
  have hby := HIf.out
  rw [if_pos hck] at hN2 hby
  have hf := bytes_few hck
  have hh := hash_code A2 n2 c2 (bytesS s) w2 w2.heap.size hN2 hby (by have := hN2.len; omega)
  have HCk := Lib.hid hck
  rw [hck, errV_nil]
  clear hN2 hby hf hck HIf
  go_wp2_with fail
  refine hh.mono ?_
  rintro e w3 ⟨rfl, rfl⟩
  go_wp2_with fail
  go_ret2
  exact ⟨by rw [HM.out, HCk.out]; rfl, hbw2⟩
theorem canSaid {W : World} (T : TabC W) : CanSaid W where
  bytes := fun s O L cs w h hn hll hz => bytes_code T s O L cs w h hn hll hz
  mark := fun s O L cs w h hn hll hz => mark_code T s O L cs w h hn hll hz
  hash := fun A n c l w hN _ hb hn _ => (hash_code A n c l w _ hN hb (by omega)).mono fun e w' ⟨h1, h2⟩ => ⟨h1, by rw [← h2]; exact Below.refl _ _⟩
  parse := fun A n c l w hN hc hb hn hz => parse_code T A n c l w hN hc hb hn hz
end Go.Proofs.YtihbdbgmijkjmaaDoor
namespace Go.Proofs.YtihbdbgmijkjmaaDoor
open Go.RowKit Ex
set_option maxRecDepth 100000
theorem fieldF_is : arr .i64 9 fieldF = ([.int .i64 4, .int .i64 5, .int .i64 6, .int .i64 7, .int .i64 8, .int .i64 9, .int .i64 10, .int .i64 11, .int .i64 12] : List Value).toArray := by kernel_rfl
theorem tabF_of {W : World} {l : List (String × DataW Unit)} (h : laidMetH Tryd.prog l W) (hf : laidVs Tryd.prog l 8 0 2 = some [.int .i64 4, .int .i64 5, .int .i64 6, .int .i64 7, .int .i64 8, .int .i64 9, .int .i64 10, .int .i64 11, .int .i64 12]) : TabF W := by
  obtain ⟨t, ht⟩ := laid_cells h 8 0 2 hf (by simp)
  exact ⟨t, by rw [fieldF_is]; exact ht⟩
end Go.Proofs.YtihbdbgmijkjmaaDoor
namespace Go.Proofs.YtihbdbgmijkjmaaDoor
open Go.RowKit Ex Px
set_option maxRecDepth 100000
theorem tabC_of {W : World} {l : List (String × DataW Unit)} (h : laidMetH Tryd.prog l W) (h0 : laidVs Tryd.prog l 8 0 0 = some partsV) (h1 : laidVs Tryd.prog l 8 1 1 = some othersV)
    (h2 : laidVs Tryd.prog l 8 2 2 = some [.int .i64 4, .int .i64 5, .int .i64 6, .int .i64 7, .int .i64 8, .int .i64 9, .int .i64 10, .int .i64 11, .int .i64 12]) : TabC W where
  f := by
    obtain ⟨t, ht⟩ := laid_cells h 8 2 2 h2 (by simp)
    exact ⟨t, by rw [fieldF_is]; exact ht⟩
  p := laid_cells h 8 0 0 h0 (by simp [partsV])
  o := laid_cells h 8 1 1 h1 (by simp [othersV])
theorem tabC_bytes {W : World} (h : laidMetH Tryd.prog Rows.canonBytesRow.laid W) : TabC W := tabC_of h (by kernel_rfl) (by kernel_rfl) (by kernel_rfl)
theorem tabC_parses {W : World} (h : laidMetH Tryd.prog Rows.canonParsesRow.laid W) : TabC W := tabC_of h (by kernel_rfl) (by kernel_rfl) (by kernel_rfl)
theorem tabC_back {W : World} (h : laidMetH Tryd.prog Rows.canonBackRow.laid W) : TabC W := tabC_of h (by kernel_rfl) (by kernel_rfl) (by kernel_rfl)
theorem tabC_apart {W : World} (h : laidMetH Tryd.prog Rows.canonApartRow.laid W) : TabC W := tabC_of h (by kernel_rfl) (by kernel_rfl) (by kernel_rfl)
end Go.Proofs.YtihbdbgmijkjmaaDoor
