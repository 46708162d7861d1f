/- Layer 6: contracts of effect's inBounds, fits and mayHold. -/
import Derived.Test.YtmdfgkfimlmmnaaDoorTreeC2
import Derived.Test.YtmdfgkfimlmmnaaDoorTreeCheck
namespace Go.Proofs.YtmdfgkfimlmmnaaDoor
open Go.RowKit Ex Bx
theorem wantSp {ops : Array Oper} {rest : List Oper} {o : Oper} {a : Act} {w : World} {Q : Exit → Act → World → Prop} (hw : Region.wanted o (yielded ops a.tmps) = true) (x : Operand) (ho : o.op = .load 128 x)
    (g : Nat) (hx : a.eval x = .pointer (some ⟨g, 0, none⟩)) (p q : Int) (h : SpAt w g p q)
    (hK : wpList Tryd.prog ops Q rest (a.put o.dst (.agg #[.int .i64 p, .int .i64 q])) w) : wpList Tryd.prog ops Q (o :: rest) a w :=
  BigFrame.wpList_want hw fun _ hK' => wp_load_row 128 x ho g hx 128 _ (0, 0) _ h Tryd.underlying128 rfl size2 (hK' _ _ hK)
set_option linter.unusedSimpArgs false in
set_option maxRecDepth 100000 in
set_option maxHeartbeats 1000000 in
theorem inBounds_any (op n m who : Int) (A : Option Addr) (k c : Nat) (w : World) : Calls Tryd.prog 81 #[.agg (evC op n m who A k c)] w fun e w' => e = .returned (.bool (decide (RangesC op n m who))) ∧ Below w.heap.size w w' := by
  obtain ⟨cs, hcs⟩ : ∃ cs, cs = evC op n m who A k c := ⟨_, rfl⟩
  rw [← hcs]
  have HCs := Lib.hid hcs
  clear hcs
  have HR := Lib.hid (ranges_spans op n m who)
  go_enter Tryd.func81, Tryd.ntmps81
  go_upto_region 1 with fail
  obtain ⟨w1, hw1⟩ : ∃ w1, w1 = w.alloc (.cells cs 46) := ⟨_, rfl⟩
  have HE := Lib.hid (show EvAt w1 w.heap.size cs by rw [hw1]; exact EvAt.new _ _)
  have hb1 : Below w.heap.size w w1 := by rw [hw1]; exact (Below.refl _ _).alloc (Nat.le_refl _) _
  rw [← hw1]
  clear hw1
  have c0 : w1.cell? ⟨w.heap.size, 0, none⟩ = some (.int .i64 op) := by rw [HE.out.cell, HCs.out]; rfl
  go_wp2_with fail
  refine (bounds_any op w1).mono ?_
  rintro e w2 ⟨rfl, hb2⟩
  obtain ⟨a, ha⟩ : ∃ x, x = nLow op := ⟨_, rfl⟩
  obtain ⟨b, hb⟩ : ∃ x, x = nMost op := ⟨_, rfl⟩
  obtain ⟨a', ha'⟩ : ∃ x, x = mLow op := ⟨_, rfl⟩
  obtain ⟨b', hb'⟩ : ∃ x, x = mMost op := ⟨_, rfl⟩
  rw [← ha, ← hb, ← ha', ← hb'] at HR ⊢
  clear ha hb ha' hb' c0
  unfold spV
  have HE2 := Lib.hid (HE.out.keep hb2)
  have hbw2 := keepB hb2 hb1
  go_upto_region 2 with fail
  obtain ⟨w3, hw3⟩ : ∃ w3, w3 = (w2.alloc (.cells #[.int .i64 a, .int .i64 b] 128)).alloc (.cells #[.int .i64 a', .int .i64 b'] 128) := ⟨_, rfl⟩
  have hS : SpAt w3 w2.heap.size a b := by rw [hw3]; exact (two_first w2 _ _)
  have hS' : SpAt w3 (w2.heap.size + 1) a' b' := by rw [hw3]; exact (two_second w2 _ _)
  have hb3 : Below w2.heap.size w2 w3 := by rw [hw3]; exact ((Below.refl _ _).alloc (Nat.le_refl _) _).alloc (by simp) _
  rw [← hw3]
  clear hw3
  have HE3 := Lib.hid (HE2.out.keep hb3)
  have hbw3 := keepB hb3 hbw2
  have c1 : w3.cell? ⟨w.heap.size, 1, none⟩ = some (.int .i64 n) := by rw [HE3.out.cell, HCs.out]; rfl
  go_wp2_with (refine wantSp (by rfl) (.tmp 3) rfl w2.heap.size rfl a b hS ?_)
  refine (spanHas a b n w3).mono ?_
  rintro e w4 ⟨rfl, hb4⟩
  have hbw4 := keepB hb4 hbw3
  have HE4 := Lib.hid (HE3.out.keep hb4)
  have hS4 := hS'.keep hb4
  clear hS hS' c1 hb1 hb2 hb3 hbw2 HE2 HE HE3
  by_cases h1 : a ≤ n ∧ n ≤ b
  · have d1 : decide (a ≤ n ∧ n ≤ b) = true := by simpa using h1
    rw [d1]
    have c2 : w4.cell? ⟨w.heap.size, 2, none⟩ = some (.int .i64 m) := by rw [HE4.out.cell, HCs.out]; rfl
    have H1 := Lib.hid h1
    clear h1 d1
    go_wp2_with (refine wantSp (by rfl) (.tmp 4) rfl (w2.heap.size + 1) rfl a' b' hS4 ?_)
    refine (spanHas a' b' m w4).mono ?_
    rintro e w5 ⟨rfl, hb5⟩
    have hbw5 := keepB hb5 hbw4
    by_cases h2 : a' ≤ m ∧ m ≤ b'
    · have d2 : decide (a' ≤ m ∧ m ≤ b') = true := by simpa using h2
      rw [d2]
      have c3 : w5.cell? ⟨w.heap.size, 3, none⟩ = some (.int .i64 who) := by rw [(HE4.out.keep hb5).cell, HCs.out]; rfl
      have HD := Lib.hid (show decide (RangesC op n m who) = decide (0 ≤ who ∧ who ≤ 4) by rw [Bool.eq_iff_iff]; simp only [decide_eq_true_eq]; rw [HR.out]; exact ⟨fun h => h.2.2, fun h => ⟨H1.out, h2, h⟩⟩)
      clear h2 d2 c2 hS4
      go_wp2_with fail
      refine (spanHas 0 4 who w5).mono ?_
      rintro e w6 ⟨rfl, hb6⟩
      obtain ⟨q, hq⟩ : ∃ q : Bool, q = decide (0 ≤ who ∧ who ≤ 4) := ⟨_, rfl⟩
      rw [← hq] at HD ⊢
      clear hq
      go_wp2_with fail
      go_ret
      exact ⟨by rw [HD.out]; rfl, keepB hb6 hbw5⟩
    · have d2 : decide (a' ≤ m ∧ m ≤ b') = false := by simpa using h2
      rw [d2]
      have HD := Lib.hid (show decide (RangesC op n m who) = false by rw [decide_eq_false_iff_not, HR.out]; exact fun h => h2 h.2.1)
      clear h2 d2 c2 hS4
      go_wp2_with fail
      go_ret
      exact ⟨by rw [HD.out]; rfl, hbw5⟩
  · have d1 : decide (a ≤ n ∧ n ≤ b) = false := by simpa using h1
    rw [d1]
    have HD := Lib.hid (show decide (RangesC op n m who) = false by rw [decide_eq_false_iff_not, HR.out]; exact fun h => h1 h.1)
    clear h1 d1 hS4
    go_wp2_with fail
    go_ret
    exact ⟨by rw [HD.out]; rfl, hbw4⟩
namespace Ex
theorem mask_is (M : Nat) (P : Int → Prop) [DecidablePred P] (h : ∀ k : Nat, k < 64 → M.testBit k = decide (P (k : Int))) (ho : ∀ x, P x → 0 ≤ x ∧ x < 64) (x : Int) : (memB x && M.testBit x.toNat) = decide (P x) := by
  by_cases hm : memB x = true
  · obtain ⟨h1, h2⟩ := memB_true hm
    obtain ⟨k, rfl⟩ := Int.eq_ofNat_of_zero_le h1
    rw [hm, Bool.true_and, Int.toNat_natCast]
    exact h k (by omega)
  · have h1 : memB x = false := by simpa using hm
    rw [h1, Bool.false_and]
    have := memB_false h1
    symm
    rw [decide_eq_false_iff_not]
    intro hp
    have := ho x hp
    omega
theorem m0 (x : Int) : (memB x && (0 : Nat).testBit x.toNat) = false := by simp
theorem m1 (x : Int) : (memB x && (1 : Nat).testBit x.toNat) = decide (x = 0) := mask_is 1 (fun x => x = 0) (by decide +kernel) (by intro x h; omega) x
theorem m4 (x : Int) : (memB x && (4 : Nat).testBit x.toNat) = decide (x = 2) := mask_is 4 (fun x => x = 2) (by decide +kernel) (by intro x h; omega) x
theorem m8 (x : Int) : (memB x && (8 : Nat).testBit x.toNat) = decide (x = 3) := mask_is 8 (fun x => x = 3) (by decide +kernel) (by intro x h; omega) x
theorem m14 (x : Int) : (memB x && (14 : Nat).testBit x.toNat) = decide (1 ≤ x ∧ x ≤ 3) := mask_is 14 (fun x => 1 ≤ x ∧ x ≤ 3) (by decide +kernel) (by intro x h; omega) x
theorem m16 (x : Int) : (memB x && (16 : Nat).testBit x.toNat) = decide (x = 4) := mask_is 16 (fun x => x = 4) (by decide +kernel) (by intro x h; omega) x
theorem m19 (x : Int) : (memB x && (19 : Nat).testBit x.toNat) = decide (x = 0 ∨ x = 1 ∨ x = 4) := mask_is 19 (fun x => x = 0 ∨ x = 1 ∨ x = 4) (by decide +kernel) (by intro x h; omega) x
theorem m34 (x : Int) : (memB x && (34 : Nat).testBit x.toNat) = decide (x = 1 ∨ x = 5) := mask_is 34 (fun x => x = 1 ∨ x = 5) (by decide +kernel) (by intro x h; omega) x
theorem mAll (x : Int) : (memB x && (58736066 : Nat).testBit x.toNat) = decide (x = 1 ∨ ObjC x) := mask_is 58736066 (fun x => x = 1 ∨ ObjC x) (by decide +kernel) (by intro x h; unfold ObjC at h; omega) x
theorem fits_target (op tg : Int) : (memB tg && (targetsF op).testBit tg.toNat) = decide (FitsC op 2 tg) := by
  unfold targetsF FitsC
  repeat' split
  · rw [m0]; simp
  · rw [m14]; simp
  · rw [m16]; simp
  · rw [m34]; simp
  · rw [m4]; simp
theorem fits_whom (op who tg : Int) (h : who ≠ 2) : (memB who && (whomF op).testBit who.toNat) = decide (FitsC op who tg) := by
  unfold whomF FitsC
  repeat' split
  · rw [m1]
  · rw [m19]; simp [h]
  · rw [m0]; simp [h]
  · rw [m8]; simp [h]
  · rw [m19]; simp [h]
theorem whom_lt (op : Int) : whomF op < 18446744073709551616 := by unfold whomF; repeat' split
                                                                   all_goals omega
theorem targets_lt (op : Int) : targetsF op < 18446744073709551616 := by unfold targetsF; repeat' split
                                                                         all_goals omega
end Ex
set_option linter.unusedSimpArgs false in
set_option maxRecDepth 100000 in
set_option maxHeartbeats 1000000 in
theorem fits_any (op n m who tg : Int) (A : Option Addr) (k c : Nat) (w : World) : Calls Tryd.prog 82 #[.agg (evC op n m who A k c), .int .i64 tg] w fun e w' => e = .returned (.bool (decide (FitsC op who tg))) ∧ Below w.heap.size w w' := by
  obtain ⟨cs, hcs⟩ : ∃ cs, cs = evC op n m who A k c := ⟨_, rfl⟩
  rw [← hcs]
  have HCs := Lib.hid hcs
  clear hcs
  have HT := Lib.hid (fits_target op tg)
  have HW := Lib.hid (fits_whom op who tg)
  have HTl := Lib.hid (targets_lt op)
  have HWl := Lib.hid (whom_lt op)
  go_enter Tryd.func82, Tryd.ntmps82
  go_upto_region 1 with fail
  obtain ⟨w1, hw1⟩ : ∃ w1, w1 = w.alloc (.cells cs 46) := ⟨_, rfl⟩
  have HE := Lib.hid (show EvAt w1 w.heap.size cs by rw [hw1]; exact EvAt.new _ _)
  have hb1 : Below w.heap.size w w1 := by rw [hw1]; exact (Below.refl _ _).alloc (Nat.le_refl _) _
  rw [← hw1]
  clear hw1
  have c0 : w1.cell? ⟨w.heap.size, 0, none⟩ = some (.int .i64 op) := by rw [HE.out.cell, HCs.out]; rfl
  have c3 : w1.cell? ⟨w.heap.size, 3, none⟩ = some (.int .i64 who) := by rw [HE.out.cell, HCs.out]; rfl
  go_wp2_with fail
  refine (about_any op w1).mono ?_
  rintro e w2 ⟨rfl, rfl⟩
  obtain ⟨a, ha⟩ : ∃ x, x = whomF op := ⟨_, rfl⟩
  obtain ⟨b, hb⟩ : ∃ x, x = targetsF op := ⟨_, rfl⟩
  rw [← ha, ← hb]
  rw [← hb] at HT HTl
  rw [← ha] at HW HWl
  clear ha hb
  by_cases h2 : who = 2
  · subst h2
    go_wp2_with fail
    refine (has_is b HTl.out tg w1).mono ?_
    rintro e w2 ⟨rfl, rfl⟩
    rw [HT.out]
    obtain ⟨q, hq⟩ : ∃ q : Bool, q = decide (FitsC op 2 tg) := ⟨_, rfl⟩
    rw [← hq]
    go_wp2_with fail
    go_ret
    exact ⟨rfl, hb1⟩
  · have e2 : (who == 2) = false := by simpa using h2
    replace HW := Lib.hid (HW.out h2)
    clear h2
    go_wp2_with fail
    refine (has_is a HWl.out who w1).mono ?_
    rintro e w2 ⟨rfl, rfl⟩
    rw [HW.out]
    obtain ⟨q, hq⟩ : ∃ q : Bool, q = decide (FitsC op who tg) := ⟨_, rfl⟩
    rw [← hq]
    go_wp2_with fail
    go_ret
    exact ⟨rfl, hb1⟩
set_option linter.unusedSimpArgs false in
set_option maxRecDepth 100000 in
set_option maxHeartbeats 1000000 in
theorem mayHold_any (d : Nat) (op n m who : Int) (l : List ET) (cs : Array Value) (w : World) (hr : Reads w.heap.size w d cs (.node op n m who l)) (hs : sizeL l ≤ 1000000) :
    Calls Tryd.prog 83 #[.agg cs] w fun e w' => e = .returned (.bool (decide (FormC op l))) ∧ Below w.heap.size w w' := by
  cases d with
  | zero => exact absurd hr id
  | succ d =>
  obtain ⟨_, _, _, _, A, c, hcs, hl, hc, hx⟩ := hr
  have hlen := sizeL_len l
  have hlm : l.length ≤ 1000000 := by omega
  have HX := Lib.hid hx
  have HCs := Lib.hid hcs
  clear hx hcs hlen hs
  go_enter Tryd.func83, Tryd.ntmps83
  go_upto_region 1 with fail
  obtain ⟨w1, hw1⟩ : ∃ w1, w1 = w.alloc (.cells cs 46) := ⟨_, rfl⟩
  have HE := Lib.hid (show EvAt w1 w.heap.size cs by rw [hw1]; exact EvAt.new _ _)
  have hb1 : Below w.heap.size w w1 := by rw [hw1]; exact (Below.refl _ _).alloc (Nat.le_refl _) _
  rw [← hw1]
  clear hw1
  have c0 : w1.cell? ⟨w.heap.size, 0, none⟩ = some (.int .i64 op) := by rw [HE.out.cell, HCs.out]; rfl
  have c4 : w1.cell? ⟨w.heap.size, 4, none⟩ = some (.slice A l.length c) := by rw [HE.out.cell, HCs.out]; rfl
  by_cases h20 : op = 20
  · subst h20
    by_cases hL : l.length = 1
    · obtain ⟨x, rfl⟩ : ∃ x, l = [x] := by
        match l, hL with
        | [x], _ => exact ⟨x, rfl⟩
      obtain ⟨b, o, xs, rfl, hbb, hra, hrx⟩ := HX.out 0 x rfl
      rw [Nat.zero_mul, Nat.add_zero] at hra
      obtain ⟨Ax, cx, hxe, _, _⟩ := hrx.shape
      have cx0 : w1.cell? ⟨b, o, none⟩ = some (.int .i64 x.op) := rangeAt_below hb1 hbb hra 0 _ (by rw [hxe]; rfl)
      have HF := Lib.hid (show decide (FormC 20 [x]) = decide (x.op = 1 ∨ ObjC x.op) from decide_eq_decide.2 (by unfold FormC; rw [if_pos rfl]; simp [headOp]))
      obtain ⟨xo, hxo⟩ : ∃ y, y = x.op := ⟨_, rfl⟩
      rw [← hxo] at cx0 HF
      clear hxe hL hra hrx hbb HX hxo
      go_wp2_with fail
      refine (has_is 58736066 (by decide) xo w1).mono ?_
      rintro e w2 ⟨rfl, rfl⟩
      rw [mAll]
      obtain ⟨q, hq⟩ : ∃ q : Bool, q = decide (xo = 1 ∨ ObjC xo) := ⟨_, rfl⟩
      rw [← hq] at HF ⊢
      clear hq
      go_wp2_with fail
      go_ret
      exact ⟨by rw [HF.out]; rfl, hb1⟩
    · have e1 : ((l.length : Int) == 1) = false := by simp; omega
      have HF := Lib.hid (show decide (FormC 20 l) = false from decide_eq_false_iff_not.2 (by unfold FormC; rw [if_pos rfl]; exact fun h => hL h.1))
      clear hL
      go_wp2_with fail
      go_ret
      exact ⟨by rw [HF.out]; rfl, hb1⟩
  · have e20 : (op == 20) = false := by simpa using h20
    by_cases h21 : op = 21
    · subst h21
      have HF := Lib.hid (show decide (FormC 21 l) = decide ((1 : Int) ≤ (l.length : Int) ∧ (l.length : Int) ≤ 8) from decide_eq_decide.2 (by unfold FormC; rw [if_neg (by omega), if_pos rfl]; omega))
      clear h20
      go_wp2_with fail
      refine (spanHas 1 8 (l.length : Int) w1).mono ?_
      rintro e w2 ⟨rfl, hb2⟩
      obtain ⟨q, hq⟩ : ∃ q : Bool, q = decide ((1 : Int) ≤ (l.length : Int) ∧ (l.length : Int) ≤ 8) := ⟨_, rfl⟩
      rw [← hq] at HF ⊢
      clear hq
      go_wp2_with fail
      go_ret
      exact ⟨by rw [HF.out]; rfl, keepB hb2 hb1⟩
    · have e21 : (op == 21) = false := by simpa using h21
      by_cases h22 : op = 22
      · subst h22
        have HF := Lib.hid (show decide (FormC 22 l) = decide ((1 : Int) ≤ (l.length : Int) ∧ (l.length : Int) ≤ 2) from decide_eq_decide.2 (by unfold FormC; rw [if_neg (by omega), if_neg (by omega), if_pos rfl]; omega))
        clear h20 h21
        go_wp2_with fail
        refine (spanHas 1 2 (l.length : Int) w1).mono ?_
        rintro e w2 ⟨rfl, hb2⟩
        obtain ⟨q, hq⟩ : ∃ q : Bool, q = decide ((1 : Int) ≤ (l.length : Int) ∧ (l.length : Int) ≤ 2) := ⟨_, rfl⟩
        rw [← hq] at HF ⊢
        clear hq
        go_wp2_with fail
        go_ret
        exact ⟨by rw [HF.out]; rfl, keepB hb2 hb1⟩
      · have e22 : (op == 22) = false := by simpa using h22
        have HF := Lib.hid (show decide (FormC op l) = ((l.length : Int) == 0) by
          have h : FormC op l ↔ l.length = 0 := by unfold FormC; rw [if_neg h20, if_neg h21, if_neg h22]
          rw [Bool.eq_iff_iff, decide_eq_true_eq, beq_iff_eq, h]; omega)
        clear h20 h21 h22
        go_wp2_with fail
        go_ret
        exact ⟨by rw [HF.out]; rfl, hb1⟩
end Go.Proofs.YtmdfgkfimlmmnaaDoor
