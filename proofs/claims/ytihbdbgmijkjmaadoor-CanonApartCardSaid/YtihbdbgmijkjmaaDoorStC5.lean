/- Layer 10: the code's mayStand and formFits. -/
import Derived.Test.YtihbdbgmijkjmaaDoorStC1
import Derived.Test.YtihbdbgmijkjmaaDoorStC4
namespace Go.Proofs.YtihbdbgmijkjmaaDoor
open Go.RowKit Ex
attribute [local go_sem] arr_get
set_option maxRecDepth 100000
/-- May an object stand in list y? -/
def mayB (o : Nat → Int) (y : Nat) : Bool := o 3 == (y : Int) && if y < 8 then o 1 == (y : Int) % 2 && o 13 == 0 else y != 8 || o 13 != 2
theorem mayStand_any (o : Nat → Int) (y : Nat) (hy : y < 11) (w : World) : Calls Tryd.prog 57 #[.agg (arr .i64 18 o), .int .i64 (y : Int)] w fun e w' => e = .returned (.bool (mayB o y)) ∧ Below w.heap.size w w' := by
  obtain ⟨q, hq⟩ : ∃ q, q = mayB o y := ⟨_, rfl⟩
  rw [← hq]
  have HQ := Lib.hid hq
  clear hq
  have hc := isOwned_any (y : Int)
  go_enter Tryd.func57, Tryd.ntmps57
  by_cases e3 : o 3 = (y : Int)
  case neg =>
    have d3 : (o 3 != (y : Int)) = true := by simpa using e3
    have hf : mayB o y = false := by simp [mayB, e3]
    clear hc
    obtain rfl := HQ.out.trans hf
    clear hf
    go_wp2_with fail
    go_ret
    exact ⟨rfl, (Below.refl _ _).alloc (Nat.le_refl _) _⟩
  have d3 : (o 3 != (y : Int)) = false := by simp [e3]
  by_cases h8 : y < 8
  · rw [show (decide (0 ≤ (y : Int)) && decide ((y : Int) < 8)) = true by simp; omega] at hc
    go_wp2_with fail
    refine (hc _).mono ?_
    rintro e w2 ⟨rfl, rfl⟩
    clear hc
    by_cases e1 : o 1 = (y : Int) % 2
    · have d1 : (o 1 == (y : Int) % 2) = true := by simpa using e1
      by_cases e13 : o 13 = 0
      · have d13 : (o 13 == 0) = true := by simpa using e13
        have hf : mayB o y = true := by simp [mayB, e3, h8, e1, e13]
        clear e3 e1 e13
        obtain rfl := HQ.out.trans hf
        clear hf
        go_wp2_with fail
        go_ret
        exact ⟨rfl, (Below.refl _ _).alloc (Nat.le_refl _) _⟩
      · have d13 : (o 13 == 0) = false := by simpa using e13
        have hf : mayB o y = false := by simp [mayB, e3, h8, e1, e13]
        clear e3 e1 e13
        obtain rfl := HQ.out.trans hf
        clear hf
        go_wp2_with fail
        go_ret
        exact ⟨rfl, (Below.refl _ _).alloc (Nat.le_refl _) _⟩
    · have d1 : (o 1 == (y : Int) % 2) = false := by simpa using e1
      have hf : mayB o y = false := by simp [mayB, e3, h8, e1]
      clear e3 e1
      obtain rfl := HQ.out.trans hf
      clear hf
      go_wp2_with fail
      go_ret
      exact ⟨rfl, (Below.refl _ _).alloc (Nat.le_refl _) _⟩
  · rw [show (decide (0 ≤ (y : Int)) && decide ((y : Int) < 8)) = false by simp; omega] at hc
    go_wp2_with fail
    refine (hc _).mono ?_
    rintro e w2 ⟨rfl, rfl⟩
    clear hc
    by_cases ey : y = 8
    · subst ey
      by_cases e13 : o 13 = 2
      · have d13 : (o 13 != 2) = false := by simp [e13]
        have hf : mayB o 8 = false := by simp [mayB, e13]
        clear e3 e13
        obtain rfl := HQ.out.trans hf
        clear hf
        go_wp2_with fail
        go_ret
        exact ⟨rfl, (Below.refl _ _).alloc (Nat.le_refl _) _⟩
      · have d13 : (o 13 != 2) = true := by simpa using e13
        have hf : mayB o 8 = true := by simp [mayB, e3, e13]
        clear e3 e13
        obtain rfl := HQ.out.trans hf
        clear hf
        go_wp2_with fail
        go_ret
        exact ⟨rfl, (Below.refl _ _).alloc (Nat.le_refl _) _⟩
    · have d8 : ((y : Int) != 8) = true := by simp; omega
      have hf : mayB o y = true := by simp [mayB, e3, h8, ey]
      clear e3
      obtain rfl := HQ.out.trans hf
      clear hf
      go_wp2_with fail
      go_ret
      exact ⟨rfl, (Below.refl _ _).alloc (Nat.le_refl _) _⟩
/-- The table of the fields that only what is on the field may have. -/
def fieldF (i : Nat) : Int := ((4 + i : Nat) : Int)
def TabF (z : World) : Prop := ∃ t, z.heap[2]? = some (.cells (arr .i64 9 fieldF) t (0, 0))
theorem TabF.keep {z w : World} (h : TabF z) (hb : Below z.heap.size z w) : TabF w := by
  obtain ⟨t, ht⟩ := h
  exact ⟨t, (hb.block _ (Array.getElem?_eq_some_iff.1 ht).1).trans ht⟩
def ZeroK (o : Nat → Int) (k : Nat) : Prop := ∀ i, i < k → o (4 + i) = 0
theorem zeroB_good {o : Nat → Int} (h : ZeroK o 9) : zeroB o = true := by
  have h0 := h 0 (by omega); have h1 := h 1 (by omega); have h2 := h 2 (by omega); have h3 := h 3 (by omega); have h4 := h 4 (by omega)
  have h5 := h 5 (by omega); have h6 := h 6 (by omega); have h7 := h 7 (by omega); have h8 := h 8 (by omega)
  simp at h0 h1 h2 h3 h4 h5 h6 h7 h8
  simp [zeroB, h0, h1, h2, h3, h4, h5, h6, h7, h8]
theorem zeroB_bad {o : Nat → Int} {k : Nat} (hk : k < 9) (h : o (4 + k) ≠ 0) : zeroB o = false := by
  rw [Bool.eq_false_iff]; intro hz
  simp only [zeroB, Bool.and_eq_true, beq_iff_eq] at hz
  match k, hk with
  | 0, _ => exact h hz.1.1.1.1.1.1.1.1
  | 1, _ => exact h hz.1.1.1.1.1.1.1.2
  | 2, _ => exact h hz.1.1.1.1.1.1.2
  | 3, _ => exact h hz.1.1.1.1.1.2
  | 4, _ => exact h hz.1.1.1.1.2
  | 5, _ => exact h hz.1.1.1.2
  | 6, _ => exact h hz.1.1.2
  | 7, _ => exact h hz.1.2
  | 8, _ => exact h hz.2
set_option maxHeartbeats 0 in
theorem formFits_any {z : World} (T : TabF z) (o : Nat → Int) (w : World) (h0 : 0 ≤ o 3) (hz : Below z.heap.size z w) : Calls Tryd.prog 39 #[.agg (arr .i64 18 o)] w fun e w' => e = .returned (.bool (formedB o)) ∧ Below w.heap.size w w' := by
  obtain ⟨q, hq⟩ : ∃ q, q = formedB o := ⟨_, rfl⟩
  rw [← hq]
  have HQ := Lib.hid hq
  clear hq
  obtain ⟨t, hT⟩ := T.keep hz
  have hc := isOwned_any (o 3)
  have hsz : (Tryd.prog.info? 25).map (·.size) = some (arr .i64 9 fieldF).size := by rw [arr_size]; exact st_size9
  go_enter Tryd.func39, Tryd.ntmps39
  go_upto_region 1 with fail
  obtain ⟨w1, hw1⟩ : ∃ w1, w1 = w.alloc (.cells (arr .i64 18 o) 56) := ⟨_, rfl⟩
  have ha : ArrAt .i64 18 56 w1 w.heap.size o := by rw [hw1]; exact ArrAt.new w .i64 18 56 o
  have hb1 : Below w.heap.size w w1 := by rw [hw1]; exact (Below.refl _ _).alloc (Nat.le_refl _) _
  have hT1 : w1.heap[2]? = some (.cells (arr .i64 9 fieldF) t (0, 0)) := (hb1.block _ (Array.getElem?_eq_some_iff.1 hT).1).trans hT
  rw [← hw1]
  clear hw1 hT
  have x3 := ha.cell (i := 3) (by omega)
  have x16 := ha.cell (i := 16) (by omega)
  by_cases e9 : o 3 = 9
  · have d9 : (o 3 != 9) = false := by simp [e9]
    have d8 : (o 3 == 8) = false := by simp [e9]
    rw [show (decide (0 ≤ o 3) && decide (o 3 < 8)) = false by simp [e9], e9] at hc
    go_upto_region 7 with (refine wpList_load_row rfl 25 _ rfl 2 rfl t _ (0, 0) _ hT1 Tryd.underlying25 rfl hsz ?_)
    have e8 : ¬ o 3 = 8 := by omega
    have hk0 : ZeroK o 0 := fun i hi => absurd hi (by omega)
    go_loopw [18] (fun i wr => ∃ k : Nat, i = .int .i64 ((k : Nat) : Int) ∧ k ≤ 9 ∧ ZeroK o k ∧ wr = w1) (fun i _ => 9 - (intOf i).toNat)
    case atStart => exact ⟨0, rfl, by omega, hk0, rfl⟩
    case round =>
      clear hk0
      obtain ⟨k, rfl, hk, hk0, rfl⟩ := hrel
      by_cases hlt : k < 9
      · have hd : decide ((k : Int) < 9) = true := by simp; omega
        have hix := index_nine fieldF k hlt
        rw [show fieldF k = ((4 + k : Nat) : Int) from rfl] at hix
        have xk := ha.cell (i := 4 + k) (by omega)
        have b0 : (0 : Int) ≤ ((4 + k : Nat) : Int) := by omega
        have b1 : ((4 + k : Nat) : Int) < 18 := by omega
        obtain ⟨j, hj⟩ : ∃ j, j = 4 + k := ⟨_, rfl⟩
        rw [← hj] at hix xk b0 b1
        have HJ := Lib.hid hj
        clear hj
        by_cases e : o j = 0
        · have de : (o j != 0) = false := by simp [e]
          have hk2 : ZeroK o (k + 1) := fun i hi => by
            by_cases h : i = k
            · subst h; rw [← HJ.out]; exact e
            · exact hk0 i (by omega)
          clear e
          go_wp2_with fail
          go_roundw
          case rel => exact ⟨k + 1, by go_num, by omega, hk2, by trivial⟩
          case measure => simp [intOf]; omega
        · have de : (o j != 0) = true := by simpa using e
          have hzf := zeroB_bad hlt (HJ.out ▸ e)
          have hf : formedB o = false := by simp [formedB, hzf, e8]
          clear e hzf
          obtain rfl := HQ.out.trans hf
          clear hf
          go_wp2_with fail
          go_ret
          exact ⟨rfl, hb1⟩
      obtain rfl : k = 9 := by omega
      have hf : formedB o = true := by simp [formedB, zeroB_good hk0, e9]
      go_wp2_with fail
      refine (hc _).mono ?_
      rintro e w2 ⟨rfl, rfl⟩
      obtain rfl := HQ.out.trans hf
      clear hf
      go_wp2_with fail
      go_ret
      exact ⟨rfl, hb1⟩
  have d9 : (o 3 != 9) = true := by simpa using e9
  by_cases e16 : o 16 = 0
  case neg =>
    have d16 : (o 16 != 0) = true := by simpa using e16
    have hf : formedB o = false := by simp [formedB, e9, e16]
    obtain rfl := HQ.out.trans hf
    clear hf
    go_wp2_with fail
    go_ret
    exact ⟨rfl, hb1⟩
  have d16 : (o 16 != 0) = false := by simp [e16]
  by_cases e8 : o 3 = 8
  · have d8 : (o 3 == 8) = true := by simp [e8]
    have hf : formedB o = true := by simp [formedB, e8, e16]
    obtain rfl := HQ.out.trans hf
    clear hf
    go_wp2_with fail
    go_ret
    exact ⟨rfl, hb1⟩
  have d8 : (o 3 == 8) = false := by simpa using e8
  go_upto_region 7 with (refine wpList_load_row rfl 25 _ rfl 2 rfl t _ (0, 0) _ hT1 Tryd.underlying25 rfl hsz ?_)
  have hk0 : ZeroK o 0 := fun i hi => absurd hi (by omega)
  go_loopw [18] (fun i wr => ∃ k : Nat, i = .int .i64 ((k : Nat) : Int) ∧ k ≤ 9 ∧ ZeroK o k ∧ wr = w1) (fun i _ => 9 - (intOf i).toNat)
  case atStart => exact ⟨0, rfl, by omega, hk0, rfl⟩
  case round =>
    clear hk0
    obtain ⟨k, rfl, hk, hk0, rfl⟩ := hrel
    by_cases hlt : k < 9
    · have hd : decide ((k : Int) < 9) = true := by simp; omega
      have hix := index_nine fieldF k hlt
      rw [show fieldF k = ((4 + k : Nat) : Int) from rfl] at hix
      have xk := ha.cell (i := 4 + k) (by omega)
      have b0 : (0 : Int) ≤ ((4 + k : Nat) : Int) := by omega
      have b1 : ((4 + k : Nat) : Int) < 18 := by omega
      obtain ⟨j, hj⟩ : ∃ j, j = 4 + k := ⟨_, rfl⟩
      rw [← hj] at hix xk b0 b1
      have HJ := Lib.hid hj
      clear hj
      by_cases e : o j = 0
      · have de : (o j != 0) = false := by simp [e]
        have hk2 : ZeroK o (k + 1) := fun i hi => by
          by_cases h : i = k
          · subst h; rw [← HJ.out]; exact e
          · exact hk0 i (by omega)
        clear e
        go_wp2_with fail
        go_roundw
        case rel => exact ⟨k + 1, by go_num, by omega, hk2, by trivial⟩
        case measure => simp [intOf]; omega
      · have de : (o j != 0) = true := by simpa using e
        have hzf := zeroB_bad hlt (HJ.out ▸ e)
        have hf : formedB o = false := by simp [formedB, hzf, e8]
        clear e hzf
        obtain rfl := HQ.out.trans hf
        clear hf
        go_wp2_with fail
        go_ret
        exact ⟨rfl, hb1⟩
    obtain rfl : k = 9 := by omega
    have x2 := ha.cell (i := 2) (by omega)
    have x1 := ha.cell (i := 1) (by omega)
    by_cases l8 : o 3 < 8
    · rw [show (decide (0 ≤ o 3) && decide (o 3 < 8)) = true by simp [h0, l8]] at hc
      by_cases e21 : o 2 = o 1
      · have d21 : (o 2 == o 1) = true := by simpa using e21
        have hf : formedB o = true := by simp [formedB, zeroB_good hk0, e21, e16]
        clear e21 l8
        go_wp2_with fail
        refine (hc _).mono ?_
        rintro e w2 ⟨rfl, rfl⟩
        obtain rfl := HQ.out.trans hf
        clear hf
        go_wp2_with fail
        go_ret
        exact ⟨rfl, hb1⟩
      · have d21 : (o 2 == o 1) = false := by simpa using e21
        have hf : formedB o = false := by simp [formedB, l8, e21]
        clear e21 l8
        go_wp2_with fail
        refine (hc _).mono ?_
        rintro e w2 ⟨rfl, rfl⟩
        obtain rfl := HQ.out.trans hf
        clear hf
        go_wp2_with fail
        go_ret
        exact ⟨rfl, hb1⟩
    · rw [show (decide (0 ≤ o 3) && decide (o 3 < 8)) = false by simp [l8]] at hc
      have hf : formedB o = true := by simp [formedB, zeroB_good hk0, l8, e16]
      clear l8
      go_wp2_with fail
      refine (hc _).mono ?_
      rintro e w2 ⟨rfl, rfl⟩
      obtain rfl := HQ.out.trans hf
      clear hf
      go_wp2_with fail
      go_ret
      exact ⟨rfl, hb1⟩
end Go.Proofs.YtihbdbgmijkjmaaDoor
