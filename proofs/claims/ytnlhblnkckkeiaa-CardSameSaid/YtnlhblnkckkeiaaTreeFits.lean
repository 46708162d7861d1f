/- Layer 6: which numbers and whom an effect is about: the reference's ranges, fits, objects. -/
import Derived.Test.YtnlhblnkckkeiaaTreeBase
namespace Go.Proofs.Ytnlhblnkckkeiaa
open Go.RowKit Ex
namespace Ex
def ObjC (op : Int) : Prop := (6 ≤ op ∧ op ≤ 8) ∨ (10 ≤ op ∧ op ≤ 13) ∨ (23 ≤ op ∧ op ≤ 25)
instance (op : Int) : Decidable (ObjC op) := by unfold ObjC; infer_instance
def nMost (op : Int) : Int := if op = 20 then 3 else if op = 22 then 2 else if op = 23 ∨ op = 25 then 255 else 99
def mLeast (op : Int) : Int := if op = 14 then 112 else 0
def mMost (op : Int) : Int := if op = 15 then 5 else if op = 14 then 119 else 99
/-- The numbers are as they may be. -/
def RangesC (op n m who : Int) : Prop := (0 ≤ who ∧ who ≤ 4) ∧ (if op = 10 ∨ op = 24 then (-99 ≤ n ∧ n ≤ 99) ∧ (-99 ≤ m ∧ m ≤ 99) else (0 ≤ n ∧ n ≤ nMost op) ∧ (mLeast op ≤ m ∧ m ≤ mMost op))
instance (op n m who : Int) : Decidable (RangesC op n m who) := by unfold RangesC; infer_instance
/-- Whom it is about fits. -/
def FitsC (op who tg : Int) : Prop :=
  if op = 0 ∨ (20 ≤ op ∧ op ≤ 22) then who = 0
  else if op = 1 then who = 0 ∨ who = 1 ∨ who = 4 ∨ (who = 2 ∧ 1 ≤ tg ∧ tg ≤ 3)
  else if op = 9 then who = 2 ∧ tg = 4
  else if ObjC op then who = 3 ∨ (who = 2 ∧ (tg = 1 ∨ tg = 5))
  else who = 0 ∨ who = 1 ∨ who = 4 ∨ (who = 2 ∧ tg = 2)
instance (op who tg : Int) : Decidable (FitsC op who tg) := by unfold FitsC; infer_instance
end Ex
set_option linter.unusedSimpArgs false in
set_option maxRecDepth 100000 in
theorem objRef_any (op : Int) (w : World) : Calls Try.prog 51 #[.int .i64 op] w fun e w' => e = .returned (.bool (decide (ObjC op))) ∧ w = w' := by
  go_enter Try.func51, Try.ntmps51
  go_wp2_with fail
  all_goals go_ret
  all_goals refine ⟨congrArg (fun b => Ending.returned (Value.bool b)) ?_, rfl⟩
  all_goals (rw [Bool.eq_iff_iff]; simp only [Bool.or_eq_true, Bool.and_eq_true, decide_eq_true_eq, true_iff, false_iff, Bool.false_eq_true, Bool.true_eq_false]; unfold ObjC; omega)
set_option linter.unusedSimpArgs false in
set_option maxRecDepth 100000 in
set_option maxHeartbeats 1000000 in
theorem rangesRef_any (op n m who : Int) (A : Option Addr) (k c : Nat) (w : World) : Calls Try.prog 49 #[.agg (evC op n m who A k c)] w fun e w' => e = .returned (.bool (decide (RangesC op n m who))) ∧ Below w.heap.size w w' := by
  obtain ⟨cs, hcs⟩ : ∃ cs, cs = evC op n m who A k c := ⟨_, rfl⟩
  rw [← hcs]
  have HCs := Lib.hid hcs
  clear hcs
  go_enter Try.func49, Try.ntmps49
  go_upto_region 1 with fail
  obtain ⟨w1, hw1⟩ : ∃ w1, w1 = w.alloc (.cells cs 42) := ⟨_, rfl⟩
  have HE := Lib.hid (show EvAt w1 w.heap.size cs by rw [hw1]; exact EvAt.new _ _)
  have hb1 : Below w.heap.size w w1 := by rw [hw1]; exact (Below.refl _ _).alloc (Nat.le_refl _) _
  rw [← hw1]
  clear hw1
  have c0 : w1.cell? ⟨w.heap.size, 0, none⟩ = some (.int .i64 op) := by rw [HE.out.cell, HCs.out]; rfl
  have c1 : w1.cell? ⟨w.heap.size, 1, none⟩ = some (.int .i64 n) := by rw [HE.out.cell, HCs.out]; rfl
  have c2 : w1.cell? ⟨w.heap.size, 2, none⟩ = some (.int .i64 m) := by rw [HE.out.cell, HCs.out]; rfl
  have c3 : w1.cell? ⟨w.heap.size, 3, none⟩ = some (.int .i64 who) := by rw [HE.out.cell, HCs.out]; rfl
  by_cases hw : 0 ≤ who ∧ who ≤ 4
  · obtain ⟨w0, w4⟩ := hw
    have d0 : decide (who < 0) = false := by simp; omega
    have d1 : decide (4 < who) = false := by simp; omega
    by_cases hop : op = 10 ∨ op = 24 ∨ op = 20 ∨ op = 22 ∨ op = 23 ∨ op = 25 ∨ op = 15 ∨ op = 14
    · clear HCs
      rcases hop with rfl | rfl | rfl | rfl | rfl | rfl | rfl | rfl
      all_goals go_wp2_with fail
      all_goals go_ret
      all_goals refine ⟨congrArg (fun b => Ending.returned (Value.bool b)) ?_, hb1⟩
      all_goals (rw [Bool.eq_iff_iff]; simp [RangesC, nMost, mLeast, mMost]; try omega)
    · have n1 : op ≠ 10 := fun h => hop (by omega)
      have n2 : op ≠ 24 := fun h => hop (by omega)
      have n3 : op ≠ 20 := fun h => hop (by omega)
      have n4 : op ≠ 22 := fun h => hop (by omega)
      have n5 : op ≠ 23 := fun h => hop (by omega)
      have n6 : op ≠ 25 := fun h => hop (by omega)
      have n7 : op ≠ 15 := fun h => hop (by omega)
      have n8 : op ≠ 14 := fun h => hop (by omega)
      have e1 : (op == 10) = false := by simpa using n1
      have e2 : (op == 24) = false := by simpa using n2
      have e3 : (op == 20) = false := by simpa using n3
      have e4 : (op == 22) = false := by simpa using n4
      have e5 : (op == 23) = false := by simpa using n5
      have e6 : (op == 25) = false := by simpa using n6
      have e7 : (op == 15) = false := by simpa using n7
      have e8 : (op == 14) = false := by simpa using n8
      have HR := Lib.hid (show RangesC op n m who ↔ ((0 ≤ n ∧ n ≤ 99) ∧ (0 ≤ m ∧ m ≤ 99)) by
        simp [RangesC, nMost, mLeast, mMost, n1, n2, n3, n4, n5, n6, n7, n8]; omega)
      clear hop n1 n2 n3 n4 n5 n6 n7 n8 HCs
      go_wp2_with fail
      all_goals go_ret
      all_goals refine ⟨congrArg (fun b => Ending.returned (Value.bool b)) ?_, hb1⟩
      all_goals (rw [Bool.eq_iff_iff]; simp [HR.out]; try omega)
  · have hb : (decide (who < 0) || decide (4 < who)) = true := by simp; omega
    have HR := Lib.hid (show decide (RangesC op n m who) = false by rw [decide_eq_false_iff_not]; exact fun h => hw h.1)
    clear hw HCs
    go_wp2_with fail
    all_goals go_ret
    all_goals exact ⟨by rw [HR.out]; rfl, hb1⟩
set_option linter.unusedSimpArgs false in
set_option maxRecDepth 100000 in
set_option maxHeartbeats 1000000 in
theorem fitsRef_any (op n m who tg : Int) (A : Option Addr) (k c : Nat) (w : World) : Calls Try.prog 50 #[.agg (evC op n m who A k c), .int .i64 tg] w fun e w' => e = .returned (.bool (decide (FitsC op who tg))) ∧ Below w.heap.size w w' := by
  obtain ⟨cs, hcs⟩ : ∃ cs, cs = evC op n m who A k c := ⟨_, rfl⟩
  rw [← hcs]
  have HCs := Lib.hid hcs
  clear hcs
  go_enter Try.func50, Try.ntmps50
  go_upto_region 1 with fail
  obtain ⟨w1, hw1⟩ : ∃ w1, w1 = w.alloc (.cells cs 42) := ⟨_, rfl⟩
  have HE := Lib.hid (show EvAt w1 w.heap.size cs by rw [hw1]; exact EvAt.new _ _)
  have hb1 : Below w.heap.size w w1 := by rw [hw1]; exact (Below.refl _ _).alloc (Nat.le_refl _) _
  rw [← hw1]
  clear hw1
  have c0 : w1.cell? ⟨w.heap.size, 0, none⟩ = some (.int .i64 op) := by rw [HE.out.cell, HCs.out]; rfl
  have c3 : w1.cell? ⟨w.heap.size, 3, none⟩ = some (.int .i64 who) := by rw [HE.out.cell, HCs.out]; rfl
  clear HCs HE
  by_cases h0 : op = 0
  · subst h0
    have HF := Lib.hid (show ∀ u, FitsC 0 u tg ↔ u = 0 by intro u; simp [FitsC])
    go_wp2_with fail
    all_goals go_ret
    all_goals refine ⟨congrArg (fun b => Ending.returned (Value.bool b)) ?_, hb1⟩
    all_goals (rw [Bool.eq_iff_iff]; simp [HF.out]; try omega)
  · have e0 : (op == 0) = false := by simpa using h0
    by_cases hA : 20 ≤ op ∧ op ≤ 22
    · obtain ⟨g1, g2⟩ := hA
      have HF := Lib.hid (show ∀ u, FitsC op u tg ↔ u = 0 by intro u; unfold FitsC; rw [if_pos (by omega)])
      have d1 : decide (20 ≤ op) = true := by simpa using g1
      have d2 : decide (op ≤ 22) = true := by simpa using g2
      clear h0
      go_wp2_with fail
      all_goals go_ret
      all_goals refine ⟨congrArg (fun b => Ending.returned (Value.bool b)) ?_, hb1⟩
      all_goals (rw [Bool.eq_iff_iff]; simp [HF.out]; try omega)
    · have dA : (decide (20 ≤ op) && decide (op ≤ 22)) = false := by simp; omega
      by_cases h1 : op = 1
      · subst h1
        have HF := Lib.hid (show ∀ u, FitsC 1 u tg ↔ (u = 0 ∨ u = 1 ∨ u = 4 ∨ (u = 2 ∧ 1 ≤ tg ∧ tg ≤ 3)) by intro u; unfold FitsC; rw [if_neg (by omega), if_pos rfl])
        go_wp2_with fail
        all_goals go_ret
        all_goals refine ⟨congrArg (fun b => Ending.returned (Value.bool b)) ?_, hb1⟩
        all_goals (rw [Bool.eq_iff_iff]; simp [HF.out]; try omega)
      · have e1 : (op == 1) = false := by simpa using h1
        by_cases h9 : op = 9
        · subst h9
          have HF := Lib.hid (show ∀ u, FitsC 9 u tg ↔ (u = 2 ∧ tg = 4) by intro u; unfold FitsC; rw [if_neg (by omega), if_neg (by omega), if_pos rfl])
          go_wp2_with fail
          all_goals go_ret
          all_goals refine ⟨congrArg (fun b => Ending.returned (Value.bool b)) ?_, hb1⟩
          all_goals (rw [Bool.eq_iff_iff]; simp [HF.out]; try omega)
        · have e9 : (op == 9) = false := by simpa using h9
          by_cases hO : ObjC op
          · have HF := Lib.hid (show ∀ u, FitsC op u tg ↔ (u = 3 ∨ (u = 2 ∧ (tg = 1 ∨ tg = 5))) by intro u; unfold FitsC; rw [if_neg (by omega), if_neg h1, if_neg h9, if_pos hO])
            have hob := objRef_any op w1
            rw [show decide (ObjC op) = true by simpa using hO] at hob
            have HO := Lib.hid hob
            clear hob hO h0 h1 h9
            go_wp2_with fail
            all_goals refine HO.out.mono ?_
            all_goals rintro e w2 ⟨rfl, rfl⟩
            all_goals go_wp2_with fail
            all_goals go_ret
            all_goals refine ⟨congrArg (fun b => Ending.returned (Value.bool b)) ?_, hb1⟩
            all_goals (rw [Bool.eq_iff_iff]; simp [HF.out]; try omega)
          · have HF := Lib.hid (show ∀ u, FitsC op u tg ↔ (u = 0 ∨ u = 1 ∨ u = 4 ∨ (u = 2 ∧ tg = 2)) by intro u; unfold FitsC; rw [if_neg (by omega), if_neg h1, if_neg h9, if_neg hO])
            have hob := objRef_any op w1
            rw [show decide (ObjC op) = false by simpa using hO] at hob
            have HO := Lib.hid hob
            clear hob hO h0 h1 h9
            go_wp2_with fail
            all_goals refine HO.out.mono ?_
            all_goals rintro e w2 ⟨rfl, rfl⟩
            all_goals go_wp2_with fail
            all_goals go_ret
            all_goals refine ⟨congrArg (fun b => Ending.returned (Value.bool b)) ?_, hb1⟩
            all_goals (rw [Bool.eq_iff_iff]; simp [HF.out]; try omega)
end Go.Proofs.Ytnlhblnkckkeiaa
