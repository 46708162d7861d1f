/- Layer 10: the code's isOwned, isList, Side. Layer 10: the code's isList and Top. Layer 10: the code's isOwned, isList, Zone, Side, Top, New, Cards. Layer 10: the code's spans, and what has a number. Layer 10: the code's numbersFit. Layer 10: the code's mayStand and formFits. Tables that a row lists: from 'it reads as this datum' to the cells. Arrays and structs of numbers, bools and strings, nested as you like. Over any program. Layer 10: from the row's list to the table of the fields that only what is on the field may have. Layer 15: the lowest two bits of a number in 64 bits (two's complement): what or, and, and-not make of them. Plain facts on sets of 64 bits: rows of bools, and the numbers that they are. How many are in a set: the count by halves, and what it is worth. Contracts of package bits. Layer 15: the landed code's Knows, Zone, Show, Hide, Gains, Gained. Layer 15: the landed code's Show, Hide, Gains, Gained. Layer 15: the landed code's Gained. Layer 15: what the landed know's calls answer. Layer 12: the code's Copy of a state: each list in a block of its own. Layer 10: the lists of a state, one behind the other: when each object stands once. Layer 10: the code's listsFit. Layer 10: the code's Check. Layer 15: the landed code's Sees. Layer 15: the landed code's Sees. Layer 15: from the rows' lists to the table that Sees' Check reads. -/
import Derived.Test.YtmhabodijmnldaaDoorStBase
import Derived.Test.YtmhabodijmnldaaDoorStLong
import Derived.Test.YtmhabodijmnldaaDoorStPl
import Derived.OwnWalk
import Derived.Test.YtmhabodijmnldaaDoorKwG0
import Derived.LaidLaws
import Derived.LaidSub
import Derived.OpenShut
import Derived.ChangeArms
import Derived.Test.YtmhabodijmnldaaDoorKwMath
import Derived.WalkKit
import Derived.Deep.QuietTactic
import Derived.Test.YtmhabodijmnldaaDoorRows
import Derived.WalkSpells
import Derived.WalkLawsBesides
import Derived.Lib.Hide
import Derived.BigQuiet
import Derived.Test.YtmhabodijmnldaaDoorKwRef
import Derived.Test.YtmhabodijmnldaaDoorNtEvP
import Derived.Test.YtmhabodijmnldaaDoorEvLe
import Derived.Test.YtmhabodijmnldaaDoorStBox
import Derived.Test.YtmhabodijmnldaaDoorKwSaid
import Derived.Test.YtmhabodijmnldaaDoorEvOwn
import Derived.Test.YtmhabodijmnldaaDoorKwSeesR
import Derived.Test.YtmhabodijmnldaaDoorKwLaws3
namespace Go.Proofs.YtmhabodijmnldaaDoor
open Go.RowKit Ex
set_option maxRecDepth 100000
theorem isOwned_any (z : Int) (w : World) : Calls Tryd.prog 45 #[.int .i64 z] w fun e w' => e = .returned (.bool (decide (0 ≤ z) && decide (z < 8))) ∧ w = w' := by
  go_enter Tryd.func45, Tryd.ntmps45
  go_wp2_with fail
  all_goals (go_ret; refine ⟨?_, rfl⟩; simp [*] <;> omega)
theorem isList_any (z : Int) (w : World) : Calls Tryd.prog 46 #[.int .i64 z] w fun e w' => e = .returned (.bool (decide (0 ≤ z) && decide (z < 11))) ∧ w = w' := by
  go_enter Tryd.func46, Tryd.ntmps46
  go_wp2_with fail
  all_goals (go_ret; refine ⟨?_, rfl⟩; simp [*] <;> omega)
def sideB (z : Int) : Int := if 0 ≤ z ∧ z < 8 then z - z % 2 else if 0 ≤ z ∧ z < 11 then z else 0
def sideP (z : Int) : Int := if 0 ≤ z ∧ z < 8 then z % 2 else 0
def sideO (z : Int) : Bool := decide (0 ≤ z) && decide (z < 8)
theorem side_code (z : Int) (w : World) : Calls Tryd.prog 37 #[.int .i64 z] w fun e w' => e = .returned (.tuple #[.int .i64 (sideB z), .int .i64 (sideP z), .bool (sideO z)]) ∧ w = w' := by
  by_cases h0 : 0 ≤ z ∧ z < 8
  · have hb : sideB z = z - z % 2 := if_pos h0
    have hp : sideP z = z % 2 := if_pos h0
    have ho : sideO z = true := by simp [sideO, h0]
    have hc := isOwned_any z
    rw [show (decide (0 ≤ z) && decide (z < 8)) = true by simp [h0]] at hc
    rw [hb, hp, ho]
    clear hb hp ho
    go_enter Tryd.func37, Tryd.ntmps37
    go_wp2_with fail
    refine (hc w).mono ?_
    rintro e w2 ⟨rfl, rfl⟩
    clear hc
    go_wp2_with fail
    go_ret3
    exact ⟨rfl, rfl⟩
  have hp : sideP z = 0 := if_neg h0
  have ho : sideO z = false := by rw [Bool.eq_false_iff]; intro h; simp [sideO] at h; omega
  have hc := isOwned_any z
  rw [show (decide (0 ≤ z) && decide (z < 8)) = false from ho] at hc
  have hl := isList_any z
  by_cases h1 : 0 ≤ z ∧ z < 11
  · have hb : sideB z = z := by rw [sideB, if_neg h0, if_pos h1]
    rw [show (decide (0 ≤ z) && decide (z < 11)) = true by simp [h1]] at hl
    rw [hb, hp, ho]
    clear hb hp ho
    go_enter Tryd.func37, Tryd.ntmps37
    go_wp2_with fail
    refine (hc w).mono ?_
    rintro e w2 ⟨rfl, rfl⟩
    clear hc
    go_wp2_with fail
    refine (hl w).mono ?_
    rintro e w2 ⟨rfl, rfl⟩
    clear hl
    go_wp2_with fail
    go_ret3
    exact ⟨rfl, rfl⟩
  · have hb : sideB z = 0 := by rw [sideB, if_neg h0, if_neg h1]
    rw [show (decide (0 ≤ z) && decide (z < 11)) = false by rw [Bool.eq_false_iff]; intro h; simp at h; omega] at hl
    rw [hb, hp, ho]
    clear hb hp ho
    go_enter Tryd.func37, Tryd.ntmps37
    go_wp2_with fail
    refine (hc w).mono ?_
    rintro e w2 ⟨rfl, rfl⟩
    clear hc
    go_wp2_with fail
    refine (hl w).mono ?_
    rintro e w2 ⟨rfl, rfl⟩
    clear hl
    go_wp2_with fail
    go_ret3
    exact ⟨rfl, rfl⟩
end Go.Proofs.YtmhabodijmnldaaDoor
namespace Go.Proofs.YtmhabodijmnldaaDoor
open Go.RowKit Ex
attribute [local go_sem] arr_get
set_option maxRecDepth 100000
/-- The last number of a list, and whether there is one. -/
def topB (s : StT) (z : Int) : Bool := decide (0 ≤ z) && decide (z < 11) && decide (0 < (s.lists z.toNat).length)
def topX (s : StT) (z : Int) : Int := if topB s z = true then (s.lists z.toNat).getD ((s.lists z.toNat).length - 1) 0 else 0
end Go.Proofs.YtmhabodijmnldaaDoor
namespace Go.Proofs.YtmhabodijmnldaaDoor
open Go.RowKit Ex
attribute [local go_sem] arr_get
set_option maxRecDepth 100000
/-- A player's list. -/
def zoneV (b p : Int) : Int := if (b = 0 ∨ b = 2 ∨ b = 4 ∨ b = 6) ∧ (p = 0 ∨ p = 1) then b + p else -1
end Go.Proofs.YtmhabodijmnldaaDoor
namespace Go.Proofs.YtmhabodijmnldaaDoor
open Go.RowKit Ex
attribute [local go_sem] arr_get
set_option maxRecDepth 100000
theorem has_span (a b n : Int) (w : World) : Calls Tryd.prog 48 #[.agg #[.int .i64 a, .int .i64 b], .int .i64 n] w fun e w' => e = .returned (.bool (inR n a b)) ∧ Below w.heap.size w w' := by
  go_enter Tryd.func48, Tryd.ntmps48
  go_wp2_with fail
  all_goals (go_ret; refine ⟨?_, (Below.refl _ _).alloc (Nat.le_refl _) _⟩; simp [inR, *] <;> omega)
def spanO (n : Int) : Nat → Int × Int
  | 0 => (0, 119) | 1 => (0, 1) | 2 => (0, 1) | 3 => (0, 10) | 4 => (0, 1) | 5 => (0, 1) | 6 => (0, 1073741824) | 7 => (0, 1073741824) | 8 => (-1073741824, 1073741824) | 9 => (-1073741824, 1073741824)
  | 10 => (0, 255) | 11 => (0, 1) | 12 => (0, n) | 13 => (0, 2) | 14 => (0, 3) | 15 => (0, n) | 16 => (-2, n) | _ => (0, 3)
def spanP : Nat → Int × Int
  | 0 => (-1073741824, 1073741824) | 7 => (0, 1) | 8 => (0, 1) | _ => (0, 1000)
def spanG : Nat → Int × Int
  | 0 => (0, 1073741824) | 2 => (0, 7) | 5 => (0, 4096) | 6 => (0, 3) | _ => (0, 1)
def spV (p : Int × Int) : Value := .agg #[.int .i64 p.1, .int .i64 p.2]
theorem size_span : (Tryd.prog.info? 75).map (·.size) = some 2 := by kernel_rfl
theorem obj_span (n : Int) : ∀ k, k < 18 → ∀ w, Calls Tryd.prog 47 #[.int .i64 ((k : Nat) : Int), .int .i64 n] w fun e w' => e = .returned (spV (spanO n k)) ∧ Below w.heap.size w w'
  | 0, _, w => by
    go_enter Tryd.func47, Tryd.ntmps47
    go_wp2_with fail
    refine bodyPost_ret (v := spV (spanO n 0)) ?_ rfl ⟨rfl, (Below.refl _ _).alloc (Nat.le_refl _) _⟩
    exact results_cell_row (ty := 75) (p := 4) (by kernel_rfl) _ _ w.heap.size 75 _ (0, 0) _ rfl (heap_alloc_new _ _) Tryd.underlying75 rfl size_span
  | 1, _, w => by
    go_enter Tryd.func47, Tryd.ntmps47
    go_wp2_with fail
    refine bodyPost_ret (v := spV (spanO n 1)) ?_ rfl ⟨rfl, (Below.refl _ _).alloc (Nat.le_refl _) _⟩
    exact results_cell_row (ty := 75) (p := 4) (by kernel_rfl) _ _ w.heap.size 75 _ (0, 0) _ rfl (heap_alloc_new _ _) Tryd.underlying75 rfl size_span
  | 2, _, w => by
    go_enter Tryd.func47, Tryd.ntmps47
    go_wp2_with fail
    refine bodyPost_ret (v := spV (spanO n 2)) ?_ rfl ⟨rfl, (Below.refl _ _).alloc (Nat.le_refl _) _⟩
    exact results_cell_row (ty := 75) (p := 4) (by kernel_rfl) _ _ w.heap.size 75 _ (0, 0) _ rfl (heap_alloc_new _ _) Tryd.underlying75 rfl size_span
  | 3, _, w => by
    go_enter Tryd.func47, Tryd.ntmps47
    go_wp2_with fail
    refine bodyPost_ret (v := spV (spanO n 3)) ?_ rfl ⟨rfl, (Below.refl _ _).alloc (Nat.le_refl _) _⟩
    exact results_cell_row (ty := 75) (p := 4) (by kernel_rfl) _ _ w.heap.size 75 _ (0, 0) _ rfl (heap_alloc_new _ _) Tryd.underlying75 rfl size_span
  | 4, _, w => by
    go_enter Tryd.func47, Tryd.ntmps47
    go_wp2_with fail
    refine bodyPost_ret (v := spV (spanO n 4)) ?_ rfl ⟨rfl, (Below.refl _ _).alloc (Nat.le_refl _) _⟩
    exact results_cell_row (ty := 75) (p := 4) (by kernel_rfl) _ _ w.heap.size 75 _ (0, 0) _ rfl (heap_alloc_new _ _) Tryd.underlying75 rfl size_span
  | 5, _, w => by
    go_enter Tryd.func47, Tryd.ntmps47
    go_wp2_with fail
    refine bodyPost_ret (v := spV (spanO n 5)) ?_ rfl ⟨rfl, (Below.refl _ _).alloc (Nat.le_refl _) _⟩
    exact results_cell_row (ty := 75) (p := 4) (by kernel_rfl) _ _ w.heap.size 75 _ (0, 0) _ rfl (heap_alloc_new _ _) Tryd.underlying75 rfl size_span
  | 6, _, w => by
    go_enter Tryd.func47, Tryd.ntmps47
    go_wp2_with fail
    refine bodyPost_ret (v := spV (spanO n 6)) ?_ rfl ⟨rfl, (Below.refl _ _).alloc (Nat.le_refl _) _⟩
    exact results_cell_row (ty := 75) (p := 4) (by kernel_rfl) _ _ w.heap.size 75 _ (0, 0) _ rfl (heap_alloc_new _ _) Tryd.underlying75 rfl size_span
  | 7, _, w => by
    go_enter Tryd.func47, Tryd.ntmps47
    go_wp2_with fail
    refine bodyPost_ret (v := spV (spanO n 7)) ?_ rfl ⟨rfl, (Below.refl _ _).alloc (Nat.le_refl _) _⟩
    exact results_cell_row (ty := 75) (p := 4) (by kernel_rfl) _ _ w.heap.size 75 _ (0, 0) _ rfl (heap_alloc_new _ _) Tryd.underlying75 rfl size_span
  | 8, _, w => by
    go_enter Tryd.func47, Tryd.ntmps47
    go_wp2_with fail
    refine bodyPost_ret (v := spV (spanO n 8)) ?_ rfl ⟨rfl, (Below.refl _ _).alloc (Nat.le_refl _) _⟩
    exact results_cell_row (ty := 75) (p := 4) (by kernel_rfl) _ _ w.heap.size 75 _ (0, 0) _ rfl (heap_alloc_new _ _) Tryd.underlying75 rfl size_span
  | 9, _, w => by
    go_enter Tryd.func47, Tryd.ntmps47
    go_wp2_with fail
    refine bodyPost_ret (v := spV (spanO n 9)) ?_ rfl ⟨rfl, (Below.refl _ _).alloc (Nat.le_refl _) _⟩
    exact results_cell_row (ty := 75) (p := 4) (by kernel_rfl) _ _ w.heap.size 75 _ (0, 0) _ rfl (heap_alloc_new _ _) Tryd.underlying75 rfl size_span
  | 10, _, w => by
    go_enter Tryd.func47, Tryd.ntmps47
    go_wp2_with fail
    refine bodyPost_ret (v := spV (spanO n 10)) ?_ rfl ⟨rfl, (Below.refl _ _).alloc (Nat.le_refl _) _⟩
    exact results_cell_row (ty := 75) (p := 4) (by kernel_rfl) _ _ w.heap.size 75 _ (0, 0) _ rfl (heap_alloc_new _ _) Tryd.underlying75 rfl size_span
  | 11, _, w => by
    go_enter Tryd.func47, Tryd.ntmps47
    go_wp2_with fail
    refine bodyPost_ret (v := spV (spanO n 11)) ?_ rfl ⟨rfl, (Below.refl _ _).alloc (Nat.le_refl _) _⟩
    exact results_cell_row (ty := 75) (p := 4) (by kernel_rfl) _ _ w.heap.size 75 _ (0, 0) _ rfl (heap_alloc_new _ _) Tryd.underlying75 rfl size_span
  | 12, _, w => by
    go_enter Tryd.func47, Tryd.ntmps47
    go_wp2_with fail
    refine bodyPost_ret (v := spV (spanO n 12)) ?_ rfl ⟨rfl, (Below.refl _ _).alloc (Nat.le_refl _) _⟩
    exact results_cell_row (ty := 75) (p := 4) (by kernel_rfl) _ _ w.heap.size 75 _ (0, 0) _ rfl (heap_alloc_new _ _) Tryd.underlying75 rfl size_span
  | 13, _, w => by
    go_enter Tryd.func47, Tryd.ntmps47
    go_wp2_with fail
    refine bodyPost_ret (v := spV (spanO n 13)) ?_ rfl ⟨rfl, (Below.refl _ _).alloc (Nat.le_refl _) _⟩
    exact results_cell_row (ty := 75) (p := 4) (by kernel_rfl) _ _ w.heap.size 75 _ (0, 0) _ rfl (heap_alloc_new _ _) Tryd.underlying75 rfl size_span
  | 14, _, w => by
    go_enter Tryd.func47, Tryd.ntmps47
    go_wp2_with fail
    refine bodyPost_ret (v := spV (spanO n 14)) ?_ rfl ⟨rfl, (Below.refl _ _).alloc (Nat.le_refl _) _⟩
    exact results_cell_row (ty := 75) (p := 4) (by kernel_rfl) _ _ w.heap.size 75 _ (0, 0) _ rfl (heap_alloc_new _ _) Tryd.underlying75 rfl size_span
  | 15, _, w => by
    go_enter Tryd.func47, Tryd.ntmps47
    go_wp2_with fail
    refine bodyPost_ret (v := spV (spanO n 15)) ?_ rfl ⟨rfl, (Below.refl _ _).alloc (Nat.le_refl _) _⟩
    exact results_cell_row (ty := 75) (p := 4) (by kernel_rfl) _ _ w.heap.size 75 _ (0, 0) _ rfl (heap_alloc_new _ _) Tryd.underlying75 rfl size_span
  | 16, _, w => by
    go_enter Tryd.func47, Tryd.ntmps47
    go_wp2_with fail
    refine bodyPost_ret (v := spV (spanO n 16)) ?_ rfl ⟨rfl, (Below.refl _ _).alloc (Nat.le_refl _) _⟩
    exact results_cell_row (ty := 75) (p := 4) (by kernel_rfl) _ _ w.heap.size 75 _ (0, 0) _ rfl (heap_alloc_new _ _) Tryd.underlying75 rfl size_span
  | 17, _, w => by
    go_enter Tryd.func47, Tryd.ntmps47
    go_wp2_with fail
    refine bodyPost_ret (v := spV (spanO n 17)) ?_ rfl ⟨rfl, (Below.refl _ _).alloc (Nat.le_refl _) _⟩
    exact results_cell_row (ty := 75) (p := 4) (by kernel_rfl) _ _ w.heap.size 75 _ (0, 0) _ rfl (heap_alloc_new _ _) Tryd.underlying75 rfl size_span
  | _ + 18, h, _ => absurd h (by omega)
theorem pl_span : ∀ k, k < 9 → ∀ w, Calls Tryd.prog 49 #[.int .i64 ((k : Nat) : Int)] w fun e w' => e = .returned (spV (spanP k)) ∧ Below w.heap.size w w'
  | 0, _, w => by
    go_enter Tryd.func49, Tryd.ntmps49
    go_wp2_with fail
    refine bodyPost_ret (v := spV (spanP 0)) ?_ rfl ⟨rfl, (Below.refl _ _).alloc (Nat.le_refl _) _⟩
    exact results_cell_row (ty := 75) (p := 2) (by kernel_rfl) _ _ w.heap.size 75 _ (0, 0) _ rfl (heap_alloc_new _ _) Tryd.underlying75 rfl size_span
  | 1, _, w => by
    go_enter Tryd.func49, Tryd.ntmps49
    go_wp2_with fail
    refine bodyPost_ret (v := spV (spanP 1)) ?_ rfl ⟨rfl, (Below.refl _ _).alloc (Nat.le_refl _) _⟩
    exact results_cell_row (ty := 75) (p := 2) (by kernel_rfl) _ _ w.heap.size 75 _ (0, 0) _ rfl (heap_alloc_new _ _) Tryd.underlying75 rfl size_span
  | 2, _, w => by
    go_enter Tryd.func49, Tryd.ntmps49
    go_wp2_with fail
    refine bodyPost_ret (v := spV (spanP 2)) ?_ rfl ⟨rfl, (Below.refl _ _).alloc (Nat.le_refl _) _⟩
    exact results_cell_row (ty := 75) (p := 2) (by kernel_rfl) _ _ w.heap.size 75 _ (0, 0) _ rfl (heap_alloc_new _ _) Tryd.underlying75 rfl size_span
  | 3, _, w => by
    go_enter Tryd.func49, Tryd.ntmps49
    go_wp2_with fail
    refine bodyPost_ret (v := spV (spanP 3)) ?_ rfl ⟨rfl, (Below.refl _ _).alloc (Nat.le_refl _) _⟩
    exact results_cell_row (ty := 75) (p := 2) (by kernel_rfl) _ _ w.heap.size 75 _ (0, 0) _ rfl (heap_alloc_new _ _) Tryd.underlying75 rfl size_span
  | 4, _, w => by
    go_enter Tryd.func49, Tryd.ntmps49
    go_wp2_with fail
    refine bodyPost_ret (v := spV (spanP 4)) ?_ rfl ⟨rfl, (Below.refl _ _).alloc (Nat.le_refl _) _⟩
    exact results_cell_row (ty := 75) (p := 2) (by kernel_rfl) _ _ w.heap.size 75 _ (0, 0) _ rfl (heap_alloc_new _ _) Tryd.underlying75 rfl size_span
  | 5, _, w => by
    go_enter Tryd.func49, Tryd.ntmps49
    go_wp2_with fail
    refine bodyPost_ret (v := spV (spanP 5)) ?_ rfl ⟨rfl, (Below.refl _ _).alloc (Nat.le_refl _) _⟩
    exact results_cell_row (ty := 75) (p := 2) (by kernel_rfl) _ _ w.heap.size 75 _ (0, 0) _ rfl (heap_alloc_new _ _) Tryd.underlying75 rfl size_span
  | 6, _, w => by
    go_enter Tryd.func49, Tryd.ntmps49
    go_wp2_with fail
    refine bodyPost_ret (v := spV (spanP 6)) ?_ rfl ⟨rfl, (Below.refl _ _).alloc (Nat.le_refl _) _⟩
    exact results_cell_row (ty := 75) (p := 2) (by kernel_rfl) _ _ w.heap.size 75 _ (0, 0) _ rfl (heap_alloc_new _ _) Tryd.underlying75 rfl size_span
  | 7, _, w => by
    go_enter Tryd.func49, Tryd.ntmps49
    go_wp2_with fail
    refine bodyPost_ret (v := spV (spanP 7)) ?_ rfl ⟨rfl, (Below.refl _ _).alloc (Nat.le_refl _) _⟩
    exact results_cell_row (ty := 75) (p := 2) (by kernel_rfl) _ _ w.heap.size 75 _ (0, 0) _ rfl (heap_alloc_new _ _) Tryd.underlying75 rfl size_span
  | 8, _, w => by
    go_enter Tryd.func49, Tryd.ntmps49
    go_wp2_with fail
    refine bodyPost_ret (v := spV (spanP 8)) ?_ rfl ⟨rfl, (Below.refl _ _).alloc (Nat.le_refl _) _⟩
    exact results_cell_row (ty := 75) (p := 2) (by kernel_rfl) _ _ w.heap.size 75 _ (0, 0) _ rfl (heap_alloc_new _ _) Tryd.underlying75 rfl size_span
  | _ + 9, h, _ => absurd h (by omega)
theorem gm_span : ∀ k, k < 7 → ∀ w, Calls Tryd.prog 50 #[.int .i64 ((k : Nat) : Int)] w fun e w' => e = .returned (spV (spanG k)) ∧ Below w.heap.size w w'
  | 0, _, w => by
    go_enter Tryd.func50, Tryd.ntmps50
    go_wp2_with fail
    refine bodyPost_ret (v := spV (spanG 0)) ?_ rfl ⟨rfl, (Below.refl _ _).alloc (Nat.le_refl _) _⟩
    exact results_cell_row (ty := 75) (p := 2) (by kernel_rfl) _ _ w.heap.size 75 _ (0, 0) _ rfl (heap_alloc_new _ _) Tryd.underlying75 rfl size_span
  | 1, _, w => by
    go_enter Tryd.func50, Tryd.ntmps50
    go_wp2_with fail
    refine bodyPost_ret (v := spV (spanG 1)) ?_ rfl ⟨rfl, (Below.refl _ _).alloc (Nat.le_refl _) _⟩
    exact results_cell_row (ty := 75) (p := 2) (by kernel_rfl) _ _ w.heap.size 75 _ (0, 0) _ rfl (heap_alloc_new _ _) Tryd.underlying75 rfl size_span
  | 2, _, w => by
    go_enter Tryd.func50, Tryd.ntmps50
    go_wp2_with fail
    refine bodyPost_ret (v := spV (spanG 2)) ?_ rfl ⟨rfl, (Below.refl _ _).alloc (Nat.le_refl _) _⟩
    exact results_cell_row (ty := 75) (p := 2) (by kernel_rfl) _ _ w.heap.size 75 _ (0, 0) _ rfl (heap_alloc_new _ _) Tryd.underlying75 rfl size_span
  | 3, _, w => by
    go_enter Tryd.func50, Tryd.ntmps50
    go_wp2_with fail
    refine bodyPost_ret (v := spV (spanG 3)) ?_ rfl ⟨rfl, (Below.refl _ _).alloc (Nat.le_refl _) _⟩
    exact results_cell_row (ty := 75) (p := 2) (by kernel_rfl) _ _ w.heap.size 75 _ (0, 0) _ rfl (heap_alloc_new _ _) Tryd.underlying75 rfl size_span
  | 4, _, w => by
    go_enter Tryd.func50, Tryd.ntmps50
    go_wp2_with fail
    refine bodyPost_ret (v := spV (spanG 4)) ?_ rfl ⟨rfl, (Below.refl _ _).alloc (Nat.le_refl _) _⟩
    exact results_cell_row (ty := 75) (p := 2) (by kernel_rfl) _ _ w.heap.size 75 _ (0, 0) _ rfl (heap_alloc_new _ _) Tryd.underlying75 rfl size_span
  | 5, _, w => by
    go_enter Tryd.func50, Tryd.ntmps50
    go_wp2_with fail
    refine bodyPost_ret (v := spV (spanG 5)) ?_ rfl ⟨rfl, (Below.refl _ _).alloc (Nat.le_refl _) _⟩
    exact results_cell_row (ty := 75) (p := 2) (by kernel_rfl) _ _ w.heap.size 75 _ (0, 0) _ rfl (heap_alloc_new _ _) Tryd.underlying75 rfl size_span
  | 6, _, w => by
    go_enter Tryd.func50, Tryd.ntmps50
    go_wp2_with fail
    refine bodyPost_ret (v := spV (spanG 6)) ?_ rfl ⟨rfl, (Below.refl _ _).alloc (Nat.le_refl _) _⟩
    exact results_cell_row (ty := 75) (p := 2) (by kernel_rfl) _ _ w.heap.size 75 _ (0, 0) _ rfl (heap_alloc_new _ _) Tryd.underlying75 rfl size_span
  | _ + 7, h, _ => absurd h (by omega)
/-- The first m numbers are within. -/
def fitsB (f : Nat → Int) (sp : Nat → Int × Int) (m : Nat) : Bool := (List.range m).all fun i => inR (f i) (sp i).1 (sp i).2
theorem fitsB_iff {f : Nat → Int} {sp : Nat → Int × Int} {m : Nat} : fitsB f sp m = true ↔ ∀ i, i < m → inR (f i) (sp i).1 (sp i).2 = true := by
  unfold fitsB; rw [List.all_eq_true]; exact ⟨fun h i hi => h i (List.mem_range.2 hi), fun h i hi => h i (List.mem_range.1 hi)⟩
theorem fitsB_bad {f : Nat → Int} {sp : Nat → Int × Int} {m i : Nat} (hi : i < m) (h : inR (f i) (sp i).1 (sp i).2 = false) : fitsB f sp m = false := by
  rw [Bool.eq_false_iff]; intro h2; have := fitsB_iff.1 h2 i hi; rw [h] at this; cases this
theorem range18 : List.range 18 = [0, 1, 2, 3, 4, 5, 6, 7, 8, 9, 10, 11, 12, 13, 14, 15, 16, 17] := rfl
theorem range9 : List.range 9 = [0, 1, 2, 3, 4, 5, 6, 7, 8] := rfl
theorem range7 : List.range 7 = [0, 1, 2, 3, 4, 5, 6] := rfl
theorem range6 : List.range 6 = [0, 1, 2, 3, 4, 5] := rfl
theorem objectB_is (o : Nat → Int) (n : Int) : objectB o n = fitsB o (spanO n) 18 := by
  rw [Bool.eq_iff_iff]
  simp only [objectB, fitsB, range18, List.all_cons, List.all_nil, Bool.and_true, Bool.and_eq_true, spanO]
  constructor
  · intro h; simp only [h, and_self]
  · intro h; simp only [h, and_self]
end Go.Proofs.YtmhabodijmnldaaDoor
namespace Go.Proofs.YtmhabodijmnldaaDoor
open Go.RowKit Ex
attribute [local go_sem] arr_get
set_option maxRecDepth 100000
theorem playB_is (p : Nat → Int) : playB p = fitsB p spanP 9 := by
  rw [Bool.eq_iff_iff]
  simp only [playB, fitsB, range9, range6, List.all_cons, List.all_nil, Bool.and_true, Bool.and_eq_true, spanP]
  constructor
  · intro h; simp only [h, and_self]
  · intro h; simp only [h, and_self]
theorem gameB_is (g : Nat → Int) : gameB g = fitsB g spanG 7 := by
  rw [Bool.eq_iff_iff]
  simp only [gameB, fitsB, range7, List.all_cons, List.all_nil, Bool.and_true, Bool.and_eq_true, spanG]
  constructor
  · intro h; simp only [h, and_self]
  · intro h; simp only [h, and_self]
def UpTo (f : Nat → Int) (sp : Nat → Int × Int) (m : Nat) : Prop := ∀ i, i < m → inR (f i) (sp i).1 (sp i).2 = true
theorem UpTo.next {f : Nat → Int} {sp : Nat → Int × Int} {m : Nat} (h : UpTo f sp m) (hm : inR (f m) (sp m).1 (sp m).2 = true) : UpTo f sp (m + 1) := fun i hi => by
  by_cases e : i = m
  · subst e; exact hm
  · exact h i (by omega)
set_option maxHeartbeats 0 in
theorem numbers_code (s : StT) (O : SlT) (L : Nat → SlT) (cs : Array Value) (w : World) (B : Nat) (h : ReadsS B w cs s O L) (hB : B ≤ w.heap.size) (hn : s.objs.length ≤ 1000000) :
    Calls Tryd.prog 38 #[.agg cs] w fun e w' => e = .returned (.bool (rangesB s)) ∧ Below w.heap.size w w' := by
  obtain ⟨q, hq⟩ : ∃ q, q = rangesB s := ⟨_, rfl⟩
  rw [← hq]
  have HQ := Lib.hid hq
  clear hq
  go_enter Tryd.func38, Tryd.ntmps38
  have hcs := h.cs
  have c0 : cs[0]? = some (.slice O.A O.n O.c) := by rw [hcs]; exact stC_objs _ _ _ _
  have hOn := h.on
  have hOc := h.oc
  have hO := h.o
  have hsz : (Tryd.prog.info? 29).map (·.size) = some cs.size := by rw [h.size]; exact size37
  have H := Lib.hid h
  clear h
  obtain ⟨A, n, c⟩ := O
  simp only at c0 hOn hOc hO
  have HC := Lib.hid hcs
  clear hcs
  subst hOn
  go_upto_region 1 with fail
  have hs0 : StAt (w.alloc (.cells cs 29)) w.heap.size cs := StAt.new _ _
  have hb0 : Below w.heap.size w (w.alloc (.cells cs 29)) := (Below.refl _ _).alloc (Nat.le_refl _) _
  obtain ⟨w1, hw1⟩ : ∃ w1, w1 = w.alloc (.cells cs 29) := ⟨_, rfl⟩
  rw [← hw1] at hs0 hb0 ⊢
  clear hw1
  have c1 := (hs0.cell 0).trans c0
  go_upto_region 2 with fail
  go_loopw [16] (fun i wr => ∃ k : Nat, i = .int .i64 ((k : Nat) : Int) ∧ k ≤ s.objs.length ∧ GoodO s k ∧ Below w.heap.size w wr ∧ StAt wr w.heap.size cs) (fun i _ => s.objs.length - (intOf i).toNat)
  case atStart => exact ⟨0, rfl, by omega, fun j hj hk => absurd hk (by omega), hb0, hs0⟩
  case round =>
    clear hb0 hs0 c1
    obtain ⟨k, rfl, hk, hgood, hbr, hsr⟩ := hrel
    by_cases hlt : k < s.objs.length
    · have hlk := hlt
      obtain ⟨b, off, rfl, hbB, hra⟩ := hO.at_ hlt
      have hra := range_below hbr (by omega) hra
      obtain ⟨x, hx⟩ : ∃ x, x = s.objs[k] := ⟨_, rfl⟩
      rw [← hx] at hra
      have HX := Lib.hid hx
      clear hx
      have hz := st_zero18
      have hnew : (wr.alloc (.cells (arr .i64 18 fun _ => 0) 49)).heap[wr.heap.size]? = some (.cells (arr .i64 18 fun _ => 0) 49 (0, 0)) := heap_alloc_new _ _
      have hsx : (Tryd.prog.info? 49).map (·.size) = some (arr .i64 18 x).size := by rw [arr_size]; exact st_size18
      go_upto_region 4 with (first
        | (refine load_obj rfl (.tmp 18) rfl b (off + k * 18) rfl x hra ?_)
        | (refine wpList_store_row rfl 49 (.tmp 4) (.tmp 19) rfl wr.heap.size _ rfl rfl 49 (arr .i64 18 fun _ => 0) hnew hsx (by rw [arr_size, arr_size]) (arr_one .i64 18 x) ?_))
      obtain ⟨wn, hwn, hEn, hbn⟩ := ob_box wr x
      rw [← hwn]
      have hbrn := keepB hbn hbr
      clear hwn hnew hra hz
      have xs : ∀ i < 18, wn.cell? ⟨wr.heap.size, i, none⟩ = some (.int .i64 (x i)) := fun i hi => by
        have h := cell_of_row wn wr.heap.size i _ _ _ hEn
        rw [arr_get .i64 18 x hi] at h
        exact h
      clear xs
      have hsn := hsr.keep hbn
      go_upto_region 5 with (refine wpList_load_row rfl 49 (.tmp 4) rfl wr.heap.size rfl 49 _ (0, 0) _ hEn Tryd.underlying49 rfl hsx ?_)
      have hu0 : UpTo x (spanO (s.objs.length : Nat)) 0 := fun i hi => absurd hi (by omega)
      go_loopw [21] (fun i wq => ∃ m : Nat, i = .int .i64 ((m : Nat) : Int) ∧ m ≤ 18 ∧ UpTo x (spanO (s.objs.length : Nat)) m ∧ Below w.heap.size w wq ∧ StAt wq w.heap.size cs) (fun i _ => 18 - (intOf i).toNat)
      case atStart => exact ⟨0, rfl, by omega, hu0, hbrn, hsn⟩
      case round =>
        clear hu0 hbrn hsn hbn hEn hbr hsr
        obtain ⟨m, rfl, hm, hup, hbr, hsr⟩ := hrel
        by_cases hm8 : m < 18
        · have hd : decide ((m : Int) < 18) = true := by simp; omega
          have hix := index_obj x m hm8
          have c2 := (hsr.cell 0).trans c0
          have hq1 := obj_span (s.objs.length : Nat) m hm8
          obtain ⟨sp, hsp⟩ : ∃ sp, sp = spanO (s.objs.length : Nat) m := ⟨_, rfl⟩
          rw [← hsp] at hq1
          have HS := Lib.hid hsp
          clear hsp
          obtain ⟨y, hy⟩ : ∃ y, y = x m := ⟨_, rfl⟩
          rw [← hy] at hix
          have HY := Lib.hid hy
          clear hy
          go_wp2_with fail
          refine (hq1 _).mono ?_
          rintro e w4 ⟨rfl, hb4⟩
          clear hq1 hix
          have hbr4 := keepB hb4 hbr
          have hs4 := hsr.keep hb4
          go_wp2_with fail
          refine (has_span sp.1 sp.2 y _).mono ?_
          rintro e w5 ⟨rfl, hb5⟩
          have hbr5 := keepB hb5 hbr4
          have hs5 := hs4.keep hb5
          clear c2 hb4 hbr4 hs4 hb5
          by_cases hin : inR y sp.1 sp.2 = true
          · have hup2 := hup.next (by rw [← HY.out, ← HS.out]; exact hin)
            go_wp2_with fail
            go_roundw
            case rel => exact ⟨m + 1, by go_num, by omega, hup2, hbr5, hs5⟩
            case measure => simp [intOf]; omega
          · have hin : inR y sp.1 sp.2 = false := by simpa using hin
            have hf := rangesB_obj hlt (by rw [objectB_is, ← HX.out]; exact fitsB_bad hm8 (by rw [← HY.out, ← HS.out]; exact hin))
            obtain rfl := HQ.out.trans hf
            clear hf
            go_wp2_with fail
            go_ret
            exact ⟨rfl, hbr5⟩
        · obtain rfl : m = 18 := by omega
          have hgood2 : GoodO s (k + 1) := fun j hj hjk => by
            by_cases e : j = k
            · subst e; rw [← HX.out, objectB_is]; exact fitsB_iff.2 hup
            · exact hgood j hj (by omega)
          go_wp2_with fail
          go_roundw
          case rel => exact ⟨k + 1, by go_num, by omega, hgood2, hbr, hsr⟩
          case measure => simp [intOf]; omega
    · obtain rfl : k = s.objs.length := by omega
      have hobj := objs_all fun j hj => hgood j hj hj
      clear hgood
      obtain ⟨p, hp⟩ : ∃ p, p = s.pl := ⟨_, rfl⟩
      have hra := hsr
      rw [HC.out] at hra
      have hra := hra.two
      rw [← hp] at hra
      have HP := Lib.hid hp
      clear hp
      go_upto_region 12 with (refine load_two rfl (.tmp 35) rfl w.heap.size 12 rfl p hra ?_)
      clear hra
      have hq0 : GoodP s 0 := fun m hm => absurd hm (by omega)
      go_loopw [37] (fun i wr2 => ∃ j : Nat, i = .int .i64 ((j : Nat) : Int) ∧ j ≤ 2 ∧ GoodP s j ∧ Below w.heap.size w wr2 ∧ StAt wr2 w.heap.size cs) (fun i _ => 2 - (intOf i).toNat)
      case atStart => exact ⟨0, rfl, by omega, hq0, hbr, hsr⟩
      case round =>
        clear hq0 hsr hbr
        obtain ⟨j, rfl, hj, hgp, hbr, hsr⟩ := hrel
        by_cases hlt : j < 2
        · have hd2 : decide ((j : Int) < 2) = true := by simp; omega
          have hix := index_two p j hlt
          obtain ⟨f, hf⟩ : ∃ f : Nat → Int, f = fun i => p (j * 9 + i) := ⟨_, rfl⟩
          rw [← hf] at hix
          have HF := Lib.hid hf
          clear hf
          have hz := st_zero9
          have hnew : (wr.alloc (.cells (arr .i64 9 fun _ => 0) 25)).heap[wr.heap.size]? = some (.cells (arr .i64 9 fun _ => 0) 25 (0, 0)) := heap_alloc_new _ _
          have hsx : (Tryd.prog.info? 25).map (·.size) = some (arr .i64 9 f).size := by rw [arr_size]; exact st_size9
          go_upto_region 14 with (refine wpList_store_row rfl 25 (.tmp 8) (.tmp 39) rfl wr.heap.size _ rfl rfl 25 (arr .i64 9 fun _ => 0) hnew hsx (by rw [arr_size, arr_size]) (arr_one .i64 9 f) ?_)
          clear hix
          obtain ⟨wn, hwn, hEn, hbn⟩ := arr_box 9 25 wr f
          rw [← hwn]
          have hbrn := keepB hbn hbr
          have hsn := hsr.keep hbn
          clear hwn hnew hz
          go_upto_region 15 with (refine wpList_load_row rfl 25 (.tmp 8) rfl wr.heap.size rfl 25 _ (0, 0) _ hEn Tryd.underlying25 rfl hsx ?_)
          have hu0 : UpTo f spanP 0 := fun i hi => absurd hi (by omega)
          go_loopw [41] (fun i wq => ∃ m : Nat, i = .int .i64 ((m : Nat) : Int) ∧ m ≤ 9 ∧ UpTo f spanP m ∧ Below w.heap.size w wq ∧ StAt wq w.heap.size cs) (fun i _ => 9 - (intOf i).toNat)
          case atStart => exact ⟨0, rfl, by omega, hu0, hbrn, hsn⟩
          case round =>
            clear hu0 hbrn hsn hbn hEn hbr hsr
            obtain ⟨m, rfl, hm, hup, hbr, hsr⟩ := hrel
            by_cases hm8 : m < 9
            · have hd : decide ((m : Int) < 9) = true := by simp; omega
              have hix := index_nine f m hm8
              have hq1 := pl_span m hm8
              obtain ⟨sp, hsp⟩ : ∃ sp, sp = spanP m := ⟨_, rfl⟩
              rw [← hsp] at hq1
              have HS := Lib.hid hsp
              clear hsp
              obtain ⟨y, hy⟩ : ∃ y, y = f m := ⟨_, rfl⟩
              rw [← hy] at hix
              have HY := Lib.hid hy
              clear hy
              go_wp2_with fail
              refine (hq1 _).mono ?_
              rintro e w4 ⟨rfl, hb4⟩
              clear hq1 hix
              have hbr4 := keepB hb4 hbr
              have hs4 := hsr.keep hb4
              go_wp2_with fail
              refine (has_span sp.1 sp.2 y _).mono ?_
              rintro e w5 ⟨rfl, hb5⟩
              have hbr5 := keepB hb5 hbr4
              have hs5 := hs4.keep hb5
              clear hb4 hbr4 hs4 hb5
              by_cases hin : inR y sp.1 sp.2 = true
              · have hup2 := hup.next (by rw [← HY.out, ← HS.out]; exact hin)
                go_wp2_with fail
                go_roundw
                case rel => exact ⟨m + 1, by go_num, by omega, hup2, hbr5, hs5⟩
                case measure => simp [intOf]; omega
              · have hin : inR y sp.1 sp.2 = false := by simpa using hin
                have hf : rangesB s = false := rangesB_pl hlt (by
                  unfold plB
                  rw [← HP.out, ← HF.out, playB_is]
                  exact fitsB_bad hm8 (by rw [← HY.out, ← HS.out]; exact hin))
                obtain rfl := HQ.out.trans hf
                clear hf
                go_wp2_with fail
                go_ret
                exact ⟨rfl, hbr5⟩
            · obtain rfl : m = 9 := by omega
              have hgp2 : GoodP s (j + 1) := fun m hm => by
                by_cases e : m = j
                · subst e; unfold plB; rw [← HP.out, ← HF.out, playB_is]; exact fitsB_iff.2 hup
                · exact hgp m (by omega)
              go_wp2_with fail
              go_roundw
              case rel => exact ⟨j + 1, by go_num, by omega, hgp2, hbr, hsr⟩
              case measure => simp [intOf]; omega
        · obtain rfl : j = 2 := by omega
          have hp0 := hgp 0 (by omega)
          have hp1 := hgp 1 (by omega)
          obtain ⟨f, hf⟩ : ∃ f : Nat → Int, f = s.gm := ⟨_, rfl⟩
          have hra := hsr
          rw [HC.out] at hra
          have hra := hra.gm
          rw [← hf] at hra
          have HF : rangesB s = gameB f := by rw [hf]; simp only [rangesB, hobj, hp0, hp1, Bool.true_and]
          have HF := Lib.hid HF
          clear hf hp0 hp1 hgp hobj
          go_upto_region 22 with (refine load_seven rfl (.tmp 52) rfl w.heap.size 30 rfl f hra ?_)
          clear hra
          have hu0 : UpTo f spanG 0 := fun i hi => absurd hi (by omega)
          go_loopw [54] (fun i wq => ∃ m : Nat, i = .int .i64 ((m : Nat) : Int) ∧ m ≤ 7 ∧ UpTo f spanG m ∧ Below w.heap.size w wq) (fun i _ => 7 - (intOf i).toNat)
          case atStart => exact ⟨0, rfl, by omega, hu0, hbr⟩
          case round =>
            clear hu0 hbr hsr
            obtain ⟨m, rfl, hm, hup, hbr⟩ := hrel
            by_cases hm8 : m < 7
            · have hd : decide ((m : Int) < 7) = true := by simp; omega
              have hix := index_seven f m hm8
              have hq1 := gm_span m hm8
              obtain ⟨sp, hsp⟩ : ∃ sp, sp = spanG m := ⟨_, rfl⟩
              rw [← hsp] at hq1
              have HS := Lib.hid hsp
              clear hsp
              obtain ⟨y, hy⟩ : ∃ y, y = f m := ⟨_, rfl⟩
              rw [← hy] at hix
              have HY := Lib.hid hy
              clear hy
              go_wp2_with fail
              refine (hq1 _).mono ?_
              rintro e w4 ⟨rfl, hb4⟩
              clear hq1 hix
              have hbr4 := keepB hb4 hbr
              go_wp2_with fail
              refine (has_span sp.1 sp.2 y _).mono ?_
              rintro e w5 ⟨rfl, hb5⟩
              have hbr5 := keepB hb5 hbr4
              clear hb4 hbr4 hb5
              by_cases hin : inR y sp.1 sp.2 = true
              · have hup2 := hup.next (by rw [← HY.out, ← HS.out]; exact hin)
                go_wp2_with fail
                go_roundw
                case rel => exact ⟨m + 1, by go_num, by omega, hup2, hbr5⟩
                case measure => simp [intOf]; omega
              · have hin : inR y sp.1 sp.2 = false := by simpa using hin
                have hf : rangesB s = false := HF.out.trans (by
                  rw [gameB_is]
                  exact fitsB_bad hm8 (by rw [← HY.out, ← HS.out]; exact hin))
                obtain rfl := HQ.out.trans hf
                clear hf
                go_wp2_with fail
                go_ret
                exact ⟨rfl, hbr5⟩
            · obtain rfl : m = 7 := by omega
              have hf : rangesB s = true := HF.out.trans (by rw [gameB_is]; exact fitsB_iff.2 hup)
              obtain rfl := HQ.out.trans hf
              clear hf
              go_wp2_with fail
              go_ret
              exact ⟨rfl, hbr⟩
end Go.Proofs.YtmhabodijmnldaaDoor
namespace Go.Proofs.YtmhabodijmnldaaDoor
open Go.RowKit Ex
attribute [local go_sem] arr_get
set_option maxRecDepth 100000
/-- May an object stand in list y? -/
def mayB (o : Nat → Int) (y : Nat) : Bool := o 3 == (y : Int) && if y < 8 then o 1 == (y : Int) % 2 && o 13 == 0 else y != 8 || o 13 != 2
theorem mayStand_any (o : Nat → Int) (y : Nat) (hy : y < 11) (w : World) : Calls Tryd.prog 51 #[.agg (arr .i64 18 o), .int .i64 (y : Int)] w fun e w' => e = .returned (.bool (mayB o y)) ∧ Below w.heap.size w w' := by
  obtain ⟨q, hq⟩ : ∃ q, q = mayB o y := ⟨_, rfl⟩
  rw [← hq]
  have HQ := Lib.hid hq
  clear hq
  have hc := isOwned_any (y : Int)
  go_enter Tryd.func51, Tryd.ntmps51
  by_cases e3 : o 3 = (y : Int)
  case neg =>
    have d3 : (o 3 != (y : Int)) = true := by simpa using e3
    have hf : mayB o y = false := by simp [mayB, e3]
    clear hc
    obtain rfl := HQ.out.trans hf
    clear hf
    go_wp2_with fail
    go_ret
    exact ⟨rfl, (Below.refl _ _).alloc (Nat.le_refl _) _⟩
  have d3 : (o 3 != (y : Int)) = false := by simp [e3]
  by_cases h8 : y < 8
  · rw [show (decide (0 ≤ (y : Int)) && decide ((y : Int) < 8)) = true by simp; omega] at hc
    go_wp2_with fail
    refine (hc _).mono ?_
    rintro e w2 ⟨rfl, rfl⟩
    clear hc
    by_cases e1 : o 1 = (y : Int) % 2
    · have d1 : (o 1 == (y : Int) % 2) = true := by simpa using e1
      by_cases e13 : o 13 = 0
      · have d13 : (o 13 == 0) = true := by simpa using e13
        have hf : mayB o y = true := by simp [mayB, e3, h8, e1, e13]
        clear e3 e1 e13
        obtain rfl := HQ.out.trans hf
        clear hf
        go_wp2_with fail
        go_ret
        exact ⟨rfl, (Below.refl _ _).alloc (Nat.le_refl _) _⟩
      · have d13 : (o 13 == 0) = false := by simpa using e13
        have hf : mayB o y = false := by simp [mayB, e3, h8, e1, e13]
        clear e3 e1 e13
        obtain rfl := HQ.out.trans hf
        clear hf
        go_wp2_with fail
        go_ret
        exact ⟨rfl, (Below.refl _ _).alloc (Nat.le_refl _) _⟩
    · have d1 : (o 1 == (y : Int) % 2) = false := by simpa using e1
      have hf : mayB o y = false := by simp [mayB, e3, h8, e1]
      clear e3 e1
      obtain rfl := HQ.out.trans hf
      clear hf
      go_wp2_with fail
      go_ret
      exact ⟨rfl, (Below.refl _ _).alloc (Nat.le_refl _) _⟩
  · rw [show (decide (0 ≤ (y : Int)) && decide ((y : Int) < 8)) = false by simp; omega] at hc
    go_wp2_with fail
    refine (hc _).mono ?_
    rintro e w2 ⟨rfl, rfl⟩
    clear hc
    by_cases ey : y = 8
    · subst ey
      by_cases e13 : o 13 = 2
      · have d13 : (o 13 != 2) = false := by simp [e13]
        have hf : mayB o 8 = false := by simp [mayB, e13]
        clear e3 e13
        obtain rfl := HQ.out.trans hf
        clear hf
        go_wp2_with fail
        go_ret
        exact ⟨rfl, (Below.refl _ _).alloc (Nat.le_refl _) _⟩
      · have d13 : (o 13 != 2) = true := by simpa using e13
        have hf : mayB o 8 = true := by simp [mayB, e3, e13]
        clear e3 e13
        obtain rfl := HQ.out.trans hf
        clear hf
        go_wp2_with fail
        go_ret
        exact ⟨rfl, (Below.refl _ _).alloc (Nat.le_refl _) _⟩
    · have d8 : ((y : Int) != 8) = true := by simp; omega
      have hf : mayB o y = true := by simp [mayB, e3, h8, ey]
      clear e3
      obtain rfl := HQ.out.trans hf
      clear hf
      go_wp2_with fail
      go_ret
      exact ⟨rfl, (Below.refl _ _).alloc (Nat.le_refl _) _⟩
/-- The table of the fields that only what is on the field may have. -/
def fieldF (i : Nat) : Int := ((4 + i : Nat) : Int)
def TabF (z : World) : Prop := ∃ t, z.heap[0]? = some (.cells (arr .i64 9 fieldF) t (0, 0))
theorem TabF.keep {z w : World} (h : TabF z) (hb : Below z.heap.size z w) : TabF w := by
  obtain ⟨t, ht⟩ := h
  exact ⟨t, (hb.block _ (Array.getElem?_eq_some_iff.1 ht).1).trans ht⟩
def ZeroK (o : Nat → Int) (k : Nat) : Prop := ∀ i, i < k → o (4 + i) = 0
theorem zeroB_good {o : Nat → Int} (h : ZeroK o 9) : zeroB o = true := by
  have h0 := h 0 (by omega); have h1 := h 1 (by omega); have h2 := h 2 (by omega); have h3 := h 3 (by omega); have h4 := h 4 (by omega)
  have h5 := h 5 (by omega); have h6 := h 6 (by omega); have h7 := h 7 (by omega); have h8 := h 8 (by omega)
  simp at h0 h1 h2 h3 h4 h5 h6 h7 h8
  simp [zeroB, h0, h1, h2, h3, h4, h5, h6, h7, h8]
theorem zeroB_bad {o : Nat → Int} {k : Nat} (hk : k < 9) (h : o (4 + k) ≠ 0) : zeroB o = false := by
  rw [Bool.eq_false_iff]; intro hz
  simp only [zeroB, Bool.and_eq_true, beq_iff_eq] at hz
  match k, hk with
  | 0, _ => exact h hz.1.1.1.1.1.1.1.1
  | 1, _ => exact h hz.1.1.1.1.1.1.1.2
  | 2, _ => exact h hz.1.1.1.1.1.1.2
  | 3, _ => exact h hz.1.1.1.1.1.2
  | 4, _ => exact h hz.1.1.1.1.2
  | 5, _ => exact h hz.1.1.1.2
  | 6, _ => exact h hz.1.1.2
  | 7, _ => exact h hz.1.2
  | 8, _ => exact h hz.2
set_option maxHeartbeats 0 in
theorem formFits_any {z : World} (T : TabF z) (o : Nat → Int) (w : World) (h0 : 0 ≤ o 3) (hz : Below z.heap.size z w) : Calls Tryd.prog 40 #[.agg (arr .i64 18 o)] w fun e w' => e = .returned (.bool (formedB o)) ∧ Below w.heap.size w w' := by
  obtain ⟨q, hq⟩ : ∃ q, q = formedB o := ⟨_, rfl⟩
  rw [← hq]
  have HQ := Lib.hid hq
  clear hq
  obtain ⟨t, hT⟩ := T.keep hz
  have hc := isOwned_any (o 3)
  have hsz : (Tryd.prog.info? 25).map (·.size) = some (arr .i64 9 fieldF).size := by rw [arr_size]; exact st_size9
  go_enter Tryd.func40, Tryd.ntmps40
  go_upto_region 1 with fail
  obtain ⟨w1, hw1⟩ : ∃ w1, w1 = w.alloc (.cells (arr .i64 18 o) 49) := ⟨_, rfl⟩
  have ha : ArrAt .i64 18 49 w1 w.heap.size o := by rw [hw1]; exact ArrAt.new w .i64 18 49 o
  have hb1 : Below w.heap.size w w1 := by rw [hw1]; exact (Below.refl _ _).alloc (Nat.le_refl _) _
  have hT1 : w1.heap[0]? = some (.cells (arr .i64 9 fieldF) t (0, 0)) := (hb1.block _ (Array.getElem?_eq_some_iff.1 hT).1).trans hT
  rw [← hw1]
  clear hw1 hT
  have x3 := ha.cell (i := 3) (by omega)
  have x16 := ha.cell (i := 16) (by omega)
  by_cases e9 : o 3 = 9
  · have d9 : (o 3 != 9) = false := by simp [e9]
    have d8 : (o 3 == 8) = false := by simp [e9]
    rw [show (decide (0 ≤ o 3) && decide (o 3 < 8)) = false by simp [e9], e9] at hc
    go_upto_region 7 with (refine wpList_load_row rfl 25 _ rfl 0 rfl t _ (0, 0) _ hT1 Tryd.underlying25 rfl hsz ?_)
    have e8 : ¬ o 3 = 8 := by omega
    have hk0 : ZeroK o 0 := fun i hi => absurd hi (by omega)
    go_loopw [18] (fun i wr => ∃ k : Nat, i = .int .i64 ((k : Nat) : Int) ∧ k ≤ 9 ∧ ZeroK o k ∧ wr = w1) (fun i _ => 9 - (intOf i).toNat)
    case atStart => exact ⟨0, rfl, by omega, hk0, rfl⟩
    case round =>
      clear hk0
      obtain ⟨k, rfl, hk, hk0, rfl⟩ := hrel
      by_cases hlt : k < 9
      · have hd : decide ((k : Int) < 9) = true := by simp; omega
        have hix := index_nine fieldF k hlt
        rw [show fieldF k = ((4 + k : Nat) : Int) from rfl] at hix
        have xk := ha.cell (i := 4 + k) (by omega)
        have b0 : (0 : Int) ≤ ((4 + k : Nat) : Int) := by omega
        have b1 : ((4 + k : Nat) : Int) < 18 := by omega
        obtain ⟨j, hj⟩ : ∃ j, j = 4 + k := ⟨_, rfl⟩
        rw [← hj] at hix xk b0 b1
        have HJ := Lib.hid hj
        clear hj
        by_cases e : o j = 0
        · have de : (o j != 0) = false := by simp [e]
          have hk2 : ZeroK o (k + 1) := fun i hi => by
            by_cases h : i = k
            · subst h; rw [← HJ.out]; exact e
            · exact hk0 i (by omega)
          clear e
          go_wp2_with fail
          go_roundw
          case rel => exact ⟨k + 1, by go_num, by omega, hk2, by trivial⟩
          case measure => simp [intOf]; omega
        · have de : (o j != 0) = true := by simpa using e
          have hzf := zeroB_bad hlt (HJ.out ▸ e)
          have hf : formedB o = false := by simp [formedB, hzf, e8]
          clear e hzf
          obtain rfl := HQ.out.trans hf
          clear hf
          go_wp2_with fail
          go_ret
          exact ⟨rfl, hb1⟩
      obtain rfl : k = 9 := by omega
      have hf : formedB o = true := by simp [formedB, zeroB_good hk0, e9]
      go_wp2_with fail
      refine (hc _).mono ?_
      rintro e w2 ⟨rfl, rfl⟩
      obtain rfl := HQ.out.trans hf
      clear hf
      go_wp2_with fail
      go_ret
      exact ⟨rfl, hb1⟩
  have d9 : (o 3 != 9) = true := by simpa using e9
  by_cases e16 : o 16 = 0
  case neg =>
    have d16 : (o 16 != 0) = true := by simpa using e16
    have hf : formedB o = false := by simp [formedB, e9, e16]
    obtain rfl := HQ.out.trans hf
    clear hf
    go_wp2_with fail
    go_ret
    exact ⟨rfl, hb1⟩
  have d16 : (o 16 != 0) = false := by simp [e16]
  by_cases e8 : o 3 = 8
  · have d8 : (o 3 == 8) = true := by simp [e8]
    have hf : formedB o = true := by simp [formedB, e8, e16]
    obtain rfl := HQ.out.trans hf
    clear hf
    go_wp2_with fail
    go_ret
    exact ⟨rfl, hb1⟩
  have d8 : (o 3 == 8) = false := by simpa using e8
  go_upto_region 7 with (refine wpList_load_row rfl 25 _ rfl 0 rfl t _ (0, 0) _ hT1 Tryd.underlying25 rfl hsz ?_)
  have hk0 : ZeroK o 0 := fun i hi => absurd hi (by omega)
  go_loopw [18] (fun i wr => ∃ k : Nat, i = .int .i64 ((k : Nat) : Int) ∧ k ≤ 9 ∧ ZeroK o k ∧ wr = w1) (fun i _ => 9 - (intOf i).toNat)
  case atStart => exact ⟨0, rfl, by omega, hk0, rfl⟩
  case round =>
    clear hk0
    obtain ⟨k, rfl, hk, hk0, rfl⟩ := hrel
    by_cases hlt : k < 9
    · have hd : decide ((k : Int) < 9) = true := by simp; omega
      have hix := index_nine fieldF k hlt
      rw [show fieldF k = ((4 + k : Nat) : Int) from rfl] at hix
      have xk := ha.cell (i := 4 + k) (by omega)
      have b0 : (0 : Int) ≤ ((4 + k : Nat) : Int) := by omega
      have b1 : ((4 + k : Nat) : Int) < 18 := by omega
      obtain ⟨j, hj⟩ : ∃ j, j = 4 + k := ⟨_, rfl⟩
      rw [← hj] at hix xk b0 b1
      have HJ := Lib.hid hj
      clear hj
      by_cases e : o j = 0
      · have de : (o j != 0) = false := by simp [e]
        have hk2 : ZeroK o (k + 1) := fun i hi => by
          by_cases h : i = k
          · subst h; rw [← HJ.out]; exact e
          · exact hk0 i (by omega)
        clear e
        go_wp2_with fail
        go_roundw
        case rel => exact ⟨k + 1, by go_num, by omega, hk2, by trivial⟩
        case measure => simp [intOf]; omega
      · have de : (o j != 0) = true := by simpa using e
        have hzf := zeroB_bad hlt (HJ.out ▸ e)
        have hf : formedB o = false := by simp [formedB, hzf, e8]
        clear e hzf
        obtain rfl := HQ.out.trans hf
        clear hf
        go_wp2_with fail
        go_ret
        exact ⟨rfl, hb1⟩
    obtain rfl : k = 9 := by omega
    have x2 := ha.cell (i := 2) (by omega)
    have x1 := ha.cell (i := 1) (by omega)
    by_cases l8 : o 3 < 8
    · rw [show (decide (0 ≤ o 3) && decide (o 3 < 8)) = true by simp [h0, l8]] at hc
      by_cases e21 : o 2 = o 1
      · have d21 : (o 2 == o 1) = true := by simpa using e21
        have hf : formedB o = true := by simp [formedB, zeroB_good hk0, e21, e16]
        clear e21 l8
        go_wp2_with fail
        refine (hc _).mono ?_
        rintro e w2 ⟨rfl, rfl⟩
        obtain rfl := HQ.out.trans hf
        clear hf
        go_wp2_with fail
        go_ret
        exact ⟨rfl, hb1⟩
      · have d21 : (o 2 == o 1) = false := by simpa using e21
        have hf : formedB o = false := by simp [formedB, l8, e21]
        clear e21 l8
        go_wp2_with fail
        refine (hc _).mono ?_
        rintro e w2 ⟨rfl, rfl⟩
        obtain rfl := HQ.out.trans hf
        clear hf
        go_wp2_with fail
        go_ret
        exact ⟨rfl, hb1⟩
    · rw [show (decide (0 ≤ o 3) && decide (o 3 < 8)) = false by simp [l8]] at hc
      have hf : formedB o = true := by simp [formedB, zeroB_good hk0, l8, e16]
      clear l8
      go_wp2_with fail
      refine (hc _).mono ?_
      rintro e w2 ⟨rfl, rfl⟩
      obtain rfl := HQ.out.trans hf
      clear hf
      go_wp2_with fail
      go_ret
      exact ⟨rfl, hb1⟩
end Go.Proofs.YtmhabodijmnldaaDoor
namespace Go.Proofs.YtmhabodijmnldaaDoor
open Go

/-- The parts of a composite type lie one behind the other, from o to e. -/
def tilesB (P : Program) : Nat → List (TypeId × Nat) → Nat → Bool
  | o, [], e => o == e
  | o, x :: r, e => x.2 == o && tilesB P (o + P.cellsOf x.1) r e
def flatAll (F : TypeId → DataW Unit → Option (List Value)) : List (TypeId × Nat) → List (DataW Unit) → Option (List Value)
  | [], [] => some []
  | x :: r, d :: ds => match F x.1 d, flatAll F r ds with
    | some a, some b => some (a ++ b)
    | _, _ => none
  | _, _ => none
def partsOf (P : Program) (t : TypeId) : Option (List (TypeId × Nat)) :=
  match P.underlying t with
  | some (.array n e) => some ((List.range n).map fun i => (e, i * P.cellsOf e))
  | some (.struct fs) => some (fs.toList.map fun f => (f.type, f.offset))
  | _ => none
/-- The cells of a datum of numbers, bools, strings, arrays and structs. -/
def flatD (P : Program) : Nat → TypeId → DataW Unit → Option (List Value)
  | 0, _, _ => none
  | _ + 1, t, .lit l => match P.underlying t, l with
    | some (.int _), .int k n => some [.int k n]
    | some .bool, .bool b => some [.bool b]
    | some .string, .string s => some [.string ⟨s.toArray⟩]
    | _, _ => none
  | f + 1, t, .agg ds => match partsOf P t with
    | some l => if tilesB P 0 l (P.cellsOf t) then flatAll (flatD P f) l ds else none
    | none => none
  | _ + 1, _, _ => none

theorem flat_cells {P : Program} {F : TypeId → DataW Unit → Option (List Value)} {cs : List Value} : ∀ (l : List (TypeId × Nat)) (ds : List (DataW Unit)) (o e : Nat) (vs : List Value), tilesB P o l e = true →
    (∀ (i : Nat) x d a, l[i]? = some x → ds[i]? = some d → F x.1 d = some a → (cs.drop x.2).take (P.cellsOf x.1) = a) → flatAll F l ds = some vs → o ≤ e ∧ (cs.drop o).take (e - o) = vs
  | [], [], o, e, vs, ht, _, hf => by
    simp only [tilesB, beq_iff_eq] at ht
    simp only [flatAll, Option.some.injEq] at hf
    subst ht hf
    exact ⟨Nat.le_refl _, by simp⟩
  | [], _ :: _, _, _, _, _, _, hf => by simp [flatAll] at hf
  | _ :: _, [], _, _, _, _, _, hf => by simp [flatAll] at hf
  | x :: r, d :: ds, o, e, vs, ht, hc, hf => by
    simp only [tilesB, Bool.and_eq_true, beq_iff_eq] at ht
    obtain ⟨h1, h2⟩ := ht
    simp only [flatAll] at hf
    split at hf
    · rename_i a b ha hb
      simp only [Option.some.injEq] at hf
      obtain ⟨i1, i2⟩ := flat_cells r ds (o + P.cellsOf x.1) e b h2 (fun i y d' a' hy hd => hc (i + 1) y d' a' (by simpa using hy) (by simpa using hd)) hb
      have hx := hc 0 x d a rfl rfl ha
      rw [h1] at hx
      refine ⟨by omega, ?_⟩
      rw [← hf, ← i2, ← hx, show e - o = P.cellsOf x.1 + (e - (o + P.cellsOf x.1)) by omega, List.take_add, List.drop_drop]
    · cases hf

theorem flat_of_trod {P : Program} {w : World} {sp : Nat → Bool} {held : Bool} {enc : TypeId × Value → Unit} : ∀ (f : Nat) (t : TypeId) (d : DataW Unit) (vs : List Value), flatD P f t d = some vs →
    ∀ (fuel : Nat) (cs : List Value) (p : List MemPlace), DataW.trod enc P w 0 sp held fuel t cs = some (d, p) → cs = vs
  | 0, _, _, _, h => by simp [flatD] at h
  | f + 1, t, d, vs, h => by
    intro fuel cs p hr
    cases d with
    | lit l =>
      simp only [flatD] at h
      split at h
      · rename_i k' k n hu
        obtain ⟨m, e1, e2, _⟩ := DataW.trod_int hu hr
        simp only [Prod.mk.injEq, DataW.lit.injEq, Lit.int.injEq] at e2
        obtain ⟨⟨rfl, rfl⟩, _⟩ := e2
        simp only [Option.some.injEq] at h
        rw [e1, h]
      · rename_i b hu
        obtain ⟨m, e1, e2⟩ := DataW.trod_bool hu hr
        simp only [Prod.mk.injEq, DataW.lit.injEq, Lit.bool.injEq] at e2
        obtain ⟨rfl, _⟩ := e2
        simp only [Option.some.injEq] at h
        rw [e1, h]
      · rename_i s hu
        obtain ⟨m, e1, e2, _⟩ := DataW.trod_string hu hr
        simp only [Prod.mk.injEq, DataW.lit.injEq, Lit.string.injEq] at e2
        obtain ⟨rfl, _⟩ := e2
        simp only [Option.some.injEq] at h
        rw [e1, ← h]
      · cases h
    | agg ds =>
      simp only [flatD] at h
      split at h
      · rename_i l hl
        split at h
        · rename_i htl
          unfold partsOf at hl
          split at hl
          · rename_i n e hu
            obtain ⟨xs, m, _, ex, hlen, hxl, hel⟩ := DataW.trod_array hu hr
            simp only [Prod.mk.injEq, DataW.agg.injEq] at ex
            obtain ⟨eds, _⟩ := ex
            simp only [Option.some.injEq] at hl
            subst hl
            obtain ⟨_, hh⟩ := flat_cells (cs := cs) _ ds 0 _ vs htl (fun i x d' a hx hd ha => by
              simp only [List.getElem?_map, Option.map_eq_some_iff] at hx
              obtain ⟨j, hj, rfl⟩ := hx
              obtain ⟨hj1, hj2⟩ := List.getElem?_eq_some_iff.1 hj
              simp only [List.length_range] at hj1
              simp only [List.getElem_range] at hj2
              subst hj2
              rw [eds, List.getElem?_map, Option.map_eq_some_iff] at hd
              obtain ⟨y, hy, rfl⟩ := hd
              have hi := hel i hj1
              rw [hy] at hi
              exact flat_of_trod f e y.1 a ha m _ y.2 hi) h
            rw [← hh, Nat.sub_zero, List.drop_zero, ← hlen, List.take_length]
          · rename_i fs hu
            obtain ⟨xs, m, _, ex, hlen, hxl, hel⟩ := DataW.trod_struct hu hr
            simp only [Prod.mk.injEq, DataW.agg.injEq] at ex
            obtain ⟨eds, _⟩ := ex
            simp only [Option.some.injEq] at hl
            subst hl
            obtain ⟨_, hh⟩ := flat_cells (cs := cs) _ ds 0 _ vs htl (fun i x d' a hx hd ha => by
              simp only [List.getElem?_map, Option.map_eq_some_iff, Array.getElem?_toList] at hx
              obtain ⟨g, hg, rfl⟩ := hx
              rw [eds, List.getElem?_map, Option.map_eq_some_iff] at hd
              obtain ⟨y, hy, rfl⟩ := hd
              have hi := hel i g hg
              rw [hy] at hi
              exact flat_of_trod f g.type y.1 a ha m _ y.2 hi) h
            rw [← hh, Nat.sub_zero, List.drop_zero, ← hlen, List.take_length]
          · cases hl
        · cases h
      · cases h
    | _ => simp [flatD] at h

/-- The variable of that name holds just these cells. -/
theorem laid_row {P : Program} {w : World} {name : String} {d : DataW Unit} {g : Nat} {t : TypeId} {vs : List Value} (f : Nat) : ∀ {l : List (String × DataW Unit)} {ps : List MemPlace}, DataW.LaidVars P w l ps →
    (∀ b off, MemPlace.cell b off ∈ ps → ∃ c t, w.heap[b]? = some (.cells c t (0, 0))) → (name, d) ∈ l → P.globalNamed name = some g → (P.globals[g]?).map (·.type) = some t → flatD P f t d = some vs → vs ≠ [] →
    ∃ t', w.heap[g]? = some (.cells vs.toArray t' (0, 0))
  | [], _, _, _, hm, _, _, _, _ => by cases hm
  | (n, d') :: r, ps, hl, hrow, hm, hg, ht, hf, hne => by
    obtain ⟨g', t', cs, fuel, p, q, e1, e2, e3, e4, hr, rfl⟩ := hl
    rcases List.mem_cons.1 hm with hm | hm
    · simp only [Prod.mk.injEq] at hm
      obtain ⟨rfl, rfl⟩ := hm
      obtain rfl : g = g' := Option.some.inj (hg.symm.trans e1)
      obtain rfl : t = t' := Option.some.inj (ht.symm.trans e2)
      have hcs := flat_of_trod f t d vs hf fuel cs.toList p e4
      have hsz : 0 < cs.size := by
        rcases Nat.eq_zero_or_pos cs.size with h | h
        · exact absurd (by rw [← hcs]; simpa using h) hne
        · exact h
      obtain ⟨c, u, hc⟩ := hrow g 0 (by simp only [List.mem_append]; left; left; unfold MemPlace.row; exact List.mem_map.2 ⟨0, by simpa using hsz, rfl⟩)
      simp only [World.var?, hg, Option.bind_some, hc, Option.some.injEq] at e3
      exact ⟨u, by rw [hc, e3, ← hcs]⟩
    · exact laid_row f hr (fun b off h => hrow b off (by simp only [List.mem_append]; right; exact h)) hm hg ht hf hne
/-- The cells of the list's i-th variable, which is global g. -/
def laidVs (P : Program) (l : List (String × DataW Unit)) (f i g : Nat) : Option (List Value) :=
  match (l.filter fun x => x.2.handleName?.isNone)[i]?, (P.globals[g]?).map (·.type) with
  | some x, some t => if P.globalNamed x.1 = some g then flatD P f t x.2 else none
  | _, _ => none
/-- f: more than the nesting's depth; i: the variable's place on the row's list; g: its number. One closed fact. -/
theorem laid_cells {P : Program} {w : World} {l : List (String × DataW Unit)} (h : laidMetH P l w) (f i g : Nat) {vs : List Value} (hf : laidVs P l f i g = some vs) (hne : vs ≠ []) : ∃ t', w.heap[g]? = some (.cells vs.toArray t' (0, 0)) := by
  obtain ⟨ps, hl, _, hrows⟩ := (laidMetH_iff.1 h).1
  unfold laidVs at hf
  split at hf
  · rename_i x t hx ht
    split at hf
    · rename_i hg
      exact laid_row f hl (fun b off hp => (hrows b off hp).1) (List.mem_of_getElem? hx) hg ht hf hne
    · cases hf
  · cases hf
end Go.Proofs.YtmhabodijmnldaaDoor
namespace Go.Proofs.YtmhabodijmnldaaDoor
open Go.RowKit Ex
set_option maxRecDepth 100000
theorem fieldF_is : arr .i64 9 fieldF = ([.int .i64 4, .int .i64 5, .int .i64 6, .int .i64 7, .int .i64 8, .int .i64 9, .int .i64 10, .int .i64 11, .int .i64 12] : List Value).toArray := by kernel_rfl
theorem tabF_of {W : World} {l : List (String × DataW Unit)} (h : laidMetH Tryd.prog l W) (hf : laidVs Tryd.prog l 8 0 0 = some [.int .i64 4, .int .i64 5, .int .i64 6, .int .i64 7, .int .i64 8, .int .i64 9, .int .i64 10, .int .i64 11, .int .i64 12]) : TabF W := by
  obtain ⟨t, ht⟩ := laid_cells h 8 0 0 hf (by simp)
  exact ⟨t, by rw [fieldF_is]; exact ht⟩
end Go.Proofs.YtmhabodijmnldaaDoor
namespace Go.Proofs.YtmhabodijmnldaaDoor
open Go.RowKit Ex
set_option maxRecDepth 100000
theorem bv_nat (x : Int) : ((BitVec.ofInt 64 x).toNat : Int) = x % 18446744073709551616 := by
  rw [BitVec.toNat_ofInt]; omega
theorem or4 (a b : Nat) (hb : b < 4) : a ||| b = 4 * (a / 4) + (a % 4 ||| b) := by
  have h1 : (a ||| b) / 4 = a / 4 := by
    have := Nat.or_div_two_pow (a := a) (b := b) (n := 2)
    rw [show (2 : Nat) ^ 2 = 4 from rfl, Nat.div_eq_of_lt hb, Nat.or_zero] at this
    exact this
  have h2 : (a ||| b) % 4 = a % 4 ||| b := by
    have := Nat.or_mod_two_pow (a := a) (b := b) (n := 2)
    rw [show (2 : Nat) ^ 2 = 4 from rfl, Nat.mod_eq_of_lt hb] at this
    exact this
  omega
theorem and4 (a b : Nat) : a &&& b = 4 * (a / 4 &&& b / 4) + (a % 4 &&& b % 4) := by
  have h1 : (a &&& b) / 4 = a / 4 &&& b / 4 := by
    have := Nat.and_div_two_pow (a := a) (b := b) (n := 2)
    rw [show (2 : Nat) ^ 2 = 4 from rfl] at this
    exact this
  have h2 : (a &&& b) % 4 = a % 4 &&& b % 4 := by
    have := Nat.and_mod_two_pow (a := a) (b := b) (n := 2)
    rw [show (2 : Nat) ^ 2 = 4 from rfl] at this
    exact this
  omega
theorem fin4 {P : Nat → Prop} (h0 : P 0) (h1 : P 1) (h2 : P 2) (h3 : P 3) (a : Nat) (h : a < 4) : P a := by
  have : a = 0 ∨ a = 1 ∨ a = 2 ∨ a = 3 := by omega
  rcases this with rfl | rfl | rfl | rfl <;> assumption
/-- The lowest two bits. -/
theorem and_three (x : Int) : bits .and .i64 x 3 = x % 4 := by
  show IntKind.i64.wrap (((BitVec.ofInt 64 x &&& BitVec.ofInt 64 3).toNat : Nat) : Int) = _
  rw [BitVec.toNat_and, and4, show (BitVec.ofInt 64 3).toNat = 3 from rfl, Nat.and_zero, IntKind.wrap_i64]
  have hx := bv_nat x
  generalize (BitVec.ofInt 64 x).toNat = u at *
  have hu : u % 4 &&& 3 % 4 = u % 4 := fin4 (P := fun a => a &&& 3 % 4 = a) rfl rfl rfl rfl _ (Nat.mod_lt _ (by decide))
  rw [hu]
  omega
theorem three_and (x : Int) : bits .and .i64 3 x = x % 4 := by
  rw [← and_three]
  show IntKind.i64.wrap (((BitVec.ofInt 64 3 &&& BitVec.ofInt 64 x).toNat : Nat) : Int) = IntKind.i64.wrap (((BitVec.ofInt 64 x &&& BitVec.ofInt 64 3).toNat : Nat) : Int)
  rw [BitVec.toNat_and, BitVec.toNat_and, Nat.and_comm]
theorem bits_low (x : Int) : bitK x 0 = decide (x % 4 = 1 ∨ x % 4 = 3) ∧ bitK x 1 = decide (x % 4 = 2 ∨ x % 4 = 3) := by
  rw [bit0, bit1, decide_eq_decide, decide_eq_decide]
  constructor <;> omega
theorem low4 (x : Int) : x % 4 = 0 ∨ x % 4 = 1 ∨ x % 4 = 2 ∨ x % 4 = 3 := by omega
theorem bitK_shift (x k p : Int) : bitK (x + 4 * k) p = bitK x p := by
  unfold bitK
  have h1 : decide ((x + 4 * k) % 2 = 1) = decide (x % 2 = 1) := by rw [decide_eq_decide]; omega
  have h2 : decide ((x + 4 * k) / 2 % 2 = 1) = decide (x / 2 % 2 = 1) := by rw [decide_eq_decide]; omega
  rw [h1, h2]
theorem chg1_shift (x ps k m p : Int) (is : Bool) : chg1 (x + 4 * k) (ps + 4 * m) is p = chg1 x ps is p + 4 * k := by
  unfold chg1
  rw [bitK_shift, bitK_shift]
  split
  · split <;> omega
  · rfl
theorem chg_low (x ps : Int) (is : Bool) (a b : Int) (ha : x % 4 = a) (hb : ps % 4 = b) : chgK x ps is = x - a + chgK a b is := by
  have e1 : x = a + 4 * (x / 4) := by omega
  have e2 : ps = b + 4 * (ps / 4) := by omega
  have h : chgK x ps is = chgK (a + 4 * (x / 4)) (b + 4 * (ps / 4)) is := by rw [← e1, ← e2]
  rw [h]
  unfold chgK
  rw [chg1_shift, chg1_shift]
  omega
/-- Or, as a sum. -/
theorem or_chg (x ps : Int) (hx : N64 x) : bits .or .i64 x (ps % 4) = chgK x ps true := by
  have hb : 0 ≤ ps % 4 ∧ ps % 4 < 4 := by omega
  rw [chg_low x ps true (x % 4) (ps % 4) rfl rfl]
  obtain ⟨b, hbe⟩ : ∃ b : Nat, ps % 4 = (b : Int) := ⟨(ps % 4).toNat, by omega⟩
  rw [hbe] at hb ⊢
  have hb4 : b < 4 := by omega
  show IntKind.i64.wrap (((BitVec.ofInt 64 x ||| BitVec.ofInt 64 (b : Int)).toNat : Nat) : Int) = _
  have hbn : (BitVec.ofInt 64 (b : Int)).toNat = b := by have := bv_nat (b : Int); omega
  rw [BitVec.toNat_or, hbn, or4 _ _ hb4, IntKind.wrap_i64]
  have hxu := bv_nat x
  generalize (BitVec.ofInt 64 x).toNat = u at *
  obtain ⟨a, hae⟩ : ∃ a : Nat, x % 4 = (a : Int) := ⟨(x % 4).toNat, by omega⟩
  have hau : u % 4 = a := by omega
  rw [hae, hau]
  have ha4 : a < 4 := by omega
  obtain ⟨h0, h1⟩ := hx
  have key : ∀ a < 4, ∀ b < 4, (((a ||| b : Nat) : Int) = chgK (a : Int) (b : Int) true) ∧ a ≤ (a ||| b) ∧ (a ||| b) < 4 := by decide
  obtain ⟨k1, k2, k3⟩ := key a ha4 b hb4
  rw [← k1]
  generalize a ||| b = c at *
  omega
/-- And-not, as a difference. -/
theorem andNot_chg (x ps : Int) (hx : N64 x) : bits .andNot .i64 x (ps % 4) = chgK x ps false := by
  have hb : 0 ≤ ps % 4 ∧ ps % 4 < 4 := by omega
  rw [chg_low x ps false (x % 4) (ps % 4) rfl rfl]
  obtain ⟨b, hbe⟩ : ∃ b : Nat, ps % 4 = (b : Int) := ⟨(ps % 4).toNat, by omega⟩
  rw [hbe] at hb ⊢
  have hb4 : b < 4 := by omega
  show IntKind.i64.wrap (((BitVec.ofInt 64 x &&& ~~~(BitVec.ofInt 64 (b : Int))).toNat : Nat) : Int) = _
  have hbn : (BitVec.ofInt 64 (b : Int)).toNat = b := by have := bv_nat (b : Int); omega
  have hxu := bv_nat x
  have hul := (BitVec.ofInt 64 x).isLt
  rw [BitVec.toNat_and, BitVec.toNat_not, hbn, and4, IntKind.wrap_i64]
  generalize (BitVec.ofInt 64 x).toNat = u at *
  rw [show (2 ^ 64 - 1 - b) / 4 = 2 ^ 62 - 1 by omega, show (2 ^ 64 - 1 - b) % 4 = 3 - b by omega, Nat.and_two_pow_sub_one_eq_mod, Nat.mod_eq_of_lt (by omega)]
  obtain ⟨a, hae⟩ : ∃ a : Nat, x % 4 = (a : Int) := ⟨(x % 4).toNat, by omega⟩
  have hau : u % 4 = a := by omega
  rw [hae, hau]
  have ha4 : a < 4 := by omega
  obtain ⟨h0, h1⟩ := hx
  have key : ∀ a < 4, ∀ b < 4, (((a &&& (3 - b) : Nat) : Int) = chgK (a : Int) (b : Int) false) ∧ (a &&& (3 - b)) ≤ a := by decide
  obtain ⟨k1, k2⟩ := key a ha4 b hb4
  rw [← k1]
  generalize a &&& (3 - b) = c at *
  omega
theorem more_low (c d a b : Int) (ha : d % 4 = a) (hb : c % 4 = b) : moreK c d = moreK b a := by
  have h1 : bitK d 0 = bitK a 0 := by rw [(bits_low _).1, (bits_low _).1, decide_eq_decide]; omega
  have h2 : bitK d 1 = bitK a 1 := by rw [(bits_low _).2, (bits_low _).2, decide_eq_decide]; omega
  have h3 : bitK c 0 = bitK b 0 := by rw [(bits_low _).1, (bits_low _).1, decide_eq_decide]; omega
  have h4 : bitK c 1 = bitK b 1 := by rw [(bits_low _).2, (bits_low _).2, decide_eq_decide]; omega
  unfold moreK
  rw [h1, h2, h3, h4]
/-- A player more knows by d than by c. -/
theorem andNot_more (c d : Int) : (!(bits .andNot .i64 (d % 4) c == 0)) = moreK c d := by
  obtain ⟨a, hae⟩ : ∃ a : Nat, d % 4 = (a : Int) := ⟨(d % 4).toNat, by omega⟩
  obtain ⟨b, hbe⟩ : ∃ b : Nat, c % 4 = (b : Int) := ⟨(c % 4).toNat, by omega⟩
  rw [more_low c d a b hae hbe, hae]
  have ha4 : a < 4 := by omega
  have hb4 : b < 4 := by omega
  show (!(IntKind.i64.wrap (((BitVec.ofInt 64 (a : Int) &&& ~~~(BitVec.ofInt 64 c)).toNat : Nat) : Int) == 0)) = _
  have han : (BitVec.ofInt 64 (a : Int)).toNat = a := by have := bv_nat (a : Int); omega
  have hcu := bv_nat c
  have hul := (BitVec.ofInt 64 c).isLt
  rw [BitVec.toNat_and, BitVec.toNat_not, han, and4, IntKind.wrap_i64, Nat.div_eq_of_lt ha4, Nat.zero_and]
  generalize (BitVec.ofInt 64 c).toNat = u at *
  rw [show (2 ^ 64 - 1 - u) % 4 = 3 - b by omega, Nat.mod_eq_of_lt ha4]
  have key : ∀ a < 4, ∀ b < 4, ((!(((a &&& (3 - b) : Nat) : Int) == 0)) = moreK (b : Int) (a : Int)) ∧ (a &&& (3 - b)) < 4 := by decide
  obtain ⟨k1, k2⟩ := key a ha4 b hb4
  rw [← k1]
  generalize a &&& (3 - b) = e at *
  have he : (((4 * 0 + e : Nat) : Int) + 9223372036854775808) % 18446744073709551616 - 9223372036854775808 = (e : Int) := by omega
  rw [he]
end Go.Proofs.YtmhabodijmnldaaDoor
namespace Go.Proofs.YtmhabodijmnldaaDoor
namespace Bx
open Go.RowKit

/-- The number whose bits below k are those of f. -/
def numB (f : Nat → Bool) : Nat → Nat
  | 0 => 0
  | k + 1 => numB f k + if f k then 2 ^ k else 0

theorem numB_lt (f : Nat → Bool) (k : Nat) : numB f k < 2 ^ k := by
  induction k with
  | zero => simp [numB]
  | succ k ih => simp only [numB]; rw [Nat.pow_succ]; split <;> omega

theorem testBit_numB (f : Nat → Bool) (k i : Nat) : (numB f k).testBit i = (decide (i < k) && f i) := by
  induction k with
  | zero => simp [numB]
  | succ k ih =>
    have hlt := numB_lt f k
    simp only [numB]
    by_cases hf : f k = true
    · rw [if_pos hf, Nat.add_comm, show 2 ^ k + numB f k = 2 ^ k * 1 + numB f k by omega, Nat.testBit_two_pow_mul_add 1 hlt i, ih]
      by_cases h1 : i < k
      · simp [h1, Nat.lt_succ_of_lt h1]
      · by_cases hik : i = k
        · subst hik; simp [hf]
        · simp [h1, show ¬ i < k + 1 by omega]
          have h2 : ¬ i - k = 0 := by omega
          rw [← Bool.not_eq_true, Nat.testBit_one_eq_true_iff_self_eq_zero]; exact h2
    · rw [if_neg hf, Nat.add_zero, ih]
      by_cases hik : i = k
      · subst hik; simp [hf]
      · by_cases h1 : i < k
        · simp [h1, Nat.lt_succ_of_lt h1]
        · simp [h1, show ¬ i < k + 1 by omega]

/-- Two numbers below 2^64 that have the same 64 bits. -/
theorem ext64 {a b : Nat} (ha : a < 2 ^ 64) (hb : b < 2 ^ 64) (h : ∀ i, i < 64 → a.testBit i = b.testBit i) : a = b := by
  apply Nat.eq_of_testBit_eq
  intro i
  by_cases hi : i < 64
  · exact h i hi
  · have h1 : 2 ^ 64 ≤ 2 ^ i := Nat.pow_le_pow_right (by omega) (by omega)
    rw [Nat.testBit_lt_two_pow (Nat.lt_of_lt_of_le ha h1), Nat.testBit_lt_two_pow (Nat.lt_of_lt_of_le hb h1)]

/-- A row of 64 bools. -/
def row (f : Nat → Bool) : Array Value := (Array.range 64).map fun i => Value.bool (f i)
theorem row_size (f : Nat → Bool) : (row f).size = 64 := by simp [row]
theorem row_get (f : Nat → Bool) (i : Nat) (h : i < 64) : (row f)[i]? = some (.bool (f i)) := by
  simp [row, h]
/-- f, but for one place. -/
def upd (f : Nat → Bool) (k : Nat) (b : Bool) : Nat → Bool := fun i => if i = k then b else f i
theorem row_set (f : Nat → Bool) (k : Nat) (b : Bool) : (row f).setIfInBounds k (.bool b) = row (upd f k b) := by
  apply Array.ext
  · simp [row]
  · intro i h1 h2
    simp [row] at h1 h2
    rw [Array.getElem_setIfInBounds (by rw [row_size]; exact h2)]
    simp [row, upd]
    by_cases e : k = i
    · subst e; simp
    · simp [e, show ¬ i = k from fun h => e h.symm]
theorem row_congr {f g : Nat → Bool} (h : ∀ i, i < 64 → f i = g i) : row f = row g := by
  apply Array.ext
  · simp [row]
  · intro i h1 h2
    simp [row] at h1
    simp [row, h i h1]
theorem row_one (f : Nat → Bool) : (row f).all (·.oneCell') = true := by
  rw [Array.all_eq_true]; intro i hi; simp [row, Value.oneCell']
theorem row_false : Array.replicate 64 (Value.bool false) = row fun _ => false := by
  apply Array.ext
  · simp [row]
  · intro i h1 h2
    simp [row]

/-- The first bit of what is left behind k halvings. -/
theorem bit_of_div (x k : Nat) : (((x / 2 ^ k : Nat) : Int) % 2 == 1) = x.testBit k := by
  rw [Nat.testBit_eq_decide_div_mod_eq]
  rw [Bool.eq_iff_iff, beq_iff_eq, decide_eq_true_eq]; omega
theorem div_succ (x k : Nat) : x / 2 ^ k / 2 = x / 2 ^ (k + 1) := by rw [Nat.div_div_eq_div_mul, Nat.pow_succ]

/-- What an int is behind a place: from 0 to 64. -/
def clamp (n : Int) : Nat := (min (max n 0) 64).toNat
theorem clamp_le (n : Int) : clamp n ≤ 64 := by unfold clamp; omega
/-- All bits below n. -/
def mask (n : Nat) : Nat := 2 ^ n - 1
theorem mask_lt (n : Nat) (h : n ≤ 64) : mask n < 2 ^ 64 := by
  unfold mask
  have := Nat.pow_le_pow_right (n := 2) (by omega) h
  have := Nat.two_pow_pos n
  omega
theorem testBit_mask (n i : Nat) : (mask n).testBit i = decide (i < n) := by
  unfold mask; rw [Nat.testBit_two_pow_sub_one]

/-- What the set of a number with, or without, one is. -/
def setB (x : Nat) (i : Int) (b : Bool) : Nat := numB (fun k => if (k : Int) = i then b else x.testBit k) 64
/-- From one to another one. -/
def spanB (a b : Int) : Nat := numB (fun k => decide (a ≤ (k : Int)) && decide ((k : Int) < b)) 64
/-- Is there such a part? -/
def isB (a n : Int) : Bool := decide (0 ≤ a) && decide (1 ≤ n) && decide (n ≤ 64) && decide (a ≤ 64 - n)
/-- A part's worth. -/
def partB (x : Nat) (a n : Nat) : Nat := numB (fun k => decide (k < n) && x.testBit (a + k)) 64
/-- What is laid. -/
def putB (x : Nat) (a n : Nat) (p : Nat) : Nat := numB (fun k => if a ≤ k ∧ k < a + n then p.testBit (k - a) else x.testBit k) 64

/-- May it be in a set? -/
def memB (i : Int) : Bool := decide (0 ≤ i) && decide (i < 64)
theorem memB_true {i : Int} (h : memB i = true) : 0 ≤ i ∧ i < 64 := by simpa [memB] using h
theorem memB_false {i : Int} (h : memB i = false) : i < 0 ∨ 64 ≤ i := by
  unfold memB at h
  by_cases h0 : 0 ≤ i
  · simp [h0] at h; omega
  · omega
/-- Is that a width? -/
def widB (n : Int) : Bool := decide (1 ≤ n) && decide (n ≤ 64)
theorem widB_true {n : Int} (h : widB n = true) : 1 ≤ n ∧ n ≤ 64 := by simpa [widB] using h
theorem widB_false {n : Int} (h : widB n = false) : n < 1 ∨ 64 < n := by
  unfold widB at h
  by_cases h0 : 1 ≤ n
  · simp [h0] at h; omega
  · omega
theorem isB_true {a n : Int} (h : isB a n = true) : 0 ≤ a ∧ 1 ≤ n ∧ n ≤ 64 ∧ a ≤ 64 - n := by
  simp [isB] at h; omega
theorem isB_false {a n : Int} (h : isB a n = false) : a < 0 ∨ n < 1 ∨ 64 < n ∨ 64 - n < a := by
  unfold isB at h
  by_cases h0 : 0 ≤ a
  · by_cases h1 : 1 ≤ n
    · by_cases h2 : n ≤ 64
      · simp [h0, h1, h2] at h; omega
      · omega
    · omega
  · omega

theorem ret_int {k : IntKind} {a b : Int} (h : a = b) : Ending.returned (.int k a) = .returned (.int k b) := by rw [h]
theorem ret_bool {a b : Bool} (h : a = b) : Ending.returned (.bool a) = .returned (.bool b) := by rw [h]
theorem ret_int_nil {k : IntKind} {a b : Int} (h : a = b) : Ending.returned (.tuple #[.int k a, .nilIface]) = .returned (.tuple #[.int k b, .nilIface]) := by rw [h]
theorem below_mid (n : Int) (h0 : 0 ≤ n) (h1 : n ≤ 64) : IntKind.u64.wrap (IntKind.u64.wrap (2 ^ n.toNat) - 1) = ((mask (clamp n) : Nat) : Int) := by
  obtain ⟨k, rfl⟩ := Int.eq_ofNat_of_zero_le h0
  have hk : k ≤ 64 := by omega
  have hc : clamp (k : Int) = k := by unfold clamp; omega
  rw [hc, Int.toNat_natCast, IntKind.wrap_u64, IntKind.wrap_u64]
  have e : (2 : Int) ^ k = ((2 ^ k : Nat) : Int) := by simp
  rw [e]
  unfold mask
  have hp := Nat.two_pow_pos k
  have hle : 2 ^ k ≤ 2 ^ 64 := Nat.pow_le_pow_right (by omega) hk
  generalize 2 ^ k = m at *
  omega
theorem below_lo (n : Int) (h0 : n < 0) : IntKind.u64.wrap (IntKind.u64.wrap 1 - 1) = ((mask (clamp n) : Nat) : Int) := by
  have hc : clamp n = 0 := by unfold clamp; omega
  rw [hc, IntKind.wrap_u64, IntKind.wrap_u64]; rfl
theorem below_hi (n : Int) (h0 : 64 < n) : IntKind.u64.wrap (IntKind.u64.wrap 18446744073709551616 - 1) = ((mask (clamp n) : Nat) : Int) := by
  have hc : clamp n = 64 := by unfold clamp; omega
  rw [hc, IntKind.wrap_u64, IntKind.wrap_u64]; rfl
theorem int_shr (x k : Nat) : (x : Int) / 2 ^ k = ((x / 2 ^ k : Nat) : Int) := by simp
theorem shr_lt {x : Nat} (hx : x < 18446744073709551616) (k : Nat) : x / 2 ^ k < 18446744073709551616 := Nat.lt_of_le_of_lt (Nat.div_le_self _ _) hx
theorem has_bit (x : Nat) (hx : x < 18446744073709551616) (k : Nat) : (bits .and .u64 ((x : Int) / 2 ^ k) 1 == 1) = x.testBit k := by
  rw [int_shr, show (1 : Int) = ((1 : Nat) : Int) from rfl, u64_and_nat _ _ (shr_lt hx k) (by decide), nat_mask1, ← bit_of_div]
  rw [Bool.eq_iff_iff, beq_iff_eq, beq_iff_eq]; omega

/-- For a call inside a region that draws: callees that leave the world alone, or only draw. -/
theorem quietL {P : Program} {f : FuncId} {args : Array Value} {w : World} {n : Nat} {v : Value}
    (h : Calls P f args (w.drewN n) fun e w' => e = .returned v ∧ w.drewN n = w') : Calls P f args (w.drewN n) fun e w'' => e = .returned v ∧ ∃ m, w'' = w.drewN m :=
  h.mono fun _ _ ⟨he, hm⟩ => ⟨he, n, hm.symm⟩
theorem quietD {P : Program} {f : FuncId} {args : Array Value} {w : World} {n : Nat} {v : Value}
    (h : Calls P f args (w.drewN n) fun e w' => e = .returned v ∧ ∃ m, w' = (w.drewN n).drewN m) : Calls P f args (w.drewN n) fun e w'' => e = .returned v ∧ ∃ m, w'' = w.drewN m :=
  h.mono fun _ _ ⟨he, m, hm⟩ => ⟨he, n + m, by rw [hm, World.drewN_drewN]⟩

theorem part_val (x : Nat) (hx : x < 18446744073709551616) (k : Nat) (n : Int) (h2 : 1 ≤ n) (h3 : n ≤ 64) :
    bits .and .u64 ((x : Int) / 2 ^ k) ((mask (clamp n) : Nat) : Int) = ((partB x (k : Int).toNat n.toNat : Nat) : Int) := by
  have hc : clamp n = n.toNat := by unfold clamp; omega
  rw [int_shr, u64_and_nat _ _ (shr_lt hx k) (mask_lt _ (clamp_le n)), hc, Int.toNat_natCast]
  congr 1
  apply ext64
  · exact Nat.lt_of_le_of_lt Nat.and_le_left (shr_lt hx k)
  · exact numB_lt _ _
  · intro i hi
    rw [Nat.testBit_and, Nat.testBit_div_two_pow, testBit_mask]
    unfold partB
    rw [testBit_numB]
    simp [hi, Nat.add_comm, Bool.and_comm]
theorem span_val (a b : Int) : bits .andNot .u64 ((mask (clamp b) : Nat) : Int) ((mask (clamp a) : Nat) : Int) = ((spanB a b : Nat) : Int) := by
  have h1 := mask_lt _ (clamp_le b)
  have h2 := mask_lt _ (clamp_le a)
  rw [u64_andNot_nat _ _ h1 h2]
  congr 1
  apply ext64
  · exact Nat.lt_of_le_of_lt Nat.and_le_left h1
  · exact numB_lt _ _
  · intro i hi
    rw [Nat.testBit_and, show 18446744073709551615 - mask (clamp a) = 2 ^ 64 - (mask (clamp a) + 1) by omega, Nat.testBit_two_pow_sub_succ h2, testBit_mask, testBit_mask]
    unfold spanB
    rw [testBit_numB]
    simp only [hi, decide_true, Bool.true_and]
    have e1 : decide (i < clamp b) = decide ((i : Int) < b) := by rw [decide_eq_decide]; unfold clamp; omega
    have e2 : decide (i < clamp a) = !decide (a ≤ (i : Int)) := by rw [← decide_not, decide_eq_decide]; unfold clamp; omega
    rw [e1, e2, Bool.not_not, Bool.and_comm]

theorem shl_u64 (m k : Nat) (h : m * 2 ^ k < 18446744073709551616) : IntKind.u64.wrap ((m : Int) * 2 ^ k) = ((m * 2 ^ k : Nat) : Int) := by
  rw [IntKind.wrap_u64, show (2 : Int) ^ k = ((2 ^ k : Nat) : Int) by simp, ← Int.natCast_mul]
  generalize m * 2 ^ k = q at *
  omega
theorem shl_lt {m n k : Nat} (hm : m < 2 ^ n) (h : k + n ≤ 64) : m * 2 ^ k < 18446744073709551616 := by
  have h1 : m * 2 ^ k < 2 ^ n * 2 ^ k := Nat.mul_lt_mul_of_pos_right hm (Nat.two_pow_pos k)
  rw [← Nat.pow_add] at h1
  have h2 : 2 ^ (n + k) ≤ 2 ^ 64 := Nat.pow_le_pow_right (by omega) (by omega)
  omega
theorem mask_lt_pow (n : Nat) : mask n < 2 ^ n := by unfold mask; have := Nat.two_pow_pos n; omega
theorem put_val (x : Nat) (hx : x < 18446744073709551616) (k : Nat) (n : Int) (p : Nat) (hp : p ≤ mask (clamp n)) (h2 : 1 ≤ n) (h3 : n ≤ 64) (h4 : (k : Int) ≤ 64 - n) :
    bits .or .u64 (bits .andNot .u64 (x : Int) (IntKind.u64.wrap (((mask (clamp n) : Nat) : Int) * 2 ^ k))) (IntKind.u64.wrap ((p : Int) * 2 ^ k)) = ((putB x (k : Int).toNat n.toNat p : Nat) : Int) := by
  have hc : clamp n = n.toNat := by unfold clamp; omega
  rw [hc] at hp ⊢
  obtain ⟨m, rfl⟩ := Int.eq_ofNat_of_zero_le (show 0 ≤ n by omega)
  rw [Int.toNat_natCast] at hp ⊢
  rw [Int.toNat_natCast]
  have hm := mask_lt_pow m
  have hk : k + m ≤ 64 := by omega
  have b1 := shl_lt hm hk
  have b2 := shl_lt (Nat.lt_of_le_of_lt hp hm) hk
  rw [shl_u64 _ _ b1, shl_u64 _ _ b2, u64_andNot_nat _ _ hx b1]
  have b3 : x &&& (18446744073709551615 - mask m * 2 ^ k) < 18446744073709551616 := Nat.lt_of_le_of_lt Nat.and_le_left hx
  rw [u64_or_nat _ _ b3 b2]
  congr 1
  apply ext64
  · exact Nat.or_lt_two_pow (n := 64) b3 b2
  · exact numB_lt _ _
  · intro i hi
    rw [Nat.testBit_or, Nat.testBit_and, show 18446744073709551615 - mask m * 2 ^ k = 2 ^ 64 - (mask m * 2 ^ k + 1) by omega, Nat.testBit_two_pow_sub_succ b1, Nat.testBit_mul_two_pow, Nat.testBit_mul_two_pow, testBit_mask]
    unfold putB
    rw [testBit_numB]
    have hpb : ∀ j, m ≤ j → p.testBit j = false := fun j hj => Nat.testBit_lt_two_pow (Nat.lt_of_lt_of_le (Nat.lt_of_le_of_lt hp hm) (Nat.pow_le_pow_right (by omega) hj))
    by_cases h1 : k ≤ i
    · by_cases h5 : i < k + m
      · simp [hi, h1, h5, show i - k < m by omega]
      · simp [hi, h1, h5, show ¬ i - k < m by omega, hpb (i - k) (by omega)]
    · simp [hi, h1]

/-- What narrowing comes to by bits: the number of bits below w, the others as bit w - 1. -/
def narB (y w : Nat) : Nat := numB (fun i => if i < w then y.testBit i else y.testBit (w - 1)) 64
theorem narB_eq (y w : Nat) (h2 : w ≤ 64) : narB y w = 2 ^ w * (if y.testBit (w - 1) then 2 ^ (64 - w) - 1 else 0) + y % 2 ^ w := by
  have hq : y % 2 ^ w < 2 ^ w := Nat.mod_lt _ (Nat.two_pow_pos w)
  have hW : 2 ^ w * 2 ^ (64 - w) = 2 ^ 64 := by rw [← Nat.pow_add]; congr 1; omega
  have hle : 2 ^ w * (if y.testBit (w - 1) then 2 ^ (64 - w) - 1 else 0) + y % 2 ^ w < 2 ^ 64 := by
    have hd := Nat.two_pow_pos (64 - w)
    split
    · rw [Nat.mul_sub, hW]
      have : 2 ^ w * 1 ≤ 2 ^ 64 := by rw [← hW]; exact Nat.mul_le_mul_left _ hd
      omega
    · have : 2 ^ w * 1 ≤ 2 ^ 64 := by rw [← hW]; exact Nat.mul_le_mul_left _ hd
      omega
  apply ext64 (numB_lt _ _) hle
  intro i hi
  rw [Nat.testBit_two_pow_mul_add _ hq, Nat.testBit_mod_two_pow]
  rw [testBit_numB]
  by_cases h3 : i < w
  · simp [hi, h3]
  · by_cases hb : y.testBit (w - 1) = true
    · simp [hi, h3, hb, Nat.testBit_two_pow_sub_one]; omega
    · simp [hi, h3, hb]
theorem testBit_top (q w : Nat) (hq : q < 2 ^ (w + 1)) : q.testBit w = decide (2 ^ w ≤ q) := by
  rw [Nat.testBit_eq_decide_div_mod_eq, decide_eq_decide]
  rw [Nat.pow_succ] at hq
  have hp := Nat.two_pow_pos w
  constructor
  · intro h
    by_cases h1 : 2 ^ w ≤ q
    · exact h1
    · rw [Nat.div_eq_of_lt (by omega)] at h; simp at h
  · intro h
    rw [Nat.div_eq_of_lt_le (m := q) (n := 2 ^ w) (k := 1) (by omega) (by omega)]
theorem wrap64_mod (a b : Int) (h : a % 18446744073709551616 = b % 18446744073709551616) : wrap64 a = wrap64 b := by
  unfold wrap64; omega
def narrowV (x n : Int) : Int := wrap64 (x * 2 ^ (64 - n).toNat) / 2 ^ (64 - n).toNat
def u64Of (x : Int) : Nat := (x % 18446744073709551616).toNat
theorem u64Of_lt (x : Int) : u64Of x < 18446744073709551616 := by unfold u64Of; omega
theorem narrow_val (x n : Int) (h1 : 1 ≤ n) (h2 : n ≤ 64) : narrowV x n = wrap64 ((narB (u64Of x) n.toNat : Nat) : Int) := by
  obtain ⟨w, rfl⟩ := Int.eq_ofNat_of_zero_le (show 0 ≤ n by omega)
  obtain ⟨v, rfl⟩ : ∃ v, w = v + 1 := ⟨w - 1, by omega⟩
  obtain ⟨d, hd⟩ : ∃ d, d = 64 - (v + 1) := ⟨_, rfl⟩
  have hdn : (64 - ((v + 1 : Nat) : Int)).toNat = d := by omega
  rw [Int.toNat_natCast, narB_eq _ _ (by omega), show v + 1 - 1 = v from rfl, ← hd]
  unfold narrowV
  rw [hdn]
  obtain ⟨y, hy⟩ : ∃ y, y = u64Of x := ⟨_, rfl⟩
  rw [← hy]
  obtain ⟨H, hH⟩ : ∃ H, H = 2 ^ v := ⟨_, rfl⟩
  obtain ⟨D, hD⟩ : ∃ D, D = 2 ^ d := ⟨_, rfl⟩
  have hHD : H * D = 9223372036854775808 := by
    rw [hH, hD, ← Nat.pow_add, show v + d = 63 by omega]
  have hDp : 0 < D := by rw [hD]; exact Nat.two_pow_pos d
  obtain ⟨q, hq⟩ : ∃ q, q = y % (2 ^ (v + 1)) := ⟨_, rfl⟩
  obtain ⟨s, hs⟩ : ∃ s, s = y / (2 ^ (v + 1)) := ⟨_, rfl⟩
  have hyq : y = 2 ^ (v + 1) * s + q := by rw [hq, hs]; exact (Nat.div_add_mod _ _).symm
  have hql : q < 2 ^ (v + 1) := by rw [hq]; exact Nat.mod_lt _ (Nat.two_pow_pos _)
  have hbit : y.testBit v = decide (H ≤ q) := by
    rw [hH, ← testBit_top q v hql, hq, Nat.testBit_mod_two_pow]; simp
  rw [hbit, ← hq, ← hD]
  rw [Nat.pow_succ, ← hH] at hyq hql
  have hWd : (2 : Nat) ^ (v + 1) = H * 2 := by rw [Nat.pow_succ, ← hH]
  rw [hWd, show (2 : Int) ^ d = ((D : Nat) : Int) by rw [hD]; simp]
  have hxy : x % 18446744073709551616 = (y : Int) := by rw [hy]; unfold u64Of; omega
  have hx1 : wrap64 (x * (D : Int)) = wrap64 ((q * D : Nat) : Int) := by
    apply wrap64_mod
    obtain ⟨t, ht⟩ : ∃ t, t = x / 18446744073709551616 := ⟨_, rfl⟩
    have hx2 : x = (y : Int) + 18446744073709551616 * t := by omega
    have e : x * (D : Int) = ((q * D : Nat) : Int) + 18446744073709551616 * ((s : Int) + t * D) := by
      rw [hx2, hyq]
      have e1 : ((H * D : Nat) : Int) = 9223372036854775808 := by rw [hHD]; rfl
      rw [Int.natCast_mul] at e1
      have e2 : ((H : Int) * D) * (2 * s) = 9223372036854775808 * (2 * s) := by rw [e1]
      simp only [Int.natCast_add, Int.natCast_mul, Int.add_mul, Int.mul_add]
      have e3 : (H : Int) * ((2 : Nat) : Int) * s * D = (H : Int) * D * (2 * s) := by
        rw [Int.mul_assoc, Int.mul_assoc, Int.mul_assoc]; congr 1
        rw [Int.mul_comm (D : Int), Int.mul_assoc]; rfl
      rw [e3, e2, Int.mul_assoc 18446744073709551616 t]
      omega
    rw [e, Int.add_mul_emod_self_left]
  rw [hx1]
  have hHle : H ≤ 9223372036854775808 := by
    rw [← hHD]; exact Nat.le_mul_of_pos_right H hDp
  by_cases hc : H ≤ q
  · have hle : H * D ≤ q * D := Nat.mul_le_mul_right D hc
    have hlt : q * D < (H * 2) * D := Nat.mul_lt_mul_of_pos_right hql hDp
    have hlt2 : (H * 2) * D = 18446744073709551616 := by rw [Nat.mul_assoc, Nat.mul_comm 2, ← Nat.mul_assoc, hHD]
    have e1 : wrap64 ((q * D : Nat) : Int) = ((q : Int) - 2 * H) * D := by
      have e2 : ((q : Int) - 2 * H) * D = ((q * D : Nat) : Int) - (((H * 2) * D : Nat) : Int) := by
        rw [Int.sub_mul, Int.natCast_mul, Int.natCast_mul, Int.natCast_mul]; congr 2
        rw [Int.mul_comm]; rfl
      rw [e2, hlt2]
      unfold wrap64; omega
    rw [e1, Int.mul_ediv_cancel _ (by omega)]
    simp only [hc, decide_true, if_true]
    rw [Nat.mul_sub, hlt2]
    unfold wrap64; omega
  · have hlt : q * D < H * D := Nat.mul_lt_mul_of_pos_right (by omega) hDp
    have e1 : wrap64 ((q * D : Nat) : Int) = (q : Int) * D := by
      rw [Int.natCast_mul, ← Int.natCast_mul]; unfold wrap64; omega
    rw [e1, Int.mul_ediv_cancel _ (by omega)]
    simp only [hc, decide_false, Bool.false_eq_true, if_false]
    unfold wrap64; omega
theorem u64_wrap (x : Int) : IntKind.u64.wrap x = ((u64Of x : Nat) : Int) := by rw [IntKind.wrap_u64]; unfold u64Of; omega
def narF (y m k i : Nat) : Bool := if i < m then y.testBit i else if i < k then y.testBit (m - 1) else y.testBit i
theorem narF_first (y m i : Nat) : narF y m m i = y.testBit i := by
  unfold narF
  by_cases h : i < m
  · simp [h]
  · simp [h]
theorem narF_top (y m k : Nat) (h : 1 ≤ m) : narF y m k (m - 1) = y.testBit (m - 1) := by
  unfold narF; rw [if_pos (by omega)]
theorem narF_step (y m k i : Nat) (h : m ≤ k) : upd (narF y m k) k (y.testBit (m - 1)) i = narF y m (k + 1) i := by
  unfold upd narF
  by_cases h1 : i = k
  · subst h1; rw [if_pos rfl, if_neg (by omega), if_pos (by omega)]
  · rw [if_neg h1]
    by_cases h2 : i < m
    · rw [if_pos h2, if_pos h2]
    · rw [if_neg h2, if_neg h2]
      by_cases h3 : i < k
      · rw [if_pos h3, if_pos (by omega)]
      · rw [if_neg h3, if_neg (by omega)]
theorem narF_last (y m : Nat) : numB (narF y m 64) 64 = narB y m := by
  apply ext64 (numB_lt _ _) (numB_lt _ _)
  intro i hi
  rw [testBit_numB, testBit_numB]
  simp [hi, narF]
end Bx
end Go.Proofs.YtmhabodijmnldaaDoor
namespace Go.Proofs.YtmhabodijmnldaaDoor
namespace Bx
open Go.RowKit

/-- The sum of the first n. -/
def sumf (f : Nat → Nat) : Nat → Nat
  | 0 => 0
  | n + 1 => sumf f n + f n
theorem sumf_congr {f g : Nat → Nat} {n : Nat} (h : ∀ i, i < n → f i = g i) : sumf f n = sumf g n := by
  induction n with
  | zero => rfl
  | succ n ih => simp only [sumf]; rw [ih (fun i hi => h i (by omega)), h n (by omega)]
theorem sumf_add (f : Nat → Nat) (m n : Nat) : sumf f (m + n) = sumf f m + sumf (fun j => f (m + j)) n := by
  induction n with
  | zero => rfl
  | succ n ih => rw [← Nat.add_assoc]; simp only [sumf]; rw [ih]; omega
theorem sumf_zero (f : Nat → Nat) (n : Nat) (h : ∀ i, i < n → f i = 0) : sumf f n = 0 := by
  induction n with
  | zero => rfl
  | succ n ih => simp only [sumf]; rw [ih (fun i hi => h i (by omega)), h n (by omega)]
theorem sumf_pairs (f : Nat → Nat) (n : Nat) : sumf (fun j => f (2 * j) + f (2 * j + 1)) n = sumf f (2 * n) := by
  induction n with
  | zero => rfl
  | succ n ih => rw [show 2 * (n + 1) = 2 * n + 1 + 1 by omega]; simp only [sumf]; rw [ih]; omega
/-- How many of the 64 bits are set. -/
def pop (x : Nat) : Nat := sumf (fun i => (x.testBit i).toNat) 64

/-- n digits of b bits each. -/
def dig (b : Nat) (f : Nat → Nat) : Nat → Nat
  | 0 => 0
  | n + 1 => dig b f n + 2 ^ (b * n) * f n
theorem dig_lt (b : Nat) (f : Nat → Nat) (n : Nat) (h : ∀ i, i < n → f i < 2 ^ b) : dig b f n < 2 ^ (b * n) := by
  induction n with
  | zero => simp [dig]
  | succ n ih =>
    have h1 := ih (fun i hi => h i (by omega))
    have h2 := h n (by omega)
    simp only [dig]
    rw [Nat.mul_succ, Nat.pow_add]
    have h3 : 2 ^ (b * n) * (f n + 1) ≤ 2 ^ (b * n) * 2 ^ b := Nat.mul_le_mul_left _ h2
    rw [Nat.mul_succ] at h3
    omega
theorem testBit_dig (b : Nat) (hb : 0 < b) (f : Nat → Nat) (n : Nat) (h : ∀ i, i < n → f i < 2 ^ b) (i : Nat) :
    (dig b f n).testBit i = (decide (i < b * n) && (f (i / b)).testBit (i % b)) := by
  induction n with
  | zero => simp [dig]
  | succ n ih =>
    have h1 := ih (fun i hi => h i (by omega))
    have hl := dig_lt b f n (fun i hi => h i (by omega))
    have h2 := h n (by omega)
    simp only [dig]
    rw [Nat.add_comm, Nat.testBit_two_pow_mul_add _ hl, Nat.mul_succ]
    by_cases h3 : i < b * n
    · rw [if_pos h3, h1]; simp [h3, show i < b * n + b by omega]
    · rw [if_neg h3]
      by_cases h4 : i < b * n + b
      · have e1 : i / b = n := by
          rw [Nat.div_eq_iff hb]; rw [Nat.mul_comm] at h3 h4; constructor
          · omega
          · omega
        have e2 : i % b = i - b * n := by
          have := Nat.div_add_mod i b; rw [e1] at this; omega
        simp [h4, e1, e2]
      · simp only [h4, decide_false, Bool.false_and]
        apply Nat.testBit_lt_two_pow
        exact Nat.lt_of_lt_of_le h2 (Nat.pow_le_pow_right (by omega) (by omega))
theorem dig_add (b : Nat) (f g : Nat → Nat) (n : Nat) : dig b f n + dig b g n = dig b (fun i => f i + g i) n := by
  induction n with
  | zero => rfl
  | succ n ih => simp only [dig]; rw [← ih, Nat.mul_add]; omega
theorem dig_one (x : Nat) (hx : x < 2 ^ 64) : x = dig 1 (fun i => (x.testBit i).toNat) 64 := by
  have hb : ∀ i, i < 64 → (fun i => (x.testBit i).toNat) i < 2 ^ 1 := fun i _ => by
    show (x.testBit i).toNat < 2; cases x.testBit i <;> decide
  apply ext64 hx (by have := dig_lt 1 _ 64 hb; simpa using this)
  intro i hi
  rw [testBit_dig 1 (by decide) _ _ hb]
  simp only [Nat.div_one, Nat.mod_one, Nat.one_mul, hi, decide_true, Bool.true_and]
  cases x.testBit i <;> rfl

/-- Every second digit, from the first or from the second one on: what a mask of alternate fields leaves. -/
theorem mask_pairs (b n m : Nat) (hb : 0 < b) (hn : b * (2 * n) ≤ 64) (f : Nat → Nat) (hf : ∀ i, i < 2 * n → f i < 2 ^ b) (s : Nat) (hs : s < 2)
    (hm : ∀ i, i < 64 → m.testBit i = decide (i % (2 * b) < b)) (hm64 : m < 2 ^ 64) :
    (dig b f (2 * n) / 2 ^ (b * s)) &&& m = dig (2 * b) (fun j => f (2 * j + s)) n := by
  have hf2 : ∀ i, i < n → (fun j => f (2 * j + s)) i < 2 ^ (2 * b) := fun i hi =>
    Nat.lt_of_lt_of_le (hf (2 * i + s) (by omega)) (Nat.pow_le_pow_right (by omega) (by omega))
  have hlt : dig (2 * b) (fun j => f (2 * j + s)) n < 2 ^ 64 :=
    Nat.lt_of_lt_of_le (dig_lt _ _ _ hf2) (Nat.pow_le_pow_right (by omega) (by rw [Nat.mul_comm 2 b, Nat.mul_assoc]; exact hn))
  apply ext64 (Nat.lt_of_le_of_lt Nat.and_le_right hm64) hlt
  intro i hi
  rw [Nat.testBit_and, Nat.testBit_div_two_pow, hm i hi, testBit_dig b hb f _ hf, testBit_dig (2 * b) (by omega) _ n hf2]
  have e2 : 2 * b * n = b * (2 * n) := by rw [Nat.mul_comm 2 b, Nat.mul_assoc]
  rw [e2]
  obtain ⟨q, hq⟩ : ∃ q, q = i / (2 * b) := ⟨_, rfl⟩
  obtain ⟨r, hr⟩ : ∃ r, r = i % (2 * b) := ⟨_, rfl⟩
  have hi2 : i = 2 * b * q + r := by rw [hq, hr]; exact (Nat.div_add_mod _ _).symm
  have hr2 : r < 2 * b := by rw [hr]; exact Nat.mod_lt _ (by omega)
  rw [← hq, ← hr]
  by_cases h1 : r < b
  · have e3 : i + b * s = b * (2 * q + s) + r := by
      rw [hi2, Nat.mul_add, Nat.mul_comm 2 b, Nat.mul_assoc]; omega
    have e4 : (i + b * s) / b = 2 * q + s := by rw [e3, Nat.mul_add_div hb, Nat.div_eq_of_lt h1]; omega
    have e5 : (i + b * s) % b = r := by rw [e3, Nat.mul_add_mod, Nat.mod_eq_of_lt h1]
    rw [e4, e5]
    simp only [h1, decide_true, Bool.and_true]
    congr 1
    rw [decide_eq_decide]
    have hql : q < n ↔ i < b * (2 * n) := by
      rw [← e2, hq, Nat.div_lt_iff_lt_mul (by omega), Nat.mul_comm]
    constructor
    · intro h
      have : b * s ≥ 0 := Nat.zero_le _
      omega
    · intro h
      have hqn := hql.2 h
      have : b * (2 * q + s) + r < b * (2 * q + s) + b := by omega
      have h6 : b * (2 * q + s + 1) ≤ b * (2 * n) := Nat.mul_le_mul_left _ (by omega)
      rw [Nat.mul_succ] at h6
      omega
  · simp only [h1, decide_false, Bool.and_false]
    by_cases h7 : i < b * (2 * n)
    · have hqn : q < n := by
        rw [hq, Nat.div_lt_iff_lt_mul (by omega), Nat.mul_comm]; rw [e2]; exact h7
      have h8 := hf (2 * q + s) (by omega)
      have h9 : (f (2 * q + s)).testBit r = false := Nat.testBit_lt_two_pow (Nat.lt_of_lt_of_le h8 (Nat.pow_le_pow_right (by omega) (by omega)))
      simp [h9]
    · simp [h7]

theorem tb0 : ∀ i, i < 64 → (6148914691236517205 : Nat).testBit i = decide (i % (2 * 1) < 1) := by decide
theorem tb1 : ∀ i, i < 64 → (3689348814741910323 : Nat).testBit i = decide (i % (2 * 2) < 2) := by decide
theorem tb2 : ∀ i, i < 64 → (1085102592571150095 : Nat).testBit i = decide (i % (2 * 4) < 4) := by decide

def s1 (x : Int) : Int := IntKind.u64.wrap (bits .and .u64 (x / 2) 6148914691236517205 + bits .and .u64 x 6148914691236517205)
def s2 (x : Int) : Int := IntKind.u64.wrap (bits .and .u64 (x / 4) 3689348814741910323 + bits .and .u64 x 3689348814741910323)
def s3 (x : Int) : Int := bits .and .u64 (IntKind.u64.wrap (x / 16 + x)) 1085102592571150095
def s4 (x : Int) : Int := IntKind.u64.wrap (x + x / 256)
def s5 (x : Int) : Int := IntKind.u64.wrap (x + x / 65536)
def s6 (x : Int) : Int := IntKind.u64.wrap (x + x / 4294967296)
def s7 (x : Int) : Int := bits .and .i64 (wrap64 x) 127

theorem dig_first (b : Nat) (f : Nat → Nat) (n : Nat) : dig b f (n + 1) = f 0 + 2 ^ b * dig b (fun j => f (j + 1)) n := by
  induction n with
  | zero => simp [dig]
  | succ n ih =>
    have e : dig b f (n + 1 + 1) = dig b f (n + 1) + 2 ^ (b * (n + 1)) * f (n + 1) := rfl
    rw [e, ih]
    simp only [dig]
    rw [Nat.mul_succ b n, Nat.pow_add, Nat.mul_comm (2 ^ (b * n)) (2 ^ b), Nat.mul_assoc, Nat.mul_add]
    omega
theorem dig_shift (b : Nat) (f : Nat → Nat) (n : Nat) (h0 : f 0 < 2 ^ b) : dig b f (n + 1) / 2 ^ b = dig b (fun j => f (j + 1)) n := by
  rw [dig_first, Nat.add_mul_div_left _ _ (Nat.two_pow_pos b), Nat.div_eq_of_lt h0, Nat.zero_add]

theorem step_pairs (b n m p : Nat) (hp : p = 2 ^ b) (hb : 0 < b) (hn : b * (2 * n) = 64) (f : Nat → Nat) (hf : ∀ i, i < 2 * n → f i < 2 ^ b)
    (hm : ∀ i, i < 64 → m.testBit i = decide (i % (2 * b) < b)) (hm64 : m < 2 ^ 64) (hsum : ∀ i, i < n → f (2 * i) + f (2 * i + 1) < 2 ^ (2 * b)) :
    IntKind.u64.wrap (bits .and .u64 (((dig b f (2 * n) / p : Nat) : Int)) (m : Int) + bits .and .u64 ((dig b f (2 * n) : Nat) : Int) (m : Int)) = ((dig (2 * b) (fun j => f (2 * j) + f (2 * j + 1)) n : Nat) : Int) := by
  have hD : dig b f (2 * n) < 2 ^ 64 := by have := dig_lt b f (2 * n) hf; rwa [hn] at this
  have hD2 : dig b f (2 * n) / p < 2 ^ 64 := Nat.lt_of_le_of_lt (Nat.div_le_self _ _) hD
  rw [u64_and_nat _ _ hD2 hm64, u64_and_nat _ _ hD hm64]
  have h1 := mask_pairs b n m hb (by omega) f hf 1 (by omega) hm hm64
  have h0 := mask_pairs b n m hb (by omega) f hf 0 (by omega) hm hm64
  rw [Nat.mul_one, ← hp] at h1
  rw [Nat.mul_zero, Nat.pow_zero, Nat.div_one] at h0
  rw [h1, h0, ← Int.natCast_add, Nat.add_comm, dig_add]
  have hl := dig_lt (2 * b) (fun j => f (2 * j) + f (2 * j + 1)) n hsum
  rw [show 2 * b * n = 64 by rw [Nat.mul_comm 2 b, Nat.mul_assoc, hn]] at hl
  rw [IntKind.wrap_u64]
  generalize dig (2 * b) (fun j => f (2 * j) + f (2 * j + 1)) n = q at *
  omega

theorem s1_eq (f : Nat → Nat) (hf : ∀ i, i < 64 → f i < 2) : s1 ((dig 1 f 64 : Nat) : Int) = ((dig 2 (fun j => f (2 * j) + f (2 * j + 1)) 32 : Nat) : Int) := by
  have h := step_pairs 1 32 6148914691236517205 2 rfl (by decide) rfl f hf tb0 (by decide) (fun i hi => by have := hf (2 * i) (by omega); have := hf (2 * i + 1) (by omega); omega)
  unfold s1
  rw [show ((dig 1 f 64 : Nat) : Int) / 2 = ((dig 1 f 64 / 2 : Nat) : Int) by omega]
  exact h
theorem s2_eq (f : Nat → Nat) (hf : ∀ i, i < 32 → f i ≤ 2) : s2 ((dig 2 f 32 : Nat) : Int) = ((dig 4 (fun j => f (2 * j) + f (2 * j + 1)) 16 : Nat) : Int) := by
  have h := step_pairs 2 16 3689348814741910323 4 rfl (by decide) rfl f (fun i hi => by have := hf i hi; omega) tb1 (by decide) (fun i hi => by have := hf (2 * i) (by omega); have := hf (2 * i + 1) (by omega); omega)
  unfold s2
  rw [show ((dig 2 f 32 : Nat) : Int) / 4 = ((dig 2 f 32 / 4 : Nat) : Int) by omega]
  exact h
theorem dig_congr {b : Nat} {f g : Nat → Nat} {n : Nat} (h : ∀ i, i < n → f i = g i) : dig b f n = dig b g n := by
  induction n with
  | zero => rfl
  | succ n ih => simp only [dig]; rw [ih (fun i hi => h i (by omega)), h n (by omega)]
theorem s3_eq (f : Nat → Nat) (hf : ∀ i, i < 16 → f i ≤ 4) : s3 ((dig 4 f 16 : Nat) : Int) = ((dig 8 (fun j => f (2 * j) + f (2 * j + 1)) 8 : Nat) : Int) := by
  have hg : dig 4 f 16 / 16 + dig 4 f 16 = dig 4 (fun j => f j + if j < 15 then f (j + 1) else 0) 16 := by
    have h1 := dig_shift 4 f 15 (by have := hf 0 (by omega); omega)
    rw [show (2 : Nat) ^ 4 = 16 from rfl] at h1
    have h2 : dig 4 (fun j => f (j + 1)) 15 = dig 4 (fun j => if j < 15 then f (j + 1) else 0) 16 := by
      have e : dig 4 (fun j => if j < 15 then f (j + 1) else 0) 16 = dig 4 (fun j => if j < 15 then f (j + 1) else 0) 15 := by simp [dig]
      rw [e]; exact dig_congr (fun i hi => by simp [hi])
    rw [h1, h2, Nat.add_comm, dig_add]
  have hb : ∀ i, i < 16 → (fun j => f j + if j < 15 then f (j + 1) else 0) i < 2 ^ 4 := fun i hi => by
    show f i + (if i < 15 then f (i + 1) else 0) < 16
    have := hf i hi
    split
    · have := hf (i + 1) (by omega); omega
    · omega
  have hl := dig_lt 4 _ 16 hb
  unfold s3
  rw [show ((dig 4 f 16 : Nat) : Int) / 16 + ((dig 4 f 16 : Nat) : Int) = ((dig 4 f 16 / 16 + dig 4 f 16 : Nat) : Int) by omega, hg]
  have hw : IntKind.u64.wrap ((dig 4 (fun j => f j + if j < 15 then f (j + 1) else 0) 16 : Nat) : Int) = ((dig 4 (fun j => f j + if j < 15 then f (j + 1) else 0) 16 : Nat) : Int) := by
    rw [IntKind.wrap_u64]
    generalize dig 4 (fun j => f j + if j < 15 then f (j + 1) else 0) 16 = q at *
    omega
  rw [hw, show (1085102592571150095 : Int) = ((1085102592571150095 : Nat) : Int) from rfl, u64_and_nat _ _ hl (by decide)]
  have h0 := mask_pairs 4 8 1085102592571150095 (by decide) (by decide) _ hb 0 (by decide) tb2 (by decide)
  rw [Nat.mul_zero, Nat.pow_zero, Nat.div_one] at h0
  rw [h0]
  exact congrArg (fun n : Nat => (n : Int)) (dig_congr (fun i hi => by simp [show 2 * i < 15 by omega]))
theorem wraps_i64 (n : Int) (h₀ : 0 ≤ n) (h₁ : n < 2 ^ 63) : IntKind.i64.wrap n = n := by rw [IntKind.wrap_i64]; omega
theorem wrap_small (n : Nat) (h : n < 18446744073709551616) : IntKind.u64.wrap (n : Int) = (n : Int) := by rw [IntKind.wrap_u64]; omega
theorem s7_num (u : Nat) (h : u < 9223372036854775808) : s7 (u : Int) = ((u % 128 : Nat) : Int) := by
  unfold s7
  have e8 : wrap64 (u : Int) = u := by unfold wrap64; omega
  have e9 : bits .and .i64 (u : Int) (2 ^ 7 - 1) = (u : Int) % 2 ^ 7 := bits_mask .i64 63 (by decide) wraps_i64 7 (by decide) (u : Int) (by omega) (by omega)
  rw [e8, show (127 : Int) = 2 ^ 7 - 1 by decide, e9]
  omega
theorem tail_num (a0 a1 a2 a3 a4 a5 a6 a7 x x1 x2 x3 x4 x5 x6 : Nat) (h0 : a0 ≤ 8) (h1 : a1 ≤ 8) (h2 : a2 ≤ 8) (h3 : a3 ≤ 8) (h4 : a4 ≤ 8) (h5 : a5 ≤ 8) (h6 : a6 ≤ 8) (h7 : a7 ≤ 8)
    (e6 : x6 = a6 + 256 * a7) (e5 : x5 = a5 + 256 * x6) (e4 : x4 = a4 + 256 * x5) (e3 : x3 = a3 + 256 * x4) (e2 : x2 = a2 + 256 * x3) (e1 : x1 = a1 + 256 * x2) (e0 : x = a0 + 256 * x1) :
    s7 (s6 (s5 (s4 (x : Int)))) = ((a0 + a1 + a2 + a3 + a4 + a5 + a6 + a7 : Nat) : Int) := by
  have b6 : x6 ≤ 2056 := by omega
  have b5 : x5 ≤ 526344 := by omega
  have b4 : x4 ≤ 134744072 := by omega
  have b3 : x3 ≤ 34494482440 := by omega
  have b2 : x2 ≤ 8830587504648 := by omega
  have b1 : x1 ≤ 2260630401189896 := by omega
  have b0 : x ≤ 578721382704613384 := by omega
  have d4 : s4 (x : Int) = ((x + x1 : Nat) : Int) := by
    unfold s4
    rw [show (x : Int) + (x : Int) / 256 = ((x + x1 : Nat) : Int) by omega]
    exact wrap_small _ (by omega)
  have d5 : s5 ((x + x1 : Nat) : Int) = ((x + x1 + (x2 + x3) : Nat) : Int) := by
    unfold s5
    have q : (x + x1) / 65536 = x2 + x3 := by omega
    rw [show ((x + x1 : Nat) : Int) + ((x + x1 : Nat) : Int) / 65536 = ((x + x1 + (x + x1) / 65536 : Nat) : Int) by omega, q]
    exact wrap_small _ (by omega)
  have d6 : s6 ((x + x1 + (x2 + x3) : Nat) : Int) = ((x + x1 + (x2 + x3) + (x4 + x5 + (x6 + a7)) : Nat) : Int) := by
    unfold s6
    have q : (x + x1 + (x2 + x3)) / 4294967296 = x4 + x5 + (x6 + a7) := by
      have f3 : x3 = a3 + 256 * (a4 + 256 * (a5 + 256 * a6)) + 4294967296 * a7 := by omega
      have f2 : x2 = a2 + 256 * (a3 + 256 * (a4 + 256 * a5)) + 4294967296 * x6 := by omega
      have f1 : x1 = a1 + 256 * (a2 + 256 * (a3 + 256 * a4)) + 4294967296 * x5 := by omega
      have f0 : x = a0 + 256 * (a1 + 256 * (a2 + 256 * a3)) + 4294967296 * x4 := by omega
      obtain ⟨g, hg⟩ : ∃ g, g = a3 + 256 * (a4 + 256 * (a5 + 256 * a6)) + (a2 + 256 * (a3 + 256 * (a4 + 256 * a5))) + (a1 + 256 * (a2 + 256 * (a3 + 256 * a4))) + (a0 + 256 * (a1 + 256 * (a2 + 256 * a3))) := ⟨_, rfl⟩
      have hgl : g < 4294967296 := by clear f0 f1 f2 f3 e0 e1 e2 e3 e4 e5 e6 d4 d5 b0 b1 b2 b3 b4 b5 b6; omega
      rw [show x + x1 + (x2 + x3) = g + 4294967296 * (x4 + x5 + (x6 + a7)) by clear e0 e1 e2 e3 e4 e5 e6 d4 d5 b0 b1 b2 b3 b4 b5 b6 hgl h0 h1 h2 h3 h4 h5 h6 h7; omega]
      rw [Nat.add_mul_div_left _ _ (by decide), Nat.div_eq_of_lt hgl, Nat.zero_add]
    rw [show ((x + x1 + (x2 + x3) : Nat) : Int) + ((x + x1 + (x2 + x3) : Nat) : Int) / 4294967296 = ((x + x1 + (x2 + x3) + (x + x1 + (x2 + x3)) / 4294967296 : Nat) : Int) by omega, q]
    exact wrap_small _ (by omega)
  rw [d4, d5, d6]
  obtain ⟨u, hu⟩ : ∃ u, u = x + x1 + (x2 + x3) + (x4 + x5 + (x6 + a7)) := ⟨_, rfl⟩
  have hub : u < 9223372036854775808 := by omega
  rw [← hu]
  have e10 : u = (a0 + a1 + a2 + a3 + a4 + a5 + a6 + a7) + 128 * (2 * (x1 + (x2 + (x3 + (x4 + (x5 + (x6 + a7))))))) := by
    clear d4 d5 d6 hub b0 b1 b2 b3 b4 b5 b6 h0 h1 h2 h3 h4 h5 h6 h7
    omega
  rw [s7_num u hub, e10, Nat.add_mul_mod_self_left, Nat.mod_eq_of_lt (by clear d4 d5 d6 hub b0 b1 b2 b3 b4 b5 b6 e0 e1 e2 e3 e4 e5 e6 hu e10; omega)]
theorem tail_eq (f : Nat → Nat) (hf : ∀ i, i < 8 → f i ≤ 8) : s7 (s6 (s5 (s4 ((dig 8 f 8 : Nat) : Int)))) = ((sumf f 8 : Nat) : Int) := by
  have e2 : sumf f 8 = f 0 + f 1 + f 2 + f 3 + f 4 + f 5 + f 6 + f 7 := by simp [sumf]
  rw [e2]
  refine tail_num _ _ _ _ _ _ _ _ _ _ _ _ _ _ _ (hf 0 (by decide)) (hf 1 (by decide)) (hf 2 (by decide)) (hf 3 (by decide)) (hf 4 (by decide)) (hf 5 (by decide)) (hf 6 (by decide)) (hf 7 (by decide)) rfl rfl rfl rfl rfl rfl ?_
  rw [dig_first, dig_first, dig_first, dig_first, dig_first, dig_first, dig_first]
  simp [dig]
theorem pop_val (x : Nat) (hx : x < 18446744073709551616) : s7 (s6 (s5 (s4 (s3 (s2 (s1 (x : Int))))))) = ((pop x : Nat) : Int) := by
  have hb : ∀ i, (x.testBit i).toNat < 2 := fun i => by cases x.testBit i <;> decide
  rw [dig_one x hx, s1_eq _ (fun i _ => hb i), s2_eq _ (fun i _ => by have := hb (2 * i); have := hb (2 * i + 1); omega),
    s3_eq _ (fun i _ => by have := hb (2 * (2 * i)); have := hb (2 * (2 * i) + 1); have := hb (2 * (2 * i + 1)); have := hb (2 * (2 * i + 1) + 1); omega),
    tail_eq]
  · rw [sumf_pairs (fun j => (x.testBit (2 * (2 * j))).toNat + (x.testBit (2 * (2 * j) + 1)).toNat + ((x.testBit (2 * (2 * j + 1))).toNat + (x.testBit (2 * (2 * j + 1) + 1)).toNat)) 8]
    rw [sumf_pairs (fun j => (x.testBit (2 * j)).toNat + (x.testBit (2 * j + 1)).toNat) 16, sumf_pairs (fun j => (x.testBit j).toNat) 32]
    rw [← dig_one x hx]; rfl
  · intro i _
    have h0 := hb (2 * (2 * (2 * i))); have h1 := hb (2 * (2 * (2 * i)) + 1); have h2 := hb (2 * (2 * (2 * i) + 1)); have h3 := hb (2 * (2 * (2 * i) + 1) + 1)
    have h4 := hb (2 * (2 * (2 * i + 1))); have h5 := hb (2 * (2 * (2 * i + 1)) + 1); have h6 := hb (2 * (2 * (2 * i + 1) + 1)); have h7 := hb (2 * (2 * (2 * i + 1) + 1) + 1)
    omega
end Bx
end Go.Proofs.YtmhabodijmnldaaDoor
namespace Go.Proofs.YtmhabodijmnldaaDoor
open Go.RowKit Bx

theorem isMember_is (i : Int) (b : Bool) (hb : memB i = b) (w : World) :
    Calls Tryd.prog 44 #[.int .i64 i] w fun e w' => e = .returned (.bool b) ∧ w = w' := by
  by_cases h0 : 0 ≤ i
  · have hb' : decide (i < 64) = b := by simpa [memB, h0] using hb
    go_enter Tryd.func44, Tryd.ntmps44
    go_wp2
    go_ret
    exact ⟨rfl, rfl⟩
  · obtain rfl : b = false := by simpa [memB, h0] using hb.symm
    clear hb
    go_enter Tryd.func44, Tryd.ntmps44
    go_wp2
    go_ret
    exact ⟨rfl, rfl⟩
theorem has_is (x : Nat) (hx : x < 18446744073709551616) (i : Int) (w : World) :
    Calls Tryd.prog 33 #[.int .u64 x, .int .i64 i] w fun e w' => e = .returned (.bool (memB i && x.testBit i.toNat)) ∧ w = w' := by
  by_cases h0 : memB i = true
  · obtain ⟨h1, h2⟩ := memB_true h0
    obtain ⟨k, rfl⟩ := Int.eq_ofNat_of_zero_le h1
    rw [h0, Bool.true_and, Int.toNat_natCast]
    have H0 := Lib.hid h0
    clear h0
    go_enter Tryd.func33, Tryd.ntmps33
    go_wp2_with fail
    refine (isMember_is _ _ H0.out _).mono ?_
    rintro e w' ⟨rfl, rfl⟩
    go_wp2
    go_ret
    exact ⟨ret_bool (has_bit x hx k), rfl⟩
  · have h1 : memB i = false := by simpa using h0
    rw [h1, Bool.false_and]
    have H0 := Lib.hid h1
    clear h0 h1
    go_enter Tryd.func33, Tryd.ntmps33
    go_wp2_with fail
    refine (isMember_is _ _ H0.out _).mono ?_
    rintro e w' ⟨rfl, rfl⟩
    go_wp2
    go_ret
    exact ⟨rfl, rfl⟩
end Go.Proofs.YtmhabodijmnldaaDoor
namespace Go.Proofs.YtmhabodijmnldaaDoor
open Go.RowKit Ex Bx
set_option maxRecDepth 100000
def isPlK (p : Int) : Bool := decide (p = 0) || decide (p = 1)
theorem isPlayer_code (p : Int) (w : World) : Calls Tryd.prog 22 #[.int .i64 p] w fun e w' => e = .returned (.bool (isPlK p)) ∧ w = w' := by
  unfold isPlK
  by_cases h0 : p = 0
  · subst h0
    go_enter Tryd.func22, Tryd.ntmps22
    go_wp2_with fail
    go_ret
    exact ⟨rfl, rfl⟩
  by_cases h1 : p = 1
  · subst h1
    go_enter Tryd.func22, Tryd.ntmps22
    go_wp2_with fail
    go_ret
    exact ⟨rfl, rfl⟩
  rw [decide_eq_false h0, decide_eq_false h1]
  have d0 : (p == 0) = false := by simp [h0]
  have d1 : (p == 1) = false := by simp [h1]
  clear h0 h1
  go_enter Tryd.func22, Tryd.ntmps22
  go_wp2_with fail
  go_ret
  exact ⟨rfl, rfl⟩
theorem bitK_has (x p : Int) (u : Nat) (h0 : (u : Int) % 2 = x % 2) (h1 : (u : Int) / 2 % 2 = x / 2 % 2) (hp : p = 0 ∨ p = 1) : (memB p && u.testBit p.toNat) = bitK x p := by
  rcases hp with rfl | rfl
  · rw [bit0, show memB 0 = true from rfl, Bool.true_and, show (0 : Int).toNat = 0 from rfl, Nat.testBit_zero, decide_eq_decide]; omega
  · rw [bit1, show memB 1 = true from rfl, Bool.true_and, show (1 : Int).toNat = 1 from rfl, Nat.testBit_succ, Nat.testBit_zero, decide_eq_decide]; omega
set_option maxHeartbeats 0 in
theorem knows_code (o : Nat → Int) (p : Int) (w : World) : Calls Tryd.prog 16 #[.agg (arr .i64 18 o), .int .i64 p] w fun en w' => en = .returned (.bool (bitK (o 17) p)) ∧ Below w.heap.size w w' := by
  obtain ⟨u, hu, hu2, h0, h1⟩ := wrap_bits (o 17)
  have hb : Below w.heap.size w (w.alloc (.cells (arr .i64 18 o) 49)) := (Below.refl _ _).alloc (Nat.le_refl _) _
  have ha : ArrAt .i64 18 49 (w.alloc (.cells (arr .i64 18 o) 49)) w.heap.size o := ArrAt.new _ _ _ _ _
  have c17 := ha.cell (show 17 < 18 by omega)
  clear ha
  have HB := Lib.hid hb
  obtain ⟨b, hbe⟩ : ∃ b, b = bitK (o 17) p := ⟨_, rfl⟩
  rw [← hbe]
  by_cases hp : p = 0 ∨ p = 1
  · have hpl : isPlK p = true := by unfold isPlK; rcases hp with h | h <;> simp [h]
    have HH := Lib.hid (fun W => has_is u hu2 p W)
    rw [bitK_has _ _ _ h0 h1 hp, ← hbe] at HH
    have HP := Lib.hid (fun W => isPlayer_code p W)
    rw [hpl] at HP
    clear hbe hp h0 h1 hu2 hb hpl
    go_enter Tryd.func16, Tryd.ntmps16
    go_upto_region 1 with fail
    go_wp2_with fail
    refine (HP.out _).mono ?_
    rintro en w2 ⟨rfl, rfl⟩
    go_wp2_with fail
    refine (HH.out _).mono ?_
    rintro en w3 ⟨rfl, rfl⟩
    go_wp2_with fail
    go_ret
    exact ⟨rfl, HB.out⟩
  · have hpl : isPlK p = false := by unfold isPlK; simp; omega
    have HP := Lib.hid (fun W => isPlayer_code p W)
    rw [hpl] at HP
    obtain rfl : b = false := by rw [hbe]; exact bitN (fun h => hp (.inl h)) (fun h => hp (.inr h))
    clear hbe hp h0 h1 hu2 hb hpl
    go_enter Tryd.func16, Tryd.ntmps16
    go_upto_region 1 with fail
    go_wp2_with fail
    refine (HP.out _).mono ?_
    rintro en w2 ⟨rfl, rfl⟩
    go_wp2_with fail
    go_ret
    exact ⟨rfl, HB.out⟩
set_option maxHeartbeats 0 in
theorem zone_codeK (z : Int) (w : World) : Calls Tryd.prog 20 #[.int .i64 z] w fun en w' => en = .returned (.int .i64 (zoneK z)) ∧ Below w.heap.size w w' := by
  suffices hh : Calls Tryd.prog 20 #[.int .i64 z] w fun en w' => en = .returned (.int .i64 (zoneK z)) ∧ w = w' from hh.mono fun en w' h => ⟨h.1, h.2 ▸ Below.refl _ _⟩
  by_cases hr : 0 ≤ z ∧ z ≤ 10
  · have hk : z = 0 ∨ z = 1 ∨ z = 2 ∨ z = 3 ∨ z = 4 ∨ z = 5 ∨ z = 6 ∨ z = 7 ∨ z = 8 ∨ z = 9 ∨ z = 10 := by omega
    clear hr
    rcases hk with rfl | rfl | rfl | rfl | rfl | rfl | rfl | rfl | rfl | rfl | rfl
    ·
      have HS := Lib.hid (side_code 0 w)
      rw [show sideB 0 = 0 from rfl, show sideP 0 = 0 from rfl, show sideO 0 = true from rfl] at HS
      rw [show zoneK 0 = 0 from rfl]
      go_enter Tryd.func20, Tryd.ntmps20
      go_wp2_with fail
      refine HS.out.mono ?_
      rintro en w' ⟨rfl, rfl⟩
      go_wp2_with fail
      go_ret
      exact ⟨rfl, rfl⟩
    ·
      have HS := Lib.hid (side_code 1 w)
      rw [show sideB 1 = 0 from rfl, show sideP 1 = 1 from rfl, show sideO 1 = true from rfl] at HS
      rw [show zoneK 1 = 0 from rfl]
      go_enter Tryd.func20, Tryd.ntmps20
      go_wp2_with fail
      refine HS.out.mono ?_
      rintro en w' ⟨rfl, rfl⟩
      go_wp2_with fail
      go_ret
      exact ⟨rfl, rfl⟩
    ·
      have HS := Lib.hid (side_code 2 w)
      rw [show sideB 2 = 2 from rfl, show sideP 2 = 0 from rfl, show sideO 2 = true from rfl] at HS
      rw [show zoneK 2 = 1 from rfl]
      go_enter Tryd.func20, Tryd.ntmps20
      go_wp2_with fail
      refine HS.out.mono ?_
      rintro en w' ⟨rfl, rfl⟩
      go_wp2_with fail
      go_ret
      exact ⟨rfl, rfl⟩
    ·
      have HS := Lib.hid (side_code 3 w)
      rw [show sideB 3 = 2 from rfl, show sideP 3 = 1 from rfl, show sideO 3 = true from rfl] at HS
      rw [show zoneK 3 = 2 from rfl]
      go_enter Tryd.func20, Tryd.ntmps20
      go_wp2_with fail
      refine HS.out.mono ?_
      rintro en w' ⟨rfl, rfl⟩
      go_wp2_with fail
      go_ret
      exact ⟨rfl, rfl⟩
    ·
      have HS := Lib.hid (side_code 4 w)
      rw [show sideB 4 = 4 from rfl, show sideP 4 = 0 from rfl, show sideO 4 = true from rfl] at HS
      rw [show zoneK 4 = 3 from rfl]
      go_enter Tryd.func20, Tryd.ntmps20
      go_wp2_with fail
      refine HS.out.mono ?_
      rintro en w' ⟨rfl, rfl⟩
      go_wp2_with fail
      go_ret
      exact ⟨rfl, rfl⟩
    ·
      have HS := Lib.hid (side_code 5 w)
      rw [show sideB 5 = 4 from rfl, show sideP 5 = 1 from rfl, show sideO 5 = true from rfl] at HS
      rw [show zoneK 5 = 3 from rfl]
      go_enter Tryd.func20, Tryd.ntmps20
      go_wp2_with fail
      refine HS.out.mono ?_
      rintro en w' ⟨rfl, rfl⟩
      go_wp2_with fail
      go_ret
      exact ⟨rfl, rfl⟩
    ·
      have HS := Lib.hid (side_code 6 w)
      rw [show sideB 6 = 6 from rfl, show sideP 6 = 0 from rfl, show sideO 6 = true from rfl] at HS
      rw [show zoneK 6 = 3 from rfl]
      go_enter Tryd.func20, Tryd.ntmps20
      go_wp2_with fail
      refine HS.out.mono ?_
      rintro en w' ⟨rfl, rfl⟩
      go_wp2_with fail
      go_ret
      exact ⟨rfl, rfl⟩
    ·
      have HS := Lib.hid (side_code 7 w)
      rw [show sideB 7 = 6 from rfl, show sideP 7 = 1 from rfl, show sideO 7 = true from rfl] at HS
      rw [show zoneK 7 = 3 from rfl]
      go_enter Tryd.func20, Tryd.ntmps20
      go_wp2_with fail
      refine HS.out.mono ?_
      rintro en w' ⟨rfl, rfl⟩
      go_wp2_with fail
      go_ret
      exact ⟨rfl, rfl⟩
    ·
      have HS := Lib.hid (side_code 8 w)
      rw [show sideB 8 = 8 from rfl, show sideP 8 = 0 from rfl, show sideO 8 = false from rfl] at HS
      rw [show zoneK 8 = 3 from rfl]
      go_enter Tryd.func20, Tryd.ntmps20
      go_wp2_with fail
      refine HS.out.mono ?_
      rintro en w' ⟨rfl, rfl⟩
      go_wp2_with fail
      go_ret
      exact ⟨rfl, rfl⟩
    ·
      have HS := Lib.hid (side_code 9 w)
      rw [show sideB 9 = 9 from rfl, show sideP 9 = 0 from rfl, show sideO 9 = false from rfl] at HS
      rw [show zoneK 9 = 3 from rfl]
      go_enter Tryd.func20, Tryd.ntmps20
      go_wp2_with fail
      refine HS.out.mono ?_
      rintro en w' ⟨rfl, rfl⟩
      go_wp2_with fail
      go_ret
      exact ⟨rfl, rfl⟩
    ·
      have HS := Lib.hid (side_code 10 w)
      rw [show sideB 10 = 10 from rfl, show sideP 10 = 0 from rfl, show sideO 10 = false from rfl] at HS
      rw [show zoneK 10 = 3 from rfl]
      go_enter Tryd.func20, Tryd.ntmps20
      go_wp2_with fail
      refine HS.out.mono ?_
      rintro en w' ⟨rfl, rfl⟩
      go_wp2_with fail
      go_ret
      exact ⟨rfl, rfl⟩
  · have e : zoneK z = 0 := by
      unfold zoneK
      rw [if_neg (by omega), if_neg (by omega), if_neg (by omega)]
    have hb : sideB z = 0 := by unfold sideB; rw [if_neg (by omega), if_neg (by omega)]
    have hp : sideP z = 0 := by unfold sideP; rw [if_neg (by omega)]
    have ho : sideO z = false := by rw [Bool.eq_false_iff]; intro h; simp [sideO] at h; omega
    have HS := Lib.hid (side_code z w)
    rw [hb, hp, ho] at HS
    rw [e]
    clear hr e hb hp ho
    go_enter Tryd.func20, Tryd.ntmps20
    go_wp2_with fail
    refine HS.out.mono ?_
    rintro en w' ⟨rfl, rfl⟩
    go_wp2_with fail
    go_ret
    exact ⟨rfl, rfl⟩
theorem isObject_code (s : StT) (O : SlT) (L : Nat → SlT) (cs : Array Value) (id : Int) (w : World) (h : ReadsS w.heap.size w cs s O L) :
    Calls Tryd.prog 30 #[.agg cs, .int .i64 id] w fun en w' => en = .returned (.bool (decide (0 ≤ id) && decide (id < (s.objs.length : Int)))) ∧ Below w.heap.size w w' := by
  have hcs := h.cs
  have c0 : cs[0]? = some (.slice O.A O.n O.c) := by rw [hcs]; exact stC_objs _ _ _ _
  have hOn := h.on
  obtain ⟨A, n, c⟩ := O
  simp only at c0 hOn
  subst hOn
  clear hcs h
  have hs0 : StAt (w.alloc (.cells cs 29)) w.heap.size cs := StAt.new _ _
  have hb0 : Below w.heap.size w (w.alloc (.cells cs 29)) := (Below.refl _ _).alloc (Nat.le_refl _) _
  have cg : (w.alloc (.cells cs 29)).cell? ⟨w.heap.size, 0, none⟩ = some (.slice A s.objs.length c) := by rw [hs0.cell]; exact c0
  have HB := Lib.hid hb0
  clear c0 hs0 hb0
  obtain ⟨r, hr⟩ : ∃ r, r = (decide (0 ≤ id) && decide (id < (s.objs.length : Int))) := ⟨_, rfl⟩
  rw [← hr]
  by_cases h0 : 0 ≤ id
  · by_cases h1 : id < (s.objs.length : Int)
    · obtain rfl : r = true := by rw [hr, decide_eq_true h0, decide_eq_true h1]; rfl
      clear hr
      go_enter Tryd.func30, Tryd.ntmps30
      go_wp2_with fail
      go_ret
      exact ⟨rfl, HB.out⟩
    · obtain rfl : r = false := by rw [hr, decide_eq_false h1, Bool.and_false]
      clear hr
      go_enter Tryd.func30, Tryd.ntmps30
      go_wp2_with fail
      go_ret
      exact ⟨rfl, HB.out⟩
  · obtain rfl : r = false := by rw [hr, decide_eq_false h0, Bool.false_and]
    have d0 : decide (0 ≤ id) = false := decide_eq_false h0
    clear hr h0
    go_enter Tryd.func30, Tryd.ntmps30
    go_wp2_with fail
    go_ret
    exact ⟨rfl, HB.out⟩
end Go.Proofs.YtmhabodijmnldaaDoor
namespace Go.Proofs.YtmhabodijmnldaaDoor
open Go.RowKit Ex Bx
set_option maxRecDepth 100000
theorem showE_out {os : List (Nat → Int)} {id ps : Int} {is : Bool} (h : id < 0 ∨ (os.length : Int) ≤ id) : showE os id ps is = [] := if_pos h
theorem showE_in {os : List (Nat → Int)} {k : Nat} {ps : Int} {is : Bool} {o : Nat → Int} (h : os[k]? = some o) : showE os (k : Int) ps is = if chgK (o 17) ps is = o 17 then [] else [⟨2, k, 17, o 17, chgK (o 17) ps is, 0⟩] := by
  have hk := (List.getElem?_eq_some_iff.1 h).1
  unfold showE
  rw [if_neg (by omega), Int.toNat_natCast, List.getD_eq_getElem?_getD, h]; rfl
set_option maxHeartbeats 0 in
theorem turned_code (k x y : Int) (hk : N64 k) (hx : N64 x) (hy : N64 y) (w : World) : Calls Tryd.prog 31 #[.int .i64 k, .int .i64 x, .int .i64 y] w (EvsP w (if y = x then [] else [⟨2, k, 17, x, y, 0⟩])) := by
  have HK := Lib.hid hk
  have HX := Lib.hid hx
  have HY := Lib.hid hy
  clear hk hx hy
  by_cases he : y = x
  · rw [if_pos he]
    have dx : (x == y) = true := by simp [he]
    clear he
    go_enter Tryd.func31, Tryd.ntmps31
    go_wp2_with fail
    go_ret
    exact ⟨none, 0, 0, rfl, Nat.le_refl _, Evs.nil, Below.refl _ _⟩
  · rw [if_neg he]
    have dx : (x == y) = false := by simp; exact fun h => he h.symm
    have hbE : Below w.heap.size w (w.alloc (.cells (evC ⟨2, k, 17, x, y, 0⟩) 53)) := (Below.refl _ _).alloc (Nat.le_refl _) _
    have hE : EvB (w.alloc (.cells (evC ⟨2, k, 17, x, y, 0⟩) 53)) w.heap.size ⟨2, k, 17, x, y, 0⟩ := heap_alloc_new _ _
    have HRes := Lib.hid (show Evs (w.alloc (.cells (evC ⟨2, k, 17, x, y, 0⟩) 53)).heap.size (w.alloc (.cells (evC ⟨2, k, 17, x, y, 0⟩) 53)) (some ⟨w.heap.size, 0, none⟩) 1 [⟨2, k, 17, x, y, 0⟩] ∧ Below w.heap.size w (w.alloc (.cells (evC ⟨2, k, 17, x, y, 0⟩) 53)) from
      ⟨⟨rfl, rdV_one hE, fun e he => by
        obtain rfl : e = ⟨2, k, 17, x, y, 0⟩ := by simpa using he
        exact ⟨by show N64 2; unfold N64; omega, HK.out, by show N64 17; unfold N64; omega, HX.out, HY.out, by show N64 0; unfold N64; omega⟩⟩, hbE⟩)
    clear he hbE hE
    go_enter Tryd.func31, Tryd.ntmps31
    go_wp2_with (refine wpList_buildSliceEv rfl (.tmp 13) rfl ⟨2, k, 17, x, y, 0⟩ rfl ?_)
    go_ret
    exact ⟨_, 1, 1, rfl, Nat.le_refl _, HRes.out.1, HRes.out.2⟩
set_option maxHeartbeats 0 in
theorem show_code (s : StT) (O : SlT) (L : Nat → SlT) (cs : Array Value) (id ps : Int) (w : World) (h : ReadsS w.heap.size w cs s O L) (hn : s.objs.length ≤ 1000) :
    Calls Tryd.prog 14 #[.agg cs, .int .i64 id, .int .i64 ps] w (EvsP w (showE s.objs id ps true)) := by
  have HS := Lib.hid h
  have hcs := h.cs
  have c0 : cs[0]? = some (.slice O.A O.n O.c) := by rw [hcs]; exact stC_objs _ _ _ _
  have hsz := h.size
  have hOn := h.on
  obtain ⟨A, n, c⟩ := O
  simp only at c0 hOn
  subst hOn
  have hs0 : StAt (w.alloc (.cells cs 29)) w.heap.size cs := StAt.new _ _
  have hb0 : Below w.heap.size w (w.alloc (.cells cs 29)) := (Below.refl _ _).alloc (Nat.le_refl _) _
  have HN := Lib.hid hn
  clear hcs hn h
  obtain ⟨r, hr⟩ : ∃ r, r = showE s.objs id ps true := ⟨_, rfl⟩
  rw [← hr]
  have HR := Lib.hid hr
  clear hr
  go_enter Tryd.func14, Tryd.ntmps14
  go_upto_region 1 with fail
  obtain ⟨g, hg⟩ : ∃ g, g = w.heap.size := ⟨_, rfl⟩
  obtain ⟨w1, hw1⟩ : ∃ W, W = w.alloc (.cells cs 29) := ⟨_, rfl⟩
  rw [← hw1] at hs0 hb0
  rw [← hg] at hs0
  show Code.wp _ _ _ _ (w.alloc (.cells cs 29))
  rw [← hw1]
  try rw [← hg]
  have hio := isObject_code s _ L cs id w1 (HS.out.grow hb0)
  obtain ⟨q, hq⟩ : ∃ q, q = (decide (0 ≤ id) && decide (id < (s.objs.length : Int))) := ⟨_, rfl⟩
  rw [← hq] at hio
  have HIO := Lib.hid hio
  have HS0 := Lib.hid hs0
  have HB0 := Lib.hid hb0
  clear hw1 hg hio
  go_wp2_with (refine load_wantS (by rfl) (.tmp 3) rfl g rfl cs hs0 hsz ?_)
  refine HIO.out.mono ?_
  rintro en w2 ⟨rfl, hb2⟩
  have hs2 := HS0.out.keep hb2
  have HB := Lib.hid (keepB hb2 HB0.out)
  have cg : w2.cell? ⟨g, 0, none⟩ = some (.slice A s.objs.length c) := by rw [hs2.cell]; exact c0
  clear hs0 hb0 hb2 hs2 HS0 HB0 HIO c0
  cases q with
  | false =>
    have HF := Lib.hid (show r = [] from HR.out.trans (showE_out (by
      by_cases h0 : 0 ≤ id
      · rw [decide_eq_true h0, Bool.true_and] at hq
        have := of_decide_eq_false hq.symm
        omega
      · omega)))
    clear hq
    go_wp2_with fail
    go_ret
    exact ⟨none, 0, 0, rfl, Nat.le_refl _, by rw [HF.out]; exact Evs.nil, HB.out⟩
  | true =>
    have hq1 : 0 ≤ id ∧ id < (s.objs.length : Int) := by simpa using hq.symm
    obtain ⟨k, rfl⟩ : ∃ k : Nat, id = (k : Int) := ⟨id.toNat, by omega⟩
    obtain ⟨o, ho⟩ : ∃ o, s.objs[k]? = some o := ⟨_, List.getElem?_eq_getElem (by omega)⟩
    obtain ⟨b, off, ea, hbl, hra⟩ := HS.out.o k o ho
    simp only at ea
    subst ea
    have hra := range_below HB.out hbl hra
    have hc17 := hra 17 (.int .i64 (o 17)) (by rw [Array.getElem?_toList, arr_get .i64 18 o (by omega)])
    have hx := HS.out.ow o (List.mem_of_getElem? ho) 17 (by omega)
    obtain ⟨x, hxe⟩ : ∃ x, x = o 17 := ⟨_, rfl⟩
    rw [← hxe] at hc17 hx
    have HIn := Lib.hid (show r = if chgK x ps true = x then [] else [⟨2, k, 17, x, chgK x ps true, 0⟩] from by rw [HR.out, showE_in ho, hxe])
    have g0 : (0 : Int) ≤ (k : Int) := by omega
    have g1 : (k : Int) < (s.objs.length : Int) := hq1.2
    have hval : bits .or .i64 x (bits .and .i64 ps 3) = chgK x ps true := by rw [and_three]; exact or_chg x ps hx
    have HT := Lib.hid (fun W => turned_code (k : Int) x (chgK x ps true) (by have := HN.out; exact ⟨by omega, by omega⟩) hx (chg_64 hx) W)
    obtain ⟨y, hy⟩ : ∃ y, y = chgK x ps true := ⟨_, rfl⟩
    obtain ⟨ps3, hps⟩ : ∃ y, y = bits .and .i64 ps 3 := ⟨_, rfl⟩
    rw [← hy] at hval HT HIn
    rw [← hps] at hval
    have hps' := hps.symm
    clear hra ho hxe hx hbl hq hq1 HR hy hps
    go_wp2_with fail
    refine (HT.out _).mono ?_
    rintro en w4 ⟨A4, n4, c4, rfl, hnc, hE4, hb4⟩
    have HRes := Lib.hid (show Evs w4.heap.size w4 A4 n4 r ∧ Below w.heap.size w w4 from ⟨by rw [HIn.out]; exact hE4, keepB hb4 HB.out⟩)
    clear hE4 hb4
    go_wp2_with fail
    go_ret
    exact ⟨A4, n4, c4, rfl, hnc, HRes.out.1, HRes.out.2⟩
set_option maxHeartbeats 0 in
theorem hide_code (s : StT) (O : SlT) (L : Nat → SlT) (cs : Array Value) (id ps : Int) (w : World) (h : ReadsS w.heap.size w cs s O L) (hn : s.objs.length ≤ 1000) :
    Calls Tryd.prog 18 #[.agg cs, .int .i64 id, .int .i64 ps] w (EvsP w (showE s.objs id ps false)) := by
  have HS := Lib.hid h
  have hcs := h.cs
  have c0 : cs[0]? = some (.slice O.A O.n O.c) := by rw [hcs]; exact stC_objs _ _ _ _
  have hsz := h.size
  have hOn := h.on
  obtain ⟨A, n, c⟩ := O
  simp only at c0 hOn
  subst hOn
  have hs0 : StAt (w.alloc (.cells cs 29)) w.heap.size cs := StAt.new _ _
  have hb0 : Below w.heap.size w (w.alloc (.cells cs 29)) := (Below.refl _ _).alloc (Nat.le_refl _) _
  have HN := Lib.hid hn
  clear hcs hn h
  obtain ⟨r, hr⟩ : ∃ r, r = showE s.objs id ps false := ⟨_, rfl⟩
  rw [← hr]
  have HR := Lib.hid hr
  clear hr
  go_enter Tryd.func18, Tryd.ntmps18
  go_upto_region 1 with fail
  obtain ⟨g, hg⟩ : ∃ g, g = w.heap.size := ⟨_, rfl⟩
  obtain ⟨w1, hw1⟩ : ∃ W, W = w.alloc (.cells cs 29) := ⟨_, rfl⟩
  rw [← hw1] at hs0 hb0
  rw [← hg] at hs0
  show Code.wp _ _ _ _ (w.alloc (.cells cs 29))
  rw [← hw1]
  try rw [← hg]
  have hio := isObject_code s _ L cs id w1 (HS.out.grow hb0)
  obtain ⟨q, hq⟩ : ∃ q, q = (decide (0 ≤ id) && decide (id < (s.objs.length : Int))) := ⟨_, rfl⟩
  rw [← hq] at hio
  have HIO := Lib.hid hio
  have HS0 := Lib.hid hs0
  have HB0 := Lib.hid hb0
  clear hw1 hg hio
  go_wp2_with (refine load_wantS (by rfl) (.tmp 3) rfl g rfl cs hs0 hsz ?_)
  refine HIO.out.mono ?_
  rintro en w2 ⟨rfl, hb2⟩
  have hs2 := HS0.out.keep hb2
  have HB := Lib.hid (keepB hb2 HB0.out)
  have cg : w2.cell? ⟨g, 0, none⟩ = some (.slice A s.objs.length c) := by rw [hs2.cell]; exact c0
  clear hs0 hb0 hb2 hs2 HS0 HB0 HIO c0
  cases q with
  | false =>
    have HF := Lib.hid (show r = [] from HR.out.trans (showE_out (by
      by_cases h0 : 0 ≤ id
      · rw [decide_eq_true h0, Bool.true_and] at hq
        have := of_decide_eq_false hq.symm
        omega
      · omega)))
    clear hq
    go_wp2_with fail
    go_ret
    exact ⟨none, 0, 0, rfl, Nat.le_refl _, by rw [HF.out]; exact Evs.nil, HB.out⟩
  | true =>
    have hq1 : 0 ≤ id ∧ id < (s.objs.length : Int) := by simpa using hq.symm
    obtain ⟨k, rfl⟩ : ∃ k : Nat, id = (k : Int) := ⟨id.toNat, by omega⟩
    obtain ⟨o, ho⟩ : ∃ o, s.objs[k]? = some o := ⟨_, List.getElem?_eq_getElem (by omega)⟩
    obtain ⟨b, off, ea, hbl, hra⟩ := HS.out.o k o ho
    simp only at ea
    subst ea
    have hra := range_below HB.out hbl hra
    have hc17 := hra 17 (.int .i64 (o 17)) (by rw [Array.getElem?_toList, arr_get .i64 18 o (by omega)])
    have hx := HS.out.ow o (List.mem_of_getElem? ho) 17 (by omega)
    obtain ⟨x, hxe⟩ : ∃ x, x = o 17 := ⟨_, rfl⟩
    rw [← hxe] at hc17 hx
    have HIn := Lib.hid (show r = if chgK x ps false = x then [] else [⟨2, k, 17, x, chgK x ps false, 0⟩] from by rw [HR.out, showE_in ho, hxe])
    have g0 : (0 : Int) ≤ (k : Int) := by omega
    have g1 : (k : Int) < (s.objs.length : Int) := hq1.2
    have hval : bits .andNot .i64 x (bits .and .i64 ps 3) = chgK x ps false := by rw [and_three]; exact andNot_chg x ps hx
    have HT := Lib.hid (fun W => turned_code (k : Int) x (chgK x ps false) (by have := HN.out; exact ⟨by omega, by omega⟩) hx (chg_64 hx) W)
    obtain ⟨y, hy⟩ : ∃ y, y = chgK x ps false := ⟨_, rfl⟩
    obtain ⟨ps3, hps⟩ : ∃ y, y = bits .and .i64 ps 3 := ⟨_, rfl⟩
    rw [← hy] at hval HT HIn
    rw [← hps] at hval
    have hps' := hps.symm
    clear hra ho hxe hx hbl hq hq1 HR hy hps
    go_wp2_with fail
    refine (HT.out _).mono ?_
    rintro en w4 ⟨A4, n4, c4, rfl, hnc, hE4, hb4⟩
    have HRes := Lib.hid (show Evs w4.heap.size w4 A4 n4 r ∧ Below w.heap.size w w4 from ⟨by rw [HIn.out]; exact hE4, keepB hb4 HB.out⟩)
    clear hE4 hb4
    go_wp2_with fail
    go_ret
    exact ⟨A4, n4, c4, rfl, hnc, HRes.out.1, HRes.out.2⟩
set_option maxHeartbeats 0 in
theorem isTurn_code (e : EvT) (w : World) : Calls Tryd.prog 43 #[evV e] w fun en w' => en = .returned (.bool (decide (e.k = 2) && decide (e.b = 17))) ∧ Below w.heap.size w w' := by
  obtain ⟨r, hr⟩ : ∃ r, r = (decide (e.k = 2) && decide (e.b = 17)) := ⟨_, rfl⟩
  rw [← hr]
  go_enter Tryd.func43, Tryd.ntmps43
  go_upto_region 1 with fail
  obtain ⟨w1, hw1⟩ : ∃ w1, w1 = w.alloc (.cells (evC e) 53) := ⟨_, rfl⟩
  have hrow : EvB w1 w.heap.size e := by rw [hw1]; exact heap_alloc_new _ _
  have hb1 : Below w.heap.size w w1 := by rw [hw1]; exact (Below.refl _ _).alloc (Nat.le_refl _) _
  show Code.wp _ _ _ _ (w.alloc (.cells (evC e) 53))
  rw [← hw1]
  obtain ⟨c0, c1, c2, c3, c4, c5⟩ := hrow.cells
  clear hw1 hrow c1 c3 c4 c5
  by_cases k2 : e.k = 2
  · have d0 : (e.k == 2) = true := by simp [k2]
    by_cases k17 : e.b = 17
    · have d1 : (e.b == 17) = true := by simp [k17]
      obtain rfl : r = true := by rw [hr, decide_eq_true k2, decide_eq_true k17]; rfl
      clear k2 k17 hr
      go_wp2_with fail
      go_ret
      exact ⟨rfl, hb1⟩
    · have d1 : (e.b == 17) = false := by simp [k17]
      obtain rfl : r = false := by rw [hr, decide_eq_false k17, Bool.and_false]
      clear k2 k17 hr
      go_wp2_with fail
      go_ret
      exact ⟨rfl, hb1⟩
  · have d0 : (e.k == 2) = false := by simp [k2]
    obtain rfl : r = false := by rw [hr, decide_eq_false k2, Bool.false_and]
    clear k2 hr
    go_wp2_with fail
    go_ret
    exact ⟨rfl, hb1⟩
set_option maxHeartbeats 0 in
theorem gains_code (e : EvT) (w : World) : Calls Tryd.prog 32 #[evV e] w fun en w' => en = .returned (.bool (gainsE e)) ∧ Below w.heap.size w w' := by
  obtain ⟨r, hr⟩ : ∃ r, r = gainsE e := ⟨_, rfl⟩
  rw [← hr]
  obtain ⟨t, ht⟩ : ∃ t, t = (decide (e.k = 2) && decide (e.b = 17)) := ⟨_, rfl⟩
  have HR := Lib.hid (show r = (t && moreK e.c e.d) from by rw [hr, ht]; rfl)
  have hT := fun W => isTurn_code e W
  rw [← ht] at hT
  have HT := Lib.hid hT
  clear hr ht hT
  go_enter Tryd.func32, Tryd.ntmps32
  go_upto_region 1 with fail
  obtain ⟨w1, hw1⟩ : ∃ w1, w1 = w.alloc (.cells (evC e) 53) := ⟨_, rfl⟩
  have hrow : EvB w1 w.heap.size e := by rw [hw1]; exact heap_alloc_new _ _
  have hb1 : Below w.heap.size w w1 := by rw [hw1]; exact (Below.refl _ _).alloc (Nat.le_refl _) _
  show Code.wp _ _ _ _ (w.alloc (.cells (evC e) 53))
  rw [← hw1]
  obtain ⟨g, hg⟩ : ∃ g, g = w.heap.size := ⟨_, rfl⟩
  rw [← hg] at hrow
  try rw [← hg]
  clear hw1 hg
  go_wp2_with (refine load_ev (by rfl) (.tmp 1) rfl g rfl e hrow ?_)
  refine (HT.out w1).mono ?_
  rintro en w2 ⟨rfl, hb2⟩
  obtain ⟨c0, c1, c2, c3, c4, c5⟩ := (hrow.keep hb2).cells
  have HB := Lib.hid (keepB hb2 hb1)
  clear hrow hb1 hb2 c0 c1 c2 c5
  cases t with
  | false =>
    obtain rfl : r = false := by rw [HR.out, Bool.false_and]
    go_wp2_with fail
    go_ret
    exact ⟨rfl, HB.out⟩
  | true =>
    have hv : (!(bits .andNot .i64 (bits .and .i64 3 e.d) e.c == 0)) = r := by rw [HR.out, Bool.true_and, three_and]; exact andNot_more _ _
    obtain ⟨u, hu⟩ : ∃ u, u = bits .and .i64 3 e.d := ⟨_, rfl⟩
    have hu' := hu.symm
    rw [← hu] at hv
    obtain ⟨v, hv2⟩ : ∃ v, v = bits .andNot .i64 u e.c := ⟨_, rfl⟩
    have hv2' := hv2.symm
    rw [← hv2] at hv
    have hd : (v != 0) = r := hv
    clear hu hv2 hv HR
    go_wp2_with fail
    go_ret
    exact ⟨rfl, HB.out⟩
end Go.Proofs.YtmhabodijmnldaaDoor
namespace Go.Proofs.YtmhabodijmnldaaDoor
open Go.RowKit Ex
set_option maxRecDepth 100000
theorem any_takeN {l : List EvT} {j : Nat} {e : EvT} (he : l[j]? = some e) (f : EvT → Bool) : (l.take (j + 1)).any f = ((l.take j).any f || f e) := by
  rw [List.take_add_one, he]; simp
theorem any_takeT {l : List EvT} {j : Nat} (f : EvT → Bool) (h : (l.take j).any f = true) : l.any f = true := by
  rw [List.any_eq_true] at h ⊢
  obtain ⟨x, hx, hf⟩ := h
  exact ⟨x, List.mem_of_mem_take hx, hf⟩
set_option maxHeartbeats 0 in
theorem gained_code (A : Option Addr) (n c : Nat) (l : List EvT) (w : World) (hE : Evs w.heap.size w A n l) (hm : n ≤ 1000) :
    Calls Tryd.prog 15 #[.slice A n c] w fun en w' => en = .returned (.bool (l.any gainsE)) ∧ Below w.heap.size w w' := by
  have HE := Lib.hid hE
  obtain ⟨r, hr⟩ : ∃ r, r = l.any gainsE := ⟨_, rfl⟩
  rw [← hr]
  have HR := Lib.hid hr
  clear hE hr
  have HB0 := Lib.hid (Below.refl w.heap.size w)
  have HG0 := Lib.hid (show (l.take 0).any gainsE = false from rfl)
  go_enter Tryd.func15, Tryd.ntmps15
  go_upto_region 2 with fail
  go_loopw [7] (fun i wr => ∃ k : Nat, i = .int .i64 ((k : Nat) : Int) ∧ k ≤ n ∧ Hid ((l.take k).any gainsE = false) ∧ Hid (Below w.heap.size w wr)) (fun i _ => n - (intOf i).toNat)
  case atStart => exact ⟨0, rfl, by omega, HG0, HB0⟩
  case round =>
    clear HB0 HG0
    obtain ⟨k, rfl, hk, HG, HB⟩ := hrel
    by_cases hlt : k < n
    · have hlt' : k < l.length := by rw [← HE.out.n]; exact hlt
      obtain ⟨b1, o1, ea, hb1, g1⟩ := HE.out.r.at_ hlt'
      subst ea
      have G1 := Lib.hid (range_below HB.out hb1 g1)
      obtain ⟨x, hx⟩ : ∃ x, x = l[k] := ⟨_, rfl⟩
      rw [← hx] at G1
      have HX := Lib.hid (show l[k]? = some x by rw [hx]; exact List.getElem?_eq_getElem hlt')
      have p0 : (0 : Int) ≤ (k : Int) := by omega
      have p1 : (k : Int) < (n : Int) := by omega
      have hm' : (k : Int) ≤ 1000 := by omega
      clear hx g1 hb1 hlt'
      have hsz := ev_size x
      have hone := evC_one x
      have hs6 : (evC ev0).size = (evC x).size := rfl
      have hz6 := ev0_is
      have hnew : (World.alloc wr (.cells (evC ev0) 53)).heap[(World.heap wr).size]? = some (.cells (evC ev0) 53 (0, 0)) := heap_alloc_new _ _
      obtain ⟨es, hes⟩ : ∃ es, es = evC x := ⟨_, rfl⟩
      have hev : evV x = .agg es := by rw [hes]; rfl
      have HEs := Lib.hid hes
      rw [← hes] at hsz hs6 hone
      clear hes
      go_upto_region 4 with (first
        | (refine load_evm rfl (.tmp 9) rfl b1 (o1 + k * 6) rfl x G1.out ?_; rw [hev])
        | (refine wpList_store_row rfl 53 (.tmp 4) (.tmp 10) rfl (World.heap wr).size _ rfl rfl 53 (evC ev0) hnew hsz hs6 hone ?_))
      rw [HEs.out]
      clear hnew hsz hs6 hone hz6 hev HEs es
      obtain ⟨w4, hw4, he4, hb4⟩ := ev_box wr x
      rw [← hw4]
      obtain ⟨ge, hge⟩ : ∃ g, g = (World.heap wr).size := ⟨_, rfl⟩
      rw [← hge] at he4
      rw [← hge]
      have HGge := Lib.hid hge
      clear hw4 hge
      have HB4 := Lib.hid (keepB hb4 HB.out)
      clear hb4
      obtain ⟨q, hq⟩ : ∃ q, q = gainsE x := ⟨_, rfl⟩
      have hg := gains_code x w4
      rw [← hq] at hg
      have HQ := Lib.hid (show (l.take (k + 1)).any gainsE = q from by rw [any_takeN HX.out, HG.out, Bool.false_or, hq])
      clear hq
      go_wp2_with (refine load_ev (by rfl) (.tmp 4) rfl ge rfl x he4 ?_)
      refine hg.mono ?_
      rintro en w5 ⟨rfl, hb5⟩
      have HB5 := Lib.hid (keepB hb5 HB4.out)
      clear hg hb5 he4
      cases q with
      | true =>
        obtain rfl : r = true := by rw [HR.out]; exact any_takeT _ HQ.out
        go_wp2_with fail
        go_ret
        exact ⟨rfl, HB5.out⟩
      | false =>
        go_wp2_with fail
        go_roundw
        case rel => exact ⟨k + 1, by go_num, by omega, HQ, HB5⟩
        case measure => simp [intOf]; omega
    · obtain rfl : k = n := by omega
      obtain rfl : r = false := by
        have h := HG.out
        rw [show l.take k = l from by rw [HE.out.n]; exact List.take_length] at h
        rw [HR.out, h]
      go_wp2_with fail
      go_ret
      exact ⟨rfl, HB.out⟩
end Go.Proofs.YtmhabodijmnldaaDoor
namespace Go.Proofs.YtmhabodijmnldaaDoor
open Go.RowKit Ex
set_option maxRecDepth 100000
theorem kwSaid (z : World) : KwSaid z where
  knows := fun o p w _ _ _ => knows_code o p w
  zone := fun k w _ _ => zone_codeK k w
  show_ := fun s O L cs id ps w h hn _ _ _ _ => show_code s O L cs id ps w h hn
  hide := fun s O L cs id ps w h hn _ _ _ _ => hide_code s O L cs id ps w h hn
  gains := fun e w _ _ => gains_code e w
  gained := fun A n c l w hE _ hm _ => gained_code A n c l w hE hm
end Go.Proofs.YtmhabodijmnldaaDoor
namespace Go.Proofs.YtmhabodijmnldaaDoor
open Go.RowKit Ex
attribute [local go_sem] arr_get
set_option maxRecDepth 100000
set_option maxHeartbeats 0 in
theorem copyC_own (s : StT) (O : SlT) (L : Nat → SlT) (cs : Array Value) (w : World) (h : ReadsS w.heap.size w cs s O L) (hn : s.objs.length ≤ 1000000) (hll : ∀ z < 11, (s.lists z).length ≤ 1000000) :
    Calls Tryd.prog 23 #[.agg cs] w fun e w' => ∃ cs', e = .returned (.agg cs') ∧ CopyO w s cs' w' := by
  go_enter Tryd.func23, Tryd.ntmps23
  have hcs := h.cs
  have c0 : cs[0]? = some (.slice O.A O.n O.c) := by rw [hcs]; exact stC_objs _ _ _ _
  have hOn := h.on
  have hO := h.o
  have hsz : (Tryd.prog.info? 29).map (·.size) = some cs.size := by rw [h.size]; exact size37
  have hone := h.one
  have H := Lib.hid h
  clear h
  obtain ⟨A, n, c⟩ := O
  simp only at c0 hOn hO
  have HC := Lib.hid hcs
  clear hcs
  subst hOn
  obtain ⟨g0, hg0⟩ : ∃ g, g = w.heap.size := ⟨_, rfl⟩
  go_upto_region 1 with fail
  have hz := st0_is
  have hb1 : Below (w.alloc (.cells cs 29)).heap.size (w.alloc (.cells cs 29)) ((w.alloc (.cells cs 29)).alloc (.cells st0 29)) := (Below.refl _ _).alloc (Nat.le_refl _) _
  have hb2 : Below w.heap.size w ((w.alloc (.cells cs 29)).alloc (.cells st0 29)) := keepB hb1 ((Below.refl _ _).alloc (Nat.le_refl _) _)
  have hs1 : StAt ((w.alloc (.cells cs 29)).alloc (.cells st0 29)) w.heap.size cs := (StAt.new w cs).keep hb1
  have hr1 : StAt ((w.alloc (.cells cs 29)).alloc (.cells st0 29)) (w.heap.size + 1) st0 := by
    have h := StAt.new (w.alloc (.cells cs 29)) st0
    simpa using h
  obtain ⟨r, hr⟩ : ∃ r, r = w.heap.size + 1 := ⟨_, rfl⟩
  obtain ⟨w2, hw2⟩ : ∃ w2, w2 = (w.alloc (.cells cs 29)).alloc (.cells st0 29) := ⟨_, rfl⟩
  rw [st0_is]
  rw [← hw2, ← hr] at hr1
  rw [← hw2] at hs1 hb2
  rw [← hw2, ← hr]
  have hrl : r < w2.heap.size := hr1.lt
  have hrw : w.heap.size ≤ r := by omega
  clear hb1 hw2 hr
  have hnew : (w2.alloc (.cells st0 29)).heap[w2.heap.size]? = some (.cells st0 29 (0, 0)) := heap_alloc_new _ _
  have hs0 : st0.size = cs.size := by rw [H.out.size, show st0.size = 37 from stC_size _ _ _ _]
  go_upto_region 2 with (first
    | (refine wpList_load_row rfl 29 (.tmp 1) rfl w.heap.size rfl 29 _ (0, 0) _ hs1 Tryd.underlying29 rfl hsz ?_)
    | (refine wpList_store_row rfl 29 (.tmp 3) (.tmp 6) rfl w2.heap.size _ rfl rfl 29 st0 hnew hsz hs0 hone ?_))
  have hb3 : Below w2.heap.size w2 ((w2.alloc (.cells st0 29)).setRow w2.heap.size cs) := below_setRow ((Below.refl _ _).alloc (Nat.le_refl _) _) _ _ (Nat.le_refl _)
  have hs3 := hs1.keep hb3
  have hr3 := hr1.keep hb3
  have hb3w := keepB hb3 hb2
  have hg3 : StAt ((w2.alloc (.cells st0 29)).setRow w2.heap.size cs) w2.heap.size cs := setRow_heap _ _ _ _ _ _ hnew
  have hz3 : ((w2.alloc (.cells st0 29)).setRow w2.heap.size cs).heap.size = w2.heap.size + 1 := by simp
  obtain ⟨g, hg⟩ : ∃ g, g = w2.heap.size := ⟨_, rfl⟩
  obtain ⟨w3, hw3⟩ : ∃ w3, w3 = (w2.alloc (.cells st0 29)).setRow w2.heap.size cs := ⟨_, rfl⟩
  rw [← hw3] at hs3 hr3 hb3w hg3 hz3
  rw [← hw3]
  rw [← hg] at hg3 hz3 hrl
  rw [← hg]
  clear hb3 hw3 hnew hg hb2 hs1 hr1 w2 hsz hs0 hone hz
  have hwg : w.heap.size ≤ g := by omega
  have c3 := (hs3.cell 0).trans c0
  have hO3 := hO.below hb3w
  have hb34 : Below w3.heap.size w3 w3 := Below.refl _ _
  go_upto_region 3 with (at_builtin; refine wpList_appOw rfl _ _ rfl w3.heap.size none 0 rfl (obj_nil _ _) _ A s.objs.length c s.objs rfl hO3 rfl hn (Nat.le_refl _) ?_; intro A4 c4 w4 ho4 hg4; have hb4 : Below w3.heap.size w3 w4 := hb34.grown hg4 (Nat.le_refl _) (fun g hh => by cases hh); have hf4 := frozen_of_row w4 g 0 _ _ (hg3.keep hb4); have hc4 := ((hg3.keep hb4).cell 0).trans c0)
  have HCp := Lib.hid (show CpO w g (g + 1) s L ⟨A4, s.objs.length, c4⟩ L 0 (w4.setCell ⟨g, 0, none⟩ (.slice A4 s.objs.length c4)) from by
    have ha := hg3.keep hb4
    rw [HC.out] at ha
    rw [hz3] at ho4
    exact CpO.start (keepB hb4 hb3w) ha hwg (Nat.lt_succ_self _) rfl ho4)
  have HR := Lib.hid (show StAt (w4.setCell ⟨g, 0, none⟩ (.slice A4 s.objs.length c4)) r st0 from (heap_setCell_other w4 ⟨g, 0, none⟩ r _ (by simp; omega)).trans (hr3.keep hb4))
  have hra : StAt (w4.setCell ⟨g, 0, none⟩ (.slice A4 s.objs.length c4)) w.heap.size cs := (heap_setCell_other w4 ⟨g, 0, none⟩ w.heap.size _ (by simp; omega)).trans (hs3.keep hb4)
  obtain ⟨w5, hw5⟩ : ∃ w5, w5 = w4.setCell ⟨g, 0, none⟩ (.slice A4 s.objs.length c4) := ⟨_, rfl⟩
  obtain ⟨O4, hO4⟩ : ∃ O4 : SlT, O4 = ⟨A4, s.objs.length, c4⟩ := ⟨_, rfl⟩
  rw [← hw5, ← hO4] at HCp
  rw [← hw5] at HR hra
  rw [← hw5]
  clear hw5 hO4 hf4 hc4 hb4 hg4 ho4 w4 hb34 hO3 c3 hs3 hr3 hb3w hg3 hz3 w3
  rw [HC.out] at hra
  have hra := hra.ls
  go_upto_region 4 with (refine load_lists rfl (.tmp 11) rfl w.heap.size 1 rfl (sl11 L) (sl11_size L) hra ?_)
  clear hra
  go_loopw [13] (fun i wr => ∃ (z : Nat) (L4 : Nat → SlT), i = .int .i64 ((z : Nat) : Int) ∧ z ≤ 11 ∧ Hid (CpO w g (g + 1) s L O4 L4 z wr) ∧ Hid (StAt wr r st0)) (fun i _ => 11 - (intOf i).toNat)
  case atStart => exact ⟨0, L, rfl, by omega, HCp, HR⟩
  case round =>
    clear HCp HR
    obtain ⟨z, L4, rfl, hz, HP, HR⟩ := hrel
    by_cases hlt : z < 11
    · have hd : decide ((z : Int) < 11) = true := by simp; omega
      obtain ⟨A2, n2, c2, hix, _, hN0⟩ := list_at H.out hlt
      have hN := hN0.below HP.out.b
      have hln := hN0.len
      have hnm : n2 ≤ 1000000 := hln ▸ hll z hlt
      have p0 : (0 : Int) ≤ (z : Int) := by omega
      have p1 : (z : Int) < 11 := by omega
      have hg0 := HP.out.a
      have hbr : Below wr.heap.size wr wr := Below.refl _ _
      have hgr := HP.out.a.lt
      have how : Own .i64 3 wr wr.heap.size none 0 0 [] := Own.nil wr
      obtain ⟨i0, hi, hz0, hz1, hz2⟩ := info_parts st_info_int
      have hbs : wr.heap.size ≤ wr.heap.size := Nat.le_refl _
      clear hN0 hln
      go_wp2_with (at_builtin; refine wpList_app rfl _ _ _ rfl .i64 wr.heap.size 3 i0 _ 8 Tryd.underlying23 hi hz0 hz1 hz2 rfl none 0 0 [] rfl how w.heap.size A2 n2 c2 (s.lists z) rfl hN (by omega) (by omega) (Nat.le_refl _) ?_; intro A5 c5 w5 ho5 hg5; have hb5 : Below wr.heap.size wr w5 := hbr.grown hg5 (Nat.le_refl _) (fun g hh => by cases hh); have hf5 := frozen_of_row w5 g (1 + z) _ _ (hg0.keep hb5); have hc5 := ((hg0.keep hb5).cell (1 + z)).trans (stC_list _ _ _ _ hlt); rw [Nat.zero_add, List.nil_append] at ho5)
      have HP2 := Lib.hid (show CpO w g (g + 1) s L O4 (updS L4 z ⟨A5, n2, c5⟩) (z + 1) (w5.setCell ⟨g, 1 + z, none⟩ (.slice A5 n2 c5)) from (HP.out.keep hb5).next hlt hwg (Nat.lt_succ_self _) (ho5.base_le (show g + 1 ≤ wr.heap.size by omega)) (fun y hy j hj h2 => by
        have h3 := (ho5.2.lt j h2).1
        have h4 := ((HP.out.l y hy).2.lt j hj).2
        omega))
      have HR2 := Lib.hid (show StAt (w5.setCell ⟨g, 1 + z, none⟩ (.slice A5 n2 c5)) r st0 from (heap_setCell_other w5 ⟨g, 1 + z, none⟩ r _ (by simp; omega)).trans (HR.out.keep hb5))
      clear hf5 hc5 hb5 hg5 ho5 hi hz0 hz1 hz2 how
      go_roundw
      case rel => exact ⟨z + 1, _, by go_num, by omega, HP2, HR2⟩
      case measure => simp [intOf]; omega
    · obtain rfl : z = 11 := by omega
      have hg9 := HP.out.a
      have hr9 := HR.out
      have HZ := Lib.hid (HP.out.copy hrw (by omega))
      obtain ⟨cs9, hcs9⟩ : ∃ cs9, cs9 = stC O4 L4 s.pl s.gm := ⟨_, rfl⟩
      have hsz9 : (Tryd.prog.info? 29).map (·.size) = some cs9.size := by rw [hcs9, stC_size]; exact size37
      have hs9 : st0.size = cs9.size := by rw [hcs9, stC_size, show st0.size = 37 from stC_size _ _ _ _]
      have hone9 : cs9.all (·.oneCell') = true := by rw [hcs9]; exact stC_one _ _ _ _
      rw [← hcs9] at HZ hg9
      clear hcs9 HP HR
      go_wp2_with (first
        | (refine wpList_load_row rfl 29 (.tmp 3) rfl g rfl 29 _ (0, 0) _ hg9 Tryd.underlying29 rfl hsz9 ?_)
        | (refine wpList_store_row rfl 29 (.tmp 2) (.tmp 23) rfl r _ rfl rfl 29 st0 hr9 hsz9 hs9 hone9 ?_))
      refine bodyPost_ret (v := .agg cs9) ?_ rfl ⟨cs9, rfl, HZ.out⟩
      exact results_cell_row (ty := 29) (p := 2) (by kernel_rfl) _ _ r 29 _ (0, 0) _ rfl (setRow_heap _ _ _ _ _ _ hr9) Tryd.underlying29 rfl hsz9
end Go.Proofs.YtmhabodijmnldaaDoor
namespace Go.Proofs.YtmhabodijmnldaaDoor
open Go.RowKit Ex
set_option maxRecDepth 100000
/-- A list without two like numbers, all of which another one has, is no longer. -/
theorem nodup_le : ∀ {a b : List Int}, a.Nodup → (∀ x ∈ a, x ∈ b) → a.length ≤ b.length
  | [], _, _, _ => by simp
  | x :: a, b, hn, hs => by
    have hxb := hs x (by simp)
    rw [List.nodup_cons] at hn
    have h1 := nodup_le (a := a) (b := b.erase x) hn.2 (fun y hy => (List.mem_erase_of_ne (fun e => by subst e; exact hn.1 hy)).2 (hs y (by simp [hy])))
    rw [List.length_erase_of_mem hxb] at h1
    have := List.length_pos_of_mem hxb
    simp only [List.length_cons]; omega
/-- All lists ahead of z, one behind the other. -/
def flatS (s : StT) (z : Nat) : List Int := (List.range z).flatMap s.lists
theorem flatS_succ (s : StT) (z : Nat) : flatS s (z + 1) = flatS s z ++ s.lists z := by simp [flatS, List.range_succ]
theorem flatS_count (s : StT) (id : Nat) : ∀ z, (flatS s z).count (id : Int) = timesN s id z
  | 0 => by simp [flatS, timesN]
  | z + 1 => by rw [flatS_succ, List.count_append, flatS_count s id z, timesN_succ]
theorem flatS_mem {s : StT} {z : Nat} {x : Int} : x ∈ flatS s z ↔ ∃ y, y < z ∧ x ∈ s.lists y := by simp [flatS]
/-- The numbers from 0 on. -/
def idsTo (n : Nat) : List Int := (List.range n).map fun i : Nat => (i : Int)
theorem idsTo_len (n : Nat) : (idsTo n).length = n := by simp [idsTo]
theorem idsTo_mem {n : Nat} {x : Int} : x ∈ idsTo n ↔ 0 ≤ x ∧ x < n := by
  simp only [idsTo, List.mem_map, List.mem_range]
  exact ⟨fun ⟨i, hi, e⟩ => by omega, fun ⟨h0, h1⟩ => ⟨x.toNat, by omega, by omega⟩⟩
theorem idsTo_nodup (n : Nat) : (idsTo n).Nodup := by
  unfold idsTo
  rw [List.nodup_iff_pairwise_ne, List.pairwise_map]
  exact List.nodup_range.imp (fun h e => h (by omega))
/-- What was seen ahead of place k of list y: no number twice, all are objects, each of which may stand there. -/
structure Seen (s : StT) (y : Nat) (l : List Int) : Prop where
  nd : l.Nodup
  into : ∀ x ∈ l, 0 ≤ x ∧ x < s.objs.length
  may : ∀ z < y, ∀ x ∈ s.lists z, mayB (s.objs.getD x.toNat fun _ => 0) z = true
theorem Seen.le {s : StT} {y : Nat} {l : List Int} (h : Seen s y l) : l.length ≤ s.objs.length := by
  have := nodup_le h.nd (b := idsTo s.objs.length) (fun x hx => idsTo_mem.2 (h.into x hx))
  rw [idsTo_len] at this; exact this
theorem mayB_zone {o : Nat → Int} {y : Nat} (h : mayB o y = true) : o 3 = (y : Int) := by
  simp only [mayB, Bool.and_eq_true, beq_iff_eq] at h; exact h.1
theorem mayB_right {o : Nat → Int} {y : Nat} (h : mayB o y = true) : wrongO o = false := by
  have h3 := mayB_zone h
  simp only [mayB, Bool.and_eq_true, beq_iff_eq] at h
  have h2 := h.2
  split at h2
  · rename_i hy
    simp only [Bool.and_eq_true, beq_iff_eq] at h2
    have e8 : (o 3 == 8) = false := by rw [h3]; simp; omega
    have em : (o 3).tmod 2 = (y : Int) % 2 := by rw [h3]; exact Int.tmod_eq_emod_of_nonneg (by omega)
    simp [wrongO, e8, em, h2.1, h2.2]
  · rename_i hy
    have l8 : decide (o 3 < 8) = false := by rw [h3]; simp; omega
    simp only [Bool.or_eq_true, bne_iff_ne, ne_eq] at h2
    rcases h2 with h2 | h2
    · have e8 : (o 3 == 8) = false := by rw [h3]; simp; omega
      simp [wrongO, l8, e8]
    · simp [wrongO, l8, h2]
theorem mayB_wrong {o : Nat → Int} {y : Nat} (h : mayB o y = false) (h3 : o 3 = (y : Int)) : wrongO o = true := by
  unfold mayB at h
  rw [h3] at h
  simp only [beq_self_eq_true, Bool.true_and] at h
  split at h
  · rename_i hy
    have em : (o 3).tmod 2 = (y : Int) % 2 := by rw [h3]; exact Int.tmod_eq_emod_of_nonneg (by omega)
    have l8 : decide (o 3 < 8) = true := by rw [h3]; simp; omega
    unfold wrongO
    rw [l8, em]
    cases h1 : (o 1 == (y : Int) % 2) <;> cases h13 : (o 13 == 0) <;> simp_all [bne]
  · rename_i hy
    simp only [Bool.or_eq_false_iff, bne_eq_false_iff_eq] at h
    obtain ⟨rfl, h13⟩ := h
    simp [wrongO, h3, h13]
/-- All was seen: the lists are right if there are as many as objects. -/
theorem zones_seen {s : StT} (h : Seen s 11 (flatS s 11)) : zonesB s = ((flatS s 11).length == s.objs.length) := by
  have hl : listsB s = true := by
    unfold listsB
    rw [List.all_eq_true]
    intro z hz
    unfold idsB
    rw [List.all_eq_true]
    intro x hx
    have := h.into x (flatS_mem.2 ⟨z, List.mem_range.1 hz, hx⟩)
    simp; omega
  have hone : ∀ id : Nat, (id : Int) ∈ flatS s 11 → timesN s id 11 = 1 := fun id hm => by
    rw [← flatS_count]
    have h1 := List.nodup_iff_count.1 h.nd (id : Int)
    have h2 := List.count_pos_iff.2 hm
    omega
  by_cases e : (flatS s 11).length = s.objs.length
  · rw [show ((flatS s 11).length == s.objs.length) = true by simpa using e]
    have hin : ∀ id : Nat, id < s.objs.length → (id : Int) ∈ flatS s 11 := fun id hid => by
      apply Classical.byContradiction
      intro hno
      have := nodup_le (a := (id : Int) :: flatS s 11) (b := idsTo s.objs.length) (List.nodup_cons.2 ⟨hno, h.nd⟩) (fun x hx => by
        rcases List.mem_cons.1 hx with hx | hx
        · subst hx; exact idsTo_mem.2 ⟨by omega, by omega⟩
        · exact idsTo_mem.2 (h.into x hx))
      rw [idsTo_len, List.length_cons] at this
      omega
    refine zonesB_good hl fun id hid _ => ?_
    have hm := hin id hid
    obtain ⟨y, hy, hmy⟩ := flatS_mem.1 hm
    have hg : (s.objs.getD (id : Int).toNat fun _ => 0) = s.objs[id] := by rw [Int.toNat_natCast, List.getD_eq_getElem?_getD, List.getElem?_eq_getElem hid]; rfl
    have hmay := h.may y hy _ hmy
    rw [hg] at hmay
    have ha : apartB s id (s.objs[id] 3) = true := apartB_good fun z hz => by
      by_cases hm2 : (id : Int) ∈ s.lists z
      · have := h.may z hz _ hm2
        rw [hg] at this
        exact .inl (mayB_zone this).symm
      · exact .inr hm2
    rw [zoneO, ha, hone id hm, mayB_right hmay]; rfl
  · rw [show ((flatS s 11).length == s.objs.length) = false by simpa using e]
    have hle := h.le
    rw [Bool.eq_false_iff]
    intro hz
    refine e (Nat.le_antisymm hle ?_)
    have hall : ∀ id : Nat, id < s.objs.length → (id : Int) ∈ flatS s 11 := fun id hid => by
      have hzo : zoneO s id s.objs[id] = true := by
        cases hq : zoneO s id s.objs[id] with
        | true => rfl
        | false => rw [zonesB_obj hid hq] at hz; cases hz
      have ht : timesN s id 11 = 1 := by
        simp only [zoneO, Bool.and_eq_true, beq_iff_eq] at hzo; exact hzo.1.2
      rw [← flatS_count] at ht
      exact List.count_pos_iff.1 (by omega)
    have := nodup_le (idsTo_nodup s.objs.length) (b := flatS s 11) (fun x hx => by
      obtain ⟨h0, h1⟩ := idsTo_mem.1 hx
      have := hall x.toNat (by omega)
      rwa [show ((x.toNat : Nat) : Int) = x by omega] at this)
    rw [idsTo_len] at this
    exact this
/-- A number stands twice. -/
theorem zones_twice {s : StT} {y k : Nat} {x : Int} (hy : y < 11) (hx : (s.lists y)[k]? = some x) (hm : x ∈ flatS s y ++ (s.lists y).take k) (h0 : 0 ≤ x) (h1 : x < s.objs.length) : zonesB s = false := by
  obtain ⟨id, rfl⟩ : ∃ id : Nat, x = (id : Int) := ⟨x.toNat, by omega⟩
  have hid : id < s.objs.length := by omega
  refine zonesB_obj hid ?_
  have h2 : 2 ≤ timesN s id 11 := by
    have hs : ∀ m, timesN s id (y + 1) ≤ timesN s id (y + 1 + m) := fun m => by
      induction m with
      | zero => exact Nat.le_refl _
      | succ m ih => exact Nat.le_trans ih (by rw [show y + 1 + (m + 1) = (y + 1 + m) + 1 by omega, timesN_succ s id (y + 1 + m)]; omega)
    have h := hs (11 - (y + 1))
    rw [show y + 1 + (11 - (y + 1)) = 11 by omega] at h
    refine Nat.le_trans ?_ h
    have hkl : k < (s.lists y).length := (List.getElem?_eq_some_iff.1 hx).1
    have hc : ((s.lists y).take (k + 1)).count (id : Int) ≤ (s.lists y).count (id : Int) := (List.take_sublist _ _).count_le _
    rw [st_count_step hkl, if_pos (List.getElem?_eq_some_iff.1 hx).2] at hc
    have hp : 0 < (flatS s y ++ (s.lists y).take k).count (id : Int) := List.count_pos_iff.2 hm
    rw [List.count_append, flatS_count] at hp
    rw [timesN_succ]
    omega
  rw [zoneO, show (timesN s id 11 == 1) = false by simp; omega]
  simp
/-- One that may not stand there. -/
theorem zones_may {s : StT} {y k : Nat} {x : Int} (hy : y < 11) (hx : (s.lists y)[k]? = some x) (h0 : 0 ≤ x) (h1 : x < s.objs.length) (hm : mayB (s.objs.getD x.toNat fun _ => 0) y = false) : zonesB s = false := by
  obtain ⟨id, rfl⟩ : ∃ id : Nat, x = (id : Int) := ⟨x.toNat, by omega⟩
  have hid : id < s.objs.length := by omega
  rw [Int.toNat_natCast, List.getD_eq_getElem?_getD, List.getElem?_eq_getElem hid, Option.getD_some] at hm
  refine zonesB_obj hid ?_
  by_cases h3 : s.objs[id] 3 = (y : Int)
  · rw [zoneO, mayB_wrong hm h3]; simp
  · rw [zoneO, apartB_bad hy (Ne.symm h3) (List.mem_of_getElem? hx)]; rfl
end Go.Proofs.YtmhabodijmnldaaDoor
namespace Go.Proofs.YtmhabodijmnldaaDoor
open Go.RowKit Ex
attribute [local go_sem] arr_get
set_option maxRecDepth 100000
/-- An array of truth values. -/
def bArr (n : Nat) (f : Nat → Bool) : Array Value := (Array.range n).map fun i => Value.bool (f i)
theorem bArr_get (n : Nat) (f : Nat → Bool) {i : Nat} (h : i < n) : (bArr n f)[i]? = some (.bool (f i)) := by simp [bArr, h]
theorem bArr_set (n : Nat) (f : Nat → Bool) (j : Nat) (x : Bool) : (bArr n f).setIfInBounds j (.bool x) = bArr n (fun i => if i = j then x else f i) := by
  apply Array.ext
  · simp [bArr]
  · intro i h1 h2
    simp [bArr] at h1 h2
    rw [Array.getElem_setIfInBounds (by simp [bArr]; exact h2)]
    by_cases e : j = i
    · subst e; simp [bArr]
    · simp [bArr, e, show ¬ i = j from fun h => e h.symm]
/-- Block g tells which numbers were seen. -/
def Marks (w : World) (g : Nat) (l : List Int) : Prop := w.heap[g]? = some (.cells (bArr 400 fun i => decide ((i : Int) ∈ l)) 78 (0, 0))
theorem Marks.lt {w : World} {g : Nat} {l : List Int} (h : Marks w g l) : g < w.heap.size := (Array.getElem?_eq_some_iff.1 h).1
theorem Marks.keep {w w' : World} {g : Nat} {l : List Int} (h : Marks w g l) (hb : Below w.heap.size w w') : Marks w' g l := (hb.block g h.lt).trans h
theorem Marks.cell {w : World} {g : Nat} {l : List Int} (h : Marks w g l) {i : Nat} (hi : i < 400) : w.cell? ⟨g, i, none⟩ = some (.bool (decide ((i : Int) ∈ l))) := by
  rw [cell_of_row w g i _ _ _ h, bArr_get 400 _ hi]
theorem Marks.set_ {w : World} {g : Nat} {l : List Int} (h : Marks w g l) (i : Nat) : Marks (w.setCell ⟨g, i, none⟩ (.bool true)) g (l ++ [(i : Int)]) := by
  unfold Marks
  rw [heap_setCell_same w g i _ _ _ h, bArr_set]
  congr 2
  congr 1
  funext j
  by_cases e : j = i
  · subst e; simp
  · simp [e, show ¬ (j : Int) = (i : Int) by omega]
theorem zero400 (W : World) : (zeroValue 78).run Tryd.prog W = .ok (.agg (bArr 400 fun _ => false)) W := by kernel_rfl
def MayK (s : StT) (y : Nat) (l : List Int) (k : Nat) : Prop := ∀ m, m < k → ∀ x, l[m]? = some x → mayB (s.objs.getD x.toNat fun _ => 0) y = true
theorem Seen.next {s : StT} {y k : Nat} {x : Int} (h : Seen s y (flatS s y ++ (s.lists y).take k)) (hx : (s.lists y)[k]? = some x) (hno : ¬ x ∈ flatS s y ++ (s.lists y).take k) (h0 : 0 ≤ x) (h1 : x < s.objs.length) : Seen s y (flatS s y ++ (s.lists y).take (k + 1)) := by
  have hk : k < (s.lists y).length := (List.getElem?_eq_some_iff.1 hx).1
  have e : flatS s y ++ (s.lists y).take (k + 1) = (flatS s y ++ (s.lists y).take k) ++ [x] := by
    rw [List.take_succ_eq_append_getElem hk, (List.getElem?_eq_some_iff.1 hx).2, List.append_assoc]
  rw [e]
  refine ⟨?_, fun z hz => ?_, h.may⟩
  · rw [List.nodup_append]
    refine ⟨h.nd, by simp, fun a ha b hb => ?_⟩
    simp at hb; subst hb
    intro e; subst e; exact hno ha
  · rcases List.mem_append.1 hz with hz | hz
    · exact h.into z hz
    · simp at hz; subst hz; exact ⟨h0, h1⟩
theorem Seen.done {s : StT} {y : Nat} (h : Seen s y (flatS s y ++ s.lists y)) (hm : MayK s y (s.lists y) (s.lists y).length) : Seen s (y + 1) (flatS s (y + 1)) := by
  rw [flatS_succ]
  refine ⟨h.nd, h.into, fun z hz x hx => ?_⟩
  by_cases e : z = y
  · subst e
    obtain ⟨m, hm1, hm2⟩ := List.getElem_of_mem hx
    exact hm m hm1 x (by rw [List.getElem?_eq_getElem hm1, hm2])
  · exact h.may z (by omega) x hx
/-- What stands while the lists are gone through. -/
structure LfS (w : World) (cs : Array Value) (g : Nat) (l : List Int) (W : World) : Prop where
  b : Below w.heap.size w W
  s : StAt W w.heap.size cs
  m : Marks W g l
theorem LfS.keep {w : World} {cs : Array Value} {g : Nat} {l : List Int} {W W' : World} (h : LfS w cs g l W) (hb : Below W.heap.size W W') : LfS w cs g l W' := ⟨keepB hb h.b, h.s.keep hb, h.m.keep hb⟩
theorem LfS.set_ {w : World} {cs : Array Value} {g : Nat} {l : List Int} {W : World} (h : LfS w cs g l W) (hg : w.heap.size < g) (i : Nat) : LfS w cs g (l ++ [(i : Int)]) (W.setCell ⟨g, i, none⟩ (.bool true)) :=
  ⟨h.b.setCell (by simp; omega) _, (heap_setCell_other W ⟨g, i, none⟩ w.heap.size _ (by simp; omega)).trans h.s, h.m.set_ i⟩
set_option maxHeartbeats 0 in
theorem lists_code (s : StT) (O : SlT) (L : Nat → SlT) (cs : Array Value) (w : World) (B : Nat) (h : ReadsS B w cs s O L) (hB : B ≤ w.heap.size) (hn : s.objs.length ≤ 400) (hll : ∀ z < 11, (s.lists z).length ≤ 1000000) :
    Calls Tryd.prog 39 #[.agg cs] w fun e w' => e = .returned (.bool (zonesB s)) ∧ Below w.heap.size w w' := by
  obtain ⟨q, hq⟩ : ∃ q, q = zonesB s := ⟨_, rfl⟩
  rw [← hq]
  have HQ := Lib.hid hq
  clear hq
  go_enter Tryd.func39, Tryd.ntmps39
  have hcs := h.cs
  have c0 : cs[0]? = some (.slice O.A O.n O.c) := by rw [hcs]; exact stC_objs _ _ _ _
  have hOn := h.on
  have hOc := h.oc
  have hO := h.o
  have hsz : (Tryd.prog.info? 29).map (·.size) = some cs.size := by rw [h.size]; exact size37
  have H := Lib.hid h
  clear h
  obtain ⟨A, n, c⟩ := O
  simp only at c0 hOn hOc hO
  have HC := Lib.hid hcs
  clear hcs
  subst hOn
  go_upto_region 1 with fail
  have hs0 : StAt (w.alloc (.cells cs 29)) w.heap.size cs := StAt.new _ _
  have hb0 : Below w.heap.size w (w.alloc (.cells cs 29)) := (Below.refl _ _).alloc (Nat.le_refl _) _
  obtain ⟨w1, hw1⟩ : ∃ w1, w1 = w.alloc (.cells cs 29) := ⟨_, rfl⟩
  rw [← hw1] at hs0 hb0 ⊢
  clear hw1
  have c1 := (hs0.cell 0).trans c0
  obtain ⟨zs, hzs⟩ : ∃ zs, zs = bArr 400 fun _ => false := ⟨_, rfl⟩
  have hz0 := zero400
  rw [← hzs] at hz0
  have hz1 : zs.size = 400 := by rw [hzs]; simp [bArr]
  have hz2 : ¬ zs = #[] := fun e => by rw [e] at hz1; cases hz1
  have HZ := Lib.hid hzs
  clear hzs
  go_upto_region 3 with fail
  have HLs := Lib.hid (show LfS w cs w1.heap.size [] (w1.alloc (.cells zs 78)) from by
    have hb1 : Below w1.heap.size w1 (w1.alloc (.cells zs 78)) := (Below.refl _ _).alloc (Nat.le_refl _) _
    refine ⟨keepB hb1 hb0, hs0.keep hb1, ?_⟩
    unfold Marks
    rw [heap_alloc_new, HZ.out]
    simp)
  obtain ⟨g, hg⟩ : ∃ g, g = w1.heap.size := ⟨_, rfl⟩
  have hgw : w.heap.size < g := by rw [hg]; exact hs0.lt
  obtain ⟨w2, hw2⟩ : ∃ w2, w2 = w1.alloc (.cells zs 78) := ⟨_, rfl⟩
  rw [← hg, ← hw2] at HLs
  rw [← hg, ← hw2]
  clear hz0 hz1 hz2 HZ zs hs0 hb0 c1 hg hw2 w1
  have hs2 := HLs.out.s
  have hra := hs2
  rw [HC.out] at hra
  have hra := hra.ls
  go_upto_region 4 with (refine load_lists rfl (.tmp 9) rfl w.heap.size 1 rfl (sl11 L) (sl11_size L) hra ?_)
  clear hra hs2
  have HS0 := Lib.hid (show Seen s 0 (flatS s 0) from ⟨by simp [flatS], fun x hx => by simp [flatS] at hx, fun z hz => absurd hz (by omega)⟩)
  go_loopw [4, 11] (fun c i wr => ∃ y : Nat, i = .int .i64 ((y : Nat) : Int) ∧ c = .int .i64 (((flatS s y).length : Nat) : Int) ∧ y ≤ 11 ∧ Hid (Seen s y (flatS s y)) ∧ Hid (LfS w cs g (flatS s y) wr)) (fun _ i _ => 11 - (intOf i).toNat)
  case atStart => exact ⟨0, rfl, rfl, by omega, HS0, HLs⟩
  case round =>
    clear HLs HS0
    obtain ⟨y, rfl, rfl, hy, HS, HM⟩ := hrel
    have hfl : (flatS s y).length ≤ 400 := by have := HS.out.le; omega
    by_cases hlt : y < 11
    · have hd : decide ((y : Int) < 11) = true := by simp; omega
      obtain ⟨A2, n2, c2, hc2, hnc2, hN⟩ := list_at H.out hlt
      have hln := hN.len
      have hnm : n2 ≤ 1000000 := hln ▸ hll y hlt
      have HN := Lib.hid hN
      clear hN
      go_upto_region 7 with fail
      clear hc2
      have HS2 := Lib.hid (show Seen s y (flatS s y ++ (s.lists y).take 0) by rw [List.take_zero, List.append_nil]; exact HS.out)
      have HM2 := Lib.hid (show LfS w cs g (flatS s y ++ (s.lists y).take 0) wr by rw [List.take_zero, List.append_nil]; exact HM.out)
      have HK0 := Lib.hid (show MayK s y (s.lists y) 0 from fun m hm => absurd hm (by omega))
      go_loopw [4, 17] (fun c i wq => ∃ k : Nat, i = .int .i64 ((k : Nat) : Int) ∧ c = .int .i64 (((flatS s y ++ (s.lists y).take k).length : Nat) : Int) ∧ k ≤ n2 ∧ Hid (Seen s y (flatS s y ++ (s.lists y).take k)) ∧ Hid (MayK s y (s.lists y) k) ∧ Hid (LfS w cs g (flatS s y ++ (s.lists y).take k) wq)) (fun _ i _ => n2 - (intOf i).toNat)
      case atStart => exact ⟨0, rfl, by rw [List.take_zero, List.append_nil], by omega, HS2, HK0, HM2⟩
      case round =>
        clear HS2 HK0 HM2 HS HM hfl
        obtain ⟨k, rfl, rfl, hk, HS, HK, HM⟩ := hrel
        have hfl : (flatS s y ++ (s.lists y).take k).length ≤ 400 := by have := HS.out.le; omega
        obtain ⟨l, hl⟩ : ∃ l, l = flatS s y ++ (s.lists y).take k := ⟨_, rfl⟩
        rw [← hl] at HS HM hfl
        rw [← hl]
        have HL := Lib.hid hl
        clear hl
        by_cases hkn : k < n2
        · have hd2 : decide ((k : Int) < (n2 : Int)) = true := by simp; omega
          obtain ⟨a, rfl, hab, hca⟩ := HN.out.at_ (show k < (s.lists y).length by omega)
          replace hca := (HM.out.b.cell (by rw [addr_block]; omega)).trans hca
          obtain ⟨x, hx⟩ : ∃ x, x = (s.lists y)[k]'(by omega) := ⟨_, rfl⟩
          rw [← hx] at hca
          have HX := Lib.hid (show (s.lists y)[k]? = some x by rw [hx]; exact List.getElem?_eq_getElem (by omega))
          clear hx
          have g0 : (0 : Int) ≤ (k : Int) := by omega
          have g1 : (k : Int) < (n2 : Int) := by omega
          have c3 := (HM.out.s.cell 0).trans c0
          have hbw := HM.out.b
          by_cases hx0 : x < 0
          · have d0 : decide (x < 0) = true := decide_eq_true hx0
            have hf : zonesB s = false := zonesB_list hlt (idsB_bad (k := k) (by omega) (.inl (by rw [(List.getElem?_eq_some_iff.1 HX.out).2]; exact hx0)))
            obtain rfl := HQ.out.trans hf
            clear hf
            go_wp2_with fail
            go_ret
            exact ⟨rfl, hbw⟩
          have d0 : decide (x < 0) = false := decide_eq_false hx0
          by_cases hxn : (s.objs.length : Int) ≤ x
          · have d1 : decide ((s.objs.length : Int) ≤ x) = true := decide_eq_true hxn
            have hf : zonesB s = false := zonesB_list hlt (idsB_bad (k := k) (by omega) (.inr (by rw [(List.getElem?_eq_some_iff.1 HX.out).2]; exact hxn)))
            obtain rfl := HQ.out.trans hf
            clear hf
            go_wp2_with fail
            go_ret
            exact ⟨rfl, hbw⟩
          have d1 : decide ((s.objs.length : Int) ≤ x) = false := decide_eq_false hxn
          obtain ⟨id, rfl⟩ : ∃ id : Nat, x = (id : Int) := ⟨x.toNat, by omega⟩
          have hid : id < s.objs.length := by omega
          have hcm := HM.out.m.cell (i := id) (by omega)
          have b0 : (0 : Int) ≤ (id : Int) := by omega
          have b1 : (id : Int) < 400 := by omega
          have b2 : (id : Int) < (s.objs.length : Int) := by omega
          have d1' : decide (s.objs.length ≤ id) = false := by simp; omega
          clear hx0 hxn
          by_cases hin : (id : Int) ∈ l
          · rw [show decide ((id : Int) ∈ l) = true by simpa using hin] at hcm
            have hf : zonesB s = false := zones_twice hlt HX.out (by rw [← HL.out]; exact hin) (by omega) b2
            obtain rfl := HQ.out.trans hf
            clear hf
            go_wp2_with fail
            go_ret
            exact ⟨rfl, hbw⟩
          rw [show decide ((id : Int) ∈ l) = false by simpa using hin] at hcm
          obtain ⟨b, off, rfl, hbB, hra⟩ := hO.at_ hid
          have hra := range_below hbw (by omega) hra
          obtain ⟨o, ho⟩ : ∃ o, o = s.objs[id] := ⟨_, rfl⟩
          rw [← ho] at hra
          have HO : (s.objs.getD (id : Int).toNat fun _ => 0) = o := by rw [Int.toNat_natCast, List.getD_eq_getElem?_getD, List.getElem?_eq_getElem hid, ho]; rfl
          have HO := Lib.hid HO
          clear ho
          have hmay := mayStand_any o y hlt
          obtain ⟨r, hr⟩ : ∃ r, r = mayB o y := ⟨_, rfl⟩
          rw [← hr] at hmay
          have HR := Lib.hid hr
          clear hr
          go_wp2_with (refine load_objW (by rfl) (.tmp 39) rfl b (off + id * 18) rfl o hra ?_)
          refine (hmay _).mono ?_
          rintro e w4 ⟨rfl, hb4⟩
          clear hmay hra hca hcm c3
          have HM4 := Lib.hid (HM.out.keep hb4)
          have hbw := HM4.out.b
          by_cases hrt : r = true
          case neg =>
            obtain rfl : r = false := by simpa using hrt
            have hf : zonesB s = false := zones_may hlt HX.out (by omega) b2 (by rw [HO.out]; exact HR.out.symm)
            obtain rfl := HQ.out.trans hf
            clear hf
            go_wp2_with fail
            go_ret
            exact ⟨rfl, hbw⟩
          subst hrt
          have hcm := HM4.out.m.cell (i := id) (by omega)
          have hfz := frozen_of_row w4 g id _ _ HM4.out.m
          have HS2 := Lib.hid (HS.out)
          rw [HL.out] at HS2
          have HS3 := Lib.hid (HS2.out.next HX.out (by rw [← HL.out]; exact hin) (by omega) b2)
          have HK2 := Lib.hid (show MayK s y (s.lists y) (k + 1) from fun m hm x hx => by
            by_cases e : m = k
            · subst e
              rw [HX.out] at hx
              injection hx with hx
              rw [← hx, HO.out]; exact HR.out.symm
            · exact HK.out m (by omega) x hx)
          have hlk : flatS s y ++ (s.lists y).take (k + 1) = l ++ [(id : Int)] := by
            rw [List.take_succ_eq_append_getElem (by omega), (List.getElem?_eq_some_iff.1 HX.out).2, ← List.append_assoc, ← HL.out]
          have HLK := Lib.hid hlk
          clear hlk HS2
          have HM5 := Lib.hid (HM4.out.set_ hgw id)
          rw [← HLK.out] at HM5
          have HN5 := Lib.hid (show (flatS s y ++ (s.lists y).take (k + 1)).length = l.length + 1 by rw [HLK.out]; simp)
          clear hin hbw
          go_wp2_with fail
          go_roundw
          case rel => exact ⟨k + 1, by go_num, by rw [HN5.out]; go_num, by omega, HS3, HK2, HM5⟩
          case measure => simp [intOf]; omega
        · obtain rfl : k = n2 := by omega
          have hd2 : decide ((k : Int) < (k : Int)) = false := by simp
          have hle : flatS s (y + 1) = l := by rw [flatS_succ, HL.out, List.take_of_length_le (by omega)]
          have HLE := Lib.hid hle
          have HS3 := Lib.hid (show Seen s (y + 1) (flatS s (y + 1)) from Seen.done (by rw [← flatS_succ, HLE.out]; exact HS.out) (by rw [hln]; exact HK.out))
          have HM5 := Lib.hid (show LfS w cs g (flatS s (y + 1)) wr by rw [HLE.out]; exact HM.out)
          clear hle
          go_wp2_with fail
          go_roundw
          case rel => exact ⟨y + 1, by go_num, by rw [HLE.out], by omega, HS3, HM5⟩
          case measure => simp [intOf]; omega
    · obtain rfl : y = 11 := by omega
      have hf := zones_seen HS.out
      have c3 := (HM.out.s.cell 0).trans c0
      have hbw := HM.out.b
      obtain ⟨m, hm⟩ : ∃ m, m = (flatS s 11).length := ⟨_, rfl⟩
      rw [← hm] at hf hfl ⊢
      clear hm
      by_cases e : m = s.objs.length
      · have de : ((m : Int) == (s.objs.length : Int)) = true := by simp; omega
        rw [show (m == s.objs.length) = true by simpa using e] at hf
        obtain rfl := HQ.out.trans hf
        clear hf
        go_wp2_with fail
        go_ret
        exact ⟨rfl, hbw⟩
      · have de : ((m : Int) == (s.objs.length : Int)) = false := by simp; omega
        rw [show (m == s.objs.length) = false by simpa using e] at hf
        obtain rfl := HQ.out.trans hf
        clear hf
        go_wp2_with fail
        go_ret
        exact ⟨rfl, hbw⟩
end Go.Proofs.YtmhabodijmnldaaDoor
namespace Go.Proofs.YtmhabodijmnldaaDoor
open Go.RowKit Ex
attribute [local go_sem] arr_get
set_option maxRecDepth 100000
theorem ranges_zone {s : StT} (h : rangesB s = true) {k : Nat} (hk : k < s.objs.length) : 0 ≤ s.objs[k] 3 := by
  simp only [rangesB, Bool.and_eq_true] at h
  have := List.all_eq_true.1 h.1.1.1 _ (List.getElem_mem hk)
  rw [objectB_is] at this
  have := fitsB_iff.1 this 3 (by omega)
  simp only [inR, Bool.and_eq_true, decide_eq_true_eq, spanO] at this
  exact this.1
set_option maxHeartbeats 0 in
theorem check_code {z : World} (T : TabF z) (s : StT) (O : SlT) (L : Nat → SlT) (cs : Array Value) (w : World) (B : Nat) (h : ReadsS B w cs s O L) (hB : B ≤ w.heap.size) (hn : s.objs.length ≤ 1000000) (hll : ∀ z < 11, (s.lists z).length ≤ 1000000) (hzw : Below z.heap.size z w) :
    Calls Tryd.prog 21 #[.agg cs] w fun e w' => e = .returned (errV (chkS s)) ∧ Below w.heap.size w w' := by
  obtain ⟨q, hq⟩ : ∃ q, q = errV (chkS s) := ⟨_, rfl⟩
  rw [← hq]
  have HQ := Lib.hid hq
  clear hq
  go_enter Tryd.func21, Tryd.ntmps21
  have hcs := h.cs
  have c0 : cs[0]? = some (.slice O.A O.n O.c) := by rw [hcs]; exact stC_objs _ _ _ _
  have hOn := h.on
  have hOc := h.oc
  have hO := h.o
  have hsz : (Tryd.prog.info? 29).map (·.size) = some cs.size := by rw [h.size]; exact size37
  have H := Lib.hid h
  clear h
  obtain ⟨A, n, c⟩ := O
  simp only at c0 hOn hOc hO
  have HC := Lib.hid hcs
  clear hcs
  subst hOn
  go_upto_region 1 with fail
  have hs0 : StAt (w.alloc (.cells cs 29)) w.heap.size cs := StAt.new _ _
  have hb0 : Below w.heap.size w (w.alloc (.cells cs 29)) := (Below.refl _ _).alloc (Nat.le_refl _) _
  obtain ⟨w1, hw1⟩ : ∃ w1, w1 = w.alloc (.cells cs 29) := ⟨_, rfl⟩
  rw [← hw1] at hs0 hb0 ⊢
  clear hw1
  have c1 := (hs0.cell 0).trans c0
  by_cases h4 : 400 < s.objs.length
  · have d4 : decide ((400 : Int) < (s.objs.length : Int)) = true := by simp; omega
    have hf : errV (chkS s) = .iface 41 (.int .i64 5) := by rw [show chkS s = 5 by simp [chkS, h4]]; rfl
    obtain rfl := HQ.out.trans hf
    clear hf
    go_wp2_with fail
    go_ret
    exact ⟨rfl, hb0⟩
  have d4 : decide ((400 : Int) < (s.objs.length : Int)) = false := by simp; omega
  go_wp2_with (refine wpList_load_row rfl 29 (.tmp 1) rfl w.heap.size rfl 29 _ (0, 0) _ hs0 Tryd.underlying29 rfl hsz ?_)
  refine (numbers_code s _ L cs w1 _ ((H.out.more hB).below hb0) hb0.size hn).mono ?_
  rintro e w2 ⟨rfl, hb2⟩
  have hb := keepB hb2 hb0
  have hs2 := hs0.keep hb2
  clear c1
  by_cases hr : rangesB s = true
  case neg =>
    have fr : rangesB s = false := by simpa using hr
    have hf : errV (chkS s) = .iface 41 (.int .i64 1) := by rw [show chkS s = 1 by simp [chkS, h4, fr]]; rfl
    obtain rfl := HQ.out.trans hf
    clear hf
    go_wp2_with fail
    go_ret
    exact ⟨rfl, hb⟩
  have HRz := Lib.hid (fun k (hk : k < s.objs.length) => ranges_zone hr hk)
  go_wp2_with (refine wpList_load_row rfl 29 (.tmp 1) rfl w.heap.size rfl 29 _ (0, 0) _ hs2 Tryd.underlying29 rfl hsz ?_)
  refine (lists_code s _ L cs w2 _ ((H.out.more hB).below hb) hb.size (by omega) hll).mono ?_
  rintro e w3 ⟨rfl, hb3⟩
  have hbb := keepB hb3 hb
  have hs3 := hs2.keep hb3
  clear hb hb2 hs2 hb0 hs0 hb3
  by_cases hz : zonesB s = true
  case neg =>
    have fq : zonesB s = false := by simpa using hz
    have hf : errV (chkS s) = .iface 41 (.int .i64 12) := by rw [show chkS s = 12 by simp [chkS, h4, hr, fq]]; rfl
    obtain rfl := HQ.out.trans hf
    clear hf
    go_wp2_with fail
    go_ret
    exact ⟨rfl, hbb⟩
  have c3 := (hs3.cell 0).trans c0
  go_upto_region 8 with fail
  have hg0 : GoodF s 0 := fun j hj hk => absurd hk (by omega)
  go_loopw [21] (fun i wr => ∃ k : Nat, i = .int .i64 ((k : Nat) : Int) ∧ k ≤ s.objs.length ∧ GoodF s k ∧ Below w.heap.size w wr) (fun i _ => s.objs.length - (intOf i).toNat)
  case atStart => exact ⟨0, rfl, by omega, hg0, hbb⟩
  case round =>
    clear hbb hs3 c3 hg0
    obtain ⟨k, rfl, hk, hgood, hbr⟩ := hrel
    by_cases hlt : k < s.objs.length
    · have hlk := hlt
      obtain ⟨b, off, rfl, hbB, hra⟩ := hO.at_ hlt
      have hra := range_below hbr (by omega) hra
      obtain ⟨x, hx⟩ : ∃ x, x = s.objs[k] := ⟨_, rfl⟩
      rw [← hx] at hra
      have HX := Lib.hid hx
      clear hx
      have hz := st_zero18
      have hnew : (wr.alloc (.cells (arr .i64 18 fun _ => 0) 49)).heap[wr.heap.size]? = some (.cells (arr .i64 18 fun _ => 0) 49 (0, 0)) := heap_alloc_new _ _
      have hsx : (Tryd.prog.info? 49).map (·.size) = some (arr .i64 18 x).size := by rw [arr_size]; exact st_size18
      go_upto_region 10 with (first
        | (refine load_obj rfl (.tmp 23) rfl b (off + k * 18) rfl x hra ?_)
        | (refine wpList_store_row rfl 49 (.tmp 4) (.tmp 24) rfl wr.heap.size _ rfl rfl 49 (arr .i64 18 fun _ => 0) hnew hsx (by rw [arr_size, arr_size]) (arr_one .i64 18 x) ?_))
      obtain ⟨wn, hwn, hEn, hbn⟩ := ob_box wr x
      rw [← hwn]
      have hbrn := keepB hbn hbr
      clear hwn hnew hra hz
      have xs : ∀ i < 18, wn.cell? ⟨wr.heap.size, i, none⟩ = some (.int .i64 (x i)) := fun i hi => by
        have h := cell_of_row wn wr.heap.size i _ _ _ hEn
        rw [arr_get .i64 18 x hi] at h
        exact h
      clear xs
      have hff := formFits_any T x wn (by rw [HX.out]; exact HRz.out k hlt) (hzw.trans (hbrn.mono hzw.size))
      obtain ⟨r, hrr⟩ : ∃ r, r = formedB x := ⟨_, rfl⟩
      rw [← hrr] at hff
      have HR := Lib.hid hrr
      clear hrr
      go_wp2_with (refine wpList_load_row rfl 49 (.tmp 4) rfl wr.heap.size rfl 49 _ (0, 0) _ hEn Tryd.underlying49 rfl hsx ?_)
      refine hff.mono ?_
      rintro e w4 ⟨rfl, hb4⟩
      clear hff
      have hbr4 := keepB hb4 hbrn
      clear hEn hbn hbrn hbr
      by_cases hy : r = true
      · subst hy
        have hgood2 : GoodF s (k + 1) := fun j hj hjk => by
          by_cases e : j = k
          · subst e; rw [← HX.out]; exact HR.out.symm
          · exact hgood j hj (by omega)
        go_wp2_with fail
        go_roundw
        case rel => exact ⟨k + 1, by go_num, by omega, hgood2, hbr4⟩
        case measure => simp [intOf]; omega
      · obtain rfl : r = false := by simpa using hy
        have fa := form_bad hlt (by rw [← HX.out]; exact HR.out.symm)
        have hf : errV (chkS s) = .iface 41 (.int .i64 2) := by rw [show chkS s = 2 by rw [chkS, if_neg h4, hr, hz, fa]; rfl]; rfl
        clear fa
        obtain rfl := HQ.out.trans hf
        clear hf
        go_wp2_with fail
        go_ret
        exact ⟨rfl, hbr4⟩
    · obtain rfl : k = s.objs.length := by omega
      have fa := form_good hgood
      have hf : errV (chkS s) = .nilIface := by rw [show chkS s = 0 by rw [chkS, if_neg h4, hr, hz, fa]; rfl]; rfl
      clear fa
      obtain rfl := HQ.out.trans hf
      clear hf
      go_wp2_with fail
      go_ret
      exact ⟨rfl, hbr⟩
end Go.Proofs.YtmhabodijmnldaaDoor
namespace Go.Proofs.YtmhabodijmnldaaDoor
open Go.RowKit Ex
set_option maxRecDepth 100000
def covF (x y z : Int) : Nat → Int
  | 1 => x
  | 2 => y
  | 3 => z
  | _ => 0
theorem seeO_cov {p : Int} {o : Nat → Int} (h : bitK (o 17) p = false) : seeO p o = covF (o 1) (o 2) (o 3) := by
  funext i
  unfold seeO
  rw [if_neg (by rw [h]; simp)]
  match i with
  | 0 => rfl
  | 1 => rfl
  | 2 => rfl
  | 3 => rfl
  | k + 4 => simp [covF]
theorem build_cov (x y z : Int) (W : World) : (Instr.build 49 #[(1, .int .i64 x), (2, .int .i64 y), (3, .int .i64 z)]).run Tryd.prog W = .ok (.agg (arr .i64 18 (covF x y z))) W := by kernel_rfl
theorem wpList_cov {ops : Array Oper} {rest : List Oper} {o : Oper} {a : Act} {w : World} {Q : Exit → Act → World → Prop} (hg : o.guard = none) (u v t : Operand) (ho : o.op = .build 49 #[(1, u), (2, v), (3, t)])
    (x y z : Int) (hu : a.eval u = .int .i64 x) (hv : a.eval v = .int .i64 y) (ht : a.eval t = .int .i64 z) (hK : wpList Tryd.prog ops Q rest (a.put o.dst (.agg (arr .i64 18 (covF x y z)))) w) : wpList Tryd.prog ops Q (o :: rest) a w := by
  refine wpList_plain hg fun K' hK' => ?_
  unfold Oper.wp
  simp [execOp, ho, hu, hv, ht, build_cov, Result.andThen]
  exact hK' _ _ hK
set_option maxHeartbeats 0 in
theorem covered_code (o : Nat → Int) (w : World) : Calls Tryd.prog 24 #[.agg (arr .i64 18 o)] w fun en w' => en = .returned (.agg (arr .i64 18 (covF (o 1) (o 2) (o 3)))) ∧ Below w.heap.size w w' := by
  have hz := st_zero18
  go_enter Tryd.func24, Tryd.ntmps24
  go_upto_region 1 with fail
  obtain ⟨w2, hw2⟩ : ∃ w2, w2 = (w.alloc (.cells (arr .i64 18 o) 49)).alloc (.cells (arr .i64 18 fun _ => 0) 49) := ⟨_, rfl⟩
  have hb1 : Below (w.alloc (.cells (arr .i64 18 o) 49)).heap.size (w.alloc (.cells (arr .i64 18 o) 49)) w2 := by rw [hw2]; exact (Below.refl _ _).alloc (Nat.le_refl _) _
  have hb0 : Below w.heap.size w (w.alloc (.cells (arr .i64 18 o) 49)) := (Below.refl _ _).alloc (Nat.le_refl _) _
  have ha := (ArrAt.new w .i64 18 49 o).keep hb1
  have hnew : w2.heap[w.heap.size + 1]? = some (.cells (arr .i64 18 fun _ => 0) 49 (0, 0)) := by rw [hw2]; have := heap_alloc_new (w.alloc (.cells (arr .i64 18 o) 49)) (.cells (arr .i64 18 fun _ => 0) 49); rwa [World.size_alloc] at this
  have hbw := keepB hb1 hb0
  show Code.wp _ _ _ _ ((w.alloc (.cells (arr .i64 18 o) 49)).alloc (.cells (arr .i64 18 fun _ => 0) 49))
  rw [← hw2]
  obtain ⟨g, hg⟩ : ∃ g, g = w.heap.size := ⟨_, rfl⟩
  obtain ⟨g2, hg2⟩ : ∃ g2, g2 = g + 1 := ⟨_, rfl⟩
  rw [← hg] at ha hnew
  rw [← hg2] at hnew
  rw [← hg]
  try rw [← hg2]
  have hwg : w.heap.size ≤ g2 := by omega
  have c1 := ha.cell (i := 1) (by omega)
  have c2 := ha.cell (i := 2) (by omega)
  have c3 := ha.cell (i := 3) (by omega)
  have hsx : (Tryd.prog.info? 49).map (·.size) = some (arr .i64 18 (covF (o 1) (o 2) (o 3))).size := by rw [arr_size]; exact st_size18
  have hone := arr_one .i64 18 (covF (o 1) (o 2) (o 3))
  clear hw2 hb1 hb0 ha hg hg2 hz
  go_wp2_with (first
    | (refine wpList_cov rfl (.tmp 4) (.tmp 6) (.tmp 8) rfl (o 1) (o 2) (o 3) rfl rfl rfl ?_)
    | (refine wpList_store_row rfl 49 (.tmp 2) (.tmp 9) rfl g2 _ rfl rfl 49 (arr .i64 18 fun _ => 0) hnew hsx (by rw [arr_size, arr_size]) hone ?_))
  refine bodyPost_ret (v := .agg (arr .i64 18 (covF (o 1) (o 2) (o 3)))) ?_ rfl ⟨rfl, below_setRow hbw g2 _ hwg⟩
  exact results_cell_row (ty := 49) (p := 2) (by kernel_rfl) _ _ g2 49 _ (0, 0) _ rfl (setRow_heap _ _ _ _ _ _ hnew) Tryd.underlying49 rfl hsx
end Go.Proofs.YtmhabodijmnldaaDoor
namespace Go.Proofs.YtmhabodijmnldaaDoor
open Go.RowKit Ex
set_option maxRecDepth 100000
theorem SI.range {w W : World} {gr gt g n c : Nat} {s : StT} {os : List (Nat → Int)} {L : Nat → SlT} (h : SI w gr gt s os ⟨some ⟨g, 0, none⟩, n, c⟩ L W) {i : Nat} (hi : i < os.length) : W.rangeAt g (i * 18) (arr .i64 18 os[i]).toList := fun j v hv => by
  have hj : j < 18 := by
    have := (List.getElem?_eq_some_iff.1 hv).1
    simpa [arr_size] using this
  have ho : W.ownsRow w.heap.size 49 18 (.slice (some ⟨g, 0, none⟩) n c) n (flatO os) := h.o.o
  obtain ⟨g', e', hcell, hfr, hb, hset⟩ := owns_set ho hi hj
  obtain rfl : g = g' := by injection e' with e'; injection e'
  rw [Array.getElem?_toList, arr_get .i64 18 _ hj] at hv
  injection hv with hv
  rw [hcell, ← hv]
theorem seeN_get (p : Int) (os : List (Nat → Int)) (k : Nat) (hk : k < os.length) : (seeN p os k)[k]? = os[k]? := by
  unfold seeN
  rw [List.getElem?_append_right (by simp; omega), List.length_map, List.length_take, Nat.min_eq_left (Nat.le_of_lt hk), Nat.sub_self, List.getElem?_drop, Nat.add_zero]
theorem setC_other {b g : Nat} (hg : g ≠ b) : ∀ (vs : List Value) (o : Nat) (w : World), (w.setCells b o vs).heap[g]? = w.heap[g]?
  | [], _, _ => rfl
  | v :: vs, o, w => (setC_other hg vs (o + 1) (w.setCell ⟨b, o, none⟩ v)).trans (heap_setCell_other w ⟨b, o, none⟩ g v hg)
theorem SI.gbOld {w W : World} {gr gt g n c : Nat} {s : StT} {os : List (Nat → Int)} {L : Nat → SlT} (h : SI w gr gt s os ⟨some ⟨g, 0, none⟩, n, c⟩ L W) : g < W.heap.size ∧ g ≠ gt := by
  have ho : W.ownsRow w.heap.size 49 18 (.slice (some ⟨g, 0, none⟩) n c) n (flatO os) := h.o.o
  obtain ⟨hb, cur, hc⟩ := own_ty ho (j := g) rfl
  refine ⟨(Array.getElem?_eq_some_iff.1 hc).1, fun e => ?_⟩
  subst e
  exact absurd (ty_same h.ta hc) (by decide)
set_option linter.unusedSimpArgs false in
set_option maxHeartbeats 0 in
theorem sees_code {z : World} (T : TabF z) : KwSees z := by
  intro s O L cs p w h hn hll hp hzw
  have H := Lib.hid h
  have HLs := Lib.hid (And.intro hn hll)
  have HT := Lib.hid (T.keep hzw)
  have hz := st0_is
  have hcs := h.size
  clear h hll hn T hzw hp
  go_enter Tryd.func8, Tryd.ntmps8
  go_upto_region 1 with fail
  have hb1 : Below (w.alloc (.cells cs 29)).heap.size (w.alloc (.cells cs 29)) ((w.alloc (.cells cs 29)).alloc (.cells st0 29)) := (Below.refl _ _).alloc (Nat.le_refl _) _
  have hb0 : Below w.heap.size w (w.alloc (.cells cs 29)) := (Below.refl _ _).alloc (Nat.le_refl _) _
  have hs1 := (StAt.new w cs).keep hb1
  have hr1 : StAt ((w.alloc (.cells cs 29)).alloc (.cells st0 29)) (w.heap.size + 1) st0 := by
    have h := StAt.new (w.alloc (.cells cs 29)) st0
    simpa using h
  have hbw := keepB hb1 hb0
  obtain ⟨w1, hw1⟩ : ∃ w1, w1 = (w.alloc (.cells cs 29)).alloc (.cells st0 29) := ⟨_, rfl⟩
  obtain ⟨gs, hgs⟩ : ∃ g, g = w.heap.size := ⟨_, rfl⟩
  obtain ⟨gr, hgr⟩ : ∃ g, g = gs + 1 := ⟨_, rfl⟩
  rw [← hw1] at hs1 hr1 hbw
  rw [← hgs] at hs1 hr1
  rw [← hgr] at hr1
  show Code.wp _ _ _ _ ((w.alloc (.cells cs 29)).alloc (.cells st0 29))
  rw [← hw1, ← hgs, ← hgr]
  have hwr : w.heap.size ≤ gr := by omega
  have hR1 := H.out.grow hbw
  clear hw1 hb0 hb1 hgs hgr
  have hck := check_code (HT.out) s O L cs w1 w1.heap.size hR1 (Nat.le_refl _) (by have := HLs.out.1; omega) (fun z hz => by have := HLs.out.2 z hz; omega) hbw
  obtain ⟨e, hee⟩ : ∃ e, e = chkS s := ⟨_, rfl⟩
  rw [← hee] at hck
  have hsz0 := st0_size'
  have hone0 := st0_one'
  go_wp2_with (refine load_wantS (by rfl) (.tmp 2) rfl gs rfl cs hs1 hcs ?_)
  refine hck.mono ?_
  rintro en w2 ⟨rfl, hb2⟩
  have hs2 := hs1.keep hb2
  have hr2 := hr1.keep hb2
  have HB2 := Lib.hid (keepB hb2 hbw)
  have HR2 := Lib.hid (hR1.grow hb2)
  clear hck hs1 hr1 hbw hb2 hR1
  by_cases he0 : e = 0
  case neg =>
    have HE := Lib.hid (show seesE s p = e from by unfold seesE; rw [← hee, if_pos he0])
    have HZ := Lib.hid (show seesT s p = sT0 from seesT_bad (by rw [HE.out]; exact he0))
    have HF0 := Lib.hid he0
    rw [errV_err he0]
    clear he0 hee
    go_wp2_with (first
      | (refine wpList_buildS0 (by rfl) rfl ?_)
      | (refine wpList_store_row rfl 29 (.tmp 4) (.tmp 14) rfl gr _ rfl rfl 29 st0 hr2 hsz0 rfl hone0 ?_))
    refine bodyPost_ret (v := .tuple #[.agg st0, .iface 41 (.int .i64 e)]) ?_ rfl ⟨st0, nilS, fun _ => nilS, by rw [HE.out, errV_err HF0.out], by rw [HZ.out]; exact reads_0 _ _, below_setRow HB2.out _ _ hwr⟩
    exact results_cell_tmp (ty := 29) (p := 4) (q := 5) (by kernel_rfl) _ _ gr 29 _ (0, 0) _ rfl (setRow_heap _ _ _ _ _ _ hr2) Tryd.underlying29 rfl hsz0
  have HEe := Lib.hid (show chkS s = 0 from by rw [← hee, he0])
  rw [he0, errV_nil]
  clear he0 hee e
  have hpl := isPlayer_code p w2
  obtain ⟨q, hq⟩ : ∃ q, q = isPlK p := ⟨_, rfl⟩
  rw [← hq] at hpl
  have HQ := Lib.hid hq
  clear hq
  go_wp2_with fail
  refine hpl.mono ?_
  rintro en w2' ⟨rfl, rfl⟩
  clear hpl
  cases q with
  | false =>
    have HE := Lib.hid (show seesE s p = 1 from by
      unfold seesE
      have h := HQ.out
      unfold isPlK at h
      rw [if_neg (by rw [HEe.out]; simp), if_neg (by intro hh; rcases hh with hh | hh <;> simp [hh] at h)])
    have HZ := Lib.hid (show seesT s p = sT0 from seesT_bad (by rw [HE.out]; decide))
    go_wp2_with (first
      | (refine wpList_buildS0 (by rfl) rfl ?_)
      | (refine wpList_store_row rfl 29 (.tmp 4) (.tmp 19) rfl gr _ rfl rfl 29 st0 hr2 hsz0 rfl hone0 ?_))
    refine bodyPost_ret (v := .tuple #[.agg st0, .iface 41 (.int .i64 1)]) ?_ rfl ⟨st0, nilS, fun _ => nilS, by rw [HE.out, errV_err (by decide)], by rw [HZ.out]; exact reads_0 _ _, below_setRow HB2.out _ _ hwr⟩
    exact results_cell_tmp (ty := 29) (p := 4) (q := 5) (by kernel_rfl) _ _ gr 29 _ (0, 0) _ rfl (setRow_heap _ _ _ _ _ _ hr2) Tryd.underlying29 rfl hsz0
  | true =>
  have HE := Lib.hid (show seesE s p = 0 from by
    unfold seesE
    have h := HQ.out
    unfold isPlK at h
    rw [if_neg (by rw [HEe.out]; simp), if_pos (by simpa using h.symm)])
  have HZ := Lib.hid (show seesT s p = seeS p s from seesT_ok HE.out)
  have hcp := copyC_own s O L cs w2 HR2.out (by have := HLs.out.1; omega) (fun z hz => by have := HLs.out.2 z hz; omega)
  go_wp2_with (refine load_wantS (by rfl) (.tmp 2) rfl gs rfl cs hs2 hcs ?_)
  refine hcp.mono ?_
  rintro en w3 ⟨cC, rfl, OC, LC, hcC, hoC, hb3⟩
  clear hcp hs2 HR2
  have hnew : (w3.alloc (.cells st0 29)).heap[w3.heap.size]? = some (.cells st0 29 (0, 0)) := heap_alloc_new _ _
  have hsz : (Tryd.prog.info? 29).map (·.size) = some cC.size := by rw [hcC, stC_size]; exact size37
  have hs0 : st0.size = cC.size := by rw [hcC, stC_size]; exact stC_size _ _ _ _
  have hone : cC.all (·.oneCell') = true := by rw [hcC]; exact stC_one _ _ _ _
  have HcC := Lib.hid hcC
  have hrl := hr2.lt
  clear hcC hsz0 hone0
  go_upto_region 7 with (refine wpList_store_row rfl 29 (.tmp 7) (.tmp 22) rfl w3.heap.size _ rfl rfl 29 st0 hnew hsz hs0 hone ?_)
  clear hnew hsz hs0 hone
  obtain ⟨w4, hw4, ha4, hb4⟩ := box_new w3 cC
  rw [← hw4]
  have hbb := keepB hb4 (keepB hb3 HB2.out)
  have HI := Lib.hid (show SI w gr w3.heap.size s (seeN p s.objs 0) OC LC w4 from by
    refine ⟨hbb, hr2.keep (keepB hb4 hb3), by rw [← HcC.out]; exact ha4, ?_⟩
    rw [seeN_0]
    exact (hoC.below hb4).low HB2.out.size)
  have hne : gr ≠ w3.heap.size := by have := hb3.size; omega
  obtain ⟨gt, hgt⟩ : ∃ g, g = w3.heap.size := ⟨_, rfl⟩
  rw [← hgt] at HI hne
  rw [← hgt]
  clear hw4 ha4 hb4 hgt hoC hb3 hr2 hrl HcC hbb HB2 HT
  obtain ⟨AC, nC, cC'⟩ := OC
  obtain rfl : nC = (seeN p s.objs 0).length := HI.out.o.on
  have cg : w4.cell? ⟨gt, 0, none⟩ = some (.slice AC (seeN p s.objs 0).length cC') := by rw [HI.out.ta.cell]; exact stC_objs _ _ _ _
  go_upto_region 8 with fail
  clear cg
  go_loopw [26] (fun i wr => ∃ k : Nat, i = .int .i64 ((k : Nat) : Int) ∧ k ≤ s.objs.length ∧ Hid (SI w gr gt s (seeN p s.objs k) ⟨AC, (seeN p s.objs 0).length, cC'⟩ LC wr)) (fun i _ => s.objs.length - (intOf i).toNat)
  case atStart => exact ⟨0, rfl, by omega, HI⟩
  case round =>
    clear HI
    obtain ⟨k, rfl, hk, HI⟩ := hrel
    obtain ⟨nn, hnn⟩ : ∃ nn, nn = (seeN p s.objs 0).length := ⟨_, rfl⟩
    have HNN := Lib.hid (show nn = s.objs.length from by rw [hnn, seeN_len])
    rw [← hnn] at HI
    try rw [← hnn]
    by_cases hlt : k < s.objs.length
    · obtain ⟨o, ho⟩ : ∃ o, s.objs[k]? = some o := ⟨_, List.getElem?_eq_getElem hlt⟩
      have hkl : k < (seeN p s.objs k).length := by rw [seeN_len]; exact hlt
      have hown : wr.ownsRow w.heap.size 49 18 (.slice AC nn cC') nn (flatO (seeN p s.objs k)) := HI.out.o.o
      obtain ⟨gb, rfl, hcap⟩ := own_form hown (by have := HNN.out; omega)
      have hat : (seeN p s.objs k)[k] = o := by
        have h1 := seeN_get p s.objs k hlt
        rw [ho, List.getElem?_eq_getElem hkl] at h1
        exact Option.some.inj h1
      have hra := HI.out.range hkl
      rw [hat] at hra
      have HRa := Lib.hid hra
      have HO := Lib.hid ho
      have HGB := Lib.hid HI.out.gbOld
      have p0 : (0 : Int) ≤ (k : Int) := by omega
      have p1 : (k : Int) < (nn : Int) := by have := HNN.out; omega
      have p2 : (k : Int) ≤ 1000 := by have := HLs.out.1; omega
      have HKL := Lib.hid hkl
      have hz := st_zero18
      have hnew : (wr.alloc (.cells (arr .i64 18 fun _ => 0) 49)).heap[wr.heap.size]? = some (.cells (arr .i64 18 fun _ => 0) 49 (0, 0)) := heap_alloc_new _ _
      have hsx : (Tryd.prog.info? 49).map (·.size) = some (arr .i64 18 o).size := by rw [arr_size]; exact st_size18
      clear ho hra hown hat hkl hnn
      go_upto_region 10 with (first
        | (refine load_obj rfl (.tmp 29) rfl gb (k * 18) rfl o HRa.out ?_)
        | (refine wpList_store_row rfl 49 (.tmp 9) (.tmp 30) rfl wr.heap.size _ rfl rfl 49 (arr .i64 18 fun _ => 0) hnew hsx (by rw [arr_size, arr_size]) (arr_one .i64 18 o) ?_))
      obtain ⟨w5, hw5, hO5, hb5⟩ := ob_box wr o
      rw [← hw5]
      have HI5 := Lib.hid (HI.out.keep hb5)
      obtain ⟨g7, hg7⟩ : ∃ g, g = wr.heap.size := ⟨_, rfl⟩
      have HG7 := Lib.hid (show gb ≠ g7 from by have := HGB.out.1; omega)
      rw [← hg7] at hO5 ⊢
      clear hw5 hg7 hnew hsx hb5 HI HRa
      have hr5 := hO5.range
      obtain ⟨q, hq⟩ : ∃ q, q = bitK (o 17) p := ⟨_, rfl⟩
      have hkn := knows_code o p w5
      rw [← hq] at hkn
      go_wp2_with (refine load_objW (by rfl) (.tmp 9) rfl g7 0 rfl o hr5 ?_)
      refine hkn.mono ?_
      rintro en w6 ⟨rfl, hb6⟩
      have HI6 := Lib.hid (HI5.out.keep hb6)
      have hO6 := ObAt.keep hO5 hb6
      clear HI5 hO5 hb6 hr5 hkn
      cases q with
      | true =>
        have HN := Lib.hid (seeN_same p HO.out hq.symm)
        clear hO6 hq
        go_wp2_with fail
        go_roundw
        case rel => exact ⟨k + 1, by go_num, by omega, by rw [HN.out]; exact HI6⟩
        case measure => simp [intOf]; omega
      | false =>
        have HCv := Lib.hid (seeO_cov hq.symm)
        clear hq
        go_upto_region 11 with fail
        obtain ⟨C, hC⟩ : ∃ C, C = stC ⟨some ⟨gb, 0, none⟩, nn, cC'⟩ LC s.pl s.gm := ⟨_, rfl⟩
        have hta : StAt w6.drew gt C := by rw [hC]; exact HI6.out.ta
        have c0 : C[0]? = some (.slice (some ⟨gb, 0, none⟩) nn cC') := by rw [hC]; exact stC_objs _ _ _ _
        have ct : ∀ W, (StAt W gt C ∧ ObAt W g7 o) → W.cell? ⟨gt, 0, none⟩ = some (.slice (some ⟨gb, 0, none⟩) nn cC') := fun W hW => by rw [hW.1.cell]; exact c0
        have HBD := Lib.hid (show Below w6.heap.size w6 w6.drew from (Below.refl _ _).drew)
        refine wp_region_held_drew (S := fun W => StAt W gt C ∧ ObAt W g7 o) (by kernel_rfl) ⟨hta, hO6⟩ (fun hHeld => ?_)
        clear hC hta
        generalize w6.drew = W0 at hHeld HBD ⊢
        refine wpAnyH_take (i := 0) (v := ?_) rfl (by kernel_rfl) (by kernel_rfl) (by kernel_rfl) (fun _ _ _ h => h) (Or.inl ⟨by rfl, ?_⟩) hHeld ?_
        rotate_left
        · (intro w hSw; go_simp; (try with_reducible rfl))
        simp only [Act.put, List.getElem_toArray, List.getElem_cons_zero, List.getElem_cons_succ, List.setIfInBounds_toArray, List.set_cons_zero, List.set_cons_succ]
        refine wpAnyH_take (i := 1) (v := ?_) rfl (by kernel_rfl) (by kernel_rfl) (by kernel_rfl) (fun _ _ _ h => h) (Or.inl ⟨by rfl, ?_⟩) hHeld ?_
        rotate_left
        · (intro w hSw; go_simp; (try with_reducible rfl))
        simp only [Act.put, List.getElem_toArray, List.getElem_cons_zero, List.getElem_cons_succ, List.setIfInBounds_toArray, List.set_cons_zero, List.set_cons_succ]
        refine wpAnyH_take (i := 2) (v := ?_) rfl (by kernel_rfl) (by kernel_rfl) (by kernel_rfl) (fun _ _ _ h => h) (Or.inl ⟨by rfl, ?_⟩) hHeld ?_
        rotate_left
        · (intro w hSw; go_simp; (try with_reducible rfl))
        simp only [Act.put, List.getElem_toArray, List.getElem_cons_zero, List.getElem_cons_succ, List.setIfInBounds_toArray, List.set_cons_zero, List.set_cons_succ]
        refine wpAnyH_take (i := 3) (v := .agg (arr .i64 18 o)) rfl (by kernel_rfl) (by kernel_rfl) (by kernel_rfl) (fun _ _ _ h => h) (yields_obK (by rfl) (.tmp 9) rfl g7 rfl o (fun W hW => And.right hW)) hHeld ?_
        simp only [Act.put, List.getElem_toArray, List.getElem_cons_zero, List.getElem_cons_succ, List.setIfInBounds_toArray, List.set_cons_zero, List.set_cons_succ]
        refine wpAnyH_ready (rs := [4]) (by kernel_rfl) (by simp) ?_
        refine AllReadyH.cons rfl (fun K hK => ?_) AllReadyH.nil
        simp only [List.getElem_toArray, List.getElem_cons_zero, List.getElem_cons_succ]
        go_simp
        refine (covered_code o W0).mono ?_
        rintro en w7 ⟨rfl, hb7⟩
        go_wp2_with fail
        have hHeld7 : StAt w7 gt C ∧ ObAt w7 g7 o := ⟨hHeld.1.keep hb7, ObAt.keep hHeld.2 hb7⟩
        have HI7 := Lib.hid (HI6.out.keep (keepB hb7 HBD.out))
        refine hK.out _ _ hHeld7 (fun _ => ?_)
        clear hK K hHeld HI6 hb7 HBD
        have hHeld := hHeld7
        clear hHeld7
        try simp only [Act.put, List.setIfInBounds_toArray, List.set_cons_zero, List.set_cons_succ]
        refine wpAnyH_take (i := 5) (v := ?_) rfl (by kernel_rfl) (by kernel_rfl) (by kernel_rfl) (fun _ _ _ h => h) (Or.inl ⟨by rfl, ?_⟩) hHeld ?_
        rotate_left
        · (intro w hSw; go_simp; (try with_reducible rfl))
        simp only [Act.put, List.getElem_toArray, List.getElem_cons_zero, List.getElem_cons_succ, List.setIfInBounds_toArray, List.set_cons_zero, List.set_cons_succ]
        have hth : w7.there gb (k * 18) (arr .i64 18 (covF (o 1) (o 2) (o 3))).size := by rw [arr_size]; exact HI7.out.there HKL.out
        have hsx : (Tryd.prog.info? 49).map (·.size) = some (arr .i64 18 (covF (o 1) (o 2) (o 3))).size := by rw [arr_size]; exact st_size18
        have hone := arr_one .i64 18 (covF (o 1) (o 2) (o 3))
        have HI8 := Lib.hid (show SI w gr gt s (seeN p s.objs (k + 1)) ⟨some ⟨gb, 0, none⟩, nn, cC'⟩ LC (w7.setCells gb (k * 18) (arr .i64 18 (covF (o 1) (o 2) (o 3))).toList) from by rw [seeN_at p HO.out, HCv.out]; exact HI7.out.set18 HKL.out _)
        have hH8 : StAt (w7.setCells gb (k * 18) (arr .i64 18 (covF (o 1) (o 2) (o 3))).toList) gt C ∧ ObAt (w7.setCells gb (k * 18) (arr .i64 18 (covF (o 1) (o 2) (o 3))).toList) g7 o := ⟨(setC_other (Ne.symm HGB.out.2) _ _ _).trans hHeld.1, (setC_other (Ne.symm HG7.out) _ _ _).trans hHeld.2⟩
        refine wpAnyH_ready (rs := [6]) (by kernel_rfl) (by simp) ?_
        refine AllReadyH.cons rfl (fun K hK => ?_) AllReadyH.nil
        simp only [List.getElem_toArray, List.getElem_cons_zero, List.getElem_cons_succ]
        refine wp_store_mid 49 (.tmp 40) (.tmp 39) rfl gb (k * 18) (arr .i64 18 (covF (o 1) (o 2) (o 3))) (by simp [Act.eval]; done) rfl hth hsx hone ?_
        refine hK.out _ _ hH8 (fun _ => ?_)
        clear hK K
        try simp only [Act.put, List.setIfInBounds_toArray, List.set_cons_zero, List.set_cons_succ]
        refine wpAnyH_done (by kernel_rfl) ?_ _
        clear ct c0 hO6 hth hsx hone hH8 hHeld HI7
        go_wp2_with fail
        go_roundw
        case rel => exact ⟨k + 1, by go_num, by omega, HI8⟩
        case measure => simp [intOf]; omega
    · obtain rfl : k = s.objs.length := by omega
      have hfin := HI.out
      have hI : I64S (seeS p s) := by
        have hi := H.out.i64
        refine ⟨fun x hx i hil => ?_, hi.l, hi.p, hi.g⟩
        obtain ⟨y, hy, rfl⟩ := List.mem_map.1 hx
        unfold seeO
        split
        · exact hi.o y hy i hil
        · show N64 (if _ then _ else _)
          split
          · exact hi.o y hy i hil
          · unfold N64; omega
      have hr9 := HI.out.r
      have hg9 := HI.out.ta
      have hsz9 : (Tryd.prog.info? 29).map (·.size) = some (stC ⟨AC, nn, cC'⟩ LC s.pl s.gm).size := by rw [stC_size]; exact size37
      have hs9 : st0.size = (stC ⟨AC, nn, cC'⟩ LC s.pl s.gm).size := by rw [stC_size, show st0.size = 37 from stC_size _ _ _ _]
      have hone9 := stC_one ⟨AC, nn, cC'⟩ LC s.pl s.gm
      have HF := Lib.hid (show ReadsS (wr.setRow gr (stC ⟨AC, nn, cC'⟩ LC s.pl s.gm)).heap.size (wr.setRow gr (stC ⟨AC, nn, cC'⟩ LC s.pl s.gm)) (stC ⟨AC, nn, cC'⟩ LC s.pl s.gm) (seeS p s) ⟨AC, nn, cC'⟩ LC ∧ Below w.heap.size w (wr.setRow gr (stC ⟨AC, nn, cC'⟩ LC s.pl s.gm)) from by
        have ho := hfin.o
        rw [seeN_all] at ho
        exact ⟨(OwnS.rowK ho hr9 _).reads hI.o hI.l hI.p hI.g, below_setRow hfin.b gr _ hwr⟩)
      have dl : decide (s.objs.length < nn) = false := by have := HNN.out; simp; omega
      obtain ⟨cs9, hcs9⟩ : ∃ cs9, cs9 = stC ⟨AC, nn, cC'⟩ LC s.pl s.gm := ⟨_, rfl⟩
      rw [← hcs9] at HF hg9 hsz9 hs9 hone9
      clear hcs9 HI hfin hI hnn
      go_wp2_with (first
        | (refine wpList_load_row rfl 29 (.tmp 7) rfl gt rfl 29 _ (0, 0) _ hg9 Tryd.underlying29 rfl hsz9 ?_)
        | (refine wpList_store_row rfl 29 (.tmp 4) (.tmp 42) rfl gr _ rfl rfl 29 st0 hr9 hsz9 hs9 hone9 ?_))
      refine bodyPost_ret (v := .tuple #[.agg cs9, .nilIface]) ?_ rfl ⟨cs9, ⟨AC, nn, cC'⟩, LC, by rw [HE.out, errV_nil], by rw [HZ.out]; exact HF.out.1, HF.out.2⟩
      exact results_cell_tmp (ty := 29) (p := 4) (q := 5) (by kernel_rfl) _ _ gr 29 _ (0, 0) _ rfl (setRow_heap _ _ _ _ _ _ hr9) Tryd.underlying29 rfl hsz9
end Go.Proofs.YtmhabodijmnldaaDoor
namespace Go.Proofs.YtmhabodijmnldaaDoor
open Go.RowKit Ex
set_option maxRecDepth 100000
theorem tabK_sees {W : World} (h : laidMetH Tryd.prog Rows.knowSeesRow.laid W) : TabF W := tabF_of h (by kernel_rfl)
theorem tabK_hides {W : World} (h : laidMetH Tryd.prog Rows.knowHidesRow.laid W) : TabF W := tabF_of h (by kernel_rfl)
end Go.Proofs.YtmhabodijmnldaaDoor
