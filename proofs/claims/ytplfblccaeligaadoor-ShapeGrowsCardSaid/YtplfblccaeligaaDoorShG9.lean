/- Layer 10: the code's isOwned, isList, Side. Layer 10: the code's isList and Top. Layer 10: the code's isOwned, isList, Zone, Side, Top, New, Cards. Layer 10: the code's spans, and what has a number. Layer 10: the code's numbersFit. Layer 10: the code's mayStand and formFits. Tables that a row lists: from 'it reads as this datum' to the cells. Arrays and structs of numbers, bools and strings, nested as you like. Over any program. Layer 10: from the row's list to the table of the fields that only what is on the field may have. -/
import Derived.Test.YtplfblccaeligaaDoorShG3
import Derived.Test.YtplfblccaeligaaDoorShG4
import Derived.OwnWalk
import Derived.LaidLaws
import Derived.LaidSub
import Derived.OpenShut
import Derived.ChangeArms
namespace Go.Proofs.YtplfblccaeligaaDoor
open Go.RowKit Ex
set_option maxRecDepth 100000
theorem isOwned_any (z : Int) (w : World) : Calls Tryd.prog 57 #[.int .i64 z] w fun e w' => e = .returned (.bool (decide (0 ≤ z) && decide (z < 8))) ∧ w = w' := by
  go_enter Tryd.func57, Tryd.ntmps57
  go_wp2_with fail
  all_goals (go_ret; refine ⟨?_, rfl⟩; simp [*] <;> omega)
def sideB (z : Int) : Int := if 0 ≤ z ∧ z < 8 then z - z % 2 else if 0 ≤ z ∧ z < 11 then z else 0
def sideP (z : Int) : Int := if 0 ≤ z ∧ z < 8 then z % 2 else 0
def sideO (z : Int) : Bool := decide (0 ≤ z) && decide (z < 8)
end Go.Proofs.YtplfblccaeligaaDoor
namespace Go.Proofs.YtplfblccaeligaaDoor
open Go.RowKit Ex
attribute [local go_sem] arr_get
set_option maxRecDepth 100000
/-- The last number of a list, and whether there is one. -/
def topB (s : StT) (z : Int) : Bool := decide (0 ≤ z) && decide (z < 11) && decide (0 < (s.lists z.toNat).length)
def topX (s : StT) (z : Int) : Int := if topB s z = true then (s.lists z.toNat).getD ((s.lists z.toNat).length - 1) 0 else 0
end Go.Proofs.YtplfblccaeligaaDoor
namespace Go.Proofs.YtplfblccaeligaaDoor
open Go.RowKit Ex
attribute [local go_sem] arr_get
set_option maxRecDepth 100000
/-- A player's list. -/
def zoneV (b p : Int) : Int := if (b = 0 ∨ b = 2 ∨ b = 4 ∨ b = 6) ∧ (p = 0 ∨ p = 1) then b + p else -1
end Go.Proofs.YtplfblccaeligaaDoor
namespace Go.Proofs.YtplfblccaeligaaDoor
open Go.RowKit Ex
attribute [local go_sem] arr_get
set_option maxRecDepth 100000
theorem has_span (a b n : Int) (w : World) : Calls Tryd.prog 53 #[.agg #[.int .i64 a, .int .i64 b], .int .i64 n] w fun e w' => e = .returned (.bool (inR n a b)) ∧ Below w.heap.size w w' := by
  go_enter Tryd.func53, Tryd.ntmps53
  go_wp2_with fail
  all_goals (go_ret; refine ⟨?_, (Below.refl _ _).alloc (Nat.le_refl _) _⟩; simp [inR, *] <;> omega)
def spanO (n : Int) : Nat → Int × Int
  | 0 => (0, 119) | 1 => (0, 1) | 2 => (0, 1) | 3 => (0, 10) | 4 => (0, 1) | 5 => (0, 1) | 6 => (0, 1073741824) | 7 => (0, 1073741824) | 8 => (-1073741824, 1073741824) | 9 => (-1073741824, 1073741824)
  | 10 => (0, 255) | 11 => (0, 1) | 12 => (0, n) | 13 => (0, 2) | 14 => (0, 3) | 15 => (0, n) | 16 => (-2, n) | _ => (0, 3)
def spanP : Nat → Int × Int
  | 0 => (-1073741824, 1073741824) | 7 => (0, 1) | 8 => (0, 1) | _ => (0, 1000)
def spanG : Nat → Int × Int
  | 0 => (0, 1073741824) | 2 => (0, 7) | 5 => (0, 4096) | 6 => (0, 3) | _ => (0, 1)
def spV (p : Int × Int) : Value := .agg #[.int .i64 p.1, .int .i64 p.2]
theorem size_span : (Tryd.prog.info? 96).map (·.size) = some 2 := by kernel_rfl
theorem obj_span (n : Int) : ∀ k, k < 18 → ∀ w, Calls Tryd.prog 52 #[.int .i64 ((k : Nat) : Int), .int .i64 n] w fun e w' => e = .returned (spV (spanO n k)) ∧ Below w.heap.size w w'
  | 0, _, w => by
    go_enter Tryd.func52, Tryd.ntmps52
    go_wp2_with fail
    refine bodyPost_ret (v := spV (spanO n 0)) ?_ rfl ⟨rfl, (Below.refl _ _).alloc (Nat.le_refl _) _⟩
    exact results_cell_row (ty := 96) (p := 4) (by kernel_rfl) _ _ w.heap.size 96 _ (0, 0) _ rfl (heap_alloc_new _ _) Tryd.underlying96 rfl size_span
  | 1, _, w => by
    go_enter Tryd.func52, Tryd.ntmps52
    go_wp2_with fail
    refine bodyPost_ret (v := spV (spanO n 1)) ?_ rfl ⟨rfl, (Below.refl _ _).alloc (Nat.le_refl _) _⟩
    exact results_cell_row (ty := 96) (p := 4) (by kernel_rfl) _ _ w.heap.size 96 _ (0, 0) _ rfl (heap_alloc_new _ _) Tryd.underlying96 rfl size_span
  | 2, _, w => by
    go_enter Tryd.func52, Tryd.ntmps52
    go_wp2_with fail
    refine bodyPost_ret (v := spV (spanO n 2)) ?_ rfl ⟨rfl, (Below.refl _ _).alloc (Nat.le_refl _) _⟩
    exact results_cell_row (ty := 96) (p := 4) (by kernel_rfl) _ _ w.heap.size 96 _ (0, 0) _ rfl (heap_alloc_new _ _) Tryd.underlying96 rfl size_span
  | 3, _, w => by
    go_enter Tryd.func52, Tryd.ntmps52
    go_wp2_with fail
    refine bodyPost_ret (v := spV (spanO n 3)) ?_ rfl ⟨rfl, (Below.refl _ _).alloc (Nat.le_refl _) _⟩
    exact results_cell_row (ty := 96) (p := 4) (by kernel_rfl) _ _ w.heap.size 96 _ (0, 0) _ rfl (heap_alloc_new _ _) Tryd.underlying96 rfl size_span
  | 4, _, w => by
    go_enter Tryd.func52, Tryd.ntmps52
    go_wp2_with fail
    refine bodyPost_ret (v := spV (spanO n 4)) ?_ rfl ⟨rfl, (Below.refl _ _).alloc (Nat.le_refl _) _⟩
    exact results_cell_row (ty := 96) (p := 4) (by kernel_rfl) _ _ w.heap.size 96 _ (0, 0) _ rfl (heap_alloc_new _ _) Tryd.underlying96 rfl size_span
  | 5, _, w => by
    go_enter Tryd.func52, Tryd.ntmps52
    go_wp2_with fail
    refine bodyPost_ret (v := spV (spanO n 5)) ?_ rfl ⟨rfl, (Below.refl _ _).alloc (Nat.le_refl _) _⟩
    exact results_cell_row (ty := 96) (p := 4) (by kernel_rfl) _ _ w.heap.size 96 _ (0, 0) _ rfl (heap_alloc_new _ _) Tryd.underlying96 rfl size_span
  | 6, _, w => by
    go_enter Tryd.func52, Tryd.ntmps52
    go_wp2_with fail
    refine bodyPost_ret (v := spV (spanO n 6)) ?_ rfl ⟨rfl, (Below.refl _ _).alloc (Nat.le_refl _) _⟩
    exact results_cell_row (ty := 96) (p := 4) (by kernel_rfl) _ _ w.heap.size 96 _ (0, 0) _ rfl (heap_alloc_new _ _) Tryd.underlying96 rfl size_span
  | 7, _, w => by
    go_enter Tryd.func52, Tryd.ntmps52
    go_wp2_with fail
    refine bodyPost_ret (v := spV (spanO n 7)) ?_ rfl ⟨rfl, (Below.refl _ _).alloc (Nat.le_refl _) _⟩
    exact results_cell_row (ty := 96) (p := 4) (by kernel_rfl) _ _ w.heap.size 96 _ (0, 0) _ rfl (heap_alloc_new _ _) Tryd.underlying96 rfl size_span
  | 8, _, w => by
    go_enter Tryd.func52, Tryd.ntmps52
    go_wp2_with fail
    refine bodyPost_ret (v := spV (spanO n 8)) ?_ rfl ⟨rfl, (Below.refl _ _).alloc (Nat.le_refl _) _⟩
    exact results_cell_row (ty := 96) (p := 4) (by kernel_rfl) _ _ w.heap.size 96 _ (0, 0) _ rfl (heap_alloc_new _ _) Tryd.underlying96 rfl size_span
  | 9, _, w => by
    go_enter Tryd.func52, Tryd.ntmps52
    go_wp2_with fail
    refine bodyPost_ret (v := spV (spanO n 9)) ?_ rfl ⟨rfl, (Below.refl _ _).alloc (Nat.le_refl _) _⟩
    exact results_cell_row (ty := 96) (p := 4) (by kernel_rfl) _ _ w.heap.size 96 _ (0, 0) _ rfl (heap_alloc_new _ _) Tryd.underlying96 rfl size_span
  | 10, _, w => by
    go_enter Tryd.func52, Tryd.ntmps52
    go_wp2_with fail
    refine bodyPost_ret (v := spV (spanO n 10)) ?_ rfl ⟨rfl, (Below.refl _ _).alloc (Nat.le_refl _) _⟩
    exact results_cell_row (ty := 96) (p := 4) (by kernel_rfl) _ _ w.heap.size 96 _ (0, 0) _ rfl (heap_alloc_new _ _) Tryd.underlying96 rfl size_span
  | 11, _, w => by
    go_enter Tryd.func52, Tryd.ntmps52
    go_wp2_with fail
    refine bodyPost_ret (v := spV (spanO n 11)) ?_ rfl ⟨rfl, (Below.refl _ _).alloc (Nat.le_refl _) _⟩
    exact results_cell_row (ty := 96) (p := 4) (by kernel_rfl) _ _ w.heap.size 96 _ (0, 0) _ rfl (heap_alloc_new _ _) Tryd.underlying96 rfl size_span
  | 12, _, w => by
    go_enter Tryd.func52, Tryd.ntmps52
    go_wp2_with fail
    refine bodyPost_ret (v := spV (spanO n 12)) ?_ rfl ⟨rfl, (Below.refl _ _).alloc (Nat.le_refl _) _⟩
    exact results_cell_row (ty := 96) (p := 4) (by kernel_rfl) _ _ w.heap.size 96 _ (0, 0) _ rfl (heap_alloc_new _ _) Tryd.underlying96 rfl size_span
  | 13, _, w => by
    go_enter Tryd.func52, Tryd.ntmps52
    go_wp2_with fail
    refine bodyPost_ret (v := spV (spanO n 13)) ?_ rfl ⟨rfl, (Below.refl _ _).alloc (Nat.le_refl _) _⟩
    exact results_cell_row (ty := 96) (p := 4) (by kernel_rfl) _ _ w.heap.size 96 _ (0, 0) _ rfl (heap_alloc_new _ _) Tryd.underlying96 rfl size_span
  | 14, _, w => by
    go_enter Tryd.func52, Tryd.ntmps52
    go_wp2_with fail
    refine bodyPost_ret (v := spV (spanO n 14)) ?_ rfl ⟨rfl, (Below.refl _ _).alloc (Nat.le_refl _) _⟩
    exact results_cell_row (ty := 96) (p := 4) (by kernel_rfl) _ _ w.heap.size 96 _ (0, 0) _ rfl (heap_alloc_new _ _) Tryd.underlying96 rfl size_span
  | 15, _, w => by
    go_enter Tryd.func52, Tryd.ntmps52
    go_wp2_with fail
    refine bodyPost_ret (v := spV (spanO n 15)) ?_ rfl ⟨rfl, (Below.refl _ _).alloc (Nat.le_refl _) _⟩
    exact results_cell_row (ty := 96) (p := 4) (by kernel_rfl) _ _ w.heap.size 96 _ (0, 0) _ rfl (heap_alloc_new _ _) Tryd.underlying96 rfl size_span
  | 16, _, w => by
    go_enter Tryd.func52, Tryd.ntmps52
    go_wp2_with fail
    refine bodyPost_ret (v := spV (spanO n 16)) ?_ rfl ⟨rfl, (Below.refl _ _).alloc (Nat.le_refl _) _⟩
    exact results_cell_row (ty := 96) (p := 4) (by kernel_rfl) _ _ w.heap.size 96 _ (0, 0) _ rfl (heap_alloc_new _ _) Tryd.underlying96 rfl size_span
  | 17, _, w => by
    go_enter Tryd.func52, Tryd.ntmps52
    go_wp2_with fail
    refine bodyPost_ret (v := spV (spanO n 17)) ?_ rfl ⟨rfl, (Below.refl _ _).alloc (Nat.le_refl _) _⟩
    exact results_cell_row (ty := 96) (p := 4) (by kernel_rfl) _ _ w.heap.size 96 _ (0, 0) _ rfl (heap_alloc_new _ _) Tryd.underlying96 rfl size_span
  | _ + 18, h, _ => absurd h (by omega)
theorem pl_span : ∀ k, k < 9 → ∀ w, Calls Tryd.prog 54 #[.int .i64 ((k : Nat) : Int)] w fun e w' => e = .returned (spV (spanP k)) ∧ Below w.heap.size w w'
  | 0, _, w => by
    go_enter Tryd.func54, Tryd.ntmps54
    go_wp2_with fail
    refine bodyPost_ret (v := spV (spanP 0)) ?_ rfl ⟨rfl, (Below.refl _ _).alloc (Nat.le_refl _) _⟩
    exact results_cell_row (ty := 96) (p := 2) (by kernel_rfl) _ _ w.heap.size 96 _ (0, 0) _ rfl (heap_alloc_new _ _) Tryd.underlying96 rfl size_span
  | 1, _, w => by
    go_enter Tryd.func54, Tryd.ntmps54
    go_wp2_with fail
    refine bodyPost_ret (v := spV (spanP 1)) ?_ rfl ⟨rfl, (Below.refl _ _).alloc (Nat.le_refl _) _⟩
    exact results_cell_row (ty := 96) (p := 2) (by kernel_rfl) _ _ w.heap.size 96 _ (0, 0) _ rfl (heap_alloc_new _ _) Tryd.underlying96 rfl size_span
  | 2, _, w => by
    go_enter Tryd.func54, Tryd.ntmps54
    go_wp2_with fail
    refine bodyPost_ret (v := spV (spanP 2)) ?_ rfl ⟨rfl, (Below.refl _ _).alloc (Nat.le_refl _) _⟩
    exact results_cell_row (ty := 96) (p := 2) (by kernel_rfl) _ _ w.heap.size 96 _ (0, 0) _ rfl (heap_alloc_new _ _) Tryd.underlying96 rfl size_span
  | 3, _, w => by
    go_enter Tryd.func54, Tryd.ntmps54
    go_wp2_with fail
    refine bodyPost_ret (v := spV (spanP 3)) ?_ rfl ⟨rfl, (Below.refl _ _).alloc (Nat.le_refl _) _⟩
    exact results_cell_row (ty := 96) (p := 2) (by kernel_rfl) _ _ w.heap.size 96 _ (0, 0) _ rfl (heap_alloc_new _ _) Tryd.underlying96 rfl size_span
  | 4, _, w => by
    go_enter Tryd.func54, Tryd.ntmps54
    go_wp2_with fail
    refine bodyPost_ret (v := spV (spanP 4)) ?_ rfl ⟨rfl, (Below.refl _ _).alloc (Nat.le_refl _) _⟩
    exact results_cell_row (ty := 96) (p := 2) (by kernel_rfl) _ _ w.heap.size 96 _ (0, 0) _ rfl (heap_alloc_new _ _) Tryd.underlying96 rfl size_span
  | 5, _, w => by
    go_enter Tryd.func54, Tryd.ntmps54
    go_wp2_with fail
    refine bodyPost_ret (v := spV (spanP 5)) ?_ rfl ⟨rfl, (Below.refl _ _).alloc (Nat.le_refl _) _⟩
    exact results_cell_row (ty := 96) (p := 2) (by kernel_rfl) _ _ w.heap.size 96 _ (0, 0) _ rfl (heap_alloc_new _ _) Tryd.underlying96 rfl size_span
  | 6, _, w => by
    go_enter Tryd.func54, Tryd.ntmps54
    go_wp2_with fail
    refine bodyPost_ret (v := spV (spanP 6)) ?_ rfl ⟨rfl, (Below.refl _ _).alloc (Nat.le_refl _) _⟩
    exact results_cell_row (ty := 96) (p := 2) (by kernel_rfl) _ _ w.heap.size 96 _ (0, 0) _ rfl (heap_alloc_new _ _) Tryd.underlying96 rfl size_span
  | 7, _, w => by
    go_enter Tryd.func54, Tryd.ntmps54
    go_wp2_with fail
    refine bodyPost_ret (v := spV (spanP 7)) ?_ rfl ⟨rfl, (Below.refl _ _).alloc (Nat.le_refl _) _⟩
    exact results_cell_row (ty := 96) (p := 2) (by kernel_rfl) _ _ w.heap.size 96 _ (0, 0) _ rfl (heap_alloc_new _ _) Tryd.underlying96 rfl size_span
  | 8, _, w => by
    go_enter Tryd.func54, Tryd.ntmps54
    go_wp2_with fail
    refine bodyPost_ret (v := spV (spanP 8)) ?_ rfl ⟨rfl, (Below.refl _ _).alloc (Nat.le_refl _) _⟩
    exact results_cell_row (ty := 96) (p := 2) (by kernel_rfl) _ _ w.heap.size 96 _ (0, 0) _ rfl (heap_alloc_new _ _) Tryd.underlying96 rfl size_span
  | _ + 9, h, _ => absurd h (by omega)
theorem gm_span : ∀ k, k < 7 → ∀ w, Calls Tryd.prog 55 #[.int .i64 ((k : Nat) : Int)] w fun e w' => e = .returned (spV (spanG k)) ∧ Below w.heap.size w w'
  | 0, _, w => by
    go_enter Tryd.func55, Tryd.ntmps55
    go_wp2_with fail
    refine bodyPost_ret (v := spV (spanG 0)) ?_ rfl ⟨rfl, (Below.refl _ _).alloc (Nat.le_refl _) _⟩
    exact results_cell_row (ty := 96) (p := 2) (by kernel_rfl) _ _ w.heap.size 96 _ (0, 0) _ rfl (heap_alloc_new _ _) Tryd.underlying96 rfl size_span
  | 1, _, w => by
    go_enter Tryd.func55, Tryd.ntmps55
    go_wp2_with fail
    refine bodyPost_ret (v := spV (spanG 1)) ?_ rfl ⟨rfl, (Below.refl _ _).alloc (Nat.le_refl _) _⟩
    exact results_cell_row (ty := 96) (p := 2) (by kernel_rfl) _ _ w.heap.size 96 _ (0, 0) _ rfl (heap_alloc_new _ _) Tryd.underlying96 rfl size_span
  | 2, _, w => by
    go_enter Tryd.func55, Tryd.ntmps55
    go_wp2_with fail
    refine bodyPost_ret (v := spV (spanG 2)) ?_ rfl ⟨rfl, (Below.refl _ _).alloc (Nat.le_refl _) _⟩
    exact results_cell_row (ty := 96) (p := 2) (by kernel_rfl) _ _ w.heap.size 96 _ (0, 0) _ rfl (heap_alloc_new _ _) Tryd.underlying96 rfl size_span
  | 3, _, w => by
    go_enter Tryd.func55, Tryd.ntmps55
    go_wp2_with fail
    refine bodyPost_ret (v := spV (spanG 3)) ?_ rfl ⟨rfl, (Below.refl _ _).alloc (Nat.le_refl _) _⟩
    exact results_cell_row (ty := 96) (p := 2) (by kernel_rfl) _ _ w.heap.size 96 _ (0, 0) _ rfl (heap_alloc_new _ _) Tryd.underlying96 rfl size_span
  | 4, _, w => by
    go_enter Tryd.func55, Tryd.ntmps55
    go_wp2_with fail
    refine bodyPost_ret (v := spV (spanG 4)) ?_ rfl ⟨rfl, (Below.refl _ _).alloc (Nat.le_refl _) _⟩
    exact results_cell_row (ty := 96) (p := 2) (by kernel_rfl) _ _ w.heap.size 96 _ (0, 0) _ rfl (heap_alloc_new _ _) Tryd.underlying96 rfl size_span
  | 5, _, w => by
    go_enter Tryd.func55, Tryd.ntmps55
    go_wp2_with fail
    refine bodyPost_ret (v := spV (spanG 5)) ?_ rfl ⟨rfl, (Below.refl _ _).alloc (Nat.le_refl _) _⟩
    exact results_cell_row (ty := 96) (p := 2) (by kernel_rfl) _ _ w.heap.size 96 _ (0, 0) _ rfl (heap_alloc_new _ _) Tryd.underlying96 rfl size_span
  | 6, _, w => by
    go_enter Tryd.func55, Tryd.ntmps55
    go_wp2_with fail
    refine bodyPost_ret (v := spV (spanG 6)) ?_ rfl ⟨rfl, (Below.refl _ _).alloc (Nat.le_refl _) _⟩
    exact results_cell_row (ty := 96) (p := 2) (by kernel_rfl) _ _ w.heap.size 96 _ (0, 0) _ rfl (heap_alloc_new _ _) Tryd.underlying96 rfl size_span
  | _ + 7, h, _ => absurd h (by omega)
/-- The first m numbers are within. -/
def fitsB (f : Nat → Int) (sp : Nat → Int × Int) (m : Nat) : Bool := (List.range m).all fun i => inR (f i) (sp i).1 (sp i).2
theorem fitsB_iff {f : Nat → Int} {sp : Nat → Int × Int} {m : Nat} : fitsB f sp m = true ↔ ∀ i, i < m → inR (f i) (sp i).1 (sp i).2 = true := by
  unfold fitsB; rw [List.all_eq_true]; exact ⟨fun h i hi => h i (List.mem_range.2 hi), fun h i hi => h i (List.mem_range.1 hi)⟩
theorem fitsB_bad {f : Nat → Int} {sp : Nat → Int × Int} {m i : Nat} (hi : i < m) (h : inR (f i) (sp i).1 (sp i).2 = false) : fitsB f sp m = false := by
  rw [Bool.eq_false_iff]; intro h2; have := fitsB_iff.1 h2 i hi; rw [h] at this; cases this
theorem range18 : List.range 18 = [0, 1, 2, 3, 4, 5, 6, 7, 8, 9, 10, 11, 12, 13, 14, 15, 16, 17] := rfl
theorem range9 : List.range 9 = [0, 1, 2, 3, 4, 5, 6, 7, 8] := rfl
theorem range7 : List.range 7 = [0, 1, 2, 3, 4, 5, 6] := rfl
theorem range6 : List.range 6 = [0, 1, 2, 3, 4, 5] := rfl
theorem objectB_is (o : Nat → Int) (n : Int) : objectB o n = fitsB o (spanO n) 18 := by
  rw [Bool.eq_iff_iff]
  simp only [objectB, fitsB, range18, List.all_cons, List.all_nil, Bool.and_true, Bool.and_eq_true, spanO]
  constructor
  · intro h; simp only [h, and_self]
  · intro h; simp only [h, and_self]
end Go.Proofs.YtplfblccaeligaaDoor
namespace Go.Proofs.YtplfblccaeligaaDoor
open Go.RowKit Ex
attribute [local go_sem] arr_get
set_option maxRecDepth 100000
theorem playB_is (p : Nat → Int) : playB p = fitsB p spanP 9 := by
  rw [Bool.eq_iff_iff]
  simp only [playB, fitsB, range9, range6, List.all_cons, List.all_nil, Bool.and_true, Bool.and_eq_true, spanP]
  constructor
  · intro h; simp only [h, and_self]
  · intro h; simp only [h, and_self]
theorem gameB_is (g : Nat → Int) : gameB g = fitsB g spanG 7 := by
  rw [Bool.eq_iff_iff]
  simp only [gameB, fitsB, range7, List.all_cons, List.all_nil, Bool.and_true, Bool.and_eq_true, spanG]
  constructor
  · intro h; simp only [h, and_self]
  · intro h; simp only [h, and_self]
def UpTo (f : Nat → Int) (sp : Nat → Int × Int) (m : Nat) : Prop := ∀ i, i < m → inR (f i) (sp i).1 (sp i).2 = true
theorem UpTo.next {f : Nat → Int} {sp : Nat → Int × Int} {m : Nat} (h : UpTo f sp m) (hm : inR (f m) (sp m).1 (sp m).2 = true) : UpTo f sp (m + 1) := fun i hi => by
  by_cases e : i = m
  · subst e; exact hm
  · exact h i (by omega)
set_option maxHeartbeats 0 in
theorem numbers_code (s : StT) (O : SlT) (L : Nat → SlT) (cs : Array Value) (w : World) (B : Nat) (h : ReadsS B w cs s O L) (hB : B ≤ w.heap.size) (hn : s.objs.length ≤ 1000000) :
    Calls Tryd.prog 45 #[.agg cs] w fun e w' => e = .returned (.bool (rangesB s)) ∧ Below w.heap.size w w' := by
  obtain ⟨q, hq⟩ : ∃ q, q = rangesB s := ⟨_, rfl⟩
  rw [← hq]
  have HQ := Lib.hid hq
  clear hq
  go_enter Tryd.func45, Tryd.ntmps45
  have hcs := h.cs
  have c0 : cs[0]? = some (.slice O.A O.n O.c) := by rw [hcs]; exact stC_objs _ _ _ _
  have hOn := h.on
  have hOc := h.oc
  have hO := h.o
  have hsz : (Tryd.prog.info? 29).map (·.size) = some cs.size := by rw [h.size]; exact size37
  have H := Lib.hid h
  clear h
  obtain ⟨A, n, c⟩ := O
  simp only at c0 hOn hOc hO
  have HC := Lib.hid hcs
  clear hcs
  subst hOn
  go_upto_region 1 with fail
  have hs0 : StAt (w.alloc (.cells cs 29)) w.heap.size cs := StAt.new _ _
  have hb0 : Below w.heap.size w (w.alloc (.cells cs 29)) := (Below.refl _ _).alloc (Nat.le_refl _) _
  obtain ⟨w1, hw1⟩ : ∃ w1, w1 = w.alloc (.cells cs 29) := ⟨_, rfl⟩
  rw [← hw1] at hs0 hb0 ⊢
  clear hw1
  have c1 := (hs0.cell 0).trans c0
  go_upto_region 2 with fail
  go_loopw [16] (fun i wr => ∃ k : Nat, i = .int .i64 ((k : Nat) : Int) ∧ k ≤ s.objs.length ∧ GoodO s k ∧ Below w.heap.size w wr ∧ StAt wr w.heap.size cs) (fun i _ => s.objs.length - (intOf i).toNat)
  case atStart => exact ⟨0, rfl, by omega, fun j hj hk => absurd hk (by omega), hb0, hs0⟩
  case round =>
    clear hb0 hs0 c1
    obtain ⟨k, rfl, hk, hgood, hbr, hsr⟩ := hrel
    by_cases hlt : k < s.objs.length
    · have hlk := hlt
      obtain ⟨b, off, rfl, hbB, hra⟩ := hO.at_ hlt
      have hra := range_below hbr (by omega) hra
      obtain ⟨x, hx⟩ : ∃ x, x = s.objs[k] := ⟨_, rfl⟩
      rw [← hx] at hra
      have HX := Lib.hid hx
      clear hx
      have hz := st_zero18
      have hnew : (wr.alloc (.cells (arr .i64 18 fun _ => 0) 37)).heap[wr.heap.size]? = some (.cells (arr .i64 18 fun _ => 0) 37 (0, 0)) := heap_alloc_new _ _
      have hsx : (Tryd.prog.info? 37).map (·.size) = some (arr .i64 18 x).size := by rw [arr_size]; exact st_size18
      go_upto_region 4 with (first
        | (refine load_obj rfl (.tmp 18) rfl b (off + k * 18) rfl x hra ?_)
        | (refine wpList_store_row rfl 37 (.tmp 4) (.tmp 19) rfl wr.heap.size _ rfl rfl 37 (arr .i64 18 fun _ => 0) hnew hsx (by rw [arr_size, arr_size]) (arr_one .i64 18 x) ?_))
      obtain ⟨wn, hwn, hEn, hbn⟩ := ob_box wr x
      rw [← hwn]
      have hbrn := keepB hbn hbr
      clear hwn hnew hra hz
      have xs : ∀ i < 18, wn.cell? ⟨wr.heap.size, i, none⟩ = some (.int .i64 (x i)) := fun i hi => by
        have h := cell_of_row wn wr.heap.size i _ _ _ hEn
        rw [arr_get .i64 18 x hi] at h
        exact h
      clear xs
      have hsn := hsr.keep hbn
      go_upto_region 5 with (refine wpList_load_row rfl 37 (.tmp 4) rfl wr.heap.size rfl 37 _ (0, 0) _ hEn Tryd.underlying37 rfl hsx ?_)
      have hu0 : UpTo x (spanO (s.objs.length : Nat)) 0 := fun i hi => absurd hi (by omega)
      go_loopw [21] (fun i wq => ∃ m : Nat, i = .int .i64 ((m : Nat) : Int) ∧ m ≤ 18 ∧ UpTo x (spanO (s.objs.length : Nat)) m ∧ Below w.heap.size w wq ∧ StAt wq w.heap.size cs) (fun i _ => 18 - (intOf i).toNat)
      case atStart => exact ⟨0, rfl, by omega, hu0, hbrn, hsn⟩
      case round =>
        clear hu0 hbrn hsn hbn hEn hbr hsr
        obtain ⟨m, rfl, hm, hup, hbr, hsr⟩ := hrel
        by_cases hm8 : m < 18
        · have hd : decide ((m : Int) < 18) = true := by simp; omega
          have hix := index_obj x m hm8
          have c2 := (hsr.cell 0).trans c0
          have hq1 := obj_span (s.objs.length : Nat) m hm8
          obtain ⟨sp, hsp⟩ : ∃ sp, sp = spanO (s.objs.length : Nat) m := ⟨_, rfl⟩
          rw [← hsp] at hq1
          have HS := Lib.hid hsp
          clear hsp
          obtain ⟨y, hy⟩ : ∃ y, y = x m := ⟨_, rfl⟩
          rw [← hy] at hix
          have HY := Lib.hid hy
          clear hy
          go_wp2_with fail
          refine (hq1 _).mono ?_
          rintro e w4 ⟨rfl, hb4⟩
          clear hq1 hix
          have hbr4 := keepB hb4 hbr
          have hs4 := hsr.keep hb4
          go_wp2_with fail
          refine (has_span sp.1 sp.2 y _).mono ?_
          rintro e w5 ⟨rfl, hb5⟩
          have hbr5 := keepB hb5 hbr4
          have hs5 := hs4.keep hb5
          clear c2 hb4 hbr4 hs4 hb5
          by_cases hin : inR y sp.1 sp.2 = true
          · have hup2 := hup.next (by rw [← HY.out, ← HS.out]; exact hin)
            go_wp2_with fail
            go_roundw
            case rel => exact ⟨m + 1, by go_num, by omega, hup2, hbr5, hs5⟩
            case measure => simp [intOf]; omega
          · have hin : inR y sp.1 sp.2 = false := by simpa using hin
            have hf := rangesB_obj hlt (by rw [objectB_is, ← HX.out]; exact fitsB_bad hm8 (by rw [← HY.out, ← HS.out]; exact hin))
            obtain rfl := HQ.out.trans hf
            clear hf
            go_wp2_with fail
            go_ret
            exact ⟨rfl, hbr5⟩
        · obtain rfl : m = 18 := by omega
          have hgood2 : GoodO s (k + 1) := fun j hj hjk => by
            by_cases e : j = k
            · subst e; rw [← HX.out, objectB_is]; exact fitsB_iff.2 hup
            · exact hgood j hj (by omega)
          go_wp2_with fail
          go_roundw
          case rel => exact ⟨k + 1, by go_num, by omega, hgood2, hbr, hsr⟩
          case measure => simp [intOf]; omega
    · obtain rfl : k = s.objs.length := by omega
      have hobj := objs_all fun j hj => hgood j hj hj
      clear hgood
      obtain ⟨p, hp⟩ : ∃ p, p = s.pl := ⟨_, rfl⟩
      have hra := hsr
      rw [HC.out] at hra
      have hra := hra.two
      rw [← hp] at hra
      have HP := Lib.hid hp
      clear hp
      go_upto_region 12 with (refine load_two rfl (.tmp 35) rfl w.heap.size 12 rfl p hra ?_)
      clear hra
      have hq0 : GoodP s 0 := fun m hm => absurd hm (by omega)
      go_loopw [37] (fun i wr2 => ∃ j : Nat, i = .int .i64 ((j : Nat) : Int) ∧ j ≤ 2 ∧ GoodP s j ∧ Below w.heap.size w wr2 ∧ StAt wr2 w.heap.size cs) (fun i _ => 2 - (intOf i).toNat)
      case atStart => exact ⟨0, rfl, by omega, hq0, hbr, hsr⟩
      case round =>
        clear hq0 hsr hbr
        obtain ⟨j, rfl, hj, hgp, hbr, hsr⟩ := hrel
        by_cases hlt : j < 2
        · have hd2 : decide ((j : Int) < 2) = true := by simp; omega
          have hix := index_two p j hlt
          obtain ⟨f, hf⟩ : ∃ f : Nat → Int, f = fun i => p (j * 9 + i) := ⟨_, rfl⟩
          rw [← hf] at hix
          have HF := Lib.hid hf
          clear hf
          have hz := st_zero9
          have hnew : (wr.alloc (.cells (arr .i64 9 fun _ => 0) 25)).heap[wr.heap.size]? = some (.cells (arr .i64 9 fun _ => 0) 25 (0, 0)) := heap_alloc_new _ _
          have hsx : (Tryd.prog.info? 25).map (·.size) = some (arr .i64 9 f).size := by rw [arr_size]; exact st_size9
          go_upto_region 14 with (refine wpList_store_row rfl 25 (.tmp 8) (.tmp 39) rfl wr.heap.size _ rfl rfl 25 (arr .i64 9 fun _ => 0) hnew hsx (by rw [arr_size, arr_size]) (arr_one .i64 9 f) ?_)
          clear hix
          obtain ⟨wn, hwn, hEn, hbn⟩ := arr_box 9 25 wr f
          rw [← hwn]
          have hbrn := keepB hbn hbr
          have hsn := hsr.keep hbn
          clear hwn hnew hz
          go_upto_region 15 with (refine wpList_load_row rfl 25 (.tmp 8) rfl wr.heap.size rfl 25 _ (0, 0) _ hEn Tryd.underlying25 rfl hsx ?_)
          have hu0 : UpTo f spanP 0 := fun i hi => absurd hi (by omega)
          go_loopw [41] (fun i wq => ∃ m : Nat, i = .int .i64 ((m : Nat) : Int) ∧ m ≤ 9 ∧ UpTo f spanP m ∧ Below w.heap.size w wq ∧ StAt wq w.heap.size cs) (fun i _ => 9 - (intOf i).toNat)
          case atStart => exact ⟨0, rfl, by omega, hu0, hbrn, hsn⟩
          case round =>
            clear hu0 hbrn hsn hbn hEn hbr hsr
            obtain ⟨m, rfl, hm, hup, hbr, hsr⟩ := hrel
            by_cases hm8 : m < 9
            · have hd : decide ((m : Int) < 9) = true := by simp; omega
              have hix := index_nine f m hm8
              have hq1 := pl_span m hm8
              obtain ⟨sp, hsp⟩ : ∃ sp, sp = spanP m := ⟨_, rfl⟩
              rw [← hsp] at hq1
              have HS := Lib.hid hsp
              clear hsp
              obtain ⟨y, hy⟩ : ∃ y, y = f m := ⟨_, rfl⟩
              rw [← hy] at hix
              have HY := Lib.hid hy
              clear hy
              go_wp2_with fail
              refine (hq1 _).mono ?_
              rintro e w4 ⟨rfl, hb4⟩
              clear hq1 hix
              have hbr4 := keepB hb4 hbr
              have hs4 := hsr.keep hb4
              go_wp2_with fail
              refine (has_span sp.1 sp.2 y _).mono ?_
              rintro e w5 ⟨rfl, hb5⟩
              have hbr5 := keepB hb5 hbr4
              have hs5 := hs4.keep hb5
              clear hb4 hbr4 hs4 hb5
              by_cases hin : inR y sp.1 sp.2 = true
              · have hup2 := hup.next (by rw [← HY.out, ← HS.out]; exact hin)
                go_wp2_with fail
                go_roundw
                case rel => exact ⟨m + 1, by go_num, by omega, hup2, hbr5, hs5⟩
                case measure => simp [intOf]; omega
              · have hin : inR y sp.1 sp.2 = false := by simpa using hin
                have hf : rangesB s = false := rangesB_pl hlt (by
                  unfold plB
                  rw [← HP.out, ← HF.out, playB_is]
                  exact fitsB_bad hm8 (by rw [← HY.out, ← HS.out]; exact hin))
                obtain rfl := HQ.out.trans hf
                clear hf
                go_wp2_with fail
                go_ret
                exact ⟨rfl, hbr5⟩
            · obtain rfl : m = 9 := by omega
              have hgp2 : GoodP s (j + 1) := fun m hm => by
                by_cases e : m = j
                · subst e; unfold plB; rw [← HP.out, ← HF.out, playB_is]; exact fitsB_iff.2 hup
                · exact hgp m (by omega)
              go_wp2_with fail
              go_roundw
              case rel => exact ⟨j + 1, by go_num, by omega, hgp2, hbr, hsr⟩
              case measure => simp [intOf]; omega
        · obtain rfl : j = 2 := by omega
          have hp0 := hgp 0 (by omega)
          have hp1 := hgp 1 (by omega)
          obtain ⟨f, hf⟩ : ∃ f : Nat → Int, f = s.gm := ⟨_, rfl⟩
          have hra := hsr
          rw [HC.out] at hra
          have hra := hra.gm
          rw [← hf] at hra
          have HF : rangesB s = gameB f := by rw [hf]; simp only [rangesB, hobj, hp0, hp1, Bool.true_and]
          have HF := Lib.hid HF
          clear hf hp0 hp1 hgp hobj
          go_upto_region 22 with (refine load_seven rfl (.tmp 52) rfl w.heap.size 30 rfl f hra ?_)
          clear hra
          have hu0 : UpTo f spanG 0 := fun i hi => absurd hi (by omega)
          go_loopw [54] (fun i wq => ∃ m : Nat, i = .int .i64 ((m : Nat) : Int) ∧ m ≤ 7 ∧ UpTo f spanG m ∧ Below w.heap.size w wq) (fun i _ => 7 - (intOf i).toNat)
          case atStart => exact ⟨0, rfl, by omega, hu0, hbr⟩
          case round =>
            clear hu0 hbr hsr
            obtain ⟨m, rfl, hm, hup, hbr⟩ := hrel
            by_cases hm8 : m < 7
            · have hd : decide ((m : Int) < 7) = true := by simp; omega
              have hix := index_seven f m hm8
              have hq1 := gm_span m hm8
              obtain ⟨sp, hsp⟩ : ∃ sp, sp = spanG m := ⟨_, rfl⟩
              rw [← hsp] at hq1
              have HS := Lib.hid hsp
              clear hsp
              obtain ⟨y, hy⟩ : ∃ y, y = f m := ⟨_, rfl⟩
              rw [← hy] at hix
              have HY := Lib.hid hy
              clear hy
              go_wp2_with fail
              refine (hq1 _).mono ?_
              rintro e w4 ⟨rfl, hb4⟩
              clear hq1 hix
              have hbr4 := keepB hb4 hbr
              go_wp2_with fail
              refine (has_span sp.1 sp.2 y _).mono ?_
              rintro e w5 ⟨rfl, hb5⟩
              have hbr5 := keepB hb5 hbr4
              clear hb4 hbr4 hb5
              by_cases hin : inR y sp.1 sp.2 = true
              · have hup2 := hup.next (by rw [← HY.out, ← HS.out]; exact hin)
                go_wp2_with fail
                go_roundw
                case rel => exact ⟨m + 1, by go_num, by omega, hup2, hbr5⟩
                case measure => simp [intOf]; omega
              · have hin : inR y sp.1 sp.2 = false := by simpa using hin
                have hf : rangesB s = false := HF.out.trans (by
                  rw [gameB_is]
                  exact fitsB_bad hm8 (by rw [← HY.out, ← HS.out]; exact hin))
                obtain rfl := HQ.out.trans hf
                clear hf
                go_wp2_with fail
                go_ret
                exact ⟨rfl, hbr5⟩
            · obtain rfl : m = 7 := by omega
              have hf : rangesB s = true := HF.out.trans (by rw [gameB_is]; exact fitsB_iff.2 hup)
              obtain rfl := HQ.out.trans hf
              clear hf
              go_wp2_with fail
              go_ret
              exact ⟨rfl, hbr⟩
end Go.Proofs.YtplfblccaeligaaDoor
namespace Go.Proofs.YtplfblccaeligaaDoor
open Go.RowKit Ex
attribute [local go_sem] arr_get
set_option maxRecDepth 100000
/-- May an object stand in list y? -/
def mayB (o : Nat → Int) (y : Nat) : Bool := o 3 == (y : Int) && if y < 8 then o 1 == (y : Int) % 2 && o 13 == 0 else y != 8 || o 13 != 2
theorem mayStand_any (o : Nat → Int) (y : Nat) (hy : y < 11) (w : World) : Calls Tryd.prog 56 #[.agg (arr .i64 18 o), .int .i64 (y : Int)] w fun e w' => e = .returned (.bool (mayB o y)) ∧ Below w.heap.size w w' := by
  obtain ⟨q, hq⟩ : ∃ q, q = mayB o y := ⟨_, rfl⟩
  rw [← hq]
  have HQ := Lib.hid hq
  clear hq
  have hc := isOwned_any (y : Int)
  go_enter Tryd.func56, Tryd.ntmps56
  by_cases e3 : o 3 = (y : Int)
  case neg =>
    have d3 : (o 3 != (y : Int)) = true := by simpa using e3
    have hf : mayB o y = false := by simp [mayB, e3]
    clear hc
    obtain rfl := HQ.out.trans hf
    clear hf
    go_wp2_with fail
    go_ret
    exact ⟨rfl, (Below.refl _ _).alloc (Nat.le_refl _) _⟩
  have d3 : (o 3 != (y : Int)) = false := by simp [e3]
  by_cases h8 : y < 8
  · rw [show (decide (0 ≤ (y : Int)) && decide ((y : Int) < 8)) = true by simp; omega] at hc
    go_wp2_with fail
    refine (hc _).mono ?_
    rintro e w2 ⟨rfl, rfl⟩
    clear hc
    by_cases e1 : o 1 = (y : Int) % 2
    · have d1 : (o 1 == (y : Int) % 2) = true := by simpa using e1
      by_cases e13 : o 13 = 0
      · have d13 : (o 13 == 0) = true := by simpa using e13
        have hf : mayB o y = true := by simp [mayB, e3, h8, e1, e13]
        clear e3 e1 e13
        obtain rfl := HQ.out.trans hf
        clear hf
        go_wp2_with fail
        go_ret
        exact ⟨rfl, (Below.refl _ _).alloc (Nat.le_refl _) _⟩
      · have d13 : (o 13 == 0) = false := by simpa using e13
        have hf : mayB o y = false := by simp [mayB, e3, h8, e1, e13]
        clear e3 e1 e13
        obtain rfl := HQ.out.trans hf
        clear hf
        go_wp2_with fail
        go_ret
        exact ⟨rfl, (Below.refl _ _).alloc (Nat.le_refl _) _⟩
    · have d1 : (o 1 == (y : Int) % 2) = false := by simpa using e1
      have hf : mayB o y = false := by simp [mayB, e3, h8, e1]
      clear e3 e1
      obtain rfl := HQ.out.trans hf
      clear hf
      go_wp2_with fail
      go_ret
      exact ⟨rfl, (Below.refl _ _).alloc (Nat.le_refl _) _⟩
  · rw [show (decide (0 ≤ (y : Int)) && decide ((y : Int) < 8)) = false by simp; omega] at hc
    go_wp2_with fail
    refine (hc _).mono ?_
    rintro e w2 ⟨rfl, rfl⟩
    clear hc
    by_cases ey : y = 8
    · subst ey
      by_cases e13 : o 13 = 2
      · have d13 : (o 13 != 2) = false := by simp [e13]
        have hf : mayB o 8 = false := by simp [mayB, e13]
        clear e3 e13
        obtain rfl := HQ.out.trans hf
        clear hf
        go_wp2_with fail
        go_ret
        exact ⟨rfl, (Below.refl _ _).alloc (Nat.le_refl _) _⟩
      · have d13 : (o 13 != 2) = true := by simpa using e13
        have hf : mayB o 8 = true := by simp [mayB, e3, e13]
        clear e3 e13
        obtain rfl := HQ.out.trans hf
        clear hf
        go_wp2_with fail
        go_ret
        exact ⟨rfl, (Below.refl _ _).alloc (Nat.le_refl _) _⟩
    · have d8 : ((y : Int) != 8) = true := by simp; omega
      have hf : mayB o y = true := by simp [mayB, e3, h8, ey]
      clear e3
      obtain rfl := HQ.out.trans hf
      clear hf
      go_wp2_with fail
      go_ret
      exact ⟨rfl, (Below.refl _ _).alloc (Nat.le_refl _) _⟩
/-- The table of the fields that only what is on the field may have. -/
def fieldF (i : Nat) : Int := ((4 + i : Nat) : Int)
def TabF (z : World) : Prop := ∃ t, z.heap[0]? = some (.cells (arr .i64 9 fieldF) t (0, 0))
theorem TabF.keep {z w : World} (h : TabF z) (hb : Below z.heap.size z w) : TabF w := by
  obtain ⟨t, ht⟩ := h
  exact ⟨t, (hb.block _ (Array.getElem?_eq_some_iff.1 ht).1).trans ht⟩
def ZeroK (o : Nat → Int) (k : Nat) : Prop := ∀ i, i < k → o (4 + i) = 0
theorem zeroB_good {o : Nat → Int} (h : ZeroK o 9) : zeroB o = true := by
  have h0 := h 0 (by omega); have h1 := h 1 (by omega); have h2 := h 2 (by omega); have h3 := h 3 (by omega); have h4 := h 4 (by omega)
  have h5 := h 5 (by omega); have h6 := h 6 (by omega); have h7 := h 7 (by omega); have h8 := h 8 (by omega)
  simp at h0 h1 h2 h3 h4 h5 h6 h7 h8
  simp [zeroB, h0, h1, h2, h3, h4, h5, h6, h7, h8]
theorem zeroB_bad {o : Nat → Int} {k : Nat} (hk : k < 9) (h : o (4 + k) ≠ 0) : zeroB o = false := by
  rw [Bool.eq_false_iff]; intro hz
  simp only [zeroB, Bool.and_eq_true, beq_iff_eq] at hz
  match k, hk with
  | 0, _ => exact h hz.1.1.1.1.1.1.1.1
  | 1, _ => exact h hz.1.1.1.1.1.1.1.2
  | 2, _ => exact h hz.1.1.1.1.1.1.2
  | 3, _ => exact h hz.1.1.1.1.1.2
  | 4, _ => exact h hz.1.1.1.1.2
  | 5, _ => exact h hz.1.1.1.2
  | 6, _ => exact h hz.1.1.2
  | 7, _ => exact h hz.1.2
  | 8, _ => exact h hz.2
set_option maxHeartbeats 0 in
theorem formFits_any {z : World} (T : TabF z) (o : Nat → Int) (w : World) (h0 : 0 ≤ o 3) (hz : Below z.heap.size z w) : Calls Tryd.prog 47 #[.agg (arr .i64 18 o)] w fun e w' => e = .returned (.bool (formedB o)) ∧ Below w.heap.size w w' := by
  obtain ⟨q, hq⟩ : ∃ q, q = formedB o := ⟨_, rfl⟩
  rw [← hq]
  have HQ := Lib.hid hq
  clear hq
  obtain ⟨t, hT⟩ := T.keep hz
  have hc := isOwned_any (o 3)
  have hsz : (Tryd.prog.info? 25).map (·.size) = some (arr .i64 9 fieldF).size := by rw [arr_size]; exact st_size9
  go_enter Tryd.func47, Tryd.ntmps47
  go_upto_region 1 with fail
  obtain ⟨w1, hw1⟩ : ∃ w1, w1 = w.alloc (.cells (arr .i64 18 o) 37) := ⟨_, rfl⟩
  have ha : ArrAt .i64 18 37 w1 w.heap.size o := by rw [hw1]; exact ArrAt.new w .i64 18 37 o
  have hb1 : Below w.heap.size w w1 := by rw [hw1]; exact (Below.refl _ _).alloc (Nat.le_refl _) _
  have hT1 : w1.heap[0]? = some (.cells (arr .i64 9 fieldF) t (0, 0)) := (hb1.block _ (Array.getElem?_eq_some_iff.1 hT).1).trans hT
  rw [← hw1]
  clear hw1 hT
  have x3 := ha.cell (i := 3) (by omega)
  have x16 := ha.cell (i := 16) (by omega)
  by_cases e9 : o 3 = 9
  · have d9 : (o 3 != 9) = false := by simp [e9]
    have d8 : (o 3 == 8) = false := by simp [e9]
    rw [show (decide (0 ≤ o 3) && decide (o 3 < 8)) = false by simp [e9], e9] at hc
    go_upto_region 7 with (refine wpList_load_row rfl 25 _ rfl 0 rfl t _ (0, 0) _ hT1 Tryd.underlying25 rfl hsz ?_)
    have e8 : ¬ o 3 = 8 := by omega
    have hk0 : ZeroK o 0 := fun i hi => absurd hi (by omega)
    go_loopw [18] (fun i wr => ∃ k : Nat, i = .int .i64 ((k : Nat) : Int) ∧ k ≤ 9 ∧ ZeroK o k ∧ wr = w1) (fun i _ => 9 - (intOf i).toNat)
    case atStart => exact ⟨0, rfl, by omega, hk0, rfl⟩
    case round =>
      clear hk0
      obtain ⟨k, rfl, hk, hk0, rfl⟩ := hrel
      by_cases hlt : k < 9
      · have hd : decide ((k : Int) < 9) = true := by simp; omega
        have hix := index_nine fieldF k hlt
        rw [show fieldF k = ((4 + k : Nat) : Int) from rfl] at hix
        have xk := ha.cell (i := 4 + k) (by omega)
        have b0 : (0 : Int) ≤ ((4 + k : Nat) : Int) := by omega
        have b1 : ((4 + k : Nat) : Int) < 18 := by omega
        obtain ⟨j, hj⟩ : ∃ j, j = 4 + k := ⟨_, rfl⟩
        rw [← hj] at hix xk b0 b1
        have HJ := Lib.hid hj
        clear hj
        by_cases e : o j = 0
        · have de : (o j != 0) = false := by simp [e]
          have hk2 : ZeroK o (k + 1) := fun i hi => by
            by_cases h : i = k
            · subst h; rw [← HJ.out]; exact e
            · exact hk0 i (by omega)
          clear e
          go_wp2_with fail
          go_roundw
          case rel => exact ⟨k + 1, by go_num, by omega, hk2, by trivial⟩
          case measure => simp [intOf]; omega
        · have de : (o j != 0) = true := by simpa using e
          have hzf := zeroB_bad hlt (HJ.out ▸ e)
          have hf : formedB o = false := by simp [formedB, hzf, e8]
          clear e hzf
          obtain rfl := HQ.out.trans hf
          clear hf
          go_wp2_with fail
          go_ret
          exact ⟨rfl, hb1⟩
      obtain rfl : k = 9 := by omega
      have hf : formedB o = true := by simp [formedB, zeroB_good hk0, e9]
      go_wp2_with fail
      refine (hc _).mono ?_
      rintro e w2 ⟨rfl, rfl⟩
      obtain rfl := HQ.out.trans hf
      clear hf
      go_wp2_with fail
      go_ret
      exact ⟨rfl, hb1⟩
  have d9 : (o 3 != 9) = true := by simpa using e9
  by_cases e16 : o 16 = 0
  case neg =>
    have d16 : (o 16 != 0) = true := by simpa using e16
    have hf : formedB o = false := by simp [formedB, e9, e16]
    obtain rfl := HQ.out.trans hf
    clear hf
    go_wp2_with fail
    go_ret
    exact ⟨rfl, hb1⟩
  have d16 : (o 16 != 0) = false := by simp [e16]
  by_cases e8 : o 3 = 8
  · have d8 : (o 3 == 8) = true := by simp [e8]
    have hf : formedB o = true := by simp [formedB, e8, e16]
    obtain rfl := HQ.out.trans hf
    clear hf
    go_wp2_with fail
    go_ret
    exact ⟨rfl, hb1⟩
  have d8 : (o 3 == 8) = false := by simpa using e8
  go_upto_region 7 with (refine wpList_load_row rfl 25 _ rfl 0 rfl t _ (0, 0) _ hT1 Tryd.underlying25 rfl hsz ?_)
  have hk0 : ZeroK o 0 := fun i hi => absurd hi (by omega)
  go_loopw [18] (fun i wr => ∃ k : Nat, i = .int .i64 ((k : Nat) : Int) ∧ k ≤ 9 ∧ ZeroK o k ∧ wr = w1) (fun i _ => 9 - (intOf i).toNat)
  case atStart => exact ⟨0, rfl, by omega, hk0, rfl⟩
  case round =>
    clear hk0
    obtain ⟨k, rfl, hk, hk0, rfl⟩ := hrel
    by_cases hlt : k < 9
    · have hd : decide ((k : Int) < 9) = true := by simp; omega
      have hix := index_nine fieldF k hlt
      rw [show fieldF k = ((4 + k : Nat) : Int) from rfl] at hix
      have xk := ha.cell (i := 4 + k) (by omega)
      have b0 : (0 : Int) ≤ ((4 + k : Nat) : Int) := by omega
      have b1 : ((4 + k : Nat) : Int) < 18 := by omega
      obtain ⟨j, hj⟩ : ∃ j, j = 4 + k := ⟨_, rfl⟩
      rw [← hj] at hix xk b0 b1
      have HJ := Lib.hid hj
      clear hj
      by_cases e : o j = 0
      · have de : (o j != 0) = false := by simp [e]
        have hk2 : ZeroK o (k + 1) := fun i hi => by
          by_cases h : i = k
          · subst h; rw [← HJ.out]; exact e
          · exact hk0 i (by omega)
        clear e
        go_wp2_with fail
        go_roundw
        case rel => exact ⟨k + 1, by go_num, by omega, hk2, by trivial⟩
        case measure => simp [intOf]; omega
      · have de : (o j != 0) = true := by simpa using e
        have hzf := zeroB_bad hlt (HJ.out ▸ e)
        have hf : formedB o = false := by simp [formedB, hzf, e8]
        clear e hzf
        obtain rfl := HQ.out.trans hf
        clear hf
        go_wp2_with fail
        go_ret
        exact ⟨rfl, hb1⟩
    obtain rfl : k = 9 := by omega
    have x2 := ha.cell (i := 2) (by omega)
    have x1 := ha.cell (i := 1) (by omega)
    by_cases l8 : o 3 < 8
    · rw [show (decide (0 ≤ o 3) && decide (o 3 < 8)) = true by simp [h0, l8]] at hc
      by_cases e21 : o 2 = o 1
      · have d21 : (o 2 == o 1) = true := by simpa using e21
        have hf : formedB o = true := by simp [formedB, zeroB_good hk0, e21, e16]
        clear e21 l8
        go_wp2_with fail
        refine (hc _).mono ?_
        rintro e w2 ⟨rfl, rfl⟩
        obtain rfl := HQ.out.trans hf
        clear hf
        go_wp2_with fail
        go_ret
        exact ⟨rfl, hb1⟩
      · have d21 : (o 2 == o 1) = false := by simpa using e21
        have hf : formedB o = false := by simp [formedB, l8, e21]
        clear e21 l8
        go_wp2_with fail
        refine (hc _).mono ?_
        rintro e w2 ⟨rfl, rfl⟩
        obtain rfl := HQ.out.trans hf
        clear hf
        go_wp2_with fail
        go_ret
        exact ⟨rfl, hb1⟩
    · rw [show (decide (0 ≤ o 3) && decide (o 3 < 8)) = false by simp [l8]] at hc
      have hf : formedB o = true := by simp [formedB, zeroB_good hk0, l8, e16]
      clear l8
      go_wp2_with fail
      refine (hc _).mono ?_
      rintro e w2 ⟨rfl, rfl⟩
      obtain rfl := HQ.out.trans hf
      clear hf
      go_wp2_with fail
      go_ret
      exact ⟨rfl, hb1⟩
end Go.Proofs.YtplfblccaeligaaDoor
namespace Go.Proofs.YtplfblccaeligaaDoor
open Go

/-- The parts of a composite type lie one behind the other, from o to e. -/
def tilesB (P : Program) : Nat → List (TypeId × Nat) → Nat → Bool
  | o, [], e => o == e
  | o, x :: r, e => x.2 == o && tilesB P (o + P.cellsOf x.1) r e
def flatAll (F : TypeId → DataW Unit → Option (List Value)) : List (TypeId × Nat) → List (DataW Unit) → Option (List Value)
  | [], [] => some []
  | x :: r, d :: ds => match F x.1 d, flatAll F r ds with
    | some a, some b => some (a ++ b)
    | _, _ => none
  | _, _ => none
def partsOf (P : Program) (t : TypeId) : Option (List (TypeId × Nat)) :=
  match P.underlying t with
  | some (.array n e) => some ((List.range n).map fun i => (e, i * P.cellsOf e))
  | some (.struct fs) => some (fs.toList.map fun f => (f.type, f.offset))
  | _ => none
/-- The cells of a datum of numbers, bools, strings, arrays and structs. -/
def flatD (P : Program) : Nat → TypeId → DataW Unit → Option (List Value)
  | 0, _, _ => none
  | _ + 1, t, .lit l => match P.underlying t, l with
    | some (.int _), .int k n => some [.int k n]
    | some .bool, .bool b => some [.bool b]
    | some .string, .string s => some [.string ⟨s.toArray⟩]
    | _, _ => none
  | f + 1, t, .agg ds => match partsOf P t with
    | some l => if tilesB P 0 l (P.cellsOf t) then flatAll (flatD P f) l ds else none
    | none => none
  | _ + 1, _, _ => none

theorem flat_cells {P : Program} {F : TypeId → DataW Unit → Option (List Value)} {cs : List Value} : ∀ (l : List (TypeId × Nat)) (ds : List (DataW Unit)) (o e : Nat) (vs : List Value), tilesB P o l e = true →
    (∀ (i : Nat) x d a, l[i]? = some x → ds[i]? = some d → F x.1 d = some a → (cs.drop x.2).take (P.cellsOf x.1) = a) → flatAll F l ds = some vs → o ≤ e ∧ (cs.drop o).take (e - o) = vs
  | [], [], o, e, vs, ht, _, hf => by
    simp only [tilesB, beq_iff_eq] at ht
    simp only [flatAll, Option.some.injEq] at hf
    subst ht hf
    exact ⟨Nat.le_refl _, by simp⟩
  | [], _ :: _, _, _, _, _, _, hf => by simp [flatAll] at hf
  | _ :: _, [], _, _, _, _, _, hf => by simp [flatAll] at hf
  | x :: r, d :: ds, o, e, vs, ht, hc, hf => by
    simp only [tilesB, Bool.and_eq_true, beq_iff_eq] at ht
    obtain ⟨h1, h2⟩ := ht
    simp only [flatAll] at hf
    split at hf
    · rename_i a b ha hb
      simp only [Option.some.injEq] at hf
      obtain ⟨i1, i2⟩ := flat_cells r ds (o + P.cellsOf x.1) e b h2 (fun i y d' a' hy hd => hc (i + 1) y d' a' (by simpa using hy) (by simpa using hd)) hb
      have hx := hc 0 x d a rfl rfl ha
      rw [h1] at hx
      refine ⟨by omega, ?_⟩
      rw [← hf, ← i2, ← hx, show e - o = P.cellsOf x.1 + (e - (o + P.cellsOf x.1)) by omega, List.take_add, List.drop_drop]
    · cases hf

theorem flat_of_trod {P : Program} {w : World} {sp : Nat → Bool} {held : Bool} {enc : TypeId × Value → Unit} : ∀ (f : Nat) (t : TypeId) (d : DataW Unit) (vs : List Value), flatD P f t d = some vs →
    ∀ (fuel : Nat) (cs : List Value) (p : List MemPlace), DataW.trod enc P w 0 sp held fuel t cs = some (d, p) → cs = vs
  | 0, _, _, _, h => by simp [flatD] at h
  | f + 1, t, d, vs, h => by
    intro fuel cs p hr
    cases d with
    | lit l =>
      simp only [flatD] at h
      split at h
      · rename_i k' k n hu
        obtain ⟨m, e1, e2, _⟩ := DataW.trod_int hu hr
        simp only [Prod.mk.injEq, DataW.lit.injEq, Lit.int.injEq] at e2
        obtain ⟨⟨rfl, rfl⟩, _⟩ := e2
        simp only [Option.some.injEq] at h
        rw [e1, h]
      · rename_i b hu
        obtain ⟨m, e1, e2⟩ := DataW.trod_bool hu hr
        simp only [Prod.mk.injEq, DataW.lit.injEq, Lit.bool.injEq] at e2
        obtain ⟨rfl, _⟩ := e2
        simp only [Option.some.injEq] at h
        rw [e1, h]
      · rename_i s hu
        obtain ⟨m, e1, e2, _⟩ := DataW.trod_string hu hr
        simp only [Prod.mk.injEq, DataW.lit.injEq, Lit.string.injEq] at e2
        obtain ⟨rfl, _⟩ := e2
        simp only [Option.some.injEq] at h
        rw [e1, ← h]
      · cases h
    | agg ds =>
      simp only [flatD] at h
      split at h
      · rename_i l hl
        split at h
        · rename_i htl
          unfold partsOf at hl
          split at hl
          · rename_i n e hu
            obtain ⟨xs, m, _, ex, hlen, hxl, hel⟩ := DataW.trod_array hu hr
            simp only [Prod.mk.injEq, DataW.agg.injEq] at ex
            obtain ⟨eds, _⟩ := ex
            simp only [Option.some.injEq] at hl
            subst hl
            obtain ⟨_, hh⟩ := flat_cells (cs := cs) _ ds 0 _ vs htl (fun i x d' a hx hd ha => by
              simp only [List.getElem?_map, Option.map_eq_some_iff] at hx
              obtain ⟨j, hj, rfl⟩ := hx
              obtain ⟨hj1, hj2⟩ := List.getElem?_eq_some_iff.1 hj
              simp only [List.length_range] at hj1
              simp only [List.getElem_range] at hj2
              subst hj2
              rw [eds, List.getElem?_map, Option.map_eq_some_iff] at hd
              obtain ⟨y, hy, rfl⟩ := hd
              have hi := hel i hj1
              rw [hy] at hi
              exact flat_of_trod f e y.1 a ha m _ y.2 hi) h
            rw [← hh, Nat.sub_zero, List.drop_zero, ← hlen, List.take_length]
          · rename_i fs hu
            obtain ⟨xs, m, _, ex, hlen, hxl, hel⟩ := DataW.trod_struct hu hr
            simp only [Prod.mk.injEq, DataW.agg.injEq] at ex
            obtain ⟨eds, _⟩ := ex
            simp only [Option.some.injEq] at hl
            subst hl
            obtain ⟨_, hh⟩ := flat_cells (cs := cs) _ ds 0 _ vs htl (fun i x d' a hx hd ha => by
              simp only [List.getElem?_map, Option.map_eq_some_iff, Array.getElem?_toList] at hx
              obtain ⟨g, hg, rfl⟩ := hx
              rw [eds, List.getElem?_map, Option.map_eq_some_iff] at hd
              obtain ⟨y, hy, rfl⟩ := hd
              have hi := hel i g hg
              rw [hy] at hi
              exact flat_of_trod f g.type y.1 a ha m _ y.2 hi) h
            rw [← hh, Nat.sub_zero, List.drop_zero, ← hlen, List.take_length]
          · cases hl
        · cases h
      · cases h
    | _ => simp [flatD] at h

/-- The variable of that name holds just these cells. -/
theorem laid_row {P : Program} {w : World} {name : String} {d : DataW Unit} {g : Nat} {t : TypeId} {vs : List Value} (f : Nat) : ∀ {l : List (String × DataW Unit)} {ps : List MemPlace}, DataW.LaidVars P w l ps →
    (∀ b off, MemPlace.cell b off ∈ ps → ∃ c t, w.heap[b]? = some (.cells c t (0, 0))) → (name, d) ∈ l → P.globalNamed name = some g → (P.globals[g]?).map (·.type) = some t → flatD P f t d = some vs → vs ≠ [] →
    ∃ t', w.heap[g]? = some (.cells vs.toArray t' (0, 0))
  | [], _, _, _, hm, _, _, _, _ => by cases hm
  | (n, d') :: r, ps, hl, hrow, hm, hg, ht, hf, hne => by
    obtain ⟨g', t', cs, fuel, p, q, e1, e2, e3, e4, hr, rfl⟩ := hl
    rcases List.mem_cons.1 hm with hm | hm
    · simp only [Prod.mk.injEq] at hm
      obtain ⟨rfl, rfl⟩ := hm
      obtain rfl : g = g' := Option.some.inj (hg.symm.trans e1)
      obtain rfl : t = t' := Option.some.inj (ht.symm.trans e2)
      have hcs := flat_of_trod f t d vs hf fuel cs.toList p e4
      have hsz : 0 < cs.size := by
        rcases Nat.eq_zero_or_pos cs.size with h | h
        · exact absurd (by rw [← hcs]; simpa using h) hne
        · exact h
      obtain ⟨c, u, hc⟩ := hrow g 0 (by simp only [List.mem_append]; left; left; unfold MemPlace.row; exact List.mem_map.2 ⟨0, by simpa using hsz, rfl⟩)
      simp only [World.var?, hg, Option.bind_some, hc, Option.some.injEq] at e3
      exact ⟨u, by rw [hc, e3, ← hcs]⟩
    · exact laid_row f hr (fun b off h => hrow b off (by simp only [List.mem_append]; right; exact h)) hm hg ht hf hne
/-- The cells of the list's i-th variable, which is global g. -/
def laidVs (P : Program) (l : List (String × DataW Unit)) (f i g : Nat) : Option (List Value) :=
  match (l.filter fun x => x.2.handleName?.isNone)[i]?, (P.globals[g]?).map (·.type) with
  | some x, some t => if P.globalNamed x.1 = some g then flatD P f t x.2 else none
  | _, _ => none
/-- f: more than the nesting's depth; i: the variable's place on the row's list; g: its number. One closed fact. -/
theorem laid_cells {P : Program} {w : World} {l : List (String × DataW Unit)} (h : laidMetH P l w) (f i g : Nat) {vs : List Value} (hf : laidVs P l f i g = some vs) (hne : vs ≠ []) : ∃ t', w.heap[g]? = some (.cells vs.toArray t' (0, 0)) := by
  obtain ⟨ps, hl, _, hrows⟩ := (laidMetH_iff.1 h).1
  unfold laidVs at hf
  split at hf
  · rename_i x t hx ht
    split at hf
    · rename_i hg
      exact laid_row f hl (fun b off hp => (hrows b off hp).1) (List.mem_of_getElem? hx) hg ht hf hne
    · cases hf
  · cases hf
end Go.Proofs.YtplfblccaeligaaDoor
namespace Go.Proofs.YtplfblccaeligaaDoor
open Go.RowKit Ex
set_option maxRecDepth 100000
theorem fieldF_is : arr .i64 9 fieldF = ([.int .i64 4, .int .i64 5, .int .i64 6, .int .i64 7, .int .i64 8, .int .i64 9, .int .i64 10, .int .i64 11, .int .i64 12] : List Value).toArray := by kernel_rfl
theorem tabF_of {W : World} {l : List (String × DataW Unit)} (h : laidMetH Tryd.prog l W) (hf : laidVs Tryd.prog l 8 0 0 = some [.int .i64 4, .int .i64 5, .int .i64 6, .int .i64 7, .int .i64 8, .int .i64 9, .int .i64 10, .int .i64 11, .int .i64 12]) : TabF W := by
  obtain ⟨t, ht⟩ := laid_cells h 8 0 0 hf (by simp)
  exact ⟨t, by rw [fieldF_is]; exact ht⟩
end Go.Proofs.YtplfblccaeligaaDoor
