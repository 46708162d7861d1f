/- Layer 10: the code's spans, and what has a number. -/
import Derived.Test.YtihbdbgmijkjmaaDoorStRef2
import Derived.Test.YtihbdbgmijkjmaaDoorStBase
namespace Go.Proofs.YtihbdbgmijkjmaaDoor
open Go.RowKit Ex
attribute [local go_sem] arr_get
set_option maxRecDepth 100000
theorem has_span (a b n : Int) (w : World) : Calls Tryd.prog 54 #[.agg #[.int .i64 a, .int .i64 b], .int .i64 n] w fun e w' => e = .returned (.bool (inR n a b)) ∧ Below w.heap.size w w' := by
  go_enter Tryd.func54, Tryd.ntmps54
  go_wp2_with fail
  all_goals (go_ret; refine ⟨?_, (Below.refl _ _).alloc (Nat.le_refl _) _⟩; simp [inR, *] <;> omega)
def spanO (n : Int) : Nat → Int × Int
  | 0 => (0, 119) | 1 => (0, 1) | 2 => (0, 1) | 3 => (0, 10) | 4 => (0, 1) | 5 => (0, 1) | 6 => (0, 1073741824) | 7 => (0, 1073741824) | 8 => (-1073741824, 1073741824) | 9 => (-1073741824, 1073741824)
  | 10 => (0, 255) | 11 => (0, 1) | 12 => (0, n) | 13 => (0, 2) | 14 => (0, 3) | 15 => (0, n) | 16 => (-2, n) | _ => (0, 3)
def spanP : Nat → Int × Int
  | 0 => (-1073741824, 1073741824) | 7 => (0, 1) | 8 => (0, 1) | _ => (0, 1000)
def spanG : Nat → Int × Int
  | 0 => (0, 1073741824) | 2 => (0, 7) | 5 => (0, 4096) | 6 => (0, 3) | _ => (0, 1)
def spV (p : Int × Int) : Value := .agg #[.int .i64 p.1, .int .i64 p.2]
theorem size_span : (Tryd.prog.info? 96).map (·.size) = some 2 := by kernel_rfl
theorem obj_span (n : Int) : ∀ k, k < 18 → ∀ w, Calls Tryd.prog 53 #[.int .i64 ((k : Nat) : Int), .int .i64 n] w fun e w' => e = .returned (spV (spanO n k)) ∧ Below w.heap.size w w'
  | 0, _, w => by
    go_enter Tryd.func53, Tryd.ntmps53
    go_wp2_with fail
    refine bodyPost_ret (v := spV (spanO n 0)) ?_ rfl ⟨rfl, (Below.refl _ _).alloc (Nat.le_refl _) _⟩
    exact results_cell_row (ty := 96) (p := 4) (by kernel_rfl) _ _ w.heap.size 96 _ (0, 0) _ rfl (heap_alloc_new _ _) Tryd.underlying96 rfl size_span
  | 1, _, w => by
    go_enter Tryd.func53, Tryd.ntmps53
    go_wp2_with fail
    refine bodyPost_ret (v := spV (spanO n 1)) ?_ rfl ⟨rfl, (Below.refl _ _).alloc (Nat.le_refl _) _⟩
    exact results_cell_row (ty := 96) (p := 4) (by kernel_rfl) _ _ w.heap.size 96 _ (0, 0) _ rfl (heap_alloc_new _ _) Tryd.underlying96 rfl size_span
  | 2, _, w => by
    go_enter Tryd.func53, Tryd.ntmps53
    go_wp2_with fail
    refine bodyPost_ret (v := spV (spanO n 2)) ?_ rfl ⟨rfl, (Below.refl _ _).alloc (Nat.le_refl _) _⟩
    exact results_cell_row (ty := 96) (p := 4) (by kernel_rfl) _ _ w.heap.size 96 _ (0, 0) _ rfl (heap_alloc_new _ _) Tryd.underlying96 rfl size_span
  | 3, _, w => by
    go_enter Tryd.func53, Tryd.ntmps53
    go_wp2_with fail
    refine bodyPost_ret (v := spV (spanO n 3)) ?_ rfl ⟨rfl, (Below.refl _ _).alloc (Nat.le_refl _) _⟩
    exact results_cell_row (ty := 96) (p := 4) (by kernel_rfl) _ _ w.heap.size 96 _ (0, 0) _ rfl (heap_alloc_new _ _) Tryd.underlying96 rfl size_span
  | 4, _, w => by
    go_enter Tryd.func53, Tryd.ntmps53
    go_wp2_with fail
    refine bodyPost_ret (v := spV (spanO n 4)) ?_ rfl ⟨rfl, (Below.refl _ _).alloc (Nat.le_refl _) _⟩
    exact results_cell_row (ty := 96) (p := 4) (by kernel_rfl) _ _ w.heap.size 96 _ (0, 0) _ rfl (heap_alloc_new _ _) Tryd.underlying96 rfl size_span
  | 5, _, w => by
    go_enter Tryd.func53, Tryd.ntmps53
    go_wp2_with fail
    refine bodyPost_ret (v := spV (spanO n 5)) ?_ rfl ⟨rfl, (Below.refl _ _).alloc (Nat.le_refl _) _⟩
    exact results_cell_row (ty := 96) (p := 4) (by kernel_rfl) _ _ w.heap.size 96 _ (0, 0) _ rfl (heap_alloc_new _ _) Tryd.underlying96 rfl size_span
  | 6, _, w => by
    go_enter Tryd.func53, Tryd.ntmps53
    go_wp2_with fail
    refine bodyPost_ret (v := spV (spanO n 6)) ?_ rfl ⟨rfl, (Below.refl _ _).alloc (Nat.le_refl _) _⟩
    exact results_cell_row (ty := 96) (p := 4) (by kernel_rfl) _ _ w.heap.size 96 _ (0, 0) _ rfl (heap_alloc_new _ _) Tryd.underlying96 rfl size_span
  | 7, _, w => by
    go_enter Tryd.func53, Tryd.ntmps53
    go_wp2_with fail
    refine bodyPost_ret (v := spV (spanO n 7)) ?_ rfl ⟨rfl, (Below.refl _ _).alloc (Nat.le_refl _) _⟩
    exact results_cell_row (ty := 96) (p := 4) (by kernel_rfl) _ _ w.heap.size 96 _ (0, 0) _ rfl (heap_alloc_new _ _) Tryd.underlying96 rfl size_span
  | 8, _, w => by
    go_enter Tryd.func53, Tryd.ntmps53
    go_wp2_with fail
    refine bodyPost_ret (v := spV (spanO n 8)) ?_ rfl ⟨rfl, (Below.refl _ _).alloc (Nat.le_refl _) _⟩
    exact results_cell_row (ty := 96) (p := 4) (by kernel_rfl) _ _ w.heap.size 96 _ (0, 0) _ rfl (heap_alloc_new _ _) Tryd.underlying96 rfl size_span
  | 9, _, w => by
    go_enter Tryd.func53, Tryd.ntmps53
    go_wp2_with fail
    refine bodyPost_ret (v := spV (spanO n 9)) ?_ rfl ⟨rfl, (Below.refl _ _).alloc (Nat.le_refl _) _⟩
    exact results_cell_row (ty := 96) (p := 4) (by kernel_rfl) _ _ w.heap.size 96 _ (0, 0) _ rfl (heap_alloc_new _ _) Tryd.underlying96 rfl size_span
  | 10, _, w => by
    go_enter Tryd.func53, Tryd.ntmps53
    go_wp2_with fail
    refine bodyPost_ret (v := spV (spanO n 10)) ?_ rfl ⟨rfl, (Below.refl _ _).alloc (Nat.le_refl _) _⟩
    exact results_cell_row (ty := 96) (p := 4) (by kernel_rfl) _ _ w.heap.size 96 _ (0, 0) _ rfl (heap_alloc_new _ _) Tryd.underlying96 rfl size_span
  | 11, _, w => by
    go_enter Tryd.func53, Tryd.ntmps53
    go_wp2_with fail
    refine bodyPost_ret (v := spV (spanO n 11)) ?_ rfl ⟨rfl, (Below.refl _ _).alloc (Nat.le_refl _) _⟩
    exact results_cell_row (ty := 96) (p := 4) (by kernel_rfl) _ _ w.heap.size 96 _ (0, 0) _ rfl (heap_alloc_new _ _) Tryd.underlying96 rfl size_span
  | 12, _, w => by
    go_enter Tryd.func53, Tryd.ntmps53
    go_wp2_with fail
    refine bodyPost_ret (v := spV (spanO n 12)) ?_ rfl ⟨rfl, (Below.refl _ _).alloc (Nat.le_refl _) _⟩
    exact results_cell_row (ty := 96) (p := 4) (by kernel_rfl) _ _ w.heap.size 96 _ (0, 0) _ rfl (heap_alloc_new _ _) Tryd.underlying96 rfl size_span
  | 13, _, w => by
    go_enter Tryd.func53, Tryd.ntmps53
    go_wp2_with fail
    refine bodyPost_ret (v := spV (spanO n 13)) ?_ rfl ⟨rfl, (Below.refl _ _).alloc (Nat.le_refl _) _⟩
    exact results_cell_row (ty := 96) (p := 4) (by kernel_rfl) _ _ w.heap.size 96 _ (0, 0) _ rfl (heap_alloc_new _ _) Tryd.underlying96 rfl size_span
  | 14, _, w => by
    go_enter Tryd.func53, Tryd.ntmps53
    go_wp2_with fail
    refine bodyPost_ret (v := spV (spanO n 14)) ?_ rfl ⟨rfl, (Below.refl _ _).alloc (Nat.le_refl _) _⟩
    exact results_cell_row (ty := 96) (p := 4) (by kernel_rfl) _ _ w.heap.size 96 _ (0, 0) _ rfl (heap_alloc_new _ _) Tryd.underlying96 rfl size_span
  | 15, _, w => by
    go_enter Tryd.func53, Tryd.ntmps53
    go_wp2_with fail
    refine bodyPost_ret (v := spV (spanO n 15)) ?_ rfl ⟨rfl, (Below.refl _ _).alloc (Nat.le_refl _) _⟩
    exact results_cell_row (ty := 96) (p := 4) (by kernel_rfl) _ _ w.heap.size 96 _ (0, 0) _ rfl (heap_alloc_new _ _) Tryd.underlying96 rfl size_span
  | 16, _, w => by
    go_enter Tryd.func53, Tryd.ntmps53
    go_wp2_with fail
    refine bodyPost_ret (v := spV (spanO n 16)) ?_ rfl ⟨rfl, (Below.refl _ _).alloc (Nat.le_refl _) _⟩
    exact results_cell_row (ty := 96) (p := 4) (by kernel_rfl) _ _ w.heap.size 96 _ (0, 0) _ rfl (heap_alloc_new _ _) Tryd.underlying96 rfl size_span
  | 17, _, w => by
    go_enter Tryd.func53, Tryd.ntmps53
    go_wp2_with fail
    refine bodyPost_ret (v := spV (spanO n 17)) ?_ rfl ⟨rfl, (Below.refl _ _).alloc (Nat.le_refl _) _⟩
    exact results_cell_row (ty := 96) (p := 4) (by kernel_rfl) _ _ w.heap.size 96 _ (0, 0) _ rfl (heap_alloc_new _ _) Tryd.underlying96 rfl size_span
  | _ + 18, h, _ => absurd h (by omega)
theorem pl_span : ∀ k, k < 9 → ∀ w, Calls Tryd.prog 55 #[.int .i64 ((k : Nat) : Int)] w fun e w' => e = .returned (spV (spanP k)) ∧ Below w.heap.size w w'
  | 0, _, w => by
    go_enter Tryd.func55, Tryd.ntmps55
    go_wp2_with fail
    refine bodyPost_ret (v := spV (spanP 0)) ?_ rfl ⟨rfl, (Below.refl _ _).alloc (Nat.le_refl _) _⟩
    exact results_cell_row (ty := 96) (p := 2) (by kernel_rfl) _ _ w.heap.size 96 _ (0, 0) _ rfl (heap_alloc_new _ _) Tryd.underlying96 rfl size_span
  | 1, _, w => by
    go_enter Tryd.func55, Tryd.ntmps55
    go_wp2_with fail
    refine bodyPost_ret (v := spV (spanP 1)) ?_ rfl ⟨rfl, (Below.refl _ _).alloc (Nat.le_refl _) _⟩
    exact results_cell_row (ty := 96) (p := 2) (by kernel_rfl) _ _ w.heap.size 96 _ (0, 0) _ rfl (heap_alloc_new _ _) Tryd.underlying96 rfl size_span
  | 2, _, w => by
    go_enter Tryd.func55, Tryd.ntmps55
    go_wp2_with fail
    refine bodyPost_ret (v := spV (spanP 2)) ?_ rfl ⟨rfl, (Below.refl _ _).alloc (Nat.le_refl _) _⟩
    exact results_cell_row (ty := 96) (p := 2) (by kernel_rfl) _ _ w.heap.size 96 _ (0, 0) _ rfl (heap_alloc_new _ _) Tryd.underlying96 rfl size_span
  | 3, _, w => by
    go_enter Tryd.func55, Tryd.ntmps55
    go_wp2_with fail
    refine bodyPost_ret (v := spV (spanP 3)) ?_ rfl ⟨rfl, (Below.refl _ _).alloc (Nat.le_refl _) _⟩
    exact results_cell_row (ty := 96) (p := 2) (by kernel_rfl) _ _ w.heap.size 96 _ (0, 0) _ rfl (heap_alloc_new _ _) Tryd.underlying96 rfl size_span
  | 4, _, w => by
    go_enter Tryd.func55, Tryd.ntmps55
    go_wp2_with fail
    refine bodyPost_ret (v := spV (spanP 4)) ?_ rfl ⟨rfl, (Below.refl _ _).alloc (Nat.le_refl _) _⟩
    exact results_cell_row (ty := 96) (p := 2) (by kernel_rfl) _ _ w.heap.size 96 _ (0, 0) _ rfl (heap_alloc_new _ _) Tryd.underlying96 rfl size_span
  | 5, _, w => by
    go_enter Tryd.func55, Tryd.ntmps55
    go_wp2_with fail
    refine bodyPost_ret (v := spV (spanP 5)) ?_ rfl ⟨rfl, (Below.refl _ _).alloc (Nat.le_refl _) _⟩
    exact results_cell_row (ty := 96) (p := 2) (by kernel_rfl) _ _ w.heap.size 96 _ (0, 0) _ rfl (heap_alloc_new _ _) Tryd.underlying96 rfl size_span
  | 6, _, w => by
    go_enter Tryd.func55, Tryd.ntmps55
    go_wp2_with fail
    refine bodyPost_ret (v := spV (spanP 6)) ?_ rfl ⟨rfl, (Below.refl _ _).alloc (Nat.le_refl _) _⟩
    exact results_cell_row (ty := 96) (p := 2) (by kernel_rfl) _ _ w.heap.size 96 _ (0, 0) _ rfl (heap_alloc_new _ _) Tryd.underlying96 rfl size_span
  | 7, _, w => by
    go_enter Tryd.func55, Tryd.ntmps55
    go_wp2_with fail
    refine bodyPost_ret (v := spV (spanP 7)) ?_ rfl ⟨rfl, (Below.refl _ _).alloc (Nat.le_refl _) _⟩
    exact results_cell_row (ty := 96) (p := 2) (by kernel_rfl) _ _ w.heap.size 96 _ (0, 0) _ rfl (heap_alloc_new _ _) Tryd.underlying96 rfl size_span
  | 8, _, w => by
    go_enter Tryd.func55, Tryd.ntmps55
    go_wp2_with fail
    refine bodyPost_ret (v := spV (spanP 8)) ?_ rfl ⟨rfl, (Below.refl _ _).alloc (Nat.le_refl _) _⟩
    exact results_cell_row (ty := 96) (p := 2) (by kernel_rfl) _ _ w.heap.size 96 _ (0, 0) _ rfl (heap_alloc_new _ _) Tryd.underlying96 rfl size_span
  | _ + 9, h, _ => absurd h (by omega)
theorem gm_span : ∀ k, k < 7 → ∀ w, Calls Tryd.prog 56 #[.int .i64 ((k : Nat) : Int)] w fun e w' => e = .returned (spV (spanG k)) ∧ Below w.heap.size w w'
  | 0, _, w => by
    go_enter Tryd.func56, Tryd.ntmps56
    go_wp2_with fail
    refine bodyPost_ret (v := spV (spanG 0)) ?_ rfl ⟨rfl, (Below.refl _ _).alloc (Nat.le_refl _) _⟩
    exact results_cell_row (ty := 96) (p := 2) (by kernel_rfl) _ _ w.heap.size 96 _ (0, 0) _ rfl (heap_alloc_new _ _) Tryd.underlying96 rfl size_span
  | 1, _, w => by
    go_enter Tryd.func56, Tryd.ntmps56
    go_wp2_with fail
    refine bodyPost_ret (v := spV (spanG 1)) ?_ rfl ⟨rfl, (Below.refl _ _).alloc (Nat.le_refl _) _⟩
    exact results_cell_row (ty := 96) (p := 2) (by kernel_rfl) _ _ w.heap.size 96 _ (0, 0) _ rfl (heap_alloc_new _ _) Tryd.underlying96 rfl size_span
  | 2, _, w => by
    go_enter Tryd.func56, Tryd.ntmps56
    go_wp2_with fail
    refine bodyPost_ret (v := spV (spanG 2)) ?_ rfl ⟨rfl, (Below.refl _ _).alloc (Nat.le_refl _) _⟩
    exact results_cell_row (ty := 96) (p := 2) (by kernel_rfl) _ _ w.heap.size 96 _ (0, 0) _ rfl (heap_alloc_new _ _) Tryd.underlying96 rfl size_span
  | 3, _, w => by
    go_enter Tryd.func56, Tryd.ntmps56
    go_wp2_with fail
    refine bodyPost_ret (v := spV (spanG 3)) ?_ rfl ⟨rfl, (Below.refl _ _).alloc (Nat.le_refl _) _⟩
    exact results_cell_row (ty := 96) (p := 2) (by kernel_rfl) _ _ w.heap.size 96 _ (0, 0) _ rfl (heap_alloc_new _ _) Tryd.underlying96 rfl size_span
  | 4, _, w => by
    go_enter Tryd.func56, Tryd.ntmps56
    go_wp2_with fail
    refine bodyPost_ret (v := spV (spanG 4)) ?_ rfl ⟨rfl, (Below.refl _ _).alloc (Nat.le_refl _) _⟩
    exact results_cell_row (ty := 96) (p := 2) (by kernel_rfl) _ _ w.heap.size 96 _ (0, 0) _ rfl (heap_alloc_new _ _) Tryd.underlying96 rfl size_span
  | 5, _, w => by
    go_enter Tryd.func56, Tryd.ntmps56
    go_wp2_with fail
    refine bodyPost_ret (v := spV (spanG 5)) ?_ rfl ⟨rfl, (Below.refl _ _).alloc (Nat.le_refl _) _⟩
    exact results_cell_row (ty := 96) (p := 2) (by kernel_rfl) _ _ w.heap.size 96 _ (0, 0) _ rfl (heap_alloc_new _ _) Tryd.underlying96 rfl size_span
  | 6, _, w => by
    go_enter Tryd.func56, Tryd.ntmps56
    go_wp2_with fail
    refine bodyPost_ret (v := spV (spanG 6)) ?_ rfl ⟨rfl, (Below.refl _ _).alloc (Nat.le_refl _) _⟩
    exact results_cell_row (ty := 96) (p := 2) (by kernel_rfl) _ _ w.heap.size 96 _ (0, 0) _ rfl (heap_alloc_new _ _) Tryd.underlying96 rfl size_span
  | _ + 7, h, _ => absurd h (by omega)
/-- The first m numbers are within. -/
def fitsB (f : Nat → Int) (sp : Nat → Int × Int) (m : Nat) : Bool := (List.range m).all fun i => inR (f i) (sp i).1 (sp i).2
theorem fitsB_iff {f : Nat → Int} {sp : Nat → Int × Int} {m : Nat} : fitsB f sp m = true ↔ ∀ i, i < m → inR (f i) (sp i).1 (sp i).2 = true := by
  unfold fitsB; rw [List.all_eq_true]; exact ⟨fun h i hi => h i (List.mem_range.2 hi), fun h i hi => h i (List.mem_range.1 hi)⟩
theorem fitsB_bad {f : Nat → Int} {sp : Nat → Int × Int} {m i : Nat} (hi : i < m) (h : inR (f i) (sp i).1 (sp i).2 = false) : fitsB f sp m = false := by
  rw [Bool.eq_false_iff]; intro h2; have := fitsB_iff.1 h2 i hi; rw [h] at this; cases this
theorem range18 : List.range 18 = [0, 1, 2, 3, 4, 5, 6, 7, 8, 9, 10, 11, 12, 13, 14, 15, 16, 17] := rfl
theorem range9 : List.range 9 = [0, 1, 2, 3, 4, 5, 6, 7, 8] := rfl
theorem range7 : List.range 7 = [0, 1, 2, 3, 4, 5, 6] := rfl
theorem range6 : List.range 6 = [0, 1, 2, 3, 4, 5] := rfl
theorem objectB_is (o : Nat → Int) (n : Int) : objectB o n = fitsB o (spanO n) 18 := by
  rw [Bool.eq_iff_iff]
  simp only [objectB, fitsB, range18, List.all_cons, List.all_nil, Bool.and_true, Bool.and_eq_true, spanO]
  constructor
  · intro h; simp only [h, and_self]
  · intro h; simp only [h, and_self]
end Go.Proofs.YtihbdbgmijkjmaaDoor
