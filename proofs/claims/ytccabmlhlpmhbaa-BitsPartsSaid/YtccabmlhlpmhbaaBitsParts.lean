/- BitsParts: its walks: no such part; a part too wide; laid. -/
import Derived.Test.YtccabmlhlpmhbaaBitsLaws
namespace Go.Proofs.Ytccabmlhlpmhbaa
open Go.RowKit Bx

set_option maxHeartbeats 1000000 in
theorem bitsParts_no (x p : Nat) (a n : Int) (h : isB a n = false) (w : World) :
    Calls Try.prog 3 #[.agg #[.int .u64 x, .int .u64 p, .int .i64 a, .int .i64 n]] w fun e w' => e = .returned (.bool true) ∧ Below w.heap.size w w' := by
  have H0 := Lib.hid h
  clear h
  go_enter Try.func3, Try.ntmps3
  go_wp2_with fail
  refine (alive_true _).mono ?_
  rintro e w' ⟨rfl, rfl⟩
  go_wp2_with fail
  refine (put_range _ _ _ _ H0.out _).mono ?_
  rintro e w' ⟨rfl, m, rfl⟩
  go_wp2_with fail
  refine (putRef_no _ _ _ _ H0.out _).mono ?_
  rintro e w1 ⟨rfl, hb1⟩
  have hbel : Below w.heap.size w w1 := ((Below.refl _ _).alloc (Nat.le_refl _) _).trans ((below_drewN (Below.refl _ _) m).trans (hb1.mono (by simp)))
  have c0 : w1.cell? ⟨w.heap.size, 0, none⟩ = some (.int .u64 x) := (hb1.cell (p := ⟨w.heap.size, 0, none⟩) (by simp)).trans (by simp)
  have c1 : w1.cell? ⟨w.heap.size, 1, none⟩ = some (.int .u64 p) := (hb1.cell (p := ⟨w.heap.size, 1, none⟩) (by simp)).trans (by simp)
  have c2 : w1.cell? ⟨w.heap.size, 2, none⟩ = some (.int .i64 a) := (hb1.cell (p := ⟨w.heap.size, 2, none⟩) (by simp)).trans (by simp)
  have c3 : w1.cell? ⟨w.heap.size, 3, none⟩ = some (.int .i64 n) := (hb1.cell (p := ⟨w.heap.size, 3, none⟩) (by simp)).trans (by simp)
  clear hb1
  go_wp2_with fail
  go_region_held3 (fun w' => w'.cell? ⟨w.heap.size, 0, none⟩ = some (.int .u64 x) ∧ w'.cell? ⟨w.heap.size, 1, none⟩ = some (.int .u64 p) ∧ w'.cell? ⟨w.heap.size, 2, none⟩ = some (.int .i64 a) ∧ w'.cell? ⟨w.heap.size, 3, none⟩ = some (.int .i64 n) ∧ Below w.heap.size w w')
    (first | (exact ⟨c0, c1, c2, c3, Below.drew hbel⟩) | assumption | (exact keep4D _ ⟨c0, c1, c2, c3, hbel⟩) | (exact keep4 (by assumption) (by assumption)) | (exact keep4D _ (by assumption)) | go_keep)
    (first
      | (go_at_call 9; refine (num_err 1 (by decide) _).mono ?_; rintro e w' ⟨rfl, rfl⟩)
      | (go_at_call 10; refine (part_no _ _ _ H0.out _).mono ?_; rintro e w' ⟨rfl, m', rfl⟩)
      | (go_at_call 11; refine (partRef_no _ _ _ H0.out _).mono ?_; rintro e w' ⟨rfl, hb2⟩)
      | (go_at_call 12; refine (span_any _ _ _).mono ?_; rintro e w' ⟨rfl, rfl⟩)
      | (go_at_call 13; refine (spanRef_any _ _ _).mono ?_; rintro e w' ⟨rfl, hb2⟩))
  rename_i hh
  have hbb := hh.2.2.2.2
  go_wp2_with fail
  go_ret
  exact ⟨rfl, hbb⟩

set_option maxHeartbeats 1000000 in
theorem bitsParts_form (x p : Nat) (hx : x < 2 ^ 64) (hp : p < 2 ^ 64) (a n : Int) (h : isB a n = true) (hm : mask (clamp n) < p) (w : World) :
    Calls Try.prog 3 #[.agg #[.int .u64 x, .int .u64 p, .int .i64 a, .int .i64 n]] w fun e w' => e = .returned (.bool true) ∧ Below w.heap.size w w' := by
  have H0 := Lib.hid h
  have H1 := Lib.hid hx
  have H2 := Lib.hid hp
  have H3 := Lib.hid hm
  clear h hx hp hm
  go_enter Try.func3, Try.ntmps3
  go_wp2_with fail
  refine (alive_true _).mono ?_
  rintro e w' ⟨rfl, rfl⟩
  go_wp2_with fail
  refine (put_form _ _ _ _ H3.out H0.out _).mono ?_
  rintro e w' ⟨rfl, m, rfl⟩
  go_wp2_with fail
  refine (putRef_form x H1.out p H2.out _ _ H0.out H3.out _).mono ?_
  rintro e w1 ⟨rfl, hb1⟩
  have hbel : Below w.heap.size w w1 := ((Below.refl _ _).alloc (Nat.le_refl _) _).trans ((below_drewN (Below.refl _ _) m).trans (hb1.mono (by simp)))
  have c0 : w1.cell? ⟨w.heap.size, 0, none⟩ = some (.int .u64 x) := (hb1.cell (p := ⟨w.heap.size, 0, none⟩) (by simp)).trans (by simp)
  have c1 : w1.cell? ⟨w.heap.size, 1, none⟩ = some (.int .u64 p) := (hb1.cell (p := ⟨w.heap.size, 1, none⟩) (by simp)).trans (by simp)
  have c2 : w1.cell? ⟨w.heap.size, 2, none⟩ = some (.int .i64 a) := (hb1.cell (p := ⟨w.heap.size, 2, none⟩) (by simp)).trans (by simp)
  have c3 : w1.cell? ⟨w.heap.size, 3, none⟩ = some (.int .i64 n) := (hb1.cell (p := ⟨w.heap.size, 3, none⟩) (by simp)).trans (by simp)
  clear hb1
  go_wp2_with fail
  go_region_held3 (fun w' => w'.cell? ⟨w.heap.size, 0, none⟩ = some (.int .u64 x) ∧ w'.cell? ⟨w.heap.size, 1, none⟩ = some (.int .u64 p) ∧ w'.cell? ⟨w.heap.size, 2, none⟩ = some (.int .i64 a) ∧ w'.cell? ⟨w.heap.size, 3, none⟩ = some (.int .i64 n) ∧ Below w.heap.size w w')
    (first | (exact ⟨c0, c1, c2, c3, Below.drew hbel⟩) | assumption | (exact keep4D _ ⟨c0, c1, c2, c3, hbel⟩) | (exact keep4 (by assumption) (by assumption)) | (exact keep4D _ (by assumption)) | go_keep)
    (first
      | (go_at_call 9; refine (num_err 2 (by decide) _).mono ?_; rintro e w' ⟨rfl, rfl⟩)
      | (go_at_call 10; refine (part_yes x H1.out _ _ H0.out _).mono ?_; rintro e w' ⟨rfl, m', rfl⟩)
      | (go_at_call 11; refine (partRef_yes x H1.out _ _ H0.out _).mono ?_; rintro e w' ⟨rfl, hb2⟩)
      | (go_at_call 12; refine (span_any _ _ _).mono ?_; rintro e w' ⟨rfl, rfl⟩)
      | (go_at_call 13; refine (spanRef_any _ _ _).mono ?_; rintro e w' ⟨rfl, hb2⟩))
  rename_i hh
  have hbb := hh.2.2.2.2
  go_wp2_with fail
  go_ret
  exact ⟨rfl, hbb⟩

set_option maxHeartbeats 1000000 in
theorem bitsParts_yes (x p : Nat) (hx : x < 2 ^ 64) (hp : p < 2 ^ 64) (a n : Int) (h : isB a n = true) (hm : p ≤ mask (clamp n)) (w : World) :
    Calls Try.prog 3 #[.agg #[.int .u64 x, .int .u64 p, .int .i64 a, .int .i64 n]] w fun e w' => e = .returned (.bool true) ∧ Below w.heap.size w w' := by
  have H0 := Lib.hid h
  have H1 := Lib.hid hx
  have H2 := Lib.hid hp
  have H3 := Lib.hid hm
  clear h hx hp hm
  go_enter Try.func3, Try.ntmps3
  go_wp2_with fail
  refine (alive_true _).mono ?_
  rintro e w' ⟨rfl, rfl⟩
  go_wp2_with fail
  refine (put_yes x H1.out _ _ p H3.out H0.out _).mono ?_
  rintro e w' ⟨rfl, m, rfl⟩
  go_wp2_with fail
  refine (putRef_laid x H1.out p H2.out _ _ H0.out H3.out _).mono ?_
  rintro e w1 ⟨rfl, hb1⟩
  have hbel : Below w.heap.size w w1 := ((Below.refl _ _).alloc (Nat.le_refl _) _).trans ((below_drewN (Below.refl _ _) m).trans (hb1.mono (by simp)))
  have c0 : w1.cell? ⟨w.heap.size, 0, none⟩ = some (.int .u64 x) := (hb1.cell (p := ⟨w.heap.size, 0, none⟩) (by simp)).trans (by simp)
  have c1 : w1.cell? ⟨w.heap.size, 1, none⟩ = some (.int .u64 p) := (hb1.cell (p := ⟨w.heap.size, 1, none⟩) (by simp)).trans (by simp)
  have c2 : w1.cell? ⟨w.heap.size, 2, none⟩ = some (.int .i64 a) := (hb1.cell (p := ⟨w.heap.size, 2, none⟩) (by simp)).trans (by simp)
  have c3 : w1.cell? ⟨w.heap.size, 3, none⟩ = some (.int .i64 n) := (hb1.cell (p := ⟨w.heap.size, 3, none⟩) (by simp)).trans (by simp)
  clear hb1
  go_wp2_with fail
  go_region_held3 (fun w' => w'.cell? ⟨w.heap.size, 0, none⟩ = some (.int .u64 x) ∧ w'.cell? ⟨w.heap.size, 1, none⟩ = some (.int .u64 p) ∧ w'.cell? ⟨w.heap.size, 2, none⟩ = some (.int .i64 a) ∧ w'.cell? ⟨w.heap.size, 3, none⟩ = some (.int .i64 n) ∧ Below w.heap.size w w')
    (first | (exact ⟨c0, c1, c2, c3, Below.drew hbel⟩) | assumption | (exact keep4D _ ⟨c0, c1, c2, c3, hbel⟩) | (exact keep4 (by assumption) (by assumption)) | (exact keep4D _ (by assumption)) | go_keep)
    (first
      | (go_at_call 9; refine (num_nil _).mono ?_; rintro e w' ⟨rfl, rfl⟩)
      | (go_at_call 10; refine (part_yes x H1.out _ _ H0.out _).mono ?_; rintro e w' ⟨rfl, m', rfl⟩)
      | (go_at_call 11; refine (partRef_yes x H1.out _ _ H0.out _).mono ?_; rintro e w' ⟨rfl, hb2⟩)
      | (go_at_call 12; refine (span_any _ _ _).mono ?_; rintro e w' ⟨rfl, rfl⟩)
      | (go_at_call 13; refine (spanRef_any _ _ _).mono ?_; rintro e w' ⟨rfl, hb2⟩))
  rename_i hh
  have hbb := hh.2.2.2.2
  go_wp2_with fail
  go_ret
  exact ⟨rfl, hbb⟩
end Go.Proofs.Ytccabmlhlpmhbaa
