/- Layer 1: the laws' walks. -/
import Derived.Test.YtccabmlhlpmhbaaBitsRef
import Derived.Test.YtccabmlhlpmhbaaBitsCode
import Derived.Deep.RegionHeld3
namespace Go.Proofs.Ytccabmlhlpmhbaa
open Go.RowKit Bx

theorem alive_narrow : narrowV 200 8 = -56 := by decide +kernel
theorem alive_span : spanB 62 70 = 13835058055282163712 := by decide
theorem alive_true (w : World) : Calls Try.prog 6 #[] w fun e w' => e = .returned (.bool true) ∧ w = w' := by
  have h1 := Lib.hid alive_narrow
  have h2 := Lib.hid alive_span
  go_enter Try.func6, Try.ntmps6
  go_wp2_with fail
  refine (narrow_yes _ _ (by decide) _).mono ?_
  rintro e w' ⟨rfl, rfl⟩
  rw [h1.out]
  go_wp2_with fail
  refine (span_any _ _ _).mono ?_
  rintro e w' ⟨rfl, rfl⟩
  rw [h2.out]
  go_wp2_with fail
  go_ret
  exact ⟨rfl, rfl⟩
theorem bitsNarrows_no (x n : Int) (h : widB n = false) (w : World) :
    Calls Try.prog 4 #[.int .i64 x, .int .i64 n] w fun e w' => e = .returned (.bool true) ∧ Below w.heap.size w w' := by
  have hn := widB_false h
  have H0 := Lib.hid h
  clear h
  have H1 := Lib.hid hn
  by_cases h1 : n < 1
  · clear hn
    go_enter Try.func4, Try.ntmps4
    go_wp2_with fail
    refine (alive_true _).mono ?_
    rintro e w' ⟨rfl, rfl⟩
    go_wp2_with fail
    refine (narrowRef_no _ _ H1.out _).mono ?_
    rintro e w1 ⟨rfl, hb⟩
    go_wp2_with fail
    refine (narrow_no _ _ H0.out _).mono ?_
    rintro e w' ⟨rfl, rfl⟩
    go_wp2_with fail
    refine (fits_no _ _ H0.out _).mono ?_
    rintro e w' ⟨rfl, rfl⟩
    go_wp2_with fail
    go_ret
    exact ⟨rfl, hb⟩
  · have h2 : 64 < n := by omega
    clear hn
    go_enter Try.func4, Try.ntmps4
    go_wp2_with fail
    refine (alive_true _).mono ?_
    rintro e w' ⟨rfl, rfl⟩
    go_wp2_with fail
    refine (narrowRef_no _ _ H1.out _).mono ?_
    rintro e w1 ⟨rfl, hb⟩
    go_wp2_with fail
    refine (narrow_no _ _ H0.out _).mono ?_
    rintro e w' ⟨rfl, rfl⟩
    go_wp2_with fail
    refine (fits_no _ _ H0.out _).mono ?_
    rintro e w' ⟨rfl, rfl⟩
    go_wp2_with fail
    go_ret
    exact ⟨rfl, hb⟩
theorem bitsNarrows_yes (x n : Int) (h : widB n = true) (w : World) :
    Calls Try.prog 4 #[.int .i64 x, .int .i64 n] w fun e w' => e = .returned (.bool true) ∧ Below w.heap.size w w' := by
  obtain ⟨h1, h2⟩ := widB_true h
  have H0 := Lib.hid h
  clear h
  have HV := Lib.hid (narrow_val x n h1 h2)
  go_enter Try.func4, Try.ntmps4
  go_wp2_with fail
  refine (alive_true _).mono ?_
  rintro e w' ⟨rfl, rfl⟩
  go_wp2_with fail
  refine (narrowRef_yes _ _ h1 h2 _).mono ?_
  rintro e w1 ⟨rfl, hb⟩
  rw [← HV.out]
  go_wp2_with fail
  refine (narrow_yes _ _ H0.out _).mono ?_
  rintro e w' ⟨rfl, rfl⟩
  go_wp2_with fail
  refine (fits_yes _ _ H0.out _).mono ?_
  rintro e w' ⟨rfl, rfl⟩
  go_wp2_with fail
  go_ret
  exact ⟨rfl, hb⟩
theorem num_nil (w : World) : Calls Try.prog 9 #[.nilIface] w fun e w' => e = .returned (.int .i64 0) ∧ w = w' := by
  go_enter Try.func9, Try.ntmps9
  go_wp2_with fail
  go_ret
  exact ⟨rfl, rfl⟩
theorem num_err (k : Int) (hk : 1 ≤ k) (w : World) : Calls Try.prog 9 #[.iface 40 (.int .i64 k)] w fun e w' => e = .returned (.int .i64 k) ∧ w = w' := by
  have h1 : (k != 0) = true := by simp; omega
  have ht : ∀ (w : World), (Instr.typeAssert (.iface 40 (.int .i64 k)) 27 40 true).run Try.prog w = .ok (.tuple #[.int .i64 k, .bool true]) w := fun _ => by kernel_rfl
  go_enter Try.func9, Try.ntmps9
  go_wp2_with fail
  go_ret
  exact ⟨rfl, rfl⟩
theorem keep4 {w0 W w1 : World} {b : Nat} {v0 v1 v2 v3 : Value} (hb1 : Below W.heap.size W w1)
    (h : W.cell? ⟨b, 0, none⟩ = some v0 ∧ W.cell? ⟨b, 1, none⟩ = some v1 ∧ W.cell? ⟨b, 2, none⟩ = some v2 ∧ W.cell? ⟨b, 3, none⟩ = some v3 ∧ Below w0.heap.size w0 W) :
    w1.cell? ⟨b, 0, none⟩ = some v0 ∧ w1.cell? ⟨b, 1, none⟩ = some v1 ∧ w1.cell? ⟨b, 2, none⟩ = some v2 ∧ w1.cell? ⟨b, 3, none⟩ = some v3 ∧ Below w0.heap.size w0 w1 := by
  obtain ⟨h0, h1, h2, h3, hb⟩ := h
  have hl : b < W.heap.size := block_lt_of_cell h0
  exact ⟨(hb1.cell (p := ⟨b, 0, none⟩) hl).trans h0, (hb1.cell (p := ⟨b, 1, none⟩) hl).trans h1, (hb1.cell (p := ⟨b, 2, none⟩) hl).trans h2, (hb1.cell (p := ⟨b, 3, none⟩) hl).trans h3, hb.trans (hb1.mono hb.size)⟩
theorem keep4D {w0 W : World} {b : Nat} {v0 v1 v2 v3 : Value} (m : Nat)
    (h : W.cell? ⟨b, 0, none⟩ = some v0 ∧ W.cell? ⟨b, 1, none⟩ = some v1 ∧ W.cell? ⟨b, 2, none⟩ = some v2 ∧ W.cell? ⟨b, 3, none⟩ = some v3 ∧ Below w0.heap.size w0 W) :
    (W.drewN m).cell? ⟨b, 0, none⟩ = some v0 ∧ (W.drewN m).cell? ⟨b, 1, none⟩ = some v1 ∧ (W.drewN m).cell? ⟨b, 2, none⟩ = some v2 ∧ (W.drewN m).cell? ⟨b, 3, none⟩ = some v3 ∧ Below w0.heap.size w0 (W.drewN m) := by
  obtain ⟨h0, h1, h2, h3, hb⟩ := h
  exact ⟨h0, h1, h2, h3, below_drewN hb m⟩
end Go.Proofs.Ytccabmlhlpmhbaa
