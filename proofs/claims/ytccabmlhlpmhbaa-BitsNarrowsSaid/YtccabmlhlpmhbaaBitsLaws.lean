/- Layer 1: the laws' walks. -/
import Derived.Test.YtccabmlhlpmhbaaBitsRef
import Derived.Test.YtccabmlhlpmhbaaBitsCode
namespace Go.Proofs.Ytccabmlhlpmhbaa
open Go.RowKit Bx

theorem alive_narrow : narrowV 200 8 = -56 := by decide +kernel
theorem alive_span : spanB 62 70 = 13835058055282163712 := by decide
theorem alive_true (w : World) : Calls Try.prog 6 #[] w fun e w' => e = .returned (.bool true) ∧ w = w' := by
  have h1 := Lib.hid alive_narrow
  have h2 := Lib.hid alive_span
  go_enter Try.func6, Try.ntmps6
  go_wp2_with fail
  refine (narrow_yes _ _ (by decide) _).mono ?_
  rintro e w' ⟨rfl, rfl⟩
  rw [h1.out]
  go_wp2_with fail
  refine (span_any _ _ _).mono ?_
  rintro e w' ⟨rfl, rfl⟩
  rw [h2.out]
  go_wp2_with fail
  go_ret
  exact ⟨rfl, rfl⟩
theorem bitsNarrows_no (x n : Int) (h : widB n = false) (w : World) :
    Calls Try.prog 4 #[.int .i64 x, .int .i64 n] w fun e w' => e = .returned (.bool true) ∧ Below w.heap.size w w' := by
  have hn := widB_false h
  have H0 := Lib.hid h
  clear h
  have H1 := Lib.hid hn
  by_cases h1 : n < 1
  · clear hn
    go_enter Try.func4, Try.ntmps4
    go_wp2_with fail
    refine (alive_true _).mono ?_
    rintro e w' ⟨rfl, rfl⟩
    go_wp2_with fail
    refine (narrowRef_no _ _ H1.out _).mono ?_
    rintro e w1 ⟨rfl, hb⟩
    go_wp2_with fail
    refine (narrow_no _ _ H0.out _).mono ?_
    rintro e w' ⟨rfl, rfl⟩
    go_wp2_with fail
    refine (fits_no _ _ H0.out _).mono ?_
    rintro e w' ⟨rfl, rfl⟩
    go_wp2_with fail
    go_ret
    exact ⟨rfl, hb⟩
  · have h2 : 64 < n := by omega
    clear hn
    go_enter Try.func4, Try.ntmps4
    go_wp2_with fail
    refine (alive_true _).mono ?_
    rintro e w' ⟨rfl, rfl⟩
    go_wp2_with fail
    refine (narrowRef_no _ _ H1.out _).mono ?_
    rintro e w1 ⟨rfl, hb⟩
    go_wp2_with fail
    refine (narrow_no _ _ H0.out _).mono ?_
    rintro e w' ⟨rfl, rfl⟩
    go_wp2_with fail
    refine (fits_no _ _ H0.out _).mono ?_
    rintro e w' ⟨rfl, rfl⟩
    go_wp2_with fail
    go_ret
    exact ⟨rfl, hb⟩
theorem bitsNarrows_yes (x n : Int) (h : widB n = true) (w : World) :
    Calls Try.prog 4 #[.int .i64 x, .int .i64 n] w fun e w' => e = .returned (.bool true) ∧ Below w.heap.size w w' := by
  obtain ⟨h1, h2⟩ := widB_true h
  have H0 := Lib.hid h
  clear h
  have HV := Lib.hid (narrow_val x n h1 h2)
  go_enter Try.func4, Try.ntmps4
  go_wp2_with fail
  refine (alive_true _).mono ?_
  rintro e w' ⟨rfl, rfl⟩
  go_wp2_with fail
  refine (narrowRef_yes _ _ h1 h2 _).mono ?_
  rintro e w1 ⟨rfl, hb⟩
  rw [← HV.out]
  go_wp2_with fail
  refine (narrow_yes _ _ H0.out _).mono ?_
  rintro e w' ⟨rfl, rfl⟩
  go_wp2_with fail
  refine (fits_yes _ _ H0.out _).mono ?_
  rintro e w' ⟨rfl, rfl⟩
  go_wp2_with fail
  go_ret
  exact ⟨rfl, hb⟩
end Go.Proofs.Ytccabmlhlpmhbaa
