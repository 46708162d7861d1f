/- Contracts of package bits. -/
import Derived.Test.YtccabmlhlpmhbaaRows
import Derived.Test.YtccabmlhlpmhbaaBitsMath
import Derived.Test.YtccabmlhlpmhbaaBitsPop
import Derived.WalkKit
import Derived.WalkSpells
import Derived.WalkLawsBesides
import Derived.Lib.Hide
import Derived.BigQuiet
import Derived.Deep.QuietTactic
namespace Go.Proofs.Ytccabmlhlpmhbaa
open Go.RowKit Bx

theorem isMember_is (i : Int) (b : Bool) (hb : memB i = b) (w : World) :
    Calls Try.prog 25 #[.int .i64 i] w fun e w' => e = .returned (.bool b) ∧ w = w' := by
  by_cases h0 : 0 ≤ i
  · have hb' : decide (i < 64) = b := by simpa [memB, h0] using hb
    go_enter Try.func25, Try.ntmps25
    go_wp2
    go_ret
    exact ⟨rfl, rfl⟩
  · obtain rfl : b = false := by simpa [memB, h0] using hb.symm
    clear hb
    go_enter Try.func25, Try.ntmps25
    go_wp2
    go_ret
    exact ⟨rfl, rfl⟩
theorem isWidth_is (n : Int) (b : Bool) (hb : widB n = b) (w : World) :
    Calls Try.prog 24 #[.int .i64 n] w fun e w' => e = .returned (.bool b) ∧ w = w' := by
  by_cases h0 : 1 ≤ n
  · have hb' : decide (n ≤ 64) = b := by simpa [widB, h0] using hb
    go_enter Try.func24, Try.ntmps24
    go_wp2
    go_ret
    exact ⟨rfl, rfl⟩
  · obtain rfl : b = false := by simpa [widB, h0] using hb.symm
    clear hb
    go_enter Try.func24, Try.ntmps24
    go_wp2
    go_ret
    exact ⟨rfl, rfl⟩
theorem isPart_is (a n : Int) (b : Bool) (hb : isB a n = b) (w : World) :
    Calls Try.prog 19 #[.int .i64 a, .int .i64 n] w fun e w' => e = .returned (.bool b) ∧ w = w' := by
  by_cases h0 : widB n = true
  · obtain ⟨h1, h2⟩ := widB_true h0
    have H0 := Lib.hid h0
    clear h0
    by_cases h3 : 0 ≤ a
    · have hb' : decide (a ≤ 64 - n) = b := by simpa [isB, h1, h2, h3] using hb
      go_enter Try.func19, Try.ntmps19
      go_wp2_with fail
      refine (isWidth_is _ _ H0.out _).mono ?_
      rintro e w' ⟨rfl, rfl⟩
      go_wp2
      go_ret
      exact ⟨rfl, rfl⟩
    · obtain rfl : b = false := by simpa [isB, h3] using hb.symm
      clear hb
      go_enter Try.func19, Try.ntmps19
      go_wp2_with fail
      refine (isWidth_is _ _ H0.out _).mono ?_
      rintro e w' ⟨rfl, rfl⟩
      go_wp2
      go_ret
      exact ⟨rfl, rfl⟩
  · have h1 := widB_false (Bool.not_eq_true _ ▸ h0)
    have H0 := Lib.hid (Bool.not_eq_true _ ▸ h0)
    clear h0
    obtain rfl : b = false := by rw [← hb]; unfold isB; rcases h1 with h | h <;> simp <;> omega
    clear hb h1
    go_enter Try.func19, Try.ntmps19
    go_wp2_with fail
    refine (isWidth_is _ _ H0.out _).mono ?_
    rintro e w' ⟨rfl, rfl⟩
    go_wp2
    go_ret
    exact ⟨rfl, rfl⟩
theorem below_any (n : Int) (w : World) :
    Calls Try.prog 20 #[.int .i64 n] w fun e w' => e = .returned (.int .u64 (mask (clamp n) : Nat)) ∧ w = w' := by
  rcases (show n < 0 ∨ 64 < n ∨ (0 ≤ n ∧ n ≤ 64) by omega) with h | h | ⟨h, h'⟩
  · have H := Lib.hid (below_lo n h)
    go_enter Try.func20, Try.ntmps20
    go_wp2
    all_goals go_ret
    all_goals exact ⟨ret_int H.out, rfl⟩
  · have H := Lib.hid (below_hi n h)
    go_enter Try.func20, Try.ntmps20
    go_wp2
    all_goals go_ret
    all_goals exact ⟨ret_int H.out, rfl⟩
  · have H := Lib.hid (below_mid n h h')
    go_enter Try.func20, Try.ntmps20
    go_wp2
    all_goals go_ret
    all_goals exact ⟨ret_int H.out, rfl⟩
theorem has_is (x : Nat) (hx : x < 18446744073709551616) (i : Int) (w : World) :
    Calls Try.prog 17 #[.int .u64 x, .int .i64 i] w fun e w' => e = .returned (.bool (memB i && x.testBit i.toNat)) ∧ w = w' := by
  by_cases h0 : memB i = true
  · obtain ⟨h1, h2⟩ := memB_true h0
    obtain ⟨k, rfl⟩ := Int.eq_ofNat_of_zero_le h1
    rw [h0, Bool.true_and, Int.toNat_natCast]
    have H0 := Lib.hid h0
    clear h0
    go_enter Try.func17, Try.ntmps17
    go_wp2_with fail
    refine (isMember_is _ _ H0.out _).mono ?_
    rintro e w' ⟨rfl, rfl⟩
    go_wp2
    go_ret
    exact ⟨ret_bool (has_bit x hx k), rfl⟩
  · have h1 : memB i = false := by simpa using h0
    rw [h1, Bool.false_and]
    have H0 := Lib.hid h1
    clear h0 h1
    go_enter Try.func17, Try.ntmps17
    go_wp2_with fail
    refine (isMember_is _ _ H0.out _).mono ?_
    rintro e w' ⟨rfl, rfl⟩
    go_wp2
    go_ret
    exact ⟨rfl, rfl⟩
theorem part_yes (x : Nat) (hx : x < 18446744073709551616) (a n : Int) (h : isB a n = true) (w : World) :
    Calls Try.prog 10 #[.int .u64 x, .int .i64 a, .int .i64 n] w fun e w' => e = .returned (.int .u64 (partB x a.toNat n.toNat : Nat)) ∧ ∃ m, w' = w.drewN m := by
  obtain ⟨h1, h2, h3, h4⟩ := isB_true h
  have H0 := Lib.hid h
  clear h
  obtain ⟨k, rfl⟩ := Int.eq_ofNat_of_zero_le h1
  have HV := Lib.hid (part_val x hx k n h2 h3)
  go_enter Try.func10, Try.ntmps10
  go_wp2_with fail
  refine (isPart_is _ _ _ H0.out _).mono ?_
  rintro e w' ⟨rfl, rfl⟩
  go_wp2_with fail
  go_quiet ((go_at_call 20; exact quietL (below_any _ _)))
  go_wp2_with fail
  go_ret
  exact ⟨ret_int HV.out, _, rfl⟩
theorem part_no (x : Nat) (a n : Int) (h : isB a n = false) (w : World) :
    Calls Try.prog 10 #[.int .u64 x, .int .i64 a, .int .i64 n] w fun e w' => e = .returned (.int .u64 0) ∧ ∃ m, w' = w.drewN m := by
  have H0 := Lib.hid h
  clear h
  go_enter Try.func10, Try.ntmps10
  go_wp2_with fail
  refine (isPart_is _ _ _ H0.out _).mono ?_
  rintro e w' ⟨rfl, rfl⟩
  go_wp2_with fail
  go_ret
  exact ⟨rfl, 0, rfl⟩
theorem span_any (a b : Int) (w : World) :
    Calls Try.prog 12 #[.int .i64 a, .int .i64 b] w fun e w' => e = .returned (.int .u64 (spanB a b : Nat)) ∧ w = w' := by
  have HV := Lib.hid (span_val a b)
  go_enter Try.func12, Try.ntmps12
  go_wp2_with fail
  refine (below_any _ _).mono ?_
  rintro e w' ⟨rfl, rfl⟩
  go_wp2_with fail
  refine (below_any _ _).mono ?_
  rintro e w' ⟨rfl, rfl⟩
  go_wp2_with fail
  go_ret
  exact ⟨ret_int HV.out, rfl⟩
theorem put_range (x p a n : Int) (h : isB a n = false) (w : World) :
    Calls Try.prog 7 #[.int .u64 x, .int .i64 a, .int .i64 n, .int .u64 p] w fun e w' => e = .returned (.tuple #[.int .u64 0, .iface 40 (.int .i64 1)]) ∧ ∃ m, w' = w.drewN m := by
  have H0 := Lib.hid h
  clear h
  go_enter Try.func7, Try.ntmps7
  go_wp2_with fail
  refine (isPart_is _ _ _ H0.out _).mono ?_
  rintro e w' ⟨rfl, rfl⟩
  go_wp2_with fail
  go_ret2
  exact ⟨rfl, 0, rfl⟩
theorem put_form (x a n : Int) (p : Nat) (hp : mask (clamp n) < p) (h : isB a n = true) (w : World) :
    Calls Try.prog 7 #[.int .u64 x, .int .i64 a, .int .i64 n, .int .u64 p] w fun e w' => e = .returned (.tuple #[.int .u64 0, .iface 40 (.int .i64 2)]) ∧ ∃ m, w' = w.drewN m := by
  have H0 := Lib.hid h
  clear h
  go_enter Try.func7, Try.ntmps7
  go_wp2_with fail
  refine (isPart_is _ _ _ H0.out _).mono ?_
  rintro e w' ⟨rfl, rfl⟩
  go_wp2_with fail
  refine (below_any _ _).mono ?_
  rintro e w' ⟨rfl, rfl⟩
  go_wp2_with fail
  go_ret2
  exact ⟨rfl, 0, rfl⟩
theorem put_yes (x : Nat) (hx : x < 18446744073709551616) (a n : Int) (p : Nat) (hp : p ≤ mask (clamp n)) (h : isB a n = true) (w : World) :
    Calls Try.prog 7 #[.int .u64 x, .int .i64 a, .int .i64 n, .int .u64 p] w fun e w' => e = .returned (.tuple #[.int .u64 (putB x a.toNat n.toNat p : Nat), .nilIface]) ∧ ∃ m, w' = w.drewN m := by
  obtain ⟨h1, h2, h3, h4⟩ := isB_true h
  have H0 := Lib.hid h
  clear h
  obtain ⟨k, rfl⟩ := Int.eq_ofNat_of_zero_le h1
  have HV := Lib.hid (put_val x hx k n p hp h2 h3 h4)
  go_enter Try.func7, Try.ntmps7
  go_wp2_with fail
  refine (isPart_is _ _ _ H0.out _).mono ?_
  rintro e w' ⟨rfl, rfl⟩
  go_wp2_with fail
  refine (below_any _ _).mono ?_
  rintro e w' ⟨rfl, rfl⟩
  go_wp2_with fail
  go_quiet ((go_at_call 20; exact quietL (below_any _ _)))
  go_wp2_with fail
  go_ret2
  exact ⟨ret_int_nil HV.out, _, rfl⟩
theorem narrow_no (x n : Int) (h : widB n = false) (w : World) :
    Calls Try.prog 15 #[.int .i64 x, .int .i64 n] w fun e w' => e = .returned (.int .i64 x) ∧ w = w' := by
  have H0 := Lib.hid h
  clear h
  go_enter Try.func15, Try.ntmps15
  go_wp2_with fail
  refine (isWidth_is _ _ H0.out _).mono ?_
  rintro e w' ⟨rfl, rfl⟩
  go_wp2_with fail
  go_ret
  exact ⟨rfl, rfl⟩
theorem narrow_yes (x n : Int) (h : widB n = true) (w : World) :
    Calls Try.prog 15 #[.int .i64 x, .int .i64 n] w fun e w' => e = .returned (.int .i64 (narrowV x n)) ∧ w = w' := by
  obtain ⟨h1, h2⟩ := widB_true h
  have H0 := Lib.hid h
  clear h
  go_enter Try.func15, Try.ntmps15
  go_wp2_with fail
  refine (isWidth_is _ _ H0.out _).mono ?_
  rintro e w' ⟨rfl, rfl⟩
  go_wp2_with fail
  go_ret
  exact ⟨rfl, rfl⟩
theorem fits_no (x n : Int) (h : widB n = false) (w : World) :
    Calls Try.prog 16 #[.int .i64 x, .int .i64 n] w fun e w' => e = .returned (.bool false) ∧ w = w' := by
  have H0 := Lib.hid h
  clear h
  go_enter Try.func16, Try.ntmps16
  go_wp2_with fail
  refine (isWidth_is _ _ H0.out _).mono ?_
  rintro e w' ⟨rfl, rfl⟩
  go_wp2_with fail
  go_ret
  exact ⟨rfl, rfl⟩
theorem fits_yes (x n : Int) (h : widB n = true) (w : World) :
    Calls Try.prog 16 #[.int .i64 x, .int .i64 n] w fun e w' => e = .returned (.bool (narrowV x n == x)) ∧ w = w' := by
  have H0 := Lib.hid h
  clear h
  go_enter Try.func16, Try.ntmps16
  go_wp2_with fail
  refine (isWidth_is _ _ H0.out _).mono ?_
  rintro e w' ⟨rfl, rfl⟩
  go_wp2_with fail
  refine (narrow_yes _ _ H0.out _).mono ?_
  rintro e w' ⟨rfl, rfl⟩
  go_wp2_with fail
  go_ret
  exact ⟨rfl, rfl⟩
theorem ones_any (x : Nat) (hx : x < 18446744073709551616) (w : World) :
    Calls Try.prog 26 #[.int .u64 x] w fun e w' => e = .returned (.int .i64 (pop x : Nat)) ∧ w = w' := by
  have HV := Lib.hid (pop_val x hx)
  go_enter Try.func26, Try.ntmps26
  go_wp2_with fail
  go_ret
  exact ⟨ret_int HV.out, rfl⟩
theorem count_any (x : Nat) (hx : x < 18446744073709551616) (w : World) :
    Calls Try.prog 18 #[.int .u64 x] w fun e w' => e = .returned (.int .i64 (pop x : Nat)) ∧ w = w' := by
  go_enter Try.func18, Try.ntmps18
  go_wp2_with fail
  refine (ones_any x hx _).mono ?_
  rintro e w' ⟨rfl, rfl⟩
  go_wp2_with fail
  go_ret
  exact ⟨rfl, rfl⟩
end Go.Proofs.Ytccabmlhlpmhbaa
