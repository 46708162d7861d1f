/- Contracts of package bits. -/
import Derived.Test.YtccabmlhlpmhbaaDoorRows
import Derived.Test.YtccabmlhlpmhbaaDoorBitsMath
import Derived.Test.YtccabmlhlpmhbaaDoorBitsPop
import Derived.WalkKit
import Derived.WalkSpells
import Derived.WalkLawsBesides
import Derived.Lib.Hide
import Derived.BigQuiet
import Derived.Deep.QuietTactic
namespace Go.Proofs.YtccabmlhlpmhbaaDoor
open Go.RowKit Bx

theorem isMember_is (i : Int) (b : Bool) (hb : memB i = b) (w : World) :
    Calls Tryd.prog 14 #[.int .i64 i] w fun e w' => e = .returned (.bool b) ∧ w = w' := by
  by_cases h0 : 0 ≤ i
  · have hb' : decide (i < 64) = b := by simpa [memB, h0] using hb
    go_enter Tryd.func14, Tryd.ntmps14
    go_wp2
    go_ret
    exact ⟨rfl, rfl⟩
  · obtain rfl : b = false := by simpa [memB, h0] using hb.symm
    clear hb
    go_enter Tryd.func14, Tryd.ntmps14
    go_wp2
    go_ret
    exact ⟨rfl, rfl⟩
theorem isWidth_is (n : Int) (b : Bool) (hb : widB n = b) (w : World) :
    Calls Tryd.prog 18 #[.int .i64 n] w fun e w' => e = .returned (.bool b) ∧ w = w' := by
  by_cases h0 : 1 ≤ n
  · have hb' : decide (n ≤ 64) = b := by simpa [widB, h0] using hb
    go_enter Tryd.func18, Tryd.ntmps18
    go_wp2
    go_ret
    exact ⟨rfl, rfl⟩
  · obtain rfl : b = false := by simpa [widB, h0] using hb.symm
    clear hb
    go_enter Tryd.func18, Tryd.ntmps18
    go_wp2
    go_ret
    exact ⟨rfl, rfl⟩
theorem below_any (n : Int) (w : World) :
    Calls Tryd.prog 19 #[.int .i64 n] w fun e w' => e = .returned (.int .u64 (mask (clamp n) : Nat)) ∧ w = w' := by
  rcases (show n < 0 ∨ 64 < n ∨ (0 ≤ n ∧ n ≤ 64) by omega) with h | h | ⟨h, h'⟩
  · have H := Lib.hid (below_lo n h)
    go_enter Tryd.func19, Tryd.ntmps19
    go_wp2
    all_goals go_ret
    all_goals exact ⟨ret_int H.out, rfl⟩
  · have H := Lib.hid (below_hi n h)
    go_enter Tryd.func19, Tryd.ntmps19
    go_wp2
    all_goals go_ret
    all_goals exact ⟨ret_int H.out, rfl⟩
  · have H := Lib.hid (below_mid n h h')
    go_enter Tryd.func19, Tryd.ntmps19
    go_wp2
    all_goals go_ret
    all_goals exact ⟨ret_int H.out, rfl⟩
theorem has_is (x : Nat) (hx : x < 18446744073709551616) (i : Int) (w : World) :
    Calls Tryd.prog 6 #[.int .u64 x, .int .i64 i] w fun e w' => e = .returned (.bool (memB i && x.testBit i.toNat)) ∧ w = w' := by
  by_cases h0 : memB i = true
  · obtain ⟨h1, h2⟩ := memB_true h0
    obtain ⟨k, rfl⟩ := Int.eq_ofNat_of_zero_le h1
    rw [h0, Bool.true_and, Int.toNat_natCast]
    have H0 := Lib.hid h0
    clear h0
    go_enter Tryd.func6, Tryd.ntmps6
    go_wp2_with fail
    refine (isMember_is _ _ H0.out _).mono ?_
    rintro e w' ⟨rfl, rfl⟩
    go_wp2
    go_ret
    exact ⟨ret_bool (has_bit x hx k), rfl⟩
  · have h1 : memB i = false := by simpa using h0
    rw [h1, Bool.false_and]
    have H0 := Lib.hid h1
    clear h0 h1
    go_enter Tryd.func6, Tryd.ntmps6
    go_wp2_with fail
    refine (isMember_is _ _ H0.out _).mono ?_
    rintro e w' ⟨rfl, rfl⟩
    go_wp2
    go_ret
    exact ⟨rfl, rfl⟩
theorem span_any (a b : Int) (w : World) :
    Calls Tryd.prog 13 #[.int .i64 a, .int .i64 b] w fun e w' => e = .returned (.int .u64 (spanB a b : Nat)) ∧ w = w' := by
  have HV := Lib.hid (span_val a b)
  go_enter Tryd.func13, Tryd.ntmps13
  go_wp2_with fail
  refine (below_any _ _).mono ?_
  rintro e w' ⟨rfl, rfl⟩
  go_wp2_with fail
  refine (below_any _ _).mono ?_
  rintro e w' ⟨rfl, rfl⟩
  go_wp2_with fail
  go_ret
  exact ⟨ret_int HV.out, rfl⟩
theorem narrow_no (x n : Int) (h : widB n = false) (w : World) :
    Calls Tryd.prog 12 #[.int .i64 x, .int .i64 n] w fun e w' => e = .returned (.int .i64 x) ∧ w = w' := by
  have H0 := Lib.hid h
  clear h
  go_enter Tryd.func12, Tryd.ntmps12
  go_wp2_with fail
  refine (isWidth_is _ _ H0.out _).mono ?_
  rintro e w' ⟨rfl, rfl⟩
  go_wp2_with fail
  go_ret
  exact ⟨rfl, rfl⟩
theorem narrow_yes (x n : Int) (h : widB n = true) (w : World) :
    Calls Tryd.prog 12 #[.int .i64 x, .int .i64 n] w fun e w' => e = .returned (.int .i64 (narrowV x n)) ∧ w = w' := by
  obtain ⟨h1, h2⟩ := widB_true h
  have H0 := Lib.hid h
  clear h
  go_enter Tryd.func12, Tryd.ntmps12
  go_wp2_with fail
  refine (isWidth_is _ _ H0.out _).mono ?_
  rintro e w' ⟨rfl, rfl⟩
  go_wp2_with fail
  go_ret
  exact ⟨rfl, rfl⟩
theorem ones_any (x : Nat) (hx : x < 18446744073709551616) (w : World) :
    Calls Tryd.prog 15 #[.int .u64 x] w fun e w' => e = .returned (.int .i64 (pop x : Nat)) ∧ w = w' := by
  have HV := Lib.hid (pop_val x hx)
  go_enter Tryd.func15, Tryd.ntmps15
  go_wp2_with fail
  go_ret
  exact ⟨ret_int HV.out, rfl⟩
theorem count_any (x : Nat) (hx : x < 18446744073709551616) (w : World) :
    Calls Tryd.prog 7 #[.int .u64 x] w fun e w' => e = .returned (.int .i64 (pop x : Nat)) ∧ w = w' := by
  go_enter Tryd.func7, Tryd.ntmps7
  go_wp2_with fail
  refine (ones_any x hx _).mono ?_
  rintro e w' ⟨rfl, rfl⟩
  go_wp2_with fail
  go_ret
  exact ⟨rfl, rfl⟩
end Go.Proofs.YtccabmlhlpmhbaaDoor
