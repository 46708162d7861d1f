/- Contracts of package bits. -/
import Derived.Test.YtbnmajajnjphpaaDoorRows
import Derived.Test.YtbnmajajnjphpaaDoorBitsMath
import Derived.Test.YtbnmajajnjphpaaDoorBitsPop
import Derived.WalkKit
import Derived.WalkSpells
import Derived.WalkLawsBesides
import Derived.Lib.Hide
import Derived.BigQuiet
import Derived.Deep.QuietTactic
namespace Go.Proofs.YtbnmajajnjphpaaDoor
open Go.RowKit Bx

theorem isWidth_is (n : Int) (b : Bool) (hb : widB n = b) (w : World) :
    Calls Tryd.prog 23 #[.int .i64 n] w fun e w' => e = .returned (.bool b) ∧ w = w' := by
  by_cases h0 : 1 ≤ n
  · have hb' : decide (n ≤ 64) = b := by simpa [widB, h0] using hb
    go_enter Tryd.func23, Tryd.ntmps23
    go_wp2
    go_ret
    exact ⟨rfl, rfl⟩
  · obtain rfl : b = false := by simpa [widB, h0] using hb.symm
    clear hb
    go_enter Tryd.func23, Tryd.ntmps23
    go_wp2
    go_ret
    exact ⟨rfl, rfl⟩
theorem isPart_is (a n : Int) (b : Bool) (hb : isB a n = b) (w : World) :
    Calls Tryd.prog 21 #[.int .i64 a, .int .i64 n] w fun e w' => e = .returned (.bool b) ∧ w = w' := by
  by_cases h0 : widB n = true
  · obtain ⟨h1, h2⟩ := widB_true h0
    have H0 := Lib.hid h0
    clear h0
    by_cases h3 : 0 ≤ a
    · have hb' : decide (a ≤ 64 - n) = b := by simpa [isB, h1, h2, h3] using hb
      go_enter Tryd.func21, Tryd.ntmps21
      go_wp2_with fail
      refine (isWidth_is _ _ H0.out _).mono ?_
      rintro e w' ⟨rfl, rfl⟩
      go_wp2
      go_ret
      exact ⟨rfl, rfl⟩
    · obtain rfl : b = false := by simpa [isB, h3] using hb.symm
      clear hb
      go_enter Tryd.func21, Tryd.ntmps21
      go_wp2_with fail
      refine (isWidth_is _ _ H0.out _).mono ?_
      rintro e w' ⟨rfl, rfl⟩
      go_wp2
      go_ret
      exact ⟨rfl, rfl⟩
  · have h1 := widB_false (Bool.not_eq_true _ ▸ h0)
    have H0 := Lib.hid (Bool.not_eq_true _ ▸ h0)
    clear h0
    obtain rfl : b = false := by rw [← hb]; unfold isB; rcases h1 with h | h <;> simp <;> omega
    clear hb h1
    go_enter Tryd.func21, Tryd.ntmps21
    go_wp2_with fail
    refine (isWidth_is _ _ H0.out _).mono ?_
    rintro e w' ⟨rfl, rfl⟩
    go_wp2
    go_ret
    exact ⟨rfl, rfl⟩
theorem below_any (n : Int) (w : World) :
    Calls Tryd.prog 22 #[.int .i64 n] w fun e w' => e = .returned (.int .u64 (mask (clamp n) : Nat)) ∧ w = w' := by
  rcases (show n < 0 ∨ 64 < n ∨ (0 ≤ n ∧ n ≤ 64) by omega) with h | h | ⟨h, h'⟩
  · have H := Lib.hid (below_lo n h)
    go_enter Tryd.func22, Tryd.ntmps22
    go_wp2
    all_goals go_ret
    all_goals exact ⟨ret_int H.out, rfl⟩
  · have H := Lib.hid (below_hi n h)
    go_enter Tryd.func22, Tryd.ntmps22
    go_wp2
    all_goals go_ret
    all_goals exact ⟨ret_int H.out, rfl⟩
  · have H := Lib.hid (below_mid n h h')
    go_enter Tryd.func22, Tryd.ntmps22
    go_wp2
    all_goals go_ret
    all_goals exact ⟨ret_int H.out, rfl⟩
theorem part_yes (x : Nat) (hx : x < 18446744073709551616) (a n : Int) (h : isB a n = true) (w : World) :
    Calls Tryd.prog 20 #[.int .u64 x, .int .i64 a, .int .i64 n] w fun e w' => e = .returned (.int .u64 (partB x a.toNat n.toNat : Nat)) ∧ ∃ m, w' = w.drewN m := by
  obtain ⟨h1, h2, h3, h4⟩ := isB_true h
  have H0 := Lib.hid h
  clear h
  obtain ⟨k, rfl⟩ := Int.eq_ofNat_of_zero_le h1
  have HV := Lib.hid (part_val x hx k n h2 h3)
  go_enter Tryd.func20, Tryd.ntmps20
  go_wp2_with fail
  refine (isPart_is _ _ _ H0.out _).mono ?_
  rintro e w' ⟨rfl, rfl⟩
  go_wp2_with fail
  go_quiet ((go_at_call 22; exact quietL (below_any _ _)))
  go_wp2_with fail
  go_ret
  exact ⟨ret_int HV.out, _, rfl⟩
theorem part_no (x : Nat) (a n : Int) (h : isB a n = false) (w : World) :
    Calls Tryd.prog 20 #[.int .u64 x, .int .i64 a, .int .i64 n] w fun e w' => e = .returned (.int .u64 0) ∧ ∃ m, w' = w.drewN m := by
  have H0 := Lib.hid h
  clear h
  go_enter Tryd.func20, Tryd.ntmps20
  go_wp2_with fail
  refine (isPart_is _ _ _ H0.out _).mono ?_
  rintro e w' ⟨rfl, rfl⟩
  go_wp2_with fail
  go_ret
  exact ⟨rfl, 0, rfl⟩
theorem put_range (x p a n : Int) (h : isB a n = false) (w : World) :
    Calls Tryd.prog 18 #[.int .u64 x, .int .i64 a, .int .i64 n, .int .u64 p] w fun e w' => e = .returned (.tuple #[.int .u64 0, .iface 54 (.int .i64 1)]) ∧ ∃ m, w' = w.drewN m := by
  have H0 := Lib.hid h
  clear h
  go_enter Tryd.func18, Tryd.ntmps18
  go_wp2_with fail
  refine (isPart_is _ _ _ H0.out _).mono ?_
  rintro e w' ⟨rfl, rfl⟩
  go_wp2_with fail
  go_ret2
  exact ⟨rfl, 0, rfl⟩
theorem put_form (x a n : Int) (p : Nat) (hp : mask (clamp n) < p) (h : isB a n = true) (w : World) :
    Calls Tryd.prog 18 #[.int .u64 x, .int .i64 a, .int .i64 n, .int .u64 p] w fun e w' => e = .returned (.tuple #[.int .u64 0, .iface 54 (.int .i64 2)]) ∧ ∃ m, w' = w.drewN m := by
  have H0 := Lib.hid h
  clear h
  go_enter Tryd.func18, Tryd.ntmps18
  go_wp2_with fail
  refine (isPart_is _ _ _ H0.out _).mono ?_
  rintro e w' ⟨rfl, rfl⟩
  go_wp2_with fail
  refine (below_any _ _).mono ?_
  rintro e w' ⟨rfl, rfl⟩
  go_wp2_with fail
  go_ret2
  exact ⟨rfl, 0, rfl⟩
theorem put_yes (x : Nat) (hx : x < 18446744073709551616) (a n : Int) (p : Nat) (hp : p ≤ mask (clamp n)) (h : isB a n = true) (w : World) :
    Calls Tryd.prog 18 #[.int .u64 x, .int .i64 a, .int .i64 n, .int .u64 p] w fun e w' => e = .returned (.tuple #[.int .u64 (putB x a.toNat n.toNat p : Nat), .nilIface]) ∧ ∃ m, w' = w.drewN m := by
  obtain ⟨h1, h2, h3, h4⟩ := isB_true h
  have H0 := Lib.hid h
  clear h
  obtain ⟨k, rfl⟩ := Int.eq_ofNat_of_zero_le h1
  have HV := Lib.hid (put_val x hx k n p hp h2 h3 h4)
  go_enter Tryd.func18, Tryd.ntmps18
  go_wp2_with fail
  refine (isPart_is _ _ _ H0.out _).mono ?_
  rintro e w' ⟨rfl, rfl⟩
  go_wp2_with fail
  refine (below_any _ _).mono ?_
  rintro e w' ⟨rfl, rfl⟩
  go_wp2_with fail
  go_quiet ((go_at_call 22; exact quietL (below_any _ _)))
  go_wp2_with fail
  go_ret2
  exact ⟨ret_int_nil HV.out, _, rfl⟩
end Go.Proofs.YtbnmajajnjphpaaDoor
