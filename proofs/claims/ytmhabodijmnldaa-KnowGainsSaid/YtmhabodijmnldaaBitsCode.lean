/- Contracts of package bits. -/
import Derived.Test.YtmhabodijmnldaaRows
import Derived.Test.YtmhabodijmnldaaBitsMath
import Derived.Test.YtmhabodijmnldaaBitsPop
import Derived.WalkKit
import Derived.WalkSpells
import Derived.WalkLawsBesides
import Derived.Lib.Hide
import Derived.BigQuiet
import Derived.Deep.QuietTactic
namespace Go.Proofs.Ytmhabodijmnldaa
open Go.RowKit Bx

theorem isMember_is (i : Int) (b : Bool) (hb : memB i = b) (w : World) :
    Calls Try.prog 29 #[.int .i64 i] w fun e w' => e = .returned (.bool b) ∧ w = w' := by
  by_cases h0 : 0 ≤ i
  · have hb' : decide (i < 64) = b := by simpa [memB, h0] using hb
    go_enter Try.func29, Try.ntmps29
    go_wp2
    go_ret
    exact ⟨rfl, rfl⟩
  · obtain rfl : b = false := by simpa [memB, h0] using hb.symm
    clear hb
    go_enter Try.func29, Try.ntmps29
    go_wp2
    go_ret
    exact ⟨rfl, rfl⟩
theorem has_is (x : Nat) (hx : x < 18446744073709551616) (i : Int) (w : World) :
    Calls Try.prog 23 #[.int .u64 x, .int .i64 i] w fun e w' => e = .returned (.bool (memB i && x.testBit i.toNat)) ∧ w = w' := by
  by_cases h0 : memB i = true
  · obtain ⟨h1, h2⟩ := memB_true h0
    obtain ⟨k, rfl⟩ := Int.eq_ofNat_of_zero_le h1
    rw [h0, Bool.true_and, Int.toNat_natCast]
    have H0 := Lib.hid h0
    clear h0
    go_enter Try.func23, Try.ntmps23
    go_wp2_with fail
    refine (isMember_is _ _ H0.out _).mono ?_
    rintro e w' ⟨rfl, rfl⟩
    go_wp2
    go_ret
    exact ⟨ret_bool (has_bit x hx k), rfl⟩
  · have h1 : memB i = false := by simpa using h0
    rw [h1, Bool.false_and]
    have H0 := Lib.hid h1
    clear h0 h1
    go_enter Try.func23, Try.ntmps23
    go_wp2_with fail
    refine (isMember_is _ _ H0.out _).mono ?_
    rintro e w' ⟨rfl, rfl⟩
    go_wp2
    go_ret
    exact ⟨rfl, rfl⟩
end Go.Proofs.Ytmhabodijmnldaa
