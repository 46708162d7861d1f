/- Layer 3: the landed code's Short, Pair, Halves. -/
import Derived.Test.YtbnmajajnjphpaaDoorPackMath
import Derived.Test.YtbnmajajnjphpaaDoorPackSaid
import Derived.Test.YtbnmajajnjphpaaDoorBitsCode
import Derived.Laws.BitsAllLaws
namespace Go.Proofs.YtbnmajajnjphpaaDoor
open Go.RowKit Px Bx
set_option maxHeartbeats 400000 in
theorem short_is (n : Int) (w : World) (h0 : -9223372036854775808 ≤ n) (h1 : n ≤ 9223372036854775807) :
    Calls Tryd.prog 15 #[.int .i64 n] w fun e w' => e = .returned (.int .i16 (sat n)) ∧ w = w' := by
  go_enter Tryd.func15, Tryd.ntmps15
  go_wp2_with fail
  all_goals go_ret
  all_goals exact ⟨ret_int (by unfold sat; omega), rfl⟩
theorem pair_or (a b : Int) : bits .or .u32 (IntKind.u16.wrap a % 4294967296 * 65536 % 4294967296) (IntKind.u16.wrap b % 4294967296) = pairV a b := by
  have e1 : IntKind.u16.wrap a = ((a + 65536) % 65536 : Int) := by rw [IntKind.wrap_u16]; omega
  have e2 : IntKind.u16.wrap b = ((b + 65536) % 65536 : Int) := by rw [IntKind.wrap_u16]; omega
  obtain ⟨p, hp⟩ := Int.eq_ofNat_of_zero_le (show 0 ≤ (a + 65536) % 65536 by omega)
  obtain ⟨q, hq⟩ := Int.eq_ofNat_of_zero_le (show 0 ≤ (b + 65536) % 65536 by omega)
  have hp1 : p < 65536 := by omega
  have hq1 : q < 65536 := by omega
  unfold pairV
  rw [e1, e2, hp, hq, show (p : Int) % 4294967296 * 65536 % 4294967296 = ((2 ^ 16 * p : Nat) : Int) by omega, show (q : Int) % 4294967296 = (q : Int) by omega,
    u32_or_nat _ _ (by omega) (by omega), ← Nat.two_pow_add_eq_or_of_lt (i := 16) (by omega)]
  omega
theorem wrap_sgn (x : Int) : IntKind.i16.wrap x = sgn (x % 65536) := by
  simp only [IntKind.wrap, IntKind.bits, IntKind.signed]; unfold sgn; simp; omega
set_option maxHeartbeats 400000 in
theorem pair_is (a b : Int) (w : World) (ha : -32768 ≤ a ∧ a ≤ 32767) (hb : -32768 ≤ b ∧ b ≤ 32767) :
    Calls Tryd.prog 16 #[.int .i16 a, .int .i16 b] w fun e w' => e = .returned (.int .u32 (pairV a b)) ∧ w = w' := by
  obtain ⟨a0, a1⟩ := ha
  obtain ⟨b0, b1⟩ := hb
  go_enter Tryd.func16, Tryd.ntmps16
  go_wp2_with fail
  go_ret
  exact ⟨ret_int (pair_or a b), rfl⟩
set_option maxHeartbeats 400000 in
theorem halves_is (x : Int) (w : World) (h0 : 0 ≤ x) (h1 : x < 4294967296) :
    Calls Tryd.prog 17 #[.int .u32 x] w fun e w' => e = .returned (.tuple #[.int .i16 (sgn (x / 65536)), .int .i16 (sgn (x % 65536))]) ∧ w = w' := by
  have HW := Lib.hid (show IntKind.i16.wrap (x / 65536) = sgn (x / 65536) by rw [wrap_sgn]; congr 1; omega)
  go_enter Tryd.func17, Tryd.ntmps17
  go_wp2_with fail
  go_ret2
  exact ⟨by rw [← wrap_sgn, ← HW.out]; rfl, rfl⟩
end Go.Proofs.YtbnmajajnjphpaaDoor
