/- Layer 15: the lowest two bits of a number in 64 bits (two's complement): what or, and, and-not make of them. -/
import Derived.Test.YtmhabodijmnldaaKwMath
namespace Go.Proofs.Ytmhabodijmnldaa
open Go.RowKit Ex
set_option maxRecDepth 100000
theorem bv_nat (x : Int) : ((BitVec.ofInt 64 x).toNat : Int) = x % 18446744073709551616 := by
  rw [BitVec.toNat_ofInt]; omega
theorem or4 (a b : Nat) (hb : b < 4) : a ||| b = 4 * (a / 4) + (a % 4 ||| b) := by
  have h1 : (a ||| b) / 4 = a / 4 := by
    have := Nat.or_div_two_pow (a := a) (b := b) (n := 2)
    rw [show (2 : Nat) ^ 2 = 4 from rfl, Nat.div_eq_of_lt hb, Nat.or_zero] at this
    exact this
  have h2 : (a ||| b) % 4 = a % 4 ||| b := by
    have := Nat.or_mod_two_pow (a := a) (b := b) (n := 2)
    rw [show (2 : Nat) ^ 2 = 4 from rfl, Nat.mod_eq_of_lt hb] at this
    exact this
  omega
theorem and4 (a b : Nat) : a &&& b = 4 * (a / 4 &&& b / 4) + (a % 4 &&& b % 4) := by
  have h1 : (a &&& b) / 4 = a / 4 &&& b / 4 := by
    have := Nat.and_div_two_pow (a := a) (b := b) (n := 2)
    rw [show (2 : Nat) ^ 2 = 4 from rfl] at this
    exact this
  have h2 : (a &&& b) % 4 = a % 4 &&& b % 4 := by
    have := Nat.and_mod_two_pow (a := a) (b := b) (n := 2)
    rw [show (2 : Nat) ^ 2 = 4 from rfl] at this
    exact this
  omega
theorem fin4 {P : Nat → Prop} (h0 : P 0) (h1 : P 1) (h2 : P 2) (h3 : P 3) (a : Nat) (h : a < 4) : P a := by
  have : a = 0 ∨ a = 1 ∨ a = 2 ∨ a = 3 := by omega
  rcases this with rfl | rfl | rfl | rfl <;> assumption
/-- The lowest two bits. -/
theorem and_three (x : Int) : bits .and .i64 x 3 = x % 4 := by
  show IntKind.i64.wrap (((BitVec.ofInt 64 x &&& BitVec.ofInt 64 3).toNat : Nat) : Int) = _
  rw [BitVec.toNat_and, and4, show (BitVec.ofInt 64 3).toNat = 3 from rfl, Nat.and_zero, IntKind.wrap_i64]
  have hx := bv_nat x
  generalize (BitVec.ofInt 64 x).toNat = u at *
  have hu : u % 4 &&& 3 % 4 = u % 4 := fin4 (P := fun a => a &&& 3 % 4 = a) rfl rfl rfl rfl _ (Nat.mod_lt _ (by decide))
  rw [hu]
  omega
theorem three_and (x : Int) : bits .and .i64 3 x = x % 4 := by
  rw [← and_three]
  show IntKind.i64.wrap (((BitVec.ofInt 64 3 &&& BitVec.ofInt 64 x).toNat : Nat) : Int) = IntKind.i64.wrap (((BitVec.ofInt 64 x &&& BitVec.ofInt 64 3).toNat : Nat) : Int)
  rw [BitVec.toNat_and, BitVec.toNat_and, Nat.and_comm]
theorem bits_low (x : Int) : bitK x 0 = decide (x % 4 = 1 ∨ x % 4 = 3) ∧ bitK x 1 = decide (x % 4 = 2 ∨ x % 4 = 3) := by
  rw [bit0, bit1, decide_eq_decide, decide_eq_decide]
  constructor <;> omega
theorem low4 (x : Int) : x % 4 = 0 ∨ x % 4 = 1 ∨ x % 4 = 2 ∨ x % 4 = 3 := by omega
theorem bitK_shift (x k p : Int) : bitK (x + 4 * k) p = bitK x p := by
  unfold bitK
  have h1 : decide ((x + 4 * k) % 2 = 1) = decide (x % 2 = 1) := by rw [decide_eq_decide]; omega
  have h2 : decide ((x + 4 * k) / 2 % 2 = 1) = decide (x / 2 % 2 = 1) := by rw [decide_eq_decide]; omega
  rw [h1, h2]
theorem chg1_shift (x ps k m p : Int) (is : Bool) : chg1 (x + 4 * k) (ps + 4 * m) is p = chg1 x ps is p + 4 * k := by
  unfold chg1
  rw [bitK_shift, bitK_shift]
  split
  · split <;> omega
  · rfl
theorem chg_low (x ps : Int) (is : Bool) (a b : Int) (ha : x % 4 = a) (hb : ps % 4 = b) : chgK x ps is = x - a + chgK a b is := by
  have e1 : x = a + 4 * (x / 4) := by omega
  have e2 : ps = b + 4 * (ps / 4) := by omega
  have h : chgK x ps is = chgK (a + 4 * (x / 4)) (b + 4 * (ps / 4)) is := by rw [← e1, ← e2]
  rw [h]
  unfold chgK
  rw [chg1_shift, chg1_shift]
  omega
/-- Or, as a sum. -/
theorem or_chg (x ps : Int) (hx : N64 x) : bits .or .i64 x (ps % 4) = chgK x ps true := by
  have hb : 0 ≤ ps % 4 ∧ ps % 4 < 4 := by omega
  rw [chg_low x ps true (x % 4) (ps % 4) rfl rfl]
  obtain ⟨b, hbe⟩ : ∃ b : Nat, ps % 4 = (b : Int) := ⟨(ps % 4).toNat, by omega⟩
  rw [hbe] at hb ⊢
  have hb4 : b < 4 := by omega
  show IntKind.i64.wrap (((BitVec.ofInt 64 x ||| BitVec.ofInt 64 (b : Int)).toNat : Nat) : Int) = _
  have hbn : (BitVec.ofInt 64 (b : Int)).toNat = b := by have := bv_nat (b : Int); omega
  rw [BitVec.toNat_or, hbn, or4 _ _ hb4, IntKind.wrap_i64]
  have hxu := bv_nat x
  generalize (BitVec.ofInt 64 x).toNat = u at *
  obtain ⟨a, hae⟩ : ∃ a : Nat, x % 4 = (a : Int) := ⟨(x % 4).toNat, by omega⟩
  have hau : u % 4 = a := by omega
  rw [hae, hau]
  have ha4 : a < 4 := by omega
  obtain ⟨h0, h1⟩ := hx
  have key : ∀ a < 4, ∀ b < 4, (((a ||| b : Nat) : Int) = chgK (a : Int) (b : Int) true) ∧ a ≤ (a ||| b) ∧ (a ||| b) < 4 := by decide
  obtain ⟨k1, k2, k3⟩ := key a ha4 b hb4
  rw [← k1]
  generalize a ||| b = c at *
  omega
/-- And-not, as a difference. -/
theorem andNot_chg (x ps : Int) (hx : N64 x) : bits .andNot .i64 x (ps % 4) = chgK x ps false := by
  have hb : 0 ≤ ps % 4 ∧ ps % 4 < 4 := by omega
  rw [chg_low x ps false (x % 4) (ps % 4) rfl rfl]
  obtain ⟨b, hbe⟩ : ∃ b : Nat, ps % 4 = (b : Int) := ⟨(ps % 4).toNat, by omega⟩
  rw [hbe] at hb ⊢
  have hb4 : b < 4 := by omega
  show IntKind.i64.wrap (((BitVec.ofInt 64 x &&& ~~~(BitVec.ofInt 64 (b : Int))).toNat : Nat) : Int) = _
  have hbn : (BitVec.ofInt 64 (b : Int)).toNat = b := by have := bv_nat (b : Int); omega
  have hxu := bv_nat x
  have hul := (BitVec.ofInt 64 x).isLt
  rw [BitVec.toNat_and, BitVec.toNat_not, hbn, and4, IntKind.wrap_i64]
  generalize (BitVec.ofInt 64 x).toNat = u at *
  rw [show (2 ^ 64 - 1 - b) / 4 = 2 ^ 62 - 1 by omega, show (2 ^ 64 - 1 - b) % 4 = 3 - b by omega, Nat.and_two_pow_sub_one_eq_mod, Nat.mod_eq_of_lt (by omega)]
  obtain ⟨a, hae⟩ : ∃ a : Nat, x % 4 = (a : Int) := ⟨(x % 4).toNat, by omega⟩
  have hau : u % 4 = a := by omega
  rw [hae, hau]
  have ha4 : a < 4 := by omega
  obtain ⟨h0, h1⟩ := hx
  have key : ∀ a < 4, ∀ b < 4, (((a &&& (3 - b) : Nat) : Int) = chgK (a : Int) (b : Int) false) ∧ (a &&& (3 - b)) ≤ a := by decide
  obtain ⟨k1, k2⟩ := key a ha4 b hb4
  rw [← k1]
  generalize a &&& (3 - b) = c at *
  omega
theorem more_low (c d a b : Int) (ha : d % 4 = a) (hb : c % 4 = b) : moreK c d = moreK b a := by
  have h1 : bitK d 0 = bitK a 0 := by rw [(bits_low _).1, (bits_low _).1, decide_eq_decide]; omega
  have h2 : bitK d 1 = bitK a 1 := by rw [(bits_low _).2, (bits_low _).2, decide_eq_decide]; omega
  have h3 : bitK c 0 = bitK b 0 := by rw [(bits_low _).1, (bits_low _).1, decide_eq_decide]; omega
  have h4 : bitK c 1 = bitK b 1 := by rw [(bits_low _).2, (bits_low _).2, decide_eq_decide]; omega
  unfold moreK
  rw [h1, h2, h3, h4]
/-- A player more knows by d than by c. -/
theorem andNot_more (c d : Int) : (!(bits .andNot .i64 (d % 4) c == 0)) = moreK c d := by
  obtain ⟨a, hae⟩ : ∃ a : Nat, d % 4 = (a : Int) := ⟨(d % 4).toNat, by omega⟩
  obtain ⟨b, hbe⟩ : ∃ b : Nat, c % 4 = (b : Int) := ⟨(c % 4).toNat, by omega⟩
  rw [more_low c d a b hae hbe, hae]
  have ha4 : a < 4 := by omega
  have hb4 : b < 4 := by omega
  show (!(IntKind.i64.wrap (((BitVec.ofInt 64 (a : Int) &&& ~~~(BitVec.ofInt 64 c)).toNat : Nat) : Int) == 0)) = _
  have han : (BitVec.ofInt 64 (a : Int)).toNat = a := by have := bv_nat (a : Int); omega
  have hcu := bv_nat c
  have hul := (BitVec.ofInt 64 c).isLt
  rw [BitVec.toNat_and, BitVec.toNat_not, han, and4, IntKind.wrap_i64, Nat.div_eq_of_lt ha4, Nat.zero_and]
  generalize (BitVec.ofInt 64 c).toNat = u at *
  rw [show (2 ^ 64 - 1 - u) % 4 = 3 - b by omega, Nat.mod_eq_of_lt ha4]
  have key : ∀ a < 4, ∀ b < 4, ((!(((a &&& (3 - b) : Nat) : Int) == 0)) = moreK (b : Int) (a : Int)) ∧ (a &&& (3 - b)) < 4 := by decide
  obtain ⟨k1, k2⟩ := key a ha4 b hb4
  rw [← k1]
  generalize a &&& (3 - b) = e at *
  have he : (((4 * 0 + e : Nat) : Int) + 9223372036854775808) % 18446744073709551616 - 9223372036854775808 = (e : Int) := by omega
  rw [he]
end Go.Proofs.Ytmhabodijmnldaa
