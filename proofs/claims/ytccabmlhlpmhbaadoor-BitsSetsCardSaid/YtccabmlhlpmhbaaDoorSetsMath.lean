/- The least one and how many, reckoned from the top down; the table of the lowest bit. -/
import Derived.Test.YtccabmlhlpmhbaaDoorBitsPop
import Derived.Lib.TrailingZeros
namespace Go.Proofs.YtccabmlhlpmhbaaDoor
namespace Bx
open Go.RowKit

theorem sumf_first (f : Nat → Nat) (n : Nat) : sumf f (n + 1) = f 0 + sumf (fun i => f (i + 1)) n := by
  induction n with
  | zero => simp [sumf]
  | succ n ih =>
    have e : sumf f (n + 1 + 1) = sumf f (n + 1) + f (n + 1) := rfl
    rw [e, ih]; simp only [sumf]; omega
/-- How many of the d highest bits are set. -/
def cnt (x : Nat) : Nat → Nat
  | 0 => 0
  | d + 1 => cnt x d + (x.testBit (63 - d)).toNat
/-- The least one among the d highest, -1 if there is none. -/
def lst (x : Nat) : Nat → Int
  | 0 => -1
  | d + 1 => if x.testBit (63 - d) then ((63 - d : Nat) : Int) else lst x d
theorem cnt_eq (x d : Nat) (h : d ≤ 64) : cnt x d = sumf (fun i => (x.testBit (64 - d + i)).toNat) d := by
  induction d with
  | zero => rfl
  | succ d ih =>
    have e : cnt x (d + 1) = cnt x d + (x.testBit (63 - d)).toNat := rfl
    rw [e, ih (by omega), sumf_first, Nat.add_comm]
    congr 1
    · rw [show 64 - (d + 1) + 0 = 63 - d by omega]
    · apply sumf_congr; intro i hi; rw [show 64 - (d + 1) + (i + 1) = 64 - d + i by omega]
theorem cnt_all (x : Nat) : cnt x 64 = pop x := by
  rw [cnt_eq x 64 (by omega)]; unfold pop
  apply sumf_congr; intro i hi; rw [show 64 - 64 + i = i by omega]
theorem cnt_le (x d : Nat) : cnt x d ≤ d := by
  induction d with
  | zero => exact Nat.le_refl 0
  | succ d ih => simp only [cnt]; have : (x.testBit (63 - d)).toNat ≤ 1 := by cases x.testBit (63 - d) <;> decide
                 omega
theorem ctz_bit (x : Nat) (h0 : x ≠ 0) (hx : x < 2 ^ 64) : Lib.ctz 64 x < 64 ∧ x.testBit (Lib.ctz 64 x) = true ∧ ∀ i, i < Lib.ctz 64 x → x.testBit i = false := by
  obtain ⟨m, hm, hk⟩ := Lib.ctzFrom_spec 64 x (by omega) hx
  have e : Lib.ctz 64 x = Lib.ctzFrom 64 x := by simp [Lib.ctz, h0]
  rw [← e] at hm hk
  generalize Lib.ctz 64 x = c at *
  refine ⟨hk, ?_, fun i hi => ?_⟩
  · rw [hm, Nat.testBit_two_pow_mul]
    simp [Nat.testBit_zero]
  · rw [hm, Nat.testBit_two_pow_mul]
    simp; omega
/-- What Least answers. -/
def leastV (x : Nat) : Int := if x = 0 then -1 else ((Lib.ctz 64 x : Nat) : Int)
theorem lst_zero (d : Nat) : lst 0 d = -1 := by
  induction d with
  | zero => rfl
  | succ d ih => simp [lst, ih]
theorem lst_from (x c : Nat) (hc : c < 64) (h1 : x.testBit c = true) (h2 : ∀ i, i < c → x.testBit i = false) : ∀ d, 64 - c ≤ d → d ≤ 64 → lst x d = (c : Int) := by
  intro d
  induction d with
  | zero => intro h _; omega
  | succ d ih =>
    intro h h'
    simp only [lst]
    by_cases e : 63 - d = c
    · rw [e, h1]; simp
    · rw [h2 (63 - d) (by omega)]; simp only [Bool.false_eq_true, if_false]; exact ih (by omega) (by omega)
theorem lst_all (x : Nat) (hx : x < 2 ^ 64) : lst x 64 = leastV x := by
  unfold leastV
  by_cases h0 : x = 0
  · rw [if_pos h0, h0, lst_zero]
  · rw [if_neg h0]
    obtain ⟨h1, h2, h3⟩ := ctz_bit x h0 hx
    exact lst_from x _ h1 h2 h3 64 (by omega) (by omega)
/-- The product's top bits, at the lowest bit of x. -/
theorem tz_key (x c : Nat) (hx : x < 18446744073709551616) (hx0 : x ≠ 0) (hlow : x &&& (18446744073709551616 - x) = 2 ^ c) :
    IntKind.u64.wrap (bits .and .u64 (x : Int) (IntKind.u64.wrap (-(x : Int))) * 285870213051353865) / 288230376151711744 = ((2 ^ c * 285870213051353865 % 18446744073709551616 / 288230376151711744 : Nat) : Int) := by
  have e1 : IntKind.u64.wrap (-(x : Int)) = ((18446744073709551616 - x : Nat) : Int) := by rw [IntKind.wrap_u64]; omega
  rw [e1, u64_and_nat x _ hx (by omega), hlow, IntKind.wrap_u64]
  generalize 2 ^ c = q at *
  omega

/-- With and without a number, by bits. -/
theorem or_val (x : Nat) (hx : x < 18446744073709551616) (k : Nat) (hk : k < 64) :
    bits .or .u64 (x : Int) (IntKind.u64.wrap (2 ^ k)) = ((setB x (k : Int) true : Nat) : Int) := by
  have h2 : 2 ^ k < 18446744073709551616 := Nat.lt_of_lt_of_le (Nat.pow_lt_pow_right (by omega) hk) (by decide : 2 ^ 64 ≤ 18446744073709551616)
  have e : IntKind.u64.wrap (2 ^ k) = ((2 ^ k : Nat) : Int) := by
    rw [IntKind.wrap_u64, show (2 : Int) ^ k = ((2 ^ k : Nat) : Int) by simp]
    generalize 2 ^ k = q at *
    omega
  rw [e, u64_or_nat _ _ hx h2]
  congr 1
  apply ext64 (Nat.or_lt_two_pow (n := 64) hx h2) (numB_lt _ _)
  intro i hi
  rw [Nat.testBit_or, Nat.testBit_two_pow]
  rw [testBit_numB]
  by_cases h : i = k
  · subst h; simp [hi]
  · simp [hi, show ¬ ((i : Int) = (k : Int)) by omega, show ¬ k = i from fun e => h e.symm]
theorem andNot_val (x : Nat) (hx : x < 18446744073709551616) (k : Nat) (hk : k < 64) :
    bits .andNot .u64 (x : Int) (IntKind.u64.wrap (2 ^ k)) = ((setB x (k : Int) false : Nat) : Int) := by
  have h2 : 2 ^ k < 18446744073709551616 := Nat.lt_of_lt_of_le (Nat.pow_lt_pow_right (by omega) hk) (by decide : 2 ^ 64 ≤ 18446744073709551616)
  have e : IntKind.u64.wrap (2 ^ k) = ((2 ^ k : Nat) : Int) := by
    rw [IntKind.wrap_u64, show (2 : Int) ^ k = ((2 ^ k : Nat) : Int) by simp]
    generalize 2 ^ k = q at *
    omega
  rw [e, u64_andNot_nat _ _ hx h2]
  congr 1
  apply ext64 (Nat.lt_of_le_of_lt Nat.and_le_left hx) (numB_lt _ _)
  intro i hi
  rw [Nat.testBit_and, show 18446744073709551615 - 2 ^ k = 2 ^ 64 - (2 ^ k + 1) by omega, Nat.testBit_two_pow_sub_succ h2, Nat.testBit_two_pow]
  rw [testBit_numB]
  by_cases h : i = k
  · subst h; simp [hi]
  · simp [hi, show ¬ ((i : Int) = (k : Int)) by omega, show ¬ k = i from fun e => h e.symm]
theorem setB_out (x : Nat) (hx : x < 2 ^ 64) (i : Int) (h : memB i = false) (b : Bool) : setB x i b = x := by
  have h' := memB_false h
  apply ext64 (numB_lt _ _) hx
  intro j hj
  rw [testBit_numB, if_neg (by omega)]
  simp [hj]
end Bx
end Go.Proofs.YtccabmlhlpmhbaaDoor
