/- What is put is there, and nothing else is changed: plain facts. -/
import Derived.Test.YtccabmlhlpmhbaaBitsPop
namespace Go.Proofs.Ytccabmlhlpmhbaa
namespace Bx
open Go.RowKit

def nar (x n : Int) : Int := if widB n = true then narrowV x n else x
theorem narB_idem (y w : Nat) (h1 : 1 ≤ w) (h2 : w ≤ 64) : narB (narB y w) w = narB y w := by
  apply ext64 (numB_lt _ _) (numB_lt _ _)
  intro i hi
  rw [testBit_numB, testBit_numB]
  have e1 : (narB y w).testBit (w - 1) = y.testBit (w - 1) := by
    unfold narB; rw [testBit_numB]; simp only [show w - 1 < 64 by omega, decide_true, Bool.true_and]; rw [if_pos (by omega)]
  have e2 : (narB y w).testBit i = if i < w then y.testBit i else y.testBit (w - 1) := by
    unfold narB; rw [testBit_numB]; simp [hi]
  rw [e1, e2]
  by_cases h : i < w <;> simp [hi, h]
theorem u64Of_wrap (m : Nat) (h : m < 18446744073709551616) : u64Of (wrap64 (m : Int)) = m := by unfold u64Of wrap64; omega
theorem nar_idem (x n : Int) : nar (nar x n) n = nar x n := by
  unfold nar
  cases h : widB n
  · simp
  · obtain ⟨h1, h2⟩ := widB_true h
    simp only [if_true]
    rw [narrow_val _ n h1 h2, narrow_val x n h1 h2, u64Of_wrap _ (numB_lt _ _), narB_idem _ _ (by omega) (by omega)]
theorem part_put (x a n p : Nat) (h : a + n ≤ 64) (hp : p < 2 ^ n) : partB (putB x a n p) a n = p := by
  have hp64 : p < 2 ^ 64 := Nat.lt_of_lt_of_le hp (Nat.pow_le_pow_right (by omega) (by omega))
  apply ext64 (numB_lt _ _) hp64
  intro i hi
  unfold putB
  rw [testBit_numB, testBit_numB]
  by_cases h1 : i < n
  · simp only [hi, h1, show a + i < 64 by omega, decide_true, Bool.true_and]
    rw [if_pos (by omega), Nat.add_sub_cancel_left]
  · simp only [h1, decide_false, Bool.false_and, Bool.and_false]
    exact (Nat.testBit_lt_two_pow (Nat.lt_of_lt_of_le hp (Nat.pow_le_pow_right (by omega) (by omega)))).symm
theorem put_out (x a n p i : Nat) (hi : i < 64) (h : ¬ (a ≤ i ∧ i < a + n)) : (putB x a n p).testBit i = x.testBit i := by
  unfold putB
  rw [testBit_numB]; simp only [hi, decide_true, Bool.true_and]; rw [if_neg h]
theorem put_in (x a n p j : Nat) (h : a + n ≤ 64) (hj : j < n) : (putB x a n p).testBit (a + j) = p.testBit j := by
  unfold putB
  rw [testBit_numB]; simp only [show a + j < 64 by omega, decide_true, Bool.true_and]; rw [if_pos (by omega), Nat.add_sub_cancel_left]
theorem pop_le (x : Nat) : pop x ≤ 64 := by
  have h : ∀ n, sumf (fun i => (x.testBit i).toNat) n ≤ n := by
    intro n
    induction n with
    | zero => exact Nat.le_refl 0
    | succ n ih =>
      simp only [sumf]
      have : (x.testBit n).toNat ≤ 1 := by cases x.testBit n <;> decide
      omega
  exact h 64
/-- A number whose bits stand below n. -/
theorem pop_low (q n : Nat) (hn : n ≤ 64) (h : ∀ i, n ≤ i → i < 64 → q.testBit i = false) : pop q = sumf (fun i => (q.testBit i).toNat) n := by
  unfold pop
  rw [show 64 = n + (64 - n) by omega, sumf_add, sumf_zero _ (64 - n) (fun i hi => by rw [h (n + i) (by omega) (by omega)]; rfl)]
  rfl
theorem pop_put (x a n p : Nat) (h : a + n ≤ 64) (hp : p < 2 ^ n) : pop (putB x a n p) + pop (partB x a n) = pop x + pop p := by
  have h1 : pop p = sumf (fun i => (p.testBit i).toNat) n :=
    pop_low p n (by omega) (fun i hi _ => Nat.testBit_lt_two_pow (Nat.lt_of_lt_of_le hp (Nat.pow_le_pow_right (by omega) hi)))
  have h2 : pop (partB x a n) = sumf (fun i => (x.testBit (a + i)).toNat) n := by
    rw [pop_low _ n (by omega) (fun i hi hi2 => by unfold partB; rw [testBit_numB]; simp [show ¬ i < n by omega])]
    apply sumf_congr
    intro i hi
    unfold partB; rw [testBit_numB]; simp [show i < 64 by omega, hi]
  have split : ∀ y : Nat, pop y = sumf (fun i => (y.testBit i).toNat) a + (sumf (fun i => (y.testBit (a + i)).toNat) n + sumf (fun i => (y.testBit (a + (n + i))).toNat) (64 - a - n)) := by
    intro y
    unfold pop
    rw [show 64 = a + (n + (64 - a - n)) by omega, sumf_add, sumf_add]
    congr 3
    omega
  rw [split (putB x a n p), split x, h1, h2]
  rw [sumf_congr (n := a) (g := fun i => (x.testBit i).toNat) (fun i hi => by rw [put_out x a n p i (by omega) (by omega)]),
    sumf_congr (n := n) (g := fun i => (p.testBit i).toNat) (fun i hi => by rw [put_in x a n p i h hi]),
    sumf_congr (n := 64 - a - n) (g := fun i => (x.testBit (a + (n + i))).toNat) (fun i hi => by rw [put_out x a n p _ (by omega) (by omega)])]
  omega
end Bx
end Go.Proofs.Ytccabmlhlpmhbaa
