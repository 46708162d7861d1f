/- Layer 3 by layer 1: laying and reading parts by bits.Put and bits.Part, as numbers. -/
import Derived.Test.YtbnmajajnjphpaaDoorBitsMath
import Derived.Test.YtbnmajajnjphpaaDoorPackSpec
namespace Go.Proofs.YtbnmajajnjphpaaDoor
open Go.RowKit Px Bx
namespace Px
def pl : List Int := [0, 1, 2, 6, 7, 8, 9, 11, 13]
def wd : List Int := [1, 1, 4, 1, 1, 1, 2, 2, 8]
def ol : List Int := [0, 6, 7, 8, 9, 12, 14, 15, 16]
def plN (i : Nat) : Nat := (pl.getD i 0).toNat
def wdN (i : Nat) : Nat := (wd.getD i 0).toNat
def olN (i : Nat) : Nat := (ol.getD i 0).toNat
theorem olN_lt : ∀ i, i < 9 → olN i < 18 := all9 (by decide) (by decide) (by decide) (by decide) (by decide) (by decide) (by decide) (by decide) (by decide)
theorem part_is : ∀ i, i < 9 → isB (plN i : Nat) (wdN i : Nat) = true := all9 (by decide) (by decide) (by decide) (by decide) (by decide) (by decide) (by decide) (by decide) (by decide)
theorem wN_pow : ∀ i, i < 9 → wN i = ((2 ^ plN i : Nat) : Int) := all9 (by decide) (by decide) (by decide) (by decide) (by decide) (by decide) (by decide) (by decide) (by decide)
theorem sN_pow : ∀ i, i < 9 → sN i = ((2 ^ wdN i : Nat) : Int) := all9 (by decide) (by decide) (by decide) (by decide) (by decide) (by decide) (by decide) (by decide) (by decide)
theorem sN_mask : ∀ i, i < 9 → sN i = ((mask (clamp (wdN i : Nat)) : Nat) : Int) + 1 := all9 (by decide) (by decide) (by decide) (by decide) (by decide) (by decide) (by decide) (by decide) (by decide)
theorem small_place : ∀ i, i < 9 → plN i + wdN i ≤ 21 := all9 (by decide) (by decide) (by decide) (by decide) (by decide) (by decide) (by decide) (by decide) (by decide)
end Px
/-- Above what is laid already a part is laid by adding. -/
theorem putB_add {x a n p : Nat} (hx : x < 2 ^ a) (hp : p < 2 ^ n) (h : a + n ≤ 64) : putB x a n p = 2 ^ a * p + x := by
  have hlt : 2 ^ a * p + x < 2 ^ 64 := by
    have h1 : 2 ^ a * p + x < 2 ^ a * (p + 1) := by rw [Nat.mul_add]; omega
    have h2 : 2 ^ a * (p + 1) ≤ 2 ^ a * 2 ^ n := Nat.mul_le_mul_left _ (by omega)
    rw [← Nat.pow_add] at h2
    have h3 := Nat.pow_le_pow_right (n := 2) (by omega) h
    omega
  refine ext64 (numB_lt _ _) hlt fun i hi => ?_
  unfold putB
  rw [testBit_numB, Nat.testBit_two_pow_mul_add p hx]
  simp only [hi, decide_true, Bool.true_and]
  by_cases h1 : i < a
  · rw [if_neg (by omega), if_pos h1]
  · rw [if_neg h1]
    by_cases h2 : i < a + n
    · rw [if_pos ⟨by omega, h2⟩]
    · rw [if_neg (by omega), Nat.testBit_lt_two_pow (Nat.lt_of_lt_of_le hx (Nat.pow_le_pow_right (by omega) (by omega))), Nat.testBit_lt_two_pow (Nat.lt_of_lt_of_le hp (Nat.pow_le_pow_right (by omega) (by omega)))]
theorem partB_div {x a n : Nat} (hn : n ≤ 64) : partB x a n = x / 2 ^ a % 2 ^ n := by
  refine ext64 (numB_lt _ _) (Nat.lt_of_lt_of_le (Nat.mod_lt _ (Nat.two_pow_pos n)) (Nat.pow_le_pow_right (by omega) hn)) fun i hi => ?_
  unfold partB
  rw [testBit_numB, Nat.testBit_mod_two_pow, Nat.testBit_div_two_pow]
  simp only [hi, decide_true, Bool.true_and, Nat.add_comm]
theorem u64Of_small {x : Int} (h0 : 0 ≤ x) (h1 : x < 18446744073709551616) : u64Of x = x.toNat := by unfold u64Of; omega
/-- What Put answers of a field that fits. -/
theorem put_field {o : Nat → Int} {k : Nat} (hk : k < 9) (hf : Fit o k) {x : Int} (hx : x = o (fN k)) (h0 : 0 ≤ x) (h1 : x < sN k) :
    ∃ s p : Nat, sumH o k = s ∧ s < 18446744073709551616 ∧ IntKind.u64.wrap x = p ∧ p ≤ mask (clamp (wdN k : Nat)) ∧ ((putB s (plN k) (wdN k) p : Nat) : Int) = sumH o (k + 1) := by
  have hr := sumH_range k (by omega) hf
  have hw := wN_pos k (by omega)
  have hm := sN_mask k hk
  have hs := sN_pos k hk
  obtain ⟨s, hs'⟩ := Int.eq_ofNat_of_zero_le hr.1
  refine ⟨s, u64Of x, hs', by omega, u64_wrap x, ?_, ?_⟩
  · rw [u64Of_small h0 (by omega)]; omega
  · rw [u64Of_small h0 (by omega)]
    have hsp := sN_pow k hk
    have hwp := wN_pow k hk
    have h64 := small_place k hk
    rw [hs', hwp] at hr
    rw [putB_add (by omega) (by omega) (by omega)]
    simp only [sumH]
    rw [← hx, hwp, hs']
    have e : ((x.toNat : Nat) : Int) = x := by omega
    rw [Int.natCast_add, Int.natCast_mul, e]; omega
/-- A field that doesn't fit. -/
theorem put_field_no {k : Nat} (hk : k < 9) {x : Int} (hr : -9223372036854775808 ≤ x ∧ x ≤ 9223372036854775807) (h : x < 0 ∨ sN k ≤ x) :
    ∃ p : Nat, IntKind.u64.wrap x = p ∧ mask (clamp (wdN k : Nat)) < p := by
  have hm := sN_mask k hk
  have hs := sN_pos k hk
  refine ⟨u64Of x, u64_wrap x, ?_⟩
  unfold u64Of; omega
/-- What Part answers of a head. -/
theorem part_field {k : Nat} (hk : k < 9) {x : Int} (h0 : 0 ≤ x) (h1 : x < 4294967296) :
    ∃ s y : Nat, IntKind.u64.wrap x = s ∧ s < 18446744073709551616 ∧ partB s (plN k) (wdN k) = y ∧ (y : Int) = x / wN k % sN k ∧ (y : Int) < 256 := by
  obtain ⟨s, rfl⟩ := Int.eq_ofNat_of_zero_le h0
  have hs := sN_pos k hk
  suffices h : ((partB s (plN k) (wdN k) : Nat) : Int) = (s : Int) / wN k % sN k by
    refine ⟨s, _, by rw [IntKind.wrap_u64]; omega, by omega, rfl, h, ?_⟩
    rw [h]
    have := Int.emod_lt_of_pos ((s : Int) / wN k) (show 0 < sN k by omega)
    omega
  rw [partB_div (by have := small_place k hk; omega), wN_pow k hk, sN_pow k hk]
  simp
end Go.Proofs.YtbnmajajnjphpaaDoor
