/- Plain facts on sets of 64 bits: rows of bools, and the numbers that they are. Layer 3 by layer 1: laying and reading parts by bits.Put and bits.Part, as numbers. How many are in a set: the count by halves, and what it is worth. Contracts of package bits. Tables that a row lists: from 'it reads as this datum' to the cells. Arrays and structs of numbers, bools and strings, nested as you like. Over any program. Layer 3: the landed code's tables, and its Head. Layer 3: the landed code's Rest. Layer 3: the landed code's Object. -/
import Derived.WalkKit
import Derived.Deep.QuietTactic
import Derived.Test.YtihbdbgmijkjmaaDoorPackSpec
import Derived.Test.YtihbdbgmijkjmaaDoorRows
import Derived.WalkSpells
import Derived.WalkLawsBesides
import Derived.Lib.Hide
import Derived.BigQuiet
import Derived.LaidLaws
import Derived.LaidSub
import Derived.OpenShut
import Derived.ChangeArms
import Derived.Laws.BitsAllLaws
import Derived.Deep.Cut
namespace Go.Proofs.YtihbdbgmijkjmaaDoor
namespace Bx
open Go.RowKit

/-- The number whose bits below k are those of f. -/
def numB (f : Nat → Bool) : Nat → Nat
  | 0 => 0
  | k + 1 => numB f k + if f k then 2 ^ k else 0

theorem numB_lt (f : Nat → Bool) (k : Nat) : numB f k < 2 ^ k := by
  induction k with
  | zero => simp [numB]
  | succ k ih => simp only [numB]; rw [Nat.pow_succ]; split <;> omega

theorem testBit_numB (f : Nat → Bool) (k i : Nat) : (numB f k).testBit i = (decide (i < k) && f i) := by
  induction k with
  | zero => simp [numB]
  | succ k ih =>
    have hlt := numB_lt f k
    simp only [numB]
    by_cases hf : f k = true
    · rw [if_pos hf, Nat.add_comm, show 2 ^ k + numB f k = 2 ^ k * 1 + numB f k by omega, Nat.testBit_two_pow_mul_add 1 hlt i, ih]
      by_cases h1 : i < k
      · simp [h1, Nat.lt_succ_of_lt h1]
      · by_cases hik : i = k
        · subst hik; simp [hf]
        · simp [h1, show ¬ i < k + 1 by omega]
          have h2 : ¬ i - k = 0 := by omega
          rw [← Bool.not_eq_true, Nat.testBit_one_eq_true_iff_self_eq_zero]; exact h2
    · rw [if_neg hf, Nat.add_zero, ih]
      by_cases hik : i = k
      · subst hik; simp [hf]
      · by_cases h1 : i < k
        · simp [h1, Nat.lt_succ_of_lt h1]
        · simp [h1, show ¬ i < k + 1 by omega]

/-- Two numbers below 2^64 that have the same 64 bits. -/
theorem ext64 {a b : Nat} (ha : a < 2 ^ 64) (hb : b < 2 ^ 64) (h : ∀ i, i < 64 → a.testBit i = b.testBit i) : a = b := by
  apply Nat.eq_of_testBit_eq
  intro i
  by_cases hi : i < 64
  · exact h i hi
  · have h1 : 2 ^ 64 ≤ 2 ^ i := Nat.pow_le_pow_right (by omega) (by omega)
    rw [Nat.testBit_lt_two_pow (Nat.lt_of_lt_of_le ha h1), Nat.testBit_lt_two_pow (Nat.lt_of_lt_of_le hb h1)]

/-- A row of 64 bools. -/
def row (f : Nat → Bool) : Array Value := (Array.range 64).map fun i => Value.bool (f i)
theorem row_size (f : Nat → Bool) : (row f).size = 64 := by simp [row]
theorem row_get (f : Nat → Bool) (i : Nat) (h : i < 64) : (row f)[i]? = some (.bool (f i)) := by
  simp [row, h]
/-- f, but for one place. -/
def upd (f : Nat → Bool) (k : Nat) (b : Bool) : Nat → Bool := fun i => if i = k then b else f i
theorem row_set (f : Nat → Bool) (k : Nat) (b : Bool) : (row f).setIfInBounds k (.bool b) = row (upd f k b) := by
  apply Array.ext
  · simp [row]
  · intro i h1 h2
    simp [row] at h1 h2
    rw [Array.getElem_setIfInBounds (by rw [row_size]; exact h2)]
    simp [row, upd]
    by_cases e : k = i
    · subst e; simp
    · simp [e, show ¬ i = k from fun h => e h.symm]
theorem row_congr {f g : Nat → Bool} (h : ∀ i, i < 64 → f i = g i) : row f = row g := by
  apply Array.ext
  · simp [row]
  · intro i h1 h2
    simp [row] at h1
    simp [row, h i h1]
theorem row_one (f : Nat → Bool) : (row f).all (·.oneCell') = true := by
  rw [Array.all_eq_true]; intro i hi; simp [row, Value.oneCell']
theorem row_false : Array.replicate 64 (Value.bool false) = row fun _ => false := by
  apply Array.ext
  · simp [row]
  · intro i h1 h2
    simp [row]

/-- The first bit of what is left behind k halvings. -/
theorem bit_of_div (x k : Nat) : (((x / 2 ^ k : Nat) : Int) % 2 == 1) = x.testBit k := by
  rw [Nat.testBit_eq_decide_div_mod_eq]
  rw [Bool.eq_iff_iff, beq_iff_eq, decide_eq_true_eq]; omega
theorem div_succ (x k : Nat) : x / 2 ^ k / 2 = x / 2 ^ (k + 1) := by rw [Nat.div_div_eq_div_mul, Nat.pow_succ]

/-- What an int is behind a place: from 0 to 64. -/
def clamp (n : Int) : Nat := (min (max n 0) 64).toNat
theorem clamp_le (n : Int) : clamp n ≤ 64 := by unfold clamp; omega
/-- All bits below n. -/
def mask (n : Nat) : Nat := 2 ^ n - 1
theorem mask_lt (n : Nat) (h : n ≤ 64) : mask n < 2 ^ 64 := by
  unfold mask
  have := Nat.pow_le_pow_right (n := 2) (by omega) h
  have := Nat.two_pow_pos n
  omega
theorem testBit_mask (n i : Nat) : (mask n).testBit i = decide (i < n) := by
  unfold mask; rw [Nat.testBit_two_pow_sub_one]

/-- What the set of a number with, or without, one is. -/
def setB (x : Nat) (i : Int) (b : Bool) : Nat := numB (fun k => if (k : Int) = i then b else x.testBit k) 64
/-- From one to another one. -/
def spanB (a b : Int) : Nat := numB (fun k => decide (a ≤ (k : Int)) && decide ((k : Int) < b)) 64
/-- Is there such a part? -/
def isB (a n : Int) : Bool := decide (0 ≤ a) && decide (1 ≤ n) && decide (n ≤ 64) && decide (a ≤ 64 - n)
/-- A part's worth. -/
def partB (x : Nat) (a n : Nat) : Nat := numB (fun k => decide (k < n) && x.testBit (a + k)) 64
/-- What is laid. -/
def putB (x : Nat) (a n : Nat) (p : Nat) : Nat := numB (fun k => if a ≤ k ∧ k < a + n then p.testBit (k - a) else x.testBit k) 64

/-- May it be in a set? -/
def memB (i : Int) : Bool := decide (0 ≤ i) && decide (i < 64)
theorem memB_true {i : Int} (h : memB i = true) : 0 ≤ i ∧ i < 64 := by simpa [memB] using h
theorem memB_false {i : Int} (h : memB i = false) : i < 0 ∨ 64 ≤ i := by
  unfold memB at h
  by_cases h0 : 0 ≤ i
  · simp [h0] at h; omega
  · omega
/-- Is that a width? -/
def widB (n : Int) : Bool := decide (1 ≤ n) && decide (n ≤ 64)
theorem widB_true {n : Int} (h : widB n = true) : 1 ≤ n ∧ n ≤ 64 := by simpa [widB] using h
theorem widB_false {n : Int} (h : widB n = false) : n < 1 ∨ 64 < n := by
  unfold widB at h
  by_cases h0 : 1 ≤ n
  · simp [h0] at h; omega
  · omega
theorem isB_true {a n : Int} (h : isB a n = true) : 0 ≤ a ∧ 1 ≤ n ∧ n ≤ 64 ∧ a ≤ 64 - n := by
  simp [isB] at h; omega
theorem isB_false {a n : Int} (h : isB a n = false) : a < 0 ∨ n < 1 ∨ 64 < n ∨ 64 - n < a := by
  unfold isB at h
  by_cases h0 : 0 ≤ a
  · by_cases h1 : 1 ≤ n
    · by_cases h2 : n ≤ 64
      · simp [h0, h1, h2] at h; omega
      · omega
    · omega
  · omega

theorem ret_int {k : IntKind} {a b : Int} (h : a = b) : Ending.returned (.int k a) = .returned (.int k b) := by rw [h]
theorem ret_bool {a b : Bool} (h : a = b) : Ending.returned (.bool a) = .returned (.bool b) := by rw [h]
theorem ret_int_nil {k : IntKind} {a b : Int} (h : a = b) : Ending.returned (.tuple #[.int k a, .nilIface]) = .returned (.tuple #[.int k b, .nilIface]) := by rw [h]
theorem below_mid (n : Int) (h0 : 0 ≤ n) (h1 : n ≤ 64) : IntKind.u64.wrap (IntKind.u64.wrap (2 ^ n.toNat) - 1) = ((mask (clamp n) : Nat) : Int) := by
  obtain ⟨k, rfl⟩ := Int.eq_ofNat_of_zero_le h0
  have hk : k ≤ 64 := by omega
  have hc : clamp (k : Int) = k := by unfold clamp; omega
  rw [hc, Int.toNat_natCast, IntKind.wrap_u64, IntKind.wrap_u64]
  have e : (2 : Int) ^ k = ((2 ^ k : Nat) : Int) := by simp
  rw [e]
  unfold mask
  have hp := Nat.two_pow_pos k
  have hle : 2 ^ k ≤ 2 ^ 64 := Nat.pow_le_pow_right (by omega) hk
  generalize 2 ^ k = m at *
  omega
theorem below_lo (n : Int) (h0 : n < 0) : IntKind.u64.wrap (IntKind.u64.wrap 1 - 1) = ((mask (clamp n) : Nat) : Int) := by
  have hc : clamp n = 0 := by unfold clamp; omega
  rw [hc, IntKind.wrap_u64, IntKind.wrap_u64]; rfl
theorem below_hi (n : Int) (h0 : 64 < n) : IntKind.u64.wrap (IntKind.u64.wrap 18446744073709551616 - 1) = ((mask (clamp n) : Nat) : Int) := by
  have hc : clamp n = 64 := by unfold clamp; omega
  rw [hc, IntKind.wrap_u64, IntKind.wrap_u64]; rfl
theorem int_shr (x k : Nat) : (x : Int) / 2 ^ k = ((x / 2 ^ k : Nat) : Int) := by simp
theorem shr_lt {x : Nat} (hx : x < 18446744073709551616) (k : Nat) : x / 2 ^ k < 18446744073709551616 := Nat.lt_of_le_of_lt (Nat.div_le_self _ _) hx
theorem has_bit (x : Nat) (hx : x < 18446744073709551616) (k : Nat) : (bits .and .u64 ((x : Int) / 2 ^ k) 1 == 1) = x.testBit k := by
  rw [int_shr, show (1 : Int) = ((1 : Nat) : Int) from rfl, u64_and_nat _ _ (shr_lt hx k) (by decide), nat_mask1, ← bit_of_div]
  rw [Bool.eq_iff_iff, beq_iff_eq, beq_iff_eq]; omega

/-- For a call inside a region that draws: callees that leave the world alone, or only draw. -/
theorem quietL {P : Program} {f : FuncId} {args : Array Value} {w : World} {n : Nat} {v : Value}
    (h : Calls P f args (w.drewN n) fun e w' => e = .returned v ∧ w.drewN n = w') : Calls P f args (w.drewN n) fun e w'' => e = .returned v ∧ ∃ m, w'' = w.drewN m :=
  h.mono fun _ _ ⟨he, hm⟩ => ⟨he, n, hm.symm⟩
theorem quietD {P : Program} {f : FuncId} {args : Array Value} {w : World} {n : Nat} {v : Value}
    (h : Calls P f args (w.drewN n) fun e w' => e = .returned v ∧ ∃ m, w' = (w.drewN n).drewN m) : Calls P f args (w.drewN n) fun e w'' => e = .returned v ∧ ∃ m, w'' = w.drewN m :=
  h.mono fun _ _ ⟨he, m, hm⟩ => ⟨he, n + m, by rw [hm, World.drewN_drewN]⟩

theorem part_val (x : Nat) (hx : x < 18446744073709551616) (k : Nat) (n : Int) (h2 : 1 ≤ n) (h3 : n ≤ 64) :
    bits .and .u64 ((x : Int) / 2 ^ k) ((mask (clamp n) : Nat) : Int) = ((partB x (k : Int).toNat n.toNat : Nat) : Int) := by
  have hc : clamp n = n.toNat := by unfold clamp; omega
  rw [int_shr, u64_and_nat _ _ (shr_lt hx k) (mask_lt _ (clamp_le n)), hc, Int.toNat_natCast]
  congr 1
  apply ext64
  · exact Nat.lt_of_le_of_lt Nat.and_le_left (shr_lt hx k)
  · exact numB_lt _ _
  · intro i hi
    rw [Nat.testBit_and, Nat.testBit_div_two_pow, testBit_mask]
    unfold partB
    rw [testBit_numB]
    simp [hi, Nat.add_comm, Bool.and_comm]
theorem span_val (a b : Int) : bits .andNot .u64 ((mask (clamp b) : Nat) : Int) ((mask (clamp a) : Nat) : Int) = ((spanB a b : Nat) : Int) := by
  have h1 := mask_lt _ (clamp_le b)
  have h2 := mask_lt _ (clamp_le a)
  rw [u64_andNot_nat _ _ h1 h2]
  congr 1
  apply ext64
  · exact Nat.lt_of_le_of_lt Nat.and_le_left h1
  · exact numB_lt _ _
  · intro i hi
    rw [Nat.testBit_and, show 18446744073709551615 - mask (clamp a) = 2 ^ 64 - (mask (clamp a) + 1) by omega, Nat.testBit_two_pow_sub_succ h2, testBit_mask, testBit_mask]
    unfold spanB
    rw [testBit_numB]
    simp only [hi, decide_true, Bool.true_and]
    have e1 : decide (i < clamp b) = decide ((i : Int) < b) := by rw [decide_eq_decide]; unfold clamp; omega
    have e2 : decide (i < clamp a) = !decide (a ≤ (i : Int)) := by rw [← decide_not, decide_eq_decide]; unfold clamp; omega
    rw [e1, e2, Bool.not_not, Bool.and_comm]

theorem shl_u64 (m k : Nat) (h : m * 2 ^ k < 18446744073709551616) : IntKind.u64.wrap ((m : Int) * 2 ^ k) = ((m * 2 ^ k : Nat) : Int) := by
  rw [IntKind.wrap_u64, show (2 : Int) ^ k = ((2 ^ k : Nat) : Int) by simp, ← Int.natCast_mul]
  generalize m * 2 ^ k = q at *
  omega
theorem shl_lt {m n k : Nat} (hm : m < 2 ^ n) (h : k + n ≤ 64) : m * 2 ^ k < 18446744073709551616 := by
  have h1 : m * 2 ^ k < 2 ^ n * 2 ^ k := Nat.mul_lt_mul_of_pos_right hm (Nat.two_pow_pos k)
  rw [← Nat.pow_add] at h1
  have h2 : 2 ^ (n + k) ≤ 2 ^ 64 := Nat.pow_le_pow_right (by omega) (by omega)
  omega
theorem mask_lt_pow (n : Nat) : mask n < 2 ^ n := by unfold mask; have := Nat.two_pow_pos n; omega
theorem put_val (x : Nat) (hx : x < 18446744073709551616) (k : Nat) (n : Int) (p : Nat) (hp : p ≤ mask (clamp n)) (h2 : 1 ≤ n) (h3 : n ≤ 64) (h4 : (k : Int) ≤ 64 - n) :
    bits .or .u64 (bits .andNot .u64 (x : Int) (IntKind.u64.wrap (((mask (clamp n) : Nat) : Int) * 2 ^ k))) (IntKind.u64.wrap ((p : Int) * 2 ^ k)) = ((putB x (k : Int).toNat n.toNat p : Nat) : Int) := by
  have hc : clamp n = n.toNat := by unfold clamp; omega
  rw [hc] at hp ⊢
  obtain ⟨m, rfl⟩ := Int.eq_ofNat_of_zero_le (show 0 ≤ n by omega)
  rw [Int.toNat_natCast] at hp ⊢
  rw [Int.toNat_natCast]
  have hm := mask_lt_pow m
  have hk : k + m ≤ 64 := by omega
  have b1 := shl_lt hm hk
  have b2 := shl_lt (Nat.lt_of_le_of_lt hp hm) hk
  rw [shl_u64 _ _ b1, shl_u64 _ _ b2, u64_andNot_nat _ _ hx b1]
  have b3 : x &&& (18446744073709551615 - mask m * 2 ^ k) < 18446744073709551616 := Nat.lt_of_le_of_lt Nat.and_le_left hx
  rw [u64_or_nat _ _ b3 b2]
  congr 1
  apply ext64
  · exact Nat.or_lt_two_pow (n := 64) b3 b2
  · exact numB_lt _ _
  · intro i hi
    rw [Nat.testBit_or, Nat.testBit_and, show 18446744073709551615 - mask m * 2 ^ k = 2 ^ 64 - (mask m * 2 ^ k + 1) by omega, Nat.testBit_two_pow_sub_succ b1, Nat.testBit_mul_two_pow, Nat.testBit_mul_two_pow, testBit_mask]
    unfold putB
    rw [testBit_numB]
    have hpb : ∀ j, m ≤ j → p.testBit j = false := fun j hj => Nat.testBit_lt_two_pow (Nat.lt_of_lt_of_le (Nat.lt_of_le_of_lt hp hm) (Nat.pow_le_pow_right (by omega) hj))
    by_cases h1 : k ≤ i
    · by_cases h5 : i < k + m
      · simp [hi, h1, h5, show i - k < m by omega]
      · simp [hi, h1, h5, show ¬ i - k < m by omega, hpb (i - k) (by omega)]
    · simp [hi, h1]

/-- What narrowing comes to by bits: the number of bits below w, the others as bit w - 1. -/
def narB (y w : Nat) : Nat := numB (fun i => if i < w then y.testBit i else y.testBit (w - 1)) 64
theorem narB_eq (y w : Nat) (h2 : w ≤ 64) : narB y w = 2 ^ w * (if y.testBit (w - 1) then 2 ^ (64 - w) - 1 else 0) + y % 2 ^ w := by
  have hq : y % 2 ^ w < 2 ^ w := Nat.mod_lt _ (Nat.two_pow_pos w)
  have hW : 2 ^ w * 2 ^ (64 - w) = 2 ^ 64 := by rw [← Nat.pow_add]; congr 1; omega
  have hle : 2 ^ w * (if y.testBit (w - 1) then 2 ^ (64 - w) - 1 else 0) + y % 2 ^ w < 2 ^ 64 := by
    have hd := Nat.two_pow_pos (64 - w)
    split
    · rw [Nat.mul_sub, hW]
      have : 2 ^ w * 1 ≤ 2 ^ 64 := by rw [← hW]; exact Nat.mul_le_mul_left _ hd
      omega
    · have : 2 ^ w * 1 ≤ 2 ^ 64 := by rw [← hW]; exact Nat.mul_le_mul_left _ hd
      omega
  apply ext64 (numB_lt _ _) hle
  intro i hi
  rw [Nat.testBit_two_pow_mul_add _ hq, Nat.testBit_mod_two_pow]
  rw [testBit_numB]
  by_cases h3 : i < w
  · simp [hi, h3]
  · by_cases hb : y.testBit (w - 1) = true
    · simp [hi, h3, hb, Nat.testBit_two_pow_sub_one]; omega
    · simp [hi, h3, hb]
theorem testBit_top (q w : Nat) (hq : q < 2 ^ (w + 1)) : q.testBit w = decide (2 ^ w ≤ q) := by
  rw [Nat.testBit_eq_decide_div_mod_eq, decide_eq_decide]
  rw [Nat.pow_succ] at hq
  have hp := Nat.two_pow_pos w
  constructor
  · intro h
    by_cases h1 : 2 ^ w ≤ q
    · exact h1
    · rw [Nat.div_eq_of_lt (by omega)] at h; simp at h
  · intro h
    rw [Nat.div_eq_of_lt_le (m := q) (n := 2 ^ w) (k := 1) (by omega) (by omega)]
theorem wrap64_mod (a b : Int) (h : a % 18446744073709551616 = b % 18446744073709551616) : wrap64 a = wrap64 b := by
  unfold wrap64; omega
def narrowV (x n : Int) : Int := wrap64 (x * 2 ^ (64 - n).toNat) / 2 ^ (64 - n).toNat
def u64Of (x : Int) : Nat := (x % 18446744073709551616).toNat
theorem u64Of_lt (x : Int) : u64Of x < 18446744073709551616 := by unfold u64Of; omega
theorem narrow_val (x n : Int) (h1 : 1 ≤ n) (h2 : n ≤ 64) : narrowV x n = wrap64 ((narB (u64Of x) n.toNat : Nat) : Int) := by
  obtain ⟨w, rfl⟩ := Int.eq_ofNat_of_zero_le (show 0 ≤ n by omega)
  obtain ⟨v, rfl⟩ : ∃ v, w = v + 1 := ⟨w - 1, by omega⟩
  obtain ⟨d, hd⟩ : ∃ d, d = 64 - (v + 1) := ⟨_, rfl⟩
  have hdn : (64 - ((v + 1 : Nat) : Int)).toNat = d := by omega
  rw [Int.toNat_natCast, narB_eq _ _ (by omega), show v + 1 - 1 = v from rfl, ← hd]
  unfold narrowV
  rw [hdn]
  obtain ⟨y, hy⟩ : ∃ y, y = u64Of x := ⟨_, rfl⟩
  rw [← hy]
  obtain ⟨H, hH⟩ : ∃ H, H = 2 ^ v := ⟨_, rfl⟩
  obtain ⟨D, hD⟩ : ∃ D, D = 2 ^ d := ⟨_, rfl⟩
  have hHD : H * D = 9223372036854775808 := by
    rw [hH, hD, ← Nat.pow_add, show v + d = 63 by omega]
  have hDp : 0 < D := by rw [hD]; exact Nat.two_pow_pos d
  obtain ⟨q, hq⟩ : ∃ q, q = y % (2 ^ (v + 1)) := ⟨_, rfl⟩
  obtain ⟨s, hs⟩ : ∃ s, s = y / (2 ^ (v + 1)) := ⟨_, rfl⟩
  have hyq : y = 2 ^ (v + 1) * s + q := by rw [hq, hs]; exact (Nat.div_add_mod _ _).symm
  have hql : q < 2 ^ (v + 1) := by rw [hq]; exact Nat.mod_lt _ (Nat.two_pow_pos _)
  have hbit : y.testBit v = decide (H ≤ q) := by
    rw [hH, ← testBit_top q v hql, hq, Nat.testBit_mod_two_pow]; simp
  rw [hbit, ← hq, ← hD]
  rw [Nat.pow_succ, ← hH] at hyq hql
  have hWd : (2 : Nat) ^ (v + 1) = H * 2 := by rw [Nat.pow_succ, ← hH]
  rw [hWd, show (2 : Int) ^ d = ((D : Nat) : Int) by rw [hD]; simp]
  have hxy : x % 18446744073709551616 = (y : Int) := by rw [hy]; unfold u64Of; omega
  have hx1 : wrap64 (x * (D : Int)) = wrap64 ((q * D : Nat) : Int) := by
    apply wrap64_mod
    obtain ⟨t, ht⟩ : ∃ t, t = x / 18446744073709551616 := ⟨_, rfl⟩
    have hx2 : x = (y : Int) + 18446744073709551616 * t := by omega
    have e : x * (D : Int) = ((q * D : Nat) : Int) + 18446744073709551616 * ((s : Int) + t * D) := by
      rw [hx2, hyq]
      have e1 : ((H * D : Nat) : Int) = 9223372036854775808 := by rw [hHD]; rfl
      rw [Int.natCast_mul] at e1
      have e2 : ((H : Int) * D) * (2 * s) = 9223372036854775808 * (2 * s) := by rw [e1]
      simp only [Int.natCast_add, Int.natCast_mul, Int.add_mul, Int.mul_add]
      have e3 : (H : Int) * ((2 : Nat) : Int) * s * D = (H : Int) * D * (2 * s) := by
        rw [Int.mul_assoc, Int.mul_assoc, Int.mul_assoc]; congr 1
        rw [Int.mul_comm (D : Int), Int.mul_assoc]; rfl
      rw [e3, e2, Int.mul_assoc 18446744073709551616 t]
      omega
    rw [e, Int.add_mul_emod_self_left]
  rw [hx1]
  have hHle : H ≤ 9223372036854775808 := by
    rw [← hHD]; exact Nat.le_mul_of_pos_right H hDp
  by_cases hc : H ≤ q
  · have hle : H * D ≤ q * D := Nat.mul_le_mul_right D hc
    have hlt : q * D < (H * 2) * D := Nat.mul_lt_mul_of_pos_right hql hDp
    have hlt2 : (H * 2) * D = 18446744073709551616 := by rw [Nat.mul_assoc, Nat.mul_comm 2, ← Nat.mul_assoc, hHD]
    have e1 : wrap64 ((q * D : Nat) : Int) = ((q : Int) - 2 * H) * D := by
      have e2 : ((q : Int) - 2 * H) * D = ((q * D : Nat) : Int) - (((H * 2) * D : Nat) : Int) := by
        rw [Int.sub_mul, Int.natCast_mul, Int.natCast_mul, Int.natCast_mul]; congr 2
        rw [Int.mul_comm]; rfl
      rw [e2, hlt2]
      unfold wrap64; omega
    rw [e1, Int.mul_ediv_cancel _ (by omega)]
    simp only [hc, decide_true, if_true]
    rw [Nat.mul_sub, hlt2]
    unfold wrap64; omega
  · have hlt : q * D < H * D := Nat.mul_lt_mul_of_pos_right (by omega) hDp
    have e1 : wrap64 ((q * D : Nat) : Int) = (q : Int) * D := by
      rw [Int.natCast_mul, ← Int.natCast_mul]; unfold wrap64; omega
    rw [e1, Int.mul_ediv_cancel _ (by omega)]
    simp only [hc, decide_false, Bool.false_eq_true, if_false]
    unfold wrap64; omega
theorem u64_wrap (x : Int) : IntKind.u64.wrap x = ((u64Of x : Nat) : Int) := by rw [IntKind.wrap_u64]; unfold u64Of; omega
def narF (y m k i : Nat) : Bool := if i < m then y.testBit i else if i < k then y.testBit (m - 1) else y.testBit i
theorem narF_first (y m i : Nat) : narF y m m i = y.testBit i := by
  unfold narF
  by_cases h : i < m
  · simp [h]
  · simp [h]
theorem narF_top (y m k : Nat) (h : 1 ≤ m) : narF y m k (m - 1) = y.testBit (m - 1) := by
  unfold narF; rw [if_pos (by omega)]
theorem narF_step (y m k i : Nat) (h : m ≤ k) : upd (narF y m k) k (y.testBit (m - 1)) i = narF y m (k + 1) i := by
  unfold upd narF
  by_cases h1 : i = k
  · subst h1; rw [if_pos rfl, if_neg (by omega), if_pos (by omega)]
  · rw [if_neg h1]
    by_cases h2 : i < m
    · rw [if_pos h2, if_pos h2]
    · rw [if_neg h2, if_neg h2]
      by_cases h3 : i < k
      · rw [if_pos h3, if_pos (by omega)]
      · rw [if_neg h3, if_neg (by omega)]
theorem narF_last (y m : Nat) : numB (narF y m 64) 64 = narB y m := by
  apply ext64 (numB_lt _ _) (numB_lt _ _)
  intro i hi
  rw [testBit_numB, testBit_numB]
  simp [hi, narF]
end Bx
end Go.Proofs.YtihbdbgmijkjmaaDoor
namespace Go.Proofs.YtihbdbgmijkjmaaDoor
open Go.RowKit Px Bx
namespace Px
def pl : List Int := [0, 1, 2, 6, 7, 8, 9, 11, 13]
def wd : List Int := [1, 1, 4, 1, 1, 1, 2, 2, 8]
def ol : List Int := [0, 6, 7, 8, 9, 12, 14, 15, 16]
def plN (i : Nat) : Nat := (pl.getD i 0).toNat
def wdN (i : Nat) : Nat := (wd.getD i 0).toNat
def olN (i : Nat) : Nat := (ol.getD i 0).toNat
theorem olN_lt : ∀ i, i < 9 → olN i < 18 := all9 (by decide) (by decide) (by decide) (by decide) (by decide) (by decide) (by decide) (by decide) (by decide)
theorem part_is : ∀ i, i < 9 → isB (plN i : Nat) (wdN i : Nat) = true := all9 (by decide) (by decide) (by decide) (by decide) (by decide) (by decide) (by decide) (by decide) (by decide)
theorem wN_pow : ∀ i, i < 9 → wN i = ((2 ^ plN i : Nat) : Int) := all9 (by decide) (by decide) (by decide) (by decide) (by decide) (by decide) (by decide) (by decide) (by decide)
theorem sN_pow : ∀ i, i < 9 → sN i = ((2 ^ wdN i : Nat) : Int) := all9 (by decide) (by decide) (by decide) (by decide) (by decide) (by decide) (by decide) (by decide) (by decide)
theorem sN_mask : ∀ i, i < 9 → sN i = ((mask (clamp (wdN i : Nat)) : Nat) : Int) + 1 := all9 (by decide) (by decide) (by decide) (by decide) (by decide) (by decide) (by decide) (by decide) (by decide)
theorem small_place : ∀ i, i < 9 → plN i + wdN i ≤ 21 := all9 (by decide) (by decide) (by decide) (by decide) (by decide) (by decide) (by decide) (by decide) (by decide)
end Px
/-- Above what is laid already a part is laid by adding. -/
theorem putB_add {x a n p : Nat} (hx : x < 2 ^ a) (hp : p < 2 ^ n) (h : a + n ≤ 64) : putB x a n p = 2 ^ a * p + x := by
  have hlt : 2 ^ a * p + x < 2 ^ 64 := by
    have h1 : 2 ^ a * p + x < 2 ^ a * (p + 1) := by rw [Nat.mul_add]; omega
    have h2 : 2 ^ a * (p + 1) ≤ 2 ^ a * 2 ^ n := Nat.mul_le_mul_left _ (by omega)
    rw [← Nat.pow_add] at h2
    have h3 := Nat.pow_le_pow_right (n := 2) (by omega) h
    omega
  refine ext64 (numB_lt _ _) hlt fun i hi => ?_
  unfold putB
  rw [testBit_numB, Nat.testBit_two_pow_mul_add p hx]
  simp only [hi, decide_true, Bool.true_and]
  by_cases h1 : i < a
  · rw [if_neg (by omega), if_pos h1]
  · rw [if_neg h1]
    by_cases h2 : i < a + n
    · rw [if_pos ⟨by omega, h2⟩]
    · rw [if_neg (by omega), Nat.testBit_lt_two_pow (Nat.lt_of_lt_of_le hx (Nat.pow_le_pow_right (by omega) (by omega))), Nat.testBit_lt_two_pow (Nat.lt_of_lt_of_le hp (Nat.pow_le_pow_right (by omega) (by omega)))]
theorem partB_div {x a n : Nat} (hn : n ≤ 64) : partB x a n = x / 2 ^ a % 2 ^ n := by
  refine ext64 (numB_lt _ _) (Nat.lt_of_lt_of_le (Nat.mod_lt _ (Nat.two_pow_pos n)) (Nat.pow_le_pow_right (by omega) hn)) fun i hi => ?_
  unfold partB
  rw [testBit_numB, Nat.testBit_mod_two_pow, Nat.testBit_div_two_pow]
  simp only [hi, decide_true, Bool.true_and, Nat.add_comm]
theorem u64Of_small {x : Int} (h0 : 0 ≤ x) (h1 : x < 18446744073709551616) : u64Of x = x.toNat := by unfold u64Of; omega
/-- What Put answers of a field that fits. -/
theorem put_field {o : Nat → Int} {k : Nat} (hk : k < 9) (hf : Fit o k) {x : Int} (hx : x = o (fN k)) (h0 : 0 ≤ x) (h1 : x < sN k) :
    ∃ s p : Nat, sumH o k = s ∧ s < 18446744073709551616 ∧ IntKind.u64.wrap x = p ∧ p ≤ mask (clamp (wdN k : Nat)) ∧ ((putB s (plN k) (wdN k) p : Nat) : Int) = sumH o (k + 1) := by
  have hr := sumH_range k (by omega) hf
  have hw := wN_pos k (by omega)
  have hm := sN_mask k hk
  have hs := sN_pos k hk
  obtain ⟨s, hs'⟩ := Int.eq_ofNat_of_zero_le hr.1
  refine ⟨s, u64Of x, hs', by omega, u64_wrap x, ?_, ?_⟩
  · rw [u64Of_small h0 (by omega)]; omega
  · rw [u64Of_small h0 (by omega)]
    have hsp := sN_pow k hk
    have hwp := wN_pow k hk
    have h64 := small_place k hk
    rw [hs', hwp] at hr
    rw [putB_add (by omega) (by omega) (by omega)]
    simp only [sumH]
    rw [← hx, hwp, hs']
    have e : ((x.toNat : Nat) : Int) = x := by omega
    rw [Int.natCast_add, Int.natCast_mul, e]; omega
/-- A field that doesn't fit. -/
theorem put_field_no {k : Nat} (hk : k < 9) {x : Int} (hr : -9223372036854775808 ≤ x ∧ x ≤ 9223372036854775807) (h : x < 0 ∨ sN k ≤ x) :
    ∃ p : Nat, IntKind.u64.wrap x = p ∧ mask (clamp (wdN k : Nat)) < p := by
  have hm := sN_mask k hk
  have hs := sN_pos k hk
  refine ⟨u64Of x, u64_wrap x, ?_⟩
  unfold u64Of; omega
/-- What Part answers of a head. -/
theorem part_field {k : Nat} (hk : k < 9) {x : Int} (h0 : 0 ≤ x) (h1 : x < 4294967296) :
    ∃ s y : Nat, IntKind.u64.wrap x = s ∧ s < 18446744073709551616 ∧ partB s (plN k) (wdN k) = y ∧ (y : Int) = x / wN k % sN k ∧ (y : Int) < 256 := by
  obtain ⟨s, rfl⟩ := Int.eq_ofNat_of_zero_le h0
  have hs := sN_pos k hk
  suffices h : ((partB s (plN k) (wdN k) : Nat) : Int) = (s : Int) / wN k % sN k by
    refine ⟨s, _, by rw [IntKind.wrap_u64]; omega, by omega, rfl, h, ?_⟩
    rw [h]
    have := Int.emod_lt_of_pos ((s : Int) / wN k) (show 0 < sN k by omega)
    omega
  rw [partB_div (by have := small_place k hk; omega), wN_pow k hk, sN_pow k hk]
  simp
end Go.Proofs.YtihbdbgmijkjmaaDoor
namespace Go.Proofs.YtihbdbgmijkjmaaDoor
namespace Bx
open Go.RowKit

/-- The sum of the first n. -/
def sumf (f : Nat → Nat) : Nat → Nat
  | 0 => 0
  | n + 1 => sumf f n + f n
theorem sumf_congr {f g : Nat → Nat} {n : Nat} (h : ∀ i, i < n → f i = g i) : sumf f n = sumf g n := by
  induction n with
  | zero => rfl
  | succ n ih => simp only [sumf]; rw [ih (fun i hi => h i (by omega)), h n (by omega)]
theorem sumf_add (f : Nat → Nat) (m n : Nat) : sumf f (m + n) = sumf f m + sumf (fun j => f (m + j)) n := by
  induction n with
  | zero => rfl
  | succ n ih => rw [← Nat.add_assoc]; simp only [sumf]; rw [ih]; omega
theorem sumf_zero (f : Nat → Nat) (n : Nat) (h : ∀ i, i < n → f i = 0) : sumf f n = 0 := by
  induction n with
  | zero => rfl
  | succ n ih => simp only [sumf]; rw [ih (fun i hi => h i (by omega)), h n (by omega)]
theorem sumf_pairs (f : Nat → Nat) (n : Nat) : sumf (fun j => f (2 * j) + f (2 * j + 1)) n = sumf f (2 * n) := by
  induction n with
  | zero => rfl
  | succ n ih => rw [show 2 * (n + 1) = 2 * n + 1 + 1 by omega]; simp only [sumf]; rw [ih]; omega
/-- How many of the 64 bits are set. -/
def pop (x : Nat) : Nat := sumf (fun i => (x.testBit i).toNat) 64

/-- n digits of b bits each. -/
def dig (b : Nat) (f : Nat → Nat) : Nat → Nat
  | 0 => 0
  | n + 1 => dig b f n + 2 ^ (b * n) * f n
theorem dig_lt (b : Nat) (f : Nat → Nat) (n : Nat) (h : ∀ i, i < n → f i < 2 ^ b) : dig b f n < 2 ^ (b * n) := by
  induction n with
  | zero => simp [dig]
  | succ n ih =>
    have h1 := ih (fun i hi => h i (by omega))
    have h2 := h n (by omega)
    simp only [dig]
    rw [Nat.mul_succ, Nat.pow_add]
    have h3 : 2 ^ (b * n) * (f n + 1) ≤ 2 ^ (b * n) * 2 ^ b := Nat.mul_le_mul_left _ h2
    rw [Nat.mul_succ] at h3
    omega
theorem testBit_dig (b : Nat) (hb : 0 < b) (f : Nat → Nat) (n : Nat) (h : ∀ i, i < n → f i < 2 ^ b) (i : Nat) :
    (dig b f n).testBit i = (decide (i < b * n) && (f (i / b)).testBit (i % b)) := by
  induction n with
  | zero => simp [dig]
  | succ n ih =>
    have h1 := ih (fun i hi => h i (by omega))
    have hl := dig_lt b f n (fun i hi => h i (by omega))
    have h2 := h n (by omega)
    simp only [dig]
    rw [Nat.add_comm, Nat.testBit_two_pow_mul_add _ hl, Nat.mul_succ]
    by_cases h3 : i < b * n
    · rw [if_pos h3, h1]; simp [h3, show i < b * n + b by omega]
    · rw [if_neg h3]
      by_cases h4 : i < b * n + b
      · have e1 : i / b = n := by
          rw [Nat.div_eq_iff hb]; rw [Nat.mul_comm] at h3 h4; constructor
          · omega
          · omega
        have e2 : i % b = i - b * n := by
          have := Nat.div_add_mod i b; rw [e1] at this; omega
        simp [h4, e1, e2]
      · simp only [h4, decide_false, Bool.false_and]
        apply Nat.testBit_lt_two_pow
        exact Nat.lt_of_lt_of_le h2 (Nat.pow_le_pow_right (by omega) (by omega))
theorem dig_add (b : Nat) (f g : Nat → Nat) (n : Nat) : dig b f n + dig b g n = dig b (fun i => f i + g i) n := by
  induction n with
  | zero => rfl
  | succ n ih => simp only [dig]; rw [← ih, Nat.mul_add]; omega
theorem dig_one (x : Nat) (hx : x < 2 ^ 64) : x = dig 1 (fun i => (x.testBit i).toNat) 64 := by
  have hb : ∀ i, i < 64 → (fun i => (x.testBit i).toNat) i < 2 ^ 1 := fun i _ => by
    show (x.testBit i).toNat < 2; cases x.testBit i <;> decide
  apply ext64 hx (by have := dig_lt 1 _ 64 hb; simpa using this)
  intro i hi
  rw [testBit_dig 1 (by decide) _ _ hb]
  simp only [Nat.div_one, Nat.mod_one, Nat.one_mul, hi, decide_true, Bool.true_and]
  cases x.testBit i <;> rfl

/-- Every second digit, from the first or from the second one on: what a mask of alternate fields leaves. -/
theorem mask_pairs (b n m : Nat) (hb : 0 < b) (hn : b * (2 * n) ≤ 64) (f : Nat → Nat) (hf : ∀ i, i < 2 * n → f i < 2 ^ b) (s : Nat) (hs : s < 2)
    (hm : ∀ i, i < 64 → m.testBit i = decide (i % (2 * b) < b)) (hm64 : m < 2 ^ 64) :
    (dig b f (2 * n) / 2 ^ (b * s)) &&& m = dig (2 * b) (fun j => f (2 * j + s)) n := by
  have hf2 : ∀ i, i < n → (fun j => f (2 * j + s)) i < 2 ^ (2 * b) := fun i hi =>
    Nat.lt_of_lt_of_le (hf (2 * i + s) (by omega)) (Nat.pow_le_pow_right (by omega) (by omega))
  have hlt : dig (2 * b) (fun j => f (2 * j + s)) n < 2 ^ 64 :=
    Nat.lt_of_lt_of_le (dig_lt _ _ _ hf2) (Nat.pow_le_pow_right (by omega) (by rw [Nat.mul_comm 2 b, Nat.mul_assoc]; exact hn))
  apply ext64 (Nat.lt_of_le_of_lt Nat.and_le_right hm64) hlt
  intro i hi
  rw [Nat.testBit_and, Nat.testBit_div_two_pow, hm i hi, testBit_dig b hb f _ hf, testBit_dig (2 * b) (by omega) _ n hf2]
  have e2 : 2 * b * n = b * (2 * n) := by rw [Nat.mul_comm 2 b, Nat.mul_assoc]
  rw [e2]
  obtain ⟨q, hq⟩ : ∃ q, q = i / (2 * b) := ⟨_, rfl⟩
  obtain ⟨r, hr⟩ : ∃ r, r = i % (2 * b) := ⟨_, rfl⟩
  have hi2 : i = 2 * b * q + r := by rw [hq, hr]; exact (Nat.div_add_mod _ _).symm
  have hr2 : r < 2 * b := by rw [hr]; exact Nat.mod_lt _ (by omega)
  rw [← hq, ← hr]
  by_cases h1 : r < b
  · have e3 : i + b * s = b * (2 * q + s) + r := by
      rw [hi2, Nat.mul_add, Nat.mul_comm 2 b, Nat.mul_assoc]; omega
    have e4 : (i + b * s) / b = 2 * q + s := by rw [e3, Nat.mul_add_div hb, Nat.div_eq_of_lt h1]; omega
    have e5 : (i + b * s) % b = r := by rw [e3, Nat.mul_add_mod, Nat.mod_eq_of_lt h1]
    rw [e4, e5]
    simp only [h1, decide_true, Bool.and_true]
    congr 1
    rw [decide_eq_decide]
    have hql : q < n ↔ i < b * (2 * n) := by
      rw [← e2, hq, Nat.div_lt_iff_lt_mul (by omega), Nat.mul_comm]
    constructor
    · intro h
      have : b * s ≥ 0 := Nat.zero_le _
      omega
    · intro h
      have hqn := hql.2 h
      have : b * (2 * q + s) + r < b * (2 * q + s) + b := by omega
      have h6 : b * (2 * q + s + 1) ≤ b * (2 * n) := Nat.mul_le_mul_left _ (by omega)
      rw [Nat.mul_succ] at h6
      omega
  · simp only [h1, decide_false, Bool.and_false]
    by_cases h7 : i < b * (2 * n)
    · have hqn : q < n := by
        rw [hq, Nat.div_lt_iff_lt_mul (by omega), Nat.mul_comm]; rw [e2]; exact h7
      have h8 := hf (2 * q + s) (by omega)
      have h9 : (f (2 * q + s)).testBit r = false := Nat.testBit_lt_two_pow (Nat.lt_of_lt_of_le h8 (Nat.pow_le_pow_right (by omega) (by omega)))
      simp [h9]
    · simp [h7]

theorem tb0 : ∀ i, i < 64 → (6148914691236517205 : Nat).testBit i = decide (i % (2 * 1) < 1) := by decide
theorem tb1 : ∀ i, i < 64 → (3689348814741910323 : Nat).testBit i = decide (i % (2 * 2) < 2) := by decide
theorem tb2 : ∀ i, i < 64 → (1085102592571150095 : Nat).testBit i = decide (i % (2 * 4) < 4) := by decide

def s1 (x : Int) : Int := IntKind.u64.wrap (bits .and .u64 (x / 2) 6148914691236517205 + bits .and .u64 x 6148914691236517205)
def s2 (x : Int) : Int := IntKind.u64.wrap (bits .and .u64 (x / 4) 3689348814741910323 + bits .and .u64 x 3689348814741910323)
def s3 (x : Int) : Int := bits .and .u64 (IntKind.u64.wrap (x / 16 + x)) 1085102592571150095
def s4 (x : Int) : Int := IntKind.u64.wrap (x + x / 256)
def s5 (x : Int) : Int := IntKind.u64.wrap (x + x / 65536)
def s6 (x : Int) : Int := IntKind.u64.wrap (x + x / 4294967296)
def s7 (x : Int) : Int := bits .and .i64 (wrap64 x) 127

theorem dig_first (b : Nat) (f : Nat → Nat) (n : Nat) : dig b f (n + 1) = f 0 + 2 ^ b * dig b (fun j => f (j + 1)) n := by
  induction n with
  | zero => simp [dig]
  | succ n ih =>
    have e : dig b f (n + 1 + 1) = dig b f (n + 1) + 2 ^ (b * (n + 1)) * f (n + 1) := rfl
    rw [e, ih]
    simp only [dig]
    rw [Nat.mul_succ b n, Nat.pow_add, Nat.mul_comm (2 ^ (b * n)) (2 ^ b), Nat.mul_assoc, Nat.mul_add]
    omega
theorem dig_shift (b : Nat) (f : Nat → Nat) (n : Nat) (h0 : f 0 < 2 ^ b) : dig b f (n + 1) / 2 ^ b = dig b (fun j => f (j + 1)) n := by
  rw [dig_first, Nat.add_mul_div_left _ _ (Nat.two_pow_pos b), Nat.div_eq_of_lt h0, Nat.zero_add]

theorem step_pairs (b n m p : Nat) (hp : p = 2 ^ b) (hb : 0 < b) (hn : b * (2 * n) = 64) (f : Nat → Nat) (hf : ∀ i, i < 2 * n → f i < 2 ^ b)
    (hm : ∀ i, i < 64 → m.testBit i = decide (i % (2 * b) < b)) (hm64 : m < 2 ^ 64) (hsum : ∀ i, i < n → f (2 * i) + f (2 * i + 1) < 2 ^ (2 * b)) :
    IntKind.u64.wrap (bits .and .u64 (((dig b f (2 * n) / p : Nat) : Int)) (m : Int) + bits .and .u64 ((dig b f (2 * n) : Nat) : Int) (m : Int)) = ((dig (2 * b) (fun j => f (2 * j) + f (2 * j + 1)) n : Nat) : Int) := by
  have hD : dig b f (2 * n) < 2 ^ 64 := by have := dig_lt b f (2 * n) hf; rwa [hn] at this
  have hD2 : dig b f (2 * n) / p < 2 ^ 64 := Nat.lt_of_le_of_lt (Nat.div_le_self _ _) hD
  rw [u64_and_nat _ _ hD2 hm64, u64_and_nat _ _ hD hm64]
  have h1 := mask_pairs b n m hb (by omega) f hf 1 (by omega) hm hm64
  have h0 := mask_pairs b n m hb (by omega) f hf 0 (by omega) hm hm64
  rw [Nat.mul_one, ← hp] at h1
  rw [Nat.mul_zero, Nat.pow_zero, Nat.div_one] at h0
  rw [h1, h0, ← Int.natCast_add, Nat.add_comm, dig_add]
  have hl := dig_lt (2 * b) (fun j => f (2 * j) + f (2 * j + 1)) n hsum
  rw [show 2 * b * n = 64 by rw [Nat.mul_comm 2 b, Nat.mul_assoc, hn]] at hl
  rw [IntKind.wrap_u64]
  generalize dig (2 * b) (fun j => f (2 * j) + f (2 * j + 1)) n = q at *
  omega

theorem s1_eq (f : Nat → Nat) (hf : ∀ i, i < 64 → f i < 2) : s1 ((dig 1 f 64 : Nat) : Int) = ((dig 2 (fun j => f (2 * j) + f (2 * j + 1)) 32 : Nat) : Int) := by
  have h := step_pairs 1 32 6148914691236517205 2 rfl (by decide) rfl f hf tb0 (by decide) (fun i hi => by have := hf (2 * i) (by omega); have := hf (2 * i + 1) (by omega); omega)
  unfold s1
  rw [show ((dig 1 f 64 : Nat) : Int) / 2 = ((dig 1 f 64 / 2 : Nat) : Int) by omega]
  exact h
theorem s2_eq (f : Nat → Nat) (hf : ∀ i, i < 32 → f i ≤ 2) : s2 ((dig 2 f 32 : Nat) : Int) = ((dig 4 (fun j => f (2 * j) + f (2 * j + 1)) 16 : Nat) : Int) := by
  have h := step_pairs 2 16 3689348814741910323 4 rfl (by decide) rfl f (fun i hi => by have := hf i hi; omega) tb1 (by decide) (fun i hi => by have := hf (2 * i) (by omega); have := hf (2 * i + 1) (by omega); omega)
  unfold s2
  rw [show ((dig 2 f 32 : Nat) : Int) / 4 = ((dig 2 f 32 / 4 : Nat) : Int) by omega]
  exact h
theorem dig_congr {b : Nat} {f g : Nat → Nat} {n : Nat} (h : ∀ i, i < n → f i = g i) : dig b f n = dig b g n := by
  induction n with
  | zero => rfl
  | succ n ih => simp only [dig]; rw [ih (fun i hi => h i (by omega)), h n (by omega)]
theorem s3_eq (f : Nat → Nat) (hf : ∀ i, i < 16 → f i ≤ 4) : s3 ((dig 4 f 16 : Nat) : Int) = ((dig 8 (fun j => f (2 * j) + f (2 * j + 1)) 8 : Nat) : Int) := by
  have hg : dig 4 f 16 / 16 + dig 4 f 16 = dig 4 (fun j => f j + if j < 15 then f (j + 1) else 0) 16 := by
    have h1 := dig_shift 4 f 15 (by have := hf 0 (by omega); omega)
    rw [show (2 : Nat) ^ 4 = 16 from rfl] at h1
    have h2 : dig 4 (fun j => f (j + 1)) 15 = dig 4 (fun j => if j < 15 then f (j + 1) else 0) 16 := by
      have e : dig 4 (fun j => if j < 15 then f (j + 1) else 0) 16 = dig 4 (fun j => if j < 15 then f (j + 1) else 0) 15 := by simp [dig]
      rw [e]; exact dig_congr (fun i hi => by simp [hi])
    rw [h1, h2, Nat.add_comm, dig_add]
  have hb : ∀ i, i < 16 → (fun j => f j + if j < 15 then f (j + 1) else 0) i < 2 ^ 4 := fun i hi => by
    show f i + (if i < 15 then f (i + 1) else 0) < 16
    have := hf i hi
    split
    · have := hf (i + 1) (by omega); omega
    · omega
  have hl := dig_lt 4 _ 16 hb
  unfold s3
  rw [show ((dig 4 f 16 : Nat) : Int) / 16 + ((dig 4 f 16 : Nat) : Int) = ((dig 4 f 16 / 16 + dig 4 f 16 : Nat) : Int) by omega, hg]
  have hw : IntKind.u64.wrap ((dig 4 (fun j => f j + if j < 15 then f (j + 1) else 0) 16 : Nat) : Int) = ((dig 4 (fun j => f j + if j < 15 then f (j + 1) else 0) 16 : Nat) : Int) := by
    rw [IntKind.wrap_u64]
    generalize dig 4 (fun j => f j + if j < 15 then f (j + 1) else 0) 16 = q at *
    omega
  rw [hw, show (1085102592571150095 : Int) = ((1085102592571150095 : Nat) : Int) from rfl, u64_and_nat _ _ hl (by decide)]
  have h0 := mask_pairs 4 8 1085102592571150095 (by decide) (by decide) _ hb 0 (by decide) tb2 (by decide)
  rw [Nat.mul_zero, Nat.pow_zero, Nat.div_one] at h0
  rw [h0]
  exact congrArg (fun n : Nat => (n : Int)) (dig_congr (fun i hi => by simp [show 2 * i < 15 by omega]))
theorem wraps_i64 (n : Int) (h₀ : 0 ≤ n) (h₁ : n < 2 ^ 63) : IntKind.i64.wrap n = n := by rw [IntKind.wrap_i64]; omega
theorem wrap_small (n : Nat) (h : n < 18446744073709551616) : IntKind.u64.wrap (n : Int) = (n : Int) := by rw [IntKind.wrap_u64]; omega
theorem s7_num (u : Nat) (h : u < 9223372036854775808) : s7 (u : Int) = ((u % 128 : Nat) : Int) := by
  unfold s7
  have e8 : wrap64 (u : Int) = u := by unfold wrap64; omega
  have e9 : bits .and .i64 (u : Int) (2 ^ 7 - 1) = (u : Int) % 2 ^ 7 := bits_mask .i64 63 (by decide) wraps_i64 7 (by decide) (u : Int) (by omega) (by omega)
  rw [e8, show (127 : Int) = 2 ^ 7 - 1 by decide, e9]
  omega
theorem tail_num (a0 a1 a2 a3 a4 a5 a6 a7 x x1 x2 x3 x4 x5 x6 : Nat) (h0 : a0 ≤ 8) (h1 : a1 ≤ 8) (h2 : a2 ≤ 8) (h3 : a3 ≤ 8) (h4 : a4 ≤ 8) (h5 : a5 ≤ 8) (h6 : a6 ≤ 8) (h7 : a7 ≤ 8)
    (e6 : x6 = a6 + 256 * a7) (e5 : x5 = a5 + 256 * x6) (e4 : x4 = a4 + 256 * x5) (e3 : x3 = a3 + 256 * x4) (e2 : x2 = a2 + 256 * x3) (e1 : x1 = a1 + 256 * x2) (e0 : x = a0 + 256 * x1) :
    s7 (s6 (s5 (s4 (x : Int)))) = ((a0 + a1 + a2 + a3 + a4 + a5 + a6 + a7 : Nat) : Int) := by
  have b6 : x6 ≤ 2056 := by omega
  have b5 : x5 ≤ 526344 := by omega
  have b4 : x4 ≤ 134744072 := by omega
  have b3 : x3 ≤ 34494482440 := by omega
  have b2 : x2 ≤ 8830587504648 := by omega
  have b1 : x1 ≤ 2260630401189896 := by omega
  have b0 : x ≤ 578721382704613384 := by omega
  have d4 : s4 (x : Int) = ((x + x1 : Nat) : Int) := by
    unfold s4
    rw [show (x : Int) + (x : Int) / 256 = ((x + x1 : Nat) : Int) by omega]
    exact wrap_small _ (by omega)
  have d5 : s5 ((x + x1 : Nat) : Int) = ((x + x1 + (x2 + x3) : Nat) : Int) := by
    unfold s5
    have q : (x + x1) / 65536 = x2 + x3 := by omega
    rw [show ((x + x1 : Nat) : Int) + ((x + x1 : Nat) : Int) / 65536 = ((x + x1 + (x + x1) / 65536 : Nat) : Int) by omega, q]
    exact wrap_small _ (by omega)
  have d6 : s6 ((x + x1 + (x2 + x3) : Nat) : Int) = ((x + x1 + (x2 + x3) + (x4 + x5 + (x6 + a7)) : Nat) : Int) := by
    unfold s6
    have q : (x + x1 + (x2 + x3)) / 4294967296 = x4 + x5 + (x6 + a7) := by
      have f3 : x3 = a3 + 256 * (a4 + 256 * (a5 + 256 * a6)) + 4294967296 * a7 := by omega
      have f2 : x2 = a2 + 256 * (a3 + 256 * (a4 + 256 * a5)) + 4294967296 * x6 := by omega
      have f1 : x1 = a1 + 256 * (a2 + 256 * (a3 + 256 * a4)) + 4294967296 * x5 := by omega
      have f0 : x = a0 + 256 * (a1 + 256 * (a2 + 256 * a3)) + 4294967296 * x4 := by omega
      obtain ⟨g, hg⟩ : ∃ g, g = a3 + 256 * (a4 + 256 * (a5 + 256 * a6)) + (a2 + 256 * (a3 + 256 * (a4 + 256 * a5))) + (a1 + 256 * (a2 + 256 * (a3 + 256 * a4))) + (a0 + 256 * (a1 + 256 * (a2 + 256 * a3))) := ⟨_, rfl⟩
      have hgl : g < 4294967296 := by clear f0 f1 f2 f3 e0 e1 e2 e3 e4 e5 e6 d4 d5 b0 b1 b2 b3 b4 b5 b6; omega
      rw [show x + x1 + (x2 + x3) = g + 4294967296 * (x4 + x5 + (x6 + a7)) by clear e0 e1 e2 e3 e4 e5 e6 d4 d5 b0 b1 b2 b3 b4 b5 b6 hgl h0 h1 h2 h3 h4 h5 h6 h7; omega]
      rw [Nat.add_mul_div_left _ _ (by decide), Nat.div_eq_of_lt hgl, Nat.zero_add]
    rw [show ((x + x1 + (x2 + x3) : Nat) : Int) + ((x + x1 + (x2 + x3) : Nat) : Int) / 4294967296 = ((x + x1 + (x2 + x3) + (x + x1 + (x2 + x3)) / 4294967296 : Nat) : Int) by omega, q]
    exact wrap_small _ (by omega)
  rw [d4, d5, d6]
  obtain ⟨u, hu⟩ : ∃ u, u = x + x1 + (x2 + x3) + (x4 + x5 + (x6 + a7)) := ⟨_, rfl⟩
  have hub : u < 9223372036854775808 := by omega
  rw [← hu]
  have e10 : u = (a0 + a1 + a2 + a3 + a4 + a5 + a6 + a7) + 128 * (2 * (x1 + (x2 + (x3 + (x4 + (x5 + (x6 + a7))))))) := by
    clear d4 d5 d6 hub b0 b1 b2 b3 b4 b5 b6 h0 h1 h2 h3 h4 h5 h6 h7
    omega
  rw [s7_num u hub, e10, Nat.add_mul_mod_self_left, Nat.mod_eq_of_lt (by clear d4 d5 d6 hub b0 b1 b2 b3 b4 b5 b6 e0 e1 e2 e3 e4 e5 e6 hu e10; omega)]
theorem tail_eq (f : Nat → Nat) (hf : ∀ i, i < 8 → f i ≤ 8) : s7 (s6 (s5 (s4 ((dig 8 f 8 : Nat) : Int)))) = ((sumf f 8 : Nat) : Int) := by
  have e2 : sumf f 8 = f 0 + f 1 + f 2 + f 3 + f 4 + f 5 + f 6 + f 7 := by simp [sumf]
  rw [e2]
  refine tail_num _ _ _ _ _ _ _ _ _ _ _ _ _ _ _ (hf 0 (by decide)) (hf 1 (by decide)) (hf 2 (by decide)) (hf 3 (by decide)) (hf 4 (by decide)) (hf 5 (by decide)) (hf 6 (by decide)) (hf 7 (by decide)) rfl rfl rfl rfl rfl rfl ?_
  rw [dig_first, dig_first, dig_first, dig_first, dig_first, dig_first, dig_first]
  simp [dig]
theorem pop_val (x : Nat) (hx : x < 18446744073709551616) : s7 (s6 (s5 (s4 (s3 (s2 (s1 (x : Int))))))) = ((pop x : Nat) : Int) := by
  have hb : ∀ i, (x.testBit i).toNat < 2 := fun i => by cases x.testBit i <;> decide
  rw [dig_one x hx, s1_eq _ (fun i _ => hb i), s2_eq _ (fun i _ => by have := hb (2 * i); have := hb (2 * i + 1); omega),
    s3_eq _ (fun i _ => by have := hb (2 * (2 * i)); have := hb (2 * (2 * i) + 1); have := hb (2 * (2 * i + 1)); have := hb (2 * (2 * i + 1) + 1); omega),
    tail_eq]
  · rw [sumf_pairs (fun j => (x.testBit (2 * (2 * j))).toNat + (x.testBit (2 * (2 * j) + 1)).toNat + ((x.testBit (2 * (2 * j + 1))).toNat + (x.testBit (2 * (2 * j + 1) + 1)).toNat)) 8]
    rw [sumf_pairs (fun j => (x.testBit (2 * j)).toNat + (x.testBit (2 * j + 1)).toNat) 16, sumf_pairs (fun j => (x.testBit j).toNat) 32]
    rw [← dig_one x hx]; rfl
  · intro i _
    have h0 := hb (2 * (2 * (2 * i))); have h1 := hb (2 * (2 * (2 * i)) + 1); have h2 := hb (2 * (2 * (2 * i) + 1)); have h3 := hb (2 * (2 * (2 * i) + 1) + 1)
    have h4 := hb (2 * (2 * (2 * i + 1))); have h5 := hb (2 * (2 * (2 * i + 1)) + 1); have h6 := hb (2 * (2 * (2 * i + 1) + 1)); have h7 := hb (2 * (2 * (2 * i + 1) + 1) + 1)
    omega
end Bx
end Go.Proofs.YtihbdbgmijkjmaaDoor
namespace Go.Proofs.YtihbdbgmijkjmaaDoor
open Go.RowKit Bx

theorem isWidth_is (n : Int) (b : Bool) (hb : widB n = b) (w : World) :
    Calls Tryd.prog 67 #[.int .i64 n] w fun e w' => e = .returned (.bool b) ∧ w = w' := by
  by_cases h0 : 1 ≤ n
  · have hb' : decide (n ≤ 64) = b := by simpa [widB, h0] using hb
    go_enter Tryd.func67, Tryd.ntmps67
    go_wp2
    go_ret
    exact ⟨rfl, rfl⟩
  · obtain rfl : b = false := by simpa [widB, h0] using hb.symm
    clear hb
    go_enter Tryd.func67, Tryd.ntmps67
    go_wp2
    go_ret
    exact ⟨rfl, rfl⟩
theorem isPart_is (a n : Int) (b : Bool) (hb : isB a n = b) (w : World) :
    Calls Tryd.prog 59 #[.int .i64 a, .int .i64 n] w fun e w' => e = .returned (.bool b) ∧ w = w' := by
  by_cases h0 : widB n = true
  · obtain ⟨h1, h2⟩ := widB_true h0
    have H0 := Lib.hid h0
    clear h0
    by_cases h3 : 0 ≤ a
    · have hb' : decide (a ≤ 64 - n) = b := by simpa [isB, h1, h2, h3] using hb
      go_enter Tryd.func59, Tryd.ntmps59
      go_wp2_with fail
      refine (isWidth_is _ _ H0.out _).mono ?_
      rintro e w' ⟨rfl, rfl⟩
      go_wp2
      go_ret
      exact ⟨rfl, rfl⟩
    · obtain rfl : b = false := by simpa [isB, h3] using hb.symm
      clear hb
      go_enter Tryd.func59, Tryd.ntmps59
      go_wp2_with fail
      refine (isWidth_is _ _ H0.out _).mono ?_
      rintro e w' ⟨rfl, rfl⟩
      go_wp2
      go_ret
      exact ⟨rfl, rfl⟩
  · have h1 := widB_false (Bool.not_eq_true _ ▸ h0)
    have H0 := Lib.hid (Bool.not_eq_true _ ▸ h0)
    clear h0
    obtain rfl : b = false := by rw [← hb]; unfold isB; rcases h1 with h | h <;> simp <;> omega
    clear hb h1
    go_enter Tryd.func59, Tryd.ntmps59
    go_wp2_with fail
    refine (isWidth_is _ _ H0.out _).mono ?_
    rintro e w' ⟨rfl, rfl⟩
    go_wp2
    go_ret
    exact ⟨rfl, rfl⟩
theorem below_any (n : Int) (w : World) :
    Calls Tryd.prog 60 #[.int .i64 n] w fun e w' => e = .returned (.int .u64 (mask (clamp n) : Nat)) ∧ w = w' := by
  rcases (show n < 0 ∨ 64 < n ∨ (0 ≤ n ∧ n ≤ 64) by omega) with h | h | ⟨h, h'⟩
  · have H := Lib.hid (below_lo n h)
    go_enter Tryd.func60, Tryd.ntmps60
    go_wp2
    all_goals go_ret
    all_goals exact ⟨ret_int H.out, rfl⟩
  · have H := Lib.hid (below_hi n h)
    go_enter Tryd.func60, Tryd.ntmps60
    go_wp2
    all_goals go_ret
    all_goals exact ⟨ret_int H.out, rfl⟩
  · have H := Lib.hid (below_mid n h h')
    go_enter Tryd.func60, Tryd.ntmps60
    go_wp2
    all_goals go_ret
    all_goals exact ⟨ret_int H.out, rfl⟩
theorem part_yes (x : Nat) (hx : x < 18446744073709551616) (a n : Int) (h : isB a n = true) (w : World) :
    Calls Tryd.prog 71 #[.int .u64 x, .int .i64 a, .int .i64 n] w fun e w' => e = .returned (.int .u64 (partB x a.toNat n.toNat : Nat)) ∧ ∃ m, w' = w.drewN m := by
  obtain ⟨h1, h2, h3, h4⟩ := isB_true h
  have H0 := Lib.hid h
  clear h
  obtain ⟨k, rfl⟩ := Int.eq_ofNat_of_zero_le h1
  have HV := Lib.hid (part_val x hx k n h2 h3)
  go_enter Tryd.func71, Tryd.ntmps71
  go_wp2_with fail
  refine (isPart_is _ _ _ H0.out _).mono ?_
  rintro e w' ⟨rfl, rfl⟩
  go_wp2_with fail
  go_quiet ((go_at_call 60; exact quietL (below_any _ _)))
  go_wp2_with fail
  go_ret
  exact ⟨ret_int HV.out, _, rfl⟩
theorem part_no (x : Nat) (a n : Int) (h : isB a n = false) (w : World) :
    Calls Tryd.prog 71 #[.int .u64 x, .int .i64 a, .int .i64 n] w fun e w' => e = .returned (.int .u64 0) ∧ ∃ m, w' = w.drewN m := by
  have H0 := Lib.hid h
  clear h
  go_enter Tryd.func71, Tryd.ntmps71
  go_wp2_with fail
  refine (isPart_is _ _ _ H0.out _).mono ?_
  rintro e w' ⟨rfl, rfl⟩
  go_wp2_with fail
  go_ret
  exact ⟨rfl, 0, rfl⟩
theorem put_range (x p a n : Int) (h : isB a n = false) (w : World) :
    Calls Tryd.prog 41 #[.int .u64 x, .int .i64 a, .int .i64 n, .int .u64 p] w fun e w' => e = .returned (.tuple #[.int .u64 0, .iface 65 (.int .i64 1)]) ∧ ∃ m, w' = w.drewN m := by
  have H0 := Lib.hid h
  clear h
  go_enter Tryd.func41, Tryd.ntmps41
  go_wp2_with fail
  refine (isPart_is _ _ _ H0.out _).mono ?_
  rintro e w' ⟨rfl, rfl⟩
  go_wp2_with fail
  go_ret2
  exact ⟨rfl, 0, rfl⟩
theorem put_form (x a n : Int) (p : Nat) (hp : mask (clamp n) < p) (h : isB a n = true) (w : World) :
    Calls Tryd.prog 41 #[.int .u64 x, .int .i64 a, .int .i64 n, .int .u64 p] w fun e w' => e = .returned (.tuple #[.int .u64 0, .iface 65 (.int .i64 2)]) ∧ ∃ m, w' = w.drewN m := by
  have H0 := Lib.hid h
  clear h
  go_enter Tryd.func41, Tryd.ntmps41
  go_wp2_with fail
  refine (isPart_is _ _ _ H0.out _).mono ?_
  rintro e w' ⟨rfl, rfl⟩
  go_wp2_with fail
  refine (below_any _ _).mono ?_
  rintro e w' ⟨rfl, rfl⟩
  go_wp2_with fail
  go_ret2
  exact ⟨rfl, 0, rfl⟩
theorem put_yes (x : Nat) (hx : x < 18446744073709551616) (a n : Int) (p : Nat) (hp : p ≤ mask (clamp n)) (h : isB a n = true) (w : World) :
    Calls Tryd.prog 41 #[.int .u64 x, .int .i64 a, .int .i64 n, .int .u64 p] w fun e w' => e = .returned (.tuple #[.int .u64 (putB x a.toNat n.toNat p : Nat), .nilIface]) ∧ ∃ m, w' = w.drewN m := by
  obtain ⟨h1, h2, h3, h4⟩ := isB_true h
  have H0 := Lib.hid h
  clear h
  obtain ⟨k, rfl⟩ := Int.eq_ofNat_of_zero_le h1
  have HV := Lib.hid (put_val x hx k n p hp h2 h3 h4)
  go_enter Tryd.func41, Tryd.ntmps41
  go_wp2_with fail
  refine (isPart_is _ _ _ H0.out _).mono ?_
  rintro e w' ⟨rfl, rfl⟩
  go_wp2_with fail
  refine (below_any _ _).mono ?_
  rintro e w' ⟨rfl, rfl⟩
  go_wp2_with fail
  go_quiet ((go_at_call 60; exact quietL (below_any _ _)))
  go_wp2_with fail
  go_ret2
  exact ⟨ret_int_nil HV.out, _, rfl⟩
end Go.Proofs.YtihbdbgmijkjmaaDoor
namespace Go.Proofs.YtihbdbgmijkjmaaDoor
open Go

/-- The parts of a composite type lie one behind the other, from o to e. -/
def tilesB (P : Program) : Nat → List (TypeId × Nat) → Nat → Bool
  | o, [], e => o == e
  | o, x :: r, e => x.2 == o && tilesB P (o + P.cellsOf x.1) r e
def flatAll (F : TypeId → DataW Unit → Option (List Value)) : List (TypeId × Nat) → List (DataW Unit) → Option (List Value)
  | [], [] => some []
  | x :: r, d :: ds => match F x.1 d, flatAll F r ds with
    | some a, some b => some (a ++ b)
    | _, _ => none
  | _, _ => none
def partsOf (P : Program) (t : TypeId) : Option (List (TypeId × Nat)) :=
  match P.underlying t with
  | some (.array n e) => some ((List.range n).map fun i => (e, i * P.cellsOf e))
  | some (.struct fs) => some (fs.toList.map fun f => (f.type, f.offset))
  | _ => none
/-- The cells of a datum of numbers, bools, strings, arrays and structs. -/
def flatD (P : Program) : Nat → TypeId → DataW Unit → Option (List Value)
  | 0, _, _ => none
  | _ + 1, t, .lit l => match P.underlying t, l with
    | some (.int _), .int k n => some [.int k n]
    | some .bool, .bool b => some [.bool b]
    | some .string, .string s => some [.string ⟨s.toArray⟩]
    | _, _ => none
  | f + 1, t, .agg ds => match partsOf P t with
    | some l => if tilesB P 0 l (P.cellsOf t) then flatAll (flatD P f) l ds else none
    | none => none
  | _ + 1, _, _ => none

theorem flat_cells {P : Program} {F : TypeId → DataW Unit → Option (List Value)} {cs : List Value} : ∀ (l : List (TypeId × Nat)) (ds : List (DataW Unit)) (o e : Nat) (vs : List Value), tilesB P o l e = true →
    (∀ (i : Nat) x d a, l[i]? = some x → ds[i]? = some d → F x.1 d = some a → (cs.drop x.2).take (P.cellsOf x.1) = a) → flatAll F l ds = some vs → o ≤ e ∧ (cs.drop o).take (e - o) = vs
  | [], [], o, e, vs, ht, _, hf => by
    simp only [tilesB, beq_iff_eq] at ht
    simp only [flatAll, Option.some.injEq] at hf
    subst ht hf
    exact ⟨Nat.le_refl _, by simp⟩
  | [], _ :: _, _, _, _, _, _, hf => by simp [flatAll] at hf
  | _ :: _, [], _, _, _, _, _, hf => by simp [flatAll] at hf
  | x :: r, d :: ds, o, e, vs, ht, hc, hf => by
    simp only [tilesB, Bool.and_eq_true, beq_iff_eq] at ht
    obtain ⟨h1, h2⟩ := ht
    simp only [flatAll] at hf
    split at hf
    · rename_i a b ha hb
      simp only [Option.some.injEq] at hf
      obtain ⟨i1, i2⟩ := flat_cells r ds (o + P.cellsOf x.1) e b h2 (fun i y d' a' hy hd => hc (i + 1) y d' a' (by simpa using hy) (by simpa using hd)) hb
      have hx := hc 0 x d a rfl rfl ha
      rw [h1] at hx
      refine ⟨by omega, ?_⟩
      rw [← hf, ← i2, ← hx, show e - o = P.cellsOf x.1 + (e - (o + P.cellsOf x.1)) by omega, List.take_add, List.drop_drop]
    · cases hf

theorem flat_of_trod {P : Program} {w : World} {sp : Nat → Bool} {held : Bool} {enc : TypeId × Value → Unit} : ∀ (f : Nat) (t : TypeId) (d : DataW Unit) (vs : List Value), flatD P f t d = some vs →
    ∀ (fuel : Nat) (cs : List Value) (p : List MemPlace), DataW.trod enc P w 0 sp held fuel t cs = some (d, p) → cs = vs
  | 0, _, _, _, h => by simp [flatD] at h
  | f + 1, t, d, vs, h => by
    intro fuel cs p hr
    cases d with
    | lit l =>
      simp only [flatD] at h
      split at h
      · rename_i k' k n hu
        obtain ⟨m, e1, e2, _⟩ := DataW.trod_int hu hr
        simp only [Prod.mk.injEq, DataW.lit.injEq, Lit.int.injEq] at e2
        obtain ⟨⟨rfl, rfl⟩, _⟩ := e2
        simp only [Option.some.injEq] at h
        rw [e1, h]
      · rename_i b hu
        obtain ⟨m, e1, e2⟩ := DataW.trod_bool hu hr
        simp only [Prod.mk.injEq, DataW.lit.injEq, Lit.bool.injEq] at e2
        obtain ⟨rfl, _⟩ := e2
        simp only [Option.some.injEq] at h
        rw [e1, h]
      · rename_i s hu
        obtain ⟨m, e1, e2, _⟩ := DataW.trod_string hu hr
        simp only [Prod.mk.injEq, DataW.lit.injEq, Lit.string.injEq] at e2
        obtain ⟨rfl, _⟩ := e2
        simp only [Option.some.injEq] at h
        rw [e1, ← h]
      · cases h
    | agg ds =>
      simp only [flatD] at h
      split at h
      · rename_i l hl
        split at h
        · rename_i htl
          unfold partsOf at hl
          split at hl
          · rename_i n e hu
            obtain ⟨xs, m, _, ex, hlen, hxl, hel⟩ := DataW.trod_array hu hr
            simp only [Prod.mk.injEq, DataW.agg.injEq] at ex
            obtain ⟨eds, _⟩ := ex
            simp only [Option.some.injEq] at hl
            subst hl
            obtain ⟨_, hh⟩ := flat_cells (cs := cs) _ ds 0 _ vs htl (fun i x d' a hx hd ha => by
              simp only [List.getElem?_map, Option.map_eq_some_iff] at hx
              obtain ⟨j, hj, rfl⟩ := hx
              obtain ⟨hj1, hj2⟩ := List.getElem?_eq_some_iff.1 hj
              simp only [List.length_range] at hj1
              simp only [List.getElem_range] at hj2
              subst hj2
              rw [eds, List.getElem?_map, Option.map_eq_some_iff] at hd
              obtain ⟨y, hy, rfl⟩ := hd
              have hi := hel i hj1
              rw [hy] at hi
              exact flat_of_trod f e y.1 a ha m _ y.2 hi) h
            rw [← hh, Nat.sub_zero, List.drop_zero, ← hlen, List.take_length]
          · rename_i fs hu
            obtain ⟨xs, m, _, ex, hlen, hxl, hel⟩ := DataW.trod_struct hu hr
            simp only [Prod.mk.injEq, DataW.agg.injEq] at ex
            obtain ⟨eds, _⟩ := ex
            simp only [Option.some.injEq] at hl
            subst hl
            obtain ⟨_, hh⟩ := flat_cells (cs := cs) _ ds 0 _ vs htl (fun i x d' a hx hd ha => by
              simp only [List.getElem?_map, Option.map_eq_some_iff, Array.getElem?_toList] at hx
              obtain ⟨g, hg, rfl⟩ := hx
              rw [eds, List.getElem?_map, Option.map_eq_some_iff] at hd
              obtain ⟨y, hy, rfl⟩ := hd
              have hi := hel i g hg
              rw [hy] at hi
              exact flat_of_trod f g.type y.1 a ha m _ y.2 hi) h
            rw [← hh, Nat.sub_zero, List.drop_zero, ← hlen, List.take_length]
          · cases hl
        · cases h
      · cases h
    | _ => simp [flatD] at h

/-- The variable of that name holds just these cells. -/
theorem laid_row {P : Program} {w : World} {name : String} {d : DataW Unit} {g : Nat} {t : TypeId} {vs : List Value} (f : Nat) : ∀ {l : List (String × DataW Unit)} {ps : List MemPlace}, DataW.LaidVars P w l ps →
    (∀ b off, MemPlace.cell b off ∈ ps → ∃ c t, w.heap[b]? = some (.cells c t (0, 0))) → (name, d) ∈ l → P.globalNamed name = some g → (P.globals[g]?).map (·.type) = some t → flatD P f t d = some vs → vs ≠ [] →
    ∃ t', w.heap[g]? = some (.cells vs.toArray t' (0, 0))
  | [], _, _, _, hm, _, _, _, _ => by cases hm
  | (n, d') :: r, ps, hl, hrow, hm, hg, ht, hf, hne => by
    obtain ⟨g', t', cs, fuel, p, q, e1, e2, e3, e4, hr, rfl⟩ := hl
    rcases List.mem_cons.1 hm with hm | hm
    · simp only [Prod.mk.injEq] at hm
      obtain ⟨rfl, rfl⟩ := hm
      obtain rfl : g = g' := Option.some.inj (hg.symm.trans e1)
      obtain rfl : t = t' := Option.some.inj (ht.symm.trans e2)
      have hcs := flat_of_trod f t d vs hf fuel cs.toList p e4
      have hsz : 0 < cs.size := by
        rcases Nat.eq_zero_or_pos cs.size with h | h
        · exact absurd (by rw [← hcs]; simpa using h) hne
        · exact h
      obtain ⟨c, u, hc⟩ := hrow g 0 (by simp only [List.mem_append]; left; left; unfold MemPlace.row; exact List.mem_map.2 ⟨0, by simpa using hsz, rfl⟩)
      simp only [World.var?, hg, Option.bind_some, hc, Option.some.injEq] at e3
      exact ⟨u, by rw [hc, e3, ← hcs]⟩
    · exact laid_row f hr (fun b off h => hrow b off (by simp only [List.mem_append]; right; exact h)) hm hg ht hf hne
/-- The cells of the list's i-th variable, which is global g. -/
def laidVs (P : Program) (l : List (String × DataW Unit)) (f i g : Nat) : Option (List Value) :=
  match (l.filter fun x => x.2.handleName?.isNone)[i]?, (P.globals[g]?).map (·.type) with
  | some x, some t => if P.globalNamed x.1 = some g then flatD P f t x.2 else none
  | _, _ => none
/-- f: more than the nesting's depth; i: the variable's place on the row's list; g: its number. One closed fact. -/
theorem laid_cells {P : Program} {w : World} {l : List (String × DataW Unit)} (h : laidMetH P l w) (f i g : Nat) {vs : List Value} (hf : laidVs P l f i g = some vs) (hne : vs ≠ []) : ∃ t', w.heap[g]? = some (.cells vs.toArray t' (0, 0)) := by
  obtain ⟨ps, hl, _, hrows⟩ := (laidMetH_iff.1 h).1
  unfold laidVs at hf
  split at hf
  · rename_i x t hx ht
    split at hf
    · rename_i hg
      exact laid_row f hl (fun b off hp => (hrows b off hp).1) (List.mem_of_getElem? hx) hg ht hf hne
    · cases hf
  · cases hf
end Go.Proofs.YtihbdbgmijkjmaaDoor
namespace Go.Proofs.YtihbdbgmijkjmaaDoor
open Go.RowKit Px Bx
def partsV : List Value := [.int .i64 1, .int .i64 0, .int .i64 1, .int .i64 2, .int .i64 1, .int .i64 1, .int .i64 3, .int .i64 2, .int .i64 4, .int .i64 4, .int .i64 6, .int .i64 1, .int .i64 5, .int .i64 7, .int .i64 1, .int .i64 11, .int .i64 8, .int .i64 1, .int .i64 13, .int .i64 9, .int .i64 2, .int .i64 17, .int .i64 11, .int .i64 2, .int .i64 10, .int .i64 13, .int .i64 8]
/-- The table of parts stands there. -/
def TabP (z : World) : Prop := ∃ t, z.heap[0]? = some (.cells partsV.toArray t (0, 0))
theorem TabP.keep {z w : World} (h : TabP z) (hb : Below z.heap.size z w) : TabP w := by
  obtain ⟨t, ht⟩ := h
  exact ⟨t, (hb.block _ (Array.getElem?_eq_some_iff.1 ht).1).trans ht⟩
theorem sizeP : (Tryd.prog.info? 81).map (·.size) = some 27 := by kernel_rfl
theorem index_part : ∀ k, k < 9 → ∀ w, (Instr.index 81 (.agg partsV.toArray) (.int .i64 ((k : Nat) : Int))).run Tryd.prog w = .ok (.agg #[.int .i64 (fN k : Nat), .int .i64 (plN k : Nat), .int .i64 (wdN k : Nat)]) w :=
  all9 (fun _ => by kernel_rfl) (fun _ => by kernel_rfl) (fun _ => by kernel_rfl) (fun _ => by kernel_rfl) (fun _ => by kernel_rfl) (fun _ => by kernel_rfl) (fun _ => by kernel_rfl) (fun _ => by kernel_rfl) (fun _ => by kernel_rfl)
def HdRel (w2 : World) (o : Nat → Int) (u i : Value) (wr : World) : Prop :=
  ∃ k : Nat, i = .int .i64 ((k : Nat) : Int) ∧ u = .int .u64 (sumH o k) ∧ k ≤ 9 ∧ Fit o k ∧ Below w2.heap.size w2 wr
set_option maxRecDepth 100000 in
set_option maxHeartbeats 1000000 in
theorem head_any {z : World} (T : TabP z) (o : Nat → Int) (w : World) (hr : ∀ i, i < 18 → -9223372036854775808 ≤ o i ∧ o i ≤ 9223372036854775807) (hz : Below z.heap.size z w) :
    Calls Tryd.prog 22 #[.agg (arr .i64 18 o)] w (HeadPost o .nilIface (.iface 65 (.int .i64 1)) w) := by
  obtain ⟨t, ht⟩ := T.keep hz
  go_enter Tryd.func22, Tryd.ntmps22
  go_upto_region 2 with fail
  obtain ⟨w1, hw1⟩ : ∃ w1, w1 = w.alloc (.cells (arr .i64 18 o) 56) := ⟨_, rfl⟩
  have ha : ArrAt .i64 18 56 w1 w.heap.size o := by rw [hw1]; exact ArrAt.new w .i64 18 56 o
  have hb1 : Below w.heap.size w w1 := by rw [hw1]; exact (Below.refl _ _).alloc (Nat.le_refl _) _
  rw [← hw1]
  have hT : w1.heap[0]? = some (.cells partsV.toArray t (0, 0)) := (hb1.block _ (Array.getElem?_eq_some_iff.1 ht).1).trans ht
  clear hw1 ht
  have hsz : (Tryd.prog.info? 81).map (·.size) = some partsV.toArray.size := sizeP
  have HA := Lib.hid ha
  clear ha
  go_upto_region 3 with (refine wpList_load_row rfl 81 _ rfl 0 rfl t partsV.toArray (0, 0) _ hT Tryd.underlying81 rfl hsz ?_)
  have HT := Lib.hid hT
  clear hT hsz
  go_loopw [4, 10] (fun u i wr => HdRel w1 o u i wr) (fun _ i _ => 9 - (intOf i).toNat)
  case atStart => exact ⟨0, rfl, rfl, by omega, fun i hi => absurd hi (by omega), Below.refl _ _⟩
  case round =>
    obtain ⟨k, rfl, rfl, hk, hfit, hbel⟩ := hrel
    have HF := Lib.hid hfit
    clear hfit
    by_cases hlt : k < 9
    · have hj := fN_lt k hlt
      have hix := index_part k hlt
      obtain ⟨x, hx⟩ : ∃ x, x = o (fN k) := ⟨_, rfl⟩
      have hxr : -9223372036854775808 ≤ x ∧ x ≤ 9223372036854775807 := by rw [hx]; exact hr _ hj
      have HX := Lib.hid hx
      clear hx
      have b0 : (0 : Int) ≤ ((fN k : Nat) : Int) := by omega
      have b1 : ((fN k : Nat) : Int) < 18 := by omega
      by_cases hin : 0 ≤ x ∧ x < sN k
      · obtain ⟨h0, h1⟩ := hin
        obtain ⟨s, p, e1, e2, e3, e4, e5⟩ := put_field hlt HF.out HX.out h0 h1
        have HN := Lib.hid (fit_next HF.out (by rw [← HX.out]; exact h0) (by rw [← HX.out]; exact h1))
        go_upto_region 5 with fail
        obtain ⟨w5, hw5⟩ : ∃ w5, w5 = wr.alloc (.cells #[.int .i64 (fN k : Nat), .int .i64 (plN k : Nat), .int .i64 (wdN k : Nat)] 80) := ⟨_, rfl⟩
        have hb5 : Below wr.heap.size wr w5 := by rw [hw5]; exact (Below.refl _ _).alloc (Nat.le_refl _) _
        have g3 := ((HA.out.keep hbel).keep hb5).cell hj
        rw [← HX.out] at g3
        have c5 : w5.heap[wr.heap.size]? = some (.cells #[.int .i64 (fN k : Nat), .int .i64 (plN k : Nat), .int .i64 (wdN k : Nat)] 80 (0, 0)) := by rw [hw5]; exact heap_alloc_new _ _
        rw [← hw5]
        have c0 := cell_of_row w5 wr.heap.size 0 _ _ _ c5
        have c1 := cell_of_row w5 wr.heap.size 1 _ _ _ c5
        have c2 := cell_of_row w5 wr.heap.size 2 _ _ _ c5
        simp at c0 c1 c2
        clear c5 hw5 hix
        rw [e1]
        have HE := Lib.hid e5
        clear e1 e5
        go_wp2_with fail
        go_quiet ((go_at_call 41; exact quietD (put_yes s e2 _ _ p e4 (part_is k hlt) _)))
        go_wp2_with fail
        go_roundw
        case rel => exact ⟨k + 1, by go_num, by rw [← HE.out], by omega, HN.out, below_drewN (hbel.trans (hb5.mono hbel.size)) _⟩
        case measure => simp [intOf]; omega
      · have hno : x < 0 ∨ sN k ≤ x := by omega
        obtain ⟨p, e3, e4⟩ := put_field_no hlt hxr hno
        have HB := Lib.hid (not_fit (o := o) hlt (by rw [← HX.out]; exact hno))
        clear hin hno
        go_upto_region 5 with fail
        obtain ⟨w5, hw5⟩ : ∃ w5, w5 = wr.alloc (.cells #[.int .i64 (fN k : Nat), .int .i64 (plN k : Nat), .int .i64 (wdN k : Nat)] 80) := ⟨_, rfl⟩
        have hb5 : Below wr.heap.size wr w5 := by rw [hw5]; exact (Below.refl _ _).alloc (Nat.le_refl _) _
        have g3 := ((HA.out.keep hbel).keep hb5).cell hj
        rw [← HX.out] at g3
        have c5 : w5.heap[wr.heap.size]? = some (.cells #[.int .i64 (fN k : Nat), .int .i64 (plN k : Nat), .int .i64 (wdN k : Nat)] 80 (0, 0)) := by rw [hw5]; exact heap_alloc_new _ _
        rw [← hw5]
        have c0 := cell_of_row w5 wr.heap.size 0 _ _ _ c5
        have c1 := cell_of_row w5 wr.heap.size 1 _ _ _ c5
        have c2 := cell_of_row w5 wr.heap.size 2 _ _ _ c5
        simp at c0 c1 c2
        clear c5 hw5 hix
        go_wp2_with fail
        go_quiet ((go_at_call 41; exact quietD (put_form _ _ _ p e4 (part_is k hlt) _)))
        go_wp2_with fail
        go_ret2
        exact ⟨.inr ⟨HB.out, rfl⟩, below_drewN (hb1.trans ((hbel.trans (hb5.mono hbel.size)).mono hb1.size)) _⟩
    · obtain rfl : k = 9 := by omega
      have hr9 := sumH_range 9 (by omega) HF.out
      obtain ⟨q, hq⟩ : ∃ q, q = sumH o 9 := ⟨_, rfl⟩
      have hw9 : wN 9 = 2097152 := by decide
      rw [hw9, ← hq] at hr9
      obtain ⟨hr0, hr1⟩ := hr9
      rw [← hq]
      have HQ := Lib.hid hq
      clear hq hw9
      go_wp2_with fail
      go_ret2
      exact ⟨.inl ⟨HF.out, by rw [← HQ.out]; rfl⟩, hb1.trans (hbel.mono hb1.size)⟩
end Go.Proofs.YtihbdbgmijkjmaaDoor
namespace Go.Proofs.YtihbdbgmijkjmaaDoor
open Go.RowKit Px Bx
attribute [local go_sem] arr_get
def othersV : List Value := [.int .i64 0, .int .i64 6, .int .i64 7, .int .i64 8, .int .i64 9, .int .i64 12, .int .i64 14, .int .i64 15, .int .i64 16]
/-- The table of the other fields stands there. -/
def TabO (z : World) : Prop := ∃ t, z.heap[1]? = some (.cells othersV.toArray t (0, 0))
theorem TabO.keep {z w : World} (h : TabO z) (hb : Below z.heap.size z w) : TabO w := by
  obtain ⟨t, ht⟩ := h
  exact ⟨t, (hb.block _ (Array.getElem?_eq_some_iff.1 ht).1).trans ht⟩
theorem sizeO : (Tryd.prog.info? 25).map (·.size) = some othersV.toArray.size := by kernel_rfl
theorem index_other : ∀ k, k < 9 → ∀ w, (Instr.index 25 (.agg othersV.toArray) (.int .i64 ((k : Nat) : Int))).run Tryd.prog w = .ok (.int .i64 (olN k : Nat)) w :=
  all9 (fun _ => by kernel_rfl) (fun _ => by kernel_rfl) (fun _ => by kernel_rfl) (fun _ => by kernel_rfl) (fun _ => by kernel_rfl) (fun _ => by kernel_rfl) (fun _ => by kernel_rfl) (fun _ => by kernel_rfl) (fun _ => by kernel_rfl)
/-- The first k fields of the rest are laid. -/
def restK (o : Nat → Int) (k i : Nat) : Int := if i < k then o (olN i) else 0
theorem restK_next (o : Nat → Int) (k : Nat) : ∀ i, i < 9 → updI (restK o k) k (o (olN k)) i = restK o (k + 1) i := by
  intro i _
  unfold updI restK
  by_cases e : i = k
  · subst e; simp
  · by_cases h : i < k
    · rw [if_neg e, if_pos h, if_pos (by omega)]
    · rw [if_neg e, if_neg h, if_neg (by omega)]
theorem restK_all (o : Nat → Int) : ∀ i, i < 9 → restK o 9 i = restF o i :=
  all9 rfl rfl rfl rfl rfl rfl rfl rfl rfl
def ReRel (w3 : World) (H g : Nat) (o : Nat → Int) (i : Value) (wr : World) : Prop :=
  ∃ k : Nat, i = .int .i64 ((k : Nat) : Int) ∧ k ≤ 9 ∧ ArrAt .i64 9 25 wr g (restK o k) ∧ Below H w3 wr
set_option maxRecDepth 100000 in
set_option maxHeartbeats 1000000 in
theorem rest_any {z : World} (T : TabO z) (o : Nat → Int) (w : World) (hz : Below z.heap.size z w) :
    Calls Tryd.prog 23 #[.agg (arr .i64 18 o)] w fun e w' => e = .returned (.agg (arr .i64 9 (restF o))) ∧ Below w.heap.size w w' := by
  obtain ⟨t, ht⟩ := T.keep hz
  go_enter Tryd.func23, Tryd.ntmps23
  go_upto_region 2 with fail
  rw [zero9]
  obtain ⟨w3, hw3⟩ : ∃ w3, w3 = ((w.alloc (.cells (arr .i64 18 o) 56)).alloc (.cells (arr .i64 9 (fun _ => 0)) 25)).alloc (.cells (arr .i64 9 (fun _ => 0)) 25) := ⟨_, rfl⟩
  have ha1 : ArrAt .i64 18 56 w3 w.heap.size o := by rw [hw3]; exact ((ArrAt.new w _ _ _ _).alloc _).alloc _
  have ha2 : ArrAt .i64 9 25 w3 (w.heap.size + 1) (fun _ => 0) := by
    have h := (ArrAt.new (w.alloc (.cells (arr .i64 18 o) 56)) .i64 9 25 (fun _ => 0)).alloc (.cells (arr .i64 9 (fun _ => 0)) 25)
    rw [hw3]; simpa using h
  have ha3 : ArrAt .i64 9 25 w3 (w.heap.size + 2) (fun _ => 0) := by
    have h := ArrAt.new ((w.alloc (.cells (arr .i64 18 o) 56)).alloc (.cells (arr .i64 9 (fun _ => 0)) 25)) .i64 9 25 (fun _ => 0)
    rw [hw3]; simpa using h
  have hb3 : Below w.heap.size w w3 := by rw [hw3]; exact (((Below.refl _ _).alloc (Nat.le_refl _) _).alloc (by simp) _).alloc (by simp; omega) _
  rw [← hw3]
  have hT : w3.heap[1]? = some (.cells othersV.toArray t (0, 0)) := (hb3.block _ (Array.getElem?_eq_some_iff.1 ht).1).trans ht
  clear hw3 ht
  have HA1 := Lib.hid ha1
  have HA2 := Lib.hid ha2
  have HA3 := Lib.hid ha3
  clear ha1 ha2 ha3
  have hsz := sizeO
  go_upto_region 3 with (refine wpList_load_row rfl 25 _ rfl 1 rfl t othersV.toArray (0, 0) _ hT Tryd.underlying25 rfl hsz ?_)
  clear hT hsz
  go_loopw [7] (fun i wr => ReRel w3 (w.heap.size + 2) (w.heap.size + 2) o i wr) (fun i _ => 9 - (intOf i).toNat)
  case atStart => exact ⟨0, rfl, by omega, HA3.out.congr (by intro i _; simp [restK]), Below.refl _ _⟩
  case round =>
    obtain ⟨k, rfl, hk, ha, hbel⟩ := hrel
    have HA := Lib.hid ha
    clear ha
    by_cases hlt : k < 9
    · have hj := olN_lt k hlt
      have hix := index_other k hlt
      have g1 := (HA1.out.below hbel (by omega)).cell hj
      have g2 := HA.out.cell hlt
      have g3 := HA.out.frozen k
      have HS := Lib.hid ((HA.out.set_ k (o (olN k))).congr (restK_next o k))
      have b0 : (0 : Int) ≤ ((olN k : Nat) : Int) := by omega
      have b1 : ((olN k : Nat) : Int) < 18 := by omega
      go_wp2_with fail
      go_roundw
      case rel => exact ⟨k + 1, by go_num, by omega, HS.out, hbel.setCell (by simp) _⟩
      case measure => simp [intOf]; omega
    · obtain rfl : k = 9 := by omega
      have hL := HA.out.congr (restK_all o)
      have hR := (HA2.out.below hbel (by omega))
      have hsz : (Tryd.prog.info? 25).map (·.size) = some (arr .i64 9 (restF o)).size := by rw [arr_size]; exact size9
      have h1c := arr_one .i64 9 (restF o)
      have hbw := hb3.trans (hbel.mono (by omega))
      go_wp2_with (first
        | (refine wpList_load_row rfl 25 (.tmp 3) rfl (w.heap.size + 2) rfl 25 _ (0, 0) _ hL Tryd.underlying25 rfl hsz ?_)
        | (refine wpList_store_row rfl 25 (.tmp 2) (.tmp 17) rfl (w.heap.size + 1) _ rfl rfl 25 (arr .i64 9 (fun _ => 0)) hR hsz (by rw [arr_size, arr_size]) h1c ?_))
      exact bodyPost_ret (v := .agg (arr .i64 9 (restF o)))
        (results_cell_row (ty := 25) (p := 2) (by kernel_rfl) _ _ (w.heap.size + 1) 25 _ (0, 0) _ rfl (hR.setRow _) Tryd.underlying25 rfl hsz)
        rfl ⟨rfl, below_setRow hbw _ _ (by omega)⟩
end Go.Proofs.YtihbdbgmijkjmaaDoor
namespace Go.Proofs.YtihbdbgmijkjmaaDoor
open Go.RowKit Px Bx
attribute [local go_sem] arr_get
/-- The object behind the first k fields of the rest. -/
def objR (x : Int) (r : Nat → Int) : Nat → Nat → Int
  | 0 => objK x 9
  | k + 1 => updI (objR x r k) (olN k) (r k)
theorem objR_all (x : Int) (r : Nat → Int) : ∀ i, i < 18 → objR x r 9 i = objF x r i := obj_laid x r
def ObRel (w5 : World) (H g : Nat) (x : Int) (i : Value) (wr : World) : Prop :=
  ∃ k : Nat, i = .int .i64 ((k : Nat) : Int) ∧ k ≤ 9 ∧ ArrAt .i64 18 56 wr g (objK x k) ∧ Below H w5 wr
def ObRel2 (w5 : World) (H g : Nat) (x : Int) (r : Nat → Int) (i : Value) (wr : World) : Prop :=
  ∃ k : Nat, i = .int .i64 ((k : Nat) : Int) ∧ k ≤ 9 ∧ ArrAt .i64 18 56 wr g (objR x r k) ∧ Below H w5 wr
/-- What stands while a part is read and stored: the part's own cells, and all below block B. -/
def HeldP (wr : World) (B g : Nat) (a b c : Int) (W : World) : Prop := W.cell? ⟨g, 0, none⟩ = some (.int .i64 a) ∧ W.cell? ⟨g, 1, none⟩ = some (.int .i64 b) ∧ W.cell? ⟨g, 2, none⟩ = some (.int .i64 c) ∧ Below B wr W
theorem HeldP.drewN {wr W : World} {B g : Nat} {a b c : Int} (h : HeldP wr B g a b c W) (m : Nat) : HeldP wr B g a b c (W.drewN m) := ⟨h.1, h.2.1, h.2.2.1, below_drewN h.2.2.2 m⟩
theorem HeldP.store {wr W : World} {B g : Nat} {a b c : Int} (h : HeldP wr B g a b c W) {p : Addr} (hp : B ≤ p.block) (hg : p.block ≠ g) (v : Value) : HeldP wr B g a b c (W.setCell p v) := by
  have e : ∀ i, (W.setCell p v).cell? ⟨g, i, none⟩ = W.cell? ⟨g, i, none⟩ := fun i => World.cell?_setCell_other _ _ _ _ (fun e => hg (by have h := congrArg Addr.block e; simpa using h))
  exact ⟨(e 0).trans h.1, (e 1).trans h.2.1, (e 2).trans h.2.2.1, h.2.2.2.setCell hp _⟩
theorem shr21 (x : Int) (h : x < 2097152) (h0 : 0 ≤ x) : (x / 2097152 != 0) = false := by simp; omega
theorem shr21' (x : Int) (h : 2097152 ≤ x) : (x / 2097152 != 0) = true := by simp; omega
set_option maxRecDepth 100000 in
set_option maxHeartbeats 1000000 in
theorem object_form (x : Int) (r : Nat → Int) (w : World) (hx : 2097152 ≤ x) (hx1 : x < 4294967296) :
    Calls Tryd.prog 69 #[.int .u32 x, .agg (arr .i64 9 r)] w (ROPost x r w .nilIface (.iface 65 (.int .i64 2))) := by
  have hne := shr21' x hx
  have hx0 : 0 ≤ x := by omega
  go_enter Tryd.func69, Tryd.ntmps69
  go_upto_region 1 with fail
  rw [zero18]
  obtain ⟨w2, hw2⟩ : ∃ w2, w2 = (w.alloc (.cells (arr .i64 9 r) 25)).alloc (.cells (arr .i64 18 (fun _ => 0)) 56) := ⟨_, rfl⟩
  have ha2 : ArrAt .i64 18 56 w2 (w.heap.size + 1) (fun _ => 0) := by
    have h := ArrAt.new (w.alloc (.cells (arr .i64 9 r) 25)) .i64 18 56 (fun _ => 0)
    rw [hw2]; simpa using h
  have hb2 : Below w.heap.size w w2 := by rw [hw2]; exact ((Below.refl _ _).alloc (Nat.le_refl _) _).alloc (by simp) _
  rw [← hw2]
  clear hw2
  have hsz : (Tryd.prog.info? 56).map (·.size) = some (arr .i64 18 (fun _ => 0)).size := by rw [arr_size]; exact size18
  have h1c := arr_one .i64 18 (fun _ => 0)
  have hz := zero18
  go_wp2_with (refine wpList_store_row rfl 56 (.tmp 4) (.tmp 14) rfl (w.heap.size + 1) _ rfl rfl 56 (arr .i64 18 (fun _ => 0)) ha2 hsz rfl h1c ?_)
  refine bodyPost_ret (v := .tuple #[.agg (arr .i64 18 (fun _ => 0)), .iface 65 (.int .i64 2)]) ?_ rfl ⟨.inr ⟨hx, rfl⟩, below_setRow hb2 _ _ (by omega)⟩
  exact results_cell_tmp (ty := 56) (p := 4) (q := 5) (by kernel_rfl) _ _ (w.heap.size + 1) 56 _ (0, 0) _ rfl (ha2.setRow _) Tryd.underlying56 rfl hsz
set_option linter.unusedSimpArgs false in
set_option maxRecDepth 100000 in
set_option maxHeartbeats 2000000 in
theorem object_yes {z : World} (TP : TabP z) (TO : TabO z) (x : Int) (r : Nat → Int) (w : World) (hx0 : 0 ≤ x) (hx : x < 2097152) (hz : Below z.heap.size z w) :
    Calls Tryd.prog 69 #[.int .u32 x, .agg (arr .i64 9 r)] w (ROPost x r w .nilIface (.iface 65 (.int .i64 2))) := by
  obtain ⟨t, ht⟩ := TP.keep hz
  obtain ⟨u, hu⟩ := TO.keep hz
  have hne := shr21 x hx hx0
  have hx1 : x < 4294967296 := by omega
  go_enter Tryd.func69, Tryd.ntmps69
  go_upto_region 4 with fail
  rw [zero18]
  obtain ⟨w3, hw3⟩ : ∃ w3, w3 = ((w.alloc (.cells (arr .i64 9 r) 25)).alloc (.cells (arr .i64 18 (fun _ => 0)) 56)).alloc (.cells (arr .i64 18 (fun _ => 0)) 56) := ⟨_, rfl⟩
  have ha1 : ArrAt .i64 9 25 w3 w.heap.size r := by rw [hw3]; exact ((ArrAt.new w _ _ _ _).alloc _).alloc _
  have ha2 : ArrAt .i64 18 56 w3 (w.heap.size + 1) (fun _ => 0) := by
    have h := (ArrAt.new (w.alloc (.cells (arr .i64 9 r) 25)) .i64 18 56 (fun _ => 0)).alloc (.cells (arr .i64 18 (fun _ => 0)) 56)
    rw [hw3]; simpa using h
  have ha3 : ArrAt .i64 18 56 w3 (w.heap.size + 2) (fun _ => 0) := by
    have h := ArrAt.new ((w.alloc (.cells (arr .i64 9 r) 25)).alloc (.cells (arr .i64 18 (fun _ => 0)) 56)) .i64 18 56 (fun _ => 0)
    rw [hw3]; simpa using h
  have hb3 : Below w.heap.size w w3 := by rw [hw3]; exact (((Below.refl _ _).alloc (Nat.le_refl _) _).alloc (by simp) _).alloc (by simp; omega) _
  rw [← hw3]
  have hs3 := ha3.lt
  have hT : w3.heap[0]? = some (.cells partsV.toArray t (0, 0)) := (hb3.block _ (Array.getElem?_eq_some_iff.1 ht).1).trans ht
  have gO : 1 < w.heap.size := (Array.getElem?_eq_some_iff.1 hu).1
  have HO := Lib.hid ((hb3.block _ gO).trans hu)
  clear hw3 ht hu
  have HA1 := Lib.hid ha1
  have HA2 := Lib.hid ha2
  have HA3 := Lib.hid ha3
  have HZ := Lib.hid hne
  clear ha1 ha2 ha3 hne
  have hsz : (Tryd.prog.info? 81).map (·.size) = some partsV.toArray.size := sizeP
  go_upto_region 5 with (refine wpList_load_row rfl 81 _ rfl 0 rfl t partsV.toArray (0, 0) _ hT Tryd.underlying81 rfl hsz ?_)
  clear hT hsz
  go_loopw [17] (fun i wr => ObRel w3 (w.heap.size + 2) (w.heap.size + 2) x i wr) (fun i _ => 9 - (intOf i).toNat)
  case atStart => exact ⟨0, rfl, by omega, HA3.out, Below.refl _ _⟩
  case round =>
    obtain ⟨k, rfl, hk, ha, hbel⟩ := hrel
    have HA := Lib.hid ha
    clear ha
    by_cases hlt : k < 9
    · have hj := fN_lt k hlt
      have hix := index_part k hlt
      obtain ⟨s, y, e1, e2, e3, e4, e5⟩ := part_field hlt hx0 hx1
      have HY := Lib.hid e3
      have HE := Lib.hid e4
      clear e3 e4
      have hsl := HA.out.lt
      go_upto_region 7 with fail
      obtain ⟨w5, hw5⟩ : ∃ w5, w5 = wr.alloc (.cells #[.int .i64 (fN k : Nat), .int .i64 (plN k : Nat), .int .i64 (wdN k : Nat)] 80) := ⟨_, rfl⟩
      have hb5 : Below wr.heap.size wr w5 := by rw [hw5]; exact (Below.refl _ _).alloc (Nat.le_refl _) _
      have c5 : w5.heap[wr.heap.size]? = some (.cells #[.int .i64 (fN k : Nat), .int .i64 (plN k : Nat), .int .i64 (wdN k : Nat)] 80 (0, 0)) := by rw [hw5]; exact heap_alloc_new _ _
      have l5 : wr.heap.size < w5.heap.size := (Array.getElem?_eq_some_iff.1 c5).1
      rw [← hw5]
      have hH : HeldP wr (w.heap.size + 2) wr.heap.size (fN k : Nat) (plN k : Nat) (wdN k : Nat) w5 := ⟨by rw [cell_of_row w5 wr.heap.size 0 _ _ _ c5]; rfl, by rw [cell_of_row w5 wr.heap.size 1 _ _ _ c5]; rfl, by rw [cell_of_row w5 wr.heap.size 2 _ _ _ c5]; rfl, hb5.mono (by omega)⟩
      have c0 : ∀ W, HeldP wr (w.heap.size + 2) wr.heap.size (fN k : Nat) (plN k : Nat) (wdN k : Nat) W → W.cell? ⟨wr.heap.size, 0, none⟩ = some (.int .i64 (fN k : Nat)) := fun W hW => hW.1
      have c1 : ∀ W, HeldP wr (w.heap.size + 2) wr.heap.size (fN k : Nat) (plN k : Nat) (wdN k : Nat) W → W.cell? ⟨wr.heap.size, 1, none⟩ = some (.int .i64 (plN k : Nat)) := fun W hW => hW.2.1
      have c2 : ∀ W, HeldP wr (w.heap.size + 2) wr.heap.size (fN k : Nat) (plN k : Nat) (wdN k : Nat) W → W.cell? ⟨wr.heap.size, 2, none⟩ = some (.int .i64 (wdN k : Nat)) := fun W hW => hW.2.2.1
      clear c5 hw5 hix
      have HA5 := Lib.hid (HA.out.keep hb5)
      have b0 : (0 : Int) ≤ ((fN k : Nat) : Int) := by omega
      have b1 : ((fN k : Nat) : Int) < 18 := by omega
      refine wp_region_held_drew (S := HeldP wr (w.heap.size + 2) wr.heap.size (fN k : Nat) (plN k : Nat) (wdN k : Nat)) (by kernel_rfl) (hH.drewN 1) (fun hHeld => ?_)
      refine wpAnyH_take (i := 0) (v := ?_) rfl (by kernel_rfl) (by kernel_rfl) (by kernel_rfl) (fun _ _ _ h => h) (Or.inl ⟨by rfl, ?_⟩) hHeld ?_
      rotate_left
      · (intro w hSw; go_simp; (try with_reducible rfl))
      simp only [Act.put, List.getElem_toArray, List.getElem_cons_zero, List.getElem_cons_succ, List.setIfInBounds_toArray, List.set_cons_zero, List.set_cons_succ]
      refine wpAnyH_take (i := 1) (v := ?_) rfl (by kernel_rfl) (by kernel_rfl) (by kernel_rfl) (fun _ _ _ h => h) (Or.inl ⟨by rfl, ?_⟩) hHeld ?_
      rotate_left
      · (intro w hSw; go_simp; (try with_reducible rfl))
      simp only [Act.put, List.getElem_toArray, List.getElem_cons_zero, List.getElem_cons_succ, List.setIfInBounds_toArray, List.set_cons_zero, List.set_cons_succ]
      refine wpAnyH_take (i := 2) (v := ?_) rfl (by kernel_rfl) (by kernel_rfl) (by kernel_rfl) (fun _ _ _ h => h) (Or.inl ⟨by rfl, ?_⟩) hHeld ?_
      rotate_left
      · (intro w hSw; go_simp; (try with_reducible rfl))
      simp only [Act.put, List.getElem_toArray, List.getElem_cons_zero, List.getElem_cons_succ, List.setIfInBounds_toArray, List.set_cons_zero, List.set_cons_succ]
      refine wpAnyH_take (i := 3) (v := ?_) rfl (by kernel_rfl) (by kernel_rfl) (by kernel_rfl) (fun _ _ _ h => h) (Or.inl ⟨by rfl, ?_⟩) hHeld ?_
      rotate_left
      · (intro w hSw; go_simp; (try with_reducible rfl))
      simp only [Act.put, List.getElem_toArray, List.getElem_cons_zero, List.getElem_cons_succ, List.setIfInBounds_toArray, List.set_cons_zero, List.set_cons_succ]
      refine wpAnyH_take (i := 4) (v := ?_) rfl (by kernel_rfl) (by kernel_rfl) (by kernel_rfl) (fun _ _ _ h => h) (Or.inl ⟨by rfl, ?_⟩) hHeld ?_
      rotate_left
      · (intro w hSw; go_simp; (try with_reducible rfl))
      simp only [Act.put, List.getElem_toArray, List.getElem_cons_zero, List.getElem_cons_succ, List.setIfInBounds_toArray, List.set_cons_zero, List.set_cons_succ]
      refine wpAnyH_take (i := 5) (v := ?_) rfl (by kernel_rfl) (by kernel_rfl) (by kernel_rfl) (fun _ _ _ h => h) (Or.inl ⟨by rfl, ?_⟩) hHeld ?_
      rotate_left
      · (intro w hSw; go_simp; (try with_reducible rfl))
      simp only [Act.put, List.getElem_toArray, List.getElem_cons_zero, List.getElem_cons_succ, List.setIfInBounds_toArray, List.set_cons_zero, List.set_cons_succ]
      refine wpAnyH_take (i := 6) (v := ?_) rfl (by kernel_rfl) (by kernel_rfl) (by kernel_rfl) (fun _ _ _ h => h) (Or.inl ⟨by rfl, ?_⟩) hHeld ?_
      rotate_left
      · (intro w hSw; go_simp; (try with_reducible rfl))
      simp only [Act.put, List.getElem_toArray, List.getElem_cons_zero, List.getElem_cons_succ, List.setIfInBounds_toArray, List.set_cons_zero, List.set_cons_succ]
      refine wpAnyH_take (i := 7) (v := ?_) rfl (by kernel_rfl) (by kernel_rfl) (by kernel_rfl) (fun _ _ _ h => h) (Or.inl ⟨by rfl, ?_⟩) hHeld ?_
      rotate_left
      · (intro w hSw; go_simp; (try with_reducible rfl))
      simp only [Act.put, List.getElem_toArray, List.getElem_cons_zero, List.getElem_cons_succ, List.setIfInBounds_toArray, List.set_cons_zero, List.set_cons_succ]
      refine wpAnyH_ready (rs := [8]) (by kernel_rfl) (by simp) ?_
      refine AllReadyH.cons rfl (fun K hK => ?_) AllReadyH.nil
      simp only [List.getElem_toArray, List.getElem_cons_zero, List.getElem_cons_succ]
      go_simp
      refine (part_yes s e2 _ _ (part_is k hlt) _).mono ?_
      rintro e w' ⟨rfl, m, rfl⟩
      rw [show partB s ((plN k : Nat) : Int).toNat ((wdN k : Nat) : Int).toNat = y from HY.out]
      have hA7 : ArrAt .i64 18 56 (w5.drew.drewN m) (w.heap.size + 2) (objK x k) := HA5.out
      have hB7 := hHeld.drewN m
      clear hHeld
      refine hK.out _ _ hB7 (fun _ => ?_)
      clear hK K
      try simp only [Act.put, List.setIfInBounds_toArray, List.set_cons_zero, List.set_cons_succ]
      generalize w5.drew.drewN m = W0 at hA7 hB7 ⊢
      clear e1
      have hHeld := hB7
      have hwy : IntKind.i64.wrap (y : Int) = (y : Int) := by rw [IntKind.wrap_i64]; omega
      refine wpAnyH_take (i := 9) (v := ?_) rfl (by kernel_rfl) (by kernel_rfl) (by kernel_rfl) (fun _ _ _ h => h) (Or.inl ⟨by rfl, ?_⟩) hHeld ?_
      rotate_left
      · (intro w hSw; go_simp; (try with_reducible rfl))
      simp only [Act.put, List.getElem_toArray, List.getElem_cons_zero, List.getElem_cons_succ, List.setIfInBounds_toArray, List.set_cons_zero, List.set_cons_succ]
      refine wpAnyH_take (i := 10) (v := ?_) rfl (by kernel_rfl) (by kernel_rfl) (by kernel_rfl) (fun _ _ _ h => h) (Or.inl ⟨by rfl, ?_⟩) hHeld ?_
      rotate_left
      · (intro w hSw; go_simp; (try with_reducible rfl))
      simp only [Act.put, List.getElem_toArray, List.getElem_cons_zero, List.getElem_cons_succ, List.setIfInBounds_toArray, List.set_cons_zero, List.set_cons_succ]
      refine wpAnyH_ready (rs := [11]) (by kernel_rfl) (by simp) ?_
      refine AllReadyH.cons rfl (fun K hK => ?_) AllReadyH.nil
      simp only [List.getElem_toArray, List.getElem_cons_zero, List.getElem_cons_succ]
      have q1 := hA7.cell hj
      have q2 := hA7.frozen (fN k)
      have HS := Lib.hid (hA7.set_ (fN k) y)
      have hB8 := hHeld.store (p := ⟨w.heap.size + 2, fN k, none⟩) (Nat.le_refl _) (by simp; omega) (.int .i64 y)
      go_simp
      refine hK.out _ _ hB8 (fun _ => ?_)
      clear hK K q1 q2 hHeld hA7 hwy
      refine wpAnyH_done (by kernel_rfl) ?_ _
      go_wp2_with fail
      go_roundw
      case rel => exact ⟨k + 1, by go_num, by omega, HS.out.congr (fun i _ => by rw [HE.out]; rfl), hbel.trans (hB8.2.2.2)⟩
      case measure => simp [intOf]; omega
    · obtain rfl : k = 9 := by omega
      have hT : wr.heap[1]? = some (.cells othersV.toArray u (0, 0)) := (hbel.block _ (by omega)).trans HO.out
      have HR1 := Lib.hid (HA1.out.below hbel (by omega))
      have HR2 := Lib.hid (HA2.out.below hbel (by omega))
      have hbw := hb3.trans (hbel.mono (by omega))
      have hsz := sizeO
      clear hbel
      go_upto_region 10 with (refine wpList_load_row rfl 25 _ rfl 1 rfl u othersV.toArray (0, 0) _ hT Tryd.underlying25 rfl hsz ?_)
      clear hT hsz
      obtain ⟨w4, hw4⟩ : ∃ w4 : World, w4 = wr := ⟨_, rfl⟩
      rw [← hw4] at HR1 HR2 HA hbw ⊢
      clear hw4 wr
      go_loopw [33] (fun i wr => ObRel2 w4 (w.heap.size + 2) (w.heap.size + 2) x r i wr) (fun i _ => 9 - (intOf i).toNat)
      case atStart => exact ⟨0, rfl, by omega, HA.out, Below.refl _ _⟩
      case round =>
        obtain ⟨k, rfl, hk, ha, hbel⟩ := hrel
        have HB := Lib.hid ha
        clear ha
        by_cases hlt : k < 9
        · have hj := olN_lt k hlt
          have hix := index_other k hlt
          have g1 := (HR1.out.below hbel (by omega)).cell hlt
          have g2 := HB.out.cell hj
          have g3 := HB.out.frozen (olN k)
          have HS := Lib.hid (HB.out.set_ (olN k) (r k))
          have b0 : (0 : Int) ≤ ((olN k : Nat) : Int) := by omega
          have b1 : ((olN k : Nat) : Int) < 18 := by omega
          go_wp2_with fail
          go_roundw
          case rel => exact ⟨k + 1, by go_num, by omega, HS.out, hbel.setCell (by simp) _⟩
          case measure => simp [intOf]; omega
        · obtain rfl : k = 9 := by omega
          have hL := HB.out.congr (objR_all x r)
          have hR := HR2.out.below hbel (by omega)
          have hsz : (Tryd.prog.info? 56).map (·.size) = some (arr .i64 18 (objF x r)).size := by rw [arr_size]; exact size18
          have h1c := arr_one .i64 18 (objF x r)
          have hbw' := hbw.trans (hbel.mono (by omega))
          go_wp2_with (first
            | (refine wpList_load_row rfl 56 (.tmp 6) rfl (w.heap.size + 2) rfl 56 _ (0, 0) _ hL Tryd.underlying56 rfl hsz ?_)
            | (refine wpList_store_row rfl 56 (.tmp 4) (.tmp 43) rfl (w.heap.size + 1) _ rfl rfl 56 (arr .i64 18 (fun _ => 0)) hR hsz (by rw [arr_size, arr_size]) h1c ?_))
          refine bodyPost_ret (v := .tuple #[.agg (arr .i64 18 (objF x r)), .nilIface]) ?_ rfl ⟨.inl ⟨hx, rfl⟩, below_setRow hbw' _ _ (by omega)⟩
          exact results_cell_tmp (ty := 56) (p := 4) (q := 5) (by kernel_rfl) _ _ (w.heap.size + 1) 56 _ (0, 0) _ rfl (hR.setRow _) Tryd.underlying56 rfl hsz
theorem object_any {z : World} (TP : TabP z) (TO : TabO z) (x : Int) (r : Nat → Int) (w : World) (hx0 : 0 ≤ x) (hx1 : x < 4294967296) (hz : Below z.heap.size z w) :
    Calls Tryd.prog 69 #[.int .u32 x, .agg (arr .i64 9 r)] w (ROPost x r w .nilIface (.iface 65 (.int .i64 2))) := by
  by_cases h : x < 2097152
  · exact object_yes TP TO x r w hx0 h hz
  · exact object_form x r w (by omega) hx1
end Go.Proofs.YtihbdbgmijkjmaaDoor
