/- Plain facts on sets of 64 bits: rows of bools, and the numbers that they are. -/
import Derived.WalkKit
import Derived.Deep.QuietTactic
namespace Go.Proofs.YtplfblccaeligaaDoor
namespace Bx
open Go.RowKit

/-- The number whose bits below k are those of f. -/
def numB (f : Nat → Bool) : Nat → Nat
  | 0 => 0
  | k + 1 => numB f k + if f k then 2 ^ k else 0

theorem numB_lt (f : Nat → Bool) (k : Nat) : numB f k < 2 ^ k := by
  induction k with
  | zero => simp [numB]
  | succ k ih => simp only [numB]; rw [Nat.pow_succ]; split <;> omega

theorem testBit_numB (f : Nat → Bool) (k i : Nat) : (numB f k).testBit i = (decide (i < k) && f i) := by
  induction k with
  | zero => simp [numB]
  | succ k ih =>
    have hlt := numB_lt f k
    simp only [numB]
    by_cases hf : f k = true
    · rw [if_pos hf, Nat.add_comm, show 2 ^ k + numB f k = 2 ^ k * 1 + numB f k by omega, Nat.testBit_two_pow_mul_add 1 hlt i, ih]
      by_cases h1 : i < k
      · simp [h1, Nat.lt_succ_of_lt h1]
      · by_cases hik : i = k
        · subst hik; simp [hf]
        · simp [h1, show ¬ i < k + 1 by omega]
          have h2 : ¬ i - k = 0 := by omega
          rw [← Bool.not_eq_true, Nat.testBit_one_eq_true_iff_self_eq_zero]; exact h2
    · rw [if_neg hf, Nat.add_zero, ih]
      by_cases hik : i = k
      · subst hik; simp [hf]
      · by_cases h1 : i < k
        · simp [h1, Nat.lt_succ_of_lt h1]
        · simp [h1, show ¬ i < k + 1 by omega]

/-- Two numbers below 2^64 that have the same 64 bits. -/
theorem ext64 {a b : Nat} (ha : a < 2 ^ 64) (hb : b < 2 ^ 64) (h : ∀ i, i < 64 → a.testBit i = b.testBit i) : a = b := by
  apply Nat.eq_of_testBit_eq
  intro i
  by_cases hi : i < 64
  · exact h i hi
  · have h1 : 2 ^ 64 ≤ 2 ^ i := Nat.pow_le_pow_right (by omega) (by omega)
    rw [Nat.testBit_lt_two_pow (Nat.lt_of_lt_of_le ha h1), Nat.testBit_lt_two_pow (Nat.lt_of_lt_of_le hb h1)]

/-- A row of 64 bools. -/
def row (f : Nat → Bool) : Array Value := (Array.range 64).map fun i => Value.bool (f i)
theorem row_size (f : Nat → Bool) : (row f).size = 64 := by simp [row]
theorem row_get (f : Nat → Bool) (i : Nat) (h : i < 64) : (row f)[i]? = some (.bool (f i)) := by
  simp [row, h]
/-- f, but for one place. -/
def upd (f : Nat → Bool) (k : Nat) (b : Bool) : Nat → Bool := fun i => if i = k then b else f i
theorem row_set (f : Nat → Bool) (k : Nat) (b : Bool) : (row f).setIfInBounds k (.bool b) = row (upd f k b) := by
  apply Array.ext
  · simp [row]
  · intro i h1 h2
    simp [row] at h1 h2
    rw [Array.getElem_setIfInBounds (by rw [row_size]; exact h2)]
    simp [row, upd]
    by_cases e : k = i
    · subst e; simp
    · simp [e, show ¬ i = k from fun h => e h.symm]
theorem row_congr {f g : Nat → Bool} (h : ∀ i, i < 64 → f i = g i) : row f = row g := by
  apply Array.ext
  · simp [row]
  · intro i h1 h2
    simp [row] at h1
    simp [row, h i h1]
theorem row_one (f : Nat → Bool) : (row f).all (·.oneCell') = true := by
  rw [Array.all_eq_true]; intro i hi; simp [row, Value.oneCell']
theorem row_false : Array.replicate 64 (Value.bool false) = row fun _ => false := by
  apply Array.ext
  · simp [row]
  · intro i h1 h2
    simp [row]

/-- The first bit of what is left behind k halvings. -/
theorem bit_of_div (x k : Nat) : (((x / 2 ^ k : Nat) : Int) % 2 == 1) = x.testBit k := by
  rw [Nat.testBit_eq_decide_div_mod_eq]
  rw [Bool.eq_iff_iff, beq_iff_eq, decide_eq_true_eq]; omega
theorem div_succ (x k : Nat) : x / 2 ^ k / 2 = x / 2 ^ (k + 1) := by rw [Nat.div_div_eq_div_mul, Nat.pow_succ]

/-- What an int is behind a place: from 0 to 64. -/
def clamp (n : Int) : Nat := (min (max n 0) 64).toNat
theorem clamp_le (n : Int) : clamp n ≤ 64 := by unfold clamp; omega
/-- All bits below n. -/
def mask (n : Nat) : Nat := 2 ^ n - 1
theorem mask_lt (n : Nat) (h : n ≤ 64) : mask n < 2 ^ 64 := by
  unfold mask
  have := Nat.pow_le_pow_right (n := 2) (by omega) h
  have := Nat.two_pow_pos n
  omega
theorem testBit_mask (n i : Nat) : (mask n).testBit i = decide (i < n) := by
  unfold mask; rw [Nat.testBit_two_pow_sub_one]

/-- What the set of a number with, or without, one is. -/
def setB (x : Nat) (i : Int) (b : Bool) : Nat := numB (fun k => if (k : Int) = i then b else x.testBit k) 64
/-- From one to another one. -/
def spanB (a b : Int) : Nat := numB (fun k => decide (a ≤ (k : Int)) && decide ((k : Int) < b)) 64
/-- Is there such a part? -/
def isB (a n : Int) : Bool := decide (0 ≤ a) && decide (1 ≤ n) && decide (n ≤ 64) && decide (a ≤ 64 - n)
/-- A part's worth. -/
def partB (x : Nat) (a n : Nat) : Nat := numB (fun k => decide (k < n) && x.testBit (a + k)) 64
/-- What is laid. -/
def putB (x : Nat) (a n : Nat) (p : Nat) : Nat := numB (fun k => if a ≤ k ∧ k < a + n then p.testBit (k - a) else x.testBit k) 64

/-- May it be in a set? -/
def memB (i : Int) : Bool := decide (0 ≤ i) && decide (i < 64)
theorem memB_true {i : Int} (h : memB i = true) : 0 ≤ i ∧ i < 64 := by simpa [memB] using h
theorem memB_false {i : Int} (h : memB i = false) : i < 0 ∨ 64 ≤ i := by
  unfold memB at h
  by_cases h0 : 0 ≤ i
  · simp [h0] at h; omega
  · omega
/-- Is that a width? -/
def widB (n : Int) : Bool := decide (1 ≤ n) && decide (n ≤ 64)
theorem widB_true {n : Int} (h : widB n = true) : 1 ≤ n ∧ n ≤ 64 := by simpa [widB] using h
theorem widB_false {n : Int} (h : widB n = false) : n < 1 ∨ 64 < n := by
  unfold widB at h
  by_cases h0 : 1 ≤ n
  · simp [h0] at h; omega
  · omega
theorem isB_true {a n : Int} (h : isB a n = true) : 0 ≤ a ∧ 1 ≤ n ∧ n ≤ 64 ∧ a ≤ 64 - n := by
  simp [isB] at h; omega
theorem isB_false {a n : Int} (h : isB a n = false) : a < 0 ∨ n < 1 ∨ 64 < n ∨ 64 - n < a := by
  unfold isB at h
  by_cases h0 : 0 ≤ a
  · by_cases h1 : 1 ≤ n
    · by_cases h2 : n ≤ 64
      · simp [h0, h1, h2] at h; omega
      · omega
    · omega
  · omega

theorem ret_int {k : IntKind} {a b : Int} (h : a = b) : Ending.returned (.int k a) = .returned (.int k b) := by rw [h]
theorem ret_bool {a b : Bool} (h : a = b) : Ending.returned (.bool a) = .returned (.bool b) := by rw [h]
theorem ret_int_nil {k : IntKind} {a b : Int} (h : a = b) : Ending.returned (.tuple #[.int k a, .nilIface]) = .returned (.tuple #[.int k b, .nilIface]) := by rw [h]
theorem below_mid (n : Int) (h0 : 0 ≤ n) (h1 : n ≤ 64) : IntKind.u64.wrap (IntKind.u64.wrap (2 ^ n.toNat) - 1) = ((mask (clamp n) : Nat) : Int) := by
  obtain ⟨k, rfl⟩ := Int.eq_ofNat_of_zero_le h0
  have hk : k ≤ 64 := by omega
  have hc : clamp (k : Int) = k := by unfold clamp; omega
  rw [hc, Int.toNat_natCast, IntKind.wrap_u64, IntKind.wrap_u64]
  have e : (2 : Int) ^ k = ((2 ^ k : Nat) : Int) := by simp
  rw [e]
  unfold mask
  have hp := Nat.two_pow_pos k
  have hle : 2 ^ k ≤ 2 ^ 64 := Nat.pow_le_pow_right (by omega) hk
  generalize 2 ^ k = m at *
  omega
theorem below_lo (n : Int) (h0 : n < 0) : IntKind.u64.wrap (IntKind.u64.wrap 1 - 1) = ((mask (clamp n) : Nat) : Int) := by
  have hc : clamp n = 0 := by unfold clamp; omega
  rw [hc, IntKind.wrap_u64, IntKind.wrap_u64]; rfl
theorem below_hi (n : Int) (h0 : 64 < n) : IntKind.u64.wrap (IntKind.u64.wrap 18446744073709551616 - 1) = ((mask (clamp n) : Nat) : Int) := by
  have hc : clamp n = 64 := by unfold clamp; omega
  rw [hc, IntKind.wrap_u64, IntKind.wrap_u64]; rfl
theorem int_shr (x k : Nat) : (x : Int) / 2 ^ k = ((x / 2 ^ k : Nat) : Int) := by simp
theorem shr_lt {x : Nat} (hx : x < 18446744073709551616) (k : Nat) : x / 2 ^ k < 18446744073709551616 := Nat.lt_of_le_of_lt (Nat.div_le_self _ _) hx
theorem has_bit (x : Nat) (hx : x < 18446744073709551616) (k : Nat) : (bits .and .u64 ((x : Int) / 2 ^ k) 1 == 1) = x.testBit k := by
  rw [int_shr, show (1 : Int) = ((1 : Nat) : Int) from rfl, u64_and_nat _ _ (shr_lt hx k) (by decide), nat_mask1, ← bit_of_div]
  rw [Bool.eq_iff_iff, beq_iff_eq, beq_iff_eq]; omega

/-- For a call inside a region that draws: callees that leave the world alone, or only draw. -/
theorem quietL {P : Program} {f : FuncId} {args : Array Value} {w : World} {n : Nat} {v : Value}
    (h : Calls P f args (w.drewN n) fun e w' => e = .returned v ∧ w.drewN n = w') : Calls P f args (w.drewN n) fun e w'' => e = .returned v ∧ ∃ m, w'' = w.drewN m :=
  h.mono fun _ _ ⟨he, hm⟩ => ⟨he, n, hm.symm⟩
theorem quietD {P : Program} {f : FuncId} {args : Array Value} {w : World} {n : Nat} {v : Value}
    (h : Calls P f args (w.drewN n) fun e w' => e = .returned v ∧ ∃ m, w' = (w.drewN n).drewN m) : Calls P f args (w.drewN n) fun e w'' => e = .returned v ∧ ∃ m, w'' = w.drewN m :=
  h.mono fun _ _ ⟨he, m, hm⟩ => ⟨he, n + m, by rw [hm, World.drewN_drewN]⟩

theorem part_val (x : Nat) (hx : x < 18446744073709551616) (k : Nat) (n : Int) (h2 : 1 ≤ n) (h3 : n ≤ 64) :
    bits .and .u64 ((x : Int) / 2 ^ k) ((mask (clamp n) : Nat) : Int) = ((partB x (k : Int).toNat n.toNat : Nat) : Int) := by
  have hc : clamp n = n.toNat := by unfold clamp; omega
  rw [int_shr, u64_and_nat _ _ (shr_lt hx k) (mask_lt _ (clamp_le n)), hc, Int.toNat_natCast]
  congr 1
  apply ext64
  · exact Nat.lt_of_le_of_lt Nat.and_le_left (shr_lt hx k)
  · exact numB_lt _ _
  · intro i hi
    rw [Nat.testBit_and, Nat.testBit_div_two_pow, testBit_mask]
    unfold partB
    rw [testBit_numB]
    simp [hi, Nat.add_comm, Bool.and_comm]
theorem span_val (a b : Int) : bits .andNot .u64 ((mask (clamp b) : Nat) : Int) ((mask (clamp a) : Nat) : Int) = ((spanB a b : Nat) : Int) := by
  have h1 := mask_lt _ (clamp_le b)
  have h2 := mask_lt _ (clamp_le a)
  rw [u64_andNot_nat _ _ h1 h2]
  congr 1
  apply ext64
  · exact Nat.lt_of_le_of_lt Nat.and_le_left h1
  · exact numB_lt _ _
  · intro i hi
    rw [Nat.testBit_and, show 18446744073709551615 - mask (clamp a) = 2 ^ 64 - (mask (clamp a) + 1) by omega, Nat.testBit_two_pow_sub_succ h2, testBit_mask, testBit_mask]
    unfold spanB
    rw [testBit_numB]
    simp only [hi, decide_true, Bool.true_and]
    have e1 : decide (i < clamp b) = decide ((i : Int) < b) := by rw [decide_eq_decide]; unfold clamp; omega
    have e2 : decide (i < clamp a) = !decide (a ≤ (i : Int)) := by rw [← decide_not, decide_eq_decide]; unfold clamp; omega
    rw [e1, e2, Bool.not_not, Bool.and_comm]

theorem shl_u64 (m k : Nat) (h : m * 2 ^ k < 18446744073709551616) : IntKind.u64.wrap ((m : Int) * 2 ^ k) = ((m * 2 ^ k : Nat) : Int) := by
  rw [IntKind.wrap_u64, show (2 : Int) ^ k = ((2 ^ k : Nat) : Int) by simp, ← Int.natCast_mul]
  generalize m * 2 ^ k = q at *
  omega
theorem shl_lt {m n k : Nat} (hm : m < 2 ^ n) (h : k + n ≤ 64) : m * 2 ^ k < 18446744073709551616 := by
  have h1 : m * 2 ^ k < 2 ^ n * 2 ^ k := Nat.mul_lt_mul_of_pos_right hm (Nat.two_pow_pos k)
  rw [← Nat.pow_add] at h1
  have h2 : 2 ^ (n + k) ≤ 2 ^ 64 := Nat.pow_le_pow_right (by omega) (by omega)
  omega
theorem mask_lt_pow (n : Nat) : mask n < 2 ^ n := by unfold mask; have := Nat.two_pow_pos n; omega
theorem put_val (x : Nat) (hx : x < 18446744073709551616) (k : Nat) (n : Int) (p : Nat) (hp : p ≤ mask (clamp n)) (h2 : 1 ≤ n) (h3 : n ≤ 64) (h4 : (k : Int) ≤ 64 - n) :
    bits .or .u64 (bits .andNot .u64 (x : Int) (IntKind.u64.wrap (((mask (clamp n) : Nat) : Int) * 2 ^ k))) (IntKind.u64.wrap ((p : Int) * 2 ^ k)) = ((putB x (k : Int).toNat n.toNat p : Nat) : Int) := by
  have hc : clamp n = n.toNat := by unfold clamp; omega
  rw [hc] at hp ⊢
  obtain ⟨m, rfl⟩ := Int.eq_ofNat_of_zero_le (show 0 ≤ n by omega)
  rw [Int.toNat_natCast] at hp ⊢
  rw [Int.toNat_natCast]
  have hm := mask_lt_pow m
  have hk : k + m ≤ 64 := by omega
  have b1 := shl_lt hm hk
  have b2 := shl_lt (Nat.lt_of_le_of_lt hp hm) hk
  rw [shl_u64 _ _ b1, shl_u64 _ _ b2, u64_andNot_nat _ _ hx b1]
  have b3 : x &&& (18446744073709551615 - mask m * 2 ^ k) < 18446744073709551616 := Nat.lt_of_le_of_lt Nat.and_le_left hx
  rw [u64_or_nat _ _ b3 b2]
  congr 1
  apply ext64
  · exact Nat.or_lt_two_pow (n := 64) b3 b2
  · exact numB_lt _ _
  · intro i hi
    rw [Nat.testBit_or, Nat.testBit_and, show 18446744073709551615 - mask m * 2 ^ k = 2 ^ 64 - (mask m * 2 ^ k + 1) by omega, Nat.testBit_two_pow_sub_succ b1, Nat.testBit_mul_two_pow, Nat.testBit_mul_two_pow, testBit_mask]
    unfold putB
    rw [testBit_numB]
    have hpb : ∀ j, m ≤ j → p.testBit j = false := fun j hj => Nat.testBit_lt_two_pow (Nat.lt_of_lt_of_le (Nat.lt_of_le_of_lt hp hm) (Nat.pow_le_pow_right (by omega) hj))
    by_cases h1 : k ≤ i
    · by_cases h5 : i < k + m
      · simp [hi, h1, h5, show i - k < m by omega]
      · simp [hi, h1, h5, show ¬ i - k < m by omega, hpb (i - k) (by omega)]
    · simp [hi, h1]

/-- What narrowing comes to by bits: the number of bits below w, the others as bit w - 1. -/
def narB (y w : Nat) : Nat := numB (fun i => if i < w then y.testBit i else y.testBit (w - 1)) 64
theorem narB_eq (y w : Nat) (h2 : w ≤ 64) : narB y w = 2 ^ w * (if y.testBit (w - 1) then 2 ^ (64 - w) - 1 else 0) + y % 2 ^ w := by
  have hq : y % 2 ^ w < 2 ^ w := Nat.mod_lt _ (Nat.two_pow_pos w)
  have hW : 2 ^ w * 2 ^ (64 - w) = 2 ^ 64 := by rw [← Nat.pow_add]; congr 1; omega
  have hle : 2 ^ w * (if y.testBit (w - 1) then 2 ^ (64 - w) - 1 else 0) + y % 2 ^ w < 2 ^ 64 := by
    have hd := Nat.two_pow_pos (64 - w)
    split
    · rw [Nat.mul_sub, hW]
      have : 2 ^ w * 1 ≤ 2 ^ 64 := by rw [← hW]; exact Nat.mul_le_mul_left _ hd
      omega
    · have : 2 ^ w * 1 ≤ 2 ^ 64 := by rw [← hW]; exact Nat.mul_le_mul_left _ hd
      omega
  apply ext64 (numB_lt _ _) hle
  intro i hi
  rw [Nat.testBit_two_pow_mul_add _ hq, Nat.testBit_mod_two_pow]
  rw [testBit_numB]
  by_cases h3 : i < w
  · simp [hi, h3]
  · by_cases hb : y.testBit (w - 1) = true
    · simp [hi, h3, hb, Nat.testBit_two_pow_sub_one]; omega
    · simp [hi, h3, hb]
theorem testBit_top (q w : Nat) (hq : q < 2 ^ (w + 1)) : q.testBit w = decide (2 ^ w ≤ q) := by
  rw [Nat.testBit_eq_decide_div_mod_eq, decide_eq_decide]
  rw [Nat.pow_succ] at hq
  have hp := Nat.two_pow_pos w
  constructor
  · intro h
    by_cases h1 : 2 ^ w ≤ q
    · exact h1
    · rw [Nat.div_eq_of_lt (by omega)] at h; simp at h
  · intro h
    rw [Nat.div_eq_of_lt_le (m := q) (n := 2 ^ w) (k := 1) (by omega) (by omega)]
theorem wrap64_mod (a b : Int) (h : a % 18446744073709551616 = b % 18446744073709551616) : wrap64 a = wrap64 b := by
  unfold wrap64; omega
def narrowV (x n : Int) : Int := wrap64 (x * 2 ^ (64 - n).toNat) / 2 ^ (64 - n).toNat
def u64Of (x : Int) : Nat := (x % 18446744073709551616).toNat
theorem u64Of_lt (x : Int) : u64Of x < 18446744073709551616 := by unfold u64Of; omega
theorem narrow_val (x n : Int) (h1 : 1 ≤ n) (h2 : n ≤ 64) : narrowV x n = wrap64 ((narB (u64Of x) n.toNat : Nat) : Int) := by
  obtain ⟨w, rfl⟩ := Int.eq_ofNat_of_zero_le (show 0 ≤ n by omega)
  obtain ⟨v, rfl⟩ : ∃ v, w = v + 1 := ⟨w - 1, by omega⟩
  obtain ⟨d, hd⟩ : ∃ d, d = 64 - (v + 1) := ⟨_, rfl⟩
  have hdn : (64 - ((v + 1 : Nat) : Int)).toNat = d := by omega
  rw [Int.toNat_natCast, narB_eq _ _ (by omega), show v + 1 - 1 = v from rfl, ← hd]
  unfold narrowV
  rw [hdn]
  obtain ⟨y, hy⟩ : ∃ y, y = u64Of x := ⟨_, rfl⟩
  rw [← hy]
  obtain ⟨H, hH⟩ : ∃ H, H = 2 ^ v := ⟨_, rfl⟩
  obtain ⟨D, hD⟩ : ∃ D, D = 2 ^ d := ⟨_, rfl⟩
  have hHD : H * D = 9223372036854775808 := by
    rw [hH, hD, ← Nat.pow_add, show v + d = 63 by omega]
  have hDp : 0 < D := by rw [hD]; exact Nat.two_pow_pos d
  obtain ⟨q, hq⟩ : ∃ q, q = y % (2 ^ (v + 1)) := ⟨_, rfl⟩
  obtain ⟨s, hs⟩ : ∃ s, s = y / (2 ^ (v + 1)) := ⟨_, rfl⟩
  have hyq : y = 2 ^ (v + 1) * s + q := by rw [hq, hs]; exact (Nat.div_add_mod _ _).symm
  have hql : q < 2 ^ (v + 1) := by rw [hq]; exact Nat.mod_lt _ (Nat.two_pow_pos _)
  have hbit : y.testBit v = decide (H ≤ q) := by
    rw [hH, ← testBit_top q v hql, hq, Nat.testBit_mod_two_pow]; simp
  rw [hbit, ← hq, ← hD]
  rw [Nat.pow_succ, ← hH] at hyq hql
  have hWd : (2 : Nat) ^ (v + 1) = H * 2 := by rw [Nat.pow_succ, ← hH]
  rw [hWd, show (2 : Int) ^ d = ((D : Nat) : Int) by rw [hD]; simp]
  have hxy : x % 18446744073709551616 = (y : Int) := by rw [hy]; unfold u64Of; omega
  have hx1 : wrap64 (x * (D : Int)) = wrap64 ((q * D : Nat) : Int) := by
    apply wrap64_mod
    obtain ⟨t, ht⟩ : ∃ t, t = x / 18446744073709551616 := ⟨_, rfl⟩
    have hx2 : x = (y : Int) + 18446744073709551616 * t := by omega
    have e : x * (D : Int) = ((q * D : Nat) : Int) + 18446744073709551616 * ((s : Int) + t * D) := by
      rw [hx2, hyq]
      have e1 : ((H * D : Nat) : Int) = 9223372036854775808 := by rw [hHD]; rfl
      rw [Int.natCast_mul] at e1
      have e2 : ((H : Int) * D) * (2 * s) = 9223372036854775808 * (2 * s) := by rw [e1]
      simp only [Int.natCast_add, Int.natCast_mul, Int.add_mul, Int.mul_add]
      have e3 : (H : Int) * ((2 : Nat) : Int) * s * D = (H : Int) * D * (2 * s) := by
        rw [Int.mul_assoc, Int.mul_assoc, Int.mul_assoc]; congr 1
        rw [Int.mul_comm (D : Int), Int.mul_assoc]; rfl
      rw [e3, e2, Int.mul_assoc 18446744073709551616 t]
      omega
    rw [e, Int.add_mul_emod_self_left]
  rw [hx1]
  have hHle : H ≤ 9223372036854775808 := by
    rw [← hHD]; exact Nat.le_mul_of_pos_right H hDp
  by_cases hc : H ≤ q
  · have hle : H * D ≤ q * D := Nat.mul_le_mul_right D hc
    have hlt : q * D < (H * 2) * D := Nat.mul_lt_mul_of_pos_right hql hDp
    have hlt2 : (H * 2) * D = 18446744073709551616 := by rw [Nat.mul_assoc, Nat.mul_comm 2, ← Nat.mul_assoc, hHD]
    have e1 : wrap64 ((q * D : Nat) : Int) = ((q : Int) - 2 * H) * D := by
      have e2 : ((q : Int) - 2 * H) * D = ((q * D : Nat) : Int) - (((H * 2) * D : Nat) : Int) := by
        rw [Int.sub_mul, Int.natCast_mul, Int.natCast_mul, Int.natCast_mul]; congr 2
        rw [Int.mul_comm]; rfl
      rw [e2, hlt2]
      unfold wrap64; omega
    rw [e1, Int.mul_ediv_cancel _ (by omega)]
    simp only [hc, decide_true, if_true]
    rw [Nat.mul_sub, hlt2]
    unfold wrap64; omega
  · have hlt : q * D < H * D := Nat.mul_lt_mul_of_pos_right (by omega) hDp
    have e1 : wrap64 ((q * D : Nat) : Int) = (q : Int) * D := by
      rw [Int.natCast_mul, ← Int.natCast_mul]; unfold wrap64; omega
    rw [e1, Int.mul_ediv_cancel _ (by omega)]
    simp only [hc, decide_false, Bool.false_eq_true, if_false]
    unfold wrap64; omega
theorem u64_wrap (x : Int) : IntKind.u64.wrap x = ((u64Of x : Nat) : Int) := by rw [IntKind.wrap_u64]; unfold u64Of; omega
def narF (y m k i : Nat) : Bool := if i < m then y.testBit i else if i < k then y.testBit (m - 1) else y.testBit i
theorem narF_first (y m i : Nat) : narF y m m i = y.testBit i := by
  unfold narF
  by_cases h : i < m
  · simp [h]
  · simp [h]
theorem narF_top (y m k : Nat) (h : 1 ≤ m) : narF y m k (m - 1) = y.testBit (m - 1) := by
  unfold narF; rw [if_pos (by omega)]
theorem narF_step (y m k i : Nat) (h : m ≤ k) : upd (narF y m k) k (y.testBit (m - 1)) i = narF y m (k + 1) i := by
  unfold upd narF
  by_cases h1 : i = k
  · subst h1; rw [if_pos rfl, if_neg (by omega), if_pos (by omega)]
  · rw [if_neg h1]
    by_cases h2 : i < m
    · rw [if_pos h2, if_pos h2]
    · rw [if_neg h2, if_neg h2]
      by_cases h3 : i < k
      · rw [if_pos h3, if_pos (by omega)]
      · rw [if_neg h3, if_neg (by omega)]
theorem narF_last (y m : Nat) : numB (narF y m 64) 64 = narB y m := by
  apply ext64 (numB_lt _ _) (numB_lt _ _)
  intro i hi
  rw [testBit_numB, testBit_numB]
  simp [hi, narF]
end Bx
end Go.Proofs.YtplfblccaeligaaDoor
