/- Contracts of the document's answers for sets of bits: Bits, Of. How many are in a set: the count by halves, and what it is worth. The least one and how many, reckoned from the top down; the table of the lowest bit. The document's Set. -/
import Derived.Test.YtplfblccaeligaaDoorRows
import Derived.Test.YtplfblccaeligaaDoorBitsMath
import Derived.WalkKit
import Derived.WalkSpells
import Derived.WalkLawsBesides
import Derived.Lib.Hide
import Derived.BigQuiet
import Derived.Deep.QuietTactic
import Derived.Lib.TrailingZeros
import Derived.Deep.Cut
namespace Go.Proofs.YtplfblccaeligaaDoor
open Go.RowKit Bx

theorem info_rowf (f : Nat → Bool) : (Tryd.prog.info? 87).map (·.size) = some (row f).size := by rw [row_size]; kernel_rfl
theorem row_same (f g : Nat → Bool) : (row f).size = (row g).size := by rw [row_size, row_size]
/-- A store into a block of 64 bools leaves the row with that place set. -/
theorem heap_set_row (w : World) (g k : Nat) (f : Nat → Bool) (b : Bool) (hg : w.heap[g]? = some (.cells (row f) 87 (0, 0))) :
    (w.setCell ⟨g, k, none⟩ (.bool b)).heap[g]? = some (.cells (row (upd f k b)) 87 (0, 0)) := by
  rw [heap_setCell_same w g k _ _ _ hg, row_set]
theorem heap_setRow_same (w : World) (g : Nat) (f h : Nat → Bool) (hg : w.heap[g]? = some (.cells (row f) 87 (0, 0))) :
    (w.setRow g (row h)).heap[g]? = some (.cells (row h) 87 (0, 0)) := setRow_heap w g _ _ _ _ hg
theorem below_setRow {B : Nat} {a w : World} (h : Below B a w) (g : Nat) (cs : Array Value) (hg : B ≤ g) : Below B a (w.setRow g cs) :=
  h.trans ⟨rfl, rfl, rfl, by simp, fun k hk => setRow_other w g k cs (by omega)⟩
def HalfOf (x k y : Nat) : Prop := y = x / 2 ^ k
theorem half_bit {x k y : Nat} (h : HalfOf x k y) : ((y : Int) % 2 == 1) = x.testBit k := by
  unfold HalfOf at h; subst h; exact bit_of_div x k
theorem half_next {x k y : Nat} (h : HalfOf x k y) : HalfOf x (k + 1) (y / 2) := by
  unfold HalfOf at *; subst h; exact div_succ x k
theorem half_lt {x k y : Nat} (h : HalfOf x k y) (hx : x < 2 ^ 64) : y < 18446744073709551616 := by
  unfold HalfOf at h; have := Nat.div_le_self x (2 ^ k); omega
theorem bits_step (x k : Nat) : row (upd (fun i => decide (i < k) && x.testBit i) k (x.testBit k)) = row (fun i => decide (i < k + 1) && x.testBit i) := by
  apply row_congr
  intro i hi
  unfold upd
  by_cases e : i = k
  · subst e; simp
  · by_cases h : i < k
    · simp [e, h, Nat.lt_succ_of_lt h]
    · simp [e, h, show ¬ i < k + 1 by omega]

theorem row_step (f : Nat → Bool) (k : Nat) : row (upd (fun i => decide (i < k) && f i) k (f k)) = row (fun i => decide (i < k + 1) && f i) := by
  apply row_congr
  intro i hi
  unfold upd
  by_cases e : i = k
  · subst e; simp
  · by_cases h : i < k
    · simp [e, h, Nat.lt_succ_of_lt h]
    · simp [e, h, show ¬ i < k + 1 by omega]
theorem two_first (w : World) (c1 c2 cs : Array Value) (t : TypeId) :
    (((w.alloc (.cells c1 t)).setRow w.heap.size cs).alloc (.cells c2 t)).heap[w.heap.size]? = some (.cells cs t (0, 0)) := by
  rw [Below.heap_alloc _ _ _ (by simp)]
  exact setRow_heap _ _ _ _ _ _ (heap_alloc_new _ _)
theorem two_second (w : World) (c1 c2 cs : Array Value) (t : TypeId) :
    (((w.alloc (.cells c1 t)).setRow w.heap.size cs).alloc (.cells c2 t)).heap[w.heap.size + 1]? = some (.cells c2 t (0, 0)) := by
  have h := heap_alloc_new ((w.alloc (.cells c1 t)).setRow w.heap.size cs) (.cells c2 t)
  simpa using h
theorem two_below (w : World) (c1 c2 cs : Array Value) (t : TypeId) :
    Below w.heap.size w (((w.alloc (.cells c1 t)).setRow w.heap.size cs).alloc (.cells c2 t)) :=
  (below_setRow ((Below.refl _ _).alloc (Nat.le_refl _) _) _ _ (Nat.le_refl _)).alloc (by simp) _

theorem three_second (w : World) (c1 c2 cs : Array Value) (t : TypeId) :
    (((w.alloc (.cells c1 t)).alloc (.cells c2 t)).setRow w.heap.size cs).heap[w.heap.size + 1]? = some (.cells c2 t (0, 0)) := by
  rw [setRow_other _ _ _ _ (by simp)]
  exact heap_alloc2_new _ _ _
theorem three_first (w : World) (c1 c2 cs ds : Array Value) (t : TypeId) :
    ((((w.alloc (.cells c1 t)).alloc (.cells c2 t)).setRow w.heap.size cs).setRow (w.heap.size + 1) ds).heap[w.heap.size]? = some (.cells cs t (0, 0)) := by
  rw [setRow_other _ _ _ _ (by simp)]
  exact setRow_heap _ _ _ _ _ _ (heap_alloc2_old _ _ _)
theorem three_last (w : World) (c1 c2 cs ds : Array Value) (t : TypeId) :
    ((((w.alloc (.cells c1 t)).alloc (.cells c2 t)).setRow w.heap.size cs).setRow (w.heap.size + 1) ds).heap[w.heap.size + 1]? = some (.cells ds t (0, 0)) :=
  setRow_heap _ _ _ _ _ _ (three_second _ _ _ _ _)
theorem three_below (w : World) (c1 c2 cs ds : Array Value) (t : TypeId) :
    Below w.heap.size w ((((w.alloc (.cells c1 t)).alloc (.cells c2 t)).setRow w.heap.size cs).setRow (w.heap.size + 1) ds) :=
  below_setRow (below_setRow (((Below.refl _ _).alloc (Nat.le_refl _) _).alloc (by simp) _) _ _ (Nat.le_refl _)) _ _ (by omega)

set_option maxHeartbeats 400000 in
theorem bits_any (x : Nat) (hx : x < 2 ^ 64) (w : World) :
    Calls Tryd.prog 43 #[.int .u64 x] w fun e w' => e = .returned (.agg (row x.testBit)) ∧ Below w.heap.size w w' := by
  go_enter Tryd.func43, Tryd.ntmps43
  go_wp2
  go_loopw [0, 4] (fun u i wr => ∃ k y : Nat, k ≤ 64 ∧ i = .int .i64 k ∧ u = .int .u64 (y : Int) ∧ HalfOf x k y ∧ wr.heap[w.heap.size]? = some (.cells (row fun _ => false) 87 (0, 0)) ∧ wr.heap[w.heap.size + 1]? = some (.cells (row fun i => decide (i < k) && x.testBit i) 87 (0, 0)) ∧ Below w.heap.size w wr) (fun _ i _ => 64 - (intOf i).toNat)
  case atStart =>
    refine ⟨0, x, by omega, rfl, rfl, by simp [HalfOf], ?_, ?_, ?_⟩
    · rw [heap_alloc2_old]; kernel_rfl
    · rw [heap_alloc2_new]; rw [row_congr (g := fun _ => false) (by simp)]; kernel_rfl
    · exact ((Below.refl _ _).alloc (Nat.le_refl _) _).alloc (by simp) _
  case round =>
    obtain ⟨k, y, hk, rfl, rfl, hy, hb0, hb1, hbel⟩ := hrel
    by_cases hlt : k < 64
    · have hc := cell_of_row _ _ k _ _ _ hb1
      rw [row_get _ k hlt] at hc
      have hf := frozen_of_row _ _ k _ _ hb1
      have hyb := half_lt hy hx
      have Hb0 := Lib.hid hb0
      have Hb1 := Lib.hid hb1
      clear hb0 hb1
      go_wp2
      go_roundw
      case rel =>
        rw [half_bit hy]
        refine ⟨k + 1, y / 2, by omega, by go_num, by go_num, half_next hy, ?_, ?_, hbel.setCell (by simp) _⟩
        · rw [heap_setCell_other _ _ _ _ (by simp)]; exact Hb0.out
        · rw [heap_set_row _ _ _ _ _ Hb1.out, bits_step]
      case measure => simp [intOf]; omega
    · have hk64 : k = 64 := by omega
      subst hk64
      have hsz := info_rowf (fun i => decide (i < 64) && x.testBit i)
      have hs0 := Lib.hid (row_same (fun _ => false) (fun i => decide (i < 64) && x.testBit i))
      have h1c := row_one (fun i => decide (i < 64) && x.testBit i)
      go_wp2_with (first | (refine wpList_load_row rfl 87 (.tmp 3) rfl (w.heap.size + 1) rfl 87 _ (0, 0) _ hb1 Tryd.underlying87 rfl hsz ?_) | (refine wpList_store_row rfl 87 (.tmp 2) (.tmp 16) rfl w.heap.size _ rfl rfl 87 _ hb0 hsz hs0.out h1c ?_))
      have hr := heap_setRow_same wr w.heap.size _ (fun i => decide (i < 64) && x.testBit i) hb0
      refine bodyPost_ret (v := .agg (row fun i => decide (i < 64) && x.testBit i)) ?_ rfl ⟨?_, below_setRow hbel _ _ (Nat.le_refl _)⟩
      · exact results_cell_row (ty := 87) (p := 2) (by kernel_rfl) _ _ w.heap.size 87 _ (0, 0) _ rfl hr Tryd.underlying87 rfl hsz
      · rw [row_congr (g := x.testBit) (fun i hi => by simp [hi])]

def SumOf (f : Nat → Bool) (k x : Nat) : Prop := x = numB f k
def WorthOf (k v : Nat) : Prop := v = 2 ^ k % 18446744073709551616
theorem worth_lt {k v : Nat} (h : WorthOf k v) : v < 18446744073709551616 := by unfold WorthOf at h; omega
theorem worth_eq {k v : Nat} (h : WorthOf k v) (hk : k < 64) : v = 2 ^ k := by
  unfold WorthOf at h
  have : 2 ^ k < 2 ^ 64 := Nat.pow_lt_pow_right (by omega) hk
  rw [h, Nat.mod_eq_of_lt this]
theorem sum_lt {f : Nat → Bool} {k x v : Nat} (h : SumOf f k x) (hv : WorthOf k v) (hk : k < 64) : x + v < 18446744073709551616 := by
  have e := worth_eq hv hk
  unfold SumOf at h
  have h1 := numB_lt f k
  have h2 : 2 ^ (k + 1) ≤ 2 ^ 64 := Nat.pow_le_pow_right (by omega) hk
  rw [Nat.pow_succ] at h2
  omega
theorem worth_next {k v : Nat} (h : WorthOf k v) : IntKind.u64.wrap ((v : Int) * 2) = ((2 ^ (k + 1) % 18446744073709551616 : Nat) : Int) := by
  unfold WorthOf at h
  rw [IntKind.wrap_u64, Nat.pow_succ]
  omega
theorem sum_yes {f : Nat → Bool} {k x v : Nat} (h : SumOf f k x) (hv : WorthOf k v) (hk : k < 64) (hf : f k = true) : SumOf f (k + 1) (x + v) := by
  have e := worth_eq hv hk
  unfold SumOf at *
  simp only [numB, hf, if_true]; omega
theorem sum_no {f : Nat → Bool} {k x : Nat} (h : SumOf f k x) (hf : f k = false) : SumOf f (k + 1) x := by
  unfold SumOf at *
  simp [numB, hf]; omega

set_option maxHeartbeats 400000 in
theorem of_any (f : Nat → Bool) (w : World) :
    Calls Tryd.prog 51 #[.agg (row f)] w fun e w' => e = .returned (.int .u64 (numB f 64 : Nat)) ∧ Below w.heap.size w w' := by
  go_enter Tryd.func51, Tryd.ntmps51
  go_wp2
  go_loopw [3, 4, 5] (fun u v i wr => ∃ k x z : Nat, k ≤ 64 ∧ i = .int .i64 k ∧ u = .int .u64 (x : Int) ∧ v = .int .u64 (z : Int) ∧ SumOf f k x ∧ WorthOf k z ∧ wr.heap[w.heap.size]? = some (.cells (row f) 87 (0, 0)) ∧ Below w.heap.size w wr) (fun _ _ i _ => 64 - (intOf i).toNat)
  case atStart =>
    exact ⟨0, 0, 1, by omega, rfl, rfl, rfl, rfl, by simp [WorthOf], heap_alloc_new _ _, (Below.refl _ _).alloc (Nat.le_refl _) _⟩
  case round =>
    obtain ⟨k, x, z, hk, rfl, rfl, rfl, hx, hz, hb0, hbel⟩ := hrel
    by_cases hlt : k < 64
    · have hc := cell_of_row _ _ k _ _ _ hb0
      rw [row_get _ k hlt] at hc
      have hs := sum_lt hx hz hlt
      have hzb := worth_lt hz
      have Hb0 := Lib.hid hb0
      clear hb0
      obtain ⟨b, hb⟩ : ∃ b, b = f k := ⟨_, rfl⟩
      rw [← hb] at hc
      have Hb := Lib.hid hb
      clear hb
      cases b
      · go_wp2
        go_roundw
        case rel =>
          rw [worth_next hz]
          exact ⟨k + 1, _, _, by omega, by go_num, rfl, rfl, sum_no hx Hb.out.symm, rfl, Hb0.out, hbel⟩
        case measure => simp [intOf]; omega
      · go_wp2
        go_roundw
        case rel =>
          rw [worth_next hz]
          exact ⟨k + 1, _, _, by omega, by go_num, by go_num, rfl, sum_yes hx hz hlt Hb.out.symm, rfl, Hb0.out, hbel⟩
        case measure => simp [intOf]; omega
    · have hk64 : k = 64 := by omega
      subst hk64
      go_wp2
      go_ret
      unfold SumOf at hx
      rw [← hx]
      exact ⟨rfl, hbel⟩

end Go.Proofs.YtplfblccaeligaaDoor
namespace Go.Proofs.YtplfblccaeligaaDoor
namespace Bx
open Go.RowKit

/-- The sum of the first n. -/
def sumf (f : Nat → Nat) : Nat → Nat
  | 0 => 0
  | n + 1 => sumf f n + f n
theorem sumf_congr {f g : Nat → Nat} {n : Nat} (h : ∀ i, i < n → f i = g i) : sumf f n = sumf g n := by
  induction n with
  | zero => rfl
  | succ n ih => simp only [sumf]; rw [ih (fun i hi => h i (by omega)), h n (by omega)]
theorem sumf_add (f : Nat → Nat) (m n : Nat) : sumf f (m + n) = sumf f m + sumf (fun j => f (m + j)) n := by
  induction n with
  | zero => rfl
  | succ n ih => rw [← Nat.add_assoc]; simp only [sumf]; rw [ih]; omega
theorem sumf_zero (f : Nat → Nat) (n : Nat) (h : ∀ i, i < n → f i = 0) : sumf f n = 0 := by
  induction n with
  | zero => rfl
  | succ n ih => simp only [sumf]; rw [ih (fun i hi => h i (by omega)), h n (by omega)]
theorem sumf_pairs (f : Nat → Nat) (n : Nat) : sumf (fun j => f (2 * j) + f (2 * j + 1)) n = sumf f (2 * n) := by
  induction n with
  | zero => rfl
  | succ n ih => rw [show 2 * (n + 1) = 2 * n + 1 + 1 by omega]; simp only [sumf]; rw [ih]; omega
/-- How many of the 64 bits are set. -/
def pop (x : Nat) : Nat := sumf (fun i => (x.testBit i).toNat) 64

/-- n digits of b bits each. -/
def dig (b : Nat) (f : Nat → Nat) : Nat → Nat
  | 0 => 0
  | n + 1 => dig b f n + 2 ^ (b * n) * f n
theorem dig_lt (b : Nat) (f : Nat → Nat) (n : Nat) (h : ∀ i, i < n → f i < 2 ^ b) : dig b f n < 2 ^ (b * n) := by
  induction n with
  | zero => simp [dig]
  | succ n ih =>
    have h1 := ih (fun i hi => h i (by omega))
    have h2 := h n (by omega)
    simp only [dig]
    rw [Nat.mul_succ, Nat.pow_add]
    have h3 : 2 ^ (b * n) * (f n + 1) ≤ 2 ^ (b * n) * 2 ^ b := Nat.mul_le_mul_left _ h2
    rw [Nat.mul_succ] at h3
    omega
theorem testBit_dig (b : Nat) (hb : 0 < b) (f : Nat → Nat) (n : Nat) (h : ∀ i, i < n → f i < 2 ^ b) (i : Nat) :
    (dig b f n).testBit i = (decide (i < b * n) && (f (i / b)).testBit (i % b)) := by
  induction n with
  | zero => simp [dig]
  | succ n ih =>
    have h1 := ih (fun i hi => h i (by omega))
    have hl := dig_lt b f n (fun i hi => h i (by omega))
    have h2 := h n (by omega)
    simp only [dig]
    rw [Nat.add_comm, Nat.testBit_two_pow_mul_add _ hl, Nat.mul_succ]
    by_cases h3 : i < b * n
    · rw [if_pos h3, h1]; simp [h3, show i < b * n + b by omega]
    · rw [if_neg h3]
      by_cases h4 : i < b * n + b
      · have e1 : i / b = n := by
          rw [Nat.div_eq_iff hb]; rw [Nat.mul_comm] at h3 h4; constructor
          · omega
          · omega
        have e2 : i % b = i - b * n := by
          have := Nat.div_add_mod i b; rw [e1] at this; omega
        simp [h4, e1, e2]
      · simp only [h4, decide_false, Bool.false_and]
        apply Nat.testBit_lt_two_pow
        exact Nat.lt_of_lt_of_le h2 (Nat.pow_le_pow_right (by omega) (by omega))
theorem dig_add (b : Nat) (f g : Nat → Nat) (n : Nat) : dig b f n + dig b g n = dig b (fun i => f i + g i) n := by
  induction n with
  | zero => rfl
  | succ n ih => simp only [dig]; rw [← ih, Nat.mul_add]; omega
theorem dig_one (x : Nat) (hx : x < 2 ^ 64) : x = dig 1 (fun i => (x.testBit i).toNat) 64 := by
  have hb : ∀ i, i < 64 → (fun i => (x.testBit i).toNat) i < 2 ^ 1 := fun i _ => by
    show (x.testBit i).toNat < 2; cases x.testBit i <;> decide
  apply ext64 hx (by have := dig_lt 1 _ 64 hb; simpa using this)
  intro i hi
  rw [testBit_dig 1 (by decide) _ _ hb]
  simp only [Nat.div_one, Nat.mod_one, Nat.one_mul, hi, decide_true, Bool.true_and]
  cases x.testBit i <;> rfl

/-- Every second digit, from the first or from the second one on: what a mask of alternate fields leaves. -/
theorem mask_pairs (b n m : Nat) (hb : 0 < b) (hn : b * (2 * n) ≤ 64) (f : Nat → Nat) (hf : ∀ i, i < 2 * n → f i < 2 ^ b) (s : Nat) (hs : s < 2)
    (hm : ∀ i, i < 64 → m.testBit i = decide (i % (2 * b) < b)) (hm64 : m < 2 ^ 64) :
    (dig b f (2 * n) / 2 ^ (b * s)) &&& m = dig (2 * b) (fun j => f (2 * j + s)) n := by
  have hf2 : ∀ i, i < n → (fun j => f (2 * j + s)) i < 2 ^ (2 * b) := fun i hi =>
    Nat.lt_of_lt_of_le (hf (2 * i + s) (by omega)) (Nat.pow_le_pow_right (by omega) (by omega))
  have hlt : dig (2 * b) (fun j => f (2 * j + s)) n < 2 ^ 64 :=
    Nat.lt_of_lt_of_le (dig_lt _ _ _ hf2) (Nat.pow_le_pow_right (by omega) (by rw [Nat.mul_comm 2 b, Nat.mul_assoc]; exact hn))
  apply ext64 (Nat.lt_of_le_of_lt Nat.and_le_right hm64) hlt
  intro i hi
  rw [Nat.testBit_and, Nat.testBit_div_two_pow, hm i hi, testBit_dig b hb f _ hf, testBit_dig (2 * b) (by omega) _ n hf2]
  have e2 : 2 * b * n = b * (2 * n) := by rw [Nat.mul_comm 2 b, Nat.mul_assoc]
  rw [e2]
  obtain ⟨q, hq⟩ : ∃ q, q = i / (2 * b) := ⟨_, rfl⟩
  obtain ⟨r, hr⟩ : ∃ r, r = i % (2 * b) := ⟨_, rfl⟩
  have hi2 : i = 2 * b * q + r := by rw [hq, hr]; exact (Nat.div_add_mod _ _).symm
  have hr2 : r < 2 * b := by rw [hr]; exact Nat.mod_lt _ (by omega)
  rw [← hq, ← hr]
  by_cases h1 : r < b
  · have e3 : i + b * s = b * (2 * q + s) + r := by
      rw [hi2, Nat.mul_add, Nat.mul_comm 2 b, Nat.mul_assoc]; omega
    have e4 : (i + b * s) / b = 2 * q + s := by rw [e3, Nat.mul_add_div hb, Nat.div_eq_of_lt h1]; omega
    have e5 : (i + b * s) % b = r := by rw [e3, Nat.mul_add_mod, Nat.mod_eq_of_lt h1]
    rw [e4, e5]
    simp only [h1, decide_true, Bool.and_true]
    congr 1
    rw [decide_eq_decide]
    have hql : q < n ↔ i < b * (2 * n) := by
      rw [← e2, hq, Nat.div_lt_iff_lt_mul (by omega), Nat.mul_comm]
    constructor
    · intro h
      have : b * s ≥ 0 := Nat.zero_le _
      omega
    · intro h
      have hqn := hql.2 h
      have : b * (2 * q + s) + r < b * (2 * q + s) + b := by omega
      have h6 : b * (2 * q + s + 1) ≤ b * (2 * n) := Nat.mul_le_mul_left _ (by omega)
      rw [Nat.mul_succ] at h6
      omega
  · simp only [h1, decide_false, Bool.and_false]
    by_cases h7 : i < b * (2 * n)
    · have hqn : q < n := by
        rw [hq, Nat.div_lt_iff_lt_mul (by omega), Nat.mul_comm]; rw [e2]; exact h7
      have h8 := hf (2 * q + s) (by omega)
      have h9 : (f (2 * q + s)).testBit r = false := Nat.testBit_lt_two_pow (Nat.lt_of_lt_of_le h8 (Nat.pow_le_pow_right (by omega) (by omega)))
      simp [h9]
    · simp [h7]

theorem tb0 : ∀ i, i < 64 → (6148914691236517205 : Nat).testBit i = decide (i % (2 * 1) < 1) := by decide
theorem tb1 : ∀ i, i < 64 → (3689348814741910323 : Nat).testBit i = decide (i % (2 * 2) < 2) := by decide
theorem tb2 : ∀ i, i < 64 → (1085102592571150095 : Nat).testBit i = decide (i % (2 * 4) < 4) := by decide

def s1 (x : Int) : Int := IntKind.u64.wrap (bits .and .u64 (x / 2) 6148914691236517205 + bits .and .u64 x 6148914691236517205)
def s2 (x : Int) : Int := IntKind.u64.wrap (bits .and .u64 (x / 4) 3689348814741910323 + bits .and .u64 x 3689348814741910323)
def s3 (x : Int) : Int := bits .and .u64 (IntKind.u64.wrap (x / 16 + x)) 1085102592571150095
def s4 (x : Int) : Int := IntKind.u64.wrap (x + x / 256)
def s5 (x : Int) : Int := IntKind.u64.wrap (x + x / 65536)
def s6 (x : Int) : Int := IntKind.u64.wrap (x + x / 4294967296)
def s7 (x : Int) : Int := bits .and .i64 (wrap64 x) 127

theorem dig_first (b : Nat) (f : Nat → Nat) (n : Nat) : dig b f (n + 1) = f 0 + 2 ^ b * dig b (fun j => f (j + 1)) n := by
  induction n with
  | zero => simp [dig]
  | succ n ih =>
    have e : dig b f (n + 1 + 1) = dig b f (n + 1) + 2 ^ (b * (n + 1)) * f (n + 1) := rfl
    rw [e, ih]
    simp only [dig]
    rw [Nat.mul_succ b n, Nat.pow_add, Nat.mul_comm (2 ^ (b * n)) (2 ^ b), Nat.mul_assoc, Nat.mul_add]
    omega
theorem dig_shift (b : Nat) (f : Nat → Nat) (n : Nat) (h0 : f 0 < 2 ^ b) : dig b f (n + 1) / 2 ^ b = dig b (fun j => f (j + 1)) n := by
  rw [dig_first, Nat.add_mul_div_left _ _ (Nat.two_pow_pos b), Nat.div_eq_of_lt h0, Nat.zero_add]

theorem step_pairs (b n m p : Nat) (hp : p = 2 ^ b) (hb : 0 < b) (hn : b * (2 * n) = 64) (f : Nat → Nat) (hf : ∀ i, i < 2 * n → f i < 2 ^ b)
    (hm : ∀ i, i < 64 → m.testBit i = decide (i % (2 * b) < b)) (hm64 : m < 2 ^ 64) (hsum : ∀ i, i < n → f (2 * i) + f (2 * i + 1) < 2 ^ (2 * b)) :
    IntKind.u64.wrap (bits .and .u64 (((dig b f (2 * n) / p : Nat) : Int)) (m : Int) + bits .and .u64 ((dig b f (2 * n) : Nat) : Int) (m : Int)) = ((dig (2 * b) (fun j => f (2 * j) + f (2 * j + 1)) n : Nat) : Int) := by
  have hD : dig b f (2 * n) < 2 ^ 64 := by have := dig_lt b f (2 * n) hf; rwa [hn] at this
  have hD2 : dig b f (2 * n) / p < 2 ^ 64 := Nat.lt_of_le_of_lt (Nat.div_le_self _ _) hD
  rw [u64_and_nat _ _ hD2 hm64, u64_and_nat _ _ hD hm64]
  have h1 := mask_pairs b n m hb (by omega) f hf 1 (by omega) hm hm64
  have h0 := mask_pairs b n m hb (by omega) f hf 0 (by omega) hm hm64
  rw [Nat.mul_one, ← hp] at h1
  rw [Nat.mul_zero, Nat.pow_zero, Nat.div_one] at h0
  rw [h1, h0, ← Int.natCast_add, Nat.add_comm, dig_add]
  have hl := dig_lt (2 * b) (fun j => f (2 * j) + f (2 * j + 1)) n hsum
  rw [show 2 * b * n = 64 by rw [Nat.mul_comm 2 b, Nat.mul_assoc, hn]] at hl
  rw [IntKind.wrap_u64]
  generalize dig (2 * b) (fun j => f (2 * j) + f (2 * j + 1)) n = q at *
  omega

theorem s1_eq (f : Nat → Nat) (hf : ∀ i, i < 64 → f i < 2) : s1 ((dig 1 f 64 : Nat) : Int) = ((dig 2 (fun j => f (2 * j) + f (2 * j + 1)) 32 : Nat) : Int) := by
  have h := step_pairs 1 32 6148914691236517205 2 rfl (by decide) rfl f hf tb0 (by decide) (fun i hi => by have := hf (2 * i) (by omega); have := hf (2 * i + 1) (by omega); omega)
  unfold s1
  rw [show ((dig 1 f 64 : Nat) : Int) / 2 = ((dig 1 f 64 / 2 : Nat) : Int) by omega]
  exact h
theorem s2_eq (f : Nat → Nat) (hf : ∀ i, i < 32 → f i ≤ 2) : s2 ((dig 2 f 32 : Nat) : Int) = ((dig 4 (fun j => f (2 * j) + f (2 * j + 1)) 16 : Nat) : Int) := by
  have h := step_pairs 2 16 3689348814741910323 4 rfl (by decide) rfl f (fun i hi => by have := hf i hi; omega) tb1 (by decide) (fun i hi => by have := hf (2 * i) (by omega); have := hf (2 * i + 1) (by omega); omega)
  unfold s2
  rw [show ((dig 2 f 32 : Nat) : Int) / 4 = ((dig 2 f 32 / 4 : Nat) : Int) by omega]
  exact h
theorem dig_congr {b : Nat} {f g : Nat → Nat} {n : Nat} (h : ∀ i, i < n → f i = g i) : dig b f n = dig b g n := by
  induction n with
  | zero => rfl
  | succ n ih => simp only [dig]; rw [ih (fun i hi => h i (by omega)), h n (by omega)]
theorem s3_eq (f : Nat → Nat) (hf : ∀ i, i < 16 → f i ≤ 4) : s3 ((dig 4 f 16 : Nat) : Int) = ((dig 8 (fun j => f (2 * j) + f (2 * j + 1)) 8 : Nat) : Int) := by
  have hg : dig 4 f 16 / 16 + dig 4 f 16 = dig 4 (fun j => f j + if j < 15 then f (j + 1) else 0) 16 := by
    have h1 := dig_shift 4 f 15 (by have := hf 0 (by omega); omega)
    rw [show (2 : Nat) ^ 4 = 16 from rfl] at h1
    have h2 : dig 4 (fun j => f (j + 1)) 15 = dig 4 (fun j => if j < 15 then f (j + 1) else 0) 16 := by
      have e : dig 4 (fun j => if j < 15 then f (j + 1) else 0) 16 = dig 4 (fun j => if j < 15 then f (j + 1) else 0) 15 := by simp [dig]
      rw [e]; exact dig_congr (fun i hi => by simp [hi])
    rw [h1, h2, Nat.add_comm, dig_add]
  have hb : ∀ i, i < 16 → (fun j => f j + if j < 15 then f (j + 1) else 0) i < 2 ^ 4 := fun i hi => by
    show f i + (if i < 15 then f (i + 1) else 0) < 16
    have := hf i hi
    split
    · have := hf (i + 1) (by omega); omega
    · omega
  have hl := dig_lt 4 _ 16 hb
  unfold s3
  rw [show ((dig 4 f 16 : Nat) : Int) / 16 + ((dig 4 f 16 : Nat) : Int) = ((dig 4 f 16 / 16 + dig 4 f 16 : Nat) : Int) by omega, hg]
  have hw : IntKind.u64.wrap ((dig 4 (fun j => f j + if j < 15 then f (j + 1) else 0) 16 : Nat) : Int) = ((dig 4 (fun j => f j + if j < 15 then f (j + 1) else 0) 16 : Nat) : Int) := by
    rw [IntKind.wrap_u64]
    generalize dig 4 (fun j => f j + if j < 15 then f (j + 1) else 0) 16 = q at *
    omega
  rw [hw, show (1085102592571150095 : Int) = ((1085102592571150095 : Nat) : Int) from rfl, u64_and_nat _ _ hl (by decide)]
  have h0 := mask_pairs 4 8 1085102592571150095 (by decide) (by decide) _ hb 0 (by decide) tb2 (by decide)
  rw [Nat.mul_zero, Nat.pow_zero, Nat.div_one] at h0
  rw [h0]
  exact congrArg (fun n : Nat => (n : Int)) (dig_congr (fun i hi => by simp [show 2 * i < 15 by omega]))
theorem wraps_i64 (n : Int) (h₀ : 0 ≤ n) (h₁ : n < 2 ^ 63) : IntKind.i64.wrap n = n := by rw [IntKind.wrap_i64]; omega
theorem wrap_small (n : Nat) (h : n < 18446744073709551616) : IntKind.u64.wrap (n : Int) = (n : Int) := by rw [IntKind.wrap_u64]; omega
theorem s7_num (u : Nat) (h : u < 9223372036854775808) : s7 (u : Int) = ((u % 128 : Nat) : Int) := by
  unfold s7
  have e8 : wrap64 (u : Int) = u := by unfold wrap64; omega
  have e9 : bits .and .i64 (u : Int) (2 ^ 7 - 1) = (u : Int) % 2 ^ 7 := bits_mask .i64 63 (by decide) wraps_i64 7 (by decide) (u : Int) (by omega) (by omega)
  rw [e8, show (127 : Int) = 2 ^ 7 - 1 by decide, e9]
  omega
theorem tail_num (a0 a1 a2 a3 a4 a5 a6 a7 x x1 x2 x3 x4 x5 x6 : Nat) (h0 : a0 ≤ 8) (h1 : a1 ≤ 8) (h2 : a2 ≤ 8) (h3 : a3 ≤ 8) (h4 : a4 ≤ 8) (h5 : a5 ≤ 8) (h6 : a6 ≤ 8) (h7 : a7 ≤ 8)
    (e6 : x6 = a6 + 256 * a7) (e5 : x5 = a5 + 256 * x6) (e4 : x4 = a4 + 256 * x5) (e3 : x3 = a3 + 256 * x4) (e2 : x2 = a2 + 256 * x3) (e1 : x1 = a1 + 256 * x2) (e0 : x = a0 + 256 * x1) :
    s7 (s6 (s5 (s4 (x : Int)))) = ((a0 + a1 + a2 + a3 + a4 + a5 + a6 + a7 : Nat) : Int) := by
  have b6 : x6 ≤ 2056 := by omega
  have b5 : x5 ≤ 526344 := by omega
  have b4 : x4 ≤ 134744072 := by omega
  have b3 : x3 ≤ 34494482440 := by omega
  have b2 : x2 ≤ 8830587504648 := by omega
  have b1 : x1 ≤ 2260630401189896 := by omega
  have b0 : x ≤ 578721382704613384 := by omega
  have d4 : s4 (x : Int) = ((x + x1 : Nat) : Int) := by
    unfold s4
    rw [show (x : Int) + (x : Int) / 256 = ((x + x1 : Nat) : Int) by omega]
    exact wrap_small _ (by omega)
  have d5 : s5 ((x + x1 : Nat) : Int) = ((x + x1 + (x2 + x3) : Nat) : Int) := by
    unfold s5
    have q : (x + x1) / 65536 = x2 + x3 := by omega
    rw [show ((x + x1 : Nat) : Int) + ((x + x1 : Nat) : Int) / 65536 = ((x + x1 + (x + x1) / 65536 : Nat) : Int) by omega, q]
    exact wrap_small _ (by omega)
  have d6 : s6 ((x + x1 + (x2 + x3) : Nat) : Int) = ((x + x1 + (x2 + x3) + (x4 + x5 + (x6 + a7)) : Nat) : Int) := by
    unfold s6
    have q : (x + x1 + (x2 + x3)) / 4294967296 = x4 + x5 + (x6 + a7) := by
      have f3 : x3 = a3 + 256 * (a4 + 256 * (a5 + 256 * a6)) + 4294967296 * a7 := by omega
      have f2 : x2 = a2 + 256 * (a3 + 256 * (a4 + 256 * a5)) + 4294967296 * x6 := by omega
      have f1 : x1 = a1 + 256 * (a2 + 256 * (a3 + 256 * a4)) + 4294967296 * x5 := by omega
      have f0 : x = a0 + 256 * (a1 + 256 * (a2 + 256 * a3)) + 4294967296 * x4 := by omega
      obtain ⟨g, hg⟩ : ∃ g, g = a3 + 256 * (a4 + 256 * (a5 + 256 * a6)) + (a2 + 256 * (a3 + 256 * (a4 + 256 * a5))) + (a1 + 256 * (a2 + 256 * (a3 + 256 * a4))) + (a0 + 256 * (a1 + 256 * (a2 + 256 * a3))) := ⟨_, rfl⟩
      have hgl : g < 4294967296 := by clear f0 f1 f2 f3 e0 e1 e2 e3 e4 e5 e6 d4 d5 b0 b1 b2 b3 b4 b5 b6; omega
      rw [show x + x1 + (x2 + x3) = g + 4294967296 * (x4 + x5 + (x6 + a7)) by clear e0 e1 e2 e3 e4 e5 e6 d4 d5 b0 b1 b2 b3 b4 b5 b6 hgl h0 h1 h2 h3 h4 h5 h6 h7; omega]
      rw [Nat.add_mul_div_left _ _ (by decide), Nat.div_eq_of_lt hgl, Nat.zero_add]
    rw [show ((x + x1 + (x2 + x3) : Nat) : Int) + ((x + x1 + (x2 + x3) : Nat) : Int) / 4294967296 = ((x + x1 + (x2 + x3) + (x + x1 + (x2 + x3)) / 4294967296 : Nat) : Int) by omega, q]
    exact wrap_small _ (by omega)
  rw [d4, d5, d6]
  obtain ⟨u, hu⟩ : ∃ u, u = x + x1 + (x2 + x3) + (x4 + x5 + (x6 + a7)) := ⟨_, rfl⟩
  have hub : u < 9223372036854775808 := by omega
  rw [← hu]
  have e10 : u = (a0 + a1 + a2 + a3 + a4 + a5 + a6 + a7) + 128 * (2 * (x1 + (x2 + (x3 + (x4 + (x5 + (x6 + a7))))))) := by
    clear d4 d5 d6 hub b0 b1 b2 b3 b4 b5 b6 h0 h1 h2 h3 h4 h5 h6 h7
    omega
  rw [s7_num u hub, e10, Nat.add_mul_mod_self_left, Nat.mod_eq_of_lt (by clear d4 d5 d6 hub b0 b1 b2 b3 b4 b5 b6 e0 e1 e2 e3 e4 e5 e6 hu e10; omega)]
theorem tail_eq (f : Nat → Nat) (hf : ∀ i, i < 8 → f i ≤ 8) : s7 (s6 (s5 (s4 ((dig 8 f 8 : Nat) : Int)))) = ((sumf f 8 : Nat) : Int) := by
  have e2 : sumf f 8 = f 0 + f 1 + f 2 + f 3 + f 4 + f 5 + f 6 + f 7 := by simp [sumf]
  rw [e2]
  refine tail_num _ _ _ _ _ _ _ _ _ _ _ _ _ _ _ (hf 0 (by decide)) (hf 1 (by decide)) (hf 2 (by decide)) (hf 3 (by decide)) (hf 4 (by decide)) (hf 5 (by decide)) (hf 6 (by decide)) (hf 7 (by decide)) rfl rfl rfl rfl rfl rfl ?_
  rw [dig_first, dig_first, dig_first, dig_first, dig_first, dig_first, dig_first]
  simp [dig]
theorem pop_val (x : Nat) (hx : x < 18446744073709551616) : s7 (s6 (s5 (s4 (s3 (s2 (s1 (x : Int))))))) = ((pop x : Nat) : Int) := by
  have hb : ∀ i, (x.testBit i).toNat < 2 := fun i => by cases x.testBit i <;> decide
  rw [dig_one x hx, s1_eq _ (fun i _ => hb i), s2_eq _ (fun i _ => by have := hb (2 * i); have := hb (2 * i + 1); omega),
    s3_eq _ (fun i _ => by have := hb (2 * (2 * i)); have := hb (2 * (2 * i) + 1); have := hb (2 * (2 * i + 1)); have := hb (2 * (2 * i + 1) + 1); omega),
    tail_eq]
  · rw [sumf_pairs (fun j => (x.testBit (2 * (2 * j))).toNat + (x.testBit (2 * (2 * j) + 1)).toNat + ((x.testBit (2 * (2 * j + 1))).toNat + (x.testBit (2 * (2 * j + 1) + 1)).toNat)) 8]
    rw [sumf_pairs (fun j => (x.testBit (2 * j)).toNat + (x.testBit (2 * j + 1)).toNat) 16, sumf_pairs (fun j => (x.testBit j).toNat) 32]
    rw [← dig_one x hx]; rfl
  · intro i _
    have h0 := hb (2 * (2 * (2 * i))); have h1 := hb (2 * (2 * (2 * i)) + 1); have h2 := hb (2 * (2 * (2 * i) + 1)); have h3 := hb (2 * (2 * (2 * i) + 1) + 1)
    have h4 := hb (2 * (2 * (2 * i + 1))); have h5 := hb (2 * (2 * (2 * i + 1)) + 1); have h6 := hb (2 * (2 * (2 * i + 1) + 1)); have h7 := hb (2 * (2 * (2 * i + 1) + 1) + 1)
    omega
end Bx
end Go.Proofs.YtplfblccaeligaaDoor
namespace Go.Proofs.YtplfblccaeligaaDoor
namespace Bx
open Go.RowKit

theorem sumf_first (f : Nat → Nat) (n : Nat) : sumf f (n + 1) = f 0 + sumf (fun i => f (i + 1)) n := by
  induction n with
  | zero => simp [sumf]
  | succ n ih =>
    have e : sumf f (n + 1 + 1) = sumf f (n + 1) + f (n + 1) := rfl
    rw [e, ih]; simp only [sumf]; omega
/-- How many of the d highest bits are set. -/
def cnt (x : Nat) : Nat → Nat
  | 0 => 0
  | d + 1 => cnt x d + (x.testBit (63 - d)).toNat
/-- The least one among the d highest, -1 if there is none. -/
def lst (x : Nat) : Nat → Int
  | 0 => -1
  | d + 1 => if x.testBit (63 - d) then ((63 - d : Nat) : Int) else lst x d
theorem cnt_eq (x d : Nat) (h : d ≤ 64) : cnt x d = sumf (fun i => (x.testBit (64 - d + i)).toNat) d := by
  induction d with
  | zero => rfl
  | succ d ih =>
    have e : cnt x (d + 1) = cnt x d + (x.testBit (63 - d)).toNat := rfl
    rw [e, ih (by omega), sumf_first, Nat.add_comm]
    congr 1
    · rw [show 64 - (d + 1) + 0 = 63 - d by omega]
    · apply sumf_congr; intro i hi; rw [show 64 - (d + 1) + (i + 1) = 64 - d + i by omega]
theorem cnt_all (x : Nat) : cnt x 64 = pop x := by
  rw [cnt_eq x 64 (by omega)]; unfold pop
  apply sumf_congr; intro i hi; rw [show 64 - 64 + i = i by omega]
theorem cnt_le (x d : Nat) : cnt x d ≤ d := by
  induction d with
  | zero => exact Nat.le_refl 0
  | succ d ih => simp only [cnt]; have : (x.testBit (63 - d)).toNat ≤ 1 := by cases x.testBit (63 - d) <;> decide
                 omega
theorem ctz_bit (x : Nat) (h0 : x ≠ 0) (hx : x < 2 ^ 64) : Lib.ctz 64 x < 64 ∧ x.testBit (Lib.ctz 64 x) = true ∧ ∀ i, i < Lib.ctz 64 x → x.testBit i = false := by
  obtain ⟨m, hm, hk⟩ := Lib.ctzFrom_spec 64 x (by omega) hx
  have e : Lib.ctz 64 x = Lib.ctzFrom 64 x := by simp [Lib.ctz, h0]
  rw [← e] at hm hk
  generalize Lib.ctz 64 x = c at *
  refine ⟨hk, ?_, fun i hi => ?_⟩
  · rw [hm, Nat.testBit_two_pow_mul]
    simp [Nat.testBit_zero]
  · rw [hm, Nat.testBit_two_pow_mul]
    simp; omega
/-- What Least answers. -/
def leastV (x : Nat) : Int := if x = 0 then -1 else ((Lib.ctz 64 x : Nat) : Int)
theorem lst_zero (d : Nat) : lst 0 d = -1 := by
  induction d with
  | zero => rfl
  | succ d ih => simp [lst, ih]
theorem lst_from (x c : Nat) (hc : c < 64) (h1 : x.testBit c = true) (h2 : ∀ i, i < c → x.testBit i = false) : ∀ d, 64 - c ≤ d → d ≤ 64 → lst x d = (c : Int) := by
  intro d
  induction d with
  | zero => intro h _; omega
  | succ d ih =>
    intro h h'
    simp only [lst]
    by_cases e : 63 - d = c
    · rw [e, h1]; simp
    · rw [h2 (63 - d) (by omega)]; simp only [Bool.false_eq_true, if_false]; exact ih (by omega) (by omega)
theorem lst_all (x : Nat) (hx : x < 2 ^ 64) : lst x 64 = leastV x := by
  unfold leastV
  by_cases h0 : x = 0
  · rw [if_pos h0, h0, lst_zero]
  · rw [if_neg h0]
    obtain ⟨h1, h2, h3⟩ := ctz_bit x h0 hx
    exact lst_from x _ h1 h2 h3 64 (by omega) (by omega)
/-- The product's top bits, at the lowest bit of x. -/
theorem tz_key (x c : Nat) (hx : x < 18446744073709551616) (hx0 : x ≠ 0) (hlow : x &&& (18446744073709551616 - x) = 2 ^ c) :
    IntKind.u64.wrap (bits .and .u64 (x : Int) (IntKind.u64.wrap (-(x : Int))) * 285870213051353865) / 288230376151711744 = ((2 ^ c * 285870213051353865 % 18446744073709551616 / 288230376151711744 : Nat) : Int) := by
  have e1 : IntKind.u64.wrap (-(x : Int)) = ((18446744073709551616 - x : Nat) : Int) := by rw [IntKind.wrap_u64]; omega
  rw [e1, u64_and_nat x _ hx (by omega), hlow, IntKind.wrap_u64]
  generalize 2 ^ c = q at *
  omega

/-- With and without a number, by bits. -/
theorem or_val (x : Nat) (hx : x < 18446744073709551616) (k : Nat) (hk : k < 64) :
    bits .or .u64 (x : Int) (IntKind.u64.wrap (2 ^ k)) = ((setB x (k : Int) true : Nat) : Int) := by
  have h2 : 2 ^ k < 18446744073709551616 := Nat.lt_of_lt_of_le (Nat.pow_lt_pow_right (by omega) hk) (by decide : 2 ^ 64 ≤ 18446744073709551616)
  have e : IntKind.u64.wrap (2 ^ k) = ((2 ^ k : Nat) : Int) := by
    rw [IntKind.wrap_u64, show (2 : Int) ^ k = ((2 ^ k : Nat) : Int) by simp]
    generalize 2 ^ k = q at *
    omega
  rw [e, u64_or_nat _ _ hx h2]
  congr 1
  apply ext64 (Nat.or_lt_two_pow (n := 64) hx h2) (numB_lt _ _)
  intro i hi
  rw [Nat.testBit_or, Nat.testBit_two_pow]
  rw [testBit_numB]
  by_cases h : i = k
  · subst h; simp [hi]
  · simp [hi, show ¬ ((i : Int) = (k : Int)) by omega, show ¬ k = i from fun e => h e.symm]
theorem andNot_val (x : Nat) (hx : x < 18446744073709551616) (k : Nat) (hk : k < 64) :
    bits .andNot .u64 (x : Int) (IntKind.u64.wrap (2 ^ k)) = ((setB x (k : Int) false : Nat) : Int) := by
  have h2 : 2 ^ k < 18446744073709551616 := Nat.lt_of_lt_of_le (Nat.pow_lt_pow_right (by omega) hk) (by decide : 2 ^ 64 ≤ 18446744073709551616)
  have e : IntKind.u64.wrap (2 ^ k) = ((2 ^ k : Nat) : Int) := by
    rw [IntKind.wrap_u64, show (2 : Int) ^ k = ((2 ^ k : Nat) : Int) by simp]
    generalize 2 ^ k = q at *
    omega
  rw [e, u64_andNot_nat _ _ hx h2]
  congr 1
  apply ext64 (Nat.lt_of_le_of_lt Nat.and_le_left hx) (numB_lt _ _)
  intro i hi
  rw [Nat.testBit_and, show 18446744073709551615 - 2 ^ k = 2 ^ 64 - (2 ^ k + 1) by omega, Nat.testBit_two_pow_sub_succ h2, Nat.testBit_two_pow]
  rw [testBit_numB]
  by_cases h : i = k
  · subst h; simp [hi]
  · simp [hi, show ¬ ((i : Int) = (k : Int)) by omega, show ¬ k = i from fun e => h e.symm]
theorem setB_out (x : Nat) (hx : x < 2 ^ 64) (i : Int) (h : memB i = false) (b : Bool) : setB x i b = x := by
  have h' := memB_false h
  apply ext64 (numB_lt _ _) hx
  intro j hj
  rw [testBit_numB, if_neg (by omega)]
  simp [hj]
end Bx
end Go.Proofs.YtplfblccaeligaaDoor
namespace Go.Proofs.YtplfblccaeligaaDoor
open Go.RowKit Bx
set_option maxRecDepth 100000

theorem one_first (w : World) (c1 cs : Array Value) (t : TypeId) : ((w.alloc (.cells c1 t)).setRow w.heap.size cs).heap[w.heap.size]? = some (.cells cs t (0, 0)) :=
  setRow_heap _ _ _ _ _ _ (heap_alloc_new _ _)
theorem one_below (w : World) (c1 cs : Array Value) (t : TypeId) : Below w.heap.size w ((w.alloc (.cells c1 t)).setRow w.heap.size cs) :=
  below_setRow ((Below.refl _ _).alloc (Nat.le_refl _) _) _ _ (Nat.le_refl _)
theorem numB_own (x : Nat) (hx : x < 2 ^ 64) : numB x.testBit 64 = x := by
  apply ext64 (numB_lt _ _) hx
  intro j hj
  rw [testBit_numB]; simp [hj]
set_option maxHeartbeats 400000 in
theorem set_any (x : Nat) (hx : x < 2 ^ 64) (i : Int) (b : Bool) (w : World) :
    Calls Tryd.prog 44 #[.int .u64 x, .int .i64 i, .bool b] w fun e w' => e = .returned (.int .u64 (setB x i b : Nat)) ∧ Below w.heap.size w w' := by
  have Hx := Lib.hid hx
  clear hx
  cases h0 : memB i
  · have HV := Lib.hid (setB_out x Hx.out i h0 b)
    have h' := memB_false h0
    clear h0
    by_cases h1 : i < 0
    · clear h'
      go_enter Tryd.func44, Tryd.ntmps44
      go_wp2_with fail
      refine (bits_any x Hx.out _).mono ?_
      rintro e w1 ⟨rfl, hb1⟩
      have hsz := info_rowf x.testBit
      have h1c := row_one x.testBit
      go_upto_region 2 with (refine wpList_store_row rfl 87 (.tmp 7) (.tmp 9) rfl w1.heap.size _ rfl rfl 87 _ (heap_alloc_new _ _) hsz ?_ h1c ?_)
      · rw [row_size]; rfl
      generalize hW : World.setRow _ _ _ = W1
      have hb0 : W1.heap[w1.heap.size]? = some (.cells (row x.testBit) 87 (0, 0)) := by rw [← hW]; exact one_first _ _ _ _
      have hbel : Below w.heap.size w W1 := by rw [← hW]; exact hb1.trans ((one_below _ _ _ _).mono hb1.size)
      clear hW
      have hsl := hb1.size
      go_wp2_with (refine wpList_load_row rfl 87 (.tmp 7) rfl w1.heap.size rfl 87 _ (0, 0) _ hb0 Tryd.underlying87 rfl hsz ?_)
      refine (of_any _ _).mono ?_
      rintro e w2 ⟨rfl, hb3⟩
      go_wp2_with fail
      go_ret
      exact ⟨ret_int (by rw [HV.out, numB_own _ Hx.out]), hbel.trans (hb3.mono hbel.size)⟩
    · have h2 : 64 ≤ i := by omega
      clear h'
      go_enter Tryd.func44, Tryd.ntmps44
      go_wp2_with fail
      refine (bits_any x Hx.out _).mono ?_
      rintro e w1 ⟨rfl, hb1⟩
      have hsz := info_rowf x.testBit
      have h1c := row_one x.testBit
      go_upto_region 2 with (refine wpList_store_row rfl 87 (.tmp 7) (.tmp 9) rfl w1.heap.size _ rfl rfl 87 _ (heap_alloc_new _ _) hsz ?_ h1c ?_)
      · rw [row_size]; rfl
      generalize hW : World.setRow _ _ _ = W1
      have hb0 : W1.heap[w1.heap.size]? = some (.cells (row x.testBit) 87 (0, 0)) := by rw [← hW]; exact one_first _ _ _ _
      have hbel : Below w.heap.size w W1 := by rw [← hW]; exact hb1.trans ((one_below _ _ _ _).mono hb1.size)
      clear hW
      have hsl := hb1.size
      go_wp2_with (refine wpList_load_row rfl 87 (.tmp 7) rfl w1.heap.size rfl 87 _ (0, 0) _ hb0 Tryd.underlying87 rfl hsz ?_)
      refine (of_any _ _).mono ?_
      rintro e w2 ⟨rfl, hb3⟩
      go_wp2_with fail
      go_ret
      exact ⟨ret_int (by rw [HV.out, numB_own _ Hx.out]), hbel.trans (hb3.mono hbel.size)⟩
  · obtain ⟨h1, h2⟩ := memB_true h0
    clear h0
    obtain ⟨k, rfl⟩ := Int.eq_ofNat_of_zero_le h1
    go_enter Tryd.func44, Tryd.ntmps44
    go_wp2_with fail
    refine (bits_any x Hx.out _).mono ?_
    rintro e w1 ⟨rfl, hb1⟩
    have hsz := info_rowf x.testBit
    have h1c := row_one x.testBit
    go_upto_region 2 with (refine wpList_store_row rfl 87 (.tmp 7) (.tmp 9) rfl w1.heap.size _ rfl rfl 87 _ (heap_alloc_new _ _) hsz ?_ h1c ?_)
    · rw [row_size]; rfl
    generalize hW : World.setRow _ _ _ = W1
    have hb0 : W1.heap[w1.heap.size]? = some (.cells (row x.testBit) 87 (0, 0)) := by rw [← hW]; exact one_first _ _ _ _
    have hbel : Below w.heap.size w W1 := by rw [← hW]; exact hb1.trans ((one_below _ _ _ _).mono hb1.size)
    clear hW
    have hsl := hb1.size
    have hc := cell_of_row _ _ k _ _ _ hb0
    rw [row_get _ k (by omega)] at hc
    have hf := frozen_of_row _ _ k _ _ hb0
    have hb2 := heap_set_row _ _ k _ b hb0
    have hsz2 := info_rowf (upd x.testBit k b)
    have hv : numB (upd x.testBit k b) 64 = setB x (k : Int) b := by
      apply ext64 (numB_lt _ _) (numB_lt _ _)
      intro j hj
      rw [testBit_numB, testBit_numB]
      simp only [upd]
      by_cases e : j = k
      · subst e; simp
      · rw [if_neg e, if_neg (by omega)]
    have HV := Lib.hid hv
    clear hv hb0
    go_wp2_with (refine wpList_load_row rfl 87 (.tmp 7) rfl w1.heap.size rfl 87 _ (0, 0) _ hb2 Tryd.underlying87 rfl hsz2 ?_)
    refine (of_any _ _).mono ?_
    rintro e w2 ⟨rfl, hb3⟩
    go_wp2_with fail
    go_ret
    have hbel2 := hbel.setCell (p := ⟨w1.heap.size, k, none⟩) (by simp; omega) (.bool b)
    exact ⟨ret_int (by rw [HV.out]), hbel2.trans (hb3.mono hbel2.size)⟩
end Go.Proofs.YtplfblccaeligaaDoor
