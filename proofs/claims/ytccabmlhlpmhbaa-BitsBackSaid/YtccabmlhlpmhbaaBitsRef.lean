/- Contracts of the document's answers for sets of bits: Bits, Of. -/
import Derived.Test.YtccabmlhlpmhbaaRows
import Derived.Test.YtccabmlhlpmhbaaBitsMath
import Derived.WalkKit
import Derived.WalkSpells
import Derived.WalkLawsBesides
import Derived.Lib.Hide
import Derived.BigQuiet
import Derived.Deep.QuietTactic
namespace Go.Proofs.Ytccabmlhlpmhbaa
open Go.RowKit Bx

theorem info_rowf (f : Nat → Bool) : (Try.prog.info? 42).map (·.size) = some (row f).size := by rw [row_size]; kernel_rfl
theorem row_same (f g : Nat → Bool) : (row f).size = (row g).size := by rw [row_size, row_size]
/-- A store into a block of 64 bools leaves the row with that place set. -/
theorem heap_set_row (w : World) (g k : Nat) (f : Nat → Bool) (b : Bool) (hg : w.heap[g]? = some (.cells (row f) 42 (0, 0))) :
    (w.setCell ⟨g, k, none⟩ (.bool b)).heap[g]? = some (.cells (row (upd f k b)) 42 (0, 0)) := by
  rw [heap_setCell_same w g k _ _ _ hg, row_set]
theorem heap_setRow_same (w : World) (g : Nat) (f h : Nat → Bool) (hg : w.heap[g]? = some (.cells (row f) 42 (0, 0))) :
    (w.setRow g (row h)).heap[g]? = some (.cells (row h) 42 (0, 0)) := setRow_heap w g _ _ _ _ hg
theorem below_setRow {B : Nat} {a w : World} (h : Below B a w) (g : Nat) (cs : Array Value) (hg : B ≤ g) : Below B a (w.setRow g cs) :=
  h.trans ⟨rfl, rfl, rfl, by simp, fun k hk => setRow_other w g k cs (by omega)⟩
def HalfOf (x k y : Nat) : Prop := y = x / 2 ^ k
theorem half_bit {x k y : Nat} (h : HalfOf x k y) : ((y : Int) % 2 == 1) = x.testBit k := by
  unfold HalfOf at h; subst h; exact bit_of_div x k
theorem half_next {x k y : Nat} (h : HalfOf x k y) : HalfOf x (k + 1) (y / 2) := by
  unfold HalfOf at *; subst h; exact div_succ x k
theorem half_lt {x k y : Nat} (h : HalfOf x k y) (hx : x < 2 ^ 64) : y < 18446744073709551616 := by
  unfold HalfOf at h; have := Nat.div_le_self x (2 ^ k); omega
theorem bits_step (x k : Nat) : row (upd (fun i => decide (i < k) && x.testBit i) k (x.testBit k)) = row (fun i => decide (i < k + 1) && x.testBit i) := by
  apply row_congr
  intro i hi
  unfold upd
  by_cases e : i = k
  · subst e; simp
  · by_cases h : i < k
    · simp [e, h, Nat.lt_succ_of_lt h]
    · simp [e, h, show ¬ i < k + 1 by omega]

theorem row_step (f : Nat → Bool) (k : Nat) : row (upd (fun i => decide (i < k) && f i) k (f k)) = row (fun i => decide (i < k + 1) && f i) := by
  apply row_congr
  intro i hi
  unfold upd
  by_cases e : i = k
  · subst e; simp
  · by_cases h : i < k
    · simp [e, h, Nat.lt_succ_of_lt h]
    · simp [e, h, show ¬ i < k + 1 by omega]
theorem two_first (w : World) (c1 c2 cs : Array Value) (t : TypeId) :
    (((w.alloc (.cells c1 t)).setRow w.heap.size cs).alloc (.cells c2 t)).heap[w.heap.size]? = some (.cells cs t (0, 0)) := by
  rw [Below.heap_alloc _ _ _ (by simp)]
  exact setRow_heap _ _ _ _ _ _ (heap_alloc_new _ _)
theorem two_second (w : World) (c1 c2 cs : Array Value) (t : TypeId) :
    (((w.alloc (.cells c1 t)).setRow w.heap.size cs).alloc (.cells c2 t)).heap[w.heap.size + 1]? = some (.cells c2 t (0, 0)) := by
  have h := heap_alloc_new ((w.alloc (.cells c1 t)).setRow w.heap.size cs) (.cells c2 t)
  simpa using h
theorem two_below (w : World) (c1 c2 cs : Array Value) (t : TypeId) :
    Below w.heap.size w (((w.alloc (.cells c1 t)).setRow w.heap.size cs).alloc (.cells c2 t)) :=
  (below_setRow ((Below.refl _ _).alloc (Nat.le_refl _) _) _ _ (Nat.le_refl _)).alloc (by simp) _

theorem three_second (w : World) (c1 c2 cs : Array Value) (t : TypeId) :
    (((w.alloc (.cells c1 t)).alloc (.cells c2 t)).setRow w.heap.size cs).heap[w.heap.size + 1]? = some (.cells c2 t (0, 0)) := by
  rw [setRow_other _ _ _ _ (by simp)]
  exact heap_alloc2_new _ _ _
theorem three_first (w : World) (c1 c2 cs ds : Array Value) (t : TypeId) :
    ((((w.alloc (.cells c1 t)).alloc (.cells c2 t)).setRow w.heap.size cs).setRow (w.heap.size + 1) ds).heap[w.heap.size]? = some (.cells cs t (0, 0)) := by
  rw [setRow_other _ _ _ _ (by simp)]
  exact setRow_heap _ _ _ _ _ _ (heap_alloc2_old _ _ _)
theorem three_last (w : World) (c1 c2 cs ds : Array Value) (t : TypeId) :
    ((((w.alloc (.cells c1 t)).alloc (.cells c2 t)).setRow w.heap.size cs).setRow (w.heap.size + 1) ds).heap[w.heap.size + 1]? = some (.cells ds t (0, 0)) :=
  setRow_heap _ _ _ _ _ _ (three_second _ _ _ _ _)
theorem three_below (w : World) (c1 c2 cs ds : Array Value) (t : TypeId) :
    Below w.heap.size w ((((w.alloc (.cells c1 t)).alloc (.cells c2 t)).setRow w.heap.size cs).setRow (w.heap.size + 1) ds) :=
  below_setRow (below_setRow (((Below.refl _ _).alloc (Nat.le_refl _) _).alloc (by simp) _) _ _ (Nat.le_refl _)) _ _ (by omega)

set_option maxHeartbeats 400000 in
theorem bits_any (x : Nat) (hx : x < 2 ^ 64) (w : World) :
    Calls Try.prog 22 #[.int .u64 x] w fun e w' => e = .returned (.agg (row x.testBit)) ∧ Below w.heap.size w w' := by
  go_enter Try.func22, Try.ntmps22
  go_wp2
  go_loopw [0, 4] (fun u i wr => ∃ k y : Nat, k ≤ 64 ∧ i = .int .i64 k ∧ u = .int .u64 (y : Int) ∧ HalfOf x k y ∧ wr.heap[w.heap.size]? = some (.cells (row fun _ => false) 42 (0, 0)) ∧ wr.heap[w.heap.size + 1]? = some (.cells (row fun i => decide (i < k) && x.testBit i) 42 (0, 0)) ∧ Below w.heap.size w wr) (fun _ i _ => 64 - (intOf i).toNat)
  case atStart =>
    refine ⟨0, x, by omega, rfl, rfl, by simp [HalfOf], ?_, ?_, ?_⟩
    · rw [heap_alloc2_old]; kernel_rfl
    · rw [heap_alloc2_new]; rw [row_congr (g := fun _ => false) (by simp)]; kernel_rfl
    · exact ((Below.refl _ _).alloc (Nat.le_refl _) _).alloc (by simp) _
  case round =>
    obtain ⟨k, y, hk, rfl, rfl, hy, hb0, hb1, hbel⟩ := hrel
    by_cases hlt : k < 64
    · have hc := cell_of_row _ _ k _ _ _ hb1
      rw [row_get _ k hlt] at hc
      have hf := frozen_of_row _ _ k _ _ hb1
      have hyb := half_lt hy hx
      have Hb0 := Lib.hid hb0
      have Hb1 := Lib.hid hb1
      clear hb0 hb1
      go_wp2
      go_roundw
      case rel =>
        rw [half_bit hy]
        refine ⟨k + 1, y / 2, by omega, by go_num, by go_num, half_next hy, ?_, ?_, hbel.setCell (by simp) _⟩
        · rw [heap_setCell_other _ _ _ _ (by simp)]; exact Hb0.out
        · rw [heap_set_row _ _ _ _ _ Hb1.out, bits_step]
      case measure => simp [intOf]; omega
    · have hk64 : k = 64 := by omega
      subst hk64
      have hsz := info_rowf (fun i => decide (i < 64) && x.testBit i)
      have hs0 := Lib.hid (row_same (fun _ => false) (fun i => decide (i < 64) && x.testBit i))
      have h1c := row_one (fun i => decide (i < 64) && x.testBit i)
      go_wp2_with (first | (refine wpList_load_row rfl 42 (.tmp 3) rfl (w.heap.size + 1) rfl 42 _ (0, 0) _ hb1 Try.underlying42 rfl hsz ?_) | (refine wpList_store_row rfl 42 (.tmp 2) (.tmp 16) rfl w.heap.size _ rfl rfl 42 _ hb0 hsz hs0.out h1c ?_))
      have hr := heap_setRow_same wr w.heap.size _ (fun i => decide (i < 64) && x.testBit i) hb0
      refine bodyPost_ret (v := .agg (row fun i => decide (i < 64) && x.testBit i)) ?_ rfl ⟨?_, below_setRow hbel _ _ (Nat.le_refl _)⟩
      · exact results_cell_row (ty := 42) (p := 2) (by kernel_rfl) _ _ w.heap.size 42 _ (0, 0) _ rfl hr Try.underlying42 rfl hsz
      · rw [row_congr (g := x.testBit) (fun i hi => by simp [hi])]

def SumOf (f : Nat → Bool) (k x : Nat) : Prop := x = numB f k
def WorthOf (k v : Nat) : Prop := v = 2 ^ k % 18446744073709551616
theorem worth_lt {k v : Nat} (h : WorthOf k v) : v < 18446744073709551616 := by unfold WorthOf at h; omega
theorem worth_eq {k v : Nat} (h : WorthOf k v) (hk : k < 64) : v = 2 ^ k := by
  unfold WorthOf at h
  have : 2 ^ k < 2 ^ 64 := Nat.pow_lt_pow_right (by omega) hk
  rw [h, Nat.mod_eq_of_lt this]
theorem sum_lt {f : Nat → Bool} {k x v : Nat} (h : SumOf f k x) (hv : WorthOf k v) (hk : k < 64) : x + v < 18446744073709551616 := by
  have e := worth_eq hv hk
  unfold SumOf at h
  have h1 := numB_lt f k
  have h2 : 2 ^ (k + 1) ≤ 2 ^ 64 := Nat.pow_le_pow_right (by omega) hk
  rw [Nat.pow_succ] at h2
  omega
theorem worth_next {k v : Nat} (h : WorthOf k v) : IntKind.u64.wrap ((v : Int) * 2) = ((2 ^ (k + 1) % 18446744073709551616 : Nat) : Int) := by
  unfold WorthOf at h
  rw [IntKind.wrap_u64, Nat.pow_succ]
  omega
theorem sum_yes {f : Nat → Bool} {k x v : Nat} (h : SumOf f k x) (hv : WorthOf k v) (hk : k < 64) (hf : f k = true) : SumOf f (k + 1) (x + v) := by
  have e := worth_eq hv hk
  unfold SumOf at *
  simp only [numB, hf, if_true]; omega
theorem sum_no {f : Nat → Bool} {k x : Nat} (h : SumOf f k x) (hf : f k = false) : SumOf f (k + 1) x := by
  unfold SumOf at *
  simp [numB, hf]; omega

set_option maxHeartbeats 400000 in
theorem of_any (f : Nat → Bool) (w : World) :
    Calls Try.prog 23 #[.agg (row f)] w fun e w' => e = .returned (.int .u64 (numB f 64 : Nat)) ∧ Below w.heap.size w w' := by
  go_enter Try.func23, Try.ntmps23
  go_wp2
  go_loopw [3, 4, 5] (fun u v i wr => ∃ k x z : Nat, k ≤ 64 ∧ i = .int .i64 k ∧ u = .int .u64 (x : Int) ∧ v = .int .u64 (z : Int) ∧ SumOf f k x ∧ WorthOf k z ∧ wr.heap[w.heap.size]? = some (.cells (row f) 42 (0, 0)) ∧ Below w.heap.size w wr) (fun _ _ i _ => 64 - (intOf i).toNat)
  case atStart =>
    exact ⟨0, 0, 1, by omega, rfl, rfl, rfl, rfl, by simp [WorthOf], heap_alloc_new _ _, (Below.refl _ _).alloc (Nat.le_refl _) _⟩
  case round =>
    obtain ⟨k, x, z, hk, rfl, rfl, rfl, hx, hz, hb0, hbel⟩ := hrel
    by_cases hlt : k < 64
    · have hc := cell_of_row _ _ k _ _ _ hb0
      rw [row_get _ k hlt] at hc
      have hs := sum_lt hx hz hlt
      have hzb := worth_lt hz
      have Hb0 := Lib.hid hb0
      clear hb0
      obtain ⟨b, hb⟩ : ∃ b, b = f k := ⟨_, rfl⟩
      rw [← hb] at hc
      have Hb := Lib.hid hb
      clear hb
      cases b
      · go_wp2
        go_roundw
        case rel =>
          rw [worth_next hz]
          exact ⟨k + 1, _, _, by omega, by go_num, rfl, rfl, sum_no hx Hb.out.symm, rfl, Hb0.out, hbel⟩
        case measure => simp [intOf]; omega
      · go_wp2
        go_roundw
        case rel =>
          rw [worth_next hz]
          exact ⟨k + 1, _, _, by omega, by go_num, by go_num, rfl, sum_yes hx hz hlt Hb.out.symm, rfl, Hb0.out, hbel⟩
        case measure => simp [intOf]; omega
    · have hk64 : k = 64 := by omega
      subst hk64
      go_wp2
      go_ret
      unfold SumOf at hx
      rw [← hx]
      exact ⟨rfl, hbel⟩

theorem is_is (a n : Int) (b : Bool) (hb : isB a n = b) (w : World) :
    Calls Try.prog 21 #[.int .i64 a, .int .i64 n] w fun e w' => e = .returned (.bool b) ∧ w = w' := by
  by_cases h0 : 0 ≤ a
  · by_cases h1 : 1 ≤ n
    · by_cases h2 : n ≤ 64
      · by_cases h4 : a < 64
        · have hb' : decide (a ≤ 64 - n) = b := by simpa [isB, h0, h1, h2] using hb
          go_enter Try.func21, Try.ntmps21
          go_wp2_with fail
          go_ret
          exact ⟨rfl, rfl⟩
        · obtain rfl : b = false := by rw [← hb]; simp [isB, h0, h1, h2]; omega
          clear hb
          go_enter Try.func21, Try.ntmps21
          go_wp2_with fail
          go_ret
          exact ⟨rfl, rfl⟩
      · obtain rfl : b = false := by rw [← hb]; simp [isB, h0, h1, h2]
        clear hb
        by_cases h4 : a < 64
        · go_enter Try.func21, Try.ntmps21
          go_wp2_with fail
          go_ret
          exact ⟨rfl, rfl⟩
        · go_enter Try.func21, Try.ntmps21
          go_wp2_with fail
          go_ret
          exact ⟨rfl, rfl⟩
    · obtain rfl : b = false := by rw [← hb]; simp [isB, h0, h1]
      clear hb
      by_cases h4 : a < 64
      · go_enter Try.func21, Try.ntmps21
        go_wp2_with fail
        go_ret
        exact ⟨rfl, rfl⟩
      · go_enter Try.func21, Try.ntmps21
        go_wp2_with fail
        go_ret
        exact ⟨rfl, rfl⟩
  · obtain rfl : b = false := by rw [← hb]; simp [isB, h0]
    clear hb
    go_enter Try.func21, Try.ntmps21
    go_wp2_with fail
    go_ret
    exact ⟨rfl, rfl⟩
def inB (a b : Int) (i : Nat) : Bool := decide (a ≤ (i : Int)) && decide ((i : Int) < b)
theorem span_step (a b : Int) (k : Nat) : row (upd (fun i => decide (i < k) && inB a b i) k (inB a b k)) = row (fun i => decide (i < k + 1) && inB a b i) := by
  apply row_congr
  intro i hi
  unfold upd
  by_cases e : i = k
  · subst e; simp
  · by_cases h : i < k
    · simp [e, h, Nat.lt_succ_of_lt h]
    · simp [e, h, show ¬ i < k + 1 by omega]
set_option maxHeartbeats 400000 in
theorem spanRef_any (a b : Int) (w : World) :
    Calls Try.prog 13 #[.int .i64 a, .int .i64 b] w fun e w' => e = .returned (.int .u64 (spanB a b : Nat)) ∧ Below w.heap.size w w' := by
  go_enter Try.func13, Try.ntmps13
  go_wp2
  go_loopw [6] (fun i wr => ∃ k : Nat, k ≤ 64 ∧ i = .int .i64 k ∧ wr.heap[w.heap.size]? = some (.cells (row fun i => decide (i < k) && inB a b i) 42 (0, 0)) ∧ Below w.heap.size w wr) (fun i _ => 64 - (intOf i).toNat)
  case atStart =>
    refine ⟨0, by omega, rfl, ?_, ?_⟩
    · rw [heap_alloc_new]; rw [row_congr (g := fun _ => false) (by simp)]; kernel_rfl
    · exact (Below.refl _ _).alloc (Nat.le_refl _) _
  case round =>
    obtain ⟨k, hk, rfl, hb0, hbel⟩ := hrel
    by_cases hlt : k < 64
    · have hc := cell_of_row _ _ k _ _ _ hb0
      rw [row_get _ k hlt] at hc
      have hf := frozen_of_row _ _ k _ _ hb0
      have Hb0 := Lib.hid hb0
      clear hb0
      by_cases h1 : a ≤ (k : Int)
      · go_wp2
        go_roundw
        case rel =>
          have e : decide ((k : Int) < b) = inB a b k := by simp [inB, h1]
          rw [e]
          refine ⟨k + 1, by omega, by go_num, ?_, hbel.setCell (by simp) _⟩
          rw [heap_set_row _ _ _ _ _ Hb0.out, span_step]
        case measure => simp [intOf]; omega
      · have hd : decide (a ≤ (k : Int)) = false := by simpa using h1
        go_wp2
        go_roundw
        case rel =>
          have e : false = inB a b k := by simp [inB, h1]
          rw [e]
          refine ⟨k + 1, by omega, by go_num, ?_, hbel.setCell (by simp) _⟩
          rw [heap_set_row _ _ _ _ _ Hb0.out, span_step]
        case measure => simp [intOf]; omega
    · have hk64 : k = 64 := by omega
      subst hk64
      have hsz := info_rowf (fun i => decide (i < 64) && inB a b i)
      have hv : numB (fun i => decide (i < 64) && inB a b i) 64 = spanB a b := by
        apply ext64 (numB_lt _ _) (numB_lt _ _)
        intro i hi
        rw [testBit_numB, testBit_numB]; simp [hi, inB]
      have HV := Lib.hid hv
      clear hv
      go_wp2_with (refine wpList_load_row rfl 42 (.tmp 5) rfl w.heap.size rfl 42 _ (0, 0) _ hb0 Try.underlying42 rfl hsz ?_)
      refine (of_any _ _).mono ?_
      rintro e w1 ⟨rfl, hb1⟩
      go_wp2_with fail
      go_ret
      exact ⟨ret_int (by rw [HV.out]), hbel.trans (hb1.mono hbel.size)⟩
theorem partRef_no (x a n : Int) (h : isB a n = false) (w : World) :
    Calls Try.prog 11 #[.int .u64 x, .int .i64 a, .int .i64 n] w fun e w' => e = .returned (.int .u64 0) ∧ Below w.heap.size w w' := by
  have H0 := Lib.hid h
  clear h
  go_enter Try.func11, Try.ntmps11
  go_wp2_with fail
  refine (is_is _ _ _ H0.out _).mono ?_
  rintro e w' ⟨rfl, rfl⟩
  go_wp2_with fail
  go_ret
  exact ⟨rfl, Below.refl _ _⟩
set_option maxHeartbeats 400000 in
theorem partRef_yes (x : Nat) (hx : x < 2 ^ 64) (a n : Int) (h : isB a n = true) (w : World) :
    Calls Try.prog 11 #[.int .u64 x, .int .i64 a, .int .i64 n] w fun e w' => e = .returned (.int .u64 (partB x a.toNat n.toNat : Nat)) ∧ Below w.heap.size w w' := by
  obtain ⟨h1, h2, h3, h4⟩ := isB_true h
  have H0 := Lib.hid h
  clear h
  obtain ⟨p, rfl⟩ := Int.eq_ofNat_of_zero_le h1
  obtain ⟨m, rfl⟩ := Int.eq_ofNat_of_zero_le (show 0 ≤ n by omega)
  go_enter Try.func11, Try.ntmps11
  go_wp2_with fail
  refine (is_is _ _ _ H0.out _).mono ?_
  rintro e w' ⟨rfl, rfl⟩
  go_wp2_with fail
  refine (bits_any x hx _).mono ?_
  rintro e w1 ⟨rfl, hb1⟩
  have hsz := info_rowf x.testBit
  have h1c := row_one x.testBit
  go_wp2_with (refine wpList_store_row rfl 42 (.tmp 7) (.tmp 15) rfl w1.heap.size _ rfl rfl 42 _ (heap_alloc_new _ _) hsz ?_ h1c ?_)
  · rw [row_size]; rfl
  clear hsz h1c
  go_loopw [9] (fun i wr => ∃ k : Nat, k ≤ m ∧ i = .int .i64 k ∧ wr.heap[w1.heap.size]? = some (.cells (row x.testBit) 42 (0, 0)) ∧ wr.heap[w1.heap.size + 1]? = some (.cells (row fun i => decide (i < k) && x.testBit (p + i)) 42 (0, 0)) ∧ Below w.heap.size w wr) (fun i _ => m - (intOf i).toNat)
  case atStart =>
    refine ⟨0, by omega, rfl, two_first _ _ _ _ _, ?_, hb1.trans ((two_below _ _ _ _ _).mono hb1.size)⟩
    rw [two_second, row_congr (g := fun _ => false) (by simp)]; kernel_rfl
  case round =>
    obtain ⟨k, hk, rfl, hb0, hb2, hbel⟩ := hrel
    by_cases hlt : k < m
    · have hc := cell_of_row _ _ (p + k) _ _ _ hb0
      rw [row_get _ (p + k) (by omega)] at hc
      have hc2 := cell_of_row _ _ k _ _ _ hb2
      rw [row_get _ k (by omega)] at hc2
      have hf := frozen_of_row _ _ k _ _ hb2
      have Hb0 := Lib.hid hb0
      have Hb2 := Lib.hid hb2
      clear hb0 hb2
      go_wp2
      go_roundw
      case rel =>
        refine ⟨k + 1, by omega, by go_num, ?_, ?_, hbel.setCell (by have := hb1.size; simp; omega) _⟩
        · rw [heap_setCell_other _ _ _ _ (by simp)]; exact Hb0.out
        · rw [heap_set_row _ _ _ _ _ Hb2.out, row_step (fun i => x.testBit (p + i))]
      case measure => simp [intOf]; omega
    · have hkm : k = m := by omega
      subst hkm
      have hsz := info_rowf (fun i => decide (i < k) && x.testBit (p + i))
      go_wp2_with (refine wpList_load_row rfl 42 (.tmp 8) rfl (w1.heap.size + 1) rfl 42 _ (0, 0) _ hb2 Try.underlying42 rfl hsz ?_)
      refine (of_any _ _).mono ?_
      rintro e w2 ⟨rfl, hb3⟩
      go_wp2_with fail
      go_ret
      exact ⟨rfl, hbel.trans (hb3.mono hbel.size)⟩
theorem narrowRef_no (x n : Int) (h : n < 1 ∨ 64 < n) (w : World) :
    Calls Try.prog 14 #[.int .i64 x, .int .i64 n] w fun e w' => e = .returned (.int .i64 x) ∧ Below w.heap.size w w' := by
  by_cases h1 : n < 1
  · clear h
    go_enter Try.func14, Try.ntmps14
    go_wp2_with fail
    go_ret
    exact ⟨rfl, Below.refl _ _⟩
  · have h2 : 64 < n := by omega
    clear h
    go_enter Try.func14, Try.ntmps14
    go_wp2_with fail
    go_ret
    exact ⟨rfl, Below.refl _ _⟩
set_option maxHeartbeats 400000 in
theorem narrowRef_yes (x n : Int) (h1 : 1 ≤ n) (h2 : n ≤ 64) (w : World) :
    Calls Try.prog 14 #[.int .i64 x, .int .i64 n] w fun e w' => e = .returned (.int .i64 (wrap64 ((narB (u64Of x) n.toNat : Nat) : Int))) ∧ Below w.heap.size w w' := by
  obtain ⟨m, rfl⟩ := Int.eq_ofNat_of_zero_le (show 0 ≤ n by omega)
  go_enter Try.func14, Try.ntmps14
  go_wp2_with fail
  rw [u64_wrap]
  refine (bits_any _ (u64Of_lt x) _).mono ?_
  rintro e w1 ⟨rfl, hb1⟩
  obtain ⟨y, hy⟩ : ∃ y, y = u64Of x := ⟨_, rfl⟩
  rw [← hy]
  have Hy := Lib.hid hy
  clear hy
  have hsz := info_rowf y.testBit
  have h1c := row_one y.testBit
  go_wp2_with (refine wpList_store_row rfl 42 (.tmp 5) (.tmp 16) rfl w1.heap.size _ rfl rfl 42 _ (heap_alloc_new _ _) hsz ?_ h1c ?_)
  · rw [row_size]; rfl
  clear hsz h1c
  go_loopw [6] (fun i wr => ∃ k : Nat, m ≤ k ∧ k ≤ 64 ∧ i = .int .i64 k ∧ wr.heap[w1.heap.size]? = some (.cells (row (narF y m k)) 42 (0, 0)) ∧ Below w.heap.size w wr) (fun i _ => 64 - (intOf i).toNat)
  case atStart =>
    refine ⟨m, by omega, by omega, rfl, ?_, hb1.trans (below_setRow ((Below.refl _ _).alloc hb1.size _) _ _ hb1.size)⟩
    rw [row_congr (g := y.testBit) (fun i _ => narF_first y m i)]
    exact setRow_heap _ _ _ _ _ _ (heap_alloc_new _ _)
  case round =>
    obtain ⟨k, hk0, hk, rfl, hb0, hbel⟩ := hrel
    by_cases hlt : k < 64
    · have hc := cell_of_row _ _ (m - 1) _ _ _ hb0
      rw [row_get _ (m - 1) (by omega), narF_top y m k (by omega)] at hc
      have hc2 := cell_of_row _ _ k _ _ _ hb0
      rw [row_get _ k hlt] at hc2
      have hf := frozen_of_row _ _ k _ _ hb0
      have Hb0 := Lib.hid hb0
      clear hb0
      go_wp2
      go_roundw
      case rel =>
        refine ⟨k + 1, by omega, by omega, by go_num, ?_, hbel.setCell (by have := hb1.size; simp; omega) _⟩
        rw [heap_set_row _ _ _ _ _ Hb0.out, row_congr (fun i _ => narF_step y m k i hk0)]
      case measure => simp [intOf]; omega
    · have hk64 : k = 64 := by omega
      subst hk64
      have hsz := info_rowf (narF y m 64)
      have hv : numB (narF y m 64) 64 = narB y m := narF_last y m
      have HV := Lib.hid hv
      clear hv
      go_wp2_with (refine wpList_load_row rfl 42 (.tmp 5) rfl w1.heap.size rfl 42 _ (0, 0) _ hb0 Try.underlying42 rfl hsz ?_)
      refine (of_any _ _).mono ?_
      rintro e w2 ⟨rfl, hb3⟩
      go_wp2_with fail
      go_ret
      rw [← Hy.out, Int.toNat_natCast, ← HV.out]
      exact ⟨rfl, hbel.trans (hb3.mono hbel.size)⟩
theorem putRef_no (x p a n : Int) (h : isB a n = false) (w : World) :
    Calls Try.prog 8 #[.int .u64 x, .int .i64 a, .int .i64 n, .int .u64 p] w fun e w' => e = .returned (.tuple #[.int .u64 0, .int .i64 1]) ∧ Below w.heap.size w w' := by
  have H0 := Lib.hid h
  clear h
  go_enter Try.func8, Try.ntmps8
  go_wp2_with fail
  refine (is_is _ _ _ H0.out _).mono ?_
  rintro e w' ⟨rfl, rfl⟩
  go_wp2_with fail
  go_ret2
  exact ⟨rfl, Below.refl _ _⟩
def PutPost (x a m p : Nat) (e : Ending) : Prop :=
  (p ≤ mask m → e = .returned (.tuple #[.int .u64 (putB x a m p : Nat), .int .i64 0])) ∧ (mask m < p → e = .returned (.tuple #[.int .u64 0, .int .i64 2]))
theorem PutPost.form {x a m p k : Nat} (hk : m ≤ k) (hb : p.testBit k = true) : PutPost x a m p (.returned (.tuple #[.int .u64 0, .int .i64 2])) := by
  refine ⟨fun h => ?_, fun _ => rfl⟩
  have h1 : p < 2 ^ k := Nat.lt_of_le_of_lt h (Nat.lt_of_lt_of_le (mask_lt_pow m) (Nat.pow_le_pow_right (by omega) hk))
  rw [Nat.testBit_lt_two_pow h1] at hb
  cases hb
def putF (x a m p k i : Nat) : Bool := if a ≤ i ∧ i < a + m ∧ i < a + k then p.testBit (i - a) else x.testBit i
theorem putF_first (x a m p i : Nat) : putF x a m p 0 i = x.testBit i := by
  unfold putF; rw [if_neg (by omega)]
theorem putF_step (x a m p k i : Nat) (h : k < m) : upd (putF x a m p k) (a + k) (p.testBit k) i = putF x a m p (k + 1) i := by
  unfold upd putF
  by_cases h1 : i = a + k
  · subst h1; rw [if_pos rfl, if_pos (by omega), Nat.add_sub_cancel_left]
  · rw [if_neg h1]
    by_cases h2 : a ≤ i ∧ i < a + m ∧ i < a + k
    · rw [if_pos h2, if_pos (by omega)]
    · rw [if_neg h2, if_neg (by omega)]
theorem putF_past (x a m p k i : Nat) (h : m ≤ k) : putF x a m p k i = putF x a m p (k + 1) i := by
  unfold putF
  by_cases h2 : a ≤ i ∧ i < a + m
  · rw [if_pos (by omega), if_pos (by omega)]
  · rw [if_neg (by omega), if_neg (by omega)]
theorem PutPost.last {x a m p : Nat} (hm : m ≤ 64) (hp : p < 2 ^ 64) (hno : ∀ j, m ≤ j → j < 64 → p.testBit j = false) :
    PutPost x a m p (.returned (.tuple #[.int .u64 (numB (putF x a m p 64) 64 : Nat), .int .i64 0])) := by
  refine ⟨fun _ => ?_, fun h => ?_⟩
  · have e : numB (putF x a m p 64) 64 = putB x a m p := by
      apply ext64 (numB_lt _ _) (numB_lt _ _)
      intro i hi
      rw [testBit_numB, testBit_numB]
      simp only [hi, decide_true, Bool.true_and, putF]
      by_cases h2 : a ≤ i ∧ i < a + m
      · rw [if_pos (by omega), if_pos h2]
      · rw [if_neg (by omega), if_neg h2]
    rw [e]
  · have h1 : p % 2 ^ m = p := by
      apply Nat.eq_of_testBit_eq
      intro i
      rw [Nat.testBit_mod_two_pow]
      by_cases h2 : i < m
      · simp [h2]
      · by_cases h3 : i < 64
        · simp [h2, hno i (by omega) h3]
        · rw [Nat.testBit_lt_two_pow (Nat.lt_of_lt_of_le hp (Nat.pow_le_pow_right (by omega) (by omega)))]; simp
    have h2 := Nat.mod_lt p (Nat.two_pow_pos m)
    unfold mask at h
    omega
set_option maxHeartbeats 1000000 in
theorem putRef_yes (x : Nat) (hx : x < 2 ^ 64) (p : Nat) (hp : p < 2 ^ 64) (a n : Int) (h : isB a n = true) (w : World) :
    Calls Try.prog 8 #[.int .u64 x, .int .i64 a, .int .i64 n, .int .u64 p] w fun e w' => PutPost x a.toNat n.toNat p e ∧ Below w.heap.size w w' := by
  obtain ⟨h1, h2, h3, h4⟩ := isB_true h
  have H0 := Lib.hid h
  clear h
  obtain ⟨q, rfl⟩ := Int.eq_ofNat_of_zero_le h1
  obtain ⟨m, rfl⟩ := Int.eq_ofNat_of_zero_le (show 0 ≤ n by omega)
  have hx' := Lib.hid hx
  have hp' := Lib.hid hp
  clear hx hp
  go_enter Try.func8, Try.ntmps8
  go_wp2_with fail
  refine (is_is _ _ _ H0.out _).mono ?_
  rintro e w' ⟨rfl, rfl⟩
  go_wp2_with fail
  refine (bits_any x hx'.out _).mono ?_
  rintro e w1 ⟨rfl, hb1⟩
  go_wp2_with fail
  refine (bits_any p hp'.out _).mono ?_
  rintro e w2 ⟨rfl, hb2⟩
  have hb3 := hb1.trans (hb2.mono hb1.size)
  have hsx := info_rowf x.testBit
  have h1x := row_one x.testBit
  have hsp := info_rowf p.testBit
  have h1p := row_one p.testBit
  go_wp2_with (first | (refine wpList_store_row rfl 42 (.tmp 10) (.tmp 18) rfl w2.heap.size _ rfl rfl 42 _ (heap_alloc2_old _ _ _) hsx ?_ h1x ?_) | (refine wpList_store_row rfl 42 (.tmp 11) (.tmp 20) rfl (w2.heap.size + 1) _ rfl rfl 42 _ (three_second _ _ _ _ _) hsp ?_ h1p ?_))
  · rw [row_size]; rfl
  · rw [row_size]; rfl
  clear hsx h1x hsp h1p
  go_loopw [12] (fun i wr => ∃ k : Nat, k ≤ 64 ∧ i = .int .i64 k ∧ wr.heap[w2.heap.size]? = some (.cells (row (putF x q m p k)) 42 (0, 0)) ∧ wr.heap[w2.heap.size + 1]? = some (.cells (row p.testBit) 42 (0, 0)) ∧ (∀ j, m ≤ j → j < k → p.testBit j = false) ∧ Below w.heap.size w wr) (fun i _ => 64 - (intOf i).toNat)
  case atStart =>
    refine ⟨0, by omega, rfl, ?_, three_last _ _ _ _ _ _, fun j _ h => absurd h (by omega), hb3.trans ((three_below _ _ _ _ _ _).mono hb3.size)⟩
    rw [row_congr (g := x.testBit) (fun i _ => putF_first x q m p i)]
    exact three_first _ _ _ _ _ _
  case round =>
    obtain ⟨k, hk, rfl, hc0, hc1, hno, hbel⟩ := hrel
    have Hno := Lib.hid hno
    clear hno
    have hsz2 := hb3.size
    by_cases hlt : k < 64
    · have hc := cell_of_row _ _ k _ _ _ hc1
      rw [row_get _ k hlt] at hc
      have Hc0 := Lib.hid hc0
      have Hc1 := Lib.hid hc1
      clear hc1
      by_cases hkm : k < m
      · have hd := cell_of_row _ _ (q + k) _ _ _ hc0
        rw [row_get _ (q + k) (by omega)] at hd
        have hf := frozen_of_row _ _ (q + k) _ _ hc0
        clear hc0
        go_wp2
        go_roundw
        case rel =>
          refine ⟨k + 1, by omega, by go_num, ?_, ?_, fun j h5 h6 => absurd h5 (by omega), hbel.setCell (by simp; omega) _⟩
          · rw [heap_set_row _ _ _ _ _ Hc0.out, row_congr (fun i _ => putF_step x q m p k i hkm)]
          · rw [heap_setCell_other _ _ _ _ (by simp)]; exact Hc1.out
        case measure => simp [intOf]; omega
      · clear hc0
        obtain ⟨b, hb⟩ : ∃ b, b = p.testBit k := ⟨_, rfl⟩
        rw [← hb] at hc
        have Hb := Lib.hid hb
        clear hb
        cases b
        · go_wp2
          go_roundw
          case rel =>
            refine ⟨k + 1, by omega, by go_num, ?_, Hc1.out, fun j h5 h6 => ?_, hbel⟩
            · rw [← row_congr (fun i _ => putF_past x q m p k i (by omega))]; exact Hc0.out
            · by_cases e : j = k
              · rw [e]; exact Hb.out.symm
              · exact Hno.out j h5 (by omega)
          case measure => simp [intOf]; omega
        · go_wp2
          go_ret2
          exact ⟨PutPost.form (k := k) (by omega) Hb.out.symm, hbel⟩
    · have hk64 : k = 64 := by omega
      subst hk64
      have hsz := info_rowf (putF x q m p 64)
      have hv := PutPost.last (x := x) (a := q) (m := m) (p := p) (by omega) hp'.out Hno.out
      have HV := Lib.hid hv
      clear hv
      go_wp2_with (refine wpList_load_row rfl 42 (.tmp 10) rfl w2.heap.size rfl 42 _ (0, 0) _ hc0 Try.underlying42 rfl hsz ?_)
      refine (of_any _ _).mono ?_
      rintro e w3 ⟨rfl, hb4⟩
      go_wp2_with fail
      go_ret2
      exact ⟨HV.out, hbel.trans (hb4.mono hbel.size)⟩
theorem putRef_form (x : Nat) (hx : x < 2 ^ 64) (p : Nat) (hp : p < 2 ^ 64) (a n : Int) (h : isB a n = true) (hm : mask (clamp n) < p) (w : World) :
    Calls Try.prog 8 #[.int .u64 x, .int .i64 a, .int .i64 n, .int .u64 p] w fun e w' => e = .returned (.tuple #[.int .u64 0, .int .i64 2]) ∧ Below w.heap.size w w' := by
  obtain ⟨h1, h2, h3, h4⟩ := isB_true h
  have hc : clamp n = n.toNat := by unfold clamp; omega
  rw [hc] at hm
  exact (putRef_yes x hx p hp a n h w).mono fun e w' ⟨he, hb⟩ => ⟨he.2 hm, hb⟩
theorem putRef_laid (x : Nat) (hx : x < 2 ^ 64) (p : Nat) (hp : p < 2 ^ 64) (a n : Int) (h : isB a n = true) (hm : p ≤ mask (clamp n)) (w : World) :
    Calls Try.prog 8 #[.int .u64 x, .int .i64 a, .int .i64 n, .int .u64 p] w fun e w' => e = .returned (.tuple #[.int .u64 (putB x a.toNat n.toNat p : Nat), .int .i64 0]) ∧ Below w.heap.size w w' := by
  obtain ⟨h1, h2, h3, h4⟩ := isB_true h
  have hc : clamp n = n.toNat := by unfold clamp; omega
  rw [hc] at hm
  exact (putRef_yes x hx p hp a n h w).mono fun e w' ⟨he, hb⟩ => ⟨he.1 hm, hb⟩
end Go.Proofs.Ytccabmlhlpmhbaa
