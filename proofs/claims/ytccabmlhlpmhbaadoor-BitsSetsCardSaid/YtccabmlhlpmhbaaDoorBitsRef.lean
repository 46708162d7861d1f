/- Contracts of the document's answers for sets of bits: Bits, Of. -/
import Derived.Test.YtccabmlhlpmhbaaDoorRows
import Derived.Test.YtccabmlhlpmhbaaDoorBitsMath
import Derived.WalkKit
import Derived.WalkSpells
import Derived.WalkLawsBesides
import Derived.Lib.Hide
import Derived.BigQuiet
import Derived.Deep.QuietTactic
namespace Go.Proofs.YtccabmlhlpmhbaaDoor
open Go.RowKit Bx

theorem info_rowf (f : Nat → Bool) : (Tryd.prog.info? 24).map (·.size) = some (row f).size := by rw [row_size]; kernel_rfl
theorem row_same (f g : Nat → Bool) : (row f).size = (row g).size := by rw [row_size, row_size]
/-- A store into a block of 64 bools leaves the row with that place set. -/
theorem heap_set_row (w : World) (g k : Nat) (f : Nat → Bool) (b : Bool) (hg : w.heap[g]? = some (.cells (row f) 24 (0, 0))) :
    (w.setCell ⟨g, k, none⟩ (.bool b)).heap[g]? = some (.cells (row (upd f k b)) 24 (0, 0)) := by
  rw [heap_setCell_same w g k _ _ _ hg, row_set]
theorem heap_setRow_same (w : World) (g : Nat) (f h : Nat → Bool) (hg : w.heap[g]? = some (.cells (row f) 24 (0, 0))) :
    (w.setRow g (row h)).heap[g]? = some (.cells (row h) 24 (0, 0)) := setRow_heap w g _ _ _ _ hg
theorem below_setRow {B : Nat} {a w : World} (h : Below B a w) (g : Nat) (cs : Array Value) (hg : B ≤ g) : Below B a (w.setRow g cs) :=
  h.trans ⟨rfl, rfl, rfl, by simp, fun k hk => setRow_other w g k cs (by omega)⟩
def HalfOf (x k y : Nat) : Prop := y = x / 2 ^ k
theorem half_bit {x k y : Nat} (h : HalfOf x k y) : ((y : Int) % 2 == 1) = x.testBit k := by
  unfold HalfOf at h; subst h; exact bit_of_div x k
theorem half_next {x k y : Nat} (h : HalfOf x k y) : HalfOf x (k + 1) (y / 2) := by
  unfold HalfOf at *; subst h; exact div_succ x k
theorem half_lt {x k y : Nat} (h : HalfOf x k y) (hx : x < 2 ^ 64) : y < 18446744073709551616 := by
  unfold HalfOf at h; have := Nat.div_le_self x (2 ^ k); omega
theorem bits_step (x k : Nat) : row (upd (fun i => decide (i < k) && x.testBit i) k (x.testBit k)) = row (fun i => decide (i < k + 1) && x.testBit i) := by
  apply row_congr
  intro i hi
  unfold upd
  by_cases e : i = k
  · subst e; simp
  · by_cases h : i < k
    · simp [e, h, Nat.lt_succ_of_lt h]
    · simp [e, h, show ¬ i < k + 1 by omega]

theorem row_step (f : Nat → Bool) (k : Nat) : row (upd (fun i => decide (i < k) && f i) k (f k)) = row (fun i => decide (i < k + 1) && f i) := by
  apply row_congr
  intro i hi
  unfold upd
  by_cases e : i = k
  · subst e; simp
  · by_cases h : i < k
    · simp [e, h, Nat.lt_succ_of_lt h]
    · simp [e, h, show ¬ i < k + 1 by omega]
theorem two_first (w : World) (c1 c2 cs : Array Value) (t : TypeId) :
    (((w.alloc (.cells c1 t)).setRow w.heap.size cs).alloc (.cells c2 t)).heap[w.heap.size]? = some (.cells cs t (0, 0)) := by
  rw [Below.heap_alloc _ _ _ (by simp)]
  exact setRow_heap _ _ _ _ _ _ (heap_alloc_new _ _)
theorem two_second (w : World) (c1 c2 cs : Array Value) (t : TypeId) :
    (((w.alloc (.cells c1 t)).setRow w.heap.size cs).alloc (.cells c2 t)).heap[w.heap.size + 1]? = some (.cells c2 t (0, 0)) := by
  have h := heap_alloc_new ((w.alloc (.cells c1 t)).setRow w.heap.size cs) (.cells c2 t)
  simpa using h
theorem two_below (w : World) (c1 c2 cs : Array Value) (t : TypeId) :
    Below w.heap.size w (((w.alloc (.cells c1 t)).setRow w.heap.size cs).alloc (.cells c2 t)) :=
  (below_setRow ((Below.refl _ _).alloc (Nat.le_refl _) _) _ _ (Nat.le_refl _)).alloc (by simp) _

theorem three_second (w : World) (c1 c2 cs : Array Value) (t : TypeId) :
    (((w.alloc (.cells c1 t)).alloc (.cells c2 t)).setRow w.heap.size cs).heap[w.heap.size + 1]? = some (.cells c2 t (0, 0)) := by
  rw [setRow_other _ _ _ _ (by simp)]
  exact heap_alloc2_new _ _ _
theorem three_first (w : World) (c1 c2 cs ds : Array Value) (t : TypeId) :
    ((((w.alloc (.cells c1 t)).alloc (.cells c2 t)).setRow w.heap.size cs).setRow (w.heap.size + 1) ds).heap[w.heap.size]? = some (.cells cs t (0, 0)) := by
  rw [setRow_other _ _ _ _ (by simp)]
  exact setRow_heap _ _ _ _ _ _ (heap_alloc2_old _ _ _)
theorem three_last (w : World) (c1 c2 cs ds : Array Value) (t : TypeId) :
    ((((w.alloc (.cells c1 t)).alloc (.cells c2 t)).setRow w.heap.size cs).setRow (w.heap.size + 1) ds).heap[w.heap.size + 1]? = some (.cells ds t (0, 0)) :=
  setRow_heap _ _ _ _ _ _ (three_second _ _ _ _ _)
theorem three_below (w : World) (c1 c2 cs ds : Array Value) (t : TypeId) :
    Below w.heap.size w ((((w.alloc (.cells c1 t)).alloc (.cells c2 t)).setRow w.heap.size cs).setRow (w.heap.size + 1) ds) :=
  below_setRow (below_setRow (((Below.refl _ _).alloc (Nat.le_refl _) _).alloc (by simp) _) _ _ (Nat.le_refl _)) _ _ (by omega)

set_option maxHeartbeats 400000 in
theorem bits_any (x : Nat) (hx : x < 2 ^ 64) (w : World) :
    Calls Tryd.prog 5 #[.int .u64 x] w fun e w' => e = .returned (.agg (row x.testBit)) ∧ Below w.heap.size w w' := by
  go_enter Tryd.func5, Tryd.ntmps5
  go_wp2
  go_loopw [0, 4] (fun u i wr => ∃ k y : Nat, k ≤ 64 ∧ i = .int .i64 k ∧ u = .int .u64 (y : Int) ∧ HalfOf x k y ∧ wr.heap[w.heap.size]? = some (.cells (row fun _ => false) 24 (0, 0)) ∧ wr.heap[w.heap.size + 1]? = some (.cells (row fun i => decide (i < k) && x.testBit i) 24 (0, 0)) ∧ Below w.heap.size w wr) (fun _ i _ => 64 - (intOf i).toNat)
  case atStart =>
    refine ⟨0, x, by omega, rfl, rfl, by simp [HalfOf], ?_, ?_, ?_⟩
    · rw [heap_alloc2_old]; kernel_rfl
    · rw [heap_alloc2_new]; rw [row_congr (g := fun _ => false) (by simp)]; kernel_rfl
    · exact ((Below.refl _ _).alloc (Nat.le_refl _) _).alloc (by simp) _
  case round =>
    obtain ⟨k, y, hk, rfl, rfl, hy, hb0, hb1, hbel⟩ := hrel
    by_cases hlt : k < 64
    · have hc := cell_of_row _ _ k _ _ _ hb1
      rw [row_get _ k hlt] at hc
      have hf := frozen_of_row _ _ k _ _ hb1
      have hyb := half_lt hy hx
      have Hb0 := Lib.hid hb0
      have Hb1 := Lib.hid hb1
      clear hb0 hb1
      go_wp2
      go_roundw
      case rel =>
        rw [half_bit hy]
        refine ⟨k + 1, y / 2, by omega, by go_num, by go_num, half_next hy, ?_, ?_, hbel.setCell (by simp) _⟩
        · rw [heap_setCell_other _ _ _ _ (by simp)]; exact Hb0.out
        · rw [heap_set_row _ _ _ _ _ Hb1.out, bits_step]
      case measure => simp [intOf]; omega
    · have hk64 : k = 64 := by omega
      subst hk64
      have hsz := info_rowf (fun i => decide (i < 64) && x.testBit i)
      have hs0 := Lib.hid (row_same (fun _ => false) (fun i => decide (i < 64) && x.testBit i))
      have h1c := row_one (fun i => decide (i < 64) && x.testBit i)
      go_wp2_with (first | (refine wpList_load_row rfl 24 (.tmp 3) rfl (w.heap.size + 1) rfl 24 _ (0, 0) _ hb1 Tryd.underlying24 rfl hsz ?_) | (refine wpList_store_row rfl 24 (.tmp 2) (.tmp 16) rfl w.heap.size _ rfl rfl 24 _ hb0 hsz hs0.out h1c ?_))
      have hr := heap_setRow_same wr w.heap.size _ (fun i => decide (i < 64) && x.testBit i) hb0
      refine bodyPost_ret (v := .agg (row fun i => decide (i < 64) && x.testBit i)) ?_ rfl ⟨?_, below_setRow hbel _ _ (Nat.le_refl _)⟩
      · exact results_cell_row (ty := 24) (p := 2) (by kernel_rfl) _ _ w.heap.size 24 _ (0, 0) _ rfl hr Tryd.underlying24 rfl hsz
      · rw [row_congr (g := x.testBit) (fun i hi => by simp [hi])]

def SumOf (f : Nat → Bool) (k x : Nat) : Prop := x = numB f k
def WorthOf (k v : Nat) : Prop := v = 2 ^ k % 18446744073709551616
theorem worth_lt {k v : Nat} (h : WorthOf k v) : v < 18446744073709551616 := by unfold WorthOf at h; omega
theorem worth_eq {k v : Nat} (h : WorthOf k v) (hk : k < 64) : v = 2 ^ k := by
  unfold WorthOf at h
  have : 2 ^ k < 2 ^ 64 := Nat.pow_lt_pow_right (by omega) hk
  rw [h, Nat.mod_eq_of_lt this]
theorem sum_lt {f : Nat → Bool} {k x v : Nat} (h : SumOf f k x) (hv : WorthOf k v) (hk : k < 64) : x + v < 18446744073709551616 := by
  have e := worth_eq hv hk
  unfold SumOf at h
  have h1 := numB_lt f k
  have h2 : 2 ^ (k + 1) ≤ 2 ^ 64 := Nat.pow_le_pow_right (by omega) hk
  rw [Nat.pow_succ] at h2
  omega
theorem worth_next {k v : Nat} (h : WorthOf k v) : IntKind.u64.wrap ((v : Int) * 2) = ((2 ^ (k + 1) % 18446744073709551616 : Nat) : Int) := by
  unfold WorthOf at h
  rw [IntKind.wrap_u64, Nat.pow_succ]
  omega
theorem sum_yes {f : Nat → Bool} {k x v : Nat} (h : SumOf f k x) (hv : WorthOf k v) (hk : k < 64) (hf : f k = true) : SumOf f (k + 1) (x + v) := by
  have e := worth_eq hv hk
  unfold SumOf at *
  simp only [numB, hf, if_true]; omega
theorem sum_no {f : Nat → Bool} {k x : Nat} (h : SumOf f k x) (hf : f k = false) : SumOf f (k + 1) x := by
  unfold SumOf at *
  simp [numB, hf]; omega

set_option maxHeartbeats 400000 in
theorem of_any (f : Nat → Bool) (w : World) :
    Calls Tryd.prog 17 #[.agg (row f)] w fun e w' => e = .returned (.int .u64 (numB f 64 : Nat)) ∧ Below w.heap.size w w' := by
  go_enter Tryd.func17, Tryd.ntmps17
  go_wp2
  go_loopw [3, 4, 5] (fun u v i wr => ∃ k x z : Nat, k ≤ 64 ∧ i = .int .i64 k ∧ u = .int .u64 (x : Int) ∧ v = .int .u64 (z : Int) ∧ SumOf f k x ∧ WorthOf k z ∧ wr.heap[w.heap.size]? = some (.cells (row f) 24 (0, 0)) ∧ Below w.heap.size w wr) (fun _ _ i _ => 64 - (intOf i).toNat)
  case atStart =>
    exact ⟨0, 0, 1, by omega, rfl, rfl, rfl, rfl, by simp [WorthOf], heap_alloc_new _ _, (Below.refl _ _).alloc (Nat.le_refl _) _⟩
  case round =>
    obtain ⟨k, x, z, hk, rfl, rfl, rfl, hx, hz, hb0, hbel⟩ := hrel
    by_cases hlt : k < 64
    · have hc := cell_of_row _ _ k _ _ _ hb0
      rw [row_get _ k hlt] at hc
      have hs := sum_lt hx hz hlt
      have hzb := worth_lt hz
      have Hb0 := Lib.hid hb0
      clear hb0
      obtain ⟨b, hb⟩ : ∃ b, b = f k := ⟨_, rfl⟩
      rw [← hb] at hc
      have Hb := Lib.hid hb
      clear hb
      cases b
      · go_wp2
        go_roundw
        case rel =>
          rw [worth_next hz]
          exact ⟨k + 1, _, _, by omega, by go_num, rfl, rfl, sum_no hx Hb.out.symm, rfl, Hb0.out, hbel⟩
        case measure => simp [intOf]; omega
      · go_wp2
        go_roundw
        case rel =>
          rw [worth_next hz]
          exact ⟨k + 1, _, _, by omega, by go_num, by go_num, rfl, sum_yes hx hz hlt Hb.out.symm, rfl, Hb0.out, hbel⟩
        case measure => simp [intOf]; omega
    · have hk64 : k = 64 := by omega
      subst hk64
      go_wp2
      go_ret
      unfold SumOf at hx
      rw [← hx]
      exact ⟨rfl, hbel⟩

end Go.Proofs.YtccabmlhlpmhbaaDoor
