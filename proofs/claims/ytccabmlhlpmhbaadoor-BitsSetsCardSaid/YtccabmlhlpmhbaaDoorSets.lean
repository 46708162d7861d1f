/- BitsSets: the contracts of package bits' sets, the document's Set, and the law's walk. -/
import Derived.Test.YtccabmlhlpmhbaaDoorBitsRef
import Derived.Test.YtccabmlhlpmhbaaDoorBitsCode
import Derived.Test.YtccabmlhlpmhbaaDoorBitsLaws
import Derived.Test.YtccabmlhlpmhbaaDoorSetsMath
import Derived.Deep.Cut
namespace Go.Proofs.YtccabmlhlpmhbaaDoor
open Go.RowKit Bx

def TabIn (w : World) : Prop := ∀ j, j < 64 → w.cell? ⟨0, j, none⟩ = some (.int .u8 ((Lib.deBruijn64tab.getD j 0 : Nat) : Int))
theorem TabIn.below {w w' : World} (h : TabIn w) (hb : Below w.heap.size w w') : TabIn w' := fun j hj =>
  (hb.cell (p := ⟨0, j, none⟩) (block_lt_of_cell (h j hj))).trans (h j hj)

set_option maxHeartbeats 400000 in
theorem tz_core (x c idx : Nat) (w : World) (hx0 : ((x : Int) == 0) = false)
    (key : IntKind.u64.wrap (bits .and .u64 (x : Int) (IntKind.u64.wrap (-(x : Int))) * 285870213051353865) / 288230376151711744 = (idx : Int))
    (hi : idx < 64) (hk : c < 64) (hcell : w.cell? ⟨0, idx, none⟩ = some (.int .u8 c)) :
    Calls Tryd.prog 16 #[.int .u64 x] w fun e w' => e = .returned (.int .i64 c) ∧ w = w' := by
  go_enter Tryd.func16, Tryd.ntmps16
  go_wp2_with (simp only [key])
  go_ret
  exact ⟨rfl, rfl⟩
theorem tz_any (x : Nat) (h0 : x ≠ 0) (hx : x < 18446744073709551616) (w : World) (hT : TabIn w) :
    Calls Tryd.prog 16 #[.int .u64 x] w fun e w' => e = .returned (.int .i64 (Lib.ctz 64 x : Nat)) ∧ w = w' := by
  obtain ⟨hlow, hk⟩ := Lib.lowest_bit 64 x h0 hx
  obtain ⟨hi, htab⟩ := Lib.deBruijn64_at _ hk
  have hcell := hT _ hi
  rw [htab] at hcell
  exact tz_core x _ _ w (by simp; omega) (tz_key x _ hx h0 hlow) hi hk hcell
theorem least_any (x : Nat) (hx : x < 18446744073709551616) (w : World) (hT : TabIn w) :
    Calls Tryd.prog 8 #[.int .u64 x] w fun e w' => e = .returned (.int .i64 (leastV x)) ∧ w = w' := by
  by_cases h0 : x = 0
  · subst h0
    go_enter Tryd.func8, Tryd.ntmps8
    go_wp2_with fail
    go_ret
    exact ⟨rfl, rfl⟩
  · have hx0 : ((x : Int) == 0) = false := by simp; omega
    have hv : leastV x = ((Lib.ctz 64 x : Nat) : Int) := by unfold leastV; rw [if_neg h0]
    have HV := Lib.hid hv
    have HT := Lib.hid hT
    have H0 := Lib.hid h0
    clear hv hT h0
    go_enter Tryd.func8, Tryd.ntmps8
    go_wp2_with fail
    refine (tz_any x H0.out hx _ HT.out).mono ?_
    rintro e w' ⟨rfl, rfl⟩
    go_wp2_with fail
    go_ret
    exact ⟨ret_int HV.out.symm, rfl⟩
theorem with_any (x : Nat) (hx : x < 18446744073709551616) (i : Int) (w : World) :
    Calls Tryd.prog 9 #[.int .u64 x, .int .i64 i] w fun e w' => e = .returned (.int .u64 (setB x i true : Nat)) ∧ w = w' := by
  cases h0 : memB i
  · rw [setB_out x hx i h0]
    have H0 := Lib.hid h0
    clear h0
    go_enter Tryd.func9, Tryd.ntmps9
    go_wp2_with fail
    refine (isMember_is _ _ H0.out _).mono ?_
    rintro e w' ⟨rfl, rfl⟩
    go_wp2_with fail
    go_ret
    exact ⟨rfl, rfl⟩
  · obtain ⟨h1, h2⟩ := memB_true h0
    have H0 := Lib.hid h0
    clear h0
    obtain ⟨k, rfl⟩ := Int.eq_ofNat_of_zero_le h1
    have HV := Lib.hid (or_val x hx k (by omega))
    go_enter Tryd.func9, Tryd.ntmps9
    go_wp2_with fail
    refine (isMember_is _ _ H0.out _).mono ?_
    rintro e w' ⟨rfl, rfl⟩
    go_wp2_with fail
    go_ret
    exact ⟨ret_int HV.out, rfl⟩
theorem without_any (x : Nat) (hx : x < 18446744073709551616) (i : Int) (w : World) :
    Calls Tryd.prog 11 #[.int .u64 x, .int .i64 i] w fun e w' => e = .returned (.int .u64 (setB x i false : Nat)) ∧ w = w' := by
  cases h0 : memB i
  · rw [setB_out x hx i h0]
    have H0 := Lib.hid h0
    clear h0
    go_enter Tryd.func11, Tryd.ntmps11
    go_wp2_with fail
    refine (isMember_is _ _ H0.out _).mono ?_
    rintro e w' ⟨rfl, rfl⟩
    go_wp2_with fail
    go_ret
    exact ⟨rfl, rfl⟩
  · obtain ⟨h1, h2⟩ := memB_true h0
    have H0 := Lib.hid h0
    clear h0
    obtain ⟨k, rfl⟩ := Int.eq_ofNat_of_zero_le h1
    have HV := Lib.hid (andNot_val x hx k (by omega))
    go_enter Tryd.func11, Tryd.ntmps11
    go_wp2_with fail
    refine (isMember_is _ _ H0.out _).mono ?_
    rintro e w' ⟨rfl, rfl⟩
    go_wp2_with fail
    go_ret
    exact ⟨ret_int HV.out, rfl⟩

theorem one_first (w : World) (c1 cs : Array Value) (t : TypeId) : ((w.alloc (.cells c1 t)).setRow w.heap.size cs).heap[w.heap.size]? = some (.cells cs t (0, 0)) :=
  setRow_heap _ _ _ _ _ _ (heap_alloc_new _ _)
theorem one_below (w : World) (c1 cs : Array Value) (t : TypeId) : Below w.heap.size w ((w.alloc (.cells c1 t)).setRow w.heap.size cs) :=
  below_setRow ((Below.refl _ _).alloc (Nat.le_refl _) _) _ _ (Nat.le_refl _)
theorem numB_own (x : Nat) (hx : x < 2 ^ 64) : numB x.testBit 64 = x := by
  apply ext64 (numB_lt _ _) hx
  intro j hj
  rw [testBit_numB]; simp [hj]
set_option maxHeartbeats 400000 in
theorem set_any (x : Nat) (hx : x < 2 ^ 64) (i : Int) (b : Bool) (w : World) :
    Calls Tryd.prog 10 #[.int .u64 x, .int .i64 i, .bool b] w fun e w' => e = .returned (.int .u64 (setB x i b : Nat)) ∧ Below w.heap.size w w' := by
  have Hx := Lib.hid hx
  clear hx
  cases h0 : memB i
  · have HV := Lib.hid (setB_out x Hx.out i h0 b)
    have h' := memB_false h0
    clear h0
    by_cases h1 : i < 0
    · clear h'
      go_enter Tryd.func10, Tryd.ntmps10
      go_wp2_with fail
      refine (bits_any x Hx.out _).mono ?_
      rintro e w1 ⟨rfl, hb1⟩
      have hsz := info_rowf x.testBit
      have h1c := row_one x.testBit
      go_upto_region 2 with (refine wpList_store_row rfl 24 (.tmp 7) (.tmp 9) rfl w1.heap.size _ rfl rfl 24 _ (heap_alloc_new _ _) hsz ?_ h1c ?_)
      · rw [row_size]; rfl
      generalize hW : World.setRow _ _ _ = W1
      have hb0 : W1.heap[w1.heap.size]? = some (.cells (row x.testBit) 24 (0, 0)) := by rw [← hW]; exact one_first _ _ _ _
      have hbel : Below w.heap.size w W1 := by rw [← hW]; exact hb1.trans ((one_below _ _ _ _).mono hb1.size)
      clear hW
      have hsl := hb1.size
      go_wp2_with (refine wpList_load_row rfl 24 (.tmp 7) rfl w1.heap.size rfl 24 _ (0, 0) _ hb0 Tryd.underlying24 rfl hsz ?_)
      refine (of_any _ _).mono ?_
      rintro e w2 ⟨rfl, hb3⟩
      go_wp2_with fail
      go_ret
      exact ⟨ret_int (by rw [HV.out, numB_own _ Hx.out]), hbel.trans (hb3.mono hbel.size)⟩
    · have h2 : 64 ≤ i := by omega
      clear h'
      go_enter Tryd.func10, Tryd.ntmps10
      go_wp2_with fail
      refine (bits_any x Hx.out _).mono ?_
      rintro e w1 ⟨rfl, hb1⟩
      have hsz := info_rowf x.testBit
      have h1c := row_one x.testBit
      go_upto_region 2 with (refine wpList_store_row rfl 24 (.tmp 7) (.tmp 9) rfl w1.heap.size _ rfl rfl 24 _ (heap_alloc_new _ _) hsz ?_ h1c ?_)
      · rw [row_size]; rfl
      generalize hW : World.setRow _ _ _ = W1
      have hb0 : W1.heap[w1.heap.size]? = some (.cells (row x.testBit) 24 (0, 0)) := by rw [← hW]; exact one_first _ _ _ _
      have hbel : Below w.heap.size w W1 := by rw [← hW]; exact hb1.trans ((one_below _ _ _ _).mono hb1.size)
      clear hW
      have hsl := hb1.size
      go_wp2_with (refine wpList_load_row rfl 24 (.tmp 7) rfl w1.heap.size rfl 24 _ (0, 0) _ hb0 Tryd.underlying24 rfl hsz ?_)
      refine (of_any _ _).mono ?_
      rintro e w2 ⟨rfl, hb3⟩
      go_wp2_with fail
      go_ret
      exact ⟨ret_int (by rw [HV.out, numB_own _ Hx.out]), hbel.trans (hb3.mono hbel.size)⟩
  · obtain ⟨h1, h2⟩ := memB_true h0
    clear h0
    obtain ⟨k, rfl⟩ := Int.eq_ofNat_of_zero_le h1
    go_enter Tryd.func10, Tryd.ntmps10
    go_wp2_with fail
    refine (bits_any x Hx.out _).mono ?_
    rintro e w1 ⟨rfl, hb1⟩
    have hsz := info_rowf x.testBit
    have h1c := row_one x.testBit
    go_upto_region 2 with (refine wpList_store_row rfl 24 (.tmp 7) (.tmp 9) rfl w1.heap.size _ rfl rfl 24 _ (heap_alloc_new _ _) hsz ?_ h1c ?_)
    · rw [row_size]; rfl
    generalize hW : World.setRow _ _ _ = W1
    have hb0 : W1.heap[w1.heap.size]? = some (.cells (row x.testBit) 24 (0, 0)) := by rw [← hW]; exact one_first _ _ _ _
    have hbel : Below w.heap.size w W1 := by rw [← hW]; exact hb1.trans ((one_below _ _ _ _).mono hb1.size)
    clear hW
    have hsl := hb1.size
    have hc := cell_of_row _ _ k _ _ _ hb0
    rw [row_get _ k (by omega)] at hc
    have hf := frozen_of_row _ _ k _ _ hb0
    have hb2 := heap_set_row _ _ k _ b hb0
    have hsz2 := info_rowf (upd x.testBit k b)
    have hv : numB (upd x.testBit k b) 64 = setB x (k : Int) b := by
      apply ext64 (numB_lt _ _) (numB_lt _ _)
      intro j hj
      rw [testBit_numB, testBit_numB]
      simp only [upd]
      by_cases e : j = k
      · subst e; simp
      · rw [if_neg e, if_neg (by omega)]
    have HV := Lib.hid hv
    clear hv hb0
    go_wp2_with (refine wpList_load_row rfl 24 (.tmp 7) rfl w1.heap.size rfl 24 _ (0, 0) _ hb2 Tryd.underlying24 rfl hsz2 ?_)
    refine (of_any _ _).mono ?_
    rintro e w2 ⟨rfl, hb3⟩
    go_wp2_with fail
    go_ret
    have hbel2 := hbel.setCell (p := ⟨w1.heap.size, k, none⟩) (by simp; omega) (.bool b)
    exact ⟨ret_int (by rw [HV.out]), hbel2.trans (hb3.mono hbel2.size)⟩
end Go.Proofs.YtccabmlhlpmhbaaDoor
