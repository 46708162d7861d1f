/- Layer 16: the fixed fact at the head of the laws. -/
import Derived.Test.YtllamlmeklalaaaRnSaid
import Derived.Test.YtllamlmeklalaaaIs
import Derived.Test.YtllamlmeklalaaaBase0
import Derived.Deep.Cut
namespace Go.Proofs.Ytllamlmeklalaaa
open Go.RowKit
set_option maxRecDepth 100000
theorem ord_ex : ordD [1, 0] 0 3 = ([2, 0, 1], 2, 0) := by decide +kernel
theorem nums_lit2 (w : World) (a b : Int) : Nums .i64 (w.alloc (.cells #[.int .i64 a, .int .i64 b] 3)) (w.heap.size + 1) (some ⟨w.heap.size, 0, none⟩) 2 [a, b] := by
  refine ⟨rfl, fun i u hu => ⟨_, rfl, by simp, ?_⟩⟩
  rw [Addr.add_mid, Nat.zero_add, cell_of_row _ w.heap.size i _ _ (0, 0) (heap_alloc_new _ _)]
  match i, hu with
  | 0, hu => simp at hu; rw [← hu]; rfl
  | 1, hu => simp at hu; rw [← hu]; rfl
  | k + 2, hu => simp at hu
theorem nums_lit3 (w : World) (a b c : Int) : Nums .i64 (w.alloc (.cells #[.int .i64 a, .int .i64 b, .int .i64 c] 3)) (w.heap.size + 1) (some ⟨w.heap.size, 0, none⟩) 3 [a, b, c] := by
  refine ⟨rfl, fun i u hu => ⟨_, rfl, by simp, ?_⟩⟩
  rw [Addr.add_mid, Nat.zero_add, cell_of_row _ w.heap.size i _ _ (0, 0) (heap_alloc_new _ _)]
  match i, hu with
  | 0, hu => simp at hu; rw [← hu]; rfl
  | 1, hu => simp at hu; rw [← hu]; rfl
  | 2, hu => simp at hu; rw [← hu]; rfl
  | k + 3, hu => simp at hu
set_option maxHeartbeats 1000000 in
theorem rnAlive {z : World} (E : RnSaid z) (w : World) (hz : Below z.heap.size z w) : Calls Try.prog 7 #[] w fun en w' => en = .returned (.bool true) ∧ Below w.heap.size w w' := by
  have hb1 : Below w.heap.size w (w.alloc (.cells #[.int .i64 1, .int .i64 0] 3)) := (Below.refl _ _).alloc (Nat.le_refl _) _
  have ho := E.order (some ⟨w.heap.size, 0, none⟩) 2 2 [1, 0] 0 3 (w.alloc (.cells #[.int .i64 1, .int .i64 0] 3)) (by simpa using nums_lit2 w 1 0) (Nat.le_refl _) (by omega) (by intro x hx; simp at hx; rcases hx with rfl | rfl <;> (unfold N64; omega)) (by unfold N64; omega) (by unfold N64; omega) (keepB hb1 hz)
  rw [ord_ex] at ho
  unfold OrdP at ho
  go_enter Try.func7, Try.ntmps7
  go_wp2_with fail
  refine ho.mono ?_
  rintro en w2 ⟨A, n, c, rfl, hnc, hN, hb2⟩
  obtain rfl : 3 = n := hN.len
  rw [errV_nil]
  clear ho
  have hb3 : Below w2.heap.size w2 (w2.alloc (.cells #[.int .i64 2, .int .i64 0, .int .i64 1] 3)) := (Below.refl _ _).alloc (Nat.le_refl _) _
  have hin := ints_any A (some ⟨w2.heap.size, 0, none⟩) 3 c 3 3 [2, 0, 1] [2, 0, 1] (w2.alloc (.cells #[.int .i64 2, .int .i64 0, .int .i64 1] 3)) _ _ (hN.below hb3) (nums_lit3 w2 2 0 1) (by omega) (by omega)
  have HB := Lib.hid (keepB hb3 (keepB hb2 hb1))
  clear hb3 hb2 hN hb1
  go_wp2_with fail
  refine hin.mono ?_
  rintro en w4 ⟨rfl, m, rfl⟩
  clear hin
  go_wp2_with fail
  go_ret
  exact ⟨rfl, below_drewN HB.out m⟩
end Go.Proofs.Ytllamlmeklalaaa
