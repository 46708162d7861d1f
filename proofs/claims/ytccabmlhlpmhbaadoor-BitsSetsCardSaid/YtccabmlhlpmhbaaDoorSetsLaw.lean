/- BitsSets: the law's walk. -/
import Derived.Test.YtccabmlhlpmhbaaDoorSets
namespace Go.Proofs.YtccabmlhlpmhbaaDoor
open Go.RowKit Bx

theorem has_out (y : Nat) (hy : y < 2 ^ 64) (i : Int) (h : memB i = false) (w : World) : Calls Tryd.prog 6 #[.int .u64 y, .int .i64 i] w fun e w' => e = .returned (.bool false) ∧ w = w' := by
  have c := has_is y hy i w
  rw [h, Bool.false_and] at c
  exact c
theorem has_nat (y : Nat) (hy : y < 2 ^ 64) (k : Nat) (hk : k < 64) (w : World) : Calls Tryd.prog 6 #[.int .u64 y, .int .i64 k] w fun e w' => e = .returned (.bool (y.testBit k)) ∧ w = w' := by
  have h := has_is y hy k w
  have e : memB (k : Int) = true := by unfold memB; simp; omega
  rw [e, Bool.true_and, Int.toNat_natCast] at h
  exact h


set_option maxHeartbeats 1000000 in
theorem bitsSets_low (x : Nat) (hx : x < 2 ^ 64) (i : Int) (hi : i < 0) (w : World) (hT : TabIn w) :
    Calls Tryd.prog 3 #[.int .u64 x, .int .i64 i] w fun e w' => e = .returned (.bool true) ∧ Below w.heap.size w w' := by
  have Hx := Lib.hid hx
  have HT := Lib.hid hT
  clear hx hT
  have Hm : Hid (memB i = false) := by show memB i = false; unfold memB; simp; omega
  go_enter Tryd.func3, Tryd.ntmps3
  go_wp2_with fail
  refine (alive_true _).mono ?_
  rintro e w' ⟨rfl, rfl⟩
  go_wp2_with fail
  refine (bits_any x Hx.out _).mono ?_
  rintro e w1 ⟨rfl, hb1⟩
  have hsz := info_rowf x.testBit
  have h1c := row_one x.testBit
  go_upto_region 4 with (refine wpList_store_row rfl 24 (.tmp 5) (.tmp 13) rfl w1.heap.size _ rfl rfl 24 _ (heap_alloc_new _ _) hsz ?_ h1c ?_)
  · rw [row_size]; rfl
  generalize hW : World.setRow _ _ _ = W1
  have hb0 : W1.heap[w1.heap.size]? = some (.cells (row x.testBit) 24 (0, 0)) := by rw [← hW]; exact one_first _ _ _ _
  have hbel : Below w.heap.size w W1 := by rw [← hW]; exact hb1.trans ((one_below _ _ _ _).mono hb1.size)
  clear hW
  have HT1 : Hid (TabIn W1) := TabIn.below HT.out hbel
  go_wp2_with fail
  go_loop [6, 7, 8] (fun n l i => ∃ d : Nat, ∃ kk : Int, d ≤ 64 ∧ Hid (kk = 63 - d) ∧ i = .int .i64 kk ∧ n = .int .i64 (cnt x d : Nat) ∧ l = .int .i64 (lst x d)) (fun _ _ i => (intOf i + 1).toNat)
  case atStart => exact ⟨0, 63, by omega, by show (63 : Int) = 63 - ((0 : Nat) : Int); omega, rfl, rfl, rfl⟩
  obtain ⟨d, kk, hd, hkk, rfl, rfl, rfl⟩ := hrel
  by_cases hlt : d < 64
  · obtain ⟨j, rfl⟩ := Int.eq_ofNat_of_zero_le (show 0 ≤ kk by have := hkk.out; omega)
    have hj : j < 64 := by have := hkk.out; omega
    have hjd : 63 - d = j := by have := hkk.out; omega
    have hc := cell_of_row _ _ j _ _ _ hb0
    rw [row_get _ j hj] at hc
    have hcl := cnt_le x d
    have Hb0 := Lib.hid hb0
    have Hjd := Lib.hid hjd
    clear hb0 hjd
    obtain ⟨b, hb⟩ : ∃ b, b = x.testBit j := ⟨_, rfl⟩
    rw [← hb] at hc
    have Hb := Lib.hid hb
    clear hb
    cases b
    · go_wp2
      go_round
      case rel =>
        refine ⟨d + 1, _, by omega, ?_, rfl, ?_, ?_⟩
        · have := hkk.out; show (j : Int) - 1 = 63 - ((d + 1 : Nat) : Int); omega
        · simp only [cnt]; rw [Hjd.out, ← Hb.out]; rfl
        · simp only [lst]; rw [Hjd.out, ← Hb.out]; rfl
      case measure => simp [intOf]
    · go_wp2
      go_round
      case rel =>
        refine ⟨d + 1, _, by omega, ?_, rfl, ?_, ?_⟩
        · have := hkk.out; show (j : Int) - 1 = 63 - ((d + 1 : Nat) : Int); omega
        · simp only [cnt]; rw [Hjd.out, ← Hb.out]; rfl
        · simp only [lst]; rw [Hjd.out, ← Hb.out]; rfl
      case measure => simp [intOf]
  obtain rfl : d = 64 := by omega
  obtain rfl : kk = -1 := by have := hkk.out; omega
  rw [cnt_all, lst_all x Hx.out]
  go_wp2_with fail
  refine (has_out x Hx.out _ Hm.out _).mono ?_
  rintro e w' ⟨rfl, rfl⟩
  go_wp2_with fail
  refine (count_any x Hx.out _).mono ?_
  rintro e w' ⟨rfl, rfl⟩
  go_wp2_with fail
  refine (least_any x Hx.out _ HT1.out).mono ?_
  rintro e w' ⟨rfl, rfl⟩
  go_wp2_with fail
  refine (with_any x Hx.out _ _).mono ?_
  rintro e w' ⟨rfl, rfl⟩
  go_wp2_with fail
  refine (set_any x Hx.out _ _ _).mono ?_
  rintro e w3 ⟨rfl, hb3⟩
  go_wp2_with fail
  refine (without_any x Hx.out _ _).mono ?_
  rintro e w' ⟨rfl, rfl⟩
  go_wp2_with fail
  refine (set_any x Hx.out _ _ _).mono ?_
  rintro e w4 ⟨rfl, hb4⟩
  go_wp2_with fail
  go_ret
  have hb5 := hbel.trans (hb3.mono hbel.size)
  exact ⟨rfl, hb5.trans (hb4.mono hb5.size)⟩
set_option maxHeartbeats 1000000 in
theorem bitsSets_high (x : Nat) (hx : x < 2 ^ 64) (i : Int) (hi : 64 ≤ i) (w : World) (hT : TabIn w) :
    Calls Tryd.prog 3 #[.int .u64 x, .int .i64 i] w fun e w' => e = .returned (.bool true) ∧ Below w.heap.size w w' := by
  have Hx := Lib.hid hx
  have HT := Lib.hid hT
  clear hx hT
  have Hm : Hid (memB i = false) := by show memB i = false; unfold memB; simp; omega
  go_enter Tryd.func3, Tryd.ntmps3
  go_wp2_with fail
  refine (alive_true _).mono ?_
  rintro e w' ⟨rfl, rfl⟩
  go_wp2_with fail
  refine (bits_any x Hx.out _).mono ?_
  rintro e w1 ⟨rfl, hb1⟩
  have hsz := info_rowf x.testBit
  have h1c := row_one x.testBit
  go_upto_region 4 with (refine wpList_store_row rfl 24 (.tmp 5) (.tmp 13) rfl w1.heap.size _ rfl rfl 24 _ (heap_alloc_new _ _) hsz ?_ h1c ?_)
  · rw [row_size]; rfl
  generalize hW : World.setRow _ _ _ = W1
  have hb0 : W1.heap[w1.heap.size]? = some (.cells (row x.testBit) 24 (0, 0)) := by rw [← hW]; exact one_first _ _ _ _
  have hbel : Below w.heap.size w W1 := by rw [← hW]; exact hb1.trans ((one_below _ _ _ _).mono hb1.size)
  clear hW
  have HT1 : Hid (TabIn W1) := TabIn.below HT.out hbel
  go_wp2_with fail
  go_loop [6, 7, 8] (fun n l i => ∃ d : Nat, ∃ kk : Int, d ≤ 64 ∧ Hid (kk = 63 - d) ∧ i = .int .i64 kk ∧ n = .int .i64 (cnt x d : Nat) ∧ l = .int .i64 (lst x d)) (fun _ _ i => (intOf i + 1).toNat)
  case atStart => exact ⟨0, 63, by omega, by show (63 : Int) = 63 - ((0 : Nat) : Int); omega, rfl, rfl, rfl⟩
  obtain ⟨d, kk, hd, hkk, rfl, rfl, rfl⟩ := hrel
  by_cases hlt : d < 64
  · obtain ⟨j, rfl⟩ := Int.eq_ofNat_of_zero_le (show 0 ≤ kk by have := hkk.out; omega)
    have hj : j < 64 := by have := hkk.out; omega
    have hjd : 63 - d = j := by have := hkk.out; omega
    have hc := cell_of_row _ _ j _ _ _ hb0
    rw [row_get _ j hj] at hc
    have hcl := cnt_le x d
    have Hb0 := Lib.hid hb0
    have Hjd := Lib.hid hjd
    clear hb0 hjd
    obtain ⟨b, hb⟩ : ∃ b, b = x.testBit j := ⟨_, rfl⟩
    rw [← hb] at hc
    have Hb := Lib.hid hb
    clear hb
    cases b
    · go_wp2
      go_round
      case rel =>
        refine ⟨d + 1, _, by omega, ?_, rfl, ?_, ?_⟩
        · have := hkk.out; show (j : Int) - 1 = 63 - ((d + 1 : Nat) : Int); omega
        · simp only [cnt]; rw [Hjd.out, ← Hb.out]; rfl
        · simp only [lst]; rw [Hjd.out, ← Hb.out]; rfl
      case measure => simp [intOf]
    · go_wp2
      go_round
      case rel =>
        refine ⟨d + 1, _, by omega, ?_, rfl, ?_, ?_⟩
        · have := hkk.out; show (j : Int) - 1 = 63 - ((d + 1 : Nat) : Int); omega
        · simp only [cnt]; rw [Hjd.out, ← Hb.out]; rfl
        · simp only [lst]; rw [Hjd.out, ← Hb.out]; rfl
      case measure => simp [intOf]
  obtain rfl : d = 64 := by omega
  obtain rfl : kk = -1 := by have := hkk.out; omega
  rw [cnt_all, lst_all x Hx.out]
  go_wp2_with fail
  refine (has_out x Hx.out _ Hm.out _).mono ?_
  rintro e w' ⟨rfl, rfl⟩
  go_wp2_with fail
  refine (count_any x Hx.out _).mono ?_
  rintro e w' ⟨rfl, rfl⟩
  go_wp2_with fail
  refine (least_any x Hx.out _ HT1.out).mono ?_
  rintro e w' ⟨rfl, rfl⟩
  go_wp2_with fail
  refine (with_any x Hx.out _ _).mono ?_
  rintro e w' ⟨rfl, rfl⟩
  go_wp2_with fail
  refine (set_any x Hx.out _ _ _).mono ?_
  rintro e w3 ⟨rfl, hb3⟩
  go_wp2_with fail
  refine (without_any x Hx.out _ _).mono ?_
  rintro e w' ⟨rfl, rfl⟩
  go_wp2_with fail
  refine (set_any x Hx.out _ _ _).mono ?_
  rintro e w4 ⟨rfl, hb4⟩
  go_wp2_with fail
  go_ret
  have hb5 := hbel.trans (hb3.mono hbel.size)
  exact ⟨rfl, hb5.trans (hb4.mono hb5.size)⟩
set_option maxHeartbeats 1000000 in
theorem bitsSets_in (x : Nat) (hx : x < 2 ^ 64) (i : Nat) (hi : i < 64) (w : World) (hT : TabIn w) :
    Calls Tryd.prog 3 #[.int .u64 x, .int .i64 i] w fun e w' => e = .returned (.bool true) ∧ Below w.heap.size w w' := by
  have Hx := Lib.hid hx
  have HT := Lib.hid hT
  clear hx hT
  go_enter Tryd.func3, Tryd.ntmps3
  go_wp2_with fail
  refine (alive_true _).mono ?_
  rintro e w' ⟨rfl, rfl⟩
  go_wp2_with fail
  refine (bits_any x Hx.out _).mono ?_
  rintro e w1 ⟨rfl, hb1⟩
  have hsz := info_rowf x.testBit
  have h1c := row_one x.testBit
  go_upto_region 4 with (refine wpList_store_row rfl 24 (.tmp 5) (.tmp 13) rfl w1.heap.size _ rfl rfl 24 _ (heap_alloc_new _ _) hsz ?_ h1c ?_)
  · rw [row_size]; rfl
  generalize hW : World.setRow _ _ _ = W1
  have hb0 : W1.heap[w1.heap.size]? = some (.cells (row x.testBit) 24 (0, 0)) := by rw [← hW]; exact one_first _ _ _ _
  have hbel : Below w.heap.size w W1 := by rw [← hW]; exact hb1.trans ((one_below _ _ _ _).mono hb1.size)
  clear hW
  have HT1 : Hid (TabIn W1) := TabIn.below HT.out hbel
  go_wp2_with fail
  go_loop [6, 7, 8] (fun n l i => ∃ d : Nat, ∃ kk : Int, d ≤ 64 ∧ Hid (kk = 63 - d) ∧ i = .int .i64 kk ∧ n = .int .i64 (cnt x d : Nat) ∧ l = .int .i64 (lst x d)) (fun _ _ i => (intOf i + 1).toNat)
  case atStart => exact ⟨0, 63, by omega, by show (63 : Int) = 63 - ((0 : Nat) : Int); omega, rfl, rfl, rfl⟩
  obtain ⟨d, kk, hd, hkk, rfl, rfl, rfl⟩ := hrel
  by_cases hlt : d < 64
  · obtain ⟨j, rfl⟩ := Int.eq_ofNat_of_zero_le (show 0 ≤ kk by have := hkk.out; omega)
    have hj : j < 64 := by have := hkk.out; omega
    have hjd : 63 - d = j := by have := hkk.out; omega
    have hc := cell_of_row _ _ j _ _ _ hb0
    rw [row_get _ j hj] at hc
    have hcl := cnt_le x d
    have Hb0 := Lib.hid hb0
    have Hjd := Lib.hid hjd
    clear hb0 hjd
    obtain ⟨b, hb⟩ : ∃ b, b = x.testBit j := ⟨_, rfl⟩
    rw [← hb] at hc
    have Hb := Lib.hid hb
    clear hb
    cases b
    · go_wp2
      go_round
      case rel =>
        refine ⟨d + 1, _, by omega, ?_, rfl, ?_, ?_⟩
        · have := hkk.out; show (j : Int) - 1 = 63 - ((d + 1 : Nat) : Int); omega
        · simp only [cnt]; rw [Hjd.out, ← Hb.out]; rfl
        · simp only [lst]; rw [Hjd.out, ← Hb.out]; rfl
      case measure => simp [intOf]
    · go_wp2
      go_round
      case rel =>
        refine ⟨d + 1, _, by omega, ?_, rfl, ?_, ?_⟩
        · have := hkk.out; show (j : Int) - 1 = 63 - ((d + 1 : Nat) : Int); omega
        · simp only [cnt]; rw [Hjd.out, ← Hb.out]; rfl
        · simp only [lst]; rw [Hjd.out, ← Hb.out]; rfl
      case measure => simp [intOf]
  obtain rfl : d = 64 := by omega
  obtain rfl : kk = -1 := by have := hkk.out; omega
  rw [cnt_all, lst_all x Hx.out]
  have hc := cell_of_row _ _ i _ _ _ hb0
  rw [row_get _ i hi] at hc
  have hi63 : i ≤ 63 := by omega
  go_wp2_with fail
  refine (has_nat x Hx.out _ hi _).mono ?_
  rintro e w' ⟨rfl, rfl⟩
  go_wp2_with fail
  refine (count_any x Hx.out _).mono ?_
  rintro e w' ⟨rfl, rfl⟩
  go_wp2_with fail
  refine (least_any x Hx.out _ HT1.out).mono ?_
  rintro e w' ⟨rfl, rfl⟩
  go_wp2_with fail
  refine (with_any x Hx.out _ _).mono ?_
  rintro e w' ⟨rfl, rfl⟩
  go_wp2_with fail
  refine (set_any x Hx.out _ _ _).mono ?_
  rintro e w3 ⟨rfl, hb3⟩
  go_wp2_with fail
  refine (without_any x Hx.out _ _).mono ?_
  rintro e w' ⟨rfl, rfl⟩
  go_wp2_with fail
  refine (set_any x Hx.out _ _ _).mono ?_
  rintro e w4 ⟨rfl, hb4⟩
  go_wp2_with fail
  go_ret
  have hb5 := hbel.trans (hb3.mono hbel.size)
  exact ⟨rfl, hb5.trans (hb4.mono hb5.size)⟩
end Go.Proofs.YtccabmlhlpmhbaaDoor
