/- BitsBack: its walks. -/
import Derived.Test.YtccabmlhlpmhbaaBitsLaws
import Derived.Test.YtccabmlhlpmhbaaBitsBackMath
namespace Go.Proofs.Ytccabmlhlpmhbaa
open Go.RowKit Bx

theorem narrow_any (x n : Int) (w : World) : Calls Try.prog 15 #[.int .i64 x, .int .i64 n] w fun e w' => e = .returned (.int .i64 (nar x n)) ∧ w = w' := by
  cases h : widB n
  · rw [show nar x n = x by unfold nar; rw [h]; rfl]; exact narrow_no x n h w
  · rw [show nar x n = narrowV x n by unfold nar; rw [if_pos h]]; exact narrow_yes x n h w
theorem has_nat (y : Nat) (hy : y < 2 ^ 64) (k : Nat) (hk : k < 64) (w : World) : Calls Try.prog 17 #[.int .u64 y, .int .i64 k] w fun e w' => e = .returned (.bool (y.testBit k)) ∧ w = w' := by
  have h := has_is y hy k w
  have e : memB (k : Int) = true := by unfold memB; simp; omega
  rw [e, Bool.true_and, Int.toNat_natCast] at h
  exact h
theorem part_back (x : Nat) (a n : Int) (h : isB a n = true) (p : Nat) (hp : p ≤ mask (clamp n)) (w : World) :
    Calls Try.prog 10 #[.int .u64 (putB x a.toNat n.toNat p : Nat), .int .i64 a, .int .i64 n] w fun e w' => e = .returned (.int .u64 p) ∧ ∃ m, w' = w.drewN m := by
  obtain ⟨h1, h2, h3, h4⟩ := isB_true h
  have hc : clamp n = n.toNat := by unfold clamp; omega
  rw [hc] at hp
  have c := part_yes (putB x a.toNat n.toNat p) (numB_lt _ _) a n h w
  rw [part_put x a.toNat n.toNat p (by omega) (Nat.lt_of_le_of_lt hp (mask_lt_pow _))] at c
  exact c
theorem put_nil (x p : Nat) (hx : x < 2 ^ 64) (a n : Int) (h : isB a n = true) (hp : p ≤ mask (clamp n)) (w : World) :
    Calls Try.prog 7 #[.int .u64 x, .int .i64 a, .int .i64 n, .int .u64 p] w fun e w' => e = .returned (.tuple #[.int .u64 (putB x a.toNat n.toNat p : Nat), .nilIface]) ∧ ∃ m, w' = w.drewN m := put_yes x hx a n p hp h w

theorem quietLA {P : Program} {f : FuncId} {args : Array Value} {w : World} {a n : Nat} {v : Value}
    (h : Calls P f args (w.drewN (a + n)) fun e w' => e = .returned v ∧ w.drewN (a + n) = w') : Calls P f args (w.drewN (a + n)) fun e w'' => e = .returned v ∧ ∃ m, w'' = w.drewN (a + m) :=
  h.mono fun _ _ ⟨he, hm⟩ => ⟨he, n, hm.symm⟩
set_option maxHeartbeats 1000000 in
theorem bitsBack_no (x p : Nat) (a n : Int) (h : isB a n = false) (w : World) :
    Calls Try.prog 5 #[.agg #[.int .u64 x, .int .u64 p, .int .i64 a, .int .i64 n]] w fun e w' => e = .returned (.bool true) ∧ Below w.heap.size w w' := by
  have H0 := Lib.hid h
  clear h
  go_enter Try.func5, Try.ntmps5
  go_wp2_with fail
  refine (alive_true _).mono ?_
  rintro e w' ⟨rfl, rfl⟩
  go_wp2_with fail
  refine (put_range _ _ _ _ H0.out _).mono ?_
  rintro e w' ⟨rfl, m, rfl⟩
  go_wp2_with fail
  go_quiet ((go_at_call 15; exact quietLA (narrow_any _ _ _)))
  go_wp2_with fail
  go_ret
  rw [show (nar (nar a n) n == nar a n) = true by rw [nar_idem]; simp]
  exact ⟨rfl, below_drewN (below_drewN ((Below.refl _ _).alloc (Nat.le_refl _) _) _) _⟩
set_option maxHeartbeats 1000000 in
theorem bitsBack_form (x p : Nat) (a n : Int) (h : isB a n = true) (hm : mask (clamp n) < p) (w : World) :
    Calls Try.prog 5 #[.agg #[.int .u64 x, .int .u64 p, .int .i64 a, .int .i64 n]] w fun e w' => e = .returned (.bool true) ∧ Below w.heap.size w w' := by
  have H0 := Lib.hid h
  have H3 := Lib.hid hm
  clear h hm
  go_enter Try.func5, Try.ntmps5
  go_wp2_with fail
  refine (alive_true _).mono ?_
  rintro e w' ⟨rfl, rfl⟩
  go_wp2_with fail
  refine (put_form _ _ _ _ H3.out H0.out _).mono ?_
  rintro e w' ⟨rfl, m, rfl⟩
  go_wp2_with fail
  go_quiet ((go_at_call 15; exact quietLA (narrow_any _ _ _)))
  go_wp2_with fail
  go_ret
  rw [show (nar (nar a n) n == nar a n) = true by rw [nar_idem]; simp]
  exact ⟨rfl, below_drewN (below_drewN ((Below.refl _ _).alloc (Nat.le_refl _) _) _) _⟩

theorem box_facts (w : World) (v0 v1 v2 v3 : Value) (t : TypeId) (m : Nat) :
    ∃ W, W = (w.alloc (.cells #[v0, v1, v2, v3] t)).drewN m ∧ W.cell? ⟨w.heap.size, 0, none⟩ = some v0 ∧ W.cell? ⟨w.heap.size, 1, none⟩ = some v1 ∧ W.cell? ⟨w.heap.size, 2, none⟩ = some v2 ∧ W.cell? ⟨w.heap.size, 3, none⟩ = some v3 ∧ Below w.heap.size w W :=
  ⟨_, rfl, by simp, by simp, by simp, by simp, below_drewN ((Below.refl _ _).alloc (Nat.le_refl _) _) _⟩
theorem guard_pay {x q p a n k : Nat} (hk : k < 64) (h : ¬ (a ≤ k ∧ k < a + n)) (hq : q = putB x a n p) : (!(q.testBit k == x.testBit k)) = false := by
  rw [hq, put_out x a n p k hk h]; simp
theorem pop_final {x q p a n r : Nat} (h : a + n ≤ 64) (hp : p < 2 ^ n) (hq : q = putB x a n p) (hr : r = partB x a n) : ((pop q : Int) == (pop x : Int) - (pop r : Int) + (pop p : Int)) = true := by
  have := pop_put x a n p h hp
  rw [hq, hr, beq_iff_eq]; omega
set_option maxHeartbeats 1000000 in
theorem bitsBack_yes (x p : Nat) (hx : x < 2 ^ 64) (hp : p < 2 ^ 64) (a n : Int) (h : isB a n = true) (hm : p ≤ mask (clamp n)) (w : World) :
    Calls Try.prog 5 #[.agg #[.int .u64 x, .int .u64 p, .int .i64 a, .int .i64 n]] w fun e w' => e = .returned (.bool true) ∧ Below w.heap.size w w' := by
  obtain ⟨h1, h2, h3, h4⟩ := isB_true h
  have H0 := Lib.hid h
  have Hx := Lib.hid hx
  have Hp := Lib.hid hp
  have Hm := Lib.hid hm
  clear h hx hp hm
  obtain ⟨k, rfl⟩ := Int.eq_ofNat_of_zero_le h1
  obtain ⟨l, rfl⟩ := Int.eq_ofNat_of_zero_le (show 0 ≤ n by omega)
  have Hpl : Hid (p < 2 ^ l) := by
    have h5 := Hm.out
    rw [show clamp (l : Int) = l by unfold clamp; omega] at h5
    exact Nat.lt_of_le_of_lt h5 (mask_lt_pow _)
  go_enter Try.func5, Try.ntmps5
  go_wp2_with fail
  refine (alive_true _).mono ?_
  rintro e w' ⟨rfl, rfl⟩
  go_wp2_with fail
  refine (put_nil x p Hx.out _ _ H0.out Hm.out _).mono ?_
  rintro e w' ⟨rfl, m, rfl⟩
  have Hpart : Hid (∀ W : World, Calls Try.prog 10 #[.int .u64 (putB x k l p : Nat), .int .i64 k, .int .i64 l] W fun e w' => e = .returned (.int .u64 p) ∧ ∃ m, w' = W.drewN m) := fun W => part_back x k l H0.out p Hm.out W
  have Hpx : Hid (∀ W : World, Calls Try.prog 10 #[.int .u64 x, .int .i64 k, .int .i64 l] W fun e w' => e = .returned (.int .u64 (partB x k l : Nat)) ∧ ∃ m, w' = W.drewN m) := fun W => part_yes x Hx.out k l H0.out W
  simp only [Int.toNat_natCast]
  obtain ⟨q, hq⟩ : ∃ q, q = putB x k l p := ⟨_, rfl⟩
  obtain ⟨r, hr⟩ : ∃ r, r = partB x k l := ⟨_, rfl⟩
  rw [← hq] at Hpart ⊢
  rw [← hr] at Hpx
  have Hq2 : Hid (q < 2 ^ 64) := by rw [hq]; exact numB_lt _ _
  have Hr2 : Hid (r < 2 ^ 64) := by rw [hr]; exact numB_lt _ _
  have Hq := Lib.hid hq
  have Hr := Lib.hid hr
  clear hq hr
  obtain ⟨W1, hW1, c0, c1, c2, c3, hbel⟩ := box_facts w (.int .u64 x) (.int .u64 p) (.int .i64 k) (.int .i64 l) 24 m
  rw [← hW1]
  clear hW1
  go_wp2_with fail
  go_quiet ((go_at_call 10; exact quietD (Hpart.out _)))
  go_wp2_with fail
  obtain ⟨W2, hW2, d0, d1, d2, d3, hbel2⟩ : ∃ W, W = W1.drewN nq ∧ W.cell? ⟨w.heap.size, 0, none⟩ = some (.int .u64 x) ∧ W.cell? ⟨w.heap.size, 1, none⟩ = some (.int .u64 p) ∧ W.cell? ⟨w.heap.size, 2, none⟩ = some (.int .i64 k) ∧ W.cell? ⟨w.heap.size, 3, none⟩ = some (.int .i64 l) ∧ Below w.heap.size w W :=
    ⟨_, rfl, c0, c1, c2, c3, below_drewN hbel _⟩
  rw [← hW2]
  clear hW2 c0 c1 c2 c3 hbel
  go_loopw [5, 49] (fun _ i wr => ∃ j : Nat, j ≤ 64 ∧ i = .int .i64 j ∧ wr.cell? ⟨w.heap.size, 0, none⟩ = some (.int .u64 x) ∧ wr.cell? ⟨w.heap.size, 1, none⟩ = some (.int .u64 p) ∧ wr.cell? ⟨w.heap.size, 2, none⟩ = some (.int .i64 k) ∧ wr.cell? ⟨w.heap.size, 3, none⟩ = some (.int .i64 l) ∧ Below w.heap.size w wr) (fun _ i _ => 64 - (intOf i).toNat)
  case atStart => exact ⟨0, by omega, rfl, d0, d1, d2, d3, hbel2⟩
  case round =>
    obtain ⟨j, hj, rfl, c0, c1, c2, c3, hbel⟩ := hrel
    clear d0 d1 d2 d3 hbel2
    by_cases hlt : j < 64
    · by_cases g1 : j < k
      · have hg := guard_pay (x := x) (q := q) (p := p) (a := k) (n := l) (k := j) hlt (by omega) Hq.out
        go_wp2_with fail
        go_quiet ((go_at_call 17; exact quietL (has_nat _ (by first | exact Hq2.out | exact Hx.out) _ hlt _)))
        go_wp2_with fail
        go_roundw
        case rel => exact ⟨j + 1, by omega, by go_num, c0, c1, c2, c3, below_drewN hbel _⟩
        case measure => simp [intOf]; omega
      · have hd1 : decide (j < k) = false := by simpa using g1
        by_cases g2 : j < k + l
        · have hd2 : decide ((k : Int) + (l : Int) ≤ (j : Int)) = false := by simp; omega
          go_wp2_with fail
          go_quiet (fail)
          go_wp2_with fail
          go_roundw
          case rel => exact ⟨j + 1, by omega, by go_num, c0, c1, c2, c3, below_drewN hbel _⟩
          case measure => simp [intOf]; omega
        · have hg := guard_pay (x := x) (q := q) (p := p) (a := k) (n := l) (k := j) hlt (by omega) Hq.out
          have hd2 : decide ((k : Int) + (l : Int) ≤ (j : Int)) = true := by simp; omega
          go_wp2_with fail
          go_quiet ((go_at_call 17; exact quietL (has_nat _ (by first | exact Hq2.out | exact Hx.out) _ hlt _)))
          go_wp2_with fail
          go_roundw
          case rel => exact ⟨j + 1, by omega, by go_num, c0, c1, c2, c3, below_drewN hbel _⟩
          case measure => simp [intOf]; omega
    · have b1 := pop_le q
      have b2 := pop_le x
      have b3 := pop_le r
      have b4 := pop_le p
      have HF := Lib.hid (pop_final (x := x) (q := q) (p := p) (a := k) (n := l) (r := r) (by omega) Hpl.out Hq.out Hr.out)
      go_wp2_with fail
      go_quiet ((first | (go_at_call 10; exact quietD (Hpx.out _)) | (go_at_call 18; exact quietL (count_any _ (by first | exact Hq2.out | exact Hx.out | exact Hr2.out | exact Hp.out) _))))
      go_wp2_with fail
      go_ret
      exact ⟨ret_bool HF.out, below_drewN hbel _⟩
end Go.Proofs.Ytccabmlhlpmhbaa
