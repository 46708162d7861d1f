/- Layer 5: the reference's Is. -/
import Derived.Test.YtfnlkadcidfhoaaPayRef
namespace Go.Proofs.Ytfnlkadcidfhoaa
open Go.RowKit Mx Yx
attribute [local go_sem] arr_get
/-- It is a payment. -/
def IsC (p pool cost : Nat → Int) : Prop := (∀ i, i < 6 → 0 ≤ p i ∧ p i ≤ pool i) ∧ (∀ i, i < 5 → cost i ≤ p i) ∧ sumF p 6 = sumF cost 6
set_option linter.unusedSimpArgs false in
set_option maxRecDepth 100000 in
set_option maxHeartbeats 1000000 in
theorem isRef_true (p pool cost : Nat → Int) (w : World) (gp : GoodC p) (gc : GoodC cost) (h : IsC p pool cost) : Calls Try.prog 18 #[.agg (arr .i64 6 p), .agg (arr .i64 6 pool), .agg (arr .i64 6 cost)] w fun e w' => e = .returned (.bool true) ∧ Below w.heap.size w w' := by
  obtain ⟨i1, i2, i3⟩ := h
  go_enter Try.func18, Try.ntmps18
  go_upto_region 1 with fail
  obtain ⟨w1, hw1⟩ : ∃ w1, w1 = ((w.alloc (.cells (arr .i64 6 p) 23)).alloc (.cells (arr .i64 6 pool) 23)).alloc (.cells (arr .i64 6 cost) 23) := ⟨_, rfl⟩
  have e1 : (w.alloc (.cells (arr .i64 6 p) 23)).heap.size = w.heap.size + 1 := by simp
  have e2 : ((w.alloc (.cells (arr .i64 6 p) 23)).alloc (.cells (arr .i64 6 pool) 23)).heap.size = w.heap.size + 1 + 1 := by simp
  have ha : ArrAt .i64 6 23 w1 w.heap.size p := by rw [hw1]; exact ((ArrAt.new w .i64 6 23 p).alloc _).alloc _
  have hb : ArrAt .i64 6 23 w1 (w.heap.size + 1) pool := by rw [hw1, ← e1]; exact (ArrAt.new _ .i64 6 23 pool).alloc _
  have hc : ArrAt .i64 6 23 w1 (w.heap.size + 1 + 1) cost := by rw [hw1, ← e2]; exact ArrAt.new _ .i64 6 23 cost
  have hb1 : Below w.heap.size w w1 := by rw [hw1]; exact (((Below.refl _ _).alloc (Nat.le_refl _) _).alloc (by rw [e1]; omega) _).alloc (by rw [e2]; omega) _
  rw [← hw1]
  clear hw1 e1 e2
  go_wp2_with fail
  go_loopw [7] (fun i wr => ∃ k : Nat, i = .int .i64 ((k : Nat) : Int) ∧ k ≤ 6 ∧ Below w1.heap.size w1 wr) (fun i _ => 6 - (intOf i).toNat)
  case atStart => exact ⟨0, rfl, by omega, Below.refl _ _⟩
  case round =>
    obtain ⟨k, rfl, hk, hbel⟩ := hrel
    by_cases hlt : k < 6
    · have r1 := (ha.keep hbel).cell hlt
      have r2 := (hb.keep hbel).cell hlt
      have r3 := (hc.keep hbel).cell hlt
      have b0 : (0 : Int) ≤ (k : Int) := by omega
      have b1 : (k : Int) < 6 := by omega
      obtain ⟨x, hx⟩ : ∃ x, x = p k := ⟨_, rfl⟩
      obtain ⟨y, hy⟩ : ∃ y, y = pool k := ⟨_, rfl⟩
      obtain ⟨z, hz⟩ : ∃ z, z = cost k := ⟨_, rfl⟩
      have g1 := i1 k hlt
      rw [← hx, ← hy] at g1
      have d1 : decide (x < 0) = false := by simp; omega
      have d2 : decide (y < x) = false := by simp; omega
      by_cases h5 : k < 5
      · have g2 := i2 k h5
        rw [← hx, ← hz] at g2
        have d3 : decide (x < z) = false := by simp; omega
        have d4 : decide ((k : Int) < 5) = true := by simp; omega
        rw [← hx] at r1
        rw [← hy] at r2
        rw [← hz] at r3
        clear hx hy hz
        go_wp2_with fail
        go_quiet (fail)
        go_wp2_with fail
        go_roundw
        case rel => exact ⟨k + 1, by go_num, by omega, below_drewN hbel _⟩
        case measure => simp [intOf]; omega
      · have d4 : decide ((k : Int) < 5) = false := by simp; omega
        rw [← hx] at r1
        rw [← hy] at r2
        rw [← hz] at r3
        clear hx hy hz
        go_wp2_with fail
        go_quiet (fail)
        go_wp2_with fail
        go_roundw
        case rel => exact ⟨k + 1, by go_num, by omega, below_drewN hbel _⟩
        case measure => simp [intOf]; omega
    · obtain rfl : k = 6 := by omega
      have HA := Lib.hid (ha.keep hbel)
      have HC := Lib.hid (hc.keep hbel)
      have HT1 := Lib.hid (fun W => totalRef_any p W gp)
      have HT2 := Lib.hid (fun W => totalRef_any cost W gc)
      obtain ⟨S, hS⟩ : ∃ S, S = sumF cost 6 := ⟨_, rfl⟩
      rw [i3, ← hS] at HT1
      rw [← hS] at HT2
      clear hS
      go_upto_region 6 with fail
      refine region_below (by kernel_rfl) (fun hHeld => ?_)
      refine wpAnyH_take (i := 0) (v := .agg (arr .i64 6 p)) rfl (by kernel_rfl) (by kernel_rfl) (by kernel_rfl) (fun _ _ _ h => h) (yieldsIf_load (by rfl) 23 (.tmp 3) rfl w.heap.size rfl (fun W hW => HA.out.keep hW) Try.underlying23 size6) hHeld ?_
      simp only [Act.put, List.getElem_toArray, List.getElem_cons_zero, List.getElem_cons_succ, List.setIfInBounds_toArray, List.set_cons_zero, List.set_cons_succ]
      refine wpAnyH_take (i := 2) (v := .agg (arr .i64 6 cost)) rfl (by kernel_rfl) (by kernel_rfl) (by kernel_rfl) (fun _ _ _ h => h) (yieldsIf_load (by rfl) 23 (.tmp 5) rfl (w.heap.size + 1 + 1) rfl (fun W hW => HC.out.keep hW) Try.underlying23 size6) hHeld ?_
      simp only [Act.put, List.getElem_toArray, List.getElem_cons_zero, List.getElem_cons_succ, List.setIfInBounds_toArray, List.set_cons_zero, List.set_cons_succ]
      refine wpAnyH_ready (rs := [1]) (by kernel_rfl) (by simp) ?_
      refine AllReadyH.cons rfl (fun K hK => ?_) AllReadyH.nil
      simp only [List.getElem_toArray, List.getElem_cons_zero, List.getElem_cons_succ]
      go_simp
      refine (HT1.out _).mono ?_
      rintro e w8 ⟨rfl, hb8⟩
      go_wp2_with fail
      have hB8 := keepB hb8 hHeld
      refine hK.out _ _ hB8 (fun _ => ?_)
      clear hK K
      try simp only [Act.put, List.setIfInBounds_toArray, List.set_cons_zero, List.set_cons_succ]
      refine anyH_rebase hB8 (fun hHeld => ?_)
      refine wpAnyH_ready (rs := [3]) (by kernel_rfl) (by simp) ?_
      refine AllReadyH.cons rfl (fun K hK => ?_) AllReadyH.nil
      simp only [List.getElem_toArray, List.getElem_cons_zero, List.getElem_cons_succ]
      go_simp
      refine (HT2.out _).mono ?_
      rintro e w9 ⟨rfl, hb9⟩
      go_wp2_with fail
      have hB9 := keepB hb9 hHeld
      refine hK.out _ _ hB9 (fun _ => ?_)
      clear hK K
      try simp only [Act.put, List.setIfInBounds_toArray, List.set_cons_zero, List.set_cons_succ]
      refine anyH_rebase hB9 (fun hHeld => ?_)
      refine wpAnyH_take (i := 4) (v := ?_) rfl (by kernel_rfl) (by kernel_rfl) (by kernel_rfl) (fun _ _ _ h => h) (Or.inl ⟨by rfl, ?_⟩) hHeld ?_
      rotate_left
      · (intro w hSw; go_simp; (try with_reducible rfl))
      simp only [Act.put, List.getElem_toArray, List.getElem_cons_zero, List.getElem_cons_succ, List.setIfInBounds_toArray, List.set_cons_zero, List.set_cons_succ]
      refine wpAnyH_take (i := 5) (v := ?_) rfl (by kernel_rfl) (by kernel_rfl) (by kernel_rfl) (fun _ _ _ h => h) (Or.inl ⟨by rfl, ?_⟩) hHeld ?_
      rotate_left
      · (intro w hSw; go_simp; (try with_reducible rfl))
      simp only [Act.put, List.getElem_toArray, List.getElem_cons_zero, List.getElem_cons_succ, List.setIfInBounds_toArray, List.set_cons_zero, List.set_cons_succ]
      refine wpAnyH_done (by kernel_rfl) ?_ _
      go_wp2_with fail
      go_ret
      exact ⟨by simp, keepB hB9 (keepB hB8 (keepB hbel hb1))⟩
end Go.Proofs.Ytfnlkadcidfhoaa
