/- Layer 5: good, covers, withoutColours, usual, firstWithRoom, Can of the landed code. -/
import Derived.Test.YtfnlkadcidfhoaaPaySaid
namespace Go.Proofs.Ytfnlkadcidfhoaa
open Go.RowKit Mx Yx
attribute [local go_sem] arr_get
theorem boxes2 (w : World) (p c : Nat → Int) : ∃ w1, w1 = (w.alloc (.cells (arr .i64 6 p) 23)).alloc (.cells (arr .i64 6 c) 23) ∧ ArrAt .i64 6 23 w1 w.heap.size p ∧ ArrAt .i64 6 23 w1 (w.heap.size + 1) c ∧ Below w.heap.size w w1 := by
  refine ⟨_, rfl, (ArrAt.new w .i64 6 23 p).alloc _, ?_, ((Below.refl _ _).alloc (Nat.le_refl _) _).alloc (by simp) _⟩
  have h := ArrAt.new (w.alloc (.cells (arr .i64 6 p) 23)) .i64 6 23 c
  simpa using h
def TruthPost (p : Prop) (w : World) (e : Ending) (w' : World) : Prop := ((p ∧ e = .returned (.bool true)) ∨ (¬ p ∧ e = .returned (.bool false))) ∧ Below w.heap.size w w'
theorem truth_both {p : Prop} {w : World} {g : FuncId} {xs : Array Value} (h : Calls Try.prog g xs w (TruthPost p w)) : ∃ B : Bool, (B = true ↔ p) ∧ Calls Try.prog g xs w fun e w' => e = .returned (.bool B) ∧ Below w.heap.size w w' := by
  by_cases hc : p
  · exact ⟨true, by simp [hc], h.mono fun _ _ ⟨h1, h2⟩ => ⟨by
      rcases h1 with ⟨_, h1⟩ | ⟨h1, _⟩
      · exact h1
      · exact absurd hc h1, h2⟩⟩
  · exact ⟨false, by simp [hc], h.mono fun _ _ ⟨h1, h2⟩ => ⟨by
      rcases h1 with ⟨h1, _⟩ | ⟨_, h1⟩
      · exact absurd h1 hc
      · exact h1, h2⟩⟩
set_option linter.unusedSimpArgs false in
set_option maxRecDepth 100000 in
set_option maxHeartbeats 1000000 in
theorem bothGood_any (p c : Nat → Int) (w : World) (hp : Wide p) (hc : Wide c) : Calls Try.prog 19 #[.agg (arr .i64 6 p), .agg (arr .i64 6 c)] w (TruthPost (GoodC p ∧ GoodC c) w) := by
  have hsz : ∀ g, (Try.prog.info? 23).map (·.size) = some (arr .i64 6 g).size := fun g => by rw [arr_size]; exact size6
  go_enter Try.func19, Try.ntmps19
  go_upto_region 1 with fail
  obtain ⟨w1, hw1, a1, a2, hb1⟩ := boxes2 w p c
  rw [← hw1]
  clear hw1
  have hg1 := fun W => good_any p W hp
  have hg2 := fun W => good_any c W hc
  go_wp2_with (refine wpList_load_row rfl 23 (.tmp 2) rfl w.heap.size rfl 23 _ (0, 0) _ a1 Try.underlying23 rfl (hsz p) ?_)
  by_cases g1 : GoodC p
  · refine (good_yes (hg1 _) g1).mono ?_
    rintro e w2 ⟨rfl, hb2⟩
    have a2 := a2.keep hb2
    have hbw2 := keepB hb2 hb1
    clear hb2 hb1 hg1
    go_wp2_with (refine wantArr (by rfl) 23 (.tmp 3) rfl (w.heap.size + 1) rfl 23 _ (0, 0) _ a2 Try.underlying23 rfl (hsz c) ?_)
    by_cases g2 : GoodC c
    · refine (good_yes (hg2 _) g2).mono ?_
      rintro e w3 ⟨rfl, hb3⟩
      have hbw3 := keepB hb3 hbw2
      go_wp2_with fail
      go_ret
      exact ⟨.inl ⟨⟨g1, g2⟩, rfl⟩, hbw3⟩
    · refine (good_no (hg2 _) g2).mono ?_
      rintro e w3 ⟨rfl, hb3⟩
      have hbw3 := keepB hb3 hbw2
      go_wp2_with fail
      go_ret
      exact ⟨.inr ⟨fun h => g2 h.2, rfl⟩, hbw3⟩
  · refine (good_no (hg1 _) g1).mono ?_
    rintro e w2 ⟨rfl, hb2⟩
    have hbw2 := keepB hb2 hb1
    go_wp2_with fail
    go_ret
    exact ⟨.inr ⟨fun h => g1 h.1, rfl⟩, hbw2⟩
/-- The colours cover the cost, and there is enough in all. -/
def CovC (p c : Nat → Int) : Prop := ColC p c 5 ∧ sumF c 6 ≤ sumF p 6
theorem cov_can {p c : Nat → Int} (g1 : GoodC p) (g2 : GoodC c) : CovC p c ↔ CanC p c := by
  rw [can_total]; unfold CovC
  exact ⟨fun h => ⟨g1, g2, h.1, h.2⟩, fun h => ⟨h.2.2.1, h.2.2.2⟩⟩
def VRel (w2 : World) (p c : Nat → Int) (i : Value) (wr : World) : Prop := ∃ k : Nat, i = .int .i64 ((k : Nat) : Int) ∧ k ≤ 5 ∧ ColC p c k ∧ Below w2.heap.size w2 wr
set_option linter.unusedSimpArgs false in
set_option maxRecDepth 100000 in
set_option maxHeartbeats 1000000 in
theorem covers_any (p c : Nat → Int) (w : World) (hp : GoodC p) (hc : GoodC c) : Calls Try.prog 20 #[.agg (arr .i64 6 p), .agg (arr .i64 6 c)] w (TruthPost (CanC p c) w) := by
  have hsz : ∀ g, (Try.prog.info? 23).map (·.size) = some (arr .i64 6 g).size := fun g => by rw [arr_size]; exact size6
  go_enter Try.func20, Try.ntmps20
  go_upto_region 1 with fail
  obtain ⟨w1, hw1, a1, a2, hb1⟩ := boxes2 w p c
  rw [← hw1]
  clear hw1
  have HA := Lib.hid a1
  have HD := Lib.hid a2
  clear a1 a2
  go_wp2_with fail
  go_loopw [6] (fun i wr => VRel w1 p c i wr) (fun i _ => 5 - (intOf i).toNat)
  case atStart => exact ⟨0, rfl, by omega, fun i hi => absurd hi (by omega), Below.refl _ _⟩
  case round =>
    obtain ⟨k, rfl, hk, hcol, hb⟩ := hrel
    have HCol := Lib.hid hcol
    clear hcol
    by_cases hlt : k < 5
    · have r1 := (HA.out.keep hb).cell (show k < 6 by omega)
      have r2 := (HD.out.keep hb).cell (show k < 6 by omega)
      obtain ⟨x0, x1⟩ := hp k (by omega)
      obtain ⟨y0, y1⟩ := hc k (by omega)
      have b0 : (0 : Int) ≤ (k : Int) := by omega
      have b1 : (k : Int) < 6 := by omega
      obtain ⟨x, hx⟩ : ∃ x, x = p k := ⟨_, rfl⟩
      obtain ⟨y, hy⟩ : ∃ y, y = c k := ⟨_, rfl⟩
      rw [← hx] at r1 x0 x1
      rw [← hy] at r2 y0 y1
      have HX := Lib.hid hx
      have HY := Lib.hid hy
      clear hx hy
      by_cases hxy : x < y
      · have HB := Lib.hid (show ¬ CanC p c from fun h => by have := h.2.2.1 k hlt; rw [← HX.out, ← HY.out] at this; omega)
        go_wp2_with fail
        go_quiet (fail)
        go_wp2_with fail
        go_ret
        exact ⟨.inr ⟨HB.out, rfl⟩, below_drewN (keepB hb hb1) _⟩
      · have hd0 : decide (x < y) = false := by simpa using hxy
        have HN := Lib.hid (colC_next HCol.out (by rw [← HX.out, ← HY.out]; omega))
        go_wp2_with fail
        go_quiet (fail)
        go_wp2_with fail
        go_roundw
        case rel => exact ⟨k + 1, by go_num, by omega, HN.out, below_drewN hb _⟩
        case measure => simp [intOf]; omega
    · obtain rfl : k = 5 := by omega
      go_upto_region 7 with fail
      have HP := Lib.hid (HA.out.keep hb)
      have HC := Lib.hid (HD.out.keep hb)
      have hbw := keepB hb hb1
      have s1 := sumF_good hc 6 (by omega)
      have s2 := sumF_good hp 6 (by omega)
      have e1 := sumW_eq hc 6 (by omega)
      have e2 := sumW_eq hp 6 (by omega)
      have ht1 := fun W => total_any c W (good_wide hc)
      have ht2 := fun W => total_any p W (good_wide hp)
      rw [e1] at ht1
      rw [e2] at ht2
      obtain ⟨sc, hsc⟩ : ∃ s, s = sumF c 6 := ⟨_, rfl⟩
      obtain ⟨sp, hsp⟩ : ∃ s, s = sumF p 6 := ⟨_, rfl⟩
      rw [← hsc] at ht1 s1
      rw [← hsp] at ht2 s2
      have HT1 := Lib.hid ht1
      have HT2 := Lib.hid ht2
      have HSc := Lib.hid hsc
      have HSp := Lib.hid hsp
      clear ht1 ht2 hsc hsp e1 e2 hb hb1 HA HD
      refine region_below (by kernel_rfl) (fun hHeld => ?_)
      refine wpAnyH_take (i := 0) (v := .agg (arr .i64 6 c)) rfl (by kernel_rfl) (by kernel_rfl) (by kernel_rfl) (fun _ _ _ h => h) (yieldsIf_load (by rfl) 23 (.tmp 3) rfl (w.heap.size + 1) rfl (fun W hW => HC.out.keep hW) Try.underlying23 size6) hHeld ?_
      simp only [Act.put, List.getElem_toArray, List.getElem_cons_zero, List.getElem_cons_succ, List.setIfInBounds_toArray, List.set_cons_zero, List.set_cons_succ]
      refine wpAnyH_take (i := 2) (v := .agg (arr .i64 6 p)) rfl (by kernel_rfl) (by kernel_rfl) (by kernel_rfl) (fun _ _ _ h => h) (yieldsIf_load (by rfl) 23 (.tmp 2) rfl w.heap.size rfl (fun W hW => HP.out.keep hW) Try.underlying23 size6) hHeld ?_
      simp only [Act.put, List.getElem_toArray, List.getElem_cons_zero, List.getElem_cons_succ, List.setIfInBounds_toArray, List.set_cons_zero, List.set_cons_succ]
      refine wpAnyH_ready (rs := [1]) (by kernel_rfl) (by simp) ?_
      refine AllReadyH.cons rfl (fun K hK => ?_) AllReadyH.nil
      simp only [List.getElem_toArray, List.getElem_cons_zero, List.getElem_cons_succ]
      go_simp
      refine (HT1.out _).mono ?_
      rintro e w8 ⟨rfl, hb8⟩
      go_wp2_with fail
      have hB8 := keepB hb8 hHeld
      refine hK.out _ _ hB8 (fun _ => ?_)
      clear hK K
      try simp only [Act.put, List.setIfInBounds_toArray, List.set_cons_zero, List.set_cons_succ]
      refine anyH_rebase hB8 (fun hHeld => ?_)
      refine wpAnyH_ready (rs := [3]) (by kernel_rfl) (by simp) ?_
      refine AllReadyH.cons rfl (fun K hK => ?_) AllReadyH.nil
      simp only [List.getElem_toArray, List.getElem_cons_zero, List.getElem_cons_succ]
      go_simp
      refine (HT2.out _).mono ?_
      rintro e w9 ⟨rfl, hb9⟩
      go_wp2_with fail
      have hB9 := keepB hb9 hHeld
      refine hK.out _ _ hB9 (fun _ => ?_)
      clear hK K
      try simp only [Act.put, List.setIfInBounds_toArray, List.set_cons_zero, List.set_cons_succ]
      refine anyH_rebase hB9 (fun hHeld => ?_)
      refine wpAnyH_take (i := 4) (v := ?_) rfl (by kernel_rfl) (by kernel_rfl) (by kernel_rfl) (fun _ _ _ h => h) (Or.inl ⟨by rfl, ?_⟩) hHeld ?_
      rotate_left
      · (intro w hSw; go_simp; (try with_reducible rfl))
      simp only [Act.put, List.getElem_toArray, List.getElem_cons_zero, List.getElem_cons_succ, List.setIfInBounds_toArray, List.set_cons_zero, List.set_cons_succ]
      refine wpAnyH_take (i := 5) (v := ?_) rfl (by kernel_rfl) (by kernel_rfl) (by kernel_rfl) (fun _ _ _ h => h) (Or.inl ⟨by rfl, ?_⟩) hHeld ?_
      rotate_left
      · (intro w hSw; go_simp; (try with_reducible rfl))
      simp only [Act.put, List.getElem_toArray, List.getElem_cons_zero, List.getElem_cons_succ, List.setIfInBounds_toArray, List.set_cons_zero, List.set_cons_succ]
      refine wpAnyH_done (by kernel_rfl) ?_ _
      go_wp2_with fail
      go_ret
      refine ⟨?_, keepB (keepB hB9 hB8) hbw⟩
      have hiff : sc ≤ sp ↔ CanC p c := by
        rw [← cov_can hp hc, HSc.out, HSp.out]
        exact ⟨fun h => ⟨HCol.out, h⟩, fun h => h.2⟩
      by_cases hle : sc ≤ sp
      · exact .inl ⟨hiff.1 hle, by simp [hle]⟩
      · exact .inr ⟨fun h => hle (hiff.2 h), by simp [hle]⟩
set_option linter.unusedSimpArgs false in
set_option maxRecDepth 100000 in
set_option maxHeartbeats 1000000 in
theorem can_any (p c : Nat → Int) (w : World) (hp : Wide p) (hc : Wide c) : Calls Try.prog 11 #[.agg (arr .i64 6 p), .agg (arr .i64 6 c)] w (CanPost p c w) := by
  have hsz : ∀ g, (Try.prog.info? 23).map (·.size) = some (arr .i64 6 g).size := fun g => by rw [arr_size]; exact size6
  go_enter Try.func11, Try.ntmps11
  go_upto_region 1 with fail
  obtain ⟨w1, hw1, a1, a2, hb1⟩ := boxes2 w p c
  rw [← hw1]
  clear hw1
  go_wp2_with (first
    | (refine wpList_load_row rfl 23 (.tmp 2) rfl w.heap.size rfl 23 _ (0, 0) _ a1 Try.underlying23 rfl (hsz p) ?_)
    | (refine wpList_load_row rfl 23 (.tmp 3) rfl (w.heap.size + 1) rfl 23 _ (0, 0) _ a2 Try.underlying23 rfl (hsz c) ?_))
  obtain ⟨B, hB, hC⟩ := truth_both (bothGood_any p c w1 hp hc)
  refine hC.mono ?_
  rintro e w2 ⟨rfl, hb2⟩
  have a1 := a1.keep hb2
  have a2 := a2.keep hb2
  have hbw2 := keepB hb2 hb1
  clear hb2 hb1
  by_cases hg : GoodC p ∧ GoodC c
  · obtain rfl : B = true := hB.2 hg
    clear hB hC
    go_wp2_with (first
      | (refine wantArr (by rfl) 23 (.tmp 2) rfl w.heap.size rfl 23 _ (0, 0) _ a1 Try.underlying23 rfl (hsz p) ?_)
      | (refine wantArr (by rfl) 23 (.tmp 3) rfl (w.heap.size + 1) rfl 23 _ (0, 0) _ a2 Try.underlying23 rfl (hsz c) ?_))
    obtain ⟨B2, hB2, hC2⟩ := truth_both (covers_any p c w2 hg.1 hg.2)
    refine hC2.mono ?_
    rintro e w3 ⟨rfl, hb3⟩
    have hbw3 := keepB hb3 hbw2
    by_cases hcan : CanC p c
    · obtain rfl : B2 = true := hB2.2 hcan
      clear hB2 hC2
      go_wp2_with fail
      go_ret
      exact ⟨.inl ⟨hcan, rfl⟩, hbw3⟩
    · obtain rfl : B2 = false := by cases h : B2; rfl; exact absurd (hB2.1 h) hcan
      clear hB2 hC2
      go_wp2_with fail
      go_ret
      exact ⟨.inr ⟨hcan, rfl⟩, hbw3⟩
  · obtain rfl : B = false := by cases h : B; rfl; exact absurd (hB.1 h) hg
    clear hB hC
    go_wp2_with fail
    go_ret
    exact ⟨.inr ⟨fun h => hg ⟨h.1, h.2.1⟩, rfl⟩, hbw2⟩
end Go.Proofs.Ytfnlkadcidfhoaa
