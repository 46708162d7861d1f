/- Layer 5: Ways of the landed code; all its calls together. -/
import Derived.Test.YtfnlkadcidfhoaaPayRec
import Derived.Test.YtfnlkadcidfhoaaPayCode
namespace Go.Proofs.Ytfnlkadcidfhoaa
open Go.RowKit Mx Yx
attribute [local go_sem] arr_get
theorem count_by (m : Nat) : ∀ (f : Nat → Int), posN f 6 ≤ m → ∀ (s B n : Nat) (D : DataW Unit) (w : World), OkC f s → Memo w B n D → Right D → n + 62 ^ posN f 6 ≤ 62 ^ 7 →
    Calls Try.prog 24 #[.map (some B), keyV f s] w (CountPost w B f s (n + 62 ^ posN f 6)) := by
  induction m with
  | zero => exact fun f hf => count_step f (fun g s B n D w hlt => absurd hlt (by omega))
  | succ m ih => exact fun f hf => count_step f (fun g s B n D w hlt => ih g (by omega) s B n D w)
theorem count_any (f : Nat → Int) (s B : Nat) (D : DataW Unit) (w : World) (hok : OkC f s) (hm : Memo w B 0 D) (hr : Right D) :
    Calls Try.prog 24 #[.map (some B), keyV f s] w fun e w' => e = .returned (.int .i64 (cntZ f s)) ∧ w.grownBy w' (some B) :=
  (count_by _ f (Nat.le_refl _) s B 0 D w hok hm hr (by
    have h1 : 62 ^ posN f 6 ≤ 62 ^ 7 := Nat.pow_le_pow_right (by omega) (by have := posN_le f 6; omega)
    omega)).mono fun _ _ ⟨h1, _, _, _, _, _, h2⟩ => ⟨h1, h2⟩
theorem one_le_sum {f : Nat → Int} (h : ∀ i, i < 6 → 0 ≤ f i) : ∀ i, i < 6 → f i ≤ sumF f 6 := by
  have h0 := h 0 (by omega); have h1 := h 1 (by omega); have h2 := h 2 (by omega); have h3 := h 3 (by omega); have h4 := h 4 (by omega); have h5 := h 5 (by omega)
  refine all6 ?_ ?_ ?_ ?_ ?_ ?_ <;> simp only [sumF] <;> omega
theorem free_ok {p c : Nat → Int} (h : CanC p c) (h60 : sumF p 6 ≤ 60) : OkC (freeC p c) (c 5).toNat where
  room i hi := by
    have h1 := free_nonneg h i hi
    have h2 := one_le_sum (fun i hi => (h.1 i hi).1) i hi
    have h3 := h.2.1 i hi
    refine ⟨h1, ?_⟩
    unfold freeC; split <;> omega
  owed := by have := h.2.1 5 (by omega); omega
structure StB (w : World) (p c : Nat → Int) (wr : World) : Prop where
  p : ArrAt .i64 6 23 wr w.heap.size p
  c : ArrAt .i64 6 23 wr (w.heap.size + 1) c
  b : Below w.heap.size w wr
theorem StB.keep {w wr wy : World} {p c : Nat → Int} (h : StB w p c wr) (hb : Below wr.heap.size wr wy) : StB w p c wy := ⟨h.p.keep hb, h.c.keep hb, keepB hb h.b⟩
theorem StB.drewN {w wr : World} {p c : Nat → Int} (h : StB w p c wr) (n : Nat) : StB w p c (wr.drewN n) := ⟨h.p, h.c, below_drewN h.b n⟩
theorem StB.turn {w wr wy : World} {p c : Nat → Int} {B : Nat} (h : StB w p c wr) (hg : wr.grownBy wy (some B)) (hB : w.heap.size + 1 < B) : StB w p c wy :=
  ⟨h.p.grown hg (by simp; omega), h.c.grown hg (by simp; omega), h.b.trans ⟨hg.os, hg.tape, hg.output, hg.size, fun k hk => hg.block k (by have := h.p.lt; omega) (by simp; omega)⟩⟩
theorem stB_alloc {w wr : World} {p c : Nat → Int} (h : StB w p c wr) (o : Obj) : StB w p c (wr.alloc o) := h.keep ((Below.refl _ _).alloc (Nat.le_refl _) _)
set_option linter.unusedSimpArgs false in
set_option maxRecDepth 100000 in
set_option maxHeartbeats 2000000 in
theorem ways_any (p c : Nat → Int) (w : World) (hp : Wide p) (hc : Wide c) : Calls Try.prog 13 #[.agg (arr .i64 6 p), .agg (arr .i64 6 c)] w (WaysPost p c errV w) := by
  have hsz : ∀ g, (Try.prog.info? 23).map (·.size) = some (arr .i64 6 g).size := fun g => by rw [arr_size]; exact size6
  go_enter Try.func13, Try.ntmps13
  go_upto_region 1 with fail
  obtain ⟨w1, hw1, a1, a2, hb1⟩ := boxes2 w p c
  rw [← hw1]
  clear hw1
  have hs1 : StB w p c w1 := ⟨a1, a2, hb1⟩
  clear a1 a2 hb1
  go_wp2_with (first
    | (refine wpList_load_row rfl 23 (.tmp 2) rfl w.heap.size rfl 23 _ (0, 0) _ hs1.p Try.underlying23 rfl (hsz p) ?_)
    | (refine wpList_load_row rfl 23 (.tmp 3) rfl (w.heap.size + 1) rfl 23 _ (0, 0) _ hs1.c Try.underlying23 rfl (hsz c) ?_))
  obtain ⟨B, hB, hC⟩ := truth_both (bothGood_any p c w1 hp hc)
  refine hC.mono ?_
  rintro e w2 ⟨rfl, hb2⟩
  have hs2 := hs1.keep hb2
  clear hb2 hs1
  by_cases hg : GoodC p ∧ GoodC c
  · obtain rfl : B = true := hB.2 hg
    clear hB hC
    have HG := Lib.hid hg
    have htot := fun W => total_any p W hp
    rw [sumW_eq hg.1 6 (by omega)] at htot
    obtain ⟨S, hS⟩ : ∃ S, S = sumF p 6 := ⟨_, rfl⟩
    rw [← hS] at htot
    have HS := Lib.hid hS
    have HTot := Lib.hid htot
    clear hg htot hS
    go_wp2_with (refine wpList_load_row rfl 23 (.tmp 2) rfl w.heap.size rfl 23 _ (0, 0) _ hs2.p Try.underlying23 rfl (hsz p) ?_)
    refine (HTot.out _).mono ?_
    rintro e w3 ⟨rfl, hb3⟩
    have hs3 := hs2.keep hb3
    clear hb3 hs2
    by_cases h60 : 60 < S
    · go_wp2_with fail
      go_ret2
      exact ⟨0, 1, .inr (.inl ⟨HG.out, by rw [← HS.out]; exact h60, rfl, rfl⟩), rfl, hs3.b⟩
    · go_wp2_with (first
        | (refine wpList_load_row rfl 23 (.tmp 2) rfl w.heap.size rfl 23 _ (0, 0) _ hs3.p Try.underlying23 rfl (hsz p) ?_)
        | (refine wpList_load_row rfl 23 (.tmp 3) rfl (w.heap.size + 1) rfl 23 _ (0, 0) _ hs3.c Try.underlying23 rfl (hsz c) ?_))
      obtain ⟨B, hB, hC⟩ := truth_both (covers_any p c w3 HG.out.1 HG.out.2)
      refine hC.mono ?_
      rintro e w4 ⟨rfl, hb4⟩
      have hs4 := hs3.keep hb4
      clear hb4 hs3
      by_cases hcan : CanC p c
      · obtain rfl : B = true := hB.2 hcan
        clear hB hC
        have hok := free_ok hcan (by rw [← HS.out]; omega)
        obtain ⟨y0, y1⟩ := HG.out.2 5 (by omega)
        obtain ⟨s, hs⟩ : ∃ s : Nat, c 5 = (s : Int) := ⟨(c 5).toNat, by omega⟩
        have HR := Lib.hid (show WaysR p c (cntZ (freeC p c) s) 0 from .inr (.inr (.inr ⟨hcan, by rw [← HS.out]; omega, by rw [hs, Int.toNat_natCast, waysN_waysZ]; rfl, rfl⟩)))
        rw [hs, Int.toNat_natCast] at hok
        have HOk := Lib.hid hok
        have HC5 := Lib.hid hs
        have hpos : w.heap.size + 1 < w4.heap.size := hs4.c.lt
        have hmm := @run_makeMap Try.prog
        clear y0 y1 hok hcan h60 hs
        have hc5 : ∀ W, StB w p c W → W.cell? ⟨w.heap.size + 1, 5, none⟩ = some (.int .i64 s) := fun W hW => by rw [← HC5.out]; exact hW.c.cell (by omega)
        go_upto_region 7 with fail
        refine wp_region_held_drew (S := StB w p c) (by kernel_rfl) (hs4.drewN 1) (fun hHeld => ?_)
        have hpos2 : w.heap.size + 1 < w4.drew.heap.size := hpos
        generalize w4.drew = W0 at hHeld hpos2 ⊢
        refine wpAnyH_take (i := 1) (v := .agg (arr .i64 6 p)) rfl (by kernel_rfl) (by kernel_rfl) (by kernel_rfl) (fun _ _ _ h => h) (yieldsIf_load (by rfl) 23 (.tmp 2) rfl w.heap.size rfl (fun W hW => hW.p) Try.underlying23 size6) hHeld ?_
        simp only [Act.put, List.getElem_toArray, List.getElem_cons_zero, List.getElem_cons_succ, List.setIfInBounds_toArray, List.set_cons_zero, List.set_cons_succ]
        refine wpAnyH_take (i := 2) (v := .agg (arr .i64 6 c)) rfl (by kernel_rfl) (by kernel_rfl) (by kernel_rfl) (fun _ _ _ h => h) (yieldsIf_load (by rfl) 23 (.tmp 3) rfl (w.heap.size + 1) rfl (fun W hW => hW.c) Try.underlying23 size6) hHeld ?_
        simp only [Act.put, List.getElem_toArray, List.getElem_cons_zero, List.getElem_cons_succ, List.setIfInBounds_toArray, List.set_cons_zero, List.set_cons_succ]
        refine wpAnyH_take (i := 4) (v := ?_) rfl (by kernel_rfl) (by kernel_rfl) (by kernel_rfl) (fun _ _ _ h => h) (Or.inl ⟨by rfl, ?_⟩) hHeld ?_
        rotate_left
        · (intro w hSw; go_simp; (try with_reducible rfl))
        simp only [Act.put, List.getElem_toArray, List.getElem_cons_zero, List.getElem_cons_succ, List.setIfInBounds_toArray, List.set_cons_zero, List.set_cons_succ]
        refine wpAnyH_take (i := 5) (v := ?_) rfl (by kernel_rfl) (by kernel_rfl) (by kernel_rfl) (fun _ _ _ h => h) (Or.inl ⟨by rfl, ?_⟩) hHeld ?_
        rotate_left
        · (intro w hSw; go_simp; (try with_reducible rfl))
        simp only [Act.put, List.getElem_toArray, List.getElem_cons_zero, List.getElem_cons_succ, List.setIfInBounds_toArray, List.set_cons_zero, List.set_cons_succ]
        refine wpAnyH_ready (rs := [0, 3]) (by kernel_rfl) (by simp) ?_
        refine AllReadyH.cons rfl (fun K hK => ?_) (AllReadyH.cons rfl (fun K hK => ?_) AllReadyH.nil)
        all_goals simp only [List.getElem_toArray, List.getElem_cons_zero, List.getElem_cons_succ]
        all_goals go_simp
        · obtain ⟨W1, hW1⟩ : ∃ W1, W1 = W0.alloc (.map #[] 0) := ⟨_, rfl⟩
          have hS1 : StB w p c W1 := by rw [hW1]; exact stB_alloc hHeld _
          have hM1 : Memo W1 W0.heap.size 0 (.map []) := by rw [hW1]; exact World.ownsMap_made _ _ _ _
          have hMB := hpos2
          rw [← hW1]
          clear hW1 hpos2
          obtain ⟨MB, hMBe⟩ : ∃ MB, W0.heap.size = MB := ⟨_, rfl⟩
          rw [hMBe] at hM1 hMB ⊢
          clear hMBe
          refine hK.out _ _ hS1 (fun _ => ?_)
          clear hK K hHeld
          try simp only [Act.put, List.setIfInBounds_toArray, List.set_cons_zero, List.set_cons_succ]
          have hHeld := hS1
          refine wpAnyH_ready (rs := [3]) (by kernel_rfl) (by simp) ?_
          refine AllReadyH.cons rfl (fun K hK => ?_) AllReadyH.nil
          simp only [List.getElem_toArray, List.getElem_cons_zero, List.getElem_cons_succ]
          go_simp
          refine (free_any p c W1 HG.out.1 HG.out.2).mono ?_
          rintro e W2 ⟨rfl, hb2⟩
          have hS2 := hS1.keep hb2
          have hM2 : Memo W2 MB 0 (.map []) := hM1.kept (grown_below hb2 none) (by simp)
          go_wp2_with fail
          refine hK.out _ _ hS2 (fun _ => ?_)
          clear hK K hHeld
          try simp only [Act.put, List.setIfInBounds_toArray, List.set_cons_zero, List.set_cons_succ]
          have hHeld := hS2
          refine wpAnyH_take (i := 6) (v := .agg (arr .i64 7 (keyF (freeC p c) s))) rfl (by kernel_rfl) (by kernel_rfl) (by kernel_rfl) (fun _ _ _ h => h) (Or.inl ⟨by rfl, fun W _ => by simp [execOp, build_open, Result.andThen, Act.eval]⟩) hHeld ?_
          simp only [Act.put, List.getElem_toArray, List.getElem_cons_zero, List.getElem_cons_succ, List.setIfInBounds_toArray, List.set_cons_zero, List.set_cons_succ]
          refine wpAnyH_ready (rs := [7]) (by kernel_rfl) (by simp) ?_
          refine AllReadyH.cons rfl (fun K hK => ?_) AllReadyH.nil
          simp only [List.getElem_toArray, List.getElem_cons_zero, List.getElem_cons_succ]
          go_simp
          refine (calls_at (count_any (freeC p c) s MB (.map []) _ HOk.out hM2 right_empty) rfl).mono ?_
          rintro e W3 ⟨rfl, hg3⟩
          have hS3 := hS2.turn hg3 hMB
          go_wp2_with fail
          refine hK.out _ _ hS3 (fun _ => ?_)
          clear hK K hHeld
          try simp only [Act.put, List.setIfInBounds_toArray, List.set_cons_zero, List.set_cons_succ]
          have hHeld := hS3
          refine wpAnyH_take (i := 8) (v := ?_) rfl (by kernel_rfl) (by kernel_rfl) (by kernel_rfl) (fun _ _ _ h => h) (Or.inl ⟨by rfl, ?_⟩) hHeld ?_
          rotate_left
          · (intro w hSw; go_simp; (try with_reducible rfl))
          simp only [Act.put, List.getElem_toArray, List.getElem_cons_zero, List.getElem_cons_succ, List.setIfInBounds_toArray, List.set_cons_zero, List.set_cons_succ]
          refine wpAnyH_take (i := 9) (v := ?_) rfl (by kernel_rfl) (by kernel_rfl) (by kernel_rfl) (fun _ _ _ h => h) (Or.inl ⟨by rfl, ?_⟩) hHeld ?_
          rotate_left
          · (intro w hSw; go_simp; (try with_reducible rfl))
          simp only [Act.put, List.getElem_toArray, List.getElem_cons_zero, List.getElem_cons_succ, List.setIfInBounds_toArray, List.set_cons_zero, List.set_cons_succ]
          refine wpAnyH_done (by kernel_rfl) ?_ _
          go_wp2_with fail
          go_ret2
          exact ⟨cntZ (freeC p c) s, 0, HR.out, rfl, hS3.b⟩
        · refine (free_any p c W0 HG.out.1 HG.out.2).mono ?_
          rintro e W1 ⟨rfl, hb1⟩
          have hS1 := hHeld.keep hb1
          have hMB : w.heap.size + 1 < W1.heap.size := hS1.c.lt
          go_wp2_with fail
          refine hK.out _ _ hS1 (fun _ => ?_)
          clear hK K hHeld
          try simp only [Act.put, List.setIfInBounds_toArray, List.set_cons_zero, List.set_cons_succ]
          have hHeld := hS1
          refine wpAnyH_take (i := 6) (v := .agg (arr .i64 7 (keyF (freeC p c) s))) rfl (by kernel_rfl) (by kernel_rfl) (by kernel_rfl) (fun _ _ _ h => h) (Or.inl ⟨by rfl, fun W _ => by simp [execOp, build_open, Result.andThen, Act.eval]⟩) hHeld ?_
          simp only [Act.put, List.getElem_toArray, List.getElem_cons_zero, List.getElem_cons_succ, List.setIfInBounds_toArray, List.set_cons_zero, List.set_cons_succ]
          refine wpAnyH_ready (rs := [0]) (by kernel_rfl) (by simp) ?_
          refine AllReadyH.cons rfl (fun K hK => ?_) AllReadyH.nil
          simp only [List.getElem_toArray, List.getElem_cons_zero, List.getElem_cons_succ]
          go_simp
          obtain ⟨W2, hW2⟩ : ∃ W2, W2 = W1.alloc (.map #[] 0) := ⟨_, rfl⟩
          have hS2 : StB w p c W2 := by rw [hW2]; exact stB_alloc hS1 _
          have hM2 : Memo W2 W1.heap.size 0 (.map []) := by rw [hW2]; exact World.ownsMap_made _ _ _ _
          rw [← hW2]
          clear hW2
          obtain ⟨MB, hMBe⟩ : ∃ MB, W1.heap.size = MB := ⟨_, rfl⟩
          rw [hMBe] at hM2 hMB ⊢
          clear hMBe
          refine hK.out _ _ hS2 (fun _ => ?_)
          clear hK K hHeld
          try simp only [Act.put, List.setIfInBounds_toArray, List.set_cons_zero, List.set_cons_succ]
          have hHeld := hS2
          refine wpAnyH_ready (rs := [7]) (by kernel_rfl) (by simp) ?_
          refine AllReadyH.cons rfl (fun K hK => ?_) AllReadyH.nil
          simp only [List.getElem_toArray, List.getElem_cons_zero, List.getElem_cons_succ]
          go_simp
          refine (calls_at (count_any (freeC p c) s MB (.map []) _ HOk.out hM2 right_empty) rfl).mono ?_
          rintro e W3 ⟨rfl, hg3⟩
          have hS3 := hS2.turn hg3 hMB
          go_wp2_with fail
          refine hK.out _ _ hS3 (fun _ => ?_)
          clear hK K hHeld
          try simp only [Act.put, List.setIfInBounds_toArray, List.set_cons_zero, List.set_cons_succ]
          have hHeld := hS3
          refine wpAnyH_take (i := 8) (v := ?_) rfl (by kernel_rfl) (by kernel_rfl) (by kernel_rfl) (fun _ _ _ h => h) (Or.inl ⟨by rfl, ?_⟩) hHeld ?_
          rotate_left
          · (intro w hSw; go_simp; (try with_reducible rfl))
          simp only [Act.put, List.getElem_toArray, List.getElem_cons_zero, List.getElem_cons_succ, List.setIfInBounds_toArray, List.set_cons_zero, List.set_cons_succ]
          refine wpAnyH_take (i := 9) (v := ?_) rfl (by kernel_rfl) (by kernel_rfl) (by kernel_rfl) (fun _ _ _ h => h) (Or.inl ⟨by rfl, ?_⟩) hHeld ?_
          rotate_left
          · (intro w hSw; go_simp; (try with_reducible rfl))
          simp only [Act.put, List.getElem_toArray, List.getElem_cons_zero, List.getElem_cons_succ, List.setIfInBounds_toArray, List.set_cons_zero, List.set_cons_succ]
          refine wpAnyH_done (by kernel_rfl) ?_ _
          go_wp2_with fail
          go_ret2
          exact ⟨cntZ (freeC p c) s, 0, HR.out, rfl, hS3.b⟩
      · obtain rfl : B = false := by cases h : B; rfl; exact absurd (hB.1 h) hcan
        clear hB hC
        go_wp2_with fail
        go_ret2
        exact ⟨0, 0, .inr (.inr (.inl ⟨HG.out, by rw [← HS.out]; omega, hcan, rfl, rfl⟩)), rfl, hs4.b⟩
  · obtain rfl : B = false := by cases h : B; rfl; exact absurd (hB.1 h) hg
    clear hB hC
    go_wp2_with fail
    go_ret2
    exact ⟨0, 2, .inl ⟨hg, rfl, rfl⟩, rfl, hs2.b⟩
/-- All calls of pay answer as said. -/
theorem paySaid (z : World) : PaySaid z where
  can p c w hp hc _ := can_any p c w hp hc
  pay p c w hp hc _ := pay_any p c w hp hc
  ways p c w hp hc _ := ways_any p c w hp hc
  sum p c w hp hc _ := sum_any p c w hp hc
end Go.Proofs.Ytfnlkadcidfhoaa
