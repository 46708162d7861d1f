/- Layer 7: the laws' walks: alive. -/
import Derived.Test.YtnlhblnkckkeiaaCardSaid
import Derived.Test.YtnlhblnkckkeiaaTreeTop
namespace Go.Proofs.Ytnlhblnkckkeiaa
open Go.RowKit Ex Mx
set_option linter.unusedSimpArgs false in
set_option maxRecDepth 100000 in
theorem cardAlive {z : World} (S : CardSaid z) (w : World) (hz : Below z.heap.size z w) : Calls Try.prog 7 #[] w fun e w' => e = .returned (.bool true) ∧ Below w.heap.size w w' := by
  go_enter Try.func7, Try.ntmps7
  go_upto_region 2 with fail
  obtain ⟨w1, hw1⟩ : ∃ w1, w1 = w.alloc (.cells (exDC 1) 26) := ⟨_, rfl⟩
  have hE : CdAt w1 w.heap.size (exDC 1) := by rw [hw1]; exact CdAt.new _ _
  have hb1 : Below w.heap.size w w1 := by rw [hw1]; exact (Below.refl _ _).alloc (Nat.le_refl _) _
  rw [← hw1]
  clear hw1
  go_wp2_with (refine wantCd (by rfl) (.tmp 1) rfl w.heap.size rfl _ hE size13 ?_)
  have h1 := S.check 1 (exD 1) (exDC 1) w1 (exD_reads _ _ 1 (by omega) (by omega)) (exD_small 1) (keepB hb1 hz)
  rw [exD_one] at h1
  refine h1.mono ?_
  rintro e w2 ⟨rfl, hb2⟩
  have hE2 := hE.keep hb2
  have hbw2 := keepB hb2 hb1
  rw [show errV 0 = .nilIface from rfl]
  have c10 : w2.cell? ⟨w.heap.size, 10, none⟩ = some (.int .i64 1) := by rw [hE2.cell]; rfl
  have f10 := frozen_of_row w2 w.heap.size 10 _ _ hE2
  clear h1 hE
  go_upto_region 5 with fail
  obtain ⟨w3, hw3⟩ : ∃ w3, w3 = w2.setCell ⟨w.heap.size, 10, none⟩ (.int .i64 0) := ⟨_, rfl⟩
  have hE3 : CdAt w3 w.heap.size (exDC 0) := by rw [hw3]; exact heap_setCell_same w2 w.heap.size 10 _ _ _ hE2
  have hbw3 : Below w.heap.size w w3 := by rw [hw3]; exact hbw2.setCell (by simp) _
  rw [← hw3]
  clear hw3 c10 f10
  go_wp2_with (refine wantCd (by rfl) (.tmp 1) rfl w.heap.size rfl _ hE3 size13 ?_)
  have h2 := S.check 1 (exD 0) (exDC 0) w3 (exD_reads _ _ 0 (by omega) (by omega)) (exD_small 0) (keepB hbw3 hz)
  rw [exD_none] at h2
  refine h2.mono ?_
  rintro e w4 ⟨rfl, hb4⟩
  go_wp2_with fail
  refine (is_by 1 1 w4).mono ?_
  rintro e w5 ⟨rfl, rfl⟩
  go_wp2_with fail
  go_ret
  exact ⟨rfl, keepB hb4 hbw3⟩
theorem yieldsCd {ops : Array Oper} {S : World → Prop} {op : Oper} {a : Act} (hw : Region.wanted op (yielded ops a.tmps) = true) (x : Operand) (ho : op.op = .load 26 x)
    (g : Nat) (hx : a.eval x = .pointer (some ⟨g, 0, none⟩)) (cs : Array Value) (hS : ∀ w, S w → CdAt w g cs) (hs : (Try.prog.info? 26).map (·.size) = some cs.size) : YieldsIf Try.prog ops S op (.agg cs) a :=
  .inl ⟨hw, fun w hw' => by
    unfold execOp
    simp only [ho, hx, Instr.loadAt, Instr.sureAddr, Sem.run_bind, Sem.run_pure, Result.andThen_ok, run_loadVar_row w g 26 26 cs (0, 0) _ (hS w hw') Try.underlying26 rfl hs]⟩
set_option linter.unusedSimpArgs false in
set_option maxRecDepth 100000 in
set_option maxHeartbeats 1000000 in
theorem cardChecks_walk {w : World} (S : CardSaid w) (R : ∀ (d : Nat) (c : CardT) (cs : Array Value) (w : World), ReadsC w.heap.size w d cs c → SmallC c → Calls Try.prog 11 #[.agg cs] w fun e w' => e = .returned (.int .i64 (chkC c)) ∧ Below w.heap.size w w')
    (d : Nat) (c : CardT) (cs : Array Value) (hr : ReadsC w.heap.size w d cs c) :
    Calls Try.prog 3 #[.agg cs] w fun e w' => e = .returned (.bool true) ∧ Below w.heap.size w w' := by
  have hsx : (Try.prog.info? 26).map (·.size) = some cs.size := by rw [hr.size]; exact size13
  go_enter Try.func3, Try.ntmps3
  go_upto_region 1 with fail
  obtain ⟨w1, hw1⟩ : ∃ w1, w1 = w.alloc (.cells cs 26) := ⟨_, rfl⟩
  have HE := Lib.hid (show CdAt w1 w.heap.size cs by rw [hw1]; exact CdAt.new _ _)
  have hb1 : Below w.heap.size w w1 := by rw [hw1]; exact (Below.refl _ _).alloc (Nat.le_refl _) _
  rw [← hw1]
  clear hw1
  go_wp2_with fail
  refine (cardAlive S w1 hb1).mono ?_
  rintro e w2 ⟨rfl, hb2⟩
  have hE2 := HE.out.keep hb2
  have hbw2 := keepB hb2 hb1
  go_wp2_with (refine wantCd (by rfl) (.tmp 1) rfl w.heap.size rfl cs hE2 hsx ?_)
  refine (largeC_any d c cs w2 (hr.grow hbw2)).mono ?_
  rintro e w3 ⟨q, hq, rfl, hb3⟩
  have hbw3 := keepB hb3 hbw2
  have HE3 := Lib.hid (hE2.keep hb3)
  clear hE2 hb2 hb3 hbw2 HE
  cases q
  case true =>
    clear hq
    go_wp2_with fail
    go_ret
    exact ⟨rfl, hbw3⟩
  have hs := hq rfl
  have HC := Lib.hid (fun W (hW : Below w3.heap.size w3 W) => S.check d c cs W (hr.grow (keepB hW hbw3)) hs (keepB hW hbw3))
  have HR := Lib.hid (fun W (hW : Below w3.heap.size w3 W) => R d c cs W (hr.grow (keepB hW hbw3)) hs)
  obtain ⟨v, hv⟩ : ∃ v, v = chkC c := ⟨_, rfl⟩
  rw [← hv] at HC HR
  clear hq hs hv hr
  go_upto_region 5 with fail
  refine region_below (by kernel_rfl) (fun hHeld => ?_)
  refine wpAnyH_take (i := 0) (v := .agg cs) rfl (by kernel_rfl) (by kernel_rfl) (by kernel_rfl) (fun _ _ _ h => h) (yieldsCd (by rfl) (.tmp 1) rfl w.heap.size rfl cs (fun W hW => HE3.out.keep hW) hsx) hHeld ?_
  simp only [Act.put, List.getElem_toArray, List.getElem_cons_zero, List.getElem_cons_succ, List.setIfInBounds_toArray, List.set_cons_zero, List.set_cons_succ]
  refine wpAnyH_take (i := 3) (v := .agg cs) rfl (by kernel_rfl) (by kernel_rfl) (by kernel_rfl) (fun _ _ _ h => h) (yieldsCd (by rfl) (.tmp 1) rfl w.heap.size rfl cs (fun W hW => HE3.out.keep hW) hsx) hHeld ?_
  simp only [Act.put, List.getElem_toArray, List.getElem_cons_zero, List.getElem_cons_succ, List.setIfInBounds_toArray, List.set_cons_zero, List.set_cons_succ]
  refine wpAnyH_ready (rs := [1]) (by kernel_rfl) (by simp) ?_
  refine AllReadyH.cons rfl (fun K hK => ?_) AllReadyH.nil
  simp only [List.getElem_toArray, List.getElem_cons_zero, List.getElem_cons_succ]
  go_simp
  refine (HC.out _ hHeld).mono ?_
  rintro e w4 ⟨rfl, hb4⟩
  go_wp2_with fail
  have hB4 := keepB hb4 hHeld
  refine hK.out _ _ hB4 (fun _ => ?_)
  clear hK K
  try simp only [Act.put, List.setIfInBounds_toArray, List.set_cons_zero, List.set_cons_succ]
  refine anyH_rebase hB4 (fun hHeld => ?_)
  refine wpAnyH_ready (rs := [2]) (by kernel_rfl) (by simp) ?_
  refine AllReadyH.cons rfl (fun K hK => ?_) AllReadyH.nil
  simp only [List.getElem_toArray, List.getElem_cons_zero, List.getElem_cons_succ]
  go_simp
  refine (num_by v _).mono ?_
  rintro e w5 ⟨rfl, rfl⟩
  go_wp2_with fail
  have hB5 := keepB (Below.refl _ _) hHeld
  refine hK.out _ _ hB5 (fun _ => ?_)
  clear hK K
  try simp only [Act.put, List.setIfInBounds_toArray, List.set_cons_zero, List.set_cons_succ]
  refine anyH_rebase hB5 (fun hHeld => ?_)
  refine wpAnyH_ready (rs := [4]) (by kernel_rfl) (by simp) ?_
  refine AllReadyH.cons rfl (fun K hK => ?_) AllReadyH.nil
  simp only [List.getElem_toArray, List.getElem_cons_zero, List.getElem_cons_succ]
  go_simp
  refine (HR.out _ hB4).mono ?_
  rintro e w6 ⟨rfl, hb6⟩
  go_wp2_with fail
  have hB6 := keepB hb6 hHeld
  refine hK.out _ _ hB6 (fun _ => ?_)
  clear hK K
  try simp only [Act.put, List.setIfInBounds_toArray, List.set_cons_zero, List.set_cons_succ]
  refine anyH_rebase hB6 (fun hHeld => ?_)
  refine wpAnyH_take (i := 5) (v := ?_) rfl (by kernel_rfl) (by kernel_rfl) (by kernel_rfl) (fun _ _ _ h => h) (Or.inl ⟨by rfl, ?_⟩) hHeld ?_
  rotate_left
  · (intro w hSw; go_simp; (try with_reducible rfl))
  simp only [Act.put, List.getElem_toArray, List.getElem_cons_zero, List.getElem_cons_succ, List.setIfInBounds_toArray, List.set_cons_zero, List.set_cons_succ]
  refine wpAnyH_take (i := 6) (v := ?_) rfl (by kernel_rfl) (by kernel_rfl) (by kernel_rfl) (fun _ _ _ h => h) (Or.inl ⟨by rfl, ?_⟩) hHeld ?_
  rotate_left
  · (intro w hSw; go_simp; (try with_reducible rfl))
  simp only [Act.put, List.getElem_toArray, List.getElem_cons_zero, List.getElem_cons_succ, List.setIfInBounds_toArray, List.set_cons_zero, List.set_cons_succ]
  refine wpAnyH_done (by kernel_rfl) ?_ _
  go_wp2_with fail
  go_ret
  exact ⟨by simp, keepB (keepB hB6 hB4) hbw3⟩
end Go.Proofs.Ytnlhblnkckkeiaa
