/- Layer 6: the laws' walks: alive, EffectChecks. -/
import Derived.Test.YtjijnapphbeahaaTreeSaid
namespace Go.Proofs.Ytjijnapphbeahaa
open Go.RowKit Ex
/-- The chapter's example. -/
def exT : ET := .node 1 3 0 2 []
theorem ex_any : chkTop exT 3 = 0 := by simp [chkTop, exT, chkT, chkL, RangesC, FitsC, FormC, nMost, mLeast, mMost]
theorem ex_none : chkTop exT 0 = 11 := by simp [chkTop, exT, chkT, RangesC, FitsC, nMost, mLeast, mMost]
abbrev exC : Array Value := #[.int .i64 1, .int .i64 3, .int .i64 0, .int .i64 2, .slice none 0 0]
theorem ex_reads (B : Nat) (w : World) : Reads B w 1 exC exT := by
  refine ⟨⟨by omega, by omega⟩, ⟨by omega, by omega⟩, ⟨by omega, by omega⟩, ⟨by omega, by omega⟩, none, 0, rfl, by simp, by omega, fun i t hi => by simp at hi⟩
set_option linter.unusedSimpArgs false in
set_option maxRecDepth 100000 in
theorem effAlive {z : World} (S : EffSaid z) (w : World) (hz : Below z.heap.size z w) : Calls Try.prog 7 #[] w fun e w' => e = .returned (.bool true) ∧ Below w.heap.size w w' := by
  go_enter Try.func7, Try.ntmps7
  have hnew : (w.alloc (.cells zeroE 24)).heap[w.heap.size]? = some (.cells zeroE 24 (0, 0)) := heap_alloc_new _ _
  go_upto_region 2 with (refine wpList_store_row rfl 24 (.tmp 1) (.tmp 2) rfl w.heap.size _ rfl rfl 24 zeroE hnew size5 rfl rfl ?_)
  obtain ⟨w1, hw1⟩ : ∃ w1, w1 = w.alloc (.cells exC 24) := ⟨_, rfl⟩
  have hE : EvAt w1 w.heap.size exC := by rw [hw1]; exact EvAt.new _ _
  have hb1 : Below w.heap.size w w1 := by rw [hw1]; exact (Below.refl _ _).alloc (Nat.le_refl _) _
  rw [← hw1]
  clear hw1 hnew
  go_wp2_with (refine wpList_load_row rfl 24 (.tmp 1) rfl w.heap.size rfl 24 _ (0, 0) _ hE Try.underlying24 rfl size5 ?_)
  have hs1 : sizeT exT ≤ 300 := by simp [exT, sizeT, sizeL]
  have h1 := S.check 1 exT exC 3 w1 (ex_reads _ _) hs1 ⟨by omega, by omega⟩ (keepB hb1 hz)
  rw [ex_any] at h1
  refine h1.mono ?_
  rintro e w2 ⟨rfl, hb2⟩
  have hE2 := hE.keep hb2
  have hbw2 := keepB hb2 hb1
  rw [show errV 0 = .nilIface from rfl]
  have h2 := S.check 1 exT exC 0 w2 (ex_reads _ _) hs1 ⟨by omega, by omega⟩ (keepB hbw2 hz)
  rw [ex_none] at h2
  clear h1 hE hb1 hb2 hs1
  go_wp2_with (refine wantEv (by rfl) (.tmp 1) rfl w.heap.size rfl exC hE2 size5 ?_)
  refine h2.mono ?_
  rintro e w3 ⟨rfl, hb3⟩
  go_wp2_with fail
  refine (is_by 11 11 _).mono ?_
  rintro e w4 ⟨rfl, rfl⟩
  go_wp2_with fail
  go_ret
  exact ⟨rfl, keepB hb3 hbw2⟩
set_option linter.unusedSimpArgs false in
set_option maxRecDepth 100000 in
set_option maxHeartbeats 2000000 in
theorem effectChecks_walk {w : World} (S : EffSaid w) (d : Nat) (t : ET) (cs : Array Value) (tg op : Int) (hr : Reads w.heap.size w d cs t) (htg : In64 tg) (hop : In64 op) :
    Calls Try.prog 3 #[.agg cs, .int .i64 tg, .int .i64 op] w fun e w' => e = .returned (.bool true) ∧ Below w.heap.size w w' := by
  have hsx : (Try.prog.info? 24).map (·.size) = some cs.size := by rw [hr.size]; exact size5
  go_enter Try.func3, Try.ntmps3
  go_upto_region 1 with fail
  obtain ⟨w1, hw1⟩ : ∃ w1, w1 = w.alloc (.cells cs 24) := ⟨_, rfl⟩
  have HE := Lib.hid (show EvAt w1 w.heap.size cs by rw [hw1]; exact EvAt.new _ _)
  have hb1 : Below w.heap.size w w1 := by rw [hw1]; exact (Below.refl _ _).alloc (Nat.le_refl _) _
  rw [← hw1]
  clear hw1
  go_wp2_with fail
  refine (effAlive S w1 hb1).mono ?_
  rintro e w2 ⟨rfl, hb2⟩
  have hE2 := HE.out.keep hb2
  have hbw2 := keepB hb2 hb1
  go_wp2_with (refine wpList_load_row rfl 24 (.tmp 3) rfl w.heap.size rfl 24 _ (0, 0) _ hE2 Try.underlying24 rfl hsx ?_)
  refine (large_any d t cs w2 (hr.grow hbw2)).mono ?_
  rintro e w3 ⟨B, hB, rfl, hb3⟩
  have hE3 := hE2.keep hb3
  have hbw3 := keepB hb3 hbw2
  clear hE2 hb1 hb2 hb3 hbw2 HE
  cases B with
  | true =>
    clear hB
    go_wp2_with fail
    go_ret
    exact ⟨rfl, hbw3⟩
  | false =>
    obtain ⟨hs, _⟩ := hB rfl
    clear hB
    go_wp2_with (refine wpList_load_row rfl 24 (.tmp 3) rfl w.heap.size rfl 24 _ (0, 0) _ hE3 Try.underlying24 rfl hsx ?_)
    refine (sizeRef_any d t cs w3 (hr.grow hbw3) (by omega)).mono ?_
    rintro e w4 ⟨rfl, hb4⟩
    have HE4 := Lib.hid (hE3.keep hb4)
    have hbw4 := keepB hb4 hbw3
    have HSz := Lib.hid (fun W (hW : Below w.heap.size w W) => S.size d t cs W (hr.grow hW) hs hW)
    have HDp := Lib.hid (fun W (hW : Below w.heap.size w W) => S.depth d t cs W (hr.grow hW) hs hW)
    have HHs := Lib.hid (fun W (hW : Below w.heap.size w W) => S.has d t cs op W (hr.grow hW) hs hop hW)
    have HCk := Lib.hid (fun W (hW : Below w.heap.size w W) => S.check d t cs tg W (hr.grow hW) hs htg hW)
    have HRk := Lib.hid (fun W (hW : Below w.heap.size w W) => checkTopRef_any d t cs tg W (hr.grow hW) hs)
    have HRh := Lib.hid (fun W (hW : Below w.heap.size w W) => hasRef_any d t cs W op (hr.grow hW) (by omega))
    obtain ⟨sz, hsz⟩ : ∃ x, x = sizeT t := ⟨_, rfl⟩
    obtain ⟨dp, hdp⟩ : ∃ x, x = depthT t := ⟨_, rfl⟩
    obtain ⟨ck, hck⟩ : ∃ x, x = chkTop t tg := ⟨_, rfl⟩
    obtain ⟨hh, hhh⟩ : ∃ x, x = hasT op t := ⟨_, rfl⟩
    rw [← hsz] at HSz ⊢
    rw [← hdp] at HDp ⊢
    rw [← hck] at HCk HRk
    rw [← hhh] at HHs HRh
    clear hsz hdp hck hhh hE3 hb4 hbw3 hr hs htg hop
    go_upto_region 6 with fail
    refine region_below (by kernel_rfl) (fun hHeld => ?_)
    refine wpAnyH_take (i := 0) (v := .agg cs) rfl (by kernel_rfl) (by kernel_rfl) (by kernel_rfl) (fun _ _ _ h => h) (yieldsEv (by rfl) (.tmp 3) rfl w.heap.size rfl cs (fun W hW => HE4.out.keep hW) hsx) hHeld ?_
    simp only [Act.put, List.getElem_toArray, List.getElem_cons_zero, List.getElem_cons_succ, List.setIfInBounds_toArray, List.set_cons_zero, List.set_cons_succ]
    refine wpAnyH_take (i := 1) (v := ?_) rfl (by kernel_rfl) (by kernel_rfl) (by kernel_rfl) (fun _ _ _ h => h) (Or.inl ⟨by rfl, ?_⟩) hHeld ?_
    rotate_left
    · (intro w hSw; go_simp; (try with_reducible rfl))
    simp only [Act.put, List.getElem_toArray, List.getElem_cons_zero, List.getElem_cons_succ, List.setIfInBounds_toArray, List.set_cons_zero, List.set_cons_succ]
    refine wpAnyH_take (i := 4) (v := .agg cs) rfl (by kernel_rfl) (by kernel_rfl) (by kernel_rfl) (fun _ _ _ h => h) (yieldsEv (by rfl) (.tmp 3) rfl w.heap.size rfl cs (fun W hW => HE4.out.keep hW) hsx) hHeld ?_
    simp only [Act.put, List.getElem_toArray, List.getElem_cons_zero, List.getElem_cons_succ, List.setIfInBounds_toArray, List.set_cons_zero, List.set_cons_succ]
    refine wpAnyH_take (i := 5) (v := ?_) rfl (by kernel_rfl) (by kernel_rfl) (by kernel_rfl) (fun _ _ _ h => h) (Or.inl ⟨by rfl, ?_⟩) hHeld ?_
    rotate_left
    · (intro w hSw; go_simp; (try with_reducible rfl))
    simp only [Act.put, List.getElem_toArray, List.getElem_cons_zero, List.getElem_cons_succ, List.setIfInBounds_toArray, List.set_cons_zero, List.set_cons_succ]
    refine wpAnyH_ready (rs := [2]) (by kernel_rfl) (by simp) ?_
    refine AllReadyH.cons rfl (fun K hK => ?_) AllReadyH.nil
    simp only [List.getElem_toArray, List.getElem_cons_zero, List.getElem_cons_succ]
    go_simp
    refine (HCk.out _ (by exact below_drewN hbw4 1)).mono ?_
    rintro e w8 ⟨rfl, hb8⟩
    go_wp2_with fail
    have hB8 := keepB hb8 hHeld
    refine hK.out _ _ hB8 (fun _ => ?_)
    clear hK K
    try simp only [Act.put, List.setIfInBounds_toArray, List.set_cons_zero, List.set_cons_succ]
    refine anyH_rebase hB8 (fun hHeld => ?_)
    have HE8 := Lib.hid (HE4.out.keep hB8)
    have hbw8 := keepB hB8 hbw4
    refine wpAnyH_ready (rs := [3]) (by kernel_rfl) (by simp) ?_
    refine AllReadyH.cons rfl (fun K hK => ?_) AllReadyH.nil
    simp only [List.getElem_toArray, List.getElem_cons_zero, List.getElem_cons_succ]
    go_simp
    refine (num_by ck _).mono ?_
    rintro e w9 ⟨rfl, rfl⟩
    go_wp2_with fail
    have hB9 := keepB (Below.refl _ _) hHeld
    refine hK.out _ _ hB9 (fun _ => ?_)
    clear hK K
    try simp only [Act.put, List.setIfInBounds_toArray, List.set_cons_zero, List.set_cons_succ]
    refine anyH_rebase hB9 (fun hHeld => ?_)
    refine wpAnyH_ready (rs := [6]) (by kernel_rfl) (by simp) ?_
    refine AllReadyH.cons rfl (fun K hK => ?_) AllReadyH.nil
    simp only [List.getElem_toArray, List.getElem_cons_zero, List.getElem_cons_succ]
    go_simp
    refine (HRk.out _ hbw8).mono ?_
    rintro e w10 ⟨rfl, hb10⟩
    go_wp2_with fail
    have hB10 := keepB hb10 hHeld
    refine hK.out _ _ hB10 (fun _ => ?_)
    clear hK K
    try simp only [Act.put, List.setIfInBounds_toArray, List.set_cons_zero, List.set_cons_succ]
    refine anyH_rebase hB10 (fun hHeld => ?_)
    have HE10 := Lib.hid (HE8.out.keep hB10)
    have hbw10 := keepB hB10 hbw8
    clear HE8 HE4 hb8 hb10
    refine wpAnyH_take (i := 7) (v := ?_) rfl (by kernel_rfl) (by kernel_rfl) (by kernel_rfl) (fun _ _ _ h => h) (Or.inl ⟨by rfl, ?_⟩) hHeld ?_
    rotate_left
    · (intro w hSw; go_simp; (try with_reducible rfl))
    simp only [Act.put, List.getElem_toArray, List.getElem_cons_zero, List.getElem_cons_succ, List.setIfInBounds_toArray, List.set_cons_zero, List.set_cons_succ]
    refine wpAnyH_take (i := 8) (v := ?_) rfl (by kernel_rfl) (by kernel_rfl) (by kernel_rfl) (fun _ _ _ h => h) (Or.inl ⟨by rfl, ?_⟩) hHeld ?_
    rotate_left
    · (intro w hSw; go_simp; (try with_reducible rfl))
    simp only [Act.put, List.getElem_toArray, List.getElem_cons_zero, List.getElem_cons_succ, List.setIfInBounds_toArray, List.set_cons_zero, List.set_cons_succ]
    refine wpAnyH_take (i := 9) (v := .agg cs) rfl (by kernel_rfl) (by kernel_rfl) (by kernel_rfl) (fun _ _ _ h => h) (yieldsEv (by rfl) (.tmp 3) rfl w.heap.size rfl cs (fun W hW => HE10.out.keep hW) hsx) hHeld ?_
    simp only [Act.put, List.getElem_toArray, List.getElem_cons_zero, List.getElem_cons_succ, List.setIfInBounds_toArray, List.set_cons_zero, List.set_cons_succ]
    refine wpAnyH_take (i := 11) (v := ?_) rfl (by kernel_rfl) (by kernel_rfl) (by kernel_rfl) (fun _ _ _ h => h) (Or.inl ⟨by rfl, ?_⟩) hHeld ?_
    rotate_left
    · (intro w hSw; go_simp; (try with_reducible rfl))
    simp only [Act.put, List.getElem_toArray, List.getElem_cons_zero, List.getElem_cons_succ, List.setIfInBounds_toArray, List.set_cons_zero, List.set_cons_succ]
    refine wpAnyH_ready (rs := [10]) (by kernel_rfl) (by simp) ?_
    refine AllReadyH.cons rfl (fun K hK => ?_) AllReadyH.nil
    simp only [List.getElem_toArray, List.getElem_cons_zero, List.getElem_cons_succ]
    go_simp
    refine (HSz.out _ hbw10).mono ?_
    rintro e w11 ⟨rfl, hb11⟩
    go_wp2_with fail
    have hB11 := keepB hb11 hHeld
    refine hK.out _ _ hB11 (fun _ => ?_)
    clear hK K
    try simp only [Act.put, List.setIfInBounds_toArray, List.set_cons_zero, List.set_cons_succ]
    refine anyH_rebase hB11 (fun hHeld => ?_)
    have HE11 := Lib.hid (HE10.out.keep hB11)
    have hbw11 := keepB hB11 hbw10
    clear hb11
    refine wpAnyH_take (i := 12) (v := ?_) rfl (by kernel_rfl) (by kernel_rfl) (by kernel_rfl) (fun _ _ _ h => h) (Or.inl ⟨by rfl, ?_⟩) hHeld ?_
    rotate_left
    · (intro w hSw; go_simp; (try with_reducible rfl))
    simp only [Act.put, List.getElem_toArray, List.getElem_cons_zero, List.getElem_cons_succ, List.setIfInBounds_toArray, List.set_cons_zero, List.set_cons_succ]
    refine wpAnyH_take (i := 13) (v := ?_) rfl (by kernel_rfl) (by kernel_rfl) (by kernel_rfl) (fun _ _ _ h => h) (Or.inl ⟨by rfl, ?_⟩) hHeld ?_
    rotate_left
    · (intro w hSw; go_simp; (try with_reducible rfl))
    simp only [Act.put, List.getElem_toArray, List.getElem_cons_zero, List.getElem_cons_succ, List.setIfInBounds_toArray, List.set_cons_zero, List.set_cons_succ]
    refine wpAnyH_take (i := 14) (v := ?_) rfl (by kernel_rfl) (by kernel_rfl) (by kernel_rfl) (fun _ _ _ h => h) (Or.inl ⟨by rfl, ?_⟩) hHeld ?_
    rotate_left
    · (intro w hSw; go_simp; (try with_reducible rfl))
    simp only [Act.put, List.getElem_toArray, List.getElem_cons_zero, List.getElem_cons_succ, List.setIfInBounds_toArray, List.set_cons_zero, List.set_cons_succ]
    refine wpAnyH_take (i := 15) (v := .agg cs) rfl (by kernel_rfl) (by kernel_rfl) (by kernel_rfl) (fun _ _ _ h => h) (yieldsEv (by rfl) (.tmp 3) rfl w.heap.size rfl cs (fun W hW => HE11.out.keep hW) hsx) hHeld ?_
    simp only [Act.put, List.getElem_toArray, List.getElem_cons_zero, List.getElem_cons_succ, List.setIfInBounds_toArray, List.set_cons_zero, List.set_cons_succ]
    refine wpAnyH_take (i := 17) (v := ?_) rfl (by kernel_rfl) (by kernel_rfl) (by kernel_rfl) (fun _ _ _ h => h) (Or.inl ⟨by rfl, ?_⟩) hHeld ?_
    rotate_left
    · (intro w hSw; go_simp; (try with_reducible rfl))
    simp only [Act.put, List.getElem_toArray, List.getElem_cons_zero, List.getElem_cons_succ, List.setIfInBounds_toArray, List.set_cons_zero, List.set_cons_succ]
    refine wpAnyH_ready (rs := [16]) (by kernel_rfl) (by simp) ?_
    refine AllReadyH.cons rfl (fun K hK => ?_) AllReadyH.nil
    simp only [List.getElem_toArray, List.getElem_cons_zero, List.getElem_cons_succ]
    go_simp
    refine (HDp.out _ hbw11).mono ?_
    rintro e w12 ⟨rfl, hb12⟩
    go_wp2_with fail
    have hB12 := keepB hb12 hHeld
    refine hK.out _ _ hB12 (fun _ => ?_)
    clear hK K
    try simp only [Act.put, List.setIfInBounds_toArray, List.set_cons_zero, List.set_cons_succ]
    refine anyH_rebase hB12 (fun hHeld => ?_)
    have HE12 := Lib.hid (HE11.out.keep hB12)
    have hbw12 := keepB hB12 hbw11
    clear hb12
    refine wpAnyH_take (i := 18) (v := ?_) rfl (by kernel_rfl) (by kernel_rfl) (by kernel_rfl) (fun _ _ _ h => h) (Or.inl ⟨by rfl, ?_⟩) hHeld ?_
    rotate_left
    · (intro w hSw; go_simp; (try with_reducible rfl))
    simp only [Act.put, List.getElem_toArray, List.getElem_cons_zero, List.getElem_cons_succ, List.setIfInBounds_toArray, List.set_cons_zero, List.set_cons_succ]
    refine wpAnyH_take (i := 19) (v := ?_) rfl (by kernel_rfl) (by kernel_rfl) (by kernel_rfl) (fun _ _ _ h => h) (Or.inl ⟨by rfl, ?_⟩) hHeld ?_
    rotate_left
    · (intro w hSw; go_simp; (try with_reducible rfl))
    simp only [Act.put, List.getElem_toArray, List.getElem_cons_zero, List.getElem_cons_succ, List.setIfInBounds_toArray, List.set_cons_zero, List.set_cons_succ]
    refine wpAnyH_take (i := 20) (v := ?_) rfl (by kernel_rfl) (by kernel_rfl) (by kernel_rfl) (fun _ _ _ h => h) (Or.inl ⟨by rfl, ?_⟩) hHeld ?_
    rotate_left
    · (intro w hSw; go_simp; (try with_reducible rfl))
    simp only [Act.put, List.getElem_toArray, List.getElem_cons_zero, List.getElem_cons_succ, List.setIfInBounds_toArray, List.set_cons_zero, List.set_cons_succ]
    refine wpAnyH_take (i := 21) (v := .agg cs) rfl (by kernel_rfl) (by kernel_rfl) (by kernel_rfl) (fun _ _ _ h => h) (yieldsEv (by rfl) (.tmp 3) rfl w.heap.size rfl cs (fun W hW => HE12.out.keep hW) hsx) hHeld ?_
    simp only [Act.put, List.getElem_toArray, List.getElem_cons_zero, List.getElem_cons_succ, List.setIfInBounds_toArray, List.set_cons_zero, List.set_cons_succ]
    refine wpAnyH_take (i := 22) (v := ?_) rfl (by kernel_rfl) (by kernel_rfl) (by kernel_rfl) (fun _ _ _ h => h) (Or.inl ⟨by rfl, ?_⟩) hHeld ?_
    rotate_left
    · (intro w hSw; go_simp; (try with_reducible rfl))
    simp only [Act.put, List.getElem_toArray, List.getElem_cons_zero, List.getElem_cons_succ, List.setIfInBounds_toArray, List.set_cons_zero, List.set_cons_succ]
    refine wpAnyH_take (i := 24) (v := .agg cs) rfl (by kernel_rfl) (by kernel_rfl) (by kernel_rfl) (fun _ _ _ h => h) (yieldsEv (by rfl) (.tmp 3) rfl w.heap.size rfl cs (fun W hW => HE12.out.keep hW) hsx) hHeld ?_
    simp only [Act.put, List.getElem_toArray, List.getElem_cons_zero, List.getElem_cons_succ, List.setIfInBounds_toArray, List.set_cons_zero, List.set_cons_succ]
    refine wpAnyH_take (i := 25) (v := ?_) rfl (by kernel_rfl) (by kernel_rfl) (by kernel_rfl) (fun _ _ _ h => h) (Or.inl ⟨by rfl, ?_⟩) hHeld ?_
    rotate_left
    · (intro w hSw; go_simp; (try with_reducible rfl))
    simp only [Act.put, List.getElem_toArray, List.getElem_cons_zero, List.getElem_cons_succ, List.setIfInBounds_toArray, List.set_cons_zero, List.set_cons_succ]
    refine wpAnyH_ready (rs := [23]) (by kernel_rfl) (by simp) ?_
    refine AllReadyH.cons rfl (fun K hK => ?_) AllReadyH.nil
    simp only [List.getElem_toArray, List.getElem_cons_zero, List.getElem_cons_succ]
    go_simp
    refine (HHs.out _ hbw12).mono ?_
    rintro e w13 ⟨rfl, hb13⟩
    go_wp2_with fail
    have hB13 := keepB hb13 hHeld
    refine hK.out _ _ hB13 (fun _ => ?_)
    clear hK K
    try simp only [Act.put, List.setIfInBounds_toArray, List.set_cons_zero, List.set_cons_succ]
    refine anyH_rebase hB13 (fun hHeld => ?_)
    have hbw13 := keepB hB13 hbw12
    clear hb13
    refine wpAnyH_ready (rs := [26]) (by kernel_rfl) (by simp) ?_
    refine AllReadyH.cons rfl (fun K hK => ?_) AllReadyH.nil
    simp only [List.getElem_toArray, List.getElem_cons_zero, List.getElem_cons_succ]
    go_simp
    refine (HRh.out _ hbw13).mono ?_
    rintro e w14 ⟨rfl, hb14⟩
    go_wp2_with fail
    have hB14 := keepB hb14 hHeld
    refine hK.out _ _ hB14 (fun _ => ?_)
    clear hK K
    try simp only [Act.put, List.setIfInBounds_toArray, List.set_cons_zero, List.set_cons_succ]
    refine anyH_rebase hB14 (fun hHeld => ?_)
    have hbw14 := keepB hB14 hbw13
    clear hb14
    refine wpAnyH_take (i := 27) (v := ?_) rfl (by kernel_rfl) (by kernel_rfl) (by kernel_rfl) (fun _ _ _ h => h) (Or.inl ⟨by rfl, ?_⟩) hHeld ?_
    rotate_left
    · (intro w hSw; go_simp; (try with_reducible rfl))
    simp only [Act.put, List.getElem_toArray, List.getElem_cons_zero, List.getElem_cons_succ, List.setIfInBounds_toArray, List.set_cons_zero, List.set_cons_succ]
    refine wpAnyH_take (i := 28) (v := ?_) rfl (by kernel_rfl) (by kernel_rfl) (by kernel_rfl) (fun _ _ _ h => h) (Or.inl ⟨by rfl, ?_⟩) hHeld ?_
    rotate_left
    · (intro w hSw; go_simp; (try with_reducible rfl))
    simp only [Act.put, List.getElem_toArray, List.getElem_cons_zero, List.getElem_cons_succ, List.setIfInBounds_toArray, List.set_cons_zero, List.set_cons_succ]
    refine wpAnyH_take (i := 29) (v := ?_) rfl (by kernel_rfl) (by kernel_rfl) (by kernel_rfl) (fun _ _ _ h => h) (Or.inl ⟨by rfl, ?_⟩) hHeld ?_
    rotate_left
    · (intro w hSw; go_simp; (try with_reducible rfl))
    simp only [Act.put, List.getElem_toArray, List.getElem_cons_zero, List.getElem_cons_succ, List.setIfInBounds_toArray, List.set_cons_zero, List.set_cons_succ]
    refine wpAnyH_done (by kernel_rfl) ?_ _
    go_wp2_with fail
    go_ret
    exact ⟨rfl, hbw14⟩
end Go.Proofs.Ytjijnapphbeahaa
