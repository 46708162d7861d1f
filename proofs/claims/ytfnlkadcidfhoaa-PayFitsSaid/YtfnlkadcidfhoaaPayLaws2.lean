/- Layer 5: the laws' walks: PayPays, PayWays. -/
import Derived.Test.YtfnlkadcidfhoaaPayLaws
namespace Go.Proofs.Ytfnlkadcidfhoaa
open Go.RowKit Mx Yx
attribute [local go_sem] arr_get
theorem bool_iff {a b : Bool} {p : Prop} (h : a = true ↔ p) (h' : b = true ↔ p) : a = b := by
  rw [Bool.eq_iff_iff, h, h']
theorem two_boxes (w : World) (p c : Nat → Int) : ∃ w1, w1 = (w.alloc (.cells (arr .i64 6 p) 23)).alloc (.cells (arr .i64 6 c) 23) ∧ ArrAt .i64 6 23 w1 w.heap.size p ∧ ArrAt .i64 6 23 w1 (w.heap.size + 1) c ∧ Below w.heap.size w w1 := by
  refine ⟨_, rfl, (ArrAt.new w .i64 6 23 p).alloc _, ?_, ((Below.refl _ _).alloc (Nat.le_refl _) _).alloc (by simp) _⟩
  have h := ArrAt.new (w.alloc (.cells (arr .i64 6 p) 23)) .i64 6 23 c
  simpa using h
set_option linter.unusedSimpArgs false in
set_option maxRecDepth 100000 in
set_option maxHeartbeats 1000000 in
theorem payPays_walk {w : World} (S : PaySaid w) (p c : Nat → Int) (hp : Wide p) (hc : Wide c) : Calls Try.prog 3 #[.agg (arr .i64 6 p), .agg (arr .i64 6 c)] w fun e w' => e = .returned (.bool true) ∧ Below w.heap.size w w' := by
  have hsz : ∀ g, (Try.prog.info? 23).map (·.size) = some (arr .i64 6 g).size := fun g => by rw [arr_size]; exact size6
  have h1 : ∀ g, (arr .i64 6 g).all (·.oneCell') = true := fun g => arr_one .i64 6 g
  have hz6 := zero6
  go_enter Try.func3, Try.ntmps3
  go_upto_region 1 with fail
  obtain ⟨w1, hw1, a1, a2, hb1⟩ := two_boxes w p c
  rw [← hw1]
  clear hw1
  go_wp2_with fail
  refine (payAlive S _ hb1).mono ?_
  rintro e w2 ⟨rfl, hb2⟩
  have a1 := a1.keep hb2
  have a2 := a2.keep hb2
  have hbw2 := keepB hb2 hb1
  clear hb2 hb1
  go_wp2_with (first
    | (refine wpList_load_row rfl 23 (.tmp 2) rfl w.heap.size rfl 23 _ (0, 0) _ a1 Try.underlying23 rfl (hsz p) ?_)
    | (refine wpList_load_row rfl 23 (.tmp 3) rfl (w.heap.size + 1) rfl 23 _ (0, 0) _ a2 Try.underlying23 rfl (hsz c) ?_))
  refine (S.pay p c _ hp hc hbw2).mono ?_
  rintro e w3 ⟨r, q, k, hR, rfl, hb3⟩
  have a1 := a1.keep hb3
  have a2 := a2.keep hb3
  have hbw3 := keepB hb3 hbw2
  clear hb3 hbw2
  have ta := two_a w3
  have tb := two_b w3 r
  go_upto_region 4 with (first
    | (refine wpList_store_row rfl 23 (.tmp 5) (.tmp 17) rfl w3.heap.size _ rfl rfl 23 (arr .i64 6 zeroC) ta (hsz r) (by rw [arr_size, arr_size]) (h1 r) ?_)
    | (refine wpList_store_row rfl 23 (.tmp 6) (.tmp 18) rfl (w3.heap.size + 1) _ rfl rfl 23 (arr .i64 6 zeroC) tb (hsz q) (by rw [arr_size, arr_size]) (h1 q) ?_))
  obtain ⟨w4, hw4⟩ : ∃ w4, w4 = two w3 r q := ⟨_, rfl⟩
  have hr4 : ArrAt .i64 6 23 w4 w3.heap.size r := by rw [hw4]; exact two_r _ _ _
  have hq4 : ArrAt .i64 6 23 w4 (w3.heap.size + 1) q := by rw [hw4]; exact two_p _ _ _
  have hb4 : Below w3.heap.size w3 w4 := by rw [hw4]; exact two_below _ _ _
  have a1 := a1.keep hb4
  have a2 := a2.keep hb4
  have hbw4 := keepB hb4 hbw3
  unfold two at hw4
  rw [← hw4]
  clear hw4 ta tb hb4 hbw3
  go_wp2_with (first
    | (refine wpList_load_row rfl 23 (.tmp 2) rfl w.heap.size rfl 23 _ (0, 0) _ a1 Try.underlying23 rfl (hsz p) ?_)
    | (refine wpList_load_row rfl 23 (.tmp 3) rfl (w.heap.size + 1) rfl 23 _ (0, 0) _ a2 Try.underlying23 rfl (hsz c) ?_))
  refine (payRef_any p c _ hp hc).mono ?_
  rintro e w5 ⟨r', q', k', hR', rfl, hb5⟩
  obtain ⟨hrr, hqq, rfl⟩ := payR_one hR hR'
  have a1 := a1.keep hb5
  have a2 := a2.keep hb5
  have hr5 := hr4.keep hb5
  have hq5 := hq4.keep hb5
  have hbw5 := keepB hb5 hbw4
  clear hb5 hbw4 hR hR' hr4 hq4
  have ta := two_a w5
  have tb := two_b w5 r'
  go_upto_region 5 with (first
    | (refine wpList_store_row rfl 23 (.tmp 8) (.tmp 24) rfl w5.heap.size _ rfl rfl 23 (arr .i64 6 zeroC) ta (hsz r') (by rw [arr_size, arr_size]) (h1 r') ?_)
    | (refine wpList_store_row rfl 23 (.tmp 9) (.tmp 25) rfl (w5.heap.size + 1) _ rfl rfl 23 (arr .i64 6 zeroC) tb (hsz q') (by rw [arr_size, arr_size]) (h1 q') ?_))
  obtain ⟨w6, hw6⟩ : ∃ w6, w6 = two w5 r' q' := ⟨_, rfl⟩
  have hr6' : ArrAt .i64 6 23 w6 w5.heap.size r' := by rw [hw6]; exact two_r _ _ _
  have hq6' : ArrAt .i64 6 23 w6 (w5.heap.size + 1) q' := by rw [hw6]; exact two_p _ _ _
  have hb6 : Below w5.heap.size w5 w6 := by rw [hw6]; exact two_below _ _ _
  have HA1 := Lib.hid (a1.keep hb6)
  have HA2 := Lib.hid (a2.keep hb6)
  have HR := Lib.hid (hr5.keep hb6)
  have HQ := Lib.hid (hq5.keep hb6)
  have HR' := Lib.hid hr6'
  have HQ' := Lib.hid hq6'
  have hbw6 := keepB hb6 hbw5
  unfold two at hw6
  rw [← hw6]
  clear hw6 ta tb hb6 hbw5 a1 a2 hr5 hq5 hr6' hq6'
  have e1 := eqC r r' hrr
  have e2 := eqC q q' hqq
  have HCan := Lib.hid (fun W hW => can_both (S.can p c W hp hc hW))
  have HCanR := Lib.hid (fun W => can_both (canRef_any p c W hp hc))
  refine region_below (by kernel_rfl) (fun hHeld => ?_)
  refine wpAnyH_take (i := 0) (v := .agg (arr .i64 6 r)) rfl (by kernel_rfl) (by kernel_rfl) (by kernel_rfl) (fun _ _ _ h => h) (yieldsIf_load (by rfl) 23 (.tmp 5) rfl w3.heap.size rfl (fun W hW => HR.out.keep hW) Try.underlying23 size6) hHeld ?_
  simp only [Act.put, List.getElem_toArray, List.getElem_cons_zero, List.getElem_cons_succ, List.setIfInBounds_toArray, List.set_cons_zero, List.set_cons_succ]
  refine wpAnyH_take (i := 1) (v := .agg (arr .i64 6 r')) rfl (by kernel_rfl) (by kernel_rfl) (by kernel_rfl) (fun _ _ _ h => h) (yieldsIf_load (by rfl) 23 (.tmp 8) rfl w5.heap.size rfl (fun W hW => HR'.out.keep hW) Try.underlying23 size6) hHeld ?_
  simp only [Act.put, List.getElem_toArray, List.getElem_cons_zero, List.getElem_cons_succ, List.setIfInBounds_toArray, List.set_cons_zero, List.set_cons_succ]
  refine wpAnyH_take (i := 2) (v := ?_) rfl (by kernel_rfl) (by kernel_rfl) (by kernel_rfl) (fun _ _ _ h => h) (Or.inl ⟨by rfl, ?_⟩) hHeld ?_
  rotate_left
  · (intro w hSw; go_simp; (try with_reducible rfl))
  simp only [Act.put, List.getElem_toArray, List.getElem_cons_zero, List.getElem_cons_succ, List.setIfInBounds_toArray, List.set_cons_zero, List.set_cons_succ]
  refine wpAnyH_take (i := 3) (v := ?_) rfl (by kernel_rfl) (by kernel_rfl) (by kernel_rfl) (fun _ _ _ h => h) (Or.inl ⟨by rfl, ?_⟩) hHeld ?_
  rotate_left
  · (intro w hSw; go_simp; (try with_reducible rfl))
  simp only [Act.put, List.getElem_toArray, List.getElem_cons_zero, List.getElem_cons_succ, List.setIfInBounds_toArray, List.set_cons_zero, List.set_cons_succ]
  refine wpAnyH_take (i := 4) (v := .agg (arr .i64 6 q)) rfl (by kernel_rfl) (by kernel_rfl) (by kernel_rfl) (fun _ _ _ h => h) (yieldsIf_load (by rfl) 23 (.tmp 6) rfl (w3.heap.size + 1) rfl (fun W hW => HQ.out.keep hW) Try.underlying23 size6) hHeld ?_
  simp only [Act.put, List.getElem_toArray, List.getElem_cons_zero, List.getElem_cons_succ, List.setIfInBounds_toArray, List.set_cons_zero, List.set_cons_succ]
  refine wpAnyH_take (i := 5) (v := .agg (arr .i64 6 q')) rfl (by kernel_rfl) (by kernel_rfl) (by kernel_rfl) (fun _ _ _ h => h) (yieldsIf_load (by rfl) 23 (.tmp 9) rfl (w5.heap.size + 1) rfl (fun W hW => HQ'.out.keep hW) Try.underlying23 size6) hHeld ?_
  simp only [Act.put, List.getElem_toArray, List.getElem_cons_zero, List.getElem_cons_succ, List.setIfInBounds_toArray, List.set_cons_zero, List.set_cons_succ]
  refine wpAnyH_take (i := 6) (v := ?_) rfl (by kernel_rfl) (by kernel_rfl) (by kernel_rfl) (fun _ _ _ h => h) (Or.inl ⟨by rfl, ?_⟩) hHeld ?_
  rotate_left
  · (intro w hSw; go_simp; (try with_reducible rfl))
  simp only [Act.put, List.getElem_toArray, List.getElem_cons_zero, List.getElem_cons_succ, List.setIfInBounds_toArray, List.set_cons_zero, List.set_cons_succ]
  refine wpAnyH_take (i := 7) (v := ?_) rfl (by kernel_rfl) (by kernel_rfl) (by kernel_rfl) (fun _ _ _ h => h) (Or.inl ⟨by rfl, ?_⟩) hHeld ?_
  rotate_left
  · (intro w hSw; go_simp; (try with_reducible rfl))
  simp only [Act.put, List.getElem_toArray, List.getElem_cons_zero, List.getElem_cons_succ, List.setIfInBounds_toArray, List.set_cons_zero, List.set_cons_succ]
  refine wpAnyH_take (i := 8) (v := ?_) rfl (by kernel_rfl) (by kernel_rfl) (by kernel_rfl) (fun _ _ _ h => h) (Or.inl ⟨by rfl, ?_⟩) hHeld ?_
  rotate_left
  · (intro w hSw; go_simp; (try with_reducible rfl))
  simp only [Act.put, List.getElem_toArray, List.getElem_cons_zero, List.getElem_cons_succ, List.setIfInBounds_toArray, List.set_cons_zero, List.set_cons_succ]
  refine wpAnyH_take (i := 9) (v := ?_) rfl (by kernel_rfl) (by kernel_rfl) (by kernel_rfl) (fun _ _ _ h => h) (Or.inl ⟨by rfl, ?_⟩) hHeld ?_
  rotate_left
  · (intro w hSw; go_simp; (try with_reducible rfl))
  simp only [Act.put, List.getElem_toArray, List.getElem_cons_zero, List.getElem_cons_succ, List.setIfInBounds_toArray, List.set_cons_zero, List.set_cons_succ]
  refine wpAnyH_take (i := 11) (v := ?_) rfl (by kernel_rfl) (by kernel_rfl) (by kernel_rfl) (fun _ _ _ h => h) (Or.inl ⟨by rfl, ?_⟩) hHeld ?_
  rotate_left
  · (intro w hSw; go_simp; (try with_reducible rfl))
  simp only [Act.put, List.getElem_toArray, List.getElem_cons_zero, List.getElem_cons_succ, List.setIfInBounds_toArray, List.set_cons_zero, List.set_cons_succ]
  refine wpAnyH_ready (rs := [10]) (by kernel_rfl) (by simp) ?_
  refine AllReadyH.cons rfl (fun K hK => ?_) AllReadyH.nil
  simp only [List.getElem_toArray, List.getElem_cons_zero, List.getElem_cons_succ]
  go_simp
  refine (num_by k _).mono ?_
  rintro e w7 ⟨rfl, hb7⟩
  have hb7 : Below w6.drew.heap.size w6.drew w7 := by rw [← hb7]; exact Below.refl _ _
  go_wp2_with fail
  have hB7 := keepB hb7 hHeld
  refine hK.out _ _ hB7 (fun _ => ?_)
  clear hK K
  try simp only [Act.put, List.setIfInBounds_toArray, List.set_cons_zero, List.set_cons_succ]
  refine anyH_rebase hB7 (fun hHeld => ?_)
  refine wpAnyH_take (i := 12) (v := ?_) rfl (by kernel_rfl) (by kernel_rfl) (by kernel_rfl) (fun _ _ _ h => h) (Or.inl ⟨by rfl, ?_⟩) hHeld ?_
  rotate_left
  · (intro w hSw; go_simp; (try with_reducible rfl))
  simp only [Act.put, List.getElem_toArray, List.getElem_cons_zero, List.getElem_cons_succ, List.setIfInBounds_toArray, List.set_cons_zero, List.set_cons_succ]
  refine wpAnyH_take (i := 13) (v := ?_) rfl (by kernel_rfl) (by kernel_rfl) (by kernel_rfl) (fun _ _ _ h => h) (Or.inl ⟨by rfl, ?_⟩) hHeld ?_
  rotate_left
  · (intro w hSw; go_simp; (try with_reducible rfl))
  simp only [Act.put, List.getElem_toArray, List.getElem_cons_zero, List.getElem_cons_succ, List.setIfInBounds_toArray, List.set_cons_zero, List.set_cons_succ]
  refine wpAnyH_take (i := 14) (v := ?_) rfl (by kernel_rfl) (by kernel_rfl) (by kernel_rfl) (fun _ _ _ h => h) (Or.inl ⟨by rfl, ?_⟩) hHeld ?_
  rotate_left
  · (intro w hSw; go_simp; (try with_reducible rfl))
  simp only [Act.put, List.getElem_toArray, List.getElem_cons_zero, List.getElem_cons_succ, List.setIfInBounds_toArray, List.set_cons_zero, List.set_cons_succ]
  refine wpAnyH_take (i := 15) (v := .agg (arr .i64 6 p)) rfl (by kernel_rfl) (by kernel_rfl) (by kernel_rfl) (fun _ _ _ h => h) (yieldsIf_load (by rfl) 23 (.tmp 2) rfl w.heap.size rfl (fun W hW => (HA1.out.keep hB7).keep hW) Try.underlying23 size6) hHeld ?_
  simp only [Act.put, List.getElem_toArray, List.getElem_cons_zero, List.getElem_cons_succ, List.setIfInBounds_toArray, List.set_cons_zero, List.set_cons_succ]
  refine wpAnyH_take (i := 16) (v := .agg (arr .i64 6 c)) rfl (by kernel_rfl) (by kernel_rfl) (by kernel_rfl) (fun _ _ _ h => h) (yieldsIf_load (by rfl) 23 (.tmp 3) rfl (w.heap.size + 1) rfl (fun W hW => (HA2.out.keep hB7).keep hW) Try.underlying23 size6) hHeld ?_
  simp only [Act.put, List.getElem_toArray, List.getElem_cons_zero, List.getElem_cons_succ, List.setIfInBounds_toArray, List.set_cons_zero, List.set_cons_succ]
  refine wpAnyH_take (i := 18) (v := .agg (arr .i64 6 p)) rfl (by kernel_rfl) (by kernel_rfl) (by kernel_rfl) (fun _ _ _ h => h) (yieldsIf_load (by rfl) 23 (.tmp 2) rfl w.heap.size rfl (fun W hW => (HA1.out.keep hB7).keep hW) Try.underlying23 size6) hHeld ?_
  simp only [Act.put, List.getElem_toArray, List.getElem_cons_zero, List.getElem_cons_succ, List.setIfInBounds_toArray, List.set_cons_zero, List.set_cons_succ]
  refine wpAnyH_take (i := 19) (v := .agg (arr .i64 6 c)) rfl (by kernel_rfl) (by kernel_rfl) (by kernel_rfl) (fun _ _ _ h => h) (yieldsIf_load (by rfl) 23 (.tmp 3) rfl (w.heap.size + 1) rfl (fun W hW => (HA2.out.keep hB7).keep hW) Try.underlying23 size6) hHeld ?_
  simp only [Act.put, List.getElem_toArray, List.getElem_cons_zero, List.getElem_cons_succ, List.setIfInBounds_toArray, List.set_cons_zero, List.set_cons_succ]
  refine wpAnyH_ready (rs := [17]) (by kernel_rfl) (by simp) ?_
  refine AllReadyH.cons rfl (fun K hK => ?_) AllReadyH.nil
  simp only [List.getElem_toArray, List.getElem_cons_zero, List.getElem_cons_succ]
  go_simp
  obtain ⟨B, hB, hC⟩ := HCan.out _ (keepB hB7 hbw6)
  refine hC.mono ?_
  rintro e w8 ⟨rfl, hb8⟩
  go_wp2_with fail
  have hB8 := keepB hb8 hHeld
  refine hK.out _ _ hB8 (fun _ => ?_)
  clear hK K
  try simp only [Act.put, List.setIfInBounds_toArray, List.set_cons_zero, List.set_cons_succ]
  refine anyH_rebase hB8 (fun hHeld => ?_)
  refine wpAnyH_ready (rs := [20]) (by kernel_rfl) (by simp) ?_
  refine AllReadyH.cons rfl (fun K hK => ?_) AllReadyH.nil
  simp only [List.getElem_toArray, List.getElem_cons_zero, List.getElem_cons_succ]
  go_simp
  obtain ⟨B', hB', hC'⟩ := HCanR.out w8
  obtain rfl := bool_iff hB hB'
  refine hC'.mono ?_
  rintro e w9 ⟨rfl, hb9⟩
  go_wp2_with fail
  have hB9 := keepB hb9 hHeld
  refine hK.out _ _ hB9 (fun _ => ?_)
  clear hK K
  try simp only [Act.put, List.setIfInBounds_toArray, List.set_cons_zero, List.set_cons_succ]
  refine anyH_rebase hB9 (fun hHeld => ?_)
  refine wpAnyH_take (i := 21) (v := ?_) rfl (by kernel_rfl) (by kernel_rfl) (by kernel_rfl) (fun _ _ _ h => h) (Or.inl ⟨by rfl, ?_⟩) hHeld ?_
  rotate_left
  · (intro w hSw; go_simp; (try with_reducible rfl))
  simp only [Act.put, List.getElem_toArray, List.getElem_cons_zero, List.getElem_cons_succ, List.setIfInBounds_toArray, List.set_cons_zero, List.set_cons_succ]
  refine wpAnyH_take (i := 22) (v := ?_) rfl (by kernel_rfl) (by kernel_rfl) (by kernel_rfl) (fun _ _ _ h => h) (Or.inl ⟨by rfl, ?_⟩) hHeld ?_
  rotate_left
  · (intro w hSw; go_simp; (try with_reducible rfl))
  simp only [Act.put, List.getElem_toArray, List.getElem_cons_zero, List.getElem_cons_succ, List.setIfInBounds_toArray, List.set_cons_zero, List.set_cons_succ]
  refine wpAnyH_take (i := 23) (v := ?_) rfl (by kernel_rfl) (by kernel_rfl) (by kernel_rfl) (fun _ _ _ h => h) (Or.inl ⟨by rfl, ?_⟩) hHeld ?_
  rotate_left
  · (intro w hSw; go_simp; (try with_reducible rfl))
  simp only [Act.put, List.getElem_toArray, List.getElem_cons_zero, List.getElem_cons_succ, List.setIfInBounds_toArray, List.set_cons_zero, List.set_cons_succ]
  refine wpAnyH_done (by kernel_rfl) ?_ _
  go_wp2_with fail
  go_ret
  exact ⟨by simp, keepB hB9 (keepB hB8 (keepB hB7 hbw6))⟩
set_option maxRecDepth 100000 in
theorem payWays_walk {w : World} (S : PaySaid w) (p c : Nat → Int) (hp : Wide p) (hc : Wide c) : Calls Try.prog 4 #[.agg (arr .i64 6 p), .agg (arr .i64 6 c)] w fun e w' => e = .returned (.bool true) ∧ Below w.heap.size w w' := by
  have hsz : ∀ g, (Try.prog.info? 23).map (·.size) = some (arr .i64 6 g).size := fun g => by rw [arr_size]; exact size6
  go_enter Try.func4, Try.ntmps4
  go_upto_region 1 with fail
  obtain ⟨w1, hw1, a1, a2, hb1⟩ := two_boxes w p c
  rw [← hw1]
  clear hw1
  go_wp2_with fail
  refine (payAlive S _ hb1).mono ?_
  rintro e w2 ⟨rfl, hb2⟩
  have a1 := a1.keep hb2
  have a2 := a2.keep hb2
  have hbw2 := keepB hb2 hb1
  clear hb2 hb1
  go_wp2_with (first
    | (refine wpList_load_row rfl 23 (.tmp 2) rfl w.heap.size rfl 23 _ (0, 0) _ a1 Try.underlying23 rfl (hsz p) ?_)
    | (refine wpList_load_row rfl 23 (.tmp 3) rfl (w.heap.size + 1) rfl 23 _ (0, 0) _ a2 Try.underlying23 rfl (hsz c) ?_))
  refine (S.ways p c _ hp hc hbw2).mono ?_
  rintro e w3 ⟨n, k, hR, rfl, hb3⟩
  have a1 := a1.keep hb3
  have a2 := a2.keep hb3
  have hbw3 := keepB hb3 hbw2
  clear hb3 hbw2
  go_wp2_with (first
    | (refine wpList_load_row rfl 23 (.tmp 2) rfl w.heap.size rfl 23 _ (0, 0) _ a1 Try.underlying23 rfl (hsz p) ?_)
    | (refine wpList_load_row rfl 23 (.tmp 3) rfl (w.heap.size + 1) rfl 23 _ (0, 0) _ a2 Try.underlying23 rfl (hsz c) ?_))
  refine (waysRef_any p c _ hp hc).mono ?_
  rintro e w4 ⟨n', k', hR', rfl, hb4⟩
  obtain ⟨rfl, rfl⟩ := waysR_one hR hR'
  have hbw4 := keepB hb4 hbw3
  clear hb4 hbw3 hR hR' a1 a2
  go_wp2_with fail
  refine (num_by k _).mono ?_
  rintro e w5 ⟨rfl, rfl⟩
  go_wp2_with fail
  go_ret
  exact ⟨by simp, hbw4⟩
end Go.Proofs.Ytfnlkadcidfhoaa
