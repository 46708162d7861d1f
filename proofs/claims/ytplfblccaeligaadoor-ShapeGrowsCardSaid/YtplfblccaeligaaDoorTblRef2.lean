/- Layer 8: the reference's ability of a row. -/
import Derived.Test.YtplfblccaeligaaDoorTblRef1
namespace Go.Proofs.YtplfblccaeligaaDoor
open Go.RowKit Ex Mx
namespace Ex
/-- The ability of a row. -/
def abL (row : List Int) : AbT := ⟨row.getD 0 0, if 0 ≤ row.getD 1 0 then updI noC (row.getD 1 0).toNat 1 else noC, row.getD 2 0 == 1, row.getD 3 0, effL (row.drop 4)⟩
end Ex
theorem arr_get_lit {j : Nat} (hj : j < 6) : (arr .i64 6 noC)[j]? = some (.int .i64 0) := by
  rw [arr6]
  match j, hj with
  | 0, _ => rfl
  | 1, _ => rfl
  | 2, _ => rfl
  | 3, _ => rfl
  | 4, _ => rfl
  | 5, _ => rfl
theorem wide_one {j : Nat} : Wide (updI noC j 1) := fun i _ => by unfold updI noC; split <;> simp
theorem wide_no : Wide noC := fun i _ => by simp [noC]
theorem ab_cost_set (a : AbT) (xs : Array Value) (j : Nat) (hj : j < 6) (v : Int) (hx : xs.size = 5) : (abC a xs).setIfInBounds (1 + j) (.int .i64 v) = abC { a with cost := updI a.cost j v } xs := by
  obtain ⟨l⟩ := xs
  match l, hx with
  | [x0, x1, x2, x3, x4], _ =>
    rw [abC14, abC14]
    match j, hj with
    | 0, _ => simp [updI]
    | 1, _ => simp [updI]
    | 2, _ => simp [updI]
    | 3, _ => simp [updI]
    | 4, _ => simp [updI]
    | 5, _ => simp [updI]
/-- What ability answers, in blocks of its own. -/
def AbQ (row : List Int) (w : World) (e : Ending) (w' : World) : Prop := ∃ cs, e = .returned (.agg cs) ∧ ReadsAQ (fun b => w.heap.size ≤ b ∧ b < w'.heap.size) w' 2 cs (abL row) ∧ Below w.heap.size w w'
set_option linter.unusedSimpArgs false in
set_option maxRecDepth 100000 in
set_option maxHeartbeats 2000000 in
theorem abilityRef_any (row : List Int) (b f n c m : Nat) (w : World) (hN : Nums .i64 w w.heap.size (some ⟨b, f, none⟩) n row) (hnc : n ≤ c) (hm : row.length = 4 * m + 8) (hm1 : m ≤ 100) (hin : ∀ (i : Nat), In64 (row.getD i 0)) (hcol : row.getD 1 0 < 6) :
    Calls Tryd.prog 38 #[.slice (some ⟨b, f, none⟩) n c] w (AbQ row w) := by
  have hln := hN.len
  have cellAt : ∀ i, i < n → ∀ W, Below w.heap.size w W → W.cell? ⟨b, f + i, none⟩ = some (.int .i64 (row.getD i 0)) := fun i hi W hW => by
    obtain ⟨a', e, hb, hc⟩ := hN.at_ (i := i) (by omega)
    injection e with e
    subst e
    rw [List.getD_eq_getElem?_getD, List.getElem?_eq_getElem (by omega)]
    have := (hW.cell (by rw [addr_block]; exact hb)).trans hc
    rw [Addr.add_mid] at this
    exact this
  have hcut : Nums .i64 w w.heap.size (some ⟨b, f + 4, none⟩) (n - 4) (row.drop 4) := ⟨by rw [List.length_drop]; omega, fun i u hu => by
    rw [List.getElem?_drop] at hu
    obtain ⟨a', e, hb, hc⟩ := hN.2 _ _ hu
    injection e with e
    subst e
    exact ⟨_, rfl, hb, by rw [Addr.add_mid] at hc ⊢; rw [Nat.add_assoc]; exact hc⟩⟩
  have HC := Lib.hid cellAt
  have HIn := Lib.hid hin
  have HCut := Lib.hid hcut
  clear cellAt hin hN hcut
  go_enter Tryd.func38, Tryd.ntmps38
  go_upto_region 1 with fail
  obtain ⟨w1, hw1⟩ : ∃ w1, w1 = w.alloc (.cells zeroA 79) := ⟨_, rfl⟩
  have hZ : AbAt w1 w.heap.size zeroA := by rw [hw1]; exact AbAt.new _ _
  have hb1 : Below w.heap.size w w1 := by rw [hw1]; exact (Below.refl _ _).alloc (Nat.le_refl _) _
  rw [← hw1]
  clear hw1
  obtain ⟨wh, hwh⟩ : ∃ o, o = row.getD 0 0 := ⟨_, rfl⟩
  obtain ⟨cl, hcl⟩ : ∃ o, o = row.getD 1 0 := ⟨_, rfl⟩
  obtain ⟨tp, htp⟩ : ∃ o, o = row.getD 2 0 := ⟨_, rfl⟩
  obtain ⟨tg, htg⟩ : ∃ o, o = row.getD 3 0 := ⟨_, rfl⟩
  have HA := Lib.hid (show abL row = ⟨wh, if 0 ≤ cl then updI noC cl.toNat 1 else noC, tp == 1, tg, effL (row.drop 4)⟩ by unfold abL; rw [hwh, hcl, htp, htg])
  obtain ⟨T, hT⟩ : ∃ T, T = effL (row.drop 4) := ⟨_, rfl⟩
  rw [← hT] at HA
  have HI := Lib.hid (show In64 wh ∧ In64 tg by rw [hwh, htg]; exact ⟨HIn.out _, HIn.out _⟩)
  have HEf := Lib.hid (fun W (hW : Below w.heap.size w W) => effectRef_any (row.drop 4) b (f + 4) (n - 4) (c - 4) m W ((HCut.out.below hW).more hW.size) (by rw [List.length_drop]; omega) hm1 (fun i => by
    have := HIn.out (4 + i)
    rw [List.getD_eq_getElem?_getD] at this ⊢
    rw [List.getElem?_drop]; exact this))
  have r0 : ∀ W, Below w1.heap.size w1 W → W.cell? ⟨b, f, none⟩ = some (.int .i64 wh) := fun W hW => by have h := HC.out 0 (by omega) W (keepB hW hb1); rw [← hwh] at h; exact h
  have R1 := Lib.hid (show ∀ W, Below w.heap.size w W → W.cell? ⟨b, f + 1, none⟩ = some (.int .i64 cl) from fun W hW => by have h := HC.out 1 (by omega) W hW; rw [← hcl] at h; exact h)
  have r2 : ∀ W, Below w1.heap.size w1 W → W.cell? ⟨b, f + 2, none⟩ = some (.int .i64 tp) := fun W hW => by have h := HC.out 2 (by omega) W (keepB hW hb1); rw [← htp] at h; exact h
  have r3 : ∀ W, Below w1.heap.size w1 W → W.cell? ⟨b, f + 3, none⟩ = some (.int .i64 tg) := fun W hW => by have h := HC.out 3 (by omega) W (keepB hW hb1); rw [← htg] at h; exact h
  rw [← hcl] at hcol
  have HT := Lib.hid hT
  clear hwh hcl htp htg hT
  have l0 : 0 < n := by omega
  have l2 : (2 : Int) < (n : Int) := by omega
  have l3 : (3 : Int) < (n : Int) := by omega
  have n4 : (4 : Int) ≤ (n : Int) := by omega
  have c4 : ¬ c = 4 := by omega
  refine region_below (by kernel_rfl) (fun hHeld => ?_)
  refine wpAnyH_take (i := 0) (v := ?_) rfl (by kernel_rfl) (by kernel_rfl) (by kernel_rfl) (fun _ _ _ h => h) (Or.inl ⟨by rfl, ?_⟩) hHeld ?_
  rotate_left
  · (intro w hSw; go_simp; (try with_reducible rfl))
  simp only [Act.put, List.getElem_toArray, List.getElem_cons_zero, List.getElem_cons_succ, List.setIfInBounds_toArray, List.set_cons_zero, List.set_cons_succ]
  refine wpAnyH_take (i := 1) (v := ?_) rfl (by kernel_rfl) (by kernel_rfl) (by kernel_rfl) (fun _ _ _ h => h) (Or.inl ⟨by rfl, ?_⟩) hHeld ?_
  rotate_left
  · (intro w hSw; go_simp; (try with_reducible rfl))
  simp only [Act.put, List.getElem_toArray, List.getElem_cons_zero, List.getElem_cons_succ, List.setIfInBounds_toArray, List.set_cons_zero, List.set_cons_succ]
  refine wpAnyH_take (i := 2) (v := ?_) rfl (by kernel_rfl) (by kernel_rfl) (by kernel_rfl) (fun _ _ _ h => h) (Or.inl ⟨by rfl, ?_⟩) hHeld ?_
  rotate_left
  · (intro w hSw; go_simp; (try with_reducible rfl))
  simp only [Act.put, List.getElem_toArray, List.getElem_cons_zero, List.getElem_cons_succ, List.setIfInBounds_toArray, List.set_cons_zero, List.set_cons_succ]
  refine wpAnyH_take (i := 3) (v := ?_) rfl (by kernel_rfl) (by kernel_rfl) (by kernel_rfl) (fun _ _ _ h => h) (Or.inl ⟨by rfl, ?_⟩) hHeld ?_
  rotate_left
  · (intro w hSw; go_simp; (try with_reducible rfl))
  simp only [Act.put, List.getElem_toArray, List.getElem_cons_zero, List.getElem_cons_succ, List.setIfInBounds_toArray, List.set_cons_zero, List.set_cons_succ]
  refine wpAnyH_take (i := 4) (v := ?_) rfl (by kernel_rfl) (by kernel_rfl) (by kernel_rfl) (fun _ _ _ h => h) (Or.inl ⟨by rfl, ?_⟩) hHeld ?_
  rotate_left
  · (intro w hSw; go_simp; (try with_reducible rfl))
  simp only [Act.put, List.getElem_toArray, List.getElem_cons_zero, List.getElem_cons_succ, List.setIfInBounds_toArray, List.set_cons_zero, List.set_cons_succ]
  refine wpAnyH_take (i := 5) (v := ?_) rfl (by kernel_rfl) (by kernel_rfl) (by kernel_rfl) (fun _ _ _ h => h) (Or.inl ⟨by rfl, ?_⟩) hHeld ?_
  rotate_left
  · (intro w hSw; go_simp; (try with_reducible rfl))
  simp only [Act.put, List.getElem_toArray, List.getElem_cons_zero, List.getElem_cons_succ, List.setIfInBounds_toArray, List.set_cons_zero, List.set_cons_succ]
  refine wpAnyH_take (i := 6) (v := ?_) rfl (by kernel_rfl) (by kernel_rfl) (by kernel_rfl) (fun _ _ _ h => h) (Or.inl ⟨by rfl, ?_⟩) hHeld ?_
  rotate_left
  · (intro w hSw; go_simp; (try with_reducible rfl))
  simp only [Act.put, List.getElem_toArray, List.getElem_cons_zero, List.getElem_cons_succ, List.setIfInBounds_toArray, List.set_cons_zero, List.set_cons_succ]
  refine wpAnyH_take (i := 7) (v := ?_) rfl (by kernel_rfl) (by kernel_rfl) (by kernel_rfl) (fun _ _ _ h => h) (Or.inl ⟨by rfl, ?_⟩) hHeld ?_
  rotate_left
  · (intro w hSw; go_simp; (try with_reducible rfl))
  simp only [Act.put, List.getElem_toArray, List.getElem_cons_zero, List.getElem_cons_succ, List.setIfInBounds_toArray, List.set_cons_zero, List.set_cons_succ]
  refine wpAnyH_take (i := 8) (v := ?_) rfl (by kernel_rfl) (by kernel_rfl) (by kernel_rfl) (fun _ _ _ h => h) (Or.inl ⟨by rfl, ?_⟩) hHeld ?_
  rotate_left
  · (intro w hSw; go_simp; (try with_reducible rfl))
  simp only [Act.put, List.getElem_toArray, List.getElem_cons_zero, List.getElem_cons_succ, List.setIfInBounds_toArray, List.set_cons_zero, List.set_cons_succ]
  refine wpAnyH_take (i := 9) (v := ?_) rfl (by kernel_rfl) (by kernel_rfl) (by kernel_rfl) (fun _ _ _ h => h) (Or.inl ⟨by rfl, ?_⟩) hHeld ?_
  rotate_left
  · (intro w hSw; go_simp; (try with_reducible rfl))
  simp only [Act.put, List.getElem_toArray, List.getElem_cons_zero, List.getElem_cons_succ, List.setIfInBounds_toArray, List.set_cons_zero, List.set_cons_succ]
  refine wpAnyH_take (i := 10) (v := ?_) rfl (by kernel_rfl) (by kernel_rfl) (by kernel_rfl) (fun _ _ _ h => h) (Or.inl ⟨by rfl, ?_⟩) hHeld ?_
  rotate_left
  · (intro w hSw; go_simp; (try with_reducible rfl))
  simp only [Act.put, List.getElem_toArray, List.getElem_cons_zero, List.getElem_cons_succ, List.setIfInBounds_toArray, List.set_cons_zero, List.set_cons_succ]
  refine wpAnyH_take (i := 11) (v := ?_) rfl (by kernel_rfl) (by kernel_rfl) (by kernel_rfl) (fun _ _ _ h => h) (Or.inl ⟨by rfl, ?_⟩) hHeld ?_
  rotate_left
  · (intro w hSw; go_simp; (try with_reducible rfl))
  simp only [Act.put, List.getElem_toArray, List.getElem_cons_zero, List.getElem_cons_succ, List.setIfInBounds_toArray, List.set_cons_zero, List.set_cons_succ]
  clear r0 r2 r3 l0 l2 l3 n4 c4
  generalize w1.drew = W0 at hHeld ⊢
  have hsW := hHeld.size
  have hzl := hZ.lt
  have hB0 := hHeld
  refine wpAnyH_ready (rs := [12, 14]) (by kernel_rfl) (by simp) ?_
  refine AllReadyH.cons rfl (fun K hK => ?_) (AllReadyH.cons rfl (fun K hK => ?_) AllReadyH.nil)
  all_goals simp only [List.getElem_toArray, List.getElem_cons_zero, List.getElem_cons_succ]
  · skip
    go_simp
    refine (HEf.out _ (keepB hHeld hb1)).mono ?_
    rintro e W1 ⟨cs5, rfl, hr5, hbx⟩
    rw [← HT.out] at hr5
    go_wp2_with fail
    have hB1 := keepB hbx hHeld
    have sW1 := hbx.size
    refine hK.out _ _ hB1 (fun _ => ?_)
    clear hK K
    try simp only [Act.put, List.setIfInBounds_toArray, List.set_cons_zero, List.set_cons_succ]
    have hs5 := hr5.size
    obtain ⟨A5, c5, hcs5⟩ := hr5.shape
    have HCs5 := Lib.hid hcs5
    rw [hcs5]
    clear hcs5
    unfold evC
    refine wpAnyH_take (i := 13) (v := ?_) rfl (by kernel_rfl) (by kernel_rfl) (by kernel_rfl) (fun _ _ _ h => h) (Or.inl ⟨by rfl, ?_⟩) hB1 ?_
    rotate_left
    · (intro w hSw; go_simp; (try with_reducible rfl))
    simp only [Act.put, List.getElem_toArray, List.getElem_cons_zero, List.getElem_cons_succ, List.setIfInBounds_toArray, List.set_cons_zero, List.set_cons_succ]
    refine wpAnyH_ready (rs := [14]) (by kernel_rfl) (by simp) ?_
    refine AllReadyH.cons rfl (fun K hK => ?_) AllReadyH.nil
    simp only [List.getElem_toArray, List.getElem_cons_zero, List.getElem_cons_succ]
    go_simp
    obtain ⟨W2, hW⟩ : ∃ W, W = W1.alloc (.cells zeroA 79) := ⟨_, rfl⟩
    have hx1 : AbAt W2 W1.heap.size zeroA := by rw [hW]; exact AbAt.new _ _
    have hbx : Below W1.heap.size W1 W2 := by rw [hW]; exact (Below.refl _ _).alloc (Nat.le_refl _) _
    rw [← hW]
    clear hW
    have hB2 := keepB hbx hB1
    have sW2 := hbx.size
    have tW2 := hx1.lt
    refine hK.out _ _ hB2 (fun _ => ?_)
    clear hK K
    try simp only [Act.put, List.setIfInBounds_toArray, List.set_cons_zero, List.set_cons_succ]
    have hr5 := hr5.keep (Q' := fun b => W0.heap.size ≤ b ∧ b < W1.heap.size) (fun b hq => hbx.block b hq.2) (fun _ h => h)
    have HQ5 := Lib.hid (show ∀ b, (W0.heap.size ≤ b ∧ b < W1.heap.size) → w.heap.size ≤ b ∧ b < W2.heap.size ∧ b ≠ W1.heap.size ∧ b ≠ w.heap.size from fun b hb => by have := hbx.size; have := hx1.lt; omega)
    refine wpAnyH_ready (rs := [15]) (by kernel_rfl) (by simp) ?_
    refine AllReadyH.cons rfl (fun K hK => ?_) AllReadyH.nil
    simp only [List.getElem_toArray, List.getElem_cons_zero, List.getElem_cons_succ]
    have h14 : (abC ⟨wh, noC, tp == 1, tg, T⟩ cs5).size = 14 := by rw [HCs5.out]; simp [abC, arr_size, evC]
    have h1c : (abC ⟨wh, noC, tp == 1, tg, T⟩ cs5).all (·.oneCell') = true := by rw [HCs5.out]; unfold evC; rw [abC14]; simp [Value.oneCell']
    refine wp_store_row 79 (.tmp 3) (.tmp 17) rfl W1.heap.size (abC ⟨wh, noC, tp == 1, tg, T⟩ cs5) rfl (by rw [HCs5.out]; exact congrArg Value.agg (abC14 ⟨wh, noC, tp == 1, tg, T⟩ _ _ _ _ _).symm) 79 zeroA hx1 (by rw [h14]; exact size14) (by rw [h14]; rfl) h1c ?_
    refine hK.out _ _ (below_setRow hB2 _ _ (by omega)) (fun _ => ?_)
    clear hK K
    try simp only [Act.put, List.setIfInBounds_toArray, List.set_cons_zero, List.set_cons_succ]
    refine wpAnyH_done (by kernel_rfl) ?_ _
    obtain ⟨W3, hW⟩ : ∃ W, W = W2.setRow W1.heap.size (abC ⟨wh, noC, tp == 1, tg, T⟩ cs5) := ⟨_, rfl⟩
    have hA3 : AbAt W3 W1.heap.size (abC ⟨wh, noC, tp == 1, tg, T⟩ cs5) := by rw [hW]; exact setRow_heap _ _ _ _ _ _ hx1
    have hZ3 : AbAt W3 w.heap.size zeroA := by rw [hW]; exact (setRow_other _ _ _ _ (by omega)).trans (hZ.keep hB2)
    have hb3 : Below w.heap.size w W3 := by rw [hW]; exact below_setRow (keepB hB2 hb1) _ _ (by omega)
    have HR3 := Lib.hid (hr5.keep (w' := W3) (Q' := fun b => w.heap.size ≤ b ∧ b < W3.heap.size ∧ b ≠ W1.heap.size ∧ b ≠ w.heap.size) (fun b hq => by rw [hW]; exact setRow_other _ _ _ _ (HQ5.out b hq).2.2.1) (fun b hq => by have := HQ5.out b hq; rw [hW]; simp only [setRow_size]; exact this))
    have hPw : w.heap.size < W1.heap.size := by omega
    rw [← hW]
    clear hW hB0 hB1 hB2 hbx hx1 hr5 HQ5 h14 h1c hHeld
    have r1 := R1.out W3 hb3
    obtain ⟨P, hPe⟩ : ∃ P, P = W1.heap.size := ⟨_, rfl⟩
    rw [← hPe] at hA3 hPw HR3 ⊢
    clear hPe
    have l1 : (1 : Int) < (n : Int) := by omega
    by_cases hc0 : 0 ≤ cl
    · have d0 : decide (0 ≤ cl) = true := by simpa using hc0
      obtain ⟨j, rfl⟩ : ∃ j : Nat, cl = (j : Int) := ⟨cl.toNat, by omega⟩
      have HA2 := Lib.hid (show abL row = ⟨wh, updI noC j 1, tp == 1, tg, T⟩ by rw [HA.out, if_pos hc0, Int.toNat_natCast])
      have hj6 : j < 6 := by omega
      have g0 : (0 : Int) ≤ (j : Int) := by omega
      have g6 : (j : Int) < 6 := by omega
      have q1 : W3.cell? ⟨P, 1 + j, none⟩ = some (.int .i64 0) := hA3.cost j _ (by rw [Array.getElem?_toList]; exact arr_get_lit hj6)
      have q2 := frozen_of_row W3 P (1 + j) _ _ hA3
      clear hc0
      go_upto_region 4 with fail
      obtain ⟨W4, hW⟩ : ∃ W, W = W3.setCell ⟨P, 1 + j, none⟩ (.int .i64 1) := ⟨_, rfl⟩
      have hA4 : AbAt W4 P (abC (abL row) cs5) := by
        rw [hW, HA2.out]
        have := heap_setCell_same W3 P (1 + j) _ _ (.int .i64 1) hA3
        rw [ab_cost_set _ _ _ hj6 _ hs5] at this
        exact this
      have hZ4 : AbAt W4 w.heap.size zeroA := by rw [hW]; exact (heap_setCell_other W3 _ _ _ (by simp; omega)).trans hZ3
      have hb4 : Below w.heap.size w W4 := by rw [hW]; exact hb3.setCell (by simp; omega) _
      have HR4 := Lib.hid (HR3.out.keep (w' := W4) (fun b hq => by rw [hW]; exact heap_setCell_other W3 _ b _ (by simp; omega)) (Q' := fun b => w.heap.size ≤ b ∧ b < W4.heap.size ∧ b ≠ P ∧ b ≠ w.heap.size) (fun b hq => by rw [hW]; simpa [World.setCell] using hq))
      rw [← hW]
      clear hW q1 q2 r1 l1 hA3 hZ3 hb3 d0
      have hsA : (Tryd.prog.info? 79).map (·.size) = some (abC (abL row) cs5).size := by rw [HCs5.out, show (abC (abL row) (evC T.op T.n T.m T.who A5 T.subs.length c5)).size = 14 by simp [abC, arr_size, evC]]; exact size14
      have hoA : (abC (abL row) cs5).all (·.oneCell') = true := by rw [HCs5.out]; unfold evC; rw [abC14]; simp [Value.oneCell']
      have hzA : zeroA.size = (abC (abL row) cs5).size := by rw [HCs5.out]; simp [abC, arr_size, evC]
      go_wp2_with (first
        | (refine wpList_load_row rfl 79 (.tmp 3) rfl P rfl 79 _ (0, 0) _ hA4 Tryd.underlying79 rfl hsA ?_)
        | (refine wpList_store_row rfl 79 (.tmp 2) (.tmp 27) rfl w.heap.size _ rfl rfl 79 zeroA hZ4 hsA hzA hoA ?_))
      refine bodyPost_ret (v := .agg (abC (abL row) cs5)) ?_ rfl ⟨_, rfl, ⟨by rw [HA2.out]; exact HI.out.1, by rw [HA2.out]; first | exact wide_one | exact wide_no, by rw [HA2.out]; exact HI.out.2, cs5, rfl, by
        rw [HA2.out]; exact HR4.out.keep (fun b hq => setRow_other _ _ b _ hq.2.2.2) (fun b hq => ⟨hq.1, by simp; exact hq.2.1⟩)⟩, below_setRow hb4 _ _ (Nat.le_refl _)⟩
      exact results_cell_one (ty := 79) (p := 2) (by kernel_rfl) _ _ w.heap.size 79 _ (0, 0) _ rfl (setRow_heap _ _ _ _ _ _ hZ4) Tryd.underlying79 rfl hsA
    · have d0 : decide (0 ≤ cl) = false := by simpa using hc0
      have HA2 := Lib.hid (show abL row = ⟨wh, noC, tp == 1, tg, T⟩ by rw [HA.out, if_neg hc0])
      clear hc0
      rw [← HA2.out] at hA3
      go_upto_region 4 with fail
      clear r1 l1 d0
      have hsA : (Tryd.prog.info? 79).map (·.size) = some (abC (abL row) cs5).size := by rw [HCs5.out, show (abC (abL row) (evC T.op T.n T.m T.who A5 T.subs.length c5)).size = 14 by simp [abC, arr_size, evC]]; exact size14
      have hoA : (abC (abL row) cs5).all (·.oneCell') = true := by rw [HCs5.out]; unfold evC; rw [abC14]; simp [Value.oneCell']
      have hzA : zeroA.size = (abC (abL row) cs5).size := by rw [HCs5.out]; simp [abC, arr_size, evC]
      go_wp2_with (first
        | (refine wpList_load_row rfl 79 (.tmp 3) rfl P rfl 79 _ (0, 0) _ hA3 Tryd.underlying79 rfl hsA ?_)
        | (refine wpList_store_row rfl 79 (.tmp 2) (.tmp 27) rfl w.heap.size _ rfl rfl 79 zeroA hZ3 hsA hzA hoA ?_))
      refine bodyPost_ret (v := .agg (abC (abL row) cs5)) ?_ rfl ⟨_, rfl, ⟨by rw [HA2.out]; exact HI.out.1, by rw [HA2.out]; first | exact wide_one | exact wide_no, by rw [HA2.out]; exact HI.out.2, cs5, rfl, by
        rw [HA2.out]; exact HR3.out.keep (fun b hq => setRow_other _ _ b _ hq.2.2.2) (fun b hq => ⟨hq.1, by simp; exact hq.2.1⟩)⟩, below_setRow hb3 _ _ (Nat.le_refl _)⟩
      exact results_cell_one (ty := 79) (p := 2) (by kernel_rfl) _ _ w.heap.size 79 _ (0, 0) _ rfl (setRow_heap _ _ _ _ _ _ hZ3) Tryd.underlying79 rfl hsA
  · skip
    go_simp
    obtain ⟨W1, hW⟩ : ∃ W, W = W0.alloc (.cells zeroA 79) := ⟨_, rfl⟩
    have hx1 : AbAt W1 W0.heap.size zeroA := by rw [hW]; exact AbAt.new _ _
    have hbx : Below W0.heap.size W0 W1 := by rw [hW]; exact (Below.refl _ _).alloc (Nat.le_refl _) _
    rw [← hW]
    clear hW
    have hB1 := keepB hbx hHeld
    have sW1 := hbx.size
    have tW1 := hx1.lt
    refine hK.out _ _ hB1 (fun _ => ?_)
    clear hK K
    try simp only [Act.put, List.setIfInBounds_toArray, List.set_cons_zero, List.set_cons_succ]
    refine wpAnyH_ready (rs := [12]) (by kernel_rfl) (by simp) ?_
    refine AllReadyH.cons rfl (fun K hK => ?_) AllReadyH.nil
    simp only [List.getElem_toArray, List.getElem_cons_zero, List.getElem_cons_succ]
    go_simp
    refine (HEf.out _ (keepB hB1 hb1)).mono ?_
    rintro e W2 ⟨cs5, rfl, hr5, hbx⟩
    rw [← HT.out] at hr5
    go_wp2_with fail
    have hB2 := keepB hbx hB1
    have sW2 := hbx.size
    refine hK.out _ _ hB2 (fun _ => ?_)
    clear hK K
    try simp only [Act.put, List.setIfInBounds_toArray, List.set_cons_zero, List.set_cons_succ]
    have hs5 := hr5.size
    obtain ⟨A5, c5, hcs5⟩ := hr5.shape
    have HCs5 := Lib.hid hcs5
    rw [hcs5]
    clear hcs5
    have hx1 := hx1.keep hbx
    have HQ5 := Lib.hid (show ∀ b, (W1.heap.size ≤ b ∧ b < W2.heap.size) → w.heap.size ≤ b ∧ b < W2.heap.size ∧ b ≠ W0.heap.size ∧ b ≠ w.heap.size from fun b hb => by have := hx1.lt; omega)
    unfold evC
    refine wpAnyH_take (i := 13) (v := ?_) rfl (by kernel_rfl) (by kernel_rfl) (by kernel_rfl) (fun _ _ _ h => h) (Or.inl ⟨by rfl, ?_⟩) hB2 ?_
    rotate_left
    · (intro w hSw; go_simp; (try with_reducible rfl))
    simp only [Act.put, List.getElem_toArray, List.getElem_cons_zero, List.getElem_cons_succ, List.setIfInBounds_toArray, List.set_cons_zero, List.set_cons_succ]
    refine wpAnyH_ready (rs := [15]) (by kernel_rfl) (by simp) ?_
    refine AllReadyH.cons rfl (fun K hK => ?_) AllReadyH.nil
    simp only [List.getElem_toArray, List.getElem_cons_zero, List.getElem_cons_succ]
    have h14 : (abC ⟨wh, noC, tp == 1, tg, T⟩ cs5).size = 14 := by rw [HCs5.out]; simp [abC, arr_size, evC]
    have h1c : (abC ⟨wh, noC, tp == 1, tg, T⟩ cs5).all (·.oneCell') = true := by rw [HCs5.out]; unfold evC; rw [abC14]; simp [Value.oneCell']
    refine wp_store_row 79 (.tmp 3) (.tmp 17) rfl W0.heap.size (abC ⟨wh, noC, tp == 1, tg, T⟩ cs5) rfl (by rw [HCs5.out]; exact congrArg Value.agg (abC14 ⟨wh, noC, tp == 1, tg, T⟩ _ _ _ _ _).symm) 79 zeroA hx1 (by rw [h14]; exact size14) (by rw [h14]; rfl) h1c ?_
    refine hK.out _ _ (below_setRow hB2 _ _ (by omega)) (fun _ => ?_)
    clear hK K
    try simp only [Act.put, List.setIfInBounds_toArray, List.set_cons_zero, List.set_cons_succ]
    refine wpAnyH_done (by kernel_rfl) ?_ _
    obtain ⟨W3, hW⟩ : ∃ W, W = W2.setRow W0.heap.size (abC ⟨wh, noC, tp == 1, tg, T⟩ cs5) := ⟨_, rfl⟩
    have hA3 : AbAt W3 W0.heap.size (abC ⟨wh, noC, tp == 1, tg, T⟩ cs5) := by rw [hW]; exact setRow_heap _ _ _ _ _ _ hx1
    have hZ3 : AbAt W3 w.heap.size zeroA := by rw [hW]; exact (setRow_other _ _ _ _ (by omega)).trans (hZ.keep hB2)
    have hb3 : Below w.heap.size w W3 := by rw [hW]; exact below_setRow (keepB hB2 hb1) _ _ (by omega)
    have HR3 := Lib.hid (hr5.keep (w' := W3) (Q' := fun b => w.heap.size ≤ b ∧ b < W3.heap.size ∧ b ≠ W0.heap.size ∧ b ≠ w.heap.size) (fun b hq => by rw [hW]; exact setRow_other _ _ _ _ (HQ5.out b hq).2.2.1) (fun b hq => by have := HQ5.out b hq; rw [hW]; simp only [setRow_size]; exact this))
    have hPw : w.heap.size < W0.heap.size := by omega
    rw [← hW]
    clear hW hB0 hB1 hB2 hbx hx1 hr5 HQ5 h14 h1c hHeld
    have r1 := R1.out W3 hb3
    obtain ⟨P, hPe⟩ : ∃ P, P = W0.heap.size := ⟨_, rfl⟩
    rw [← hPe] at hA3 hPw HR3 ⊢
    clear hPe
    have l1 : (1 : Int) < (n : Int) := by omega
    by_cases hc0 : 0 ≤ cl
    · have d0 : decide (0 ≤ cl) = true := by simpa using hc0
      obtain ⟨j, rfl⟩ : ∃ j : Nat, cl = (j : Int) := ⟨cl.toNat, by omega⟩
      have HA2 := Lib.hid (show abL row = ⟨wh, updI noC j 1, tp == 1, tg, T⟩ by rw [HA.out, if_pos hc0, Int.toNat_natCast])
      have hj6 : j < 6 := by omega
      have g0 : (0 : Int) ≤ (j : Int) := by omega
      have g6 : (j : Int) < 6 := by omega
      have q1 : W3.cell? ⟨P, 1 + j, none⟩ = some (.int .i64 0) := hA3.cost j _ (by rw [Array.getElem?_toList]; exact arr_get_lit hj6)
      have q2 := frozen_of_row W3 P (1 + j) _ _ hA3
      clear hc0
      go_upto_region 4 with fail
      obtain ⟨W4, hW⟩ : ∃ W, W = W3.setCell ⟨P, 1 + j, none⟩ (.int .i64 1) := ⟨_, rfl⟩
      have hA4 : AbAt W4 P (abC (abL row) cs5) := by
        rw [hW, HA2.out]
        have := heap_setCell_same W3 P (1 + j) _ _ (.int .i64 1) hA3
        rw [ab_cost_set _ _ _ hj6 _ hs5] at this
        exact this
      have hZ4 : AbAt W4 w.heap.size zeroA := by rw [hW]; exact (heap_setCell_other W3 _ _ _ (by simp; omega)).trans hZ3
      have hb4 : Below w.heap.size w W4 := by rw [hW]; exact hb3.setCell (by simp; omega) _
      have HR4 := Lib.hid (HR3.out.keep (w' := W4) (fun b hq => by rw [hW]; exact heap_setCell_other W3 _ b _ (by simp; omega)) (Q' := fun b => w.heap.size ≤ b ∧ b < W4.heap.size ∧ b ≠ P ∧ b ≠ w.heap.size) (fun b hq => by rw [hW]; simpa [World.setCell] using hq))
      rw [← hW]
      clear hW q1 q2 r1 l1 hA3 hZ3 hb3 d0
      have hsA : (Tryd.prog.info? 79).map (·.size) = some (abC (abL row) cs5).size := by rw [HCs5.out, show (abC (abL row) (evC T.op T.n T.m T.who A5 T.subs.length c5)).size = 14 by simp [abC, arr_size, evC]]; exact size14
      have hoA : (abC (abL row) cs5).all (·.oneCell') = true := by rw [HCs5.out]; unfold evC; rw [abC14]; simp [Value.oneCell']
      have hzA : zeroA.size = (abC (abL row) cs5).size := by rw [HCs5.out]; simp [abC, arr_size, evC]
      go_wp2_with (first
        | (refine wpList_load_row rfl 79 (.tmp 3) rfl P rfl 79 _ (0, 0) _ hA4 Tryd.underlying79 rfl hsA ?_)
        | (refine wpList_store_row rfl 79 (.tmp 2) (.tmp 27) rfl w.heap.size _ rfl rfl 79 zeroA hZ4 hsA hzA hoA ?_))
      refine bodyPost_ret (v := .agg (abC (abL row) cs5)) ?_ rfl ⟨_, rfl, ⟨by rw [HA2.out]; exact HI.out.1, by rw [HA2.out]; first | exact wide_one | exact wide_no, by rw [HA2.out]; exact HI.out.2, cs5, rfl, by
        rw [HA2.out]; exact HR4.out.keep (fun b hq => setRow_other _ _ b _ hq.2.2.2) (fun b hq => ⟨hq.1, by simp; exact hq.2.1⟩)⟩, below_setRow hb4 _ _ (Nat.le_refl _)⟩
      exact results_cell_one (ty := 79) (p := 2) (by kernel_rfl) _ _ w.heap.size 79 _ (0, 0) _ rfl (setRow_heap _ _ _ _ _ _ hZ4) Tryd.underlying79 rfl hsA
    · have d0 : decide (0 ≤ cl) = false := by simpa using hc0
      have HA2 := Lib.hid (show abL row = ⟨wh, noC, tp == 1, tg, T⟩ by rw [HA.out, if_neg hc0])
      clear hc0
      rw [← HA2.out] at hA3
      go_upto_region 4 with fail
      clear r1 l1 d0
      have hsA : (Tryd.prog.info? 79).map (·.size) = some (abC (abL row) cs5).size := by rw [HCs5.out, show (abC (abL row) (evC T.op T.n T.m T.who A5 T.subs.length c5)).size = 14 by simp [abC, arr_size, evC]]; exact size14
      have hoA : (abC (abL row) cs5).all (·.oneCell') = true := by rw [HCs5.out]; unfold evC; rw [abC14]; simp [Value.oneCell']
      have hzA : zeroA.size = (abC (abL row) cs5).size := by rw [HCs5.out]; simp [abC, arr_size, evC]
      go_wp2_with (first
        | (refine wpList_load_row rfl 79 (.tmp 3) rfl P rfl 79 _ (0, 0) _ hA3 Tryd.underlying79 rfl hsA ?_)
        | (refine wpList_store_row rfl 79 (.tmp 2) (.tmp 27) rfl w.heap.size _ rfl rfl 79 zeroA hZ3 hsA hzA hoA ?_))
      refine bodyPost_ret (v := .agg (abC (abL row) cs5)) ?_ rfl ⟨_, rfl, ⟨by rw [HA2.out]; exact HI.out.1, by rw [HA2.out]; first | exact wide_one | exact wide_no, by rw [HA2.out]; exact HI.out.2, cs5, rfl, by
        rw [HA2.out]; exact HR3.out.keep (fun b hq => setRow_other _ _ b _ hq.2.2.2) (fun b hq => ⟨hq.1, by simp; exact hq.2.1⟩)⟩, below_setRow hb3 _ _ (Nat.le_refl _)⟩
      exact results_cell_one (ty := 79) (p := 2) (by kernel_rfl) _ _ w.heap.size 79 _ (0, 0) _ rfl (setRow_heap _ _ _ _ _ _ hZ3) Tryd.underlying79 rfl hsA
end Go.Proofs.YtplfblccaeligaaDoor
