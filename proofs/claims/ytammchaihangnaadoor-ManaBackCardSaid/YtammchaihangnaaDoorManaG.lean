/- Layer 4: read, of the landed code. -/
import Derived.Test.YtammchaihangnaaDoorManaF
namespace Go.Proofs.YtammchaihangnaaDoor
open Go.RowKit Mx
attribute [local go_sem] arr_get
theorem indexRune_any (r : Int) (h0 : -2147483648 ≤ r) (h1 : r ≤ 2147483647) (hp : 0 ≤ r) (w : World) : Calls Tryd.prog 30 #[.string ⟨#[87, 85, 66, 82, 71]⟩, .int .i32 r] w fun e w' => e = .returned (.int .i64 (col r)) ∧ Below w.heap.size w w' := by
  by_cases h : r < 128
  · refine (Tryd.strings_IndexRune_ascii lettersS r w hp h).mono ?_
    rintro e w' ⟨rfl, rfl⟩
    exact ⟨by unfold col; rw [if_pos ⟨hp, h⟩]; rfl, Below.refl _ _⟩
  · refine (indexRune_far r (by omega) h1 w).mono ?_
    rintro e w' ⟨rfl, hb⟩
    exact ⟨by unfold col; rw [if_neg (by omega)], hb⟩
theorem upd_wide {c : Nat → Int} {k : Nat} {x : Int} (hc : GoodC c) (h0 : 0 ≤ x) (h1 : x ≤ 100000) : Wide (updI c k x) := fun i hi => by
  have := hc i hi
  unfold updI; split <;> omega
theorem upd_good {c : Nat → Int} {k : Nat} {x : Int} (hc : GoodC c) (h0 : 0 ≤ x) (h1 : x ≤ 1000) : GoodC (updI c k x) := fun i hi => by
  have := hc i hi
  unfold updI; split <;> omega
theorem upd_not {c : Nat → Int} {k : Nat} {x : Int} (hk : k < 6) (h1 : ¬ x ≤ 1000) : ¬ GoodC (updI c k x) := fun h => by
  have := h k hk
  rw [updI_at] at this; omega
/-- What stands while the cost and its test are taken: the cost, and all below. -/
def HeldC (w : World) (g : Nat → Int) (W : World) : Prop := ArrAt .i64 6 23 W w.heap.size g ∧ Below w.heap.size w W
def ReadPost (c : Nat → Int) (r : Int) (w : World) (e : Ending) (w' : World) : Prop :=
  ∃ g ok, e = .returned (.tuple #[.agg (arr .i64 6 g), .bool ok]) ∧ (ok = true → rd c r = some g) ∧ (ok = false → rd c r = none) ∧ Below w.heap.size w w'
set_option linter.unusedSimpArgs false in
set_option maxRecDepth 100000 in
set_option maxHeartbeats 1000000 in
theorem read_any (c : Nat → Int) (r : Int) (w : World) (hc : GoodC c) (h0 : 0 ≤ r) (h1 : r ≤ 2147483647) : Calls Tryd.prog 22 #[.agg (arr .i64 6 c), .int .i32 r] w (ReadPost c r w) := by
  obtain ⟨f0, f1⟩ := hc 5 (by omega)
  go_enter Tryd.func22, Tryd.ntmps22
  go_upto_region 1 with fail
  obtain ⟨w1, hw1⟩ : ∃ w1, w1 = (w.alloc (.cells (arr .i64 6 c) 23)).alloc (.cells (arr .i64 6 zeroC) 23) := ⟨_, rfl⟩
  have ha : ArrAt .i64 6 23 w1 w.heap.size c := by rw [hw1]; exact (ArrAt.new w .i64 6 23 c).alloc _
  have hr : ArrAt .i64 6 23 w1 (w.heap.size + 1) zeroC := by
    have h := ArrAt.new (w.alloc (.cells (arr .i64 6 c) 23)) .i64 6 23 zeroC
    rw [hw1]; simpa using h
  have hb1 : Below w.heap.size w w1 := by rw [hw1]; exact ((Below.refl _ _).alloc (Nat.le_refl _) _).alloc (by simp) _
  have hlit : (w.alloc (.cells (arr .i64 6 c) 23)).alloc (.cells #[.int .i64 0, .int .i64 0, .int .i64 0, .int .i64 0, .int .i64 0, .int .i64 0] 23) = w1 := by rw [hw1, zero6]
  try rw [hlit]
  try rw [← hw1]
  clear hw1 hlit
  by_cases hd : 48 ≤ r ∧ r ≤ 57
  · obtain ⟨d0, d1⟩ := hd
    have q1 := ha.cell (i := 5) (by omega)
    have q2 := ha.frozen 5
    obtain ⟨x, hx⟩ : ∃ x, x = c 5 := ⟨_, rfl⟩
    rw [← hx] at q1 f0 f1
    have HX := Lib.hid hx
    clear hx
    have HA := Lib.hid (ha.set_ 5 (10 * x + (r - 48)))
    have HR := Lib.hid (hr.far (p := ⟨w.heap.size, 5, none⟩) (by simp) (.int .i64 (10 * x + (r - 48))))
    have HB := Lib.hid (hb1.setCell (p := ⟨w.heap.size, 5, none⟩) (Nat.le_refl _) (.int .i64 (10 * x + (r - 48))))
    have hrd : rd c r = if 10 * c 5 + (r - 48) ≤ 1000 then some (updI c 5 (10 * c 5 + (r - 48))) else none := by unfold rd; rw [if_pos ⟨d0, d1⟩]
    rw [← HX.out] at hrd
    obtain ⟨g, hg⟩ : ∃ g, g = updI c 5 (10 * x + (r - 48)) := ⟨_, rfl⟩
    have HRD := Lib.hid hrd
    clear hrd
    have hwide : Wide g := by rw [hg]; exact upd_wide hc (by omega) (by omega)
    have hgood : 10 * x + (r - 48) ≤ 1000 → GoodC g := fun h => by rw [hg]; exact upd_good hc (by omega) h
    have hnot : 1000 < 10 * x + (r - 48) → ¬ GoodC g := fun h => by rw [hg]; exact upd_not (by omega) (by omega)
    have HW := Lib.hid hwide
    have HGood := Lib.hid hgood
    have HNot := Lib.hid hnot
    have HG := Lib.hid hg
    clear hwide hgood hnot
    rw [← hg] at HA
    clear hg
    go_wp2_with fail
    obtain ⟨w2, hw2⟩ : ∃ w2, w2 = w1.setCell ⟨w.heap.size, 5, none⟩ (.int .i64 (10 * x + (r - 48))) := ⟨_, rfl⟩
    rw [← hw2] at HA HR HB ⊢
    clear hw2 q1 q2
    by_cases hle : 10 * x + (r - 48) ≤ 1000
    · have Ta := Lib.hid (show rd c r = some g by rw [HRD.out, if_pos hle, HG.out])
      have HH : HeldC w g w2 := ⟨HA.out, HB.out⟩
      refine wp_region_held_drew (S := HeldC w g) (by kernel_rfl) ⟨HH.1, HH.2.drew⟩ (fun hHeld => ?_)
      have hsz : (Tryd.prog.info? 23).map (·.size) = some (arr .i64 6 (g)).size := by rw [arr_size]; exact size6
      have h1c := arr_one .i64 6 (g)
      refine wpAnyH_take (i := 0) (v := .agg (arr .i64 6 (g))) rfl (by kernel_rfl) (by kernel_rfl) (by kernel_rfl) (fun _ _ _ h => h) (yieldsIf_load (by rfl) 23 (.tmp 2) rfl w.heap.size rfl (fun W hW => hW.1) Tryd.underlying23 size6) hHeld ?_
      simp only [Act.put, List.getElem_toArray, List.getElem_cons_zero, List.getElem_cons_succ, List.setIfInBounds_toArray, List.set_cons_zero, List.set_cons_succ]
      refine wpAnyH_take (i := 1) (v := .agg (arr .i64 6 (g))) rfl (by kernel_rfl) (by kernel_rfl) (by kernel_rfl) (fun _ _ _ h => h) (yieldsIf_load (by rfl) 23 (.tmp 2) rfl w.heap.size rfl (fun W hW => hW.1) Tryd.underlying23 size6) hHeld ?_
      simp only [Act.put, List.getElem_toArray, List.getElem_cons_zero, List.getElem_cons_succ, List.setIfInBounds_toArray, List.set_cons_zero, List.set_cons_succ]
      refine wpAnyH_ready (rs := [2]) (by kernel_rfl) (by simp) ?_
      refine AllReadyH.cons rfl (fun K hK => ?_) AllReadyH.nil
      simp only [List.getElem_toArray, List.getElem_cons_zero, List.getElem_cons_succ]
      go_simp
      refine (good_yes (good_any (g) _ HW.out) (HGood.out hle)).mono ?_
      rintro e w3 ⟨rfl, hb3⟩
      have hr3 := (HR.out).keep (keepB hb3 ((Below.refl _ _).drew))
      have hS3 : HeldC w g w3 := ⟨hHeld.1.keep hb3, keepB hb3 hHeld.2⟩
      refine hK.out _ _ hS3 (fun _ => ?_)
      clear hK K
      try simp only [Act.put, List.setIfInBounds_toArray, List.set_cons_zero, List.set_cons_succ]
      refine wpAnyH_ready (rs := [3]) (by kernel_rfl) (by simp) ?_
      refine AllReadyH.cons rfl (fun K hK => ?_) AllReadyH.nil
      simp only [List.getElem_toArray, List.getElem_cons_zero, List.getElem_cons_succ]
      refine wp_store_row 23 (.tmp 4) (.tmp 31) rfl (w.heap.size + 1) _ rfl rfl 23 _ hr3 hsz (by rw [arr_size, arr_size]) h1c ?_
      have hS4 : HeldC w g (w3.setRow (w.heap.size + 1) (arr .i64 6 (g))) := ⟨hS3.1.farRow (by omega) _, below_setRow hS3.2 _ _ (by omega)⟩
      have hr4 := hr3.setRow (g)
      refine hK.out _ _ hS4 (fun _ => ?_)
      clear hK K
      try simp only [Act.put, List.setIfInBounds_toArray, List.set_cons_zero, List.set_cons_succ]
      have hHeld := hS4
      refine wpAnyH_take (i := 4) (v := ?_) rfl (by kernel_rfl) (by kernel_rfl) (by kernel_rfl) (fun _ _ _ h => h) (Or.inl ⟨by rfl, ?_⟩) hHeld ?_
      rotate_left
      · (intro w hSw; go_simp; (try with_reducible rfl))
      simp only [Act.put, List.getElem_toArray, List.getElem_cons_zero, List.getElem_cons_succ, List.setIfInBounds_toArray, List.set_cons_zero, List.set_cons_succ]
      refine wpAnyH_done (by kernel_rfl) ?_ _
      go_wp2_with fail
      refine bodyPost_ret (v := .tuple #[.agg (arr .i64 6 (g)), .bool true]) ?_ rfl ⟨_, true, rfl, (fun _ => Ta.out), (fun h => Bool.noConfusion h), hS4.2⟩
      exact results_cell_tmp (ty := 23) (p := 4) (q := 5) (by kernel_rfl) _ _ (w.heap.size + 1) 23 _ (0, 0) _ rfl hr4 Tryd.underlying23 rfl hsz
    · have Ta := Lib.hid (show rd c r = none by rw [HRD.out, if_neg hle])
      have HH : HeldC w g w2 := ⟨HA.out, HB.out⟩
      refine wp_region_held_drew (S := HeldC w g) (by kernel_rfl) ⟨HH.1, HH.2.drew⟩ (fun hHeld => ?_)
      have hsz : (Tryd.prog.info? 23).map (·.size) = some (arr .i64 6 (g)).size := by rw [arr_size]; exact size6
      have h1c := arr_one .i64 6 (g)
      refine wpAnyH_take (i := 0) (v := .agg (arr .i64 6 (g))) rfl (by kernel_rfl) (by kernel_rfl) (by kernel_rfl) (fun _ _ _ h => h) (yieldsIf_load (by rfl) 23 (.tmp 2) rfl w.heap.size rfl (fun W hW => hW.1) Tryd.underlying23 size6) hHeld ?_
      simp only [Act.put, List.getElem_toArray, List.getElem_cons_zero, List.getElem_cons_succ, List.setIfInBounds_toArray, List.set_cons_zero, List.set_cons_succ]
      refine wpAnyH_take (i := 1) (v := .agg (arr .i64 6 (g))) rfl (by kernel_rfl) (by kernel_rfl) (by kernel_rfl) (fun _ _ _ h => h) (yieldsIf_load (by rfl) 23 (.tmp 2) rfl w.heap.size rfl (fun W hW => hW.1) Tryd.underlying23 size6) hHeld ?_
      simp only [Act.put, List.getElem_toArray, List.getElem_cons_zero, List.getElem_cons_succ, List.setIfInBounds_toArray, List.set_cons_zero, List.set_cons_succ]
      refine wpAnyH_ready (rs := [2]) (by kernel_rfl) (by simp) ?_
      refine AllReadyH.cons rfl (fun K hK => ?_) AllReadyH.nil
      simp only [List.getElem_toArray, List.getElem_cons_zero, List.getElem_cons_succ]
      go_simp
      refine (good_no (good_any (g) _ HW.out) (HNot.out (by omega))).mono ?_
      rintro e w3 ⟨rfl, hb3⟩
      have hr3 := (HR.out).keep (keepB hb3 ((Below.refl _ _).drew))
      have hS3 : HeldC w g w3 := ⟨hHeld.1.keep hb3, keepB hb3 hHeld.2⟩
      refine hK.out _ _ hS3 (fun _ => ?_)
      clear hK K
      try simp only [Act.put, List.setIfInBounds_toArray, List.set_cons_zero, List.set_cons_succ]
      refine wpAnyH_ready (rs := [3]) (by kernel_rfl) (by simp) ?_
      refine AllReadyH.cons rfl (fun K hK => ?_) AllReadyH.nil
      simp only [List.getElem_toArray, List.getElem_cons_zero, List.getElem_cons_succ]
      refine wp_store_row 23 (.tmp 4) (.tmp 31) rfl (w.heap.size + 1) _ rfl rfl 23 _ hr3 hsz (by rw [arr_size, arr_size]) h1c ?_
      have hS4 : HeldC w g (w3.setRow (w.heap.size + 1) (arr .i64 6 (g))) := ⟨hS3.1.farRow (by omega) _, below_setRow hS3.2 _ _ (by omega)⟩
      have hr4 := hr3.setRow (g)
      refine hK.out _ _ hS4 (fun _ => ?_)
      clear hK K
      try simp only [Act.put, List.setIfInBounds_toArray, List.set_cons_zero, List.set_cons_succ]
      have hHeld := hS4
      refine wpAnyH_take (i := 4) (v := ?_) rfl (by kernel_rfl) (by kernel_rfl) (by kernel_rfl) (fun _ _ _ h => h) (Or.inl ⟨by rfl, ?_⟩) hHeld ?_
      rotate_left
      · (intro w hSw; go_simp; (try with_reducible rfl))
      simp only [Act.put, List.getElem_toArray, List.getElem_cons_zero, List.getElem_cons_succ, List.setIfInBounds_toArray, List.set_cons_zero, List.set_cons_succ]
      refine wpAnyH_done (by kernel_rfl) ?_ _
      go_wp2_with fail
      refine bodyPost_ret (v := .tuple #[.agg (arr .i64 6 (g)), .bool false]) ?_ rfl ⟨_, false, rfl, (fun h => Bool.noConfusion h), (fun _ => Ta.out), hS4.2⟩
      exact results_cell_tmp (ty := 23) (p := 4) (q := 5) (by kernel_rfl) _ _ (w.heap.size + 1) 23 _ (0, 0) _ rfl hr4 Tryd.underlying23 rfl hsz
  · have hI := indexRune_any r (by omega) h1 h0
    obtain ⟨k0, k1⟩ := col_range r
    have hrd : rd c r = if 0 ≤ col r then (if c (col r).toNat + 1 ≤ 1000 then some (updI c (col r).toNat (c (col r).toNat + 1)) else none) else none := by unfold rd; rw [if_neg hd]
    have hcase : r < 48 ∨ 57 < r := by omega
    obtain ⟨q, hq⟩ : ∃ q, col r = q := ⟨_, rfl⟩
    rw [hq] at hI k0 k1 hrd
    clear hq
    have HRD := Lib.hid hrd
    have HI := Lib.hid hI
    clear hrd hI
    by_cases hq0 : 0 ≤ q
    · obtain ⟨k, rfl⟩ := Int.eq_ofNat_of_zero_le hq0
      have hk : k < 5 := by omega
      obtain ⟨g0, g1⟩ := hc k (by omega)
      have hrd := HRD.out
      rw [if_pos hq0, Int.toNat_natCast] at hrd
      obtain ⟨x, hx⟩ : ∃ x, x = c k := ⟨_, rfl⟩
      rw [← hx] at hrd g0 g1
      have HRD := Lib.hid hrd
      have HX := Lib.hid hx
      clear hrd
      obtain ⟨g, hg⟩ : ∃ g, g = updI c k (x + 1) := ⟨_, rfl⟩
      have hwide : Wide g := by rw [hg]; exact upd_wide hc (by omega) (by omega)
      have hgood : x + 1 ≤ 1000 → GoodC g := fun h => by rw [hg]; exact upd_good hc (by omega) h
      have hnot : 1000 < x + 1 → ¬ GoodC g := fun h => by rw [hg]; exact upd_not (by omega) (by omega)
      have HW := Lib.hid hwide
      have HGood := Lib.hid hgood
      have HNot := Lib.hid hnot
      have HG := Lib.hid hg
      clear hwide hgood hnot hg
      have HAa := Lib.hid ha
      have HRr := Lib.hid hr
      clear ha hr
      have b0 : (0 : Int) ≤ (k : Int) := by omega
      have b1 : (k : Int) < 6 := by omega
      rcases hcase with hcase | hcase
      · skip
        go_wp2_with fail
        refine (HI.out _).mono ?_
        rintro e w3 ⟨rfl, hb3⟩
        have q1 := (HAa.out.keep hb3).cell (show k < 6 by omega)
        have q2 := (HAa.out.keep hb3).frozen k
        rw [← HX.out] at q1
        have HA := Lib.hid ((HAa.out.keep hb3).set_ k (x + 1))
        have HR := Lib.hid ((HRr.out.keep hb3).far (p := ⟨w.heap.size, k, none⟩) (by simp) (.int .i64 (x + 1)))
        have HB := Lib.hid ((keepB hb3 hb1).setCell (p := ⟨w.heap.size, k, none⟩) (Nat.le_refl _) (.int .i64 (x + 1)))
        rw [← HG.out] at HA
        clear hx
        go_wp2_with fail
        obtain ⟨w2, hw2⟩ : ∃ w2, w2 = w3.setCell ⟨w.heap.size, k, none⟩ (.int .i64 (x + 1)) := ⟨_, rfl⟩
        rw [← hw2] at HA HR HB ⊢
        clear hw2 q1 q2
        by_cases hle : x + 1 ≤ 1000
        · have Ta := Lib.hid (show rd c r = some g by rw [HRD.out, if_pos hle, HG.out])
          have HH : HeldC w g w2 := ⟨HA.out, HB.out⟩
          refine wp_region_held_drew (S := HeldC w g) (by kernel_rfl) ⟨HH.1, HH.2.drew⟩ (fun hHeld => ?_)
          have hsz : (Tryd.prog.info? 23).map (·.size) = some (arr .i64 6 (g)).size := by rw [arr_size]; exact size6
          have h1c := arr_one .i64 6 (g)
          refine wpAnyH_take (i := 0) (v := .agg (arr .i64 6 (g))) rfl (by kernel_rfl) (by kernel_rfl) (by kernel_rfl) (fun _ _ _ h => h) (yieldsIf_load (by rfl) 23 (.tmp 2) rfl w.heap.size rfl (fun W hW => hW.1) Tryd.underlying23 size6) hHeld ?_
          simp only [Act.put, List.getElem_toArray, List.getElem_cons_zero, List.getElem_cons_succ, List.setIfInBounds_toArray, List.set_cons_zero, List.set_cons_succ]
          refine wpAnyH_take (i := 1) (v := .agg (arr .i64 6 (g))) rfl (by kernel_rfl) (by kernel_rfl) (by kernel_rfl) (fun _ _ _ h => h) (yieldsIf_load (by rfl) 23 (.tmp 2) rfl w.heap.size rfl (fun W hW => hW.1) Tryd.underlying23 size6) hHeld ?_
          simp only [Act.put, List.getElem_toArray, List.getElem_cons_zero, List.getElem_cons_succ, List.setIfInBounds_toArray, List.set_cons_zero, List.set_cons_succ]
          refine wpAnyH_ready (rs := [2]) (by kernel_rfl) (by simp) ?_
          refine AllReadyH.cons rfl (fun K hK => ?_) AllReadyH.nil
          simp only [List.getElem_toArray, List.getElem_cons_zero, List.getElem_cons_succ]
          go_simp
          refine (good_yes (good_any (g) _ HW.out) (HGood.out hle)).mono ?_
          rintro e w3 ⟨rfl, hb3⟩
          have hr3 := (HR.out).keep (keepB hb3 ((Below.refl _ _).drew))
          have hS3 : HeldC w g w3 := ⟨hHeld.1.keep hb3, keepB hb3 hHeld.2⟩
          refine hK.out _ _ hS3 (fun _ => ?_)
          clear hK K
          try simp only [Act.put, List.setIfInBounds_toArray, List.set_cons_zero, List.set_cons_succ]
          refine wpAnyH_ready (rs := [3]) (by kernel_rfl) (by simp) ?_
          refine AllReadyH.cons rfl (fun K hK => ?_) AllReadyH.nil
          simp only [List.getElem_toArray, List.getElem_cons_zero, List.getElem_cons_succ]
          refine wp_store_row 23 (.tmp 4) (.tmp 31) rfl (w.heap.size + 1) _ rfl rfl 23 _ hr3 hsz (by rw [arr_size, arr_size]) h1c ?_
          have hS4 : HeldC w g (w3.setRow (w.heap.size + 1) (arr .i64 6 (g))) := ⟨hS3.1.farRow (by omega) _, below_setRow hS3.2 _ _ (by omega)⟩
          have hr4 := hr3.setRow (g)
          refine hK.out _ _ hS4 (fun _ => ?_)
          clear hK K
          try simp only [Act.put, List.setIfInBounds_toArray, List.set_cons_zero, List.set_cons_succ]
          have hHeld := hS4
          refine wpAnyH_take (i := 4) (v := ?_) rfl (by kernel_rfl) (by kernel_rfl) (by kernel_rfl) (fun _ _ _ h => h) (Or.inl ⟨by rfl, ?_⟩) hHeld ?_
          rotate_left
          · (intro w hSw; go_simp; (try with_reducible rfl))
          simp only [Act.put, List.getElem_toArray, List.getElem_cons_zero, List.getElem_cons_succ, List.setIfInBounds_toArray, List.set_cons_zero, List.set_cons_succ]
          refine wpAnyH_done (by kernel_rfl) ?_ _
          go_wp2_with fail
          refine bodyPost_ret (v := .tuple #[.agg (arr .i64 6 (g)), .bool true]) ?_ rfl ⟨_, true, rfl, (fun _ => Ta.out), (fun h => Bool.noConfusion h), hS4.2⟩
          exact results_cell_tmp (ty := 23) (p := 4) (q := 5) (by kernel_rfl) _ _ (w.heap.size + 1) 23 _ (0, 0) _ rfl hr4 Tryd.underlying23 rfl hsz
        · have Ta := Lib.hid (show rd c r = none by rw [HRD.out, if_neg hle])
          have HH : HeldC w g w2 := ⟨HA.out, HB.out⟩
          refine wp_region_held_drew (S := HeldC w g) (by kernel_rfl) ⟨HH.1, HH.2.drew⟩ (fun hHeld => ?_)
          have hsz : (Tryd.prog.info? 23).map (·.size) = some (arr .i64 6 (g)).size := by rw [arr_size]; exact size6
          have h1c := arr_one .i64 6 (g)
          refine wpAnyH_take (i := 0) (v := .agg (arr .i64 6 (g))) rfl (by kernel_rfl) (by kernel_rfl) (by kernel_rfl) (fun _ _ _ h => h) (yieldsIf_load (by rfl) 23 (.tmp 2) rfl w.heap.size rfl (fun W hW => hW.1) Tryd.underlying23 size6) hHeld ?_
          simp only [Act.put, List.getElem_toArray, List.getElem_cons_zero, List.getElem_cons_succ, List.setIfInBounds_toArray, List.set_cons_zero, List.set_cons_succ]
          refine wpAnyH_take (i := 1) (v := .agg (arr .i64 6 (g))) rfl (by kernel_rfl) (by kernel_rfl) (by kernel_rfl) (fun _ _ _ h => h) (yieldsIf_load (by rfl) 23 (.tmp 2) rfl w.heap.size rfl (fun W hW => hW.1) Tryd.underlying23 size6) hHeld ?_
          simp only [Act.put, List.getElem_toArray, List.getElem_cons_zero, List.getElem_cons_succ, List.setIfInBounds_toArray, List.set_cons_zero, List.set_cons_succ]
          refine wpAnyH_ready (rs := [2]) (by kernel_rfl) (by simp) ?_
          refine AllReadyH.cons rfl (fun K hK => ?_) AllReadyH.nil
          simp only [List.getElem_toArray, List.getElem_cons_zero, List.getElem_cons_succ]
          go_simp
          refine (good_no (good_any (g) _ HW.out) (HNot.out (by omega))).mono ?_
          rintro e w3 ⟨rfl, hb3⟩
          have hr3 := (HR.out).keep (keepB hb3 ((Below.refl _ _).drew))
          have hS3 : HeldC w g w3 := ⟨hHeld.1.keep hb3, keepB hb3 hHeld.2⟩
          refine hK.out _ _ hS3 (fun _ => ?_)
          clear hK K
          try simp only [Act.put, List.setIfInBounds_toArray, List.set_cons_zero, List.set_cons_succ]
          refine wpAnyH_ready (rs := [3]) (by kernel_rfl) (by simp) ?_
          refine AllReadyH.cons rfl (fun K hK => ?_) AllReadyH.nil
          simp only [List.getElem_toArray, List.getElem_cons_zero, List.getElem_cons_succ]
          refine wp_store_row 23 (.tmp 4) (.tmp 31) rfl (w.heap.size + 1) _ rfl rfl 23 _ hr3 hsz (by rw [arr_size, arr_size]) h1c ?_
          have hS4 : HeldC w g (w3.setRow (w.heap.size + 1) (arr .i64 6 (g))) := ⟨hS3.1.farRow (by omega) _, below_setRow hS3.2 _ _ (by omega)⟩
          have hr4 := hr3.setRow (g)
          refine hK.out _ _ hS4 (fun _ => ?_)
          clear hK K
          try simp only [Act.put, List.setIfInBounds_toArray, List.set_cons_zero, List.set_cons_succ]
          have hHeld := hS4
          refine wpAnyH_take (i := 4) (v := ?_) rfl (by kernel_rfl) (by kernel_rfl) (by kernel_rfl) (fun _ _ _ h => h) (Or.inl ⟨by rfl, ?_⟩) hHeld ?_
          rotate_left
          · (intro w hSw; go_simp; (try with_reducible rfl))
          simp only [Act.put, List.getElem_toArray, List.getElem_cons_zero, List.getElem_cons_succ, List.setIfInBounds_toArray, List.set_cons_zero, List.set_cons_succ]
          refine wpAnyH_done (by kernel_rfl) ?_ _
          go_wp2_with fail
          refine bodyPost_ret (v := .tuple #[.agg (arr .i64 6 (g)), .bool false]) ?_ rfl ⟨_, false, rfl, (fun h => Bool.noConfusion h), (fun _ => Ta.out), hS4.2⟩
          exact results_cell_tmp (ty := 23) (p := 4) (q := 5) (by kernel_rfl) _ _ (w.heap.size + 1) 23 _ (0, 0) _ rfl hr4 Tryd.underlying23 rfl hsz
      · skip
        go_wp2_with fail
        refine (HI.out _).mono ?_
        rintro e w3 ⟨rfl, hb3⟩
        have q1 := (HAa.out.keep hb3).cell (show k < 6 by omega)
        have q2 := (HAa.out.keep hb3).frozen k
        rw [← HX.out] at q1
        have HA := Lib.hid ((HAa.out.keep hb3).set_ k (x + 1))
        have HR := Lib.hid ((HRr.out.keep hb3).far (p := ⟨w.heap.size, k, none⟩) (by simp) (.int .i64 (x + 1)))
        have HB := Lib.hid ((keepB hb3 hb1).setCell (p := ⟨w.heap.size, k, none⟩) (Nat.le_refl _) (.int .i64 (x + 1)))
        rw [← HG.out] at HA
        clear hx
        go_wp2_with fail
        obtain ⟨w2, hw2⟩ : ∃ w2, w2 = w3.setCell ⟨w.heap.size, k, none⟩ (.int .i64 (x + 1)) := ⟨_, rfl⟩
        rw [← hw2] at HA HR HB ⊢
        clear hw2 q1 q2
        by_cases hle : x + 1 ≤ 1000
        · have Ta := Lib.hid (show rd c r = some g by rw [HRD.out, if_pos hle, HG.out])
          have HH : HeldC w g w2 := ⟨HA.out, HB.out⟩
          refine wp_region_held_drew (S := HeldC w g) (by kernel_rfl) ⟨HH.1, HH.2.drew⟩ (fun hHeld => ?_)
          have hsz : (Tryd.prog.info? 23).map (·.size) = some (arr .i64 6 (g)).size := by rw [arr_size]; exact size6
          have h1c := arr_one .i64 6 (g)
          refine wpAnyH_take (i := 0) (v := .agg (arr .i64 6 (g))) rfl (by kernel_rfl) (by kernel_rfl) (by kernel_rfl) (fun _ _ _ h => h) (yieldsIf_load (by rfl) 23 (.tmp 2) rfl w.heap.size rfl (fun W hW => hW.1) Tryd.underlying23 size6) hHeld ?_
          simp only [Act.put, List.getElem_toArray, List.getElem_cons_zero, List.getElem_cons_succ, List.setIfInBounds_toArray, List.set_cons_zero, List.set_cons_succ]
          refine wpAnyH_take (i := 1) (v := .agg (arr .i64 6 (g))) rfl (by kernel_rfl) (by kernel_rfl) (by kernel_rfl) (fun _ _ _ h => h) (yieldsIf_load (by rfl) 23 (.tmp 2) rfl w.heap.size rfl (fun W hW => hW.1) Tryd.underlying23 size6) hHeld ?_
          simp only [Act.put, List.getElem_toArray, List.getElem_cons_zero, List.getElem_cons_succ, List.setIfInBounds_toArray, List.set_cons_zero, List.set_cons_succ]
          refine wpAnyH_ready (rs := [2]) (by kernel_rfl) (by simp) ?_
          refine AllReadyH.cons rfl (fun K hK => ?_) AllReadyH.nil
          simp only [List.getElem_toArray, List.getElem_cons_zero, List.getElem_cons_succ]
          go_simp
          refine (good_yes (good_any (g) _ HW.out) (HGood.out hle)).mono ?_
          rintro e w3 ⟨rfl, hb3⟩
          have hr3 := (HR.out).keep (keepB hb3 ((Below.refl _ _).drew))
          have hS3 : HeldC w g w3 := ⟨hHeld.1.keep hb3, keepB hb3 hHeld.2⟩
          refine hK.out _ _ hS3 (fun _ => ?_)
          clear hK K
          try simp only [Act.put, List.setIfInBounds_toArray, List.set_cons_zero, List.set_cons_succ]
          refine wpAnyH_ready (rs := [3]) (by kernel_rfl) (by simp) ?_
          refine AllReadyH.cons rfl (fun K hK => ?_) AllReadyH.nil
          simp only [List.getElem_toArray, List.getElem_cons_zero, List.getElem_cons_succ]
          refine wp_store_row 23 (.tmp 4) (.tmp 31) rfl (w.heap.size + 1) _ rfl rfl 23 _ hr3 hsz (by rw [arr_size, arr_size]) h1c ?_
          have hS4 : HeldC w g (w3.setRow (w.heap.size + 1) (arr .i64 6 (g))) := ⟨hS3.1.farRow (by omega) _, below_setRow hS3.2 _ _ (by omega)⟩
          have hr4 := hr3.setRow (g)
          refine hK.out _ _ hS4 (fun _ => ?_)
          clear hK K
          try simp only [Act.put, List.setIfInBounds_toArray, List.set_cons_zero, List.set_cons_succ]
          have hHeld := hS4
          refine wpAnyH_take (i := 4) (v := ?_) rfl (by kernel_rfl) (by kernel_rfl) (by kernel_rfl) (fun _ _ _ h => h) (Or.inl ⟨by rfl, ?_⟩) hHeld ?_
          rotate_left
          · (intro w hSw; go_simp; (try with_reducible rfl))
          simp only [Act.put, List.getElem_toArray, List.getElem_cons_zero, List.getElem_cons_succ, List.setIfInBounds_toArray, List.set_cons_zero, List.set_cons_succ]
          refine wpAnyH_done (by kernel_rfl) ?_ _
          go_wp2_with fail
          refine bodyPost_ret (v := .tuple #[.agg (arr .i64 6 (g)), .bool true]) ?_ rfl ⟨_, true, rfl, (fun _ => Ta.out), (fun h => Bool.noConfusion h), hS4.2⟩
          exact results_cell_tmp (ty := 23) (p := 4) (q := 5) (by kernel_rfl) _ _ (w.heap.size + 1) 23 _ (0, 0) _ rfl hr4 Tryd.underlying23 rfl hsz
        · have Ta := Lib.hid (show rd c r = none by rw [HRD.out, if_neg hle])
          have HH : HeldC w g w2 := ⟨HA.out, HB.out⟩
          refine wp_region_held_drew (S := HeldC w g) (by kernel_rfl) ⟨HH.1, HH.2.drew⟩ (fun hHeld => ?_)
          have hsz : (Tryd.prog.info? 23).map (·.size) = some (arr .i64 6 (g)).size := by rw [arr_size]; exact size6
          have h1c := arr_one .i64 6 (g)
          refine wpAnyH_take (i := 0) (v := .agg (arr .i64 6 (g))) rfl (by kernel_rfl) (by kernel_rfl) (by kernel_rfl) (fun _ _ _ h => h) (yieldsIf_load (by rfl) 23 (.tmp 2) rfl w.heap.size rfl (fun W hW => hW.1) Tryd.underlying23 size6) hHeld ?_
          simp only [Act.put, List.getElem_toArray, List.getElem_cons_zero, List.getElem_cons_succ, List.setIfInBounds_toArray, List.set_cons_zero, List.set_cons_succ]
          refine wpAnyH_take (i := 1) (v := .agg (arr .i64 6 (g))) rfl (by kernel_rfl) (by kernel_rfl) (by kernel_rfl) (fun _ _ _ h => h) (yieldsIf_load (by rfl) 23 (.tmp 2) rfl w.heap.size rfl (fun W hW => hW.1) Tryd.underlying23 size6) hHeld ?_
          simp only [Act.put, List.getElem_toArray, List.getElem_cons_zero, List.getElem_cons_succ, List.setIfInBounds_toArray, List.set_cons_zero, List.set_cons_succ]
          refine wpAnyH_ready (rs := [2]) (by kernel_rfl) (by simp) ?_
          refine AllReadyH.cons rfl (fun K hK => ?_) AllReadyH.nil
          simp only [List.getElem_toArray, List.getElem_cons_zero, List.getElem_cons_succ]
          go_simp
          refine (good_no (good_any (g) _ HW.out) (HNot.out (by omega))).mono ?_
          rintro e w3 ⟨rfl, hb3⟩
          have hr3 := (HR.out).keep (keepB hb3 ((Below.refl _ _).drew))
          have hS3 : HeldC w g w3 := ⟨hHeld.1.keep hb3, keepB hb3 hHeld.2⟩
          refine hK.out _ _ hS3 (fun _ => ?_)
          clear hK K
          try simp only [Act.put, List.setIfInBounds_toArray, List.set_cons_zero, List.set_cons_succ]
          refine wpAnyH_ready (rs := [3]) (by kernel_rfl) (by simp) ?_
          refine AllReadyH.cons rfl (fun K hK => ?_) AllReadyH.nil
          simp only [List.getElem_toArray, List.getElem_cons_zero, List.getElem_cons_succ]
          refine wp_store_row 23 (.tmp 4) (.tmp 31) rfl (w.heap.size + 1) _ rfl rfl 23 _ hr3 hsz (by rw [arr_size, arr_size]) h1c ?_
          have hS4 : HeldC w g (w3.setRow (w.heap.size + 1) (arr .i64 6 (g))) := ⟨hS3.1.farRow (by omega) _, below_setRow hS3.2 _ _ (by omega)⟩
          have hr4 := hr3.setRow (g)
          refine hK.out _ _ hS4 (fun _ => ?_)
          clear hK K
          try simp only [Act.put, List.setIfInBounds_toArray, List.set_cons_zero, List.set_cons_succ]
          have hHeld := hS4
          refine wpAnyH_take (i := 4) (v := ?_) rfl (by kernel_rfl) (by kernel_rfl) (by kernel_rfl) (fun _ _ _ h => h) (Or.inl ⟨by rfl, ?_⟩) hHeld ?_
          rotate_left
          · (intro w hSw; go_simp; (try with_reducible rfl))
          simp only [Act.put, List.getElem_toArray, List.getElem_cons_zero, List.getElem_cons_succ, List.setIfInBounds_toArray, List.set_cons_zero, List.set_cons_succ]
          refine wpAnyH_done (by kernel_rfl) ?_ _
          go_wp2_with fail
          refine bodyPost_ret (v := .tuple #[.agg (arr .i64 6 (g)), .bool false]) ?_ rfl ⟨_, false, rfl, (fun h => Bool.noConfusion h), (fun _ => Ta.out), hS4.2⟩
          exact results_cell_tmp (ty := 23) (p := 4) (q := 5) (by kernel_rfl) _ _ (w.heap.size + 1) 23 _ (0, 0) _ rfl hr4 Tryd.underlying23 rfl hsz
    · have Ta := Lib.hid (show rd c r = none by rw [HRD.out, if_neg hq0])
      have hq : q = -1 := by omega
      subst hq
      have HRr := Lib.hid hr
      clear ha hr
      have hsz0 : (Tryd.prog.info? 23).map (·.size) = some (arr .i64 6 zeroC).size := by rw [arr_size]; exact size6
      have h1c := arr_one .i64 6 zeroC
      have hz := zero6
      rcases hcase with hcase | hcase
      · skip
        go_wp2_with fail
        refine (HI.out _).mono ?_
        rintro e w3 ⟨rfl, hb3⟩
        have hr3 := HRr.out.keep hb3
        go_wp2_with (refine wpList_store_row rfl 23 (.tmp 4) (.tmp 30) rfl (w.heap.size + 1) _ rfl rfl 23 (arr .i64 6 zeroC) hr3 hsz0 rfl h1c ?_)
        refine bodyPost_ret (v := .tuple #[.agg (arr .i64 6 zeroC), .bool false]) ?_ rfl ⟨_, false, rfl, (fun h => by cases h), fun _ => Ta.out, below_setRow (keepB hb3 hb1) _ _ (by omega)⟩
        exact results_cell_tmp (ty := 23) (p := 4) (q := 5) (by kernel_rfl) _ _ (w.heap.size + 1) 23 _ (0, 0) _ rfl (hr3.setRow _) Tryd.underlying23 rfl hsz0
      · skip
        go_wp2_with fail
        refine (HI.out _).mono ?_
        rintro e w3 ⟨rfl, hb3⟩
        have hr3 := HRr.out.keep hb3
        go_wp2_with (refine wpList_store_row rfl 23 (.tmp 4) (.tmp 30) rfl (w.heap.size + 1) _ rfl rfl 23 (arr .i64 6 zeroC) hr3 hsz0 rfl h1c ?_)
        refine bodyPost_ret (v := .tuple #[.agg (arr .i64 6 zeroC), .bool false]) ?_ rfl ⟨_, false, rfl, (fun h => by cases h), fun _ => Ta.out, below_setRow (keepB hb3 hb1) _ _ (by omega)⟩
        exact results_cell_tmp (ty := 23) (p := 4) (q := 5) (by kernel_rfl) _ _ (w.heap.size + 1) 23 _ (0, 0) _ rfl (hr3.setRow _) Tryd.underlying23 rfl hsz0
end Go.Proofs.YtammchaihangnaaDoor
