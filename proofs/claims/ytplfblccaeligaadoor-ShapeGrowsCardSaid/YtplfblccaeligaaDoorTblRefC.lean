/- Layer 8: the reference's Card: the Beasts from 10 to 49. -/
import Derived.Test.YtplfblccaeligaaDoorShG5
import Derived.Deep.DeepCutAuto
namespace Go.Proofs.YtplfblccaeligaaDoor
open Go.RowKit Ex Mx
/-- A list of literals is built: the operation alone. -/
theorem wp_lits {o : Oper} {a : Act} {w : World} {K : Act → World → Prop} {Q : Exit → Act → World → Prop} {n : Nat} {ps : Array (Nat × Operand)}
    (ho : o.op = .buildSlice 23 n ps) (hev : ∀ ρ : Operand → Value, (∀ v, ρ (.const v) = v) → (ps.map fun (i, x) => (i, ρ x)) = ps.map fun (i, x) => (i, litV x)) (hn : (rowOf ps).length = n)
    (hrun : ∀ W, (Instr.buildSlice 23 n (ps.map fun (i, x) => (i, litV x))).run Tryd.prog W = .ok (.slice (some ⟨W.heap.size, 0, none⟩) n n) (W.alloc (.cells ((rowOf ps).map (Value.int .i64)).toArray 3)))
    (hK : ∀ w', Below w.heap.size w w' → (∀ q, q < n → w'.cell? ⟨w.heap.size, q, none⟩ = some (.int .i64 ((rowOf ps).getD q 0))) → K (a.put o.dst (.slice (some ⟨w.heap.size, 0, none⟩) n n)) w') : o.wp Tryd.prog a w K Q := by
  have hb : Below w.heap.size w (w.alloc (.cells ((rowOf ps).map (Value.int .i64)).toArray 3)) := (Below.refl _ _).alloc (Nat.le_refl _) _
  have hN := nums_new w (rowOf ps) 3
  have := hK _ hb fun q hq => by
    have h := (nums_cell hN q (by omega)).2
    rw [Nat.zero_add] at h
    exact h
  unfold Oper.wp
  simp only [execOp, ho, hev a.eval (fun _ => rfl)]
  simp [hrun, Result.andThen]
  exact this
theorem FS.row {w W : World} {P k cc G : Nat} {c : CardT} {A : Option Addr} (h : FS w P c A k cc W) (hG : P < G) (cs : Array Value) : FS w P c A k cc (W.setRow G cs) := by
  have hlt := h.lt
  exact ⟨(setRow_other _ _ _ _ (by omega)).trans h.cd, (setRow_other _ _ _ _ (by omega)).trans h.z, below_setRow h.b _ _ (by omega), h.lt⟩
theorem getD_few {l : List Int} (h : ∀ x ∈ l, 0 ≤ x ∧ x ≤ 9) (k : Nat) : 0 ≤ l.getD k 0 ∧ l.getD k 0 ≤ 9 := by
  rw [List.getD_eq_getElem?_getD]
  by_cases e : k < l.length
  · rw [List.getElem?_eq_getElem e]; exact h _ (List.getElem_mem e)
  · rw [List.getElem?_eq_none (by omega)]; exact ⟨by decide, by decide⟩
theorem pairs8_few (k : Nat) : 0 ≤ pairs8 k ∧ pairs8 k ≤ 9 := getD_few (by decide) k
theorem tough8_few (k : Nat) : 0 ≤ tough8 k ∧ tough8 k ≤ 9 := getD_few (by decide) k
theorem wide_tw {j k : Nat} {tw : Int} (h : (tw = 1 ∨ tw = 2) ∧ k < 8) : Wide (updI (updI noC j tw) 5 (k : Int)) := fun i hi => by
  show _ ≤ updI (updI noC j tw) 5 (k : Int) i ∧ updI (updI noC j tw) 5 (k : Int) i ≤ _
  unfold updI noC
  split
  · omega
  · split <;> omega
def BtRel (w : World) (P : Nat) (c : CardT) (k : Nat) (s : Value) (wx : World) : Prop := s = .int .i64 (k : Int) ∧ FS w P c none 0 0 wx
set_option linter.unusedSimpArgs false in
set_option maxRecDepth 100000 in
set_option maxHeartbeats 8000000 in
theorem cardRef_beast (n : Nat) (w : World) (h0 : 10 ≤ n) (h1 : n < 50) : Calls Tryd.prog 22 #[.int .i64 (n : Int)] w (CardQ (tblC n) (.bool true) w) := by
  have d0 : decide ((n : Int) < 0) = false := by simp
  have d1 : decide ((119 : Int) < (n : Int)) = false := by simp; omega
  have d2 : decide ((n : Int) < 5) = false := by simp; omega
  have d3 : decide ((n : Int) < 10) = false := by simp; omega
  have d4 : decide ((n : Int) < 50) = true := by simp; omega
  go_enter Tryd.func22, Tryd.ntmps22
  go_upto_region 4 with fail
  obtain ⟨w1, hw1⟩ : ∃ w1, w1 = (w.alloc (.cells zeroD 55)).alloc (.cells lit5 55) := ⟨_, rfl⟩
  have HS1 := Lib.hid (show FS w (w.heap.size + 1) colour5 none 0 0 w1 from by
    rw [hw1]
    refine ⟨?_, ?_, ((Below.refl _ _).alloc (Nat.le_refl _) _).alloc (by simp) _, Nat.lt_succ_self _⟩
    · have := CdAt.new (w.alloc (.cells zeroD 55)) lit5
      rw [← lit5_card]
      simpa using this
    · exact (CdAt.new w zeroD).keep ((Below.refl _ _).alloc (Nat.le_refl _) _))
  rw [← hw1]
  clear hw1
  obtain ⟨P, hP⟩ : ∃ P, P = w.heap.size + 1 := ⟨_, rfl⟩
  rw [← hP] at HS1 ⊢
  clear hP
  obtain ⟨j, hj⟩ : ∃ j, j = n % 5 := ⟨_, rfl⟩
  obtain ⟨k, hk⟩ : ∃ k, k = (n - 10) / 5 := ⟨_, rfl⟩
  have HT := Lib.hid (show tblC n = ⟨1, (j : Int), false, updI (updI noC j (if 3 < k then 2 else 1)) 5 (k : Int), pairs8 k + (if j = 3 then 1 else 0), tough8 k + (if j = 4 then 1 else 0), says8 k, beastA j k⟩ by
    unfold tblC
    rw [if_neg (by omega), if_neg (by omega), if_pos h1, ← hj, ← hk])
  obtain ⟨m, hm⟩ : ∃ m, m = n - 10 := ⟨_, rfl⟩
  have r5 : (n : Int) % 5 = (j : Int) := by omega
  have vm : IntKind.i64.wrap ((n : Int) - 10) = (m : Int) := by rw [i64_in (by omega) (by omega)]; omega
  have vk : (m : Int) / 5 = (k : Int) := by omega
  have hj5 : j < 5 := by omega
  have hk8 : k < 8 := by omega
  clear hj hk hm
  go_upto_region 11 with fail
  clear d0 d1 d2 d3 d4 h0 h1 vm vk
  have f0 := HS1.out.frozen 0
  have k0 : w1.cell? ⟨P, 0, none⟩ = some (.int .i64 0) := HS1.out.kind
  have f1 := HS1.out.frozen 1
  have k1 : w1.cell? ⟨P, 1, none⟩ = some (.int .i64 5) := HS1.out.colour
  go_upto_region 12 with fail
  obtain ⟨w2, hW⟩ : ∃ W, W = (w1.setCell ⟨P, 0, none⟩ (.int .i64 1)).setCell ⟨P, 1, none⟩ (.int .i64 (j : Int)) := ⟨_, rfl⟩
  have HS2 := Lib.hid (show FS w P ⟨1, (j : Int), false, noC, 0, 0, 0, []⟩ none 0 0 w2 by rw [hW]; exact ((HS1.out.set_ 0 _ (set_kind _ _ _ _ _)).set_ 1 _ (set_colour _ _ _ _ _)))
  rw [← hW]
  clear hW f0 k0 f1 k1 HS1 r5
  have k1 : w2.cell? ⟨P, 1, none⟩ = some (.int .i64 (j : Int)) := HS2.out.colour
  have kj : w2.cell? ⟨P, 3 + j, none⟩ = some (.int .i64 0) := HS2.out.cost (by omega)
  have fj := HS2.out.frozen (3 + j)
  have g0 : (0 : Int) ≤ (j : Int) := by omega
  have g6 : (j : Int) < 6 := by omega
  go_upto_region 13 with fail
  obtain ⟨w3, hW⟩ : ∃ W, W = w2.setCell ⟨P, 3 + j, none⟩ (.int .i64 1) := ⟨_, rfl⟩
  have HS3 := Lib.hid (show FS w P ⟨1, (j : Int), false, updI noC j 1, 0, 0, 0, []⟩ none 0 0 w3 by rw [hW]; exact (HS2.out.set_ (3 + j) _ (set_cost _ _ _ _ j (by omega) 1)))
  rw [← hW]
  clear hW kj fj k1 HS2
  obtain ⟨tw, htw⟩ : ∃ x : Int, x = if 3 < k then 2 else 1 := ⟨_, rfl⟩
  rw [← htw] at HT
  have HTw := Lib.hid (show (tw = 1 ∨ tw = 2) ∧ k < 8 from ⟨by rw [htw]; split <;> omega, hk8⟩)
  obtain ⟨B3, hB3⟩ : ∃ B, decide ((3 : Int) < (k : Int)) = B := ⟨_, rfl⟩
  go_upto_if 53 with fail
  go_cut [5] (fun s wx => BtRel w P ⟨1, (j : Int), false, updI noC j tw, 0, 0, 0, []⟩ k s wx)
  case first =>
    cases B3
    case true =>
      have h3 : 3 < k := by simp at hB3; omega
      clear hB3
      have k1 : w3.cell? ⟨P, 1, none⟩ = some (.int .i64 (j : Int)) := HS3.out.colour
      have kj : w3.cell? ⟨P, 3 + j, none⟩ = some (.int .i64 (updI noC j 1 j)) := HS3.out.cost (by omega)
      have fj := HS3.out.frozen (3 + j)
      have e2 : tw = 2 := by rw [htw, if_pos h3]
      have HR := Lib.hid (show FS w P ⟨1, (j : Int), false, updI noC j tw, 0, 0, 0, []⟩ none 0 0 (w3.setCell ⟨P, 3 + j, none⟩ (.int .i64 2)) by
        have h := HS3.out.set_ (3 + j) _ (set_cost _ _ _ _ j (by omega) 2)
        have he : updI (updI noC j 1) j 2 = updI noC j tw := by rw [e2]; funext i; unfold updI; split <;> rfl
        rw [he] at h
        exact h)
      clear h3 htw e2
      go_wp2_with fail
      go_meet
      exact ⟨rfl, HR.out⟩
    case false =>
      have h3 : ¬ 3 < k := by simp at hB3; omega
      clear hB3
      have e1 : tw = 1 := by rw [htw, if_neg h3]
      have HR := Lib.hid (show FS w P ⟨1, (j : Int), false, updI noC j tw, 0, 0, 0, []⟩ none 0 0 w3 by rw [e1]; exact HS3.out)
      clear h3 htw e1
      go_wp2_with fail
      go_meet
      exact ⟨rfl, HR.out⟩
  case rest =>
    obtain ⟨rfl, hS4⟩ := hcut
    clear htw hB3 B3
    have HS4 := Lib.hid hS4
    have k8 : wc.cell? ⟨P, 8, none⟩ = some (.int .i64 (updI noC j tw 5)) := hS4.cost (j := 5) (by omega)
    have f8 := hS4.frozen 8
    clear hS4 g0 g6 HS3
    go_upto_region 16 with fail
    obtain ⟨w5, hW⟩ : ∃ W, W = wc.setCell ⟨P, 8, none⟩ (.int .i64 (k : Int)) := ⟨_, rfl⟩
    have HS5 := Lib.hid (show FS w P ⟨1, (j : Int), false, updI (updI noC j tw) 5 (k : Int), 0, 0, 0, []⟩ none 0 0 w5 by rw [hW]; exact HS4.out.set_ 8 _ (set_cost _ _ _ _ 5 (by omega) _))
    rw [← hW]
    clear hW k8 f8 HS4
    have l0 : (0 : Int) ≤ (k : Int) := by omega
    have l1 : (k : Int) < 8 := by omega
    clear wc
    go_cut [5] (fun s wx => BtRel w P ⟨1, (j : Int), false, updI (updI noC j tw) 5 (k : Int), pairs8 k, tough8 k, 0, []⟩ k s wx)
    case first =>
      refine wp_region_held_drew (S := fun _ => True) (by kernel_rfl) trivial (fun hHeld => ?_)
      have HS6 := Lib.hid (HS5.out.keep (Below.refl w5.heap.size w5).drew)
      generalize w5.drew = V0 at HS6 ⊢
      have HPl := Lib.hid HS6.out.cd.lt
      refine wpAnyH_take (i := 1) (v := ?_) rfl (by kernel_rfl) (by kernel_rfl) (by kernel_rfl) (fun _ _ _ h => h) (Or.inl ⟨by rfl, ?_⟩) hHeld ?_
      rotate_left
      · (intro w hSw; go_simp; (try with_reducible rfl))
      simp only [Act.put, List.getElem_toArray, List.getElem_cons_zero, List.getElem_cons_succ, List.setIfInBounds_toArray, List.set_cons_zero, List.set_cons_succ]
      refine wpAnyH_take (i := 5) (v := ?_) rfl (by kernel_rfl) (by kernel_rfl) (by kernel_rfl) (fun _ _ _ h => h) (Or.inl ⟨by rfl, ?_⟩) hHeld ?_
      rotate_left
      · (intro w hSw; go_simp; (try with_reducible rfl))
      simp only [Act.put, List.getElem_toArray, List.getElem_cons_zero, List.getElem_cons_succ, List.setIfInBounds_toArray, List.set_cons_zero, List.set_cons_succ]
      refine wpAnyH_ready (rs := [0, 4]) (by kernel_rfl) (by simp) ?_
      refine AllReadyH.cons rfl (fun K hK => ?_) (AllReadyH.cons rfl (fun K hK => ?_) AllReadyH.nil)
      all_goals simp only [List.getElem_toArray, List.getElem_cons_zero, List.getElem_cons_succ]
      · skip
        refine wp_lits rfl (fun ρ h => by simp only [List.map_toArray, List.map_cons, List.map_nil, h, litV]) rfl (fun _ => by kernel_rfl) ?_
        intro V1 hbv hcv
        have HS7 := Lib.hid (HS6.out.keep hbv)
        have qa : V1.cell? ⟨V0.heap.size, k, none⟩ = some (.int .i64 (pairs8 k)) := hcv k hk8
        have hszv := hbv.size
        clear hcv
        refine hK.out _ _ trivial (fun _ => ?_)
        clear hK K
        try simp only [Act.put, List.setIfInBounds_toArray, List.set_cons_zero, List.set_cons_succ]
        refine anyH_mono (S := fun W => W.cell? ⟨V0.heap.size, k, none⟩ = some (.int .i64 (pairs8 k))) (fun _ h => trivial) _ _ _ _ ?_
        replace hHeld := qa
        refine wpAnyH_take (i := 2) (v := ?_) rfl (by kernel_rfl) (by kernel_rfl) (by kernel_rfl) (fun _ _ _ h => h) (Or.inl ⟨by rfl, ?_⟩) hHeld ?_
        rotate_left
        · (intro w hSw; go_simp; (try with_reducible rfl))
        simp only [Act.put, List.getElem_toArray, List.getElem_cons_zero, List.getElem_cons_succ, List.setIfInBounds_toArray, List.set_cons_zero, List.set_cons_succ]
        refine wpAnyH_take (i := 3) (v := ?_) rfl (by kernel_rfl) (by kernel_rfl) (by kernel_rfl) (fun _ _ _ h => h) (Or.inl ⟨by rfl, ?_⟩) hHeld ?_
        rotate_left
        · (intro w hSw; go_simp; (try with_reducible rfl))
        simp only [Act.put, List.getElem_toArray, List.getElem_cons_zero, List.getElem_cons_succ, List.setIfInBounds_toArray, List.set_cons_zero, List.set_cons_succ]
        refine wpAnyH_take (i := 8) (v := ?_) rfl (by kernel_rfl) (by kernel_rfl) (by kernel_rfl) (fun _ _ _ h => h) (Or.inl ⟨by rfl, ?_⟩) hHeld ?_
        rotate_left
        · (intro w hSw; go_simp; (try with_reducible rfl))
        simp only [Act.put, List.getElem_toArray, List.getElem_cons_zero, List.getElem_cons_succ, List.setIfInBounds_toArray, List.set_cons_zero, List.set_cons_succ]
        have HA := Lib.hid (show V0.heap.size < V1.heap.size ∧ P ≠ V0.heap.size from ⟨World.block_lt_of_cell? V1 ⟨V0.heap.size, k, none⟩ qa, by have := HPl.out; omega⟩)
        clear qa
        refine wpAnyH_ready (rs := [4, 9]) (by kernel_rfl) (by simp) ?_
        refine AllReadyH.cons rfl (fun K hK => ?_) (AllReadyH.cons rfl (fun K hK => ?_) AllReadyH.nil)
        all_goals simp only [List.getElem_toArray, List.getElem_cons_zero, List.getElem_cons_succ]
        · skip
          refine wp_lits rfl (fun ρ h => by simp only [List.map_toArray, List.map_cons, List.map_nil, h, litV]) rfl (fun _ => by kernel_rfl) ?_
          intro V3 hbv hcv
          have HS8 := Lib.hid (HS7.out.keep hbv)
          have qb : V3.cell? ⟨V1.heap.size, k, none⟩ = some (.int .i64 (tough8 k)) := hcv k hk8
          have hszv := hbv.size
          clear hcv
          have hH2 : V3.cell? ⟨V0.heap.size, k, none⟩ = some (.int .i64 (pairs8 k)) := (hbv.cell HA.out.1).trans hHeld
          have HB := Lib.hid (show P ≠ V1.heap.size from by have := HS7.out.cd.lt; omega)
          refine hK.out _ _ hH2 (fun _ => ?_)
          clear hK K
          try simp only [Act.put, List.setIfInBounds_toArray, List.set_cons_zero, List.set_cons_succ]
          replace hHeld := hH2
          clear hH2 hbv
          refine anyH_mono (S := fun W => W.cell? ⟨V0.heap.size, k, none⟩ = some (.int .i64 (pairs8 k)) ∧ W.cell? ⟨V1.heap.size, k, none⟩ = some (.int .i64 (tough8 k))) (fun _ h => h.1) _ _ _ _ ?_
          have hHeld := And.intro hHeld qb
          refine wpAnyH_take (i := 6) (v := ?_) rfl (by kernel_rfl) (by kernel_rfl) (by kernel_rfl) (fun _ _ _ h => h) (Or.inl ⟨by rfl, ?_⟩) hHeld ?_
          rotate_left
          · (intro w hSw; go_simp; (try with_reducible rfl))
          simp only [Act.put, List.getElem_toArray, List.getElem_cons_zero, List.getElem_cons_succ, List.setIfInBounds_toArray, List.set_cons_zero, List.set_cons_succ]
          refine wpAnyH_take (i := 7) (v := ?_) rfl (by kernel_rfl) (by kernel_rfl) (by kernel_rfl) (fun _ _ _ h => h) (Or.inl ⟨by rfl, ?_⟩) hHeld ?_
          rotate_left
          · (intro w hSw; go_simp; (try with_reducible rfl))
          simp only [Act.put, List.getElem_toArray, List.getElem_cons_zero, List.getElem_cons_succ, List.setIfInBounds_toArray, List.set_cons_zero, List.set_cons_succ]
          have kf : V3.cell? ⟨P, 9, none⟩ = some (.int .i64 0) := HS8.out.power
          have ff := HS8.out.frozen 9
          refine wpAnyH_ready (rs := [9]) (by kernel_rfl) (by simp) ?_
          refine AllReadyH.cons rfl (fun K hK => ?_) AllReadyH.nil
          simp only [List.getElem_toArray, List.getElem_cons_zero, List.getElem_cons_succ]
          go_simp
          obtain ⟨V4, hW⟩ : ∃ W, W = V3.setCell ⟨P, 9, none⟩ (.int .i64 (pairs8 k)) := ⟨_, rfl⟩
          have HS9 := Lib.hid (show FS w P ⟨1, (j : Int), false, updI (updI noC j tw) 5 (k : Int), pairs8 k, 0, 0, []⟩ none 0 0 V4 by rw [hW]; exact HS8.out.set_ 9 _ (set_power _ _ _ _ _))
          have hHeld2 : V4.cell? ⟨V0.heap.size, k, none⟩ = some (.int .i64 (pairs8 k)) ∧ V4.cell? ⟨V1.heap.size, k, none⟩ = some (.int .i64 (tough8 k)) := by
            rw [hW]
            exact ⟨(World.cell?_setCell_other V3 ⟨P, 9, none⟩ ⟨V0.heap.size, k, none⟩ _ (by intro e; injection e with e1 e2; exact HA.out.2 e1)).trans hHeld.1,
              (World.cell?_setCell_other V3 ⟨P, 9, none⟩ ⟨V1.heap.size, k, none⟩ _ (by intro e; injection e with e1 e2; exact HB.out e1)).trans hHeld.2⟩
          rw [← hW]
          clear hW kf ff
          have hHeld := hHeld2
          refine hK.out _ _ hHeld (fun _ => ?_)
          clear hK K
          try simp only [Act.put, List.setIfInBounds_toArray, List.set_cons_zero, List.set_cons_succ]
          refine wpAnyH_take (i := 10) (v := ?_) rfl (by kernel_rfl) (by kernel_rfl) (by kernel_rfl) (fun _ _ _ h => h) (Or.inl ⟨by rfl, ?_⟩) hHeld ?_
          rotate_left
          · (intro w hSw; go_simp; (try with_reducible rfl))
          simp only [Act.put, List.getElem_toArray, List.getElem_cons_zero, List.getElem_cons_succ, List.setIfInBounds_toArray, List.set_cons_zero, List.set_cons_succ]
          have kf : V4.cell? ⟨P, 10, none⟩ = some (.int .i64 0) := HS9.out.tough
          have ff := HS9.out.frozen 10
          refine wpAnyH_ready (rs := [11]) (by kernel_rfl) (by simp) ?_
          refine AllReadyH.cons rfl (fun K hK => ?_) AllReadyH.nil
          simp only [List.getElem_toArray, List.getElem_cons_zero, List.getElem_cons_succ]
          go_simp
          have HF := Lib.hid (show FS w P ⟨1, (j : Int), false, updI (updI noC j tw) 5 (k : Int), pairs8 k, tough8 k, 0, []⟩ none 0 0 (V4.setCell ⟨P, 10, none⟩ (.int .i64 (tough8 k))) from HS9.out.set_ 10 _ (set_tough _ _ _ _ _))
          refine hK.out _ _ ⟨(World.cell?_setCell_other V4 ⟨P, 10, none⟩ ⟨V0.heap.size, k, none⟩ _ (by intro e; injection e with e1 e2; exact HA.out.2 e1)).trans hHeld.1, (World.cell?_setCell_other V4 ⟨P, 10, none⟩ ⟨V1.heap.size, k, none⟩ _ (by intro e; injection e with e1 e2; exact HB.out e1)).trans hHeld.2⟩ (fun _ => ?_)
          clear hK K
          try simp only [Act.put, List.setIfInBounds_toArray, List.set_cons_zero, List.set_cons_succ]
          refine wpAnyH_done (by kernel_rfl) ?_ _
          clear kf ff
          go_wp2_with fail
          go_meet
          exact ⟨rfl, HF.out⟩
        · skip
          have kf : V1.cell? ⟨P, 9, none⟩ = some (.int .i64 0) := HS7.out.power
          have ff := HS7.out.frozen 9
          go_simp
          obtain ⟨V2, hW⟩ : ∃ W, W = V1.setCell ⟨P, 9, none⟩ (.int .i64 (pairs8 k)) := ⟨_, rfl⟩
          have HS8 := Lib.hid (show FS w P ⟨1, (j : Int), false, updI (updI noC j tw) 5 (k : Int), pairs8 k, 0, 0, []⟩ none 0 0 V2 by rw [hW]; exact HS7.out.set_ 9 _ (set_power _ _ _ _ _))
          have hHeld2 : V2.cell? ⟨V0.heap.size, k, none⟩ = some (.int .i64 (pairs8 k)) := by rw [hW]; exact (World.cell?_setCell_other V1 ⟨P, 9, none⟩ ⟨V0.heap.size, k, none⟩ _ (by intro e; injection e with e1 e2; exact HA.out.2 e1)).trans hHeld
          have HSz := Lib.hid (show V2.heap.size = V1.heap.size by rw [hW]; simp [World.setCell])
          rw [← hW]
          clear hW kf ff
          replace hHeld := hHeld2
          clear hHeld2
          refine hK.out _ _ hHeld (fun _ => ?_)
          clear hK K
          try simp only [Act.put, List.setIfInBounds_toArray, List.set_cons_zero, List.set_cons_succ]
          refine wpAnyH_ready (rs := [4]) (by kernel_rfl) (by simp) ?_
          refine AllReadyH.cons rfl (fun K hK => ?_) AllReadyH.nil
          simp only [List.getElem_toArray, List.getElem_cons_zero, List.getElem_cons_succ]
          refine wp_lits rfl (fun ρ h => by simp only [List.map_toArray, List.map_cons, List.map_nil, h, litV]) rfl (fun _ => by kernel_rfl) ?_
          intro V3 hbv hcv
          have HS9 := Lib.hid (HS8.out.keep hbv)
          have qb : V3.cell? ⟨V2.heap.size, k, none⟩ = some (.int .i64 (tough8 k)) := hcv k hk8
          have hszv := hbv.size
          clear hcv
          have hH2 : V3.cell? ⟨V0.heap.size, k, none⟩ = some (.int .i64 (pairs8 k)) := (hbv.cell (show V0.heap.size < V2.heap.size by have := HA.out.1; rw [HSz.out]; exact this)).trans hHeld
          have HB := Lib.hid (show P ≠ V2.heap.size from by have := HS8.out.cd.lt; omega)
          refine hK.out _ _ hH2 (fun _ => ?_)
          clear hK K
          try simp only [Act.put, List.setIfInBounds_toArray, List.set_cons_zero, List.set_cons_succ]
          replace hHeld := hH2
          clear hH2 hbv
          refine anyH_mono (S := fun W => W.cell? ⟨V0.heap.size, k, none⟩ = some (.int .i64 (pairs8 k)) ∧ W.cell? ⟨V2.heap.size, k, none⟩ = some (.int .i64 (tough8 k))) (fun _ h => h.1) _ _ _ _ ?_
          have hHeld := And.intro hHeld qb
          refine wpAnyH_take (i := 6) (v := ?_) rfl (by kernel_rfl) (by kernel_rfl) (by kernel_rfl) (fun _ _ _ h => h) (Or.inl ⟨by rfl, ?_⟩) hHeld ?_
          rotate_left
          · (intro w hSw; go_simp; (try with_reducible rfl))
          simp only [Act.put, List.getElem_toArray, List.getElem_cons_zero, List.getElem_cons_succ, List.setIfInBounds_toArray, List.set_cons_zero, List.set_cons_succ]
          refine wpAnyH_take (i := 7) (v := ?_) rfl (by kernel_rfl) (by kernel_rfl) (by kernel_rfl) (fun _ _ _ h => h) (Or.inl ⟨by rfl, ?_⟩) hHeld ?_
          rotate_left
          · (intro w hSw; go_simp; (try with_reducible rfl))
          simp only [Act.put, List.getElem_toArray, List.getElem_cons_zero, List.getElem_cons_succ, List.setIfInBounds_toArray, List.set_cons_zero, List.set_cons_succ]
          refine wpAnyH_take (i := 10) (v := ?_) rfl (by kernel_rfl) (by kernel_rfl) (by kernel_rfl) (fun _ _ _ h => h) (Or.inl ⟨by rfl, ?_⟩) hHeld ?_
          rotate_left
          · (intro w hSw; go_simp; (try with_reducible rfl))
          simp only [Act.put, List.getElem_toArray, List.getElem_cons_zero, List.getElem_cons_succ, List.setIfInBounds_toArray, List.set_cons_zero, List.set_cons_succ]
          have kf : V3.cell? ⟨P, 10, none⟩ = some (.int .i64 0) := HS9.out.tough
          have ff := HS9.out.frozen 10
          refine wpAnyH_ready (rs := [11]) (by kernel_rfl) (by simp) ?_
          refine AllReadyH.cons rfl (fun K hK => ?_) AllReadyH.nil
          simp only [List.getElem_toArray, List.getElem_cons_zero, List.getElem_cons_succ]
          go_simp
          have HF := Lib.hid (show FS w P ⟨1, (j : Int), false, updI (updI noC j tw) 5 (k : Int), pairs8 k, tough8 k, 0, []⟩ none 0 0 (V3.setCell ⟨P, 10, none⟩ (.int .i64 (tough8 k))) from HS9.out.set_ 10 _ (set_tough _ _ _ _ _))
          refine hK.out _ _ ⟨(World.cell?_setCell_other V3 ⟨P, 10, none⟩ ⟨V0.heap.size, k, none⟩ _ (by intro e; injection e with e1 e2; exact HA.out.2 e1)).trans hHeld.1, (World.cell?_setCell_other V3 ⟨P, 10, none⟩ ⟨V2.heap.size, k, none⟩ _ (by intro e; injection e with e1 e2; exact HB.out e1)).trans hHeld.2⟩ (fun _ => ?_)
          clear hK K
          try simp only [Act.put, List.setIfInBounds_toArray, List.set_cons_zero, List.set_cons_succ]
          refine wpAnyH_done (by kernel_rfl) ?_ _
          clear kf ff
          go_wp2_with fail
          go_meet
          exact ⟨rfl, HF.out⟩
      · skip
        refine wp_lits rfl (fun ρ h => by simp only [List.map_toArray, List.map_cons, List.map_nil, h, litV]) rfl (fun _ => by kernel_rfl) ?_
        intro V1 hbv hcv
        have HS7 := Lib.hid (HS6.out.keep hbv)
        have qb : V1.cell? ⟨V0.heap.size, k, none⟩ = some (.int .i64 (tough8 k)) := hcv k hk8
        have hszv := hbv.size
        clear hcv
        refine hK.out _ _ trivial (fun _ => ?_)
        clear hK K
        try simp only [Act.put, List.setIfInBounds_toArray, List.set_cons_zero, List.set_cons_succ]
        refine anyH_mono (S := fun W => W.cell? ⟨V0.heap.size, k, none⟩ = some (.int .i64 (tough8 k))) (fun _ h => trivial) _ _ _ _ ?_
        replace hHeld := qb
        refine wpAnyH_take (i := 6) (v := ?_) rfl (by kernel_rfl) (by kernel_rfl) (by kernel_rfl) (fun _ _ _ h => h) (Or.inl ⟨by rfl, ?_⟩) hHeld ?_
        rotate_left
        · (intro w hSw; go_simp; (try with_reducible rfl))
        simp only [Act.put, List.getElem_toArray, List.getElem_cons_zero, List.getElem_cons_succ, List.setIfInBounds_toArray, List.set_cons_zero, List.set_cons_succ]
        refine wpAnyH_take (i := 7) (v := ?_) rfl (by kernel_rfl) (by kernel_rfl) (by kernel_rfl) (fun _ _ _ h => h) (Or.inl ⟨by rfl, ?_⟩) hHeld ?_
        rotate_left
        · (intro w hSw; go_simp; (try with_reducible rfl))
        simp only [Act.put, List.getElem_toArray, List.getElem_cons_zero, List.getElem_cons_succ, List.setIfInBounds_toArray, List.set_cons_zero, List.set_cons_succ]
        have HB := Lib.hid (show P ≠ V0.heap.size from by have := HPl.out; omega)
        have hlt := World.block_lt_of_cell? V1 ⟨V0.heap.size, k, none⟩ qb
        clear qb
        refine wpAnyH_ready (rs := [0]) (by kernel_rfl) (by simp) ?_
        refine AllReadyH.cons rfl (fun K hK => ?_) AllReadyH.nil
        simp only [List.getElem_toArray, List.getElem_cons_zero, List.getElem_cons_succ]
        refine wp_lits rfl (fun ρ h => by simp only [List.map_toArray, List.map_cons, List.map_nil, h, litV]) rfl (fun _ => by kernel_rfl) ?_
        intro V3 hbv hcv
        have HS8 := Lib.hid (HS7.out.keep hbv)
        have qa : V3.cell? ⟨V1.heap.size, k, none⟩ = some (.int .i64 (pairs8 k)) := hcv k hk8
        have hszv := hbv.size
        clear hcv
        have hH2 : V3.cell? ⟨V0.heap.size, k, none⟩ = some (.int .i64 (tough8 k)) := (hbv.cell hlt).trans hHeld
        have HA := Lib.hid (show V1.heap.size < V3.heap.size ∧ P ≠ V1.heap.size from ⟨World.block_lt_of_cell? V3 ⟨V1.heap.size, k, none⟩ qa, by have := HS7.out.cd.lt; omega⟩)
        refine hK.out _ _ hH2 (fun _ => ?_)
        clear hK K
        try simp only [Act.put, List.setIfInBounds_toArray, List.set_cons_zero, List.set_cons_succ]
        replace hHeld := hH2
        clear hH2 hbv
        refine anyH_mono (S := fun W => W.cell? ⟨V1.heap.size, k, none⟩ = some (.int .i64 (pairs8 k)) ∧ W.cell? ⟨V0.heap.size, k, none⟩ = some (.int .i64 (tough8 k))) (fun _ h => h.2) _ _ _ _ ?_
        have hHeld := And.intro qa hHeld
        refine wpAnyH_take (i := 2) (v := ?_) rfl (by kernel_rfl) (by kernel_rfl) (by kernel_rfl) (fun _ _ _ h => h) (Or.inl ⟨by rfl, ?_⟩) hHeld ?_
        rotate_left
        · (intro w hSw; go_simp; (try with_reducible rfl))
        simp only [Act.put, List.getElem_toArray, List.getElem_cons_zero, List.getElem_cons_succ, List.setIfInBounds_toArray, List.set_cons_zero, List.set_cons_succ]
        refine wpAnyH_take (i := 3) (v := ?_) rfl (by kernel_rfl) (by kernel_rfl) (by kernel_rfl) (fun _ _ _ h => h) (Or.inl ⟨by rfl, ?_⟩) hHeld ?_
        rotate_left
        · (intro w hSw; go_simp; (try with_reducible rfl))
        simp only [Act.put, List.getElem_toArray, List.getElem_cons_zero, List.getElem_cons_succ, List.setIfInBounds_toArray, List.set_cons_zero, List.set_cons_succ]
        refine wpAnyH_take (i := 8) (v := ?_) rfl (by kernel_rfl) (by kernel_rfl) (by kernel_rfl) (fun _ _ _ h => h) (Or.inl ⟨by rfl, ?_⟩) hHeld ?_
        rotate_left
        · (intro w hSw; go_simp; (try with_reducible rfl))
        simp only [Act.put, List.getElem_toArray, List.getElem_cons_zero, List.getElem_cons_succ, List.setIfInBounds_toArray, List.set_cons_zero, List.set_cons_succ]
        have kf : V3.cell? ⟨P, 9, none⟩ = some (.int .i64 0) := HS8.out.power
        have ff := HS8.out.frozen 9
        refine wpAnyH_ready (rs := [9]) (by kernel_rfl) (by simp) ?_
        refine AllReadyH.cons rfl (fun K hK => ?_) AllReadyH.nil
        simp only [List.getElem_toArray, List.getElem_cons_zero, List.getElem_cons_succ]
        go_simp
        obtain ⟨V4, hW⟩ : ∃ W, W = V3.setCell ⟨P, 9, none⟩ (.int .i64 (pairs8 k)) := ⟨_, rfl⟩
        have HS9 := Lib.hid (show FS w P ⟨1, (j : Int), false, updI (updI noC j tw) 5 (k : Int), pairs8 k, 0, 0, []⟩ none 0 0 V4 by rw [hW]; exact HS8.out.set_ 9 _ (set_power _ _ _ _ _))
        have hHeld2 : V4.cell? ⟨V1.heap.size, k, none⟩ = some (.int .i64 (pairs8 k)) ∧ V4.cell? ⟨V0.heap.size, k, none⟩ = some (.int .i64 (tough8 k)) := by
          rw [hW]
          exact ⟨(World.cell?_setCell_other V3 ⟨P, 9, none⟩ ⟨V1.heap.size, k, none⟩ _ (by intro e; injection e with e1 e2; exact HA.out.2 e1)).trans hHeld.1,
            (World.cell?_setCell_other V3 ⟨P, 9, none⟩ ⟨V0.heap.size, k, none⟩ _ (by intro e; injection e with e1 e2; exact HB.out e1)).trans hHeld.2⟩
        rw [← hW]
        clear hW kf ff
        have hHeld := hHeld2
        refine hK.out _ _ hHeld (fun _ => ?_)
        clear hK K
        try simp only [Act.put, List.setIfInBounds_toArray, List.set_cons_zero, List.set_cons_succ]
        refine wpAnyH_take (i := 10) (v := ?_) rfl (by kernel_rfl) (by kernel_rfl) (by kernel_rfl) (fun _ _ _ h => h) (Or.inl ⟨by rfl, ?_⟩) hHeld ?_
        rotate_left
        · (intro w hSw; go_simp; (try with_reducible rfl))
        simp only [Act.put, List.getElem_toArray, List.getElem_cons_zero, List.getElem_cons_succ, List.setIfInBounds_toArray, List.set_cons_zero, List.set_cons_succ]
        have kf : V4.cell? ⟨P, 10, none⟩ = some (.int .i64 0) := HS9.out.tough
        have ff := HS9.out.frozen 10
        refine wpAnyH_ready (rs := [11]) (by kernel_rfl) (by simp) ?_
        refine AllReadyH.cons rfl (fun K hK => ?_) AllReadyH.nil
        simp only [List.getElem_toArray, List.getElem_cons_zero, List.getElem_cons_succ]
        go_simp
        have HF := Lib.hid (show FS w P ⟨1, (j : Int), false, updI (updI noC j tw) 5 (k : Int), pairs8 k, tough8 k, 0, []⟩ none 0 0 (V4.setCell ⟨P, 10, none⟩ (.int .i64 (tough8 k))) from HS9.out.set_ 10 _ (set_tough _ _ _ _ _))
        refine hK.out _ _ ⟨(World.cell?_setCell_other V4 ⟨P, 10, none⟩ ⟨V1.heap.size, k, none⟩ _ (by intro e; injection e with e1 e2; exact HA.out.2 e1)).trans hHeld.1, (World.cell?_setCell_other V4 ⟨P, 10, none⟩ ⟨V0.heap.size, k, none⟩ _ (by intro e; injection e with e1 e2; exact HB.out e1)).trans hHeld.2⟩ (fun _ => ?_)
        clear hK K
        try simp only [Act.put, List.setIfInBounds_toArray, List.set_cons_zero, List.set_cons_succ]
        refine wpAnyH_done (by kernel_rfl) ?_ _
        clear kf ff
        go_wp2_with fail
        go_meet
        exact ⟨rfl, HF.out⟩
    case rest =>
      obtain ⟨rfl, hS6⟩ := hcut
      have HS6 := Lib.hid hS6
      clear hS6 HS5
      have l0 : (0 : Int) ≤ (k : Int) := by omega
      have l1 : (k : Int) < 8 := by omega
      go_upto_region 18 with (refine wpList_lits rfl rfl (fun ρ h => by simp only [List.map_toArray, List.map_cons, List.map_nil, h, litV]) rfl (fun _ => by kernel_rfl) ?_; intro w' hb' hc'; have HS7 := Lib.hid (HS6.out.keep hb'); have q0 : w'.cell? ⟨wc.heap.size, k, none⟩ = some (.int .i64 (says8 k)) := hc' k hk8; clear hc'; have f4 := HS7.out.frozen 11; have k4 : w'.cell? ⟨P, 11, none⟩ = some (.int .i64 0) := HS7.out.says)
      obtain ⟨w8, hW⟩ : ∃ W, W = w'.setCell ⟨P, 11, none⟩ (.int .i64 (says8 k)) := ⟨_, rfl⟩
      have HS8 := Lib.hid (show FS w P ⟨1, (j : Int), false, updI (updI noC j tw) 5 (k : Int), pairs8 k, tough8 k, says8 k, []⟩ none 0 0 w8 by rw [hW]; exact HS7.out.set_ 11 _ (set_says _ _ _ _ _))
      rw [← hW]
      clear hW f4 k4 q0 l0 l1 HS6 HS7 hb'
      go_upto_region 19 with fail
      obtain ⟨w9, hW⟩ : ∃ W, W = w8.alloc (.cells zeroA 79) := ⟨_, rfl⟩
      have hA9 : AbAt w9 w8.heap.size zeroA := by rw [hW]; exact AbAt.new _ _
      have HS9 := Lib.hid (show FS w P ⟨1, (j : Int), false, updI (updI noC j tw) 5 (k : Int), pairs8 k, tough8 k, says8 k, []⟩ none 0 0 w9 by rw [hW]; exact HS8.out.keep ((Below.refl _ _).alloc (Nat.le_refl _) _))
      have HG := Lib.hid (show P < w8.heap.size ∧ w8.heap.size < w9.heap.size from ⟨HS8.out.cd.lt, hA9.lt⟩)
      rw [← hW]
      clear hW HS8
      obtain ⟨G, hGe⟩ : ∃ G, G = w8.heap.size := ⟨_, rfl⟩
      rw [← hGe] at hA9 HG ⊢
      clear hGe
      have k1 : w9.cell? ⟨P, 1, none⟩ = some (.int .i64 (j : Int)) := HS9.out.colour
      have hjc : j = 0 ∨ j = 1 ∨ j = 2 ∨ j = 3 ∨ j = 4 := by omega
      clear hj5
      rcases hjc with rfl | rfl | rfl | rfl | rfl
      · skip
        have k1 : w9.cell? ⟨P, 1, none⟩ = some (.int .i64 0) := k1
        obtain ⟨p, hp⟩ : ∃ p, p = k + 1 := ⟨_, rfl⟩
        have vp : IntKind.i64.wrap ((k : Int) + 1) = (p : Int) := by rw [i64_in (by omega) (by omega)]; omega
        have HP1 := Lib.hid (show (k : Int) + 1 = (p : Int) by omega)
        have hp9 : p ≤ 9 := by omega
        clear hp
        have h14 : (abC ⟨2, noC, false, 0, .node 2 (p : Int) 0 0 []⟩ (evC 2 (p : Int) 0 0 none 0 0)).size = 14 := by simp [abC, arr_size, evC]
        have hs14 : (Tryd.prog.info? 79).map (·.size) = some (abC ⟨2, noC, false, 0, .node 2 (p : Int) 0 0 []⟩ (evC 2 (p : Int) 0 0 none 0 0)).size := by rw [h14]; exact size14
        have h014 : zeroA.size = (abC ⟨2, noC, false, 0, .node 2 (p : Int) 0 0 []⟩ (evC 2 (p : Int) 0 0 none 0 0)).size := by rw [h14]; rfl
        have h1c : (abC ⟨2, noC, false, 0, .node 2 (p : Int) 0 0 []⟩ (evC 2 (p : Int) 0 0 none 0 0)).all (·.oneCell') = true := by unfold evC; rw [abC14]; simp [Value.oneCell']
        go_upto_region 33 with (refine wpList_store_row rfl 79 (.tmp 6) (.tmp 91) rfl G (abC ⟨2, noC, false, 0, .node 2 (p : Int) 0 0 []⟩ (evC 2 (p : Int) 0 0 none 0 0)) rfl (by exact congrArg Value.agg (abC14 ⟨2, noC, false, 0, .node 2 (p : Int) 0 0 []⟩ _ _ _ _ _).symm) 79 zeroA hA9 hs14 h014 h1c ?_)
        clear vp
        obtain ⟨w4, hW⟩ : ∃ W, W = w9.setRow G (abC ⟨2, noC, false, 0, .node 2 (p : Int) 0 0 []⟩ (evC 2 (p : Int) 0 0 none 0 0)) := ⟨_, rfl⟩
        have hA4 : AbAt w4 G (abC ⟨2, noC, false, 0, .node 2 (p : Int) 0 0 []⟩ (evC 2 (p : Int) 0 0 none 0 0)) := by rw [hW]; exact setRow_heap _ _ _ _ _ _ hA9
        have HS4 := Lib.hid (HS9.out.row HG.out.1 (abC ⟨2, noC, false, 0, .node 2 (p : Int) 0 0 []⟩ (evC 2 (p : Int) 0 0 none 0 0)))
        rw [← hW] at HS4 ⊢
        clear hW h14 hs14 h014 h1c
        have hra : ReadsAQ (fun b => w4.heap.size ≤ b ∧ b < w4.heap.size) w4 2 (abC ⟨2, noC, false, 0, .node 2 (p : Int) 0 0 []⟩ (evC 2 (p : Int) 0 0 none 0 0)) ⟨2, noC, false, 0, .node 2 (p : Int) 0 0 []⟩ := flat_reads 2 0 2 p 0 0 noC false in_2 wide_no in_0 in_2 ⟨by omega, by omega⟩ in_0 in_0
        obtain ⟨ys, hys⟩ : ∃ ys, ys = abC ⟨2, noC, false, 0, .node 2 (p : Int) 0 0 []⟩ (evC 2 (p : Int) 0 0 none 0 0) := ⟨_, rfl⟩
        rw [← hys] at hra hA4
        have HY := Lib.hid hys
        clear hys hA9 k1
        have HT2 := Lib.hid (show tblC n = ⟨1, (0 : Nat), false, updI (updI noC 0 tw) 5 (k : Int), pairs8 k, tough8 k, says8 k, [⟨2, noC, false, 0, .node 2 (p : Int) 0 0 []⟩]⟩ by rw [HT.out]; simp [beastA, HP1.out])
        have HGp := Lib.hid HG.out
        clear HG
        have hy14 := hra.size
        have HRa := Lib.hid hra
        have hS5 := HS4.out.keep (Below.refl _ _)
        have hS6 := hS5.keep (show Below w4.heap.size w4 (w4.alloc (.cells ys 79)) from (Below.refl _ _).alloc (Nat.le_refl _) _)
        have q12 := hS6.abs
        have f12 := hS6.frozen 12
        have hPl := hS5.cd.lt
        have HS5 := Lib.hid hS5
        have HWl := Lib.hid (show w.heap.size < w4.heap.size ∧ w4.heap.size ≤ w4.heap.size from ⟨by have := HS4.out.cd.lt; have := HS4.out.lt; omega, (Nat.le_refl _)⟩)
        clear hra hS5 hS6
        go_upto_region 54 with (first
          | (refine wpList_load_row rfl 79 (.tmp 6) rfl G rfl 79 _ (0, 0) _ hA4 Tryd.underlying79 rfl (by rw [hy14]; exact size14) ?_)
          | (refine wpList_buildSlice_ab rfl (.tmp 117) rfl ys hy14 rfl ?_))
        obtain ⟨w6, hW⟩ : ∃ W, W = (w4.setCell ⟨P, 12, none⟩ (.slice (some ⟨w4.heap.size, 0, none⟩) 1 1)).alloc (.cells ys 79) := ⟨_, rfl⟩
        have HS9 := Lib.hid (show FS w P ⟨1, (0 : Nat), false, updI (updI noC 0 tw) 5 (k : Int), pairs8 k, tough8 k, says8 k, [⟨2, noC, false, 0, .node 2 (p : Int) 0 0 []⟩]⟩ (some ⟨w4.heap.size, 0, none⟩) 1 1 w6 by rw [hW]; exact (HS5.out.set_ 12 _ (set_list _ _ _ _ _ _ _ _)).keep ((Below.refl _ _).alloc (Nat.le_refl _) _))
        have HG := Lib.hid (show AbAt w6 w4.heap.size ys by rw [hW]; simpa using AbAt.new (w4.setCell ⟨P, 12, none⟩ (.slice (some ⟨w4.heap.size, 0, none⟩) 1 1)) ys)
        have HKeep := Lib.hid (show ∀ b, b < w4.heap.size → b ≠ P → w6.heap[b]? = w4.heap[b]? from fun b hb hn => by
          rw [hW]
          have h1 : Below w4.heap.size (w4.setCell ⟨P, 12, none⟩ (.slice (some ⟨w4.heap.size, 0, none⟩) 1 1)) ((w4.setCell ⟨P, 12, none⟩ (.slice (some ⟨w4.heap.size, 0, none⟩) 1 1)).alloc (.cells ys 79)) := (Below.refl _ _).alloc (by simp) _
          exact (h1.block b hb).trans (heap_setCell_other w4 ⟨P, 12, none⟩ b _ (by simpa using hn)))
        rw [← hW]
        clear hW q12 f12
        have hz9 := HS9.out.z
        have hb9 := HS9.out.b
        have hP9 := HS9.out.cd
        have hlt9 := HS9.out.lt
        have hs9 := HS9.out.size
        have hsx9 : (Tryd.prog.info? 55).map (·.size) = some (cardC ⟨1, (0 : Nat), false, updI (updI noC 0 tw) 5 (k : Int), pairs8 k, tough8 k, says8 k, [⟨2, noC, false, 0, .node 2 (p : Int) 0 0 []⟩]⟩ (some ⟨w4.heap.size, 0, none⟩) 1 1).size := by rw [hs9]; exact size13
        have h19 : (cardC ⟨1, (0 : Nat), false, updI (updI noC 0 tw) 5 (k : Int), pairs8 k, tough8 k, says8 k, [⟨2, noC, false, 0, .node 2 (p : Int) 0 0 []⟩]⟩ (some ⟨w4.heap.size, 0, none⟩) 1 1).all (·.oneCell') = true := card_one _ _ _ _
        go_wp2_with (first
          | (refine wpList_load_row rfl 55 (.tmp 4) rfl P rfl 55 _ (0, 0) _ hP9 Tryd.underlying55 rfl hsx9 ?_)
          | (refine wpList_store_row rfl 55 (.tmp 2) (.tmp 238) rfl w.heap.size _ rfl rfl 55 zeroD hz9 hsx9 (by rw [hs9]; rfl) h19 ?_))
        refine bodyPost_ret (v := .tuple #[.agg (cardC ⟨1, (0 : Nat), false, updI (updI noC 0 tw) 5 (k : Int), pairs8 k, tough8 k, says8 k, [⟨2, noC, false, 0, .node 2 (p : Int) 0 0 []⟩]⟩ (some ⟨w4.heap.size, 0, none⟩) 1 1), .bool true]) ?_ rfl ⟨_, rfl, ?_, below_setRow hb9 _ _ (Nat.le_refl _)⟩
        · exact results_cell_tmp (ty := 55) (p := 2) (q := 3) (by kernel_rfl) _ _ w.heap.size 55 _ (0, 0) _ rfl (setRow_heap _ _ _ _ _ _ hz9) Tryd.underlying55 rfl hsx9
        rw [HT2.out]
        exact FS.reads HS9.out _ in_1 (show In64 ((0 : Nat) : Int) from ⟨by decide, by decide⟩) (wide_tw HTw.out) (pairs8_in k) (tough8_in k) (says8_in k) (Nat.le_refl _) (by unfold maxLen; omega) (one_ab HG.out (HRa.out.keep (fun b hq => absurd hq.1 (by have := hq.2; omega)) (fun b hq => absurd hq.1 (by have := hq.2; omega))) ⟨by have := HWl.out; omega, HG.out.lt⟩)
      · skip
        have k1 : w9.cell? ⟨P, 1, none⟩ = some (.int .i64 1) := k1
        by_cases hk2 : k % 2 = 0
        · have e2 : ((k : Int) % 2 == 0) = true := by rw [beq_iff_eq]; omega
          have HT2 := Lib.hid (show tblC n = ⟨1, (1 : Nat), false, updI (updI noC 1 tw) 5 (k : Int), pairs8 k, tough8 k, says8 k, []⟩ by rw [HT.out]; simp [beastA, hk2])
          clear hk2
          have h14 : (abC ⟨2, noC, false, 0, .node 4 1 0 0 []⟩ (evC 4 1 0 0 none 0 0)).size = 14 := by simp [abC, arr_size, evC]
          have hs14 : (Tryd.prog.info? 79).map (·.size) = some (abC ⟨2, noC, false, 0, .node 4 1 0 0 []⟩ (evC 4 1 0 0 none 0 0)).size := by rw [h14]; exact size14
          have h014 : zeroA.size = (abC ⟨2, noC, false, 0, .node 4 1 0 0 []⟩ (evC 4 1 0 0 none 0 0)).size := by rw [h14]; rfl
          have h1c : (abC ⟨2, noC, false, 0, .node 4 1 0 0 []⟩ (evC 4 1 0 0 none 0 0)).all (·.oneCell') = true := by unfold evC; rw [abC14]; simp [Value.oneCell']
          go_upto_region 27 with (refine wpList_store_row rfl 79 (.tmp 6) (.tmp 95) rfl G (abC ⟨2, noC, false, 0, .node 4 1 0 0 []⟩ (evC 4 1 0 0 none 0 0)) rfl (by exact congrArg Value.agg (abC14 ⟨2, noC, false, 0, .node 4 1 0 0 []⟩ _ _ _ _ _).symm) 79 zeroA hA9 hs14 h014 h1c ?_)
          obtain ⟨w4, hW⟩ : ∃ W, W = w9.setRow G (abC ⟨2, noC, false, 0, .node 4 1 0 0 []⟩ (evC 4 1 0 0 none 0 0)) := ⟨_, rfl⟩
          have HS10 := Lib.hid (show FS w P ⟨1, (1 : Nat), false, updI (updI noC 1 tw) 5 (k : Int), pairs8 k, tough8 k, says8 k, []⟩ none 0 0 w4 by rw [hW]; exact HS9.out.row HG.out.1 _)
          rw [← hW]
          clear hW e2 k1 h14 hs14 h014 h1c
          have hz9 := HS10.out.z
          have hb9 := HS10.out.b
          have hP9 := HS10.out.cd
          have hlt9 := HS10.out.lt
          have hs9 := HS10.out.size
          have hsx9 : (Tryd.prog.info? 55).map (·.size) = some (cardC ⟨1, (1 : Nat), false, updI (updI noC 1 tw) 5 (k : Int), pairs8 k, tough8 k, says8 k, []⟩ none 0 0).size := by rw [hs9]; exact size13
          have h19 : (cardC ⟨1, (1 : Nat), false, updI (updI noC 1 tw) 5 (k : Int), pairs8 k, tough8 k, says8 k, []⟩ none 0 0).all (·.oneCell') = true := card_one _ _ _ _
          go_wp2_with (first
            | (refine wpList_load_row rfl 55 (.tmp 4) rfl P rfl 55 _ (0, 0) _ hP9 Tryd.underlying55 rfl hsx9 ?_)
            | (refine wpList_store_row rfl 55 (.tmp 2) (.tmp 99) rfl w.heap.size _ rfl rfl 55 zeroD hz9 hsx9 (by rw [hs9]; rfl) h19 ?_))
          refine bodyPost_ret (v := .tuple #[.agg (cardC ⟨1, (1 : Nat), false, updI (updI noC 1 tw) 5 (k : Int), pairs8 k, tough8 k, says8 k, []⟩ none 0 0), .bool true]) ?_ rfl ⟨_, rfl, ?_, below_setRow hb9 _ _ (Nat.le_refl _)⟩
          · exact results_cell_tmp (ty := 55) (p := 2) (q := 3) (by kernel_rfl) _ _ w.heap.size 55 _ (0, 0) _ rfl (setRow_heap _ _ _ _ _ _ hz9) Tryd.underlying55 rfl hsx9
          rw [HT2.out]
          exact FS.reads HS10.out _ in_1 (show In64 ((1 : Nat) : Int) from ⟨by decide, by decide⟩) (wide_tw HTw.out) (pairs8_in k) (tough8_in k) (says8_in k) (Nat.le_refl _) (by unfold maxLen; omega) no_ab
        have e2 : ((k : Int) % 2 == 0) = false := by rw [Bool.eq_false_iff]; simp; omega
        have HK2 := Lib.hid hk2
        clear hk2
        have h14 : (abC ⟨2, noC, false, 0, .node 4 1 0 0 []⟩ (evC 4 1 0 0 none 0 0)).size = 14 := by simp [abC, arr_size, evC]
        have hs14 : (Tryd.prog.info? 79).map (·.size) = some (abC ⟨2, noC, false, 0, .node 4 1 0 0 []⟩ (evC 4 1 0 0 none 0 0)).size := by rw [h14]; exact size14
        have h014 : zeroA.size = (abC ⟨2, noC, false, 0, .node 4 1 0 0 []⟩ (evC 4 1 0 0 none 0 0)).size := by rw [h14]; rfl
        have h1c : (abC ⟨2, noC, false, 0, .node 4 1 0 0 []⟩ (evC 4 1 0 0 none 0 0)).all (·.oneCell') = true := by unfold evC; rw [abC14]; simp [Value.oneCell']
        go_upto_region 33 with (refine wpList_store_row rfl 79 (.tmp 6) (.tmp 95) rfl G (abC ⟨2, noC, false, 0, .node 4 1 0 0 []⟩ (evC 4 1 0 0 none 0 0)) rfl (by exact congrArg Value.agg (abC14 ⟨2, noC, false, 0, .node 4 1 0 0 []⟩ _ _ _ _ _).symm) 79 zeroA hA9 hs14 h014 h1c ?_)
        clear e2
        obtain ⟨w4, hW⟩ : ∃ W, W = w9.setRow G (abC ⟨2, noC, false, 0, .node 4 1 0 0 []⟩ (evC 4 1 0 0 none 0 0)) := ⟨_, rfl⟩
        have hA4 : AbAt w4 G (abC ⟨2, noC, false, 0, .node 4 1 0 0 []⟩ (evC 4 1 0 0 none 0 0)) := by rw [hW]; exact setRow_heap _ _ _ _ _ _ hA9
        have HS4 := Lib.hid (HS9.out.row HG.out.1 (abC ⟨2, noC, false, 0, .node 4 1 0 0 []⟩ (evC 4 1 0 0 none 0 0)))
        rw [← hW] at HS4 ⊢
        clear hW h14 hs14 h014 h1c
        have hra : ReadsAQ (fun b => w4.heap.size ≤ b ∧ b < w4.heap.size) w4 2 (abC ⟨2, noC, false, 0, .node 4 1 0 0 []⟩ (evC 4 1 0 0 none 0 0)) ⟨2, noC, false, 0, .node 4 1 0 0 []⟩ := flat_reads 2 0 4 1 0 0 noC false in_2 wide_no in_0 ⟨by decide, by decide⟩ in_1 in_0 in_0
        obtain ⟨ys, hys⟩ : ∃ ys, ys = abC ⟨2, noC, false, 0, .node 4 1 0 0 []⟩ (evC 4 1 0 0 none 0 0) := ⟨_, rfl⟩
        rw [← hys] at hra hA4
        have HY := Lib.hid hys
        clear hys hA9 k1
        have HT2 := Lib.hid (show tblC n = ⟨1, (1 : Nat), false, updI (updI noC 1 tw) 5 (k : Int), pairs8 k, tough8 k, says8 k, [⟨2, noC, false, 0, .node 4 1 0 0 []⟩]⟩ by rw [HT.out]; simp [beastA, HK2.out])
        have HGp := Lib.hid HG.out
        clear HG
        have hy14 := hra.size
        have HRa := Lib.hid hra
        have hS5 := HS4.out.keep (Below.refl _ _)
        have hS6 := hS5.keep (show Below w4.heap.size w4 (w4.alloc (.cells ys 79)) from (Below.refl _ _).alloc (Nat.le_refl _) _)
        have q12 := hS6.abs
        have f12 := hS6.frozen 12
        have hPl := hS5.cd.lt
        have HS5 := Lib.hid hS5
        have HWl := Lib.hid (show w.heap.size < w4.heap.size ∧ w4.heap.size ≤ w4.heap.size from ⟨by have := HS4.out.cd.lt; have := HS4.out.lt; omega, (Nat.le_refl _)⟩)
        clear hra hS5 hS6
        go_upto_region 54 with (first
          | (refine wpList_load_row rfl 79 (.tmp 6) rfl G rfl 79 _ (0, 0) _ hA4 Tryd.underlying79 rfl (by rw [hy14]; exact size14) ?_)
          | (refine wpList_buildSlice_ab rfl (.tmp 117) rfl ys hy14 rfl ?_))
        obtain ⟨w6, hW⟩ : ∃ W, W = (w4.setCell ⟨P, 12, none⟩ (.slice (some ⟨w4.heap.size, 0, none⟩) 1 1)).alloc (.cells ys 79) := ⟨_, rfl⟩
        have HS9 := Lib.hid (show FS w P ⟨1, (1 : Nat), false, updI (updI noC 1 tw) 5 (k : Int), pairs8 k, tough8 k, says8 k, [⟨2, noC, false, 0, .node 4 1 0 0 []⟩]⟩ (some ⟨w4.heap.size, 0, none⟩) 1 1 w6 by rw [hW]; exact (HS5.out.set_ 12 _ (set_list _ _ _ _ _ _ _ _)).keep ((Below.refl _ _).alloc (Nat.le_refl _) _))
        have HG := Lib.hid (show AbAt w6 w4.heap.size ys by rw [hW]; simpa using AbAt.new (w4.setCell ⟨P, 12, none⟩ (.slice (some ⟨w4.heap.size, 0, none⟩) 1 1)) ys)
        have HKeep := Lib.hid (show ∀ b, b < w4.heap.size → b ≠ P → w6.heap[b]? = w4.heap[b]? from fun b hb hn => by
          rw [hW]
          have h1 : Below w4.heap.size (w4.setCell ⟨P, 12, none⟩ (.slice (some ⟨w4.heap.size, 0, none⟩) 1 1)) ((w4.setCell ⟨P, 12, none⟩ (.slice (some ⟨w4.heap.size, 0, none⟩) 1 1)).alloc (.cells ys 79)) := (Below.refl _ _).alloc (by simp) _
          exact (h1.block b hb).trans (heap_setCell_other w4 ⟨P, 12, none⟩ b _ (by simpa using hn)))
        rw [← hW]
        clear hW q12 f12
        have hz9 := HS9.out.z
        have hb9 := HS9.out.b
        have hP9 := HS9.out.cd
        have hlt9 := HS9.out.lt
        have hs9 := HS9.out.size
        have hsx9 : (Tryd.prog.info? 55).map (·.size) = some (cardC ⟨1, (1 : Nat), false, updI (updI noC 1 tw) 5 (k : Int), pairs8 k, tough8 k, says8 k, [⟨2, noC, false, 0, .node 4 1 0 0 []⟩]⟩ (some ⟨w4.heap.size, 0, none⟩) 1 1).size := by rw [hs9]; exact size13
        have h19 : (cardC ⟨1, (1 : Nat), false, updI (updI noC 1 tw) 5 (k : Int), pairs8 k, tough8 k, says8 k, [⟨2, noC, false, 0, .node 4 1 0 0 []⟩]⟩ (some ⟨w4.heap.size, 0, none⟩) 1 1).all (·.oneCell') = true := card_one _ _ _ _
        go_wp2_with (first
          | (refine wpList_load_row rfl 55 (.tmp 4) rfl P rfl 55 _ (0, 0) _ hP9 Tryd.underlying55 rfl hsx9 ?_)
          | (refine wpList_store_row rfl 55 (.tmp 2) (.tmp 238) rfl w.heap.size _ rfl rfl 55 zeroD hz9 hsx9 (by rw [hs9]; rfl) h19 ?_))
        refine bodyPost_ret (v := .tuple #[.agg (cardC ⟨1, (1 : Nat), false, updI (updI noC 1 tw) 5 (k : Int), pairs8 k, tough8 k, says8 k, [⟨2, noC, false, 0, .node 4 1 0 0 []⟩]⟩ (some ⟨w4.heap.size, 0, none⟩) 1 1), .bool true]) ?_ rfl ⟨_, rfl, ?_, below_setRow hb9 _ _ (Nat.le_refl _)⟩
        · exact results_cell_tmp (ty := 55) (p := 2) (q := 3) (by kernel_rfl) _ _ w.heap.size 55 _ (0, 0) _ rfl (setRow_heap _ _ _ _ _ _ hz9) Tryd.underlying55 rfl hsx9
        rw [HT2.out]
        exact FS.reads HS9.out _ in_1 (show In64 ((1 : Nat) : Int) from ⟨by decide, by decide⟩) (wide_tw HTw.out) (pairs8_in k) (tough8_in k) (says8_in k) (Nat.le_refl _) (by unfold maxLen; omega) (one_ab HG.out (HRa.out.keep (fun b hq => absurd hq.1 (by have := hq.2; omega)) (fun b hq => absurd hq.1 (by have := hq.2; omega))) ⟨by have := HWl.out; omega, HG.out.lt⟩)
      · skip
        have k1 : w9.cell? ⟨P, 1, none⟩ = some (.int .i64 2) := k1
        have l0 : (0 : Int) ≤ (k : Int) := by omega
        have l1 : (k : Int) < 8 := by omega
        have h14 : (abC ⟨3, noC, false, 0, .node 3 (pairs8 k) 0 1 []⟩ (evC 3 (pairs8 k) 0 1 none 0 0)).size = 14 := by simp [abC, arr_size, evC]
        have hs14 : (Tryd.prog.info? 79).map (·.size) = some (abC ⟨3, noC, false, 0, .node 3 (pairs8 k) 0 1 []⟩ (evC 3 (pairs8 k) 0 1 none 0 0)).size := by rw [h14]; exact size14
        have h014 : zeroA.size = (abC ⟨3, noC, false, 0, .node 3 (pairs8 k) 0 1 []⟩ (evC 3 (pairs8 k) 0 1 none 0 0)).size := by rw [h14]; rfl
        have h1c : (abC ⟨3, noC, false, 0, .node 3 (pairs8 k) 0 1 []⟩ (evC 3 (pairs8 k) 0 1 none 0 0)).all (·.oneCell') = true := by unfold evC; rw [abC14]; simp [Value.oneCell']
        go_upto_region 33 with (first
          | (refine wpList_lits rfl rfl (fun ρ h => by simp only [List.map_toArray, List.map_cons, List.map_nil, h, litV]) rfl (fun _ => by kernel_rfl) ?_; intro w12 hb12 hc12; have HS12 := Lib.hid (HS9.out.keep hb12); have hA12 := hA9.keep hb12; have q0 : w12.cell? ⟨w9.heap.size, k, none⟩ = some (.int .i64 (pairs8 k)) := hc12 k hk8; clear hc12)
          | (refine wpList_store_row rfl 79 (.tmp 6) (.tmp 107) rfl G (abC ⟨3, noC, false, 0, .node 3 (pairs8 k) 0 1 []⟩ (evC 3 (pairs8 k) 0 1 none 0 0)) rfl (by exact congrArg Value.agg (abC14 ⟨3, noC, false, 0, .node 3 (pairs8 k) 0 1 []⟩ _ _ _ _ _).symm) 79 zeroA hA12 hs14 h014 h1c ?_))
        clear q0 l0 l1
        obtain ⟨w4, hW⟩ : ∃ W, W = w12.setRow G (abC ⟨3, noC, false, 0, .node 3 (pairs8 k) 0 1 []⟩ (evC 3 (pairs8 k) 0 1 none 0 0)) := ⟨_, rfl⟩
        have hA4 : AbAt w4 G (abC ⟨3, noC, false, 0, .node 3 (pairs8 k) 0 1 []⟩ (evC 3 (pairs8 k) 0 1 none 0 0)) := by rw [hW]; exact setRow_heap _ _ _ _ _ _ hA12
        have HS4 := Lib.hid (HS12.out.row HG.out.1 (abC ⟨3, noC, false, 0, .node 3 (pairs8 k) 0 1 []⟩ (evC 3 (pairs8 k) 0 1 none 0 0)))
        rw [← hW] at HS4 ⊢
        clear hW h14 hs14 h014 h1c
        have hra : ReadsAQ (fun b => w4.heap.size ≤ b ∧ b < w4.heap.size) w4 2 (abC ⟨3, noC, false, 0, .node 3 (pairs8 k) 0 1 []⟩ (evC 3 (pairs8 k) 0 1 none 0 0)) ⟨3, noC, false, 0, .node 3 (pairs8 k) 0 1 []⟩ := flat_reads 3 0 3 (pairs8 k) 0 1 noC false in_3 wide_no in_0 in_3 (pairs8_in k) in_0 in_1
        obtain ⟨ys, hys⟩ : ∃ ys, ys = abC ⟨3, noC, false, 0, .node 3 (pairs8 k) 0 1 []⟩ (evC 3 (pairs8 k) 0 1 none 0 0) := ⟨_, rfl⟩
        rw [← hys] at hra hA4
        have HY := Lib.hid hys
        clear hys hA9 k1
        have HT2 := Lib.hid (show tblC n = ⟨1, (2 : Nat), false, updI (updI noC 2 tw) 5 (k : Int), pairs8 k, tough8 k, says8 k, [⟨3, noC, false, 0, .node 3 (pairs8 k) 0 1 []⟩]⟩ by rw [HT.out]; simp [beastA])
        have HGp := Lib.hid HG.out
        clear HG
        have hy14 := hra.size
        have HRa := Lib.hid hra
        have hS5 := HS4.out.keep (Below.refl _ _)
        have hS6 := hS5.keep (show Below w4.heap.size w4 (w4.alloc (.cells ys 79)) from (Below.refl _ _).alloc (Nat.le_refl _) _)
        have q12 := hS6.abs
        have f12 := hS6.frozen 12
        have hPl := hS5.cd.lt
        have HS5 := Lib.hid hS5
        have HWl := Lib.hid (show w.heap.size < w4.heap.size ∧ w4.heap.size ≤ w4.heap.size from ⟨by have := HS4.out.cd.lt; have := HS4.out.lt; omega, (Nat.le_refl _)⟩)
        clear hra hS5 hS6
        go_upto_region 54 with (first
          | (refine wpList_load_row rfl 79 (.tmp 6) rfl G rfl 79 _ (0, 0) _ hA4 Tryd.underlying79 rfl (by rw [hy14]; exact size14) ?_)
          | (refine wpList_buildSlice_ab rfl (.tmp 117) rfl ys hy14 rfl ?_))
        obtain ⟨w6, hW⟩ : ∃ W, W = (w4.setCell ⟨P, 12, none⟩ (.slice (some ⟨w4.heap.size, 0, none⟩) 1 1)).alloc (.cells ys 79) := ⟨_, rfl⟩
        have HS9 := Lib.hid (show FS w P ⟨1, (2 : Nat), false, updI (updI noC 2 tw) 5 (k : Int), pairs8 k, tough8 k, says8 k, [⟨3, noC, false, 0, .node 3 (pairs8 k) 0 1 []⟩]⟩ (some ⟨w4.heap.size, 0, none⟩) 1 1 w6 by rw [hW]; exact (HS5.out.set_ 12 _ (set_list _ _ _ _ _ _ _ _)).keep ((Below.refl _ _).alloc (Nat.le_refl _) _))
        have HG := Lib.hid (show AbAt w6 w4.heap.size ys by rw [hW]; simpa using AbAt.new (w4.setCell ⟨P, 12, none⟩ (.slice (some ⟨w4.heap.size, 0, none⟩) 1 1)) ys)
        have HKeep := Lib.hid (show ∀ b, b < w4.heap.size → b ≠ P → w6.heap[b]? = w4.heap[b]? from fun b hb hn => by
          rw [hW]
          have h1 : Below w4.heap.size (w4.setCell ⟨P, 12, none⟩ (.slice (some ⟨w4.heap.size, 0, none⟩) 1 1)) ((w4.setCell ⟨P, 12, none⟩ (.slice (some ⟨w4.heap.size, 0, none⟩) 1 1)).alloc (.cells ys 79)) := (Below.refl _ _).alloc (by simp) _
          exact (h1.block b hb).trans (heap_setCell_other w4 ⟨P, 12, none⟩ b _ (by simpa using hn)))
        rw [← hW]
        clear hW q12 f12
        have hz9 := HS9.out.z
        have hb9 := HS9.out.b
        have hP9 := HS9.out.cd
        have hlt9 := HS9.out.lt
        have hs9 := HS9.out.size
        have hsx9 : (Tryd.prog.info? 55).map (·.size) = some (cardC ⟨1, (2 : Nat), false, updI (updI noC 2 tw) 5 (k : Int), pairs8 k, tough8 k, says8 k, [⟨3, noC, false, 0, .node 3 (pairs8 k) 0 1 []⟩]⟩ (some ⟨w4.heap.size, 0, none⟩) 1 1).size := by rw [hs9]; exact size13
        have h19 : (cardC ⟨1, (2 : Nat), false, updI (updI noC 2 tw) 5 (k : Int), pairs8 k, tough8 k, says8 k, [⟨3, noC, false, 0, .node 3 (pairs8 k) 0 1 []⟩]⟩ (some ⟨w4.heap.size, 0, none⟩) 1 1).all (·.oneCell') = true := card_one _ _ _ _
        go_wp2_with (first
          | (refine wpList_load_row rfl 55 (.tmp 4) rfl P rfl 55 _ (0, 0) _ hP9 Tryd.underlying55 rfl hsx9 ?_)
          | (refine wpList_store_row rfl 55 (.tmp 2) (.tmp 238) rfl w.heap.size _ rfl rfl 55 zeroD hz9 hsx9 (by rw [hs9]; rfl) h19 ?_))
        refine bodyPost_ret (v := .tuple #[.agg (cardC ⟨1, (2 : Nat), false, updI (updI noC 2 tw) 5 (k : Int), pairs8 k, tough8 k, says8 k, [⟨3, noC, false, 0, .node 3 (pairs8 k) 0 1 []⟩]⟩ (some ⟨w4.heap.size, 0, none⟩) 1 1), .bool true]) ?_ rfl ⟨_, rfl, ?_, below_setRow hb9 _ _ (Nat.le_refl _)⟩
        · exact results_cell_tmp (ty := 55) (p := 2) (q := 3) (by kernel_rfl) _ _ w.heap.size 55 _ (0, 0) _ rfl (setRow_heap _ _ _ _ _ _ hz9) Tryd.underlying55 rfl hsx9
        rw [HT2.out]
        exact FS.reads HS9.out _ in_1 (show In64 ((2 : Nat) : Int) from ⟨by decide, by decide⟩) (wide_tw HTw.out) (pairs8_in k) (tough8_in k) (says8_in k) (Nat.le_refl _) (by unfold maxLen; omega) (one_ab HG.out (HRa.out.keep (fun b hq => absurd hq.1 (by have := hq.2; omega)) (fun b hq => absurd hq.1 (by have := hq.2; omega))) ⟨by have := HWl.out; omega, HG.out.lt⟩)
      · skip
        have k1 : w9.cell? ⟨P, 1, none⟩ = some (.int .i64 3) := k1
        have k9 : w9.cell? ⟨P, 9, none⟩ = some (.int .i64 (pairs8 k)) := HS9.out.power
        have f9 := HS9.out.frozen 9
        have hpw := pairs8_few k
        have vp : IntKind.i64.wrap (pairs8 k + 1) = pairs8 k + 1 := i64_in (by omega) (by omega)
        go_upto_region 32 with fail
        obtain ⟨w10, hW⟩ : ∃ W, W = w9.setCell ⟨P, 9, none⟩ (.int .i64 (pairs8 k + 1)) := ⟨_, rfl⟩
        have HS10 := Lib.hid (show FS w P ⟨1, (3 : Nat), false, updI (updI noC 3 tw) 5 (k : Int), pairs8 k + 1, tough8 k, says8 k, []⟩ none 0 0 w10 by rw [hW]; exact HS9.out.set_ 9 _ (set_power _ _ _ _ _))
        have hA10 : AbAt w10 G zeroA := by rw [hW]; exact (heap_setCell_other _ _ _ _ (by have := HG.out.1; simp; omega)).trans hA9
        rw [← hW]
        clear hW k9 f9 vp hpw
        have h14 : (abC ⟨1, updI noC 3 1, true, 3, .node 1 1 0 2 []⟩ (evC 1 1 0 2 none 0 0)).size = 14 := by simp [abC, arr_size, evC]
        have hs14 : (Tryd.prog.info? 79).map (·.size) = some (abC ⟨1, updI noC 3 1, true, 3, .node 1 1 0 2 []⟩ (evC 1 1 0 2 none 0 0)).size := by rw [h14]; exact size14
        have h014 : zeroA.size = (abC ⟨1, updI noC 3 1, true, 3, .node 1 1 0 2 []⟩ (evC 1 1 0 2 none 0 0)).size := by rw [h14]; rfl
        have h1c : (abC ⟨1, updI noC 3 1, true, 3, .node 1 1 0 2 []⟩ (evC 1 1 0 2 none 0 0)).all (·.oneCell') = true := by unfold evC; rw [abC14]; simp [Value.oneCell']
        go_upto_region 33 with (refine wpList_store_row rfl 79 (.tmp 6) (.tmp 116) rfl G (abC ⟨1, updI noC 3 1, true, 3, .node 1 1 0 2 []⟩ (evC 1 1 0 2 none 0 0)) rfl (by exact congrArg Value.agg (abC14 ⟨1, updI noC 3 1, true, 3, .node 1 1 0 2 []⟩ _ _ _ _ _).symm) 79 zeroA hA10 hs14 h014 h1c ?_)
        obtain ⟨w4, hW⟩ : ∃ W, W = w10.setRow G (abC ⟨1, updI noC 3 1, true, 3, .node 1 1 0 2 []⟩ (evC 1 1 0 2 none 0 0)) := ⟨_, rfl⟩
        have hA4 : AbAt w4 G (abC ⟨1, updI noC 3 1, true, 3, .node 1 1 0 2 []⟩ (evC 1 1 0 2 none 0 0)) := by rw [hW]; exact setRow_heap _ _ _ _ _ _ hA10
        have HS4 := Lib.hid (HS10.out.row HG.out.1 (abC ⟨1, updI noC 3 1, true, 3, .node 1 1 0 2 []⟩ (evC 1 1 0 2 none 0 0)))
        rw [← hW] at HS4 ⊢
        clear hW h14 hs14 h014 h1c
        have hra : ReadsAQ (fun b => w4.heap.size ≤ b ∧ b < w4.heap.size) w4 2 (abC ⟨1, updI noC 3 1, true, 3, .node 1 1 0 2 []⟩ (evC 1 1 0 2 none 0 0)) ⟨1, updI noC 3 1, true, 3, .node 1 1 0 2 []⟩ := flat_reads 1 3 1 1 0 2 (updI noC 3 1) true in_1 wide_one in_3 in_1 in_1 in_0 in_2
        obtain ⟨ys, hys⟩ : ∃ ys, ys = abC ⟨1, updI noC 3 1, true, 3, .node 1 1 0 2 []⟩ (evC 1 1 0 2 none 0 0) := ⟨_, rfl⟩
        rw [← hys] at hra hA4
        have HY := Lib.hid hys
        clear hys hA9 k1
        have HT2 := Lib.hid (show tblC n = ⟨1, (3 : Nat), false, updI (updI noC 3 tw) 5 (k : Int), pairs8 k + 1, tough8 k, says8 k, [⟨1, updI noC 3 1, true, 3, .node 1 1 0 2 []⟩]⟩ by rw [HT.out]; simp [beastA])
        have HGp := Lib.hid HG.out
        clear HG
        have hy14 := hra.size
        have HRa := Lib.hid hra
        have hS5 := HS4.out.keep (Below.refl _ _)
        have hS6 := hS5.keep (show Below w4.heap.size w4 (w4.alloc (.cells ys 79)) from (Below.refl _ _).alloc (Nat.le_refl _) _)
        have q12 := hS6.abs
        have f12 := hS6.frozen 12
        have hPl := hS5.cd.lt
        have HS5 := Lib.hid hS5
        have HWl := Lib.hid (show w.heap.size < w4.heap.size ∧ w4.heap.size ≤ w4.heap.size from ⟨by have := HS4.out.cd.lt; have := HS4.out.lt; omega, (Nat.le_refl _)⟩)
        clear hra hS5 hS6
        go_upto_region 54 with (first
          | (refine wpList_load_row rfl 79 (.tmp 6) rfl G rfl 79 _ (0, 0) _ hA4 Tryd.underlying79 rfl (by rw [hy14]; exact size14) ?_)
          | (refine wpList_buildSlice_ab rfl (.tmp 117) rfl ys hy14 rfl ?_))
        obtain ⟨w6, hW⟩ : ∃ W, W = (w4.setCell ⟨P, 12, none⟩ (.slice (some ⟨w4.heap.size, 0, none⟩) 1 1)).alloc (.cells ys 79) := ⟨_, rfl⟩
        have HS9 := Lib.hid (show FS w P ⟨1, (3 : Nat), false, updI (updI noC 3 tw) 5 (k : Int), pairs8 k + 1, tough8 k, says8 k, [⟨1, updI noC 3 1, true, 3, .node 1 1 0 2 []⟩]⟩ (some ⟨w4.heap.size, 0, none⟩) 1 1 w6 by rw [hW]; exact (HS5.out.set_ 12 _ (set_list _ _ _ _ _ _ _ _)).keep ((Below.refl _ _).alloc (Nat.le_refl _) _))
        have HG := Lib.hid (show AbAt w6 w4.heap.size ys by rw [hW]; simpa using AbAt.new (w4.setCell ⟨P, 12, none⟩ (.slice (some ⟨w4.heap.size, 0, none⟩) 1 1)) ys)
        have HKeep := Lib.hid (show ∀ b, b < w4.heap.size → b ≠ P → w6.heap[b]? = w4.heap[b]? from fun b hb hn => by
          rw [hW]
          have h1 : Below w4.heap.size (w4.setCell ⟨P, 12, none⟩ (.slice (some ⟨w4.heap.size, 0, none⟩) 1 1)) ((w4.setCell ⟨P, 12, none⟩ (.slice (some ⟨w4.heap.size, 0, none⟩) 1 1)).alloc (.cells ys 79)) := (Below.refl _ _).alloc (by simp) _
          exact (h1.block b hb).trans (heap_setCell_other w4 ⟨P, 12, none⟩ b _ (by simpa using hn)))
        rw [← hW]
        clear hW q12 f12
        have hz9 := HS9.out.z
        have hb9 := HS9.out.b
        have hP9 := HS9.out.cd
        have hlt9 := HS9.out.lt
        have hs9 := HS9.out.size
        have hsx9 : (Tryd.prog.info? 55).map (·.size) = some (cardC ⟨1, (3 : Nat), false, updI (updI noC 3 tw) 5 (k : Int), pairs8 k + 1, tough8 k, says8 k, [⟨1, updI noC 3 1, true, 3, .node 1 1 0 2 []⟩]⟩ (some ⟨w4.heap.size, 0, none⟩) 1 1).size := by rw [hs9]; exact size13
        have h19 : (cardC ⟨1, (3 : Nat), false, updI (updI noC 3 tw) 5 (k : Int), pairs8 k + 1, tough8 k, says8 k, [⟨1, updI noC 3 1, true, 3, .node 1 1 0 2 []⟩]⟩ (some ⟨w4.heap.size, 0, none⟩) 1 1).all (·.oneCell') = true := card_one _ _ _ _
        go_wp2_with (first
          | (refine wpList_load_row rfl 55 (.tmp 4) rfl P rfl 55 _ (0, 0) _ hP9 Tryd.underlying55 rfl hsx9 ?_)
          | (refine wpList_store_row rfl 55 (.tmp 2) (.tmp 238) rfl w.heap.size _ rfl rfl 55 zeroD hz9 hsx9 (by rw [hs9]; rfl) h19 ?_))
        refine bodyPost_ret (v := .tuple #[.agg (cardC ⟨1, (3 : Nat), false, updI (updI noC 3 tw) 5 (k : Int), pairs8 k + 1, tough8 k, says8 k, [⟨1, updI noC 3 1, true, 3, .node 1 1 0 2 []⟩]⟩ (some ⟨w4.heap.size, 0, none⟩) 1 1), .bool true]) ?_ rfl ⟨_, rfl, ?_, below_setRow hb9 _ _ (Nat.le_refl _)⟩
        · exact results_cell_tmp (ty := 55) (p := 2) (q := 3) (by kernel_rfl) _ _ w.heap.size 55 _ (0, 0) _ rfl (setRow_heap _ _ _ _ _ _ hz9) Tryd.underlying55 rfl hsx9
        rw [HT2.out]
        exact FS.reads HS9.out _ in_1 (show In64 ((3 : Nat) : Int) from ⟨by decide, by decide⟩) (wide_tw HTw.out) ⟨by show _ ≤ pairs8 k + 1; have := pairs8_few k; omega, by show pairs8 k + 1 ≤ _; have := pairs8_few k; omega⟩ (tough8_in k) (says8_in k) (Nat.le_refl _) (by unfold maxLen; omega) (one_ab HG.out (HRa.out.keep (fun b hq => absurd hq.1 (by have := hq.2; omega)) (fun b hq => absurd hq.1 (by have := hq.2; omega))) ⟨by have := HWl.out; omega, HG.out.lt⟩)
      · skip
        have k1 : w9.cell? ⟨P, 1, none⟩ = some (.int .i64 4) := k1
        have k9 : w9.cell? ⟨P, 10, none⟩ = some (.int .i64 (tough8 k)) := HS9.out.tough
        have f9 := HS9.out.frozen 10
        have hpw := tough8_few k
        have vp : IntKind.i64.wrap (tough8 k + 1) = tough8 k + 1 := i64_in (by omega) (by omega)
        go_upto_region 21 with fail
        obtain ⟨w10, hW⟩ : ∃ W, W = w9.setCell ⟨P, 10, none⟩ (.int .i64 (tough8 k + 1)) := ⟨_, rfl⟩
        have HS10 := Lib.hid (show FS w P ⟨1, (4 : Nat), false, updI (updI noC 4 tw) 5 (k : Int), pairs8 k, tough8 k + 1, says8 k, []⟩ none 0 0 w10 by rw [hW]; exact HS9.out.set_ 10 _ (set_tough _ _ _ _ _))
        have hA10 : AbAt w10 G zeroA := by rw [hW]; exact (heap_setCell_other _ _ _ _ (by have := HG.out.1; simp; omega)).trans hA9
        rw [← hW]
        clear hW k9 f9 vp hpw
        have h14 : (abC ⟨1, updI noC 4 1, false, 0, .node 10 1 1 3 []⟩ (evC 10 1 1 3 none 0 0)).size = 14 := by simp [abC, arr_size, evC]
        have hs14 : (Tryd.prog.info? 79).map (·.size) = some (abC ⟨1, updI noC 4 1, false, 0, .node 10 1 1 3 []⟩ (evC 10 1 1 3 none 0 0)).size := by rw [h14]; exact size14
        have h014 : zeroA.size = (abC ⟨1, updI noC 4 1, false, 0, .node 10 1 1 3 []⟩ (evC 10 1 1 3 none 0 0)).size := by rw [h14]; rfl
        have h1c : (abC ⟨1, updI noC 4 1, false, 0, .node 10 1 1 3 []⟩ (evC 10 1 1 3 none 0 0)).all (·.oneCell') = true := by unfold evC; rw [abC14]; simp [Value.oneCell']
        go_upto_region 33 with (refine wpList_store_row rfl 79 (.tmp 6) (.tmp 85) rfl G (abC ⟨1, updI noC 4 1, false, 0, .node 10 1 1 3 []⟩ (evC 10 1 1 3 none 0 0)) rfl (by exact congrArg Value.agg (abC14 ⟨1, updI noC 4 1, false, 0, .node 10 1 1 3 []⟩ _ _ _ _ _).symm) 79 zeroA hA10 hs14 h014 h1c ?_)
        obtain ⟨w4, hW⟩ : ∃ W, W = w10.setRow G (abC ⟨1, updI noC 4 1, false, 0, .node 10 1 1 3 []⟩ (evC 10 1 1 3 none 0 0)) := ⟨_, rfl⟩
        have hA4 : AbAt w4 G (abC ⟨1, updI noC 4 1, false, 0, .node 10 1 1 3 []⟩ (evC 10 1 1 3 none 0 0)) := by rw [hW]; exact setRow_heap _ _ _ _ _ _ hA10
        have HS4 := Lib.hid (HS10.out.row HG.out.1 (abC ⟨1, updI noC 4 1, false, 0, .node 10 1 1 3 []⟩ (evC 10 1 1 3 none 0 0)))
        rw [← hW] at HS4 ⊢
        clear hW h14 hs14 h014 h1c
        have hra : ReadsAQ (fun b => w4.heap.size ≤ b ∧ b < w4.heap.size) w4 2 (abC ⟨1, updI noC 4 1, false, 0, .node 10 1 1 3 []⟩ (evC 10 1 1 3 none 0 0)) ⟨1, updI noC 4 1, false, 0, .node 10 1 1 3 []⟩ := flat_reads 1 0 10 1 1 3 (updI noC 4 1) false in_1 wide_one in_0 ⟨by decide, by decide⟩ in_1 in_1 in_3
        obtain ⟨ys, hys⟩ : ∃ ys, ys = abC ⟨1, updI noC 4 1, false, 0, .node 10 1 1 3 []⟩ (evC 10 1 1 3 none 0 0) := ⟨_, rfl⟩
        rw [← hys] at hra hA4
        have HY := Lib.hid hys
        clear hys hA9 k1
        have HT2 := Lib.hid (show tblC n = ⟨1, (4 : Nat), false, updI (updI noC 4 tw) 5 (k : Int), pairs8 k, tough8 k + 1, says8 k, [⟨1, updI noC 4 1, false, 0, .node 10 1 1 3 []⟩]⟩ by rw [HT.out]; simp [beastA])
        have HGp := Lib.hid HG.out
        clear HG
        have hy14 := hra.size
        have HRa := Lib.hid hra
        have hS5 := HS4.out.keep (Below.refl _ _)
        have hS6 := hS5.keep (show Below w4.heap.size w4 (w4.alloc (.cells ys 79)) from (Below.refl _ _).alloc (Nat.le_refl _) _)
        have q12 := hS6.abs
        have f12 := hS6.frozen 12
        have hPl := hS5.cd.lt
        have HS5 := Lib.hid hS5
        have HWl := Lib.hid (show w.heap.size < w4.heap.size ∧ w4.heap.size ≤ w4.heap.size from ⟨by have := HS4.out.cd.lt; have := HS4.out.lt; omega, (Nat.le_refl _)⟩)
        clear hra hS5 hS6
        go_upto_region 54 with (first
          | (refine wpList_load_row rfl 79 (.tmp 6) rfl G rfl 79 _ (0, 0) _ hA4 Tryd.underlying79 rfl (by rw [hy14]; exact size14) ?_)
          | (refine wpList_buildSlice_ab rfl (.tmp 117) rfl ys hy14 rfl ?_))
        obtain ⟨w6, hW⟩ : ∃ W, W = (w4.setCell ⟨P, 12, none⟩ (.slice (some ⟨w4.heap.size, 0, none⟩) 1 1)).alloc (.cells ys 79) := ⟨_, rfl⟩
        have HS9 := Lib.hid (show FS w P ⟨1, (4 : Nat), false, updI (updI noC 4 tw) 5 (k : Int), pairs8 k, tough8 k + 1, says8 k, [⟨1, updI noC 4 1, false, 0, .node 10 1 1 3 []⟩]⟩ (some ⟨w4.heap.size, 0, none⟩) 1 1 w6 by rw [hW]; exact (HS5.out.set_ 12 _ (set_list _ _ _ _ _ _ _ _)).keep ((Below.refl _ _).alloc (Nat.le_refl _) _))
        have HG := Lib.hid (show AbAt w6 w4.heap.size ys by rw [hW]; simpa using AbAt.new (w4.setCell ⟨P, 12, none⟩ (.slice (some ⟨w4.heap.size, 0, none⟩) 1 1)) ys)
        have HKeep := Lib.hid (show ∀ b, b < w4.heap.size → b ≠ P → w6.heap[b]? = w4.heap[b]? from fun b hb hn => by
          rw [hW]
          have h1 : Below w4.heap.size (w4.setCell ⟨P, 12, none⟩ (.slice (some ⟨w4.heap.size, 0, none⟩) 1 1)) ((w4.setCell ⟨P, 12, none⟩ (.slice (some ⟨w4.heap.size, 0, none⟩) 1 1)).alloc (.cells ys 79)) := (Below.refl _ _).alloc (by simp) _
          exact (h1.block b hb).trans (heap_setCell_other w4 ⟨P, 12, none⟩ b _ (by simpa using hn)))
        rw [← hW]
        clear hW q12 f12
        have hz9 := HS9.out.z
        have hb9 := HS9.out.b
        have hP9 := HS9.out.cd
        have hlt9 := HS9.out.lt
        have hs9 := HS9.out.size
        have hsx9 : (Tryd.prog.info? 55).map (·.size) = some (cardC ⟨1, (4 : Nat), false, updI (updI noC 4 tw) 5 (k : Int), pairs8 k, tough8 k + 1, says8 k, [⟨1, updI noC 4 1, false, 0, .node 10 1 1 3 []⟩]⟩ (some ⟨w4.heap.size, 0, none⟩) 1 1).size := by rw [hs9]; exact size13
        have h19 : (cardC ⟨1, (4 : Nat), false, updI (updI noC 4 tw) 5 (k : Int), pairs8 k, tough8 k + 1, says8 k, [⟨1, updI noC 4 1, false, 0, .node 10 1 1 3 []⟩]⟩ (some ⟨w4.heap.size, 0, none⟩) 1 1).all (·.oneCell') = true := card_one _ _ _ _
        go_wp2_with (first
          | (refine wpList_load_row rfl 55 (.tmp 4) rfl P rfl 55 _ (0, 0) _ hP9 Tryd.underlying55 rfl hsx9 ?_)
          | (refine wpList_store_row rfl 55 (.tmp 2) (.tmp 238) rfl w.heap.size _ rfl rfl 55 zeroD hz9 hsx9 (by rw [hs9]; rfl) h19 ?_))
        refine bodyPost_ret (v := .tuple #[.agg (cardC ⟨1, (4 : Nat), false, updI (updI noC 4 tw) 5 (k : Int), pairs8 k, tough8 k + 1, says8 k, [⟨1, updI noC 4 1, false, 0, .node 10 1 1 3 []⟩]⟩ (some ⟨w4.heap.size, 0, none⟩) 1 1), .bool true]) ?_ rfl ⟨_, rfl, ?_, below_setRow hb9 _ _ (Nat.le_refl _)⟩
        · exact results_cell_tmp (ty := 55) (p := 2) (q := 3) (by kernel_rfl) _ _ w.heap.size 55 _ (0, 0) _ rfl (setRow_heap _ _ _ _ _ _ hz9) Tryd.underlying55 rfl hsx9
        rw [HT2.out]
        exact FS.reads HS9.out _ in_1 (show In64 ((4 : Nat) : Int) from ⟨by decide, by decide⟩) (wide_tw HTw.out) (pairs8_in k) ⟨by show _ ≤ tough8 k + 1; have := tough8_few k; omega, by show tough8 k + 1 ≤ _; have := tough8_few k; omega⟩ (says8_in k) (Nat.le_refl _) (by unfold maxLen; omega) (one_ab HG.out (HRa.out.keep (fun b hq => absurd hq.1 (by have := hq.2; omega)) (fun b hq => absurd hq.1 (by have := hq.2; omega))) ⟨by have := HWl.out; omega, HG.out.lt⟩)
end Go.Proofs.YtplfblccaeligaaDoor
