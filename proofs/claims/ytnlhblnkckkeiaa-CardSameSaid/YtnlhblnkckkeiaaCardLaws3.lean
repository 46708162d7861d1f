/- Layer 7: the laws' walks: CardSame. -/
import Derived.Test.YtnlhblnkckkeiaaCardLaws1
import Derived.Test.YtnlhblnkckkeiaaCardSame
import Derived.Deep.DeepCutAuto
namespace Go.Proofs.Ytnlhblnkckkeiaa
open Go.RowKit Ex Mx
def OutRel (w4 : World) (N : Nat) (c : CardT) (g5 g6 d3 : Nat) (cs1 cs3 : Array Value) (Q1 Q3 : Nat → Prop) (A : Option Addr) (i : Value) (wr : World) : Prop :=
  ∃ k : Nat, i = .int .i64 ((k : Nat) : Int) ∧ k ≤ c.abs.length ∧ LpS w4 N c g5 g6 d3 cs1 cs3 Q1 Q3 A wr
def InRel (w4 : World) (N : Nat) (c : CardT) (g5 g6 d3 : Nat) (cs1 cs3 : Array Value) (Q1 Q3 : Nat → Prop) (A A2 : Option Addr) (k2 c2 b q : Nat) (i : Value) (wr : World) : Prop :=
  ∃ j : Nat, i = .int .i64 ((j : Nat) : Int) ∧ j ≤ k2 ∧ LpS w4 N c g5 g6 d3 cs1 cs3 Q1 Q3 A wr ∧ SpI Q1 wr A2 k2 ∧ wr.cell? ⟨b, q, none⟩ = some (.slice A2 k2 c2)
set_option linter.unusedSimpArgs false in
set_option maxRecDepth 100000 in
set_option maxHeartbeats 4000000 in
theorem cardSame_walk {w : World} (S : CardSaid w) (d : Nat) (c : CardT) (cs : Array Value) (d' : Nat) (c' : CardT) (cs' : Array Value) (hr : ReadsC w.heap.size w d cs c) (hr' : ReadsC w.heap.size w d' cs' c') :
    Calls Try.prog 5 #[.agg cs, .agg cs'] w fun e w' => e = .returned (.bool true) ∧ Below w.heap.size w w' := by
  have hsx : (Try.prog.info? 26).map (·.size) = some cs.size := by rw [hr.size]; exact size13
  have hsx' : (Try.prog.info? 26).map (·.size) = some cs'.size := by rw [hr'.size]; exact size13
  go_enter Try.func5, Try.ntmps5
  go_upto_region 1 with fail
  obtain ⟨w1, hw1⟩ : ∃ w1, w1 = (w.alloc (.cells cs 26)).alloc (.cells cs' 26) := ⟨_, rfl⟩
  have hE : CdAt w1 w.heap.size cs := by rw [hw1]; exact (CdAt.new w cs).keep ((Below.refl _ _).alloc (Nat.le_refl _) _)
  have hE' : CdAt w1 (w.heap.size + 1) cs' := by
    have h := CdAt.new (w.alloc (.cells cs 26)) cs'
    rw [hw1]; simpa using h
  have hb1 : Below w.heap.size w w1 := by rw [hw1]; exact ((Below.refl _ _).alloc (Nat.le_refl _) _).alloc (by simp) _
  rw [← hw1]
  clear hw1
  go_wp2_with fail
  refine (cardAlive S w1 hb1).mono ?_
  rintro e w2 ⟨rfl, hb2⟩
  have hE := hE.keep hb2
  have hE' := hE'.keep hb2
  have hbw2 := keepB hb2 hb1
  go_wp2_with (refine wantCd (by rfl) (.tmp 2) rfl w.heap.size rfl cs hE hsx ?_)
  refine (largeC_any d c cs w2 (hr.grow hbw2)).mono ?_
  rintro e w3 ⟨B, hB, rfl, hb3⟩
  have hE := hE.keep hb3
  have hE' := hE'.keep hb3
  have hbw3 := keepB hb3 hbw2
  clear hb1 hb2 hb3 hbw2
  cases B
  case true =>
    clear hB
    go_wp2_with fail
    go_ret
    exact ⟨rfl, hbw3⟩
  have hs := hB rfl
  clear hB
  go_wp2_with (refine wantCd (by rfl) (.tmp 3) rfl (w.heap.size + 1) rfl cs' hE' hsx' ?_)
  refine (largeC_any d' c' cs' w3 (hr'.grow hbw3)).mono ?_
  rintro e w4 ⟨B, hB, rfl, hb4⟩
  have hE := hE.keep hb4
  have hE' := hE'.keep hb4
  have hbw4 := keepB hb4 hbw3
  clear hb4 hbw3
  cases B
  case true =>
    clear hB
    go_wp2_with fail
    go_ret
    exact ⟨rfl, hbw4⟩
  have hs' := hB rfl
  clear hB
  have HE := Lib.hid hE
  have HE' := Lib.hid hE'
  have HCp := Lib.hid (fun W (hW : Below w4.heap.size w4 W) => S.copy d c cs W (hr.grow (keepB hW hbw4)) hs (keepB hW hbw4))
  have HSn := Lib.hid (fun W (hW : Below w4.heap.size w4 W) => S.same d c cs d' c' cs' W (hr.grow (keepB hW hbw4)) (hr'.grow (keepB hW hbw4)) hs hs' (keepB hW hbw4))
  have HEf := Lib.hid (fun W (hW : Below w4.heap.size w4 W) => cards_any d d' c c' cs cs' W (hr.grow (keepB hW hbw4)) (hr'.grow (keepB hW hbw4)) hs)
  have HRr := Lib.hid hr
  have HSm := Lib.hid hs
  have HSS := Lib.hid S
  clear hE hE' hr hr' hs hs'
  go_upto_region 5 with fail
  go_cut [5, 6] (fun p q wx => Two w4 c p q wx)
  case first =>
    as_aux_lemma =>
      refine region_below (by kernel_rfl) (fun hHeld => ?_)
      refine wpAnyH_take (i := 0) (v := .agg cs) rfl (by kernel_rfl) (by kernel_rfl) (by kernel_rfl) (fun _ _ _ h => h) (yieldsCd (by rfl) (.tmp 2) rfl w.heap.size rfl cs (fun W hW => HE.out.keep hW) hsx) hHeld ?_
      simp only [Act.put, List.getElem_toArray, List.getElem_cons_zero, List.getElem_cons_succ, List.setIfInBounds_toArray, List.set_cons_zero, List.set_cons_succ]
      refine wpAnyH_take (i := 2) (v := .agg cs) rfl (by kernel_rfl) (by kernel_rfl) (by kernel_rfl) (fun _ _ _ h => h) (yieldsCd (by rfl) (.tmp 2) rfl w.heap.size rfl cs (fun W hW => HE.out.keep hW) hsx) hHeld ?_
      simp only [Act.put, List.getElem_toArray, List.getElem_cons_zero, List.getElem_cons_succ, List.setIfInBounds_toArray, List.set_cons_zero, List.set_cons_succ]
      clear HSn HEf HE'
      generalize w4.drew = W0 at hHeld ⊢
      have hB0 := hHeld
      have s0 := hHeld.size
      refine wpAnyH_ready (rs := [1, 4, 5]) (by kernel_rfl) (by simp) ?_
      refine AllReadyH.cons rfl (fun K hK => ?_) (AllReadyH.cons rfl (fun K hK => ?_) (AllReadyH.cons rfl (fun K hK => ?_) AllReadyH.nil))
      all_goals simp only [List.getElem_toArray, List.getElem_cons_zero, List.getElem_cons_succ]
      · skip
        go_simp
        refine (HCp.out _ hB0).mono ?_
        rintro e W1 ⟨d1, cs1, rfl, hq1, hb1⟩
        go_wp2_with fail
        have hB1 := keepB hb1 hB0
        refine hK.out _ _ hB1 (fun _ => ?_)
        clear hK K
        try simp only [Act.put, List.setIfInBounds_toArray, List.set_cons_zero, List.set_cons_succ]
        have s1 := hb1.size
        clear hb1
        refine wpAnyH_ready (rs := [3, 4, 5]) (by kernel_rfl) (by simp) ?_
        refine AllReadyH.cons rfl (fun K hK => ?_) (AllReadyH.cons rfl (fun K hK => ?_) (AllReadyH.cons rfl (fun K hK => ?_) AllReadyH.nil))
        all_goals simp only [List.getElem_toArray, List.getElem_cons_zero, List.getElem_cons_succ]
        · skip
          go_simp
          refine (HCp.out _ hB1).mono ?_
          rintro e W2 ⟨d3, cs3, rfl, hq3, hb2⟩
          go_wp2_with fail
          have hB2 := keepB hb2 hB1
          refine hK.out _ _ hB2 (fun _ => ?_)
          clear hK K
          try simp only [Act.put, List.setIfInBounds_toArray, List.set_cons_zero, List.set_cons_succ]
          have s2 := hb2.size
          have hq1 := hq1.keep (fun b hb' => hb2.block b (by omega)) (fun _ h' => h')
          clear hb2
          refine wpAnyH_ready (rs := [4, 5]) (by kernel_rfl) (by simp) ?_
          refine AllReadyH.cons rfl (fun K hK => ?_) (AllReadyH.cons rfl (fun K hK => ?_) AllReadyH.nil)
          all_goals simp only [List.getElem_toArray, List.getElem_cons_zero, List.getElem_cons_succ]
          · skip
            go_simp
            obtain ⟨W3, hW⟩ : ∃ W, W = W2.alloc (.cells zeroD 26) := ⟨_, rfl⟩
            have hx4 : CdAt W3 W2.heap.size zeroD := by rw [hW]; exact CdAt.new _ _
            have hb3 : Below W2.heap.size W2 W3 := by rw [hW]; exact (Below.refl _ _).alloc (Nat.le_refl _) _
            rw [← hW]
            clear hW
            have hB3 := keepB hb3 hB2
            refine hK.out _ _ hB3 (fun _ => ?_)
            clear hK K
            try simp only [Act.put, List.setIfInBounds_toArray, List.set_cons_zero, List.set_cons_succ]
            have s3 := hb3.size
            have t4 := hx4.lt
            have hq1 := hq1.keep (fun b hb' => hb3.block b (by omega)) (fun _ h' => h')
            have hq3 := hq3.keep (fun b hb' => hb3.block b (by omega)) (fun _ h' => h')
            clear hb3
            refine wpAnyH_ready (rs := [5]) (by kernel_rfl) (by simp) ?_
            refine AllReadyH.cons rfl (fun K hK => ?_) AllReadyH.nil
            all_goals simp only [List.getElem_toArray, List.getElem_cons_zero, List.getElem_cons_succ]
            go_simp
            obtain ⟨W4, hW⟩ : ∃ W, W = W3.alloc (.cells zeroD 26) := ⟨_, rfl⟩
            have hx5 : CdAt W4 W3.heap.size zeroD := by rw [hW]; exact CdAt.new _ _
            have hb4 : Below W3.heap.size W3 W4 := by rw [hW]; exact (Below.refl _ _).alloc (Nat.le_refl _) _
            rw [← hW]
            clear hW
            have hB4 := keepB hb4 hB3
            refine hK.out _ _ hB4 (fun _ => ?_)
            clear hK K
            try simp only [Act.put, List.setIfInBounds_toArray, List.set_cons_zero, List.set_cons_succ]
            have s4 := hb4.size
            have t5 := hx5.lt
            have hq1 := hq1.keep (fun b hb' => hb4.block b (by omega)) (fun _ h' => h')
            have hq3 := hq3.keep (fun b hb' => hb4.block b (by omega)) (fun _ h' => h')
            have hx4 := hx4.keep hb4
            clear hb4
            refine wpAnyH_ready (rs := [6]) (by kernel_rfl) (by simp) ?_
            refine AllReadyH.cons rfl (fun K hK => ?_) AllReadyH.nil
            simp only [List.getElem_toArray, List.getElem_cons_zero, List.getElem_cons_succ]
            refine wp_store_row 26 (.tmp 5) (.tmp 18) rfl W2.heap.size cs1 rfl rfl 26 zeroD hx4 hq1.info hq1.size.symm hq1.one ?_
            refine hK.out _ _ (below_setRow hB4 _ _ (by omega)) (fun _ => ?_)
            clear hK K
            try simp only [Act.put, List.setIfInBounds_toArray, List.set_cons_zero, List.set_cons_succ]
            refine wpAnyH_ready (rs := [7]) (by kernel_rfl) (by simp) ?_
            refine AllReadyH.cons rfl (fun K hK => ?_) AllReadyH.nil
            simp only [List.getElem_toArray, List.getElem_cons_zero, List.getElem_cons_succ]
            refine wp_store_row 26 (.tmp 6) (.tmp 20) rfl W3.heap.size cs3 rfl rfl 26 zeroD ((setRow_other W4 _ _ _ (by omega)).trans hx5) hq3.info hq3.size.symm hq3.one ?_
            refine hK.out _ _ (below_setRow (below_setRow hB4 _ _ (by omega)) _ _ (by omega)) (fun _ => ?_)
            clear hK K
            try simp only [Act.put, List.setIfInBounds_toArray, List.set_cons_zero, List.set_cons_succ]
            refine wpAnyH_done (by kernel_rfl) ?_ _
            go_wp2_with fail
            go_meet
            exact two_fin hq1 hq3 hx4 hx5 hB4 (by omega) (fun b hb' => by omega) (fun b hb' => by omega) (by omega) (by omega)
          · skip
            go_simp
            obtain ⟨W3, hW⟩ : ∃ W, W = W2.alloc (.cells zeroD 26) := ⟨_, rfl⟩
            have hx5 : CdAt W3 W2.heap.size zeroD := by rw [hW]; exact CdAt.new _ _
            have hb3 : Below W2.heap.size W2 W3 := by rw [hW]; exact (Below.refl _ _).alloc (Nat.le_refl _) _
            rw [← hW]
            clear hW
            have hB3 := keepB hb3 hB2
            refine hK.out _ _ hB3 (fun _ => ?_)
            clear hK K
            try simp only [Act.put, List.setIfInBounds_toArray, List.set_cons_zero, List.set_cons_succ]
            have s3 := hb3.size
            have t5 := hx5.lt
            have hq1 := hq1.keep (fun b hb' => hb3.block b (by omega)) (fun _ h' => h')
            have hq3 := hq3.keep (fun b hb' => hb3.block b (by omega)) (fun _ h' => h')
            clear hb3
            refine wpAnyH_ready (rs := [4]) (by kernel_rfl) (by simp) ?_
            refine AllReadyH.cons rfl (fun K hK => ?_) AllReadyH.nil
            all_goals simp only [List.getElem_toArray, List.getElem_cons_zero, List.getElem_cons_succ]
            go_simp
            obtain ⟨W4, hW⟩ : ∃ W, W = W3.alloc (.cells zeroD 26) := ⟨_, rfl⟩
            have hx4 : CdAt W4 W3.heap.size zeroD := by rw [hW]; exact CdAt.new _ _
            have hb4 : Below W3.heap.size W3 W4 := by rw [hW]; exact (Below.refl _ _).alloc (Nat.le_refl _) _
            rw [← hW]
            clear hW
            have hB4 := keepB hb4 hB3
            refine hK.out _ _ hB4 (fun _ => ?_)
            clear hK K
            try simp only [Act.put, List.setIfInBounds_toArray, List.set_cons_zero, List.set_cons_succ]
            have s4 := hb4.size
            have t4 := hx4.lt
            have hq1 := hq1.keep (fun b hb' => hb4.block b (by omega)) (fun _ h' => h')
            have hq3 := hq3.keep (fun b hb' => hb4.block b (by omega)) (fun _ h' => h')
            have hx5 := hx5.keep hb4
            clear hb4
            refine wpAnyH_ready (rs := [6]) (by kernel_rfl) (by simp) ?_
            refine AllReadyH.cons rfl (fun K hK => ?_) AllReadyH.nil
            simp only [List.getElem_toArray, List.getElem_cons_zero, List.getElem_cons_succ]
            refine wp_store_row 26 (.tmp 5) (.tmp 18) rfl W3.heap.size cs1 rfl rfl 26 zeroD hx4 hq1.info hq1.size.symm hq1.one ?_
            refine hK.out _ _ (below_setRow hB4 _ _ (by omega)) (fun _ => ?_)
            clear hK K
            try simp only [Act.put, List.setIfInBounds_toArray, List.set_cons_zero, List.set_cons_succ]
            refine wpAnyH_ready (rs := [7]) (by kernel_rfl) (by simp) ?_
            refine AllReadyH.cons rfl (fun K hK => ?_) AllReadyH.nil
            simp only [List.getElem_toArray, List.getElem_cons_zero, List.getElem_cons_succ]
            refine wp_store_row 26 (.tmp 6) (.tmp 20) rfl W2.heap.size cs3 rfl rfl 26 zeroD ((setRow_other W4 _ _ _ (by omega)).trans hx5) hq3.info hq3.size.symm hq3.one ?_
            refine hK.out _ _ (below_setRow (below_setRow hB4 _ _ (by omega)) _ _ (by omega)) (fun _ => ?_)
            clear hK K
            try simp only [Act.put, List.setIfInBounds_toArray, List.set_cons_zero, List.set_cons_succ]
            refine wpAnyH_done (by kernel_rfl) ?_ _
            go_wp2_with fail
            go_meet
            exact two_fin hq1 hq3 hx4 hx5 hB4 (by omega) (fun b hb' => by omega) (fun b hb' => by omega) (by omega) (by omega)
        · skip
          go_simp
          obtain ⟨W2, hW⟩ : ∃ W, W = W1.alloc (.cells zeroD 26) := ⟨_, rfl⟩
          have hx4 : CdAt W2 W1.heap.size zeroD := by rw [hW]; exact CdAt.new _ _
          have hb2 : Below W1.heap.size W1 W2 := by rw [hW]; exact (Below.refl _ _).alloc (Nat.le_refl _) _
          rw [← hW]
          clear hW
          have hB2 := keepB hb2 hB1
          refine hK.out _ _ hB2 (fun _ => ?_)
          clear hK K
          try simp only [Act.put, List.setIfInBounds_toArray, List.set_cons_zero, List.set_cons_succ]
          have s2 := hb2.size
          have t4 := hx4.lt
          have hq1 := hq1.keep (fun b hb' => hb2.block b (by omega)) (fun _ h' => h')
          clear hb2
          refine wpAnyH_ready (rs := [3, 5]) (by kernel_rfl) (by simp) ?_
          refine AllReadyH.cons rfl (fun K hK => ?_) (AllReadyH.cons rfl (fun K hK => ?_) AllReadyH.nil)
          all_goals simp only [List.getElem_toArray, List.getElem_cons_zero, List.getElem_cons_succ]
          · skip
            go_simp
            refine (HCp.out _ hB2).mono ?_
            rintro e W3 ⟨d3, cs3, rfl, hq3, hb3⟩
            go_wp2_with fail
            have hB3 := keepB hb3 hB2
            refine hK.out _ _ hB3 (fun _ => ?_)
            clear hK K
            try simp only [Act.put, List.setIfInBounds_toArray, List.set_cons_zero, List.set_cons_succ]
            have s3 := hb3.size
            have hq1 := hq1.keep (fun b hb' => hb3.block b (by omega)) (fun _ h' => h')
            have hx4 := hx4.keep hb3
            clear hb3
            refine wpAnyH_ready (rs := [5]) (by kernel_rfl) (by simp) ?_
            refine AllReadyH.cons rfl (fun K hK => ?_) AllReadyH.nil
            all_goals simp only [List.getElem_toArray, List.getElem_cons_zero, List.getElem_cons_succ]
            go_simp
            obtain ⟨W4, hW⟩ : ∃ W, W = W3.alloc (.cells zeroD 26) := ⟨_, rfl⟩
            have hx5 : CdAt W4 W3.heap.size zeroD := by rw [hW]; exact CdAt.new _ _
            have hb4 : Below W3.heap.size W3 W4 := by rw [hW]; exact (Below.refl _ _).alloc (Nat.le_refl _) _
            rw [← hW]
            clear hW
            have hB4 := keepB hb4 hB3
            refine hK.out _ _ hB4 (fun _ => ?_)
            clear hK K
            try simp only [Act.put, List.setIfInBounds_toArray, List.set_cons_zero, List.set_cons_succ]
            have s4 := hb4.size
            have t5 := hx5.lt
            have hq1 := hq1.keep (fun b hb' => hb4.block b (by omega)) (fun _ h' => h')
            have hx4 := hx4.keep hb4
            have hq3 := hq3.keep (fun b hb' => hb4.block b (by omega)) (fun _ h' => h')
            clear hb4
            refine wpAnyH_ready (rs := [6]) (by kernel_rfl) (by simp) ?_
            refine AllReadyH.cons rfl (fun K hK => ?_) AllReadyH.nil
            simp only [List.getElem_toArray, List.getElem_cons_zero, List.getElem_cons_succ]
            refine wp_store_row 26 (.tmp 5) (.tmp 18) rfl W1.heap.size cs1 rfl rfl 26 zeroD hx4 hq1.info hq1.size.symm hq1.one ?_
            refine hK.out _ _ (below_setRow hB4 _ _ (by omega)) (fun _ => ?_)
            clear hK K
            try simp only [Act.put, List.setIfInBounds_toArray, List.set_cons_zero, List.set_cons_succ]
            refine wpAnyH_ready (rs := [7]) (by kernel_rfl) (by simp) ?_
            refine AllReadyH.cons rfl (fun K hK => ?_) AllReadyH.nil
            simp only [List.getElem_toArray, List.getElem_cons_zero, List.getElem_cons_succ]
            refine wp_store_row 26 (.tmp 6) (.tmp 20) rfl W3.heap.size cs3 rfl rfl 26 zeroD ((setRow_other W4 _ _ _ (by omega)).trans hx5) hq3.info hq3.size.symm hq3.one ?_
            refine hK.out _ _ (below_setRow (below_setRow hB4 _ _ (by omega)) _ _ (by omega)) (fun _ => ?_)
            clear hK K
            try simp only [Act.put, List.setIfInBounds_toArray, List.set_cons_zero, List.set_cons_succ]
            refine wpAnyH_done (by kernel_rfl) ?_ _
            go_wp2_with fail
            go_meet
            exact two_fin hq1 hq3 hx4 hx5 hB4 (by omega) (fun b hb' => by omega) (fun b hb' => by omega) (by omega) (by omega)
          · skip
            go_simp
            obtain ⟨W3, hW⟩ : ∃ W, W = W2.alloc (.cells zeroD 26) := ⟨_, rfl⟩
            have hx5 : CdAt W3 W2.heap.size zeroD := by rw [hW]; exact CdAt.new _ _
            have hb3 : Below W2.heap.size W2 W3 := by rw [hW]; exact (Below.refl _ _).alloc (Nat.le_refl _) _
            rw [← hW]
            clear hW
            have hB3 := keepB hb3 hB2
            refine hK.out _ _ hB3 (fun _ => ?_)
            clear hK K
            try simp only [Act.put, List.setIfInBounds_toArray, List.set_cons_zero, List.set_cons_succ]
            have s3 := hb3.size
            have t5 := hx5.lt
            have hq1 := hq1.keep (fun b hb' => hb3.block b (by omega)) (fun _ h' => h')
            have hx4 := hx4.keep hb3
            clear hb3
            refine wpAnyH_ready (rs := [3]) (by kernel_rfl) (by simp) ?_
            refine AllReadyH.cons rfl (fun K hK => ?_) AllReadyH.nil
            all_goals simp only [List.getElem_toArray, List.getElem_cons_zero, List.getElem_cons_succ]
            go_simp
            refine (HCp.out _ hB3).mono ?_
            rintro e W4 ⟨d3, cs3, rfl, hq3, hb4⟩
            go_wp2_with fail
            have hB4 := keepB hb4 hB3
            refine hK.out _ _ hB4 (fun _ => ?_)
            clear hK K
            try simp only [Act.put, List.setIfInBounds_toArray, List.set_cons_zero, List.set_cons_succ]
            have s4 := hb4.size
            have hq1 := hq1.keep (fun b hb' => hb4.block b (by omega)) (fun _ h' => h')
            have hx4 := hx4.keep hb4
            have hx5 := hx5.keep hb4
            clear hb4
            refine wpAnyH_ready (rs := [6]) (by kernel_rfl) (by simp) ?_
            refine AllReadyH.cons rfl (fun K hK => ?_) AllReadyH.nil
            simp only [List.getElem_toArray, List.getElem_cons_zero, List.getElem_cons_succ]
            refine wp_store_row 26 (.tmp 5) (.tmp 18) rfl W1.heap.size cs1 rfl rfl 26 zeroD hx4 hq1.info hq1.size.symm hq1.one ?_
            refine hK.out _ _ (below_setRow hB4 _ _ (by omega)) (fun _ => ?_)
            clear hK K
            try simp only [Act.put, List.setIfInBounds_toArray, List.set_cons_zero, List.set_cons_succ]
            refine wpAnyH_ready (rs := [7]) (by kernel_rfl) (by simp) ?_
            refine AllReadyH.cons rfl (fun K hK => ?_) AllReadyH.nil
            simp only [List.getElem_toArray, List.getElem_cons_zero, List.getElem_cons_succ]
            refine wp_store_row 26 (.tmp 6) (.tmp 20) rfl W2.heap.size cs3 rfl rfl 26 zeroD ((setRow_other W4 _ _ _ (by omega)).trans hx5) hq3.info hq3.size.symm hq3.one ?_
            refine hK.out _ _ (below_setRow (below_setRow hB4 _ _ (by omega)) _ _ (by omega)) (fun _ => ?_)
            clear hK K
            try simp only [Act.put, List.setIfInBounds_toArray, List.set_cons_zero, List.set_cons_succ]
            refine wpAnyH_done (by kernel_rfl) ?_ _
            go_wp2_with fail
            go_meet
            exact two_fin hq1 hq3 hx4 hx5 hB4 (by omega) (fun b hb' => by omega) (fun b hb' => by omega) (by omega) (by omega)
        · skip
          go_simp
          obtain ⟨W2, hW⟩ : ∃ W, W = W1.alloc (.cells zeroD 26) := ⟨_, rfl⟩
          have hx5 : CdAt W2 W1.heap.size zeroD := by rw [hW]; exact CdAt.new _ _
          have hb2 : Below W1.heap.size W1 W2 := by rw [hW]; exact (Below.refl _ _).alloc (Nat.le_refl _) _
          rw [← hW]
          clear hW
          have hB2 := keepB hb2 hB1
          refine hK.out _ _ hB2 (fun _ => ?_)
          clear hK K
          try simp only [Act.put, List.setIfInBounds_toArray, List.set_cons_zero, List.set_cons_succ]
          have s2 := hb2.size
          have t5 := hx5.lt
          have hq1 := hq1.keep (fun b hb' => hb2.block b (by omega)) (fun _ h' => h')
          clear hb2
          refine wpAnyH_ready (rs := [3, 4]) (by kernel_rfl) (by simp) ?_
          refine AllReadyH.cons rfl (fun K hK => ?_) (AllReadyH.cons rfl (fun K hK => ?_) AllReadyH.nil)
          all_goals simp only [List.getElem_toArray, List.getElem_cons_zero, List.getElem_cons_succ]
          · skip
            go_simp
            refine (HCp.out _ hB2).mono ?_
            rintro e W3 ⟨d3, cs3, rfl, hq3, hb3⟩
            go_wp2_with fail
            have hB3 := keepB hb3 hB2
            refine hK.out _ _ hB3 (fun _ => ?_)
            clear hK K
            try simp only [Act.put, List.setIfInBounds_toArray, List.set_cons_zero, List.set_cons_succ]
            have s3 := hb3.size
            have hq1 := hq1.keep (fun b hb' => hb3.block b (by omega)) (fun _ h' => h')
            have hx5 := hx5.keep hb3
            clear hb3
            refine wpAnyH_ready (rs := [4]) (by kernel_rfl) (by simp) ?_
            refine AllReadyH.cons rfl (fun K hK => ?_) AllReadyH.nil
            all_goals simp only [List.getElem_toArray, List.getElem_cons_zero, List.getElem_cons_succ]
            go_simp
            obtain ⟨W4, hW⟩ : ∃ W, W = W3.alloc (.cells zeroD 26) := ⟨_, rfl⟩
            have hx4 : CdAt W4 W3.heap.size zeroD := by rw [hW]; exact CdAt.new _ _
            have hb4 : Below W3.heap.size W3 W4 := by rw [hW]; exact (Below.refl _ _).alloc (Nat.le_refl _) _
            rw [← hW]
            clear hW
            have hB4 := keepB hb4 hB3
            refine hK.out _ _ hB4 (fun _ => ?_)
            clear hK K
            try simp only [Act.put, List.setIfInBounds_toArray, List.set_cons_zero, List.set_cons_succ]
            have s4 := hb4.size
            have t4 := hx4.lt
            have hq1 := hq1.keep (fun b hb' => hb4.block b (by omega)) (fun _ h' => h')
            have hx5 := hx5.keep hb4
            have hq3 := hq3.keep (fun b hb' => hb4.block b (by omega)) (fun _ h' => h')
            clear hb4
            refine wpAnyH_ready (rs := [6]) (by kernel_rfl) (by simp) ?_
            refine AllReadyH.cons rfl (fun K hK => ?_) AllReadyH.nil
            simp only [List.getElem_toArray, List.getElem_cons_zero, List.getElem_cons_succ]
            refine wp_store_row 26 (.tmp 5) (.tmp 18) rfl W3.heap.size cs1 rfl rfl 26 zeroD hx4 hq1.info hq1.size.symm hq1.one ?_
            refine hK.out _ _ (below_setRow hB4 _ _ (by omega)) (fun _ => ?_)
            clear hK K
            try simp only [Act.put, List.setIfInBounds_toArray, List.set_cons_zero, List.set_cons_succ]
            refine wpAnyH_ready (rs := [7]) (by kernel_rfl) (by simp) ?_
            refine AllReadyH.cons rfl (fun K hK => ?_) AllReadyH.nil
            simp only [List.getElem_toArray, List.getElem_cons_zero, List.getElem_cons_succ]
            refine wp_store_row 26 (.tmp 6) (.tmp 20) rfl W1.heap.size cs3 rfl rfl 26 zeroD ((setRow_other W4 _ _ _ (by omega)).trans hx5) hq3.info hq3.size.symm hq3.one ?_
            refine hK.out _ _ (below_setRow (below_setRow hB4 _ _ (by omega)) _ _ (by omega)) (fun _ => ?_)
            clear hK K
            try simp only [Act.put, List.setIfInBounds_toArray, List.set_cons_zero, List.set_cons_succ]
            refine wpAnyH_done (by kernel_rfl) ?_ _
            go_wp2_with fail
            go_meet
            exact two_fin hq1 hq3 hx4 hx5 hB4 (by omega) (fun b hb' => by omega) (fun b hb' => by omega) (by omega) (by omega)
          · skip
            go_simp
            obtain ⟨W3, hW⟩ : ∃ W, W = W2.alloc (.cells zeroD 26) := ⟨_, rfl⟩
            have hx4 : CdAt W3 W2.heap.size zeroD := by rw [hW]; exact CdAt.new _ _
            have hb3 : Below W2.heap.size W2 W3 := by rw [hW]; exact (Below.refl _ _).alloc (Nat.le_refl _) _
            rw [← hW]
            clear hW
            have hB3 := keepB hb3 hB2
            refine hK.out _ _ hB3 (fun _ => ?_)
            clear hK K
            try simp only [Act.put, List.setIfInBounds_toArray, List.set_cons_zero, List.set_cons_succ]
            have s3 := hb3.size
            have t4 := hx4.lt
            have hq1 := hq1.keep (fun b hb' => hb3.block b (by omega)) (fun _ h' => h')
            have hx5 := hx5.keep hb3
            clear hb3
            refine wpAnyH_ready (rs := [3]) (by kernel_rfl) (by simp) ?_
            refine AllReadyH.cons rfl (fun K hK => ?_) AllReadyH.nil
            all_goals simp only [List.getElem_toArray, List.getElem_cons_zero, List.getElem_cons_succ]
            go_simp
            refine (HCp.out _ hB3).mono ?_
            rintro e W4 ⟨d3, cs3, rfl, hq3, hb4⟩
            go_wp2_with fail
            have hB4 := keepB hb4 hB3
            refine hK.out _ _ hB4 (fun _ => ?_)
            clear hK K
            try simp only [Act.put, List.setIfInBounds_toArray, List.set_cons_zero, List.set_cons_succ]
            have s4 := hb4.size
            have hq1 := hq1.keep (fun b hb' => hb4.block b (by omega)) (fun _ h' => h')
            have hx5 := hx5.keep hb4
            have hx4 := hx4.keep hb4
            clear hb4
            refine wpAnyH_ready (rs := [6]) (by kernel_rfl) (by simp) ?_
            refine AllReadyH.cons rfl (fun K hK => ?_) AllReadyH.nil
            simp only [List.getElem_toArray, List.getElem_cons_zero, List.getElem_cons_succ]
            refine wp_store_row 26 (.tmp 5) (.tmp 18) rfl W2.heap.size cs1 rfl rfl 26 zeroD hx4 hq1.info hq1.size.symm hq1.one ?_
            refine hK.out _ _ (below_setRow hB4 _ _ (by omega)) (fun _ => ?_)
            clear hK K
            try simp only [Act.put, List.setIfInBounds_toArray, List.set_cons_zero, List.set_cons_succ]
            refine wpAnyH_ready (rs := [7]) (by kernel_rfl) (by simp) ?_
            refine AllReadyH.cons rfl (fun K hK => ?_) AllReadyH.nil
            simp only [List.getElem_toArray, List.getElem_cons_zero, List.getElem_cons_succ]
            refine wp_store_row 26 (.tmp 6) (.tmp 20) rfl W1.heap.size cs3 rfl rfl 26 zeroD ((setRow_other W4 _ _ _ (by omega)).trans hx5) hq3.info hq3.size.symm hq3.one ?_
            refine hK.out _ _ (below_setRow (below_setRow hB4 _ _ (by omega)) _ _ (by omega)) (fun _ => ?_)
            clear hK K
            try simp only [Act.put, List.setIfInBounds_toArray, List.set_cons_zero, List.set_cons_succ]
            refine wpAnyH_done (by kernel_rfl) ?_ _
            go_wp2_with fail
            go_meet
            exact two_fin hq1 hq3 hx4 hx5 hB4 (by omega) (fun b hb' => by omega) (fun b hb' => by omega) (by omega) (by omega)
      · skip
        go_simp
        obtain ⟨W1, hW⟩ : ∃ W, W = W0.alloc (.cells zeroD 26) := ⟨_, rfl⟩
        have hx4 : CdAt W1 W0.heap.size zeroD := by rw [hW]; exact CdAt.new _ _
        have hb1 : Below W0.heap.size W0 W1 := by rw [hW]; exact (Below.refl _ _).alloc (Nat.le_refl _) _
        rw [← hW]
        clear hW
        have hB1 := keepB hb1 hB0
        refine hK.out _ _ hB1 (fun _ => ?_)
        clear hK K
        try simp only [Act.put, List.setIfInBounds_toArray, List.set_cons_zero, List.set_cons_succ]
        have s1 := hb1.size
        have t4 := hx4.lt
        clear hb1
        refine wpAnyH_ready (rs := [1, 5]) (by kernel_rfl) (by simp) ?_
        refine AllReadyH.cons rfl (fun K hK => ?_) (AllReadyH.cons rfl (fun K hK => ?_) AllReadyH.nil)
        all_goals simp only [List.getElem_toArray, List.getElem_cons_zero, List.getElem_cons_succ]
        · skip
          go_simp
          refine (HCp.out _ hB1).mono ?_
          rintro e W2 ⟨d1, cs1, rfl, hq1, hb2⟩
          go_wp2_with fail
          have hB2 := keepB hb2 hB1
          refine hK.out _ _ hB2 (fun _ => ?_)
          clear hK K
          try simp only [Act.put, List.setIfInBounds_toArray, List.set_cons_zero, List.set_cons_succ]
          have s2 := hb2.size
          have hx4 := hx4.keep hb2
          clear hb2
          refine wpAnyH_ready (rs := [3, 5]) (by kernel_rfl) (by simp) ?_
          refine AllReadyH.cons rfl (fun K hK => ?_) (AllReadyH.cons rfl (fun K hK => ?_) AllReadyH.nil)
          all_goals simp only [List.getElem_toArray, List.getElem_cons_zero, List.getElem_cons_succ]
          · skip
            go_simp
            refine (HCp.out _ hB2).mono ?_
            rintro e W3 ⟨d3, cs3, rfl, hq3, hb3⟩
            go_wp2_with fail
            have hB3 := keepB hb3 hB2
            refine hK.out _ _ hB3 (fun _ => ?_)
            clear hK K
            try simp only [Act.put, List.setIfInBounds_toArray, List.set_cons_zero, List.set_cons_succ]
            have s3 := hb3.size
            have hx4 := hx4.keep hb3
            have hq1 := hq1.keep (fun b hb' => hb3.block b (by omega)) (fun _ h' => h')
            clear hb3
            refine wpAnyH_ready (rs := [5]) (by kernel_rfl) (by simp) ?_
            refine AllReadyH.cons rfl (fun K hK => ?_) AllReadyH.nil
            all_goals simp only [List.getElem_toArray, List.getElem_cons_zero, List.getElem_cons_succ]
            go_simp
            obtain ⟨W4, hW⟩ : ∃ W, W = W3.alloc (.cells zeroD 26) := ⟨_, rfl⟩
            have hx5 : CdAt W4 W3.heap.size zeroD := by rw [hW]; exact CdAt.new _ _
            have hb4 : Below W3.heap.size W3 W4 := by rw [hW]; exact (Below.refl _ _).alloc (Nat.le_refl _) _
            rw [← hW]
            clear hW
            have hB4 := keepB hb4 hB3
            refine hK.out _ _ hB4 (fun _ => ?_)
            clear hK K
            try simp only [Act.put, List.setIfInBounds_toArray, List.set_cons_zero, List.set_cons_succ]
            have s4 := hb4.size
            have t5 := hx5.lt
            have hx4 := hx4.keep hb4
            have hq1 := hq1.keep (fun b hb' => hb4.block b (by omega)) (fun _ h' => h')
            have hq3 := hq3.keep (fun b hb' => hb4.block b (by omega)) (fun _ h' => h')
            clear hb4
            refine wpAnyH_ready (rs := [6]) (by kernel_rfl) (by simp) ?_
            refine AllReadyH.cons rfl (fun K hK => ?_) AllReadyH.nil
            simp only [List.getElem_toArray, List.getElem_cons_zero, List.getElem_cons_succ]
            refine wp_store_row 26 (.tmp 5) (.tmp 18) rfl W0.heap.size cs1 rfl rfl 26 zeroD hx4 hq1.info hq1.size.symm hq1.one ?_
            refine hK.out _ _ (below_setRow hB4 _ _ (by omega)) (fun _ => ?_)
            clear hK K
            try simp only [Act.put, List.setIfInBounds_toArray, List.set_cons_zero, List.set_cons_succ]
            refine wpAnyH_ready (rs := [7]) (by kernel_rfl) (by simp) ?_
            refine AllReadyH.cons rfl (fun K hK => ?_) AllReadyH.nil
            simp only [List.getElem_toArray, List.getElem_cons_zero, List.getElem_cons_succ]
            refine wp_store_row 26 (.tmp 6) (.tmp 20) rfl W3.heap.size cs3 rfl rfl 26 zeroD ((setRow_other W4 _ _ _ (by omega)).trans hx5) hq3.info hq3.size.symm hq3.one ?_
            refine hK.out _ _ (below_setRow (below_setRow hB4 _ _ (by omega)) _ _ (by omega)) (fun _ => ?_)
            clear hK K
            try simp only [Act.put, List.setIfInBounds_toArray, List.set_cons_zero, List.set_cons_succ]
            refine wpAnyH_done (by kernel_rfl) ?_ _
            go_wp2_with fail
            go_meet
            exact two_fin hq1 hq3 hx4 hx5 hB4 (by omega) (fun b hb' => by omega) (fun b hb' => by omega) (by omega) (by omega)
          · skip
            go_simp
            obtain ⟨W3, hW⟩ : ∃ W, W = W2.alloc (.cells zeroD 26) := ⟨_, rfl⟩
            have hx5 : CdAt W3 W2.heap.size zeroD := by rw [hW]; exact CdAt.new _ _
            have hb3 : Below W2.heap.size W2 W3 := by rw [hW]; exact (Below.refl _ _).alloc (Nat.le_refl _) _
            rw [← hW]
            clear hW
            have hB3 := keepB hb3 hB2
            refine hK.out _ _ hB3 (fun _ => ?_)
            clear hK K
            try simp only [Act.put, List.setIfInBounds_toArray, List.set_cons_zero, List.set_cons_succ]
            have s3 := hb3.size
            have t5 := hx5.lt
            have hx4 := hx4.keep hb3
            have hq1 := hq1.keep (fun b hb' => hb3.block b (by omega)) (fun _ h' => h')
            clear hb3
            refine wpAnyH_ready (rs := [3]) (by kernel_rfl) (by simp) ?_
            refine AllReadyH.cons rfl (fun K hK => ?_) AllReadyH.nil
            all_goals simp only [List.getElem_toArray, List.getElem_cons_zero, List.getElem_cons_succ]
            go_simp
            refine (HCp.out _ hB3).mono ?_
            rintro e W4 ⟨d3, cs3, rfl, hq3, hb4⟩
            go_wp2_with fail
            have hB4 := keepB hb4 hB3
            refine hK.out _ _ hB4 (fun _ => ?_)
            clear hK K
            try simp only [Act.put, List.setIfInBounds_toArray, List.set_cons_zero, List.set_cons_succ]
            have s4 := hb4.size
            have hx4 := hx4.keep hb4
            have hq1 := hq1.keep (fun b hb' => hb4.block b (by omega)) (fun _ h' => h')
            have hx5 := hx5.keep hb4
            clear hb4
            refine wpAnyH_ready (rs := [6]) (by kernel_rfl) (by simp) ?_
            refine AllReadyH.cons rfl (fun K hK => ?_) AllReadyH.nil
            simp only [List.getElem_toArray, List.getElem_cons_zero, List.getElem_cons_succ]
            refine wp_store_row 26 (.tmp 5) (.tmp 18) rfl W0.heap.size cs1 rfl rfl 26 zeroD hx4 hq1.info hq1.size.symm hq1.one ?_
            refine hK.out _ _ (below_setRow hB4 _ _ (by omega)) (fun _ => ?_)
            clear hK K
            try simp only [Act.put, List.setIfInBounds_toArray, List.set_cons_zero, List.set_cons_succ]
            refine wpAnyH_ready (rs := [7]) (by kernel_rfl) (by simp) ?_
            refine AllReadyH.cons rfl (fun K hK => ?_) AllReadyH.nil
            simp only [List.getElem_toArray, List.getElem_cons_zero, List.getElem_cons_succ]
            refine wp_store_row 26 (.tmp 6) (.tmp 20) rfl W2.heap.size cs3 rfl rfl 26 zeroD ((setRow_other W4 _ _ _ (by omega)).trans hx5) hq3.info hq3.size.symm hq3.one ?_
            refine hK.out _ _ (below_setRow (below_setRow hB4 _ _ (by omega)) _ _ (by omega)) (fun _ => ?_)
            clear hK K
            try simp only [Act.put, List.setIfInBounds_toArray, List.set_cons_zero, List.set_cons_succ]
            refine wpAnyH_done (by kernel_rfl) ?_ _
            go_wp2_with fail
            go_meet
            exact two_fin hq1 hq3 hx4 hx5 hB4 (by omega) (fun b hb' => by omega) (fun b hb' => by omega) (by omega) (by omega)
        · skip
          go_simp
          obtain ⟨W2, hW⟩ : ∃ W, W = W1.alloc (.cells zeroD 26) := ⟨_, rfl⟩
          have hx5 : CdAt W2 W1.heap.size zeroD := by rw [hW]; exact CdAt.new _ _
          have hb2 : Below W1.heap.size W1 W2 := by rw [hW]; exact (Below.refl _ _).alloc (Nat.le_refl _) _
          rw [← hW]
          clear hW
          have hB2 := keepB hb2 hB1
          refine hK.out _ _ hB2 (fun _ => ?_)
          clear hK K
          try simp only [Act.put, List.setIfInBounds_toArray, List.set_cons_zero, List.set_cons_succ]
          have s2 := hb2.size
          have t5 := hx5.lt
          have hx4 := hx4.keep hb2
          clear hb2
          refine wpAnyH_ready (rs := [1]) (by kernel_rfl) (by simp) ?_
          refine AllReadyH.cons rfl (fun K hK => ?_) AllReadyH.nil
          all_goals simp only [List.getElem_toArray, List.getElem_cons_zero, List.getElem_cons_succ]
          go_simp
          refine (HCp.out _ hB2).mono ?_
          rintro e W3 ⟨d1, cs1, rfl, hq1, hb3⟩
          go_wp2_with fail
          have hB3 := keepB hb3 hB2
          refine hK.out _ _ hB3 (fun _ => ?_)
          clear hK K
          try simp only [Act.put, List.setIfInBounds_toArray, List.set_cons_zero, List.set_cons_succ]
          have s3 := hb3.size
          have hx4 := hx4.keep hb3
          have hx5 := hx5.keep hb3
          clear hb3
          refine wpAnyH_ready (rs := [3]) (by kernel_rfl) (by simp) ?_
          refine AllReadyH.cons rfl (fun K hK => ?_) AllReadyH.nil
          all_goals simp only [List.getElem_toArray, List.getElem_cons_zero, List.getElem_cons_succ]
          go_simp
          refine (HCp.out _ hB3).mono ?_
          rintro e W4 ⟨d3, cs3, rfl, hq3, hb4⟩
          go_wp2_with fail
          have hB4 := keepB hb4 hB3
          refine hK.out _ _ hB4 (fun _ => ?_)
          clear hK K
          try simp only [Act.put, List.setIfInBounds_toArray, List.set_cons_zero, List.set_cons_succ]
          have s4 := hb4.size
          have hx4 := hx4.keep hb4
          have hx5 := hx5.keep hb4
          have hq1 := hq1.keep (fun b hb' => hb4.block b (by omega)) (fun _ h' => h')
          clear hb4
          refine wpAnyH_ready (rs := [6]) (by kernel_rfl) (by simp) ?_
          refine AllReadyH.cons rfl (fun K hK => ?_) AllReadyH.nil
          simp only [List.getElem_toArray, List.getElem_cons_zero, List.getElem_cons_succ]
          refine wp_store_row 26 (.tmp 5) (.tmp 18) rfl W0.heap.size cs1 rfl rfl 26 zeroD hx4 hq1.info hq1.size.symm hq1.one ?_
          refine hK.out _ _ (below_setRow hB4 _ _ (by omega)) (fun _ => ?_)
          clear hK K
          try simp only [Act.put, List.setIfInBounds_toArray, List.set_cons_zero, List.set_cons_succ]
          refine wpAnyH_ready (rs := [7]) (by kernel_rfl) (by simp) ?_
          refine AllReadyH.cons rfl (fun K hK => ?_) AllReadyH.nil
          simp only [List.getElem_toArray, List.getElem_cons_zero, List.getElem_cons_succ]
          refine wp_store_row 26 (.tmp 6) (.tmp 20) rfl W1.heap.size cs3 rfl rfl 26 zeroD ((setRow_other W4 _ _ _ (by omega)).trans hx5) hq3.info hq3.size.symm hq3.one ?_
          refine hK.out _ _ (below_setRow (below_setRow hB4 _ _ (by omega)) _ _ (by omega)) (fun _ => ?_)
          clear hK K
          try simp only [Act.put, List.setIfInBounds_toArray, List.set_cons_zero, List.set_cons_succ]
          refine wpAnyH_done (by kernel_rfl) ?_ _
          go_wp2_with fail
          go_meet
          exact two_fin hq1 hq3 hx4 hx5 hB4 (by omega) (fun b hb' => by omega) (fun b hb' => by omega) (by omega) (by omega)
      · skip
        go_simp
        obtain ⟨W1, hW⟩ : ∃ W, W = W0.alloc (.cells zeroD 26) := ⟨_, rfl⟩
        have hx5 : CdAt W1 W0.heap.size zeroD := by rw [hW]; exact CdAt.new _ _
        have hb1 : Below W0.heap.size W0 W1 := by rw [hW]; exact (Below.refl _ _).alloc (Nat.le_refl _) _
        rw [← hW]
        clear hW
        have hB1 := keepB hb1 hB0
        refine hK.out _ _ hB1 (fun _ => ?_)
        clear hK K
        try simp only [Act.put, List.setIfInBounds_toArray, List.set_cons_zero, List.set_cons_succ]
        have s1 := hb1.size
        have t5 := hx5.lt
        clear hb1
        refine wpAnyH_ready (rs := [1, 4]) (by kernel_rfl) (by simp) ?_
        refine AllReadyH.cons rfl (fun K hK => ?_) (AllReadyH.cons rfl (fun K hK => ?_) AllReadyH.nil)
        all_goals simp only [List.getElem_toArray, List.getElem_cons_zero, List.getElem_cons_succ]
        · skip
          go_simp
          refine (HCp.out _ hB1).mono ?_
          rintro e W2 ⟨d1, cs1, rfl, hq1, hb2⟩
          go_wp2_with fail
          have hB2 := keepB hb2 hB1
          refine hK.out _ _ hB2 (fun _ => ?_)
          clear hK K
          try simp only [Act.put, List.setIfInBounds_toArray, List.set_cons_zero, List.set_cons_succ]
          have s2 := hb2.size
          have hx5 := hx5.keep hb2
          clear hb2
          refine wpAnyH_ready (rs := [3, 4]) (by kernel_rfl) (by simp) ?_
          refine AllReadyH.cons rfl (fun K hK => ?_) (AllReadyH.cons rfl (fun K hK => ?_) AllReadyH.nil)
          all_goals simp only [List.getElem_toArray, List.getElem_cons_zero, List.getElem_cons_succ]
          · skip
            go_simp
            refine (HCp.out _ hB2).mono ?_
            rintro e W3 ⟨d3, cs3, rfl, hq3, hb3⟩
            go_wp2_with fail
            have hB3 := keepB hb3 hB2
            refine hK.out _ _ hB3 (fun _ => ?_)
            clear hK K
            try simp only [Act.put, List.setIfInBounds_toArray, List.set_cons_zero, List.set_cons_succ]
            have s3 := hb3.size
            have hx5 := hx5.keep hb3
            have hq1 := hq1.keep (fun b hb' => hb3.block b (by omega)) (fun _ h' => h')
            clear hb3
            refine wpAnyH_ready (rs := [4]) (by kernel_rfl) (by simp) ?_
            refine AllReadyH.cons rfl (fun K hK => ?_) AllReadyH.nil
            all_goals simp only [List.getElem_toArray, List.getElem_cons_zero, List.getElem_cons_succ]
            go_simp
            obtain ⟨W4, hW⟩ : ∃ W, W = W3.alloc (.cells zeroD 26) := ⟨_, rfl⟩
            have hx4 : CdAt W4 W3.heap.size zeroD := by rw [hW]; exact CdAt.new _ _
            have hb4 : Below W3.heap.size W3 W4 := by rw [hW]; exact (Below.refl _ _).alloc (Nat.le_refl _) _
            rw [← hW]
            clear hW
            have hB4 := keepB hb4 hB3
            refine hK.out _ _ hB4 (fun _ => ?_)
            clear hK K
            try simp only [Act.put, List.setIfInBounds_toArray, List.set_cons_zero, List.set_cons_succ]
            have s4 := hb4.size
            have t4 := hx4.lt
            have hx5 := hx5.keep hb4
            have hq1 := hq1.keep (fun b hb' => hb4.block b (by omega)) (fun _ h' => h')
            have hq3 := hq3.keep (fun b hb' => hb4.block b (by omega)) (fun _ h' => h')
            clear hb4
            refine wpAnyH_ready (rs := [6]) (by kernel_rfl) (by simp) ?_
            refine AllReadyH.cons rfl (fun K hK => ?_) AllReadyH.nil
            simp only [List.getElem_toArray, List.getElem_cons_zero, List.getElem_cons_succ]
            refine wp_store_row 26 (.tmp 5) (.tmp 18) rfl W3.heap.size cs1 rfl rfl 26 zeroD hx4 hq1.info hq1.size.symm hq1.one ?_
            refine hK.out _ _ (below_setRow hB4 _ _ (by omega)) (fun _ => ?_)
            clear hK K
            try simp only [Act.put, List.setIfInBounds_toArray, List.set_cons_zero, List.set_cons_succ]
            refine wpAnyH_ready (rs := [7]) (by kernel_rfl) (by simp) ?_
            refine AllReadyH.cons rfl (fun K hK => ?_) AllReadyH.nil
            simp only [List.getElem_toArray, List.getElem_cons_zero, List.getElem_cons_succ]
            refine wp_store_row 26 (.tmp 6) (.tmp 20) rfl W0.heap.size cs3 rfl rfl 26 zeroD ((setRow_other W4 _ _ _ (by omega)).trans hx5) hq3.info hq3.size.symm hq3.one ?_
            refine hK.out _ _ (below_setRow (below_setRow hB4 _ _ (by omega)) _ _ (by omega)) (fun _ => ?_)
            clear hK K
            try simp only [Act.put, List.setIfInBounds_toArray, List.set_cons_zero, List.set_cons_succ]
            refine wpAnyH_done (by kernel_rfl) ?_ _
            go_wp2_with fail
            go_meet
            exact two_fin hq1 hq3 hx4 hx5 hB4 (by omega) (fun b hb' => by omega) (fun b hb' => by omega) (by omega) (by omega)
          · skip
            go_simp
            obtain ⟨W3, hW⟩ : ∃ W, W = W2.alloc (.cells zeroD 26) := ⟨_, rfl⟩
            have hx4 : CdAt W3 W2.heap.size zeroD := by rw [hW]; exact CdAt.new _ _
            have hb3 : Below W2.heap.size W2 W3 := by rw [hW]; exact (Below.refl _ _).alloc (Nat.le_refl _) _
            rw [← hW]
            clear hW
            have hB3 := keepB hb3 hB2
            refine hK.out _ _ hB3 (fun _ => ?_)
            clear hK K
            try simp only [Act.put, List.setIfInBounds_toArray, List.set_cons_zero, List.set_cons_succ]
            have s3 := hb3.size
            have t4 := hx4.lt
            have hx5 := hx5.keep hb3
            have hq1 := hq1.keep (fun b hb' => hb3.block b (by omega)) (fun _ h' => h')
            clear hb3
            refine wpAnyH_ready (rs := [3]) (by kernel_rfl) (by simp) ?_
            refine AllReadyH.cons rfl (fun K hK => ?_) AllReadyH.nil
            all_goals simp only [List.getElem_toArray, List.getElem_cons_zero, List.getElem_cons_succ]
            go_simp
            refine (HCp.out _ hB3).mono ?_
            rintro e W4 ⟨d3, cs3, rfl, hq3, hb4⟩
            go_wp2_with fail
            have hB4 := keepB hb4 hB3
            refine hK.out _ _ hB4 (fun _ => ?_)
            clear hK K
            try simp only [Act.put, List.setIfInBounds_toArray, List.set_cons_zero, List.set_cons_succ]
            have s4 := hb4.size
            have hx5 := hx5.keep hb4
            have hq1 := hq1.keep (fun b hb' => hb4.block b (by omega)) (fun _ h' => h')
            have hx4 := hx4.keep hb4
            clear hb4
            refine wpAnyH_ready (rs := [6]) (by kernel_rfl) (by simp) ?_
            refine AllReadyH.cons rfl (fun K hK => ?_) AllReadyH.nil
            simp only [List.getElem_toArray, List.getElem_cons_zero, List.getElem_cons_succ]
            refine wp_store_row 26 (.tmp 5) (.tmp 18) rfl W2.heap.size cs1 rfl rfl 26 zeroD hx4 hq1.info hq1.size.symm hq1.one ?_
            refine hK.out _ _ (below_setRow hB4 _ _ (by omega)) (fun _ => ?_)
            clear hK K
            try simp only [Act.put, List.setIfInBounds_toArray, List.set_cons_zero, List.set_cons_succ]
            refine wpAnyH_ready (rs := [7]) (by kernel_rfl) (by simp) ?_
            refine AllReadyH.cons rfl (fun K hK => ?_) AllReadyH.nil
            simp only [List.getElem_toArray, List.getElem_cons_zero, List.getElem_cons_succ]
            refine wp_store_row 26 (.tmp 6) (.tmp 20) rfl W0.heap.size cs3 rfl rfl 26 zeroD ((setRow_other W4 _ _ _ (by omega)).trans hx5) hq3.info hq3.size.symm hq3.one ?_
            refine hK.out _ _ (below_setRow (below_setRow hB4 _ _ (by omega)) _ _ (by omega)) (fun _ => ?_)
            clear hK K
            try simp only [Act.put, List.setIfInBounds_toArray, List.set_cons_zero, List.set_cons_succ]
            refine wpAnyH_done (by kernel_rfl) ?_ _
            go_wp2_with fail
            go_meet
            exact two_fin hq1 hq3 hx4 hx5 hB4 (by omega) (fun b hb' => by omega) (fun b hb' => by omega) (by omega) (by omega)
        · skip
          go_simp
          obtain ⟨W2, hW⟩ : ∃ W, W = W1.alloc (.cells zeroD 26) := ⟨_, rfl⟩
          have hx4 : CdAt W2 W1.heap.size zeroD := by rw [hW]; exact CdAt.new _ _
          have hb2 : Below W1.heap.size W1 W2 := by rw [hW]; exact (Below.refl _ _).alloc (Nat.le_refl _) _
          rw [← hW]
          clear hW
          have hB2 := keepB hb2 hB1
          refine hK.out _ _ hB2 (fun _ => ?_)
          clear hK K
          try simp only [Act.put, List.setIfInBounds_toArray, List.set_cons_zero, List.set_cons_succ]
          have s2 := hb2.size
          have t4 := hx4.lt
          have hx5 := hx5.keep hb2
          clear hb2
          refine wpAnyH_ready (rs := [1]) (by kernel_rfl) (by simp) ?_
          refine AllReadyH.cons rfl (fun K hK => ?_) AllReadyH.nil
          all_goals simp only [List.getElem_toArray, List.getElem_cons_zero, List.getElem_cons_succ]
          go_simp
          refine (HCp.out _ hB2).mono ?_
          rintro e W3 ⟨d1, cs1, rfl, hq1, hb3⟩
          go_wp2_with fail
          have hB3 := keepB hb3 hB2
          refine hK.out _ _ hB3 (fun _ => ?_)
          clear hK K
          try simp only [Act.put, List.setIfInBounds_toArray, List.set_cons_zero, List.set_cons_succ]
          have s3 := hb3.size
          have hx5 := hx5.keep hb3
          have hx4 := hx4.keep hb3
          clear hb3
          refine wpAnyH_ready (rs := [3]) (by kernel_rfl) (by simp) ?_
          refine AllReadyH.cons rfl (fun K hK => ?_) AllReadyH.nil
          all_goals simp only [List.getElem_toArray, List.getElem_cons_zero, List.getElem_cons_succ]
          go_simp
          refine (HCp.out _ hB3).mono ?_
          rintro e W4 ⟨d3, cs3, rfl, hq3, hb4⟩
          go_wp2_with fail
          have hB4 := keepB hb4 hB3
          refine hK.out _ _ hB4 (fun _ => ?_)
          clear hK K
          try simp only [Act.put, List.setIfInBounds_toArray, List.set_cons_zero, List.set_cons_succ]
          have s4 := hb4.size
          have hx5 := hx5.keep hb4
          have hx4 := hx4.keep hb4
          have hq1 := hq1.keep (fun b hb' => hb4.block b (by omega)) (fun _ h' => h')
          clear hb4
          refine wpAnyH_ready (rs := [6]) (by kernel_rfl) (by simp) ?_
          refine AllReadyH.cons rfl (fun K hK => ?_) AllReadyH.nil
          simp only [List.getElem_toArray, List.getElem_cons_zero, List.getElem_cons_succ]
          refine wp_store_row 26 (.tmp 5) (.tmp 18) rfl W1.heap.size cs1 rfl rfl 26 zeroD hx4 hq1.info hq1.size.symm hq1.one ?_
          refine hK.out _ _ (below_setRow hB4 _ _ (by omega)) (fun _ => ?_)
          clear hK K
          try simp only [Act.put, List.setIfInBounds_toArray, List.set_cons_zero, List.set_cons_succ]
          refine wpAnyH_ready (rs := [7]) (by kernel_rfl) (by simp) ?_
          refine AllReadyH.cons rfl (fun K hK => ?_) AllReadyH.nil
          simp only [List.getElem_toArray, List.getElem_cons_zero, List.getElem_cons_succ]
          refine wp_store_row 26 (.tmp 6) (.tmp 20) rfl W0.heap.size cs3 rfl rfl 26 zeroD ((setRow_other W4 _ _ _ (by omega)).trans hx5) hq3.info hq3.size.symm hq3.one ?_
          refine hK.out _ _ (below_setRow (below_setRow hB4 _ _ (by omega)) _ _ (by omega)) (fun _ => ?_)
          clear hK K
          try simp only [Act.put, List.setIfInBounds_toArray, List.set_cons_zero, List.set_cons_succ]
          refine wpAnyH_done (by kernel_rfl) ?_ _
          go_wp2_with fail
          go_meet
          exact two_fin hq1 hq3 hx4 hx5 hB4 (by omega) (fun b hb' => by omega) (fun b hb' => by omega) (by omega) (by omega)
  case rest =>
    obtain ⟨g5, g6, d1, d3, cs1, cs3, Q1, Q3, rfl, rfl, hE5, hE6, hr1, hr3, hb5, hq1, hq3, hg5⟩ := hcut
    have hsx1 := hr1.info
    have hsx3 := hr3.info
    obtain ⟨_, _, _, _, _, _, A1, cc1, hcs1, _, _, hx1⟩ := id hr1
    have hsp := hx1.shape HSm.out.2
    have HLs := Lib.hid (show LpS w4 wc.heap.size c g5 g6 d3 cs1 cs3 Q1 Q3 A1 wc from ⟨hsp, hE5, hE6, hr3, hb5, Nat.le_refl _⟩)
    have HQ1 := Lib.hid (show ∀ b, Q1 b → w4.heap.size ≤ b ∧ b ≠ g5 ∧ b ≠ g6 ∧ ¬ Q3 b from fun b hb => ⟨(hq1 b hb).1, (hq1 b hb).2.2⟩)
    have HQt := Lib.hid (show ∀ b, Q1 b → b < wc.heap.size from fun b hb => (hq1 b hb).2.1)
    have HQ3 := Lib.hid hq3
    have HCs1 := Lib.hid hcs1
    have HSq := Lib.hid (fun W (hW : Below wc.heap.size wc W) => HSS.out.same d c cs d1 c cs1 W (HRr.out.grow (keepB (keepB hW hb5) hbw4)) ((hr1.reads (B := wc.heap.size) (fun b hb => (hq1 b hb).2.1)).grow hW) HSm.out HSm.out (keepB (keepB hW hb5) hbw4))
    rw [sameC_refl] at HSq
    obtain ⟨v, hv⟩ : ∃ v, v = sameC c c' := ⟨_, rfl⟩
    rw [← hv] at HSn HEf
    have HE5 := Lib.hid hE5
    clear hv hsp hx1 hcs1 hr1 hr3 hq1 hq3 hE5 hE6 HCp
    go_upto_region 6 with fail
    refine region_below (by kernel_rfl) (fun hHeld => ?_)
    refine wpAnyH_take (i := 0) (v := .agg cs) rfl (by kernel_rfl) (by kernel_rfl) (by kernel_rfl) (fun _ _ _ h => h) (yieldsCd (by rfl) (.tmp 2) rfl w.heap.size rfl cs (fun W hW => (HE.out.keep hb5).keep hW) hsx) hHeld ?_
    simp only [Act.put, List.getElem_toArray, List.getElem_cons_zero, List.getElem_cons_succ, List.setIfInBounds_toArray, List.set_cons_zero, List.set_cons_succ]
    refine wpAnyH_take (i := 1) (v := .agg cs1) rfl (by kernel_rfl) (by kernel_rfl) (by kernel_rfl) (fun _ _ _ h => h) (yieldsCd (by rfl) (.tmp 5) rfl g5 rfl cs1 (fun W hW => HE5.out.keep hW) hsx1) hHeld ?_
    simp only [Act.put, List.getElem_toArray, List.getElem_cons_zero, List.getElem_cons_succ, List.setIfInBounds_toArray, List.set_cons_zero, List.set_cons_succ]
    refine wpAnyH_ready (rs := [2]) (by kernel_rfl) (by simp) ?_
    refine AllReadyH.cons rfl (fun K hK => ?_) AllReadyH.nil
    simp only [List.getElem_toArray, List.getElem_cons_zero, List.getElem_cons_succ]
    go_simp
    refine (HSq.out _ hHeld).mono ?_
    rintro e w8 ⟨rfl, hb8⟩
    go_wp2_with fail
    have hB8 := keepB hb8 hHeld
    refine hK.out _ _ hB8 (fun _ => ?_)
    clear hK K
    try simp only [Act.put, List.setIfInBounds_toArray, List.set_cons_zero, List.set_cons_succ]
    refine anyH_rebase hB8 (fun hHeld => ?_)
    have HE8 := Lib.hid ((HE.out.keep hb5).keep hB8)
    have HE8' := Lib.hid ((HE'.out.keep hb5).keep hB8)
    clear hb8
    refine wpAnyH_take (i := 3) (v := ?_) rfl (by kernel_rfl) (by kernel_rfl) (by kernel_rfl) (fun _ _ _ h => h) (Or.inl ⟨by rfl, ?_⟩) hHeld ?_
    rotate_left
    · (intro w hSw; go_simp; (try with_reducible rfl))
    simp only [Act.put, List.getElem_toArray, List.getElem_cons_zero, List.getElem_cons_succ, List.setIfInBounds_toArray, List.set_cons_zero, List.set_cons_succ]
    refine wpAnyH_take (i := 4) (v := ?_) rfl (by kernel_rfl) (by kernel_rfl) (by kernel_rfl) (fun _ _ _ h => h) (Or.inl ⟨by rfl, ?_⟩) hHeld ?_
    rotate_left
    · (intro w hSw; go_simp; (try with_reducible rfl))
    simp only [Act.put, List.getElem_toArray, List.getElem_cons_zero, List.getElem_cons_succ, List.setIfInBounds_toArray, List.set_cons_zero, List.set_cons_succ]
    refine wpAnyH_take (i := 5) (v := .agg cs) rfl (by kernel_rfl) (by kernel_rfl) (by kernel_rfl) (fun _ _ _ h => h) (yieldsCd (by rfl) (.tmp 2) rfl w.heap.size rfl cs (fun W hW => HE8.out.keep hW) hsx) hHeld ?_
    simp only [Act.put, List.getElem_toArray, List.getElem_cons_zero, List.getElem_cons_succ, List.setIfInBounds_toArray, List.set_cons_zero, List.set_cons_succ]
    refine wpAnyH_take (i := 6) (v := .agg cs') rfl (by kernel_rfl) (by kernel_rfl) (by kernel_rfl) (fun _ _ _ h => h) (yieldsCd (by rfl) (.tmp 3) rfl (w.heap.size + 1) rfl cs' (fun W hW => HE8'.out.keep hW) hsx') hHeld ?_
    simp only [Act.put, List.getElem_toArray, List.getElem_cons_zero, List.getElem_cons_succ, List.setIfInBounds_toArray, List.set_cons_zero, List.set_cons_succ]
    refine wpAnyH_take (i := 8) (v := .agg cs) rfl (by kernel_rfl) (by kernel_rfl) (by kernel_rfl) (fun _ _ _ h => h) (yieldsCd (by rfl) (.tmp 2) rfl w.heap.size rfl cs (fun W hW => HE8.out.keep hW) hsx) hHeld ?_
    simp only [Act.put, List.getElem_toArray, List.getElem_cons_zero, List.getElem_cons_succ, List.setIfInBounds_toArray, List.set_cons_zero, List.set_cons_succ]
    refine wpAnyH_take (i := 9) (v := .agg cs') rfl (by kernel_rfl) (by kernel_rfl) (by kernel_rfl) (fun _ _ _ h => h) (yieldsCd (by rfl) (.tmp 3) rfl (w.heap.size + 1) rfl cs' (fun W hW => HE8'.out.keep hW) hsx') hHeld ?_
    simp only [Act.put, List.getElem_toArray, List.getElem_cons_zero, List.getElem_cons_succ, List.setIfInBounds_toArray, List.set_cons_zero, List.set_cons_succ]
    refine wpAnyH_ready (rs := [7]) (by kernel_rfl) (by simp) ?_
    refine AllReadyH.cons rfl (fun K hK => ?_) AllReadyH.nil
    simp only [List.getElem_toArray, List.getElem_cons_zero, List.getElem_cons_succ]
    go_simp
    refine (HSn.out _ (keepB hB8 hb5)).mono ?_
    rintro e w9 ⟨rfl, hb9⟩
    go_wp2_with fail
    have hB9 := keepB hb9 hHeld
    refine hK.out _ _ hB9 (fun _ => ?_)
    clear hK K
    try simp only [Act.put, List.setIfInBounds_toArray, List.set_cons_zero, List.set_cons_succ]
    refine anyH_rebase hB9 (fun hHeld => ?_)
    have hB9w := keepB hB9 hB8
    clear hb9
    refine wpAnyH_ready (rs := [10]) (by kernel_rfl) (by simp) ?_
    refine AllReadyH.cons rfl (fun K hK => ?_) AllReadyH.nil
    simp only [List.getElem_toArray, List.getElem_cons_zero, List.getElem_cons_succ]
    go_simp
    refine (HEf.out _ (keepB hB9w hb5)).mono ?_
    rintro e w10 ⟨rfl, hb10⟩
    go_wp2_with fail
    have hB10 := keepB hb10 hHeld
    refine hK.out _ _ hB10 (fun _ => ?_)
    clear hK K
    try simp only [Act.put, List.setIfInBounds_toArray, List.set_cons_zero, List.set_cons_succ]
    refine anyH_rebase hB10 (fun hHeld => ?_)
    have hB10w := keepB hB10 hB9w
    clear hb10
    refine wpAnyH_take (i := 11) (v := ?_) rfl (by kernel_rfl) (by kernel_rfl) (by kernel_rfl) (fun _ _ _ h => h) (Or.inl ⟨by rfl, ?_⟩) hHeld ?_
    rotate_left
    · (intro w hSw; go_simp; (try with_reducible rfl))
    simp only [Act.put, List.getElem_toArray, List.getElem_cons_zero, List.getElem_cons_succ, List.setIfInBounds_toArray, List.set_cons_zero, List.set_cons_succ]
    refine wpAnyH_take (i := 12) (v := ?_) rfl (by kernel_rfl) (by kernel_rfl) (by kernel_rfl) (fun _ _ _ h => h) (Or.inl ⟨by rfl, ?_⟩) hHeld ?_
    rotate_left
    · (intro w hSw; go_simp; (try with_reducible rfl))
    simp only [Act.put, List.getElem_toArray, List.getElem_cons_zero, List.getElem_cons_succ, List.setIfInBounds_toArray, List.set_cons_zero, List.set_cons_succ]
    refine wpAnyH_done (by kernel_rfl) ?_ _
    have HL10 := Lib.hid (HLs.out.below hB10w HQt.out (fun b hb => (HQ3.out b hb).2.1))
    clear hHeld hB8 hB9 hB10 hB9w hB10w HE8 HE8' HSq HSn HEf HE5 HLs hb5
    have c12 : w10.cell? ⟨g5, 12, none⟩ = some (.slice A1 c.abs.length cc1) := by rw [HL10.out.cd.cell, HCs1.out]; exact cd_abs
    go_upto_region 9 with fail
    clear c12
    go_loopw [37] (fun i wr => OutRel w4 wc.heap.size c g5 g6 d3 cs1 cs3 Q1 Q3 A1 i wr) (fun i _ => c.abs.length - (intOf i).toNat)
    case atStart => exact ⟨0, rfl, by omega, HL10.out⟩
    case round =>
      obtain ⟨k, rfl, hk, hL⟩ := hrel
      have HL := Lib.hid hL
      have hl9 := HSm.out.1
      clear hL HL10
      by_cases hlt : k < c.abs.length
      · have hd : decide ((k : Int) < (c.abs.length : Int)) = true := by simp; omega
        obtain ⟨b, o, rfl, hqb, htb, ⟨wh, hwh⟩, A2, k2, c2, hsl, hk2, hin⟩ := HL.out.sp k hlt
        rw [show (o + k) * 14 = o * 14 + k * 14 by omega] at hwh
        rw [show (o + k) * 14 + 13 = o * 14 + k * 14 + 13 by omega] at hsl
        have c12 : wr.cell? ⟨g5, 12, none⟩ = some (.slice (some ⟨b, o * 14, none⟩) c.abs.length cc1) := by rw [HL.out.cd.cell, HCs1.out]; exact cd_abs
        have hfz : wr.frozen? ⟨b, o * 14 + k * 14, none⟩ = false := by obtain ⟨cur, hcur⟩ := htb; exact frozen_of_row wr b _ _ _ hcur
        have b0 : (0 : Int) ≤ (k : Int) := by omega
        have b1 : (k : Int) < (c.abs.length : Int) := by omega
        go_upto_region 12 with fail
        obtain ⟨x, hx⟩ : ∃ x, x = wrap64 (wh + 1) := ⟨_, rfl⟩
        obtain ⟨wn, hwn⟩ : ∃ W, W = wr.setCell ⟨b, o * 14 + k * 14, none⟩ (.int .i64 x) := ⟨_, rfl⟩
        have HLn := Lib.hid (show LpS w4 wc.heap.size c g5 g6 d3 cs1 cs3 Q1 Q3 (some ⟨b, o * 14, none⟩) wn by rw [hwn]; exact HL.out.set_ HQ1.out b _ x wh hqb hwh (.inl ⟨htb, o + k, by omega⟩))
        have HIn := Lib.hid (show SpI Q1 wn A2 k2 by rw [hwn]; exact SpI.set_ hin b _ x wh hwh)
        have hsl2 : wn.cell? ⟨b, o * 14 + k * 14 + 13, none⟩ = some (.slice A2 k2 c2) := by
          rw [hwn, World.cell?_setCell_other (h := by intro e; injection e with e1 e2; omega)]; exact hsl
        have HTb := Lib.hid htb
        have HQb := Lib.hid hqb
        rw [← hx, ← hwn]
        clear hx hwn hwh hsl hin hfz c12 htb hqb HL
        have c12 : wn.cell? ⟨g5, 12, none⟩ = some (.slice (some ⟨b, o * 14, none⟩) c.abs.length cc1) := by rw [HLn.out.cd.cell, HCs1.out]; exact cd_abs
        have hsl3 : wn.cell? ⟨b, o * 14 + k * 14 + 9 + 4, none⟩ = some (.slice A2 k2 c2) := hsl2
        have HSl := Lib.hid hsl2
        clear hsl2
        go_upto_region 13 with fail
        clear c12 hsl3
        go_loopw [57] (fun i wr => InRel w4 wc.heap.size c g5 g6 d3 cs1 cs3 Q1 Q3 (some ⟨b, o * 14, none⟩) A2 k2 c2 b (o * 14 + k * 14 + 13) i wr) (fun i _ => k2 - (intOf i).toNat)
        case atStart => exact ⟨0, rfl, by omega, HLn.out, HIn.out, HSl.out⟩
        case round =>
          obtain ⟨j, rfl, hj, hL, hI, hsl⟩ := hrel
          have HL := Lib.hid hL
          have HI := Lib.hid hI
          have HS2 := Lib.hid hsl
          clear hL hI hsl HLn HIn HSl
          by_cases hlt2 : j < k2
          · have hd2 : decide ((j : Int) < (k2 : Int)) = true := by simp; omega
            obtain ⟨b2, o2, rfl, hq2, ht2, n, hn⟩ := HI.out j hlt2
            rw [show (o2 + j) * 5 + 1 = o2 * 5 + j * 5 + 1 by omega] at hn
            have c12 : wr.cell? ⟨g5, 12, none⟩ = some (.slice (some ⟨b, o * 14, none⟩) c.abs.length cc1) := by rw [HL.out.cd.cell, HCs1.out]; exact cd_abs
            have hsl3 : wr.cell? ⟨b, o * 14 + k * 14 + 9 + 4, none⟩ = some (.slice (some ⟨b2, o2 * 5, none⟩) k2 c2) := HS2.out
            have hfz : wr.frozen? ⟨b2, o2 * 5 + j * 5 + 1, none⟩ = false := by obtain ⟨cur, hcur⟩ := ht2; exact frozen_of_row wr b2 _ _ _ hcur
            have g0 : (0 : Int) ≤ (j : Int) := by omega
            have g1 : (j : Int) < (k2 : Int) := by omega
            go_upto_region 16 with fail
            obtain ⟨x, hx⟩ : ∃ x, x = wrap64 (n + 1) := ⟨_, rfl⟩
            obtain ⟨wn2, hwn⟩ : ∃ W, W = wr.setCell ⟨b2, o2 * 5 + j * 5 + 1, none⟩ (.int .i64 x) := ⟨_, rfl⟩
            have HLn := Lib.hid (show LpS w4 wc.heap.size c g5 g6 d3 cs1 cs3 Q1 Q3 (some ⟨b, o * 14, none⟩) wn2 by rw [hwn]; exact HL.out.set_ HQ1.out b2 _ x n hq2 hn (.inr ⟨ht2, o2 + j, by omega⟩))
            have HIn := Lib.hid (show SpI Q1 wn2 (some ⟨b2, o2 * 5, none⟩) k2 by rw [hwn]; exact SpI.set_ HI.out b2 _ x n hn)
            have HSl := Lib.hid (show wn2.cell? ⟨b, o * 14 + k * 14 + 13, none⟩ = some (.slice (some ⟨b2, o2 * 5, none⟩) k2 c2) by
              rw [hwn, World.cell?_setCell_other (h := by
                intro e
                injection e with e1 e2
                subst e1
                have h1 := HS2.out
                rw [← e2, hn] at h1
                simp at h1)]
              exact HS2.out)
            rw [← hx, ← hwn]
            clear hx hwn hn hfz c12 hsl3 ht2 hq2 HL HI HS2
            go_wp2_with fail
            go_roundw
            case rel => exact ⟨j + 1, by go_num, by omega, HLn.out, HIn.out, HSl.out⟩
            case measure => simp [intOf]; omega
          · obtain rfl : j = k2 := by omega
            have hd2 : decide ((j : Int) < (j : Int)) = false := by simp
            go_wp2_with fail
            go_roundw
            case rel => exact ⟨k + 1, by go_num, by omega, HL.out⟩
            case measure => simp [intOf]; omega
      · obtain rfl : k = c.abs.length := by omega
        have hd : decide ((c.abs.length : Int) < (c.abs.length : Int)) = false := by simp
        have hEr := HE.out.keep HL.out.b
        have hE6 := HL.out.cd'
        have hbr : Below w.heap.size w wr := keepB HL.out.b hbw4
        have hfin := cards_any d d3 c c cs cs3 wr (HRr.out.grow hbr) (HL.out.rd.reads (fun b hb => by have := (HQ3.out b hb).2.1; have := HL.out.sz; omega)) HSm.out
        rw [sameC_refl] at hfin
        go_wp2_with (first
          | (refine wantCd (by rfl) (.tmp 2) rfl w.heap.size rfl cs hEr hsx ?_)
          | (refine wantCd (by rfl) (.tmp 6) rfl g6 rfl cs3 hE6 hsx3 ?_))
        refine hfin.mono ?_
        rintro e w12 ⟨rfl, hb12⟩
        go_wp2_with fail
        go_ret
        exact ⟨rfl, keepB hb12 hbr⟩
end Go.Proofs.Ytnlhblnkckkeiaa
