/- Layer 9: the laws' walks: ListMoves. -/
import Derived.Test.YtcnfpjghjdmefaaLstLaws1
namespace Go.Proofs.Ytcnfpjghjdmefaa
open Go.RowKit Ex
set_option maxRecDepth 100000
set_option linter.unusedSimpArgs false in
set_option maxHeartbeats 1000000 in
theorem listMoves_walk {w : World} (S : LstSaid w) (A : Option Addr) (n c : Nat) (l : List Int) (p q : Int) (hN : Nums .i64 w w.heap.size A n l) (hnc : n ≤ c) (hlw : ∀ x ∈ l, I64 x) (hp : I64 p) (hq : I64 q) :
    Calls Try.prog 4 #[.slice A n c, .int .i64 p, .int .i64 q] w fun e w' => e = .returned (.bool true) ∧ Below w.heap.size w w' := by
  have hln := hN.len
  go_enter Try.func4, Try.ntmps4
  go_wp2_with fail
  refine (lstAlive S w (Below.refl _ _)).mono ?_
  rintro e w1 ⟨rfl, hb1⟩
  by_cases h300 : 300 < n
  · have d0 : decide ((300 : Int) < (n : Int)) = true := by simp; omega
    clear h300
    go_wp2_with fail
    go_ret
    exact ⟨rfl, hb1⟩
  have d0 : decide ((300 : Int) < (n : Int)) = false := by simp; omega
  have HL := Lib.hid (show LsIn w A n c l from ⟨hN, hnc, by omega, hlw⟩)
  have hn3 : n ≤ 300 := by omega
  clear h300 hN hlw
  go_wp2_with fail
  refine (S.mov A n c l p q w1 (HL.out.grow hb1) hp hq hb1).mono ?_
  rintro e w2 ⟨hb2, hmov⟩
  have hbw2 := keepB hb2 hb1
  have HM := Lib.hid hmov
  clear hmov
  obtain ⟨u, hu⟩ : ∃ u, u = idxL l p := ⟨_, rfl⟩
  obtain ⟨t, ht⟩ : ∃ t, t = decide l.Nodup := ⟨_, rfl⟩
  have HU := Lib.hid hu
  have HT := Lib.hid ht
  clear hu ht
  obtain ⟨v1, v2, rfl, hv⟩ : ∃ v1 v2, e = .returned (.tuple #[v1, v2]) ∧ (((Within n p ∧ Within n q) ∧ v2 = .nilIface ∧ ∃ A' c', v1 = .slice A' n c' ∧ Mine w2 w1.heap.size A' n c' (mvL l p.toNat q.toNat)) ∨ (¬ (Within n p ∧ Within n q) ∧ v2 = errV 1 ∧ ∃ A' c', v1 = .slice A' 0 c')) := by
    rcases HM.out with ⟨hok, A', n', c', rfl, hm⟩ | ⟨hno, A', c', rfl⟩
    · obtain rfl : n' = n := by
        have h := hm.len
        unfold Within at hok
        rw [mvL, ins_len _ _ _ (by rw [rm_len l _ (by omega)]; omega), rm_len l _ (by omega)] at h
        omega
      exact ⟨_, _, rfl, .inl ⟨hok, rfl, A', c', rfl, hm⟩⟩
    · exact ⟨_, _, rfl, .inr ⟨hno, rfl, A', c', rfl⟩⟩
  have HV := Lib.hid hv
  clear hv HM
  go_wp2_with fail
  have hi1 := S.idx A n c l p w2 (HL.out.grow hbw2) hp hbw2
  rw [← HU.out] at hi1
  refine hi1.mono ?_
  rintro e w3 ⟨rfl, hb3⟩
  clear hi1
  have hbw3 := keepB hb3 hbw2
  have hi2 := indexRef_any A n c l p w3 w.heap.size (HL.out.N.below hbw3) (by omega)
  rw [← HU.out] at hi2
  go_wp2_with fail
  refine hi2.mono ?_
  rintro e w' ⟨rfl, hw⟩
  subst hw
  clear hi2
  have hi3 := S.once A n c l w' (HL.out.grow hbw3) hbw3
  rw [← HT.out] at hi3
  go_wp2_with fail
  refine hi3.mono ?_
  rintro e w4 ⟨rfl, hb4⟩
  clear hi3
  have hbw4 := keepB hb4 hbw3
  have hi4 := onceRef_any A n c l w4 w.heap.size (HL.out.N.below hbw4) (by omega)
  rw [← HT.out] at hi4
  go_wp2_with fail
  refine hi4.mono ?_
  rintro e w5 ⟨rfl, hw⟩
  subst hw
  clear hi4
  have HE := Lib.hid hbw4
  rcases HV.out with ⟨hok, hv2, A', c', hv1, hm⟩ | ⟨hno, hv2, A', c', hv1⟩
  · subst hv1 hv2
    obtain ⟨i, rfl⟩ : ∃ i : Nat, p = (i : Int) := ⟨p.toNat, by unfold Within at hok; omega⟩
    obtain ⟨j, rfl⟩ : ∃ j : Nat, q = (j : Int) := ⟨q.toNat, by unfold Within at hok; omega⟩
    rw [Int.toNat_natCast, Int.toNat_natCast] at hm
    have hi : i < n := by unfold Within at hok; omega
    have hj : j < n := by unfold Within at hok; omega
    have HM := Lib.hid (hm.keep (keepB hb4 hb3))
    have d1 : decide ((i : Int) < 0) = false := by simp
    have d2 : decide ((n : Int) ≤ (i : Int)) = false := by simp; omega
    have d3 : decide ((j : Int) < 0) = false := by simp
    have d4 : decide ((n : Int) ≤ (j : Int)) = false := by simp; omega
    clear HV hm hok
    go_upto_region 10 with fail
    have hvl : l[i]? = some (l.getD i 0) := by rw [List.getD_eq_getElem?_getD, List.getElem?_eq_getElem (by omega)]; rfl
    obtain ⟨v, hv⟩ : ∃ v, v = l.getD i 0 := ⟨_, rfl⟩
    rw [← hv] at hvl
    have HVl := Lib.hid hvl
    have HMv := Lib.hid (show mvL l i j = insL (rmL l i) j v by rw [hv]; rfl)
    have hrl := rm_len l i (by omega)
    clear hvl hv
    obtain ⟨a, ea, hab, hca⟩ := (HL.out.N.below HE.out).2 i v HVl.out
    subst ea
    have r0 : ∀ W, Below w5.heap.size w5 W → W.cell? (a.add i) = some (.int .i64 v) := fun W hW => (hW.cell (by rw [addr_block]; have := HE.out.size; omega)).trans hca
    have g0 : (0 : Int) ≤ (i : Int) := by omega
    have g1 : (i : Int) < (n : Int) := by omega
    refine region_below (by kernel_rfl) (fun hHeld => ?_)
    refine wpAnyH_take (i := 0) (v := ?_) rfl (by kernel_rfl) (by kernel_rfl) (by kernel_rfl) (fun _ _ _ h => h) (Or.inl ⟨by rfl, ?_⟩) hHeld ?_
    rotate_left
    · (intro w hSw; go_simp; (try with_reducible rfl))
    simp only [Act.put, List.getElem_toArray, List.getElem_cons_zero, List.getElem_cons_succ, List.setIfInBounds_toArray, List.set_cons_zero, List.set_cons_succ]
    refine wpAnyH_take (i := 1) (v := ?_) rfl (by kernel_rfl) (by kernel_rfl) (by kernel_rfl) (fun _ _ _ h => h) (Or.inl ⟨by rfl, ?_⟩) hHeld ?_
    rotate_left
    · (intro w hSw; go_simp; (try with_reducible rfl))
    simp only [Act.put, List.getElem_toArray, List.getElem_cons_zero, List.getElem_cons_succ, List.setIfInBounds_toArray, List.set_cons_zero, List.set_cons_succ]
    refine wpAnyH_take (i := 2) (v := ?_) rfl (by kernel_rfl) (by kernel_rfl) (by kernel_rfl) (fun _ _ _ h => h) (Or.inl ⟨by rfl, ?_⟩) hHeld ?_
    rotate_left
    · (intro w hSw; go_simp; (try with_reducible rfl))
    simp only [Act.put, List.getElem_toArray, List.getElem_cons_zero, List.getElem_cons_succ, List.setIfInBounds_toArray, List.set_cons_zero, List.set_cons_succ]
    refine wpAnyH_take (i := 3) (v := ?_) rfl (by kernel_rfl) (by kernel_rfl) (by kernel_rfl) (fun _ _ _ h => h) (Or.inl ⟨by rfl, ?_⟩) hHeld ?_
    rotate_left
    · (intro w hSw; go_simp; (try with_reducible rfl))
    simp only [Act.put, List.getElem_toArray, List.getElem_cons_zero, List.getElem_cons_succ, List.setIfInBounds_toArray, List.set_cons_zero, List.set_cons_succ]
    refine wpAnyH_take (i := 4) (v := ?_) rfl (by kernel_rfl) (by kernel_rfl) (by kernel_rfl) (fun _ _ _ h => h) (Or.inl ⟨by rfl, ?_⟩) hHeld ?_
    rotate_left
    · (intro w hSw; go_simp; (try with_reducible rfl))
    simp only [Act.put, List.getElem_toArray, List.getElem_cons_zero, List.getElem_cons_succ, List.setIfInBounds_toArray, List.set_cons_zero, List.set_cons_succ]
    refine wpAnyH_take (i := 5) (v := ?_) rfl (by kernel_rfl) (by kernel_rfl) (by kernel_rfl) (fun _ _ _ h => h) (Or.inl ⟨by rfl, ?_⟩) hHeld ?_
    rotate_left
    · (intro w hSw; go_simp; (try with_reducible rfl))
    simp only [Act.put, List.getElem_toArray, List.getElem_cons_zero, List.getElem_cons_succ, List.setIfInBounds_toArray, List.set_cons_zero, List.set_cons_succ]
    refine wpAnyH_take (i := 7) (v := ?_) rfl (by kernel_rfl) (by kernel_rfl) (by kernel_rfl) (fun _ _ _ h => h) (Or.inl ⟨by rfl, ?_⟩) hHeld ?_
    rotate_left
    · (intro w hSw; go_simp; (try with_reducible rfl))
    simp only [Act.put, List.getElem_toArray, List.getElem_cons_zero, List.getElem_cons_succ, List.setIfInBounds_toArray, List.set_cons_zero, List.set_cons_succ]
    refine wpAnyH_take (i := 8) (v := ?_) rfl (by kernel_rfl) (by kernel_rfl) (by kernel_rfl) (fun _ _ _ h => h) (Or.inl ⟨by rfl, ?_⟩) hHeld ?_
    rotate_left
    · (intro w hSw; go_simp; (try with_reducible rfl))
    simp only [Act.put, List.getElem_toArray, List.getElem_cons_zero, List.getElem_cons_succ, List.setIfInBounds_toArray, List.set_cons_zero, List.set_cons_succ]
    refine wpAnyH_take (i := 9) (v := ?_) rfl (by kernel_rfl) (by kernel_rfl) (by kernel_rfl) (fun _ _ _ h => h) (Or.inl ⟨by rfl, ?_⟩) hHeld ?_
    rotate_left
    · (intro w hSw; go_simp; (try with_reducible rfl))
    simp only [Act.put, List.getElem_toArray, List.getElem_cons_zero, List.getElem_cons_succ, List.setIfInBounds_toArray, List.set_cons_zero, List.set_cons_succ]
    refine wpAnyH_take (i := 10) (v := ?_) rfl (by kernel_rfl) (by kernel_rfl) (by kernel_rfl) (fun _ _ _ h => h) (Or.inl ⟨by rfl, ?_⟩) hHeld ?_
    rotate_left
    · (intro w hSw; go_simp; (try with_reducible rfl))
    simp only [Act.put, List.getElem_toArray, List.getElem_cons_zero, List.getElem_cons_succ, List.setIfInBounds_toArray, List.set_cons_zero, List.set_cons_succ]
    refine wpAnyH_take (i := 11) (v := ?_) rfl (by kernel_rfl) (by kernel_rfl) (by kernel_rfl) (fun _ _ _ h => h) (Or.inl ⟨by rfl, ?_⟩) hHeld ?_
    rotate_left
    · (intro w hSw; go_simp; (try with_reducible rfl))
    simp only [Act.put, List.getElem_toArray, List.getElem_cons_zero, List.getElem_cons_succ, List.setIfInBounds_toArray, List.set_cons_zero, List.set_cons_succ]
    clear r0 g0 g1
    have hbd := hHeld
    generalize w5.drew = W0 at hHeld hbd ⊢
    have hbW0 := keepB hbd HE.out
    refine wpAnyH_ready (rs := [6]) (by kernel_rfl) (by simp) ?_
    refine AllReadyH.cons rfl (fun K hK => ?_) AllReadyH.nil
    simp only [List.getElem_toArray, List.getElem_cons_zero, List.getElem_cons_succ]
    go_simp
    refine (removeRef_any (some a) n c l i W0 w.heap.size (HL.out.N.below hbW0) hbW0.size (by omega) hi).mono ?_
    rintro e W1 ⟨A8, n8, c8, rfl, ho8, hb8⟩
    obtain rfl : n8 = n - 1 := by have h := ho8.len; omega
    go_wp2_with fail
    have hB1 := keepB hb8 hHeld
    refine hK.out _ _ hB1 (fun _ => ?_)
    clear hK K
    try simp only [Act.put, List.setIfInBounds_toArray, List.set_cons_zero, List.set_cons_succ]
    refine anyH_rebase hB1 (fun hHeld => ?_)
    refine wpAnyH_ready (rs := [12]) (by kernel_rfl) (by simp) ?_
    refine AllReadyH.cons rfl (fun K hK => ?_) AllReadyH.nil
    simp only [List.getElem_toArray, List.getElem_cons_zero, List.getElem_cons_succ]
    go_simp
    refine (insertRef_any A8 (n - 1) c8 (rmL l i) j v W1 _ ho8.nums (Nat.le_refl _) (by omega) (by omega)).mono ?_
    rintro e W2 ⟨A9, n9, c9, rfl, ho9, hb9⟩
    obtain rfl : n9 = n := by have h := ho9.len; rw [ins_len _ _ _ (by omega)] at h; omega
    go_wp2_with fail
    have hB2 := keepB hb9 hHeld
    refine hK.out _ _ hB2 (fun _ => ?_)
    clear hK K
    try simp only [Act.put, List.setIfInBounds_toArray, List.set_cons_zero, List.set_cons_succ]
    refine anyH_rebase hB2 (fun hHeld => ?_)
    rw [← HMv.out] at ho9
    have hin := ints_same A' A9 n9 c' n9 c9 (mvL l i j) W2 _ _ (HM.out.keep (keepB hb9 (keepB hb8 hbd))).1 ho9.nums (by omega) (by omega)
    refine wpAnyH_ready (rs := [13]) (by kernel_rfl) (by simp) ?_
    refine AllReadyH.cons rfl (fun K hK => ?_) AllReadyH.nil
    simp only [List.getElem_toArray, List.getElem_cons_zero, List.getElem_cons_succ]
    go_simp
    refine hin.mono ?_
    rintro e W3 ⟨rfl, hb10⟩
    go_wp2_with fail
    have hB3 := keepB hb10 hHeld
    refine hK.out _ _ hB3 (fun _ => ?_)
    clear hK K
    try simp only [Act.put, List.setIfInBounds_toArray, List.set_cons_zero, List.set_cons_succ]
    refine anyH_rebase hB3 (fun hHeld => ?_)
    refine wpAnyH_take (i := 14) (v := ?_) rfl (by kernel_rfl) (by kernel_rfl) (by kernel_rfl) (fun _ _ _ h => h) (Or.inl ⟨by rfl, ?_⟩) hHeld ?_
    rotate_left
    · (intro w hSw; go_simp; (try with_reducible rfl))
    simp only [Act.put, List.getElem_toArray, List.getElem_cons_zero, List.getElem_cons_succ, List.setIfInBounds_toArray, List.set_cons_zero, List.set_cons_succ]
    refine wpAnyH_take (i := 15) (v := ?_) rfl (by kernel_rfl) (by kernel_rfl) (by kernel_rfl) (fun _ _ _ h => h) (Or.inl ⟨by rfl, ?_⟩) hHeld ?_
    rotate_left
    · (intro w hSw; go_simp; (try with_reducible rfl))
    simp only [Act.put, List.getElem_toArray, List.getElem_cons_zero, List.getElem_cons_succ, List.setIfInBounds_toArray, List.set_cons_zero, List.set_cons_succ]
    refine wpAnyH_done (by kernel_rfl) ?_ _
    go_wp2_with fail
    go_ret
    exact ⟨by simp, keepB hb10 (keepB hb9 (keepB hb8 hbW0))⟩
  · subst hv1 hv2
    clear HV
    have hno' : p < 0 ∨ (n : Int) ≤ p ∨ q < 0 ∨ (n : Int) ≤ q := by unfold Within at hno; omega
    clear hno hb1 hb2 hb3 hb4 hbw2 hbw3 hbw4
    by_cases h0 : p < 0
    · have d1 : decide (p < 0) = true := decide_eq_true h0
      clear hno' h0
      go_wp2_with fail
      refine (is_by 1 1 _).mono ?_
      rintro e w6 ⟨rfl, rfl⟩
      go_wp2_with fail
      go_ret
      exact ⟨by simp, HE.out⟩
    · have d1 : decide (p < 0) = false := decide_eq_false h0
      by_cases h1 : (n : Int) ≤ p
      · have d2 : decide ((n : Int) ≤ p) = true := decide_eq_true h1
        clear hno' h0 h1
        go_wp2_with fail
        refine (is_by 1 1 _).mono ?_
        rintro e w6 ⟨rfl, rfl⟩
        go_wp2_with fail
        go_ret
        exact ⟨by simp, HE.out⟩
      · have d2 : decide ((n : Int) ≤ p) = false := decide_eq_false h1
        by_cases h2 : q < 0
        · have d3 : decide (q < 0) = true := decide_eq_true h2
          clear hno' h0 h1 h2
          go_wp2_with fail
          refine (is_by 1 1 _).mono ?_
          rintro e w6 ⟨rfl, rfl⟩
          go_wp2_with fail
          go_ret
          exact ⟨by simp, HE.out⟩
        · have d3 : decide (q < 0) = false := decide_eq_false h2
          have d4 : decide ((n : Int) ≤ q) = true := decide_eq_true (by omega)
          clear hno' h0 h1 h2
          go_wp2_with fail
          refine (is_by 1 1 _).mono ?_
          rintro e w6 ⟨rfl, rfl⟩
          go_wp2_with fail
          go_ret
          exact ⟨by simp, HE.out⟩
end Go.Proofs.Ytcnfpjghjdmefaa
