/- Layer 9: the code's Insert, Remove, Move. -/
import Derived.Test.YtcnfpjghjdmefaaLstC2
namespace Go.Proofs.Ytcnfpjghjdmefaa
open Go.RowKit Ex
set_option maxRecDepth 100000
theorem below_alloc {w : World} (o : Obj) : Below w.heap.size w (w.alloc o) := (Below.refl _ _).alloc (Nat.le_refl _) _
/-- Three slices in a new row. -/
theorem parts3 {W : World} {p1 p2 p3 : Part} (h1 : Nums .i64 W W.heap.size p1.A p1.n p1.l) (h2 : Nums .i64 W W.heap.size p2.A p2.n p2.l) (h3 : Nums .i64 W W.heap.size p3.A p3.n p3.l) (e : TypeId) :
    Parts (W.alloc (.cells #[.slice p1.A p1.n p1.c, .slice p2.A p2.n p2.c, .slice p3.A p3.n p3.c] e)) W.heap.size [p1, p2, p3] := by
  have hb := below_alloc (w := W) (.cells #[.slice p1.A p1.n p1.c, .slice p2.A p2.n p2.c, .slice p3.A p3.n p3.c] e)
  refine ⟨by simp, fun i p hi => ⟨?_, ?_⟩⟩
  · rw [cell_of_row _ W.heap.size i _ e (0, 0) (heap_alloc_new _ _)]
    match i, hi with
    | 0, hi => simp at hi; simp [← hi]
    | 1, hi => simp at hi; simp [← hi]
    | 2, hi => simp at hi; simp [← hi]
    | k + 3, hi => simp at hi
  · match i, hi with
    | 0, hi => simp at hi; rw [← hi]; exact (h1.below hb).more hb.size
    | 1, hi => simp at hi; rw [← hi]; exact (h2.below hb).more hb.size
    | 2, hi => simp at hi; rw [← hi]; exact (h3.below hb).more hb.size
    | k + 3, hi => simp at hi
theorem parts2 {W : World} {p1 p2 : Part} (h1 : Nums .i64 W W.heap.size p1.A p1.n p1.l) (h2 : Nums .i64 W W.heap.size p2.A p2.n p2.l) (e : TypeId) :
    Parts (W.alloc (.cells #[.slice p1.A p1.n p1.c, .slice p2.A p2.n p2.c] e)) W.heap.size [p1, p2] := by
  have hb := below_alloc (w := W) (.cells #[.slice p1.A p1.n p1.c, .slice p2.A p2.n p2.c] e)
  refine ⟨by simp, fun i p hi => ⟨?_, ?_⟩⟩
  · rw [cell_of_row _ W.heap.size i _ e (0, 0) (heap_alloc_new _ _)]
    match i, hi with
    | 0, hi => simp at hi; simp [← hi]
    | 1, hi => simp at hi; simp [← hi]
    | k + 2, hi => simp at hi
  · match i, hi with
    | 0, hi => simp at hi; rw [← hi]; exact (h1.below hb).more hb.size
    | 1, hi => simp at hi; rw [← hi]; exact (h2.below hb).more hb.size
    | k + 2, hi => simp at hi
theorem Mine.base_le {w : World} {base b : Nat} {A : Option Addr} {n c : Nat} {l : List Int} (h : Mine w base A n c l) (hb : b ≤ base) : Mine w b A n c l :=
  ⟨h.1, h.2.1, fun a ha => by
    obtain ⟨g, o, cs, t, e, h1, h2⟩ := h.2.2 a ha
    exact ⟨g, o, cs, t, e, by omega, h2⟩⟩
set_option linter.unusedSimpArgs false in
set_option maxHeartbeats 1000000 in
theorem insert_code (A : Option Addr) (n c : Nat) (l : List Int) (p x : Int) (w : World) (hL : LsIn w A n c l) : Calls Try.prog 8 #[.slice A n c, .int .i64 p, .int .i64 x] w (LstR (Within (n + 1) p) (insL l p.toNat x) 1 w) := by
  by_cases hok : Within (n + 1) p
  · obtain ⟨i, rfl⟩ : ∃ i : Nat, p = (i : Int) := ⟨p.toNat, by unfold Within at hok; omega⟩
    rw [Int.toNat_natCast]
    have hi : i ≤ n := by unfold Within at hok; omega
    have HOk := Lib.hid hok
    have hln := hL.N.len
    have hfew := hL.few
    obtain ⟨A1, hs1, hN1⟩ := cut_to (P := Try.prog) hL.N hL.cap hi 22 (by kernel_rfl) (fun _ => by kernel_rfl)
    obtain ⟨A2, hs2, hN2⟩ := cut_from (P := Try.prog) hL.N hL.cap hi 22 (by kernel_rfl) (fun _ => by kernel_rfl)
    have HN1 := Lib.hid hN1
    have HN2 := Lib.hid hN2
    have d1 : decide ((i : Int) < 0) = false := by simp
    have d2 : decide ((n : Int) < (i : Int)) = false := by simp; omega
    clear hN1 hN2 hok hL
    go_enter Try.func8, Try.ntmps8
    go_upto_region 3 with fail
    refine region_below (by kernel_rfl) (fun hHeld => ?_)
    refine wpAnyH_take (i := 0) (v := ?_) rfl (by kernel_rfl) (by kernel_rfl) (by kernel_rfl) (fun _ _ _ h => h) (Or.inl ⟨by rfl, ?_⟩) hHeld ?_
    rotate_left
    · (intro w hSw; go_simp; (try with_reducible rfl))
    simp only [Act.put, List.getElem_toArray, List.getElem_cons_zero, List.getElem_cons_succ, List.setIfInBounds_toArray, List.set_cons_zero, List.set_cons_succ]
    refine wpAnyH_take (i := 1) (v := ?_) rfl (by kernel_rfl) (by kernel_rfl) (by kernel_rfl) (fun _ _ _ h => h) (Or.inl ⟨by rfl, ?_⟩) hHeld ?_
    rotate_left
    · (intro w hSw; go_simp; (try with_reducible rfl))
    simp only [Act.put, List.getElem_toArray, List.getElem_cons_zero, List.getElem_cons_succ, List.setIfInBounds_toArray, List.set_cons_zero, List.set_cons_succ]
    refine wpAnyH_take (i := 2) (v := ?_) rfl (by kernel_rfl) (by kernel_rfl) (by kernel_rfl) (fun _ _ _ h => h) (Or.inl ⟨by rfl, ?_⟩) hHeld ?_
    rotate_left
    · (intro w hSw; go_simp; (try with_reducible rfl))
    simp only [Act.put, List.getElem_toArray, List.getElem_cons_zero, List.getElem_cons_succ, List.setIfInBounds_toArray, List.set_cons_zero, List.set_cons_succ]
    refine wpAnyH_take (i := 3) (v := ?_) rfl (by kernel_rfl) (by kernel_rfl) (by kernel_rfl) (fun _ _ _ h => h) (Or.inl ⟨by rfl, ?_⟩) hHeld ?_
    rotate_left
    · (intro w hSw; go_simp; (try with_reducible rfl))
    simp only [Act.put, List.getElem_toArray, List.getElem_cons_zero, List.getElem_cons_succ, List.setIfInBounds_toArray, List.set_cons_zero, List.set_cons_succ]
    refine wpAnyH_take (i := 5) (v := ?_) rfl (by kernel_rfl) (by kernel_rfl) (by kernel_rfl) (fun _ _ _ h => h) (Or.inl ⟨by rfl, ?_⟩) hHeld ?_
    rotate_left
    · (intro w hSw; go_simp; (try with_reducible rfl))
    simp only [Act.put, List.getElem_toArray, List.getElem_cons_zero, List.getElem_cons_succ, List.setIfInBounds_toArray, List.set_cons_zero, List.set_cons_succ]
    refine wpAnyH_take (i := 6) (v := ?_) rfl (by kernel_rfl) (by kernel_rfl) (by kernel_rfl) (fun _ _ _ h => h) (Or.inl ⟨by rfl, ?_⟩) hHeld ?_
    rotate_left
    · (intro w hSw; go_simp; (try with_reducible rfl))
    simp only [Act.put, List.getElem_toArray, List.getElem_cons_zero, List.getElem_cons_succ, List.setIfInBounds_toArray, List.set_cons_zero, List.set_cons_succ]
    refine wpAnyH_take (i := 7) (v := ?_) rfl (by kernel_rfl) (by kernel_rfl) (by kernel_rfl) (fun _ _ _ h => h) (Or.inl ⟨by rfl, ?_⟩) hHeld ?_
    rotate_left
    · (intro w hSw; go_simp; (try with_reducible rfl))
    simp only [Act.put, List.getElem_toArray, List.getElem_cons_zero, List.getElem_cons_succ, List.setIfInBounds_toArray, List.set_cons_zero, List.set_cons_succ]
    clear hs1 hs2
    have hb1 := hHeld
    generalize w.drew = W0 at hHeld hb1 ⊢
    refine wpAnyH_ready (rs := [4]) (by kernel_rfl) (by simp) ?_
    refine AllReadyH.cons rfl (fun K hK => ?_) AllReadyH.nil
    simp only [List.getElem_toArray, List.getElem_cons_zero, List.getElem_cons_succ]
    go_simp
    have hB4 := below_alloc (w := W0) (.cells #[.int .i64 x] 3)
    have hone := Nums.one W0 .i64 x 3
    have hg1 : W0.heap.size < (W0.alloc (.cells #[.int .i64 x] 3)).heap.size := by simp
    obtain ⟨g1, hg1e⟩ : ∃ g1, g1 = W0.heap.size := ⟨_, rfl⟩
    rw [← hg1e] at hone hg1
    rw [← hg1e]
    obtain ⟨W1, hW1⟩ : ∃ W1, W1 = W0.alloc (.cells #[.int .i64 x] 3) := ⟨_, rfl⟩
    rw [← hW1] at hone hg1 hB4
    rw [← hW1]
    clear hW1 hg1e
    have hbw := keepB hB4 hHeld
    refine hK.out _ _ hbw (fun _ => ?_)
    clear hK K
    try simp only [Act.put, List.setIfInBounds_toArray, List.set_cons_zero, List.set_cons_succ]
    refine anyH_rebase hbw (fun hHeld => ?_)
    refine wpAnyH_ready (rs := [8]) (by kernel_rfl) (by simp) ?_
    refine AllReadyH.cons rfl (fun K hK => ?_) AllReadyH.nil
    simp only [List.getElem_toArray, List.getElem_cons_zero, List.getElem_cons_succ]
    go_simp
    have hP := parts3 (W := W1) (p1 := ⟨A1, i, c, l.take i⟩) (p2 := ⟨some ⟨g1, 0, none⟩, 1, 1, [x]⟩) (p3 := ⟨A2, n - i, c - i, l.drop i⟩) ((HN1.out.below hbw).more hbw.size) (hone.more (by omega)) ((HN2.out.below hbw).more hbw.size) 22
    have hB8 := below_alloc (w := W1) (.cells #[.slice A1 i c, .slice (some ⟨g1, 0, none⟩) 1 1, .slice A2 (n - i) (c - i)] 22)
    simp only at hP
    obtain ⟨g2, hg2e⟩ : ∃ g2, g2 = W1.heap.size := ⟨_, rfl⟩
    rw [← hg2e] at hP
    rw [← hg2e]
    obtain ⟨W2, hW2⟩ : ∃ W2, W2 = W1.alloc (.cells #[.slice A1 i c, .slice (some ⟨g1, 0, none⟩) 1 1, .slice A2 (n - i) (c - i)] 22) := ⟨_, rfl⟩
    rw [← hW2] at hP hB8
    rw [← hW2]
    clear hW2 hg2e
    refine hK.out _ _ hB8 (fun _ => ?_)
    clear hK K
    try simp only [Act.put, List.setIfInBounds_toArray, List.set_cons_zero, List.set_cons_succ]
    refine anyH_rebase hB8 (fun hHeld => ?_)
    have hcat : catP [⟨A1, i, c, l.take i⟩, ⟨some ⟨g1, 0, none⟩, 1, 1, [x]⟩, ⟨A2, n - i, c - i, l.drop i⟩] = insL l i x := by simp [catP, insL]
    have hcc := concat_any g2 3 3 _ W2 hP rfl (by omega) (by rw [hcat, ins_len _ _ _ (by omega)]; omega)
    rw [hcat] at hcc
    refine wpAnyH_ready (rs := [9]) (by kernel_rfl) (by simp) ?_
    refine AllReadyH.cons rfl (fun K hK => ?_) AllReadyH.nil
    simp only [List.getElem_toArray, List.getElem_cons_zero, List.getElem_cons_succ]
    go_simp
    refine hcc.mono ?_
    rintro e W3 ⟨A3, n3, c3, rfl, ho3, hb3⟩
    clear hcc
    go_wp2_with fail
    have hB3 := keepB hb3 hHeld
    refine hK.out _ _ hB3 (fun _ => ?_)
    clear hK K
    try simp only [Act.put, List.setIfInBounds_toArray, List.set_cons_zero, List.set_cons_succ]
    refine anyH_rebase hB3 (fun hHeld => ?_)
    refine wpAnyH_take (i := 10) (v := ?_) rfl (by kernel_rfl) (by kernel_rfl) (by kernel_rfl) (fun _ _ _ h => h) (Or.inl ⟨by rfl, ?_⟩) hHeld ?_
    rotate_left
    · (intro w hSw; go_simp; (try with_reducible rfl))
    simp only [Act.put, List.getElem_toArray, List.getElem_cons_zero, List.getElem_cons_succ, List.setIfInBounds_toArray, List.set_cons_zero, List.set_cons_succ]
    refine wpAnyH_take (i := 11) (v := ?_) rfl (by kernel_rfl) (by kernel_rfl) (by kernel_rfl) (fun _ _ _ h => h) (Or.inl ⟨by rfl, ?_⟩) hHeld ?_
    rotate_left
    · (intro w hSw; go_simp; (try with_reducible rfl))
    simp only [Act.put, List.getElem_toArray, List.getElem_cons_zero, List.getElem_cons_succ, List.setIfInBounds_toArray, List.set_cons_zero, List.set_cons_succ]
    refine wpAnyH_done (by kernel_rfl) ?_ _
    go_wp2_with fail
    have hbf := keepB hb3 (keepB hB8 hbw)
    exact bodyPost_ret (results_tmp2 rfl _ _ _) rfl ⟨hbf, .inl ⟨HOk.out, _, _, _, rfl, Mine.of_own (ho3.base_le (keepB hB8 hbw).size)⟩⟩
  · have hno : p < 0 ∨ (n : Int) < p := by unfold Within at hok; omega
    have HE := Lib.hid hok
    obtain ⟨l2, hl2⟩ : ∃ l2, l2 = insL l p.toNat x := ⟨_, rfl⟩
    rw [← hl2]
    clear hok hL hl2
    by_cases h0 : p < 0
    · have d1 : decide (p < 0) = true := decide_eq_true h0
      clear h0 hno
      go_enter Try.func8, Try.ntmps8
      go_wp2_with fail
      refine bodyPost_ret (results_tmp2 rfl _ _ _) rfl ⟨Below.refl _ _, .inr ⟨HE.out, _, _, rfl⟩⟩
    · have d1 : decide (p < 0) = false := decide_eq_false h0
      have d2 : decide ((n : Int) < p) = true := decide_eq_true (by omega)
      clear h0 hno
      go_enter Try.func8, Try.ntmps8
      go_wp2_with fail
      refine bodyPost_ret (results_tmp2 rfl _ _ _) rfl ⟨Below.refl _ _, .inr ⟨HE.out, _, _, rfl⟩⟩
set_option linter.unusedSimpArgs false in
set_option maxHeartbeats 1000000 in
theorem remove_code (A : Option Addr) (n c : Nat) (l : List Int) (p : Int) (w : World) (hL : LsIn w A n c l) : Calls Try.prog 9 #[.slice A n c, .int .i64 p] w (RemR n p l w) := by
  have hhas := has_any A n c p w
  by_cases hok : Within n p
  · rw [decide_eq_true hok] at hhas
    obtain ⟨i, rfl⟩ : ∃ i : Nat, p = (i : Int) := ⟨p.toNat, by unfold Within at hok; omega⟩
    have hi : i < n := by unfold Within at hok; omega
    have HOk := Lib.hid hok
    have hln := hL.N.len
    have hfew := hL.few
    obtain ⟨A1, hs1, hN1⟩ := cut_to (P := Try.prog) hL.N hL.cap (show i ≤ n by omega) 22 (by kernel_rfl) (fun _ => by kernel_rfl)
    obtain ⟨j, hj⟩ : ∃ j, j = i + 1 := ⟨_, rfl⟩
    obtain ⟨A2, hs2, hN2⟩ := cut_from (P := Try.prog) hL.N hL.cap (show j ≤ n by omega) 22 (by kernel_rfl) (fun _ => by kernel_rfl)
    obtain ⟨a, rfl, hab, hca⟩ := hL.N.at_ (show i < l.length by omega)
    obtain ⟨v, hv⟩ : ∃ v, v = l.getD i 0 := ⟨_, rfl⟩
    have hvl : l[i]'(by omega) = v := by rw [hv, List.getD_eq_getElem?_getD, List.getElem?_eq_getElem (by omega)]; rfl
    rw [hvl] at hca
    unfold RemR
    rw [Int.toNat_natCast, ← hv]
    have HJ := Lib.hid hj
    have HN1 := Lib.hid hN1
    have HN2 := Lib.hid hN2
    have e1 : IntKind.i64.wrap ((i : Int) + 1) = (j : Int) := by rw [i64_in (by omega) (by omega)]; omega
    have r0 : ∀ W, Below w.heap.size w W → W.cell? (a.add i) = some (.int .i64 v) := fun W hW => (hW.cell (by rw [addr_block]; exact hab)).trans hca
    have g0 : (0 : Int) ≤ (i : Int) := by omega
    have g1 : (i : Int) < (n : Int) := by omega
    clear hN1 hN2 hok hL hvl hca hab hv hj
    go_enter Try.func9, Try.ntmps9
    go_wp2_with fail
    refine hhas.mono ?_
    rintro e w' ⟨rfl, rfl⟩
    clear hhas
    go_upto_region 3 with fail
    refine region_below (by kernel_rfl) (fun hHeld => ?_)
    refine wpAnyH_take (i := 0) (v := ?_) rfl (by kernel_rfl) (by kernel_rfl) (by kernel_rfl) (fun _ _ _ h => h) (Or.inl ⟨by rfl, ?_⟩) hHeld ?_
    rotate_left
    · (intro w hSw; go_simp; (try with_reducible rfl))
    simp only [Act.put, List.getElem_toArray, List.getElem_cons_zero, List.getElem_cons_succ, List.setIfInBounds_toArray, List.set_cons_zero, List.set_cons_succ]
    refine wpAnyH_take (i := 1) (v := ?_) rfl (by kernel_rfl) (by kernel_rfl) (by kernel_rfl) (fun _ _ _ h => h) (Or.inl ⟨by rfl, ?_⟩) hHeld ?_
    rotate_left
    · (intro w hSw; go_simp; (try with_reducible rfl))
    simp only [Act.put, List.getElem_toArray, List.getElem_cons_zero, List.getElem_cons_succ, List.setIfInBounds_toArray, List.set_cons_zero, List.set_cons_succ]
    refine wpAnyH_take (i := 2) (v := ?_) rfl (by kernel_rfl) (by kernel_rfl) (by kernel_rfl) (fun _ _ _ h => h) (Or.inl ⟨by rfl, ?_⟩) hHeld ?_
    rotate_left
    · (intro w hSw; go_simp; (try with_reducible rfl))
    simp only [Act.put, List.getElem_toArray, List.getElem_cons_zero, List.getElem_cons_succ, List.setIfInBounds_toArray, List.set_cons_zero, List.set_cons_succ]
    refine wpAnyH_take (i := 3) (v := ?_) rfl (by kernel_rfl) (by kernel_rfl) (by kernel_rfl) (fun _ _ _ h => h) (Or.inl ⟨by rfl, ?_⟩) hHeld ?_
    rotate_left
    · (intro w hSw; go_simp; (try with_reducible rfl))
    simp only [Act.put, List.getElem_toArray, List.getElem_cons_zero, List.getElem_cons_succ, List.setIfInBounds_toArray, List.set_cons_zero, List.set_cons_succ]
    refine wpAnyH_take (i := 4) (v := ?_) rfl (by kernel_rfl) (by kernel_rfl) (by kernel_rfl) (fun _ _ _ h => h) (Or.inl ⟨by rfl, ?_⟩) hHeld ?_
    rotate_left
    · (intro w hSw; go_simp; (try with_reducible rfl))
    simp only [Act.put, List.getElem_toArray, List.getElem_cons_zero, List.getElem_cons_succ, List.setIfInBounds_toArray, List.set_cons_zero, List.set_cons_succ]
    refine wpAnyH_take (i := 5) (v := ?_) rfl (by kernel_rfl) (by kernel_rfl) (by kernel_rfl) (fun _ _ _ h => h) (Or.inl ⟨by rfl, ?_⟩) hHeld ?_
    rotate_left
    · (intro w hSw; go_simp; (try with_reducible rfl))
    simp only [Act.put, List.getElem_toArray, List.getElem_cons_zero, List.getElem_cons_succ, List.setIfInBounds_toArray, List.set_cons_zero, List.set_cons_succ]
    refine wpAnyH_take (i := 6) (v := ?_) rfl (by kernel_rfl) (by kernel_rfl) (by kernel_rfl) (fun _ _ _ h => h) (Or.inl ⟨by rfl, ?_⟩) hHeld ?_
    rotate_left
    · (intro w hSw; go_simp; (try with_reducible rfl))
    simp only [Act.put, List.getElem_toArray, List.getElem_cons_zero, List.getElem_cons_succ, List.setIfInBounds_toArray, List.set_cons_zero, List.set_cons_succ]
    refine wpAnyH_take (i := 9) (v := ?_) rfl (by kernel_rfl) (by kernel_rfl) (by kernel_rfl) (fun _ _ _ h => h) (Or.inl ⟨by rfl, ?_⟩) hHeld ?_
    rotate_left
    · (intro w hSw; go_simp; (try with_reducible rfl))
    simp only [Act.put, List.getElem_toArray, List.getElem_cons_zero, List.getElem_cons_succ, List.setIfInBounds_toArray, List.set_cons_zero, List.set_cons_succ]
    refine wpAnyH_take (i := 10) (v := ?_) rfl (by kernel_rfl) (by kernel_rfl) (by kernel_rfl) (fun _ _ _ h => h) (Or.inl ⟨by rfl, ?_⟩) hHeld ?_
    rotate_left
    · (intro w hSw; go_simp; (try with_reducible rfl))
    simp only [Act.put, List.getElem_toArray, List.getElem_cons_zero, List.getElem_cons_succ, List.setIfInBounds_toArray, List.set_cons_zero, List.set_cons_succ]
    refine wpAnyH_take (i := 11) (v := ?_) rfl (by kernel_rfl) (by kernel_rfl) (by kernel_rfl) (fun _ _ _ h => h) (Or.inl ⟨by rfl, ?_⟩) hHeld ?_
    rotate_left
    · (intro w hSw; go_simp; (try with_reducible rfl))
    simp only [Act.put, List.getElem_toArray, List.getElem_cons_zero, List.getElem_cons_succ, List.setIfInBounds_toArray, List.set_cons_zero, List.set_cons_succ]
    refine wpAnyH_take (i := 12) (v := ?_) rfl (by kernel_rfl) (by kernel_rfl) (by kernel_rfl) (fun _ _ _ h => h) (Or.inl ⟨by rfl, ?_⟩) hHeld ?_
    rotate_left
    · (intro w hSw; go_simp; (try with_reducible rfl))
    simp only [Act.put, List.getElem_toArray, List.getElem_cons_zero, List.getElem_cons_succ, List.setIfInBounds_toArray, List.set_cons_zero, List.set_cons_succ]
    clear hs1 hs2 r0 g0 g1 e1
    have hb1 := hHeld
    generalize w'.drew = W1 at hHeld hb1 ⊢
    refine wpAnyH_ready (rs := [7]) (by kernel_rfl) (by simp) ?_
    refine AllReadyH.cons rfl (fun K hK => ?_) AllReadyH.nil
    simp only [List.getElem_toArray, List.getElem_cons_zero, List.getElem_cons_succ]
    go_simp
    have hP := parts2 (W := W1) (p1 := ⟨A1, i, c, l.take i⟩) (p2 := ⟨A2, n - j, c - j, l.drop j⟩) ((HN1.out.below hb1).more hb1.size) ((HN2.out.below hb1).more hb1.size) 22
    have hB8 := below_alloc (w := W1) (.cells #[.slice A1 i c, .slice A2 (n - j) (c - j)] 22)
    simp only at hP
    obtain ⟨g2, hg2e⟩ : ∃ g2, g2 = W1.heap.size := ⟨_, rfl⟩
    rw [← hg2e] at hP
    rw [← hg2e]
    obtain ⟨W2, hW2⟩ : ∃ W2, W2 = W1.alloc (.cells #[.slice A1 i c, .slice A2 (n - j) (c - j)] 22) := ⟨_, rfl⟩
    rw [← hW2] at hP hB8
    rw [← hW2]
    clear hW2 hg2e
    have hbw := keepB hB8 hHeld
    refine hK.out _ _ hbw (fun _ => ?_)
    clear hK K
    try simp only [Act.put, List.setIfInBounds_toArray, List.set_cons_zero, List.set_cons_succ]
    refine anyH_rebase hbw (fun hHeld => ?_)
    have hcat : catP [⟨A1, i, c, l.take i⟩, ⟨A2, n - j, c - j, l.drop j⟩] = rmL l i := by rw [HJ.out]; simp [catP, rmL]
    have hcc := concat_any g2 2 2 _ W2 hP rfl (by omega) (by rw [hcat, rm_len _ _ (by omega)]; omega)
    rw [hcat] at hcc
    refine wpAnyH_ready (rs := [8]) (by kernel_rfl) (by simp) ?_
    refine AllReadyH.cons rfl (fun K hK => ?_) AllReadyH.nil
    simp only [List.getElem_toArray, List.getElem_cons_zero, List.getElem_cons_succ]
    go_simp
    refine hcc.mono ?_
    rintro e W3 ⟨A3, n3, c3, rfl, ho3, hb3⟩
    clear hcc
    go_wp2_with fail
    have hB3 := keepB hb3 hHeld
    refine hK.out _ _ hB3 (fun _ => ?_)
    clear hK K
    try simp only [Act.put, List.setIfInBounds_toArray, List.set_cons_zero, List.set_cons_succ]
    refine anyH_rebase hB3 (fun hHeld => ?_)
    refine wpAnyH_take (i := 13) (v := ?_) rfl (by kernel_rfl) (by kernel_rfl) (by kernel_rfl) (fun _ _ _ h => h) (Or.inl ⟨by rfl, ?_⟩) hHeld ?_
    rotate_left
    · (intro w hSw; go_simp; (try with_reducible rfl))
    simp only [Act.put, List.getElem_toArray, List.getElem_cons_zero, List.getElem_cons_succ, List.setIfInBounds_toArray, List.set_cons_zero, List.set_cons_succ]
    refine wpAnyH_take (i := 14) (v := ?_) rfl (by kernel_rfl) (by kernel_rfl) (by kernel_rfl) (fun _ _ _ h => h) (Or.inl ⟨by rfl, ?_⟩) hHeld ?_
    rotate_left
    · (intro w hSw; go_simp; (try with_reducible rfl))
    simp only [Act.put, List.getElem_toArray, List.getElem_cons_zero, List.getElem_cons_succ, List.setIfInBounds_toArray, List.set_cons_zero, List.set_cons_succ]
    refine wpAnyH_take (i := 15) (v := ?_) rfl (by kernel_rfl) (by kernel_rfl) (by kernel_rfl) (fun _ _ _ h => h) (Or.inl ⟨by rfl, ?_⟩) hHeld ?_
    rotate_left
    · (intro w hSw; go_simp; (try with_reducible rfl))
    simp only [Act.put, List.getElem_toArray, List.getElem_cons_zero, List.getElem_cons_succ, List.setIfInBounds_toArray, List.set_cons_zero, List.set_cons_succ]
    refine wpAnyH_done (by kernel_rfl) ?_ _
    go_wp2_with fail
    refine bodyPost_ret (results_tmp3 rfl _ _ _) rfl ?_
    exact ⟨keepB hb3 hbw, .inl ⟨HOk.out, _, _, _, rfl, Mine.of_own (ho3.base_le hbw.size)⟩⟩
  · rw [decide_eq_false hok] at hhas
    have HE := Lib.hid hok
    clear hok hL
    go_enter Try.func9, Try.ntmps9
    go_wp2_with fail
    refine hhas.mono ?_
    rintro e w' ⟨rfl, rfl⟩
    clear hhas
    go_wp2_with fail
    refine bodyPost_ret (results_tmp3 rfl _ _ _) rfl ?_
    exact ⟨Below.refl _ _, .inr ⟨HE.out, _, _, rfl⟩⟩
theorem rm_mem {l : List Int} {i : Nat} {x : Int} (h : x ∈ rmL l i) : x ∈ l := by
  unfold rmL at h
  rcases List.mem_append.1 h with h | h
  · exact List.mem_of_mem_take h
  · exact List.mem_of_mem_drop h
set_option maxHeartbeats 1000000 in
theorem move_code (A : Option Addr) (n c : Nat) (l : List Int) (p q : Int) (w : World) (hL : LsIn w A n c l) : Calls Try.prog 14 #[.slice A n c, .int .i64 p, .int .i64 q] w (LstR (Within n p ∧ Within n q) (mvL l p.toNat q.toNat) 1 w) := by
  have hr := remove_code A n c l p w hL
  obtain ⟨l2, hl2⟩ : ∃ l2, l2 = mvL l p.toNat q.toNat := ⟨_, rfl⟩
  rw [← hl2]
  have HL2 := Lib.hid hl2
  clear hl2
  have hln := hL.N.len
  have hfew := hL.few
  have HWf := Lib.hid hL.wf
  clear hL
  go_enter Try.func14, Try.ntmps14
  go_wp2_with fail
  refine hr.mono ?_
  rintro e w1 ⟨hb1, (⟨hok, A1, n1, c1, rfl, hm⟩ | ⟨hno, A1, c1, rfl⟩)⟩
  · clear hr
    have hp : p.toNat < l.length := by unfold Within at hok; omega
    have hn1 : n1 = n - 1 := by have h := hm.len; rw [rm_len _ _ hp] at h; omega
    subst hn1
    have hin := insert_code A1 (n - 1) c1 (rmL l p.toNat) q (l.getD p.toNat 0) w1 ⟨hm.1, hm.2.1, by omega, fun x hx => HWf.out x (rm_mem hx)⟩
    rw [show n - 1 + 1 = n by omega, show insL (rmL l p.toNat) q.toNat (l.getD p.toNat 0) = mvL l p.toNat q.toNat from rfl, ← HL2.out] at hin
    have HOk := Lib.hid hok
    clear hm hp hok
    go_wp2_with fail
    refine hin.mono ?_
    rintro e w2 ⟨hb2, (⟨hok2, A2, n2, c2, rfl, hm2⟩ | ⟨hno2, A2, c2, rfl⟩)⟩
    · clear hin
      go_wp2_with fail
      exact bodyPost_ret (results_tmp2 rfl _ _ _) rfl ⟨keepB hb2 hb1, .inl ⟨⟨HOk.out, hok2⟩, _, _, _, rfl, hm2.base_le hb1.size⟩⟩
    · clear hin
      have HE := Lib.hid hno2
      clear hno2
      go_wp2_with fail
      exact bodyPost_ret (results_tmp2 rfl _ _ _) rfl ⟨keepB hb2 hb1, .inr ⟨fun h => HE.out h.2, _, _, rfl⟩⟩
  · clear hr
    have HE := Lib.hid hno
    clear hno
    rw [errV_err (show (1 : Int) ≠ 0 by decide)]
    go_wp2_with fail
    refine bodyPost_ret (results_tmp2 rfl _ _ _) rfl ⟨hb1, .inr ⟨fun h => HE.out h.1, none, 0, ?_⟩⟩
    rw [errV_err (show (1 : Int) ≠ 0 by decide)]
    rfl
end Go.Proofs.Ytcnfpjghjdmefaa
