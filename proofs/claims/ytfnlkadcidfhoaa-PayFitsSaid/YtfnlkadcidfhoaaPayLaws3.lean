/- Layer 5: the laws' walks: PaySums. -/
import Derived.Test.YtfnlkadcidfhoaaPayLaws2
namespace Go.Proofs.Ytfnlkadcidfhoaa
open Go.RowKit Mx Yx
attribute [local go_sem] arr_get
theorem is_by (k want : Int) (w : World) : Calls Try.prog 17 #[errV k, .int .i64 want] w fun e w' => e = .returned (.bool (k == want)) ∧ w = w' := by
  go_enter Try.func17, Try.ntmps17
  go_wp2_with fail
  refine (num_by k _).mono ?_
  rintro e w2 ⟨rfl, rfl⟩
  go_wp2_with fail
  go_ret
  exact ⟨rfl, rfl⟩
/-- What stands while two costs are added. -/
structure StS (w : World) (a b c : Nat → Int) (C D : Nat) (wr : World) : Prop where
  a : ArrAt .i64 6 23 wr w.heap.size a
  b : ArrAt .i64 6 23 wr (w.heap.size + 1) b
  c : ArrAt .i64 6 23 wr C c
  bel : Below w.heap.size w wr
def partS (f : Nat → Int) (t : Nat) : Nat → Int := fun i => if i < t then f i else 0
theorem partS_next (f : Nat → Int) (t : Nat) : updI (partS f t) t (f t) = partS f (t + 1) := by
  funext i; unfold updI partS
  by_cases e : i = t
  · subst e; rw [if_pos rfl, if_pos (by omega)]
  · rw [if_neg e]
    by_cases h : i < t
    · rw [if_pos h, if_pos (by omega)]
    · rw [if_neg h, if_neg (by omega)]
theorem StS.drewN {w wr : World} {a b c : Nat → Int} {C D : Nat} (h : StS w a b c C D wr) (n : Nat) : StS w a b c C D (wr.drewN n) := ⟨h.a, h.b, h.c, below_drewN h.bel n⟩
theorem StS.far {w wr : World} {a b c : Nat → Int} {C D : Nat} (h : StS w a b c C D wr) (hC : w.heap.size + 1 < C) (hD : C < D) (j : Nat) (v : Value) : StS w a b c C D (wr.setCell ⟨D, j, none⟩ v) :=
  ⟨h.a.far (by simp; omega) _, h.b.far (by simp; omega) _, h.c.far (by simp; omega) _, h.bel.setCell (by simp; omega) _⟩
theorem sumR_bad {a b c : Nat → Int} {k : Int} (h : SumR a b c k) (hg : ¬ (GoodC a ∧ GoodC b)) : c = zeroC ∧ k = 2 := by
  rcases h with ⟨_, h⟩ | ⟨h, _⟩ | ⟨h, _⟩
  · exact h
  · exact absurd h hg
  · exact absurd h hg
set_option linter.unusedSimpArgs false in
set_option maxRecDepth 100000 in
set_option maxHeartbeats 1000000 in
theorem paySums_walk {w : World} (S : PaySaid w) (a b : Nat → Int) (hp : Wide a) (hc : Wide b) : Calls Try.prog 5 #[.agg (arr .i64 6 a), .agg (arr .i64 6 b)] w fun e w' => e = .returned (.bool true) ∧ Below w.heap.size w w' := by
  have hsz : ∀ g, (Try.prog.info? 23).map (·.size) = some (arr .i64 6 g).size := fun g => by rw [arr_size]; exact size6
  have h1 : ∀ g, (arr .i64 6 g).all (·.oneCell') = true := fun g => arr_one .i64 6 g
  have hz6 := zero6
  have hg1 := fun W => goodRef_any a W hp
  have hg2 := fun W => goodRef_any b W hc
  go_enter Try.func5, Try.ntmps5
  go_upto_region 1 with fail
  obtain ⟨w1, hw1, a1, a2, hb1⟩ := two_boxes w a b
  rw [← hw1]
  clear hw1
  go_wp2_with fail
  refine (payAlive S _ hb1).mono ?_
  rintro e w2 ⟨rfl, hb2⟩
  have a1 := a1.keep hb2
  have a2 := a2.keep hb2
  have hbw2 := keepB hb2 hb1
  clear hb2 hb1
  go_wp2_with (first
    | (refine wpList_load_row rfl 23 (.tmp 2) rfl w.heap.size rfl 23 _ (0, 0) _ a1 Try.underlying23 rfl (hsz a) ?_)
    | (refine wpList_load_row rfl 23 (.tmp 3) rfl (w.heap.size + 1) rfl 23 _ (0, 0) _ a2 Try.underlying23 rfl (hsz b) ?_))
  refine (S.sum a b _ hp hc hbw2).mono ?_
  rintro e w3 ⟨c, k, hS, rfl, hb3⟩
  have a1 := a1.keep hb3
  have a2 := a2.keep hb3
  have hbw3 := keepB hb3 hbw2
  clear hb3 hbw2
  have hnew : (w3.alloc (.cells (arr .i64 6 zeroC) 23)).heap[w3.heap.size]? = some (.cells (arr .i64 6 zeroC) 23 (0, 0)) := heap_alloc_new _ _
  go_upto_region 4 with (refine wpList_store_row rfl 23 (.tmp 5) (.tmp 15) rfl w3.heap.size _ rfl rfl 23 (arr .i64 6 zeroC) hnew (hsz c) (by rw [arr_size, arr_size]) (h1 c) ?_)
  obtain ⟨w4, hw4⟩ : ∃ w4, w4 = (w3.alloc (.cells (arr .i64 6 zeroC) 23)).setRow w3.heap.size (arr .i64 6 c) := ⟨_, rfl⟩
  have a3 : ArrAt .i64 6 23 w4 w3.heap.size c := by rw [hw4]; exact ArrAt.setRow (show ArrAt .i64 6 23 _ _ _ from hnew) _
  have hb4 : Below w3.heap.size w3 w4 := by rw [hw4]; exact below_setRow ((Below.refl _ _).alloc (Nat.le_refl _) _) _ _ (Nat.le_refl _)
  have hC : w.heap.size + 1 < w3.heap.size := a2.lt
  have a1 := a1.keep hb4
  have a2 := a2.keep hb4
  have hbw4 := keepB hb4 hbw3
  rw [← hw4]
  clear hw4 hnew hb4 hbw3
  obtain ⟨C, hCe⟩ : ∃ C, w3.heap.size = C := ⟨_, rfl⟩
  rw [hCe] at a3 hC ⊢
  clear hCe
  go_wp2_with (refine wpList_load_row rfl 23 (.tmp 2) rfl w.heap.size rfl 23 _ (0, 0) _ a1 Try.underlying23 rfl (hsz a) ?_)
  by_cases g1 : GoodC a
  · refine (good_yes (hg1 _) g1).mono ?_
    rintro e w5 ⟨rfl, hb5⟩
    have a1 := a1.keep hb5
    have a2 := a2.keep hb5
    have a3 := a3.keep hb5
    have hbw5 := keepB hb5 hbw4
    clear hb5 hbw4 hg1
    go_wp2_with (refine wantArr (by rfl) 23 (.tmp 3) rfl (w.heap.size + 1) rfl 23 _ (0, 0) _ a2 Try.underlying23 rfl (hsz b) ?_)
    by_cases g2 : GoodC b
    · refine (good_yes (hg2 _) g2).mono ?_
      rintro e w7 ⟨rfl, hb7⟩
      have a1 := a1.keep hb7
      have a2 := a2.keep hb7
      have a3 := a3.keep hb7
      have hbw7 := keepB hb7 hbw5
      clear hb7 hbw5 hg2
      have hnew : (w7.alloc (.cells (arr .i64 6 zeroC) 23)).heap[w7.heap.size]? = some (.cells (arr .i64 6 zeroC) 23 (0, 0)) := heap_alloc_new _ _
      go_upto_region 8 with (refine wpList_store_row rfl 23 (.tmp 7) (.tmp 32) rfl w7.heap.size _ rfl rfl 23 (arr .i64 6 zeroC) hnew (hsz zeroC) rfl (h1 zeroC) ?_)
      obtain ⟨w8, hw8⟩ : ∃ w8, w8 = (w7.alloc (.cells (arr .i64 6 zeroC) 23)).setRow w7.heap.size (arr .i64 6 zeroC) := ⟨_, rfl⟩
      have hD : C < w7.heap.size := a3.lt
      have HSt := Lib.hid (show StS w a b c C w7.heap.size w8 by
        have hb8 : Below w7.heap.size w7 w8 := by rw [hw8]; exact below_setRow ((Below.refl _ _).alloc (Nat.le_refl _) _) _ _ (Nat.le_refl _)
        exact ⟨a1.keep hb8, a2.keep hb8, a3.keep hb8, keepB hb8 hbw7⟩)
      have HD8 := Lib.hid (show ArrAt .i64 6 23 w8 w7.heap.size (partS (addF a b) 0) by
        have h := ArrAt.setRow (show ArrAt .i64 6 23 _ _ _ from hnew) zeroC
        rw [hw8]; exact h.congr (fun _ _ => by unfold partS; rw [if_neg (by omega)]; rfl))
      rw [← hw8]
      clear hw8 hnew a1 a2 a3 hbw7
      obtain ⟨D, hDe⟩ : ∃ D, w7.heap.size = D := ⟨_, rfl⟩
      rw [hDe] at HSt HD8 hD ⊢
      clear hDe
      go_loopw [33] (fun i wr => ∃ t : Nat, i = .int .i64 ((t : Nat) : Int) ∧ t ≤ 6 ∧ StS w a b c C D wr ∧ ArrAt .i64 6 23 wr D (partS (addF a b) t)) (fun i _ => 6 - (intOf i).toNat)
      case atStart => exact ⟨0, rfl, by omega, HSt.out, HD8.out⟩
      case round =>
        obtain ⟨t, rfl, ht, hst, hdt⟩ := hrel
        have HS := Lib.hid hst
        have HD := Lib.hid hdt
        clear hst hdt HSt HD8
        by_cases hlt : t < 6
        · obtain ⟨x0, x1⟩ := g1 t hlt
          obtain ⟨y0, y1⟩ := g2 t hlt
          obtain ⟨x, hx⟩ : ∃ x, x = a t := ⟨_, rfl⟩
          obtain ⟨y, hy⟩ : ∃ y, y = b t := ⟨_, rfl⟩
          rw [← hx] at x0 x1
          rw [← hy] at y0 y1
          have b0 : (0 : Int) ≤ (t : Int) := by omega
          have b1 : (t : Int) < 6 := by omega
          have s1 : IntKind.i64.wrap (x + y) = x + y := i64_in' (by omega) (by omega)
          have c1 : ∀ W, StS w a b c C D W → W.cell? ⟨w.heap.size, t, none⟩ = some (.int .i64 x) := fun W hW => by rw [hx]; exact hW.a.cell hlt
          have c2 : ∀ W, StS w a b c C D W → W.cell? ⟨w.heap.size + 1, t, none⟩ = some (.int .i64 y) := fun W hW => by rw [hy]; exact hW.b.cell hlt
          have HNx := Lib.hid (show updI (partS (addF a b) t) t (x + y) = partS (addF a b) (t + 1) by rw [hx, hy]; exact partS_next (addF a b) t)
          have hZ1 : StS w a b c C D wr.drew := HS.out.drewN 1
          have hD1 : ArrAt .i64 6 23 wr.drew D (partS (addF a b) t) := HD.out
          clear hx hy
          go_upto_region 10 with fail
          refine wp_region_held_drew (S := StS w a b c C D) (by kernel_rfl) hZ1 (fun hHeld => ?_)
          generalize wr.drew = W0 at hHeld hZ1 hD1 ⊢
          have q1 := hD1.cell hlt
          have q2 := hD1.frozen t
          have HS8 := Lib.hid (hZ1.far hC hD t (.int .i64 (x + y)))
          have hD9 := hD1.set_ t (x + y)
          rw [HNx.out] at hD9
          have HD9 := Lib.hid hD9
          clear hD9
          refine wpAnyH_take (i := 0) (v := ?_) rfl (by kernel_rfl) (by kernel_rfl) (by kernel_rfl) (fun _ _ _ h => h) (Or.inl ⟨by rfl, ?_⟩) hHeld ?_
          rotate_left
          · (intro w hSw; go_simp; (try with_reducible rfl))
          simp only [Act.put, List.getElem_toArray, List.getElem_cons_zero, List.getElem_cons_succ, List.setIfInBounds_toArray, List.set_cons_zero, List.set_cons_succ]
          refine wpAnyH_take (i := 1) (v := ?_) rfl (by kernel_rfl) (by kernel_rfl) (by kernel_rfl) (fun _ _ _ h => h) (Or.inl ⟨by rfl, ?_⟩) hHeld ?_
          rotate_left
          · (intro w hSw; go_simp; (try with_reducible rfl))
          simp only [Act.put, List.getElem_toArray, List.getElem_cons_zero, List.getElem_cons_succ, List.setIfInBounds_toArray, List.set_cons_zero, List.set_cons_succ]
          refine wpAnyH_take (i := 2) (v := ?_) rfl (by kernel_rfl) (by kernel_rfl) (by kernel_rfl) (fun _ _ _ h => h) (Or.inl ⟨by rfl, ?_⟩) hHeld ?_
          rotate_left
          · (intro w hSw; go_simp; (try with_reducible rfl))
          simp only [Act.put, List.getElem_toArray, List.getElem_cons_zero, List.getElem_cons_succ, List.setIfInBounds_toArray, List.set_cons_zero, List.set_cons_succ]
          refine wpAnyH_take (i := 3) (v := ?_) rfl (by kernel_rfl) (by kernel_rfl) (by kernel_rfl) (fun _ _ _ h => h) (Or.inl ⟨by rfl, ?_⟩) hHeld ?_
          rotate_left
          · (intro w hSw; go_simp; (try with_reducible rfl))
          simp only [Act.put, List.getElem_toArray, List.getElem_cons_zero, List.getElem_cons_succ, List.setIfInBounds_toArray, List.set_cons_zero, List.set_cons_succ]
          refine wpAnyH_take (i := 4) (v := ?_) rfl (by kernel_rfl) (by kernel_rfl) (by kernel_rfl) (fun _ _ _ h => h) (Or.inl ⟨by rfl, ?_⟩) hHeld ?_
          rotate_left
          · (intro w hSw; go_simp; (try with_reducible rfl))
          simp only [Act.put, List.getElem_toArray, List.getElem_cons_zero, List.getElem_cons_succ, List.setIfInBounds_toArray, List.set_cons_zero, List.set_cons_succ]
          refine wpAnyH_take (i := 5) (v := ?_) rfl (by kernel_rfl) (by kernel_rfl) (by kernel_rfl) (fun _ _ _ h => h) (Or.inl ⟨by rfl, ?_⟩) hHeld ?_
          rotate_left
          · (intro w hSw; go_simp; (try with_reducible rfl))
          simp only [Act.put, List.getElem_toArray, List.getElem_cons_zero, List.getElem_cons_succ, List.setIfInBounds_toArray, List.set_cons_zero, List.set_cons_succ]
          refine wpAnyH_take (i := 6) (v := ?_) rfl (by kernel_rfl) (by kernel_rfl) (by kernel_rfl) (fun _ _ _ h => h) (Or.inl ⟨by rfl, ?_⟩) hHeld ?_
          rotate_left
          · (intro w hSw; go_simp; (try with_reducible rfl))
          simp only [Act.put, List.getElem_toArray, List.getElem_cons_zero, List.getElem_cons_succ, List.setIfInBounds_toArray, List.set_cons_zero, List.set_cons_succ]
          refine wpAnyH_take (i := 7) (v := ?_) rfl (by kernel_rfl) (by kernel_rfl) (by kernel_rfl) (fun _ _ _ h => h) (Or.inl ⟨by rfl, ?_⟩) hHeld ?_
          rotate_left
          · (intro w hSw; go_simp; (try with_reducible rfl))
          simp only [Act.put, List.getElem_toArray, List.getElem_cons_zero, List.getElem_cons_succ, List.setIfInBounds_toArray, List.set_cons_zero, List.set_cons_succ]
          refine wpAnyH_take (i := 8) (v := ?_) rfl (by kernel_rfl) (by kernel_rfl) (by kernel_rfl) (fun _ _ _ h => h) (Or.inl ⟨by rfl, ?_⟩) hHeld ?_
          rotate_left
          · (intro w hSw; go_simp; (try with_reducible rfl))
          simp only [Act.put, List.getElem_toArray, List.getElem_cons_zero, List.getElem_cons_succ, List.setIfInBounds_toArray, List.set_cons_zero, List.set_cons_succ]
          refine wpAnyH_ready (rs := [9]) (by kernel_rfl) (by simp) ?_
          refine AllReadyH.cons rfl (fun K hK => ?_) AllReadyH.nil
          simp only [List.getElem_toArray, List.getElem_cons_zero, List.getElem_cons_succ]
          go_simp
          refine hK.out _ _ HS8.out (fun _ => ?_)
          clear hK K q1 q2 hHeld hZ1 hD1 c1 c2
          refine wpAnyH_done (by kernel_rfl) ?_ _
          go_wp2_with fail
          go_roundw
          case rel => exact ⟨t + 1, by go_num, by omega, HS8.out, HD9.out⟩
          case measure => simp [intOf]; omega
        · obtain rfl : t = 6 := by omega
          have hsum : ∀ i, i < 6 → addF a b i = partS (addF a b) 6 i := fun i hi => by unfold partS; rw [if_pos hi]
          have HDf := Lib.hid (HD.out.congr (fun i hi => (hsum i hi).symm))
          have hbw := HS.out.bel
          have hwide : Wide (addF a b) := fun i hi => by
            have := g1 i hi; have := g2 i hi; unfold addF; omega
          have hDg := HDf.out
          clear hsum HD
          go_wp2_with (refine wpList_load_row rfl 23 (.tmp 7) rfl D rfl 23 _ (0, 0) _ hDg Try.underlying23 rfl (hsz _) ?_)
          have hg3 := fun W => goodRef_any (addF a b) W hwide
          by_cases g3 : GoodC (addF a b)
          · refine (good_yes (hg3 _) g3).mono ?_
            rintro e w9 ⟨rfl, hb9⟩
            have hk : k = 0 ∧ ∀ i, i < 6 → c i = addF a b i := by
              rcases hS with ⟨h, _⟩ | ⟨_, h, _⟩ | ⟨_, _, h, h2⟩
              · exact absurd ⟨g1, g2⟩ h
              · exact absurd g3 h
              · exact ⟨h2, h⟩
            obtain ⟨rfl, hcc⟩ := hk
            rw [show errV 0 = .nilIface from rfl]
            have e1 := eqC c (addF a b) hcc
            have h5 := HS.out.c.keep hb9
            have h7 := hDg.keep hb9
            have hbw9 := keepB hb9 hbw
            clear hb9 hbw hDg hS
            go_wp2_with (first
              | (refine wantArr (by rfl) 23 (.tmp 5) rfl C rfl 23 _ (0, 0) _ h5 Try.underlying23 rfl (hsz c) ?_)
              | (refine wantArr (by rfl) 23 (.tmp 7) rfl D rfl 23 _ (0, 0) _ h7 Try.underlying23 rfl (hsz _) ?_))
            go_ret
            exact ⟨rfl, hbw9⟩
          · refine (good_no (hg3 _) g3).mono ?_
            rintro e w9 ⟨rfl, hb9⟩
            have hk : c = zeroC ∧ k = 1 := by
              rcases hS with ⟨h, _⟩ | ⟨_, _, h⟩ | ⟨_, h, _⟩
              · exact absurd ⟨g1, g2⟩ h
              · exact h
              · exact absurd h g3
            obtain ⟨rfl, rfl⟩ := hk
            have e1 := eqC zeroC zeroC (fun _ _ => rfl)
            have h5 := HS.out.c.keep hb9
            have hbw9 := keepB hb9 hbw
            clear hb9 hbw hDg hS
            go_wp2_with fail
            refine (is_by 1 1 _).mono ?_
            rintro e w10 ⟨rfl, rfl⟩
            go_wp2_with (refine wantArr (by rfl) 23 (.tmp 5) rfl C rfl 23 _ (0, 0) _ h5 Try.underlying23 rfl (hsz zeroC) ?_)
            go_ret
            exact ⟨rfl, hbw9⟩
    · refine (good_no (hg2 _) g2).mono ?_
      rintro e w7 ⟨rfl, hb7⟩
      have a3 := a3.keep hb7
      have hbw7 := keepB hb7 hbw5
      obtain ⟨rfl, rfl⟩ := sumR_bad hS (fun h => g2 h.2)
      have e1 := eqC zeroC zeroC (fun _ _ => rfl)
      go_wp2_with fail
      refine (is_by 2 2 _).mono ?_
      rintro e w6 ⟨rfl, rfl⟩
      go_wp2_with (refine wantArr (by rfl) 23 (.tmp 5) rfl C rfl 23 _ (0, 0) _ a3 Try.underlying23 rfl (hsz zeroC) ?_)
      go_ret
      exact ⟨rfl, hbw7⟩
  · refine (good_no (hg1 _) g1).mono ?_
    rintro e w5 ⟨rfl, hb5⟩
    have a3 := a3.keep hb5
    have hbw5 := keepB hb5 hbw4
    obtain ⟨rfl, rfl⟩ := sumR_bad hS (fun h => g1 h.1)
    have e1 := eqC zeroC zeroC (fun _ _ => rfl)
    go_wp2_with fail
    refine (is_by 2 2 _).mono ?_
    rintro e w6 ⟨rfl, rfl⟩
    go_wp2_with (refine wantArr (by rfl) 23 (.tmp 5) rfl C rfl 23 _ (0, 0) _ a3 Try.underlying23 rfl (hsz zeroC) ?_)
    go_ret
    exact ⟨rfl, hbw5⟩
end Go.Proofs.Ytfnlkadcidfhoaa
