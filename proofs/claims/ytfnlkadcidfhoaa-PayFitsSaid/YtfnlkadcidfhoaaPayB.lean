/- Layer 5: withoutColours, usual, firstWithRoom of the landed code. -/
import Derived.Test.YtfnlkadcidfhoaaPayA
import Derived.Test.YtfnlkadcidfhoaaPayCount
namespace Go.Proofs.Ytfnlkadcidfhoaa
open Go.RowKit Mx Yx
attribute [local go_sem] arr_get
/-- A whole array as the one result. -/
theorem results_cell1 {P : Program} {fn : Func} {p : Tmp} {ty : TypeId} (h : fn.results = #[.cell p ty]) (tmps : Array Value) (w : World) (g : Nat) (t : TypeId) (cs : Array Value) (fr : Nat × Nat) (d : TypeDesc)
    (hp : tmps.getD p undef = .pointer (some ⟨g, 0, none⟩)) (hg : w.heap[g]? = some (.cells cs t fr))
    (hu : P.underlying ty = some d) (hd : (match d with | .struct _ | .array _ _ => true | _ => false) = true) (hi : (P.info? ty).map (·.size) = some cs.size) :
    (results fn tmps).run P w = .ok (.agg cs) w := by
  have hp' : tmps[p]?.getD undef = .pointer (some ⟨g, 0, none⟩) := by simpa using hp
  simp [results, h, hp', asAddr, run_loadVar_row w g t ty cs fr d hg hu hd hi]
/-- The pool, with the first k colours paid. -/
def freeK (p c : Nat → Int) (k : Nat) : Nat → Int := fun i => if i < k then p i - c i else p i
theorem freeK_next (p c : Nat → Int) (k : Nat) : updI (freeK p c k) k (p k - c k) = freeK p c (k + 1) := by
  funext i; unfold updI freeK
  by_cases e : i = k
  · subst e; rw [if_pos rfl, if_pos (by omega)]
  · rw [if_neg e]
    by_cases h : i < k
    · rw [if_pos h, if_pos (by omega)]
    · rw [if_neg h, if_neg (by omega)]
theorem freeK_zero (p c : Nat → Int) : freeK p c 0 = p := by funext i; unfold freeK; rw [if_neg (by omega)]
theorem freeK_five (p c : Nat → Int) : freeK p c 5 = freeC p c := rfl
theorem freeK_at (p c : Nat → Int) (k : Nat) : freeK p c k k = p k := by unfold freeK; rw [if_neg (by omega)]
structure StF (w : World) (f c : Nat → Int) (wr : World) : Prop where
  p : ArrAt .i64 6 23 wr w.heap.size f
  c : ArrAt .i64 6 23 wr (w.heap.size + 1) c
  r : ArrAt .i64 6 23 wr (w.heap.size + 1 + 1) zeroC
  b : Below w.heap.size w wr
theorem StF.drewN {w wr : World} {f c : Nat → Int} (h : StF w f c wr) (n : Nat) : StF w f c (wr.drewN n) := ⟨h.p, h.c, h.r, below_drewN h.b n⟩
theorem StF.set_ {w wr : World} {f c : Nat → Int} (h : StF w f c wr) (j : Nat) (x : Int) : StF w (updI f j x) c (wr.setCell ⟨w.heap.size, j, none⟩ (.int .i64 x)) :=
  ⟨h.p.set_ j x, h.c.far (by simp) _, h.r.far (by simp; omega) _, h.b.setCell (by simp) _⟩
/-- .. but for the pool itself. -/
structure StG (w : World) (c : Nat → Int) (wr : World) : Prop where
  c : ArrAt .i64 6 23 wr (w.heap.size + 1) c
  r : ArrAt .i64 6 23 wr (w.heap.size + 1 + 1) zeroC
  b : Below w.heap.size w wr
theorem StF.g {w wr : World} {f c : Nat → Int} (h : StF w f c wr) : StG w c wr := ⟨h.c, h.r, h.b⟩
theorem boxes3 (w : World) (p c : Nat → Int) : ∃ w1, w1 = ((w.alloc (.cells (arr .i64 6 p) 23)).alloc (.cells (arr .i64 6 c) 23)).alloc (.cells (arr .i64 6 zeroC) 23) ∧ StF w p c w1 := by
  obtain ⟨w1, hw1, a1, a2, hb⟩ := boxes2 w p c
  have e : w1.heap.size = w.heap.size + 1 + 1 := by rw [hw1]; simp
  refine ⟨_, rfl, ?_⟩
  rw [← hw1]
  refine ⟨a1.alloc _, a2.alloc _, ?_, hb.alloc (by omega) _⟩
  have h := ArrAt.new w1 .i64 6 23 zeroC
  rw [e] at h
  exact h
set_option linter.unusedSimpArgs false in
set_option maxRecDepth 100000 in
set_option maxHeartbeats 1000000 in
theorem free_any (p c : Nat → Int) (w : World) (hp : GoodC p) (hc : GoodC c) : Calls Try.prog 21 #[.agg (arr .i64 6 p), .agg (arr .i64 6 c)] w fun e w' => e = .returned (.agg (arr .i64 6 (freeC p c))) ∧ Below w.heap.size w w' := by
  have hsz : ∀ g, (Try.prog.info? 23).map (·.size) = some (arr .i64 6 g).size := fun g => by rw [arr_size]; exact size6
  have h1 : ∀ g, (arr .i64 6 g).all (·.oneCell') = true := fun g => arr_one .i64 6 g
  have hz6 := zero6
  go_enter Try.func21, Try.ntmps21
  go_upto_region 1 with fail
  obtain ⟨w1, hw1, hs⟩ := boxes3 w p c
  rw [← hw1]
  clear hw1
  have HS := Lib.hid hs
  clear hs
  go_wp2_with fail
  go_loopw [6] (fun i wr => ∃ k : Nat, i = .int .i64 ((k : Nat) : Int) ∧ k ≤ 5 ∧ StF w (freeK p c k) c wr) (fun i _ => 5 - (intOf i).toNat)
  case atStart => exact ⟨0, rfl, by omega, by rw [freeK_zero]; exact HS.out⟩
  case round =>
    obtain ⟨k, rfl, hk, hs⟩ := hrel
    have HR := Lib.hid hs
    clear hs HS
    by_cases hlt : k < 5
    · obtain ⟨x0, x1⟩ := hp k (by omega)
      obtain ⟨y0, y1⟩ := hc k (by omega)
      have b0 : (0 : Int) ≤ (k : Int) := by omega
      have b1 : (k : Int) < 6 := by omega
      obtain ⟨x, hx⟩ : ∃ x, x = p k := ⟨_, rfl⟩
      obtain ⟨y, hy⟩ : ∃ y, y = c k := ⟨_, rfl⟩
      have HX := Lib.hid (show x = freeK p c k k by rw [freeK_at, hx])
      have HY := Lib.hid hy
      have HN := Lib.hid (show updI (freeK p c k) k (x - y) = freeK p c (k + 1) by rw [hx, hy]; exact freeK_next p c k)
      rw [← hx] at x0 x1
      rw [← hy] at y0 y1
      clear hx hy
      have s1 : IntKind.i64.wrap (x - y) = x - y := i64_in' (by omega) (by omega)
      have c2 : ∀ W, StG w c W → W.cell? ⟨w.heap.size + 1, k, none⟩ = some (.int .i64 y) := fun W hW => by rw [HY.out]; exact hW.c.cell (by omega)
      go_upto_region 4 with fail
      have hZ1 : StF w (freeK p c k) c wr.drew := HR.out.drewN 1
      refine wp_region_held_drew (S := StG w c) (by kernel_rfl) hZ1.g (fun hHeld => ?_)
      generalize wr.drew = W0 at hHeld hZ1 ⊢
      refine wpAnyH_take (i := 0) (v := ?_) rfl (by kernel_rfl) (by kernel_rfl) (by kernel_rfl) (fun _ _ _ h => h) (Or.inl ⟨by rfl, ?_⟩) hHeld ?_
      rotate_left
      · (intro w hSw; go_simp; (try with_reducible rfl))
      simp only [Act.put, List.getElem_toArray, List.getElem_cons_zero, List.getElem_cons_succ, List.setIfInBounds_toArray, List.set_cons_zero, List.set_cons_succ]
      refine wpAnyH_take (i := 1) (v := ?_) rfl (by kernel_rfl) (by kernel_rfl) (by kernel_rfl) (fun _ _ _ h => h) (Or.inl ⟨by rfl, ?_⟩) hHeld ?_
      rotate_left
      · (intro w hSw; go_simp; (try with_reducible rfl))
      simp only [Act.put, List.getElem_toArray, List.getElem_cons_zero, List.getElem_cons_succ, List.setIfInBounds_toArray, List.set_cons_zero, List.set_cons_succ]
      refine wpAnyH_take (i := 3) (v := ?_) rfl (by kernel_rfl) (by kernel_rfl) (by kernel_rfl) (fun _ _ _ h => h) (Or.inl ⟨by rfl, ?_⟩) hHeld ?_
      rotate_left
      · (intro w hSw; go_simp; (try with_reducible rfl))
      simp only [Act.put, List.getElem_toArray, List.getElem_cons_zero, List.getElem_cons_succ, List.setIfInBounds_toArray, List.set_cons_zero, List.set_cons_succ]
      refine wpAnyH_take (i := 4) (v := ?_) rfl (by kernel_rfl) (by kernel_rfl) (by kernel_rfl) (fun _ _ _ h => h) (Or.inl ⟨by rfl, ?_⟩) hHeld ?_
      rotate_left
      · (intro w hSw; go_simp; (try with_reducible rfl))
      simp only [Act.put, List.getElem_toArray, List.getElem_cons_zero, List.getElem_cons_succ, List.setIfInBounds_toArray, List.set_cons_zero, List.set_cons_succ]
      refine wpAnyH_take (i := 5) (v := ?_) rfl (by kernel_rfl) (by kernel_rfl) (by kernel_rfl) (fun _ _ _ h => h) (Or.inl ⟨by rfl, ?_⟩) hHeld ?_
      rotate_left
      · (intro w hSw; go_simp; (try with_reducible rfl))
      simp only [Act.put, List.getElem_toArray, List.getElem_cons_zero, List.getElem_cons_succ, List.setIfInBounds_toArray, List.set_cons_zero, List.set_cons_succ]
      have q1 := hZ1.p.cell (show k < 6 by omega)
      have q2 := hZ1.p.frozen k
      have hS8 := hZ1.set_ k (x - y)
      rw [HN.out] at hS8
      rw [← HX.out] at q1
      have HS8 := Lib.hid hS8
      refine wpAnyH_ready (rs := [2]) (by kernel_rfl) (by simp) ?_
      refine AllReadyH.cons rfl (fun K hK => ?_) AllReadyH.nil
      simp only [List.getElem_toArray, List.getElem_cons_zero, List.getElem_cons_succ]
      go_simp
      refine hK.out _ _ hHeld (fun _ => ?_)
      clear hK K
      try simp only [Act.put, List.setIfInBounds_toArray, List.set_cons_zero, List.set_cons_succ]
      refine wpAnyH_take (i := 6) (v := ?_) rfl (by kernel_rfl) (by kernel_rfl) (by kernel_rfl) (fun _ _ _ h => h) (Or.inl ⟨by rfl, ?_⟩) hHeld ?_
      rotate_left
      · (intro w hSw; go_simp; (try with_reducible rfl))
      simp only [Act.put, List.getElem_toArray, List.getElem_cons_zero, List.getElem_cons_succ, List.setIfInBounds_toArray, List.set_cons_zero, List.set_cons_succ]
      refine wpAnyH_take (i := 7) (v := ?_) rfl (by kernel_rfl) (by kernel_rfl) (by kernel_rfl) (fun _ _ _ h => h) (Or.inl ⟨by rfl, ?_⟩) hHeld ?_
      rotate_left
      · (intro w hSw; go_simp; (try with_reducible rfl))
      simp only [Act.put, List.getElem_toArray, List.getElem_cons_zero, List.getElem_cons_succ, List.setIfInBounds_toArray, List.set_cons_zero, List.set_cons_succ]
      refine wpAnyH_ready (rs := [8]) (by kernel_rfl) (by simp) ?_
      refine AllReadyH.cons rfl (fun K hK => ?_) AllReadyH.nil
      simp only [List.getElem_toArray, List.getElem_cons_zero, List.getElem_cons_succ]
      go_simp
      refine hK.out _ _ HS8.out.g (fun _ => ?_)
      clear hK K q1 q2 hHeld hZ1 c2 hS8
      refine wpAnyH_done (by kernel_rfl) ?_ _
      go_wp2_with fail
      go_roundw
      case rel => exact ⟨k + 1, by go_num, by omega, HS8.out⟩
      case measure => simp [intOf]; omega
    · obtain rfl : k = 5 := by omega
      have hs := HR.out
      rw [freeK_five] at hs
      go_wp2_with (first
        | (refine wpList_load_row rfl 23 (.tmp 2) rfl w.heap.size rfl 23 _ (0, 0) _ hs.p Try.underlying23 rfl (hsz (freeC p c)) ?_)
        | (refine wpList_store_row rfl 23 (.tmp 4) (.tmp 18) rfl (w.heap.size + 1 + 1) _ rfl rfl 23 (arr .i64 6 zeroC) hs.r (hsz (freeC p c)) (by rw [arr_size, arr_size]) (h1 (freeC p c)) ?_))
      refine bodyPost_ret (v := .agg (arr .i64 6 (freeC p c))) ?_ rfl ⟨rfl, below_setRow hs.b _ _ (by omega)⟩
      exact results_cell1 (ty := 23) (p := 4) (by kernel_rfl) _ _ (w.heap.size + 1 + 1) 23 _ (0, 0) _ rfl (hs.r.setRow _) Try.underlying23 rfl (hsz (freeC p c))
/-- The place that gives the next one. -/
def NextC (f : Nat → Int) (j : Nat) : Prop := (0 < f 5 ∧ j = 5) ∨ (¬ 0 < f 5 ∧ FirstMax f j)
def FirstK (f : Nat → Int) (k i : Nat) : Prop := i < 5 ∧ (∀ j, j < k → f j ≤ f i) ∧ ∀ j, j < i → f j < f i
theorem firstK_next {f : Nat → Int} {k i : Nat} (h : FirstK f k i) (hi : i < k ∨ i = 0) (hk : k < 5) : (f i < f k → FirstK f (k + 1) k) ∧ (¬ f i < f k → FirstK f (k + 1) i) := by
  refine ⟨fun hl => ⟨hk, fun j hj => ?_, fun j hj => ?_⟩, fun hl => ⟨h.1, fun j hj => ?_, h.2.2⟩⟩
  · by_cases e : j = k
    · subst e; omega
    · have := h.2.1 j (by omega); omega
  · have := h.2.1 j hj; omega
  · by_cases e : j = k
    · subst e; omega
    · exact h.2.1 j (by omega)
def URel (w2 : World) (f : Nat → Int) (t i : Value) (wr : World) : Prop :=
  ∃ k m : Nat, i = .int .i64 ((k : Nat) : Int) ∧ t = .int .i64 ((m : Nat) : Int) ∧ k ≤ 5 ∧ (m < k ∨ m = 0) ∧ FirstK f k m ∧ Below w2.heap.size w2 wr
set_option linter.unusedSimpArgs false in
set_option maxRecDepth 100000 in
set_option maxHeartbeats 1000000 in
theorem usual_any (f : Nat → Int) (w : World) : Calls Try.prog 22 #[.agg (arr .i64 6 f)] w fun e w' => ∃ j, NextC f j ∧ e = .returned (.int .i64 ((j : Nat) : Int)) ∧ Below w.heap.size w w' := by
  go_enter Try.func22, Try.ntmps22
  go_upto_region 1 with fail
  obtain ⟨w1, hw1⟩ : ∃ w1, w1 = w.alloc (.cells (arr .i64 6 f) 23) := ⟨_, rfl⟩
  have ha : ArrAt .i64 6 23 w1 w.heap.size f := by rw [hw1]; exact ArrAt.new w .i64 6 23 f
  have hb1 : Below w.heap.size w w1 := by rw [hw1]; exact (Below.refl _ _).alloc (Nat.le_refl _) _
  rw [← hw1]
  clear hw1
  have HA := Lib.hid ha
  clear ha
  have r5 := HA.out.cell (i := 5) (by omega)
  obtain ⟨z, hz⟩ : ∃ z, z = f 5 := ⟨_, rfl⟩
  rw [← hz] at r5
  have HZ := Lib.hid hz
  clear hz
  by_cases h5 : 0 < z
  · go_wp2_with fail
    go_ret
    exact ⟨5, .inl ⟨by rw [← HZ.out]; exact h5, rfl⟩, rfl, hb1⟩
  · go_wp2_with fail
    go_loopw [3, 8] (fun t i wr => URel w1 f t i wr) (fun _ i _ => 5 - (intOf i).toNat)
    case atStart => exact ⟨0, 0, rfl, rfl, by omega, .inr rfl, ⟨by omega, fun j hj => absurd hj (by omega), fun j hj => absurd hj (by omega)⟩, Below.refl _ _⟩
    case round =>
      obtain ⟨k, m, rfl, rfl, hk, hm, hF, hb⟩ := hrel
      have HF := Lib.hid hF
      clear hF r5
      by_cases hlt : k < 5
      · have r1 := (HA.out.keep hb).cell (show k < 6 by omega)
        have r2 := (HA.out.keep hb).cell (show m < 6 by omega)
        obtain ⟨n1, n2⟩ := firstK_next HF.out hm hlt
        have HN1 := Lib.hid n1
        have HN2 := Lib.hid n2
        clear n1 n2
        have b0 : (0 : Int) ≤ (k : Int) := by omega
        have b1 : (k : Int) < 6 := by omega
        have b2 : (0 : Int) ≤ (m : Int) := by omega
        have b3 : (m : Int) < 6 := by omega
        obtain ⟨x, hx⟩ : ∃ x, x = f k := ⟨_, rfl⟩
        obtain ⟨y, hy⟩ : ∃ y, y = f m := ⟨_, rfl⟩
        rw [← hx] at r1 HN1 HN2
        rw [← hy] at r2 HN1 HN2
        clear hx hy
        by_cases hxy : y < x
        · have hd : decide (y < x) = true := by simpa using hxy
          have HN := Lib.hid (HN1.out hxy)
          clear HN1 HN2
          go_wp2_with fail
          go_quiet (fail)
          go_wp2_with fail
          go_roundw
          case rel => exact ⟨k + 1, k, by go_num, rfl, by omega, .inl (by omega), HN.out, below_drewN hb _⟩
          case measure => simp [intOf]; omega
        · have hd : decide (y < x) = false := by simpa using hxy
          have HN := Lib.hid (HN2.out hxy)
          clear HN1 HN2
          go_wp2_with fail
          go_quiet (fail)
          go_wp2_with fail
          go_roundw
          case rel => exact ⟨k + 1, m, by go_num, rfl, by omega, by omega, HN.out, below_drewN hb _⟩
          case measure => simp [intOf]; omega
      · obtain rfl : k = 5 := by omega
        go_wp2_with fail
        go_ret
        exact ⟨m, .inr ⟨by rw [← HZ.out]; omega, HF.out⟩, rfl, keepB hb hb1⟩
def NoRoom (f : Nat → Int) (k : Nat) : Prop := ∀ j, j < k → ¬ 0 < f j
def RoRel (w1 : World) (f : Nat → Int) (i : Value) (wr : World) : Prop := ∃ k : Nat, i = .int .i64 ((k : Nat) : Int) ∧ k ≤ 6 ∧ NoRoom f k ∧ wr = w1
/-- The first place that may give something. -/
def FirstRoom (f : Nat → Int) (i : Int) : Prop := (∃ p : Nat, p < 6 ∧ i = (p : Int) ∧ 0 < f p) ∨ (NoRoom f 6 ∧ i = -1)
set_option linter.unusedSimpArgs false in
set_option maxRecDepth 100000 in
set_option maxHeartbeats 1000000 in
theorem firstRoom_any (f : Nat → Int) (w : World) : Calls Try.prog 28 #[.agg (arr .i64 6 f)] w fun e w' => ∃ j, FirstRoom f j ∧ e = .returned (.int .i64 j) ∧ Below w.heap.size w w' := by
  have hsz : (Try.prog.info? 23).map (·.size) = some (arr .i64 6 f).size := by rw [arr_size]; exact size6
  go_enter Try.func28, Try.ntmps28
  go_upto_region 1 with fail
  obtain ⟨w1, hw1⟩ : ∃ w1, w1 = w.alloc (.cells (arr .i64 6 f) 23) := ⟨_, rfl⟩
  have ha : ArrAt .i64 6 23 w1 w.heap.size f := by rw [hw1]; exact ArrAt.new w .i64 6 23 f
  have hb1 : Below w.heap.size w w1 := by rw [hw1]; exact (Below.refl _ _).alloc (Nat.le_refl _) _
  rw [← hw1]
  clear hw1
  go_upto_region 2 with (refine wpList_load_row rfl 23 (.tmp 1) rfl w.heap.size rfl 23 _ (0, 0) _ ha Try.underlying23 rfl hsz ?_)
  clear hsz ha
  go_loopw [6] (fun i wr => RoRel w1 f i wr) (fun i _ => 6 - (intOf i).toNat)
  case atStart => exact ⟨0, rfl, by omega, fun j hj => absurd hj (by omega), rfl⟩
  case round =>
    obtain ⟨k, rfl, hk, hg, rfl⟩ := hrel
    have HG := Lib.hid hg
    clear hg
    by_cases hlt : k < 6
    · have hix := index_cost f k hlt
      obtain ⟨x, hx⟩ : ∃ x, x = f k := ⟨_, rfl⟩
      rw [← hx] at hix
      have HX := Lib.hid hx
      clear hx
      by_cases hin : 0 < x
      · go_wp2_with fail
        go_ret
        exact ⟨k, .inl ⟨k, hlt, rfl, by rw [← HX.out]; exact hin⟩, rfl, hb1⟩
      · have HN := Lib.hid (show NoRoom f (k + 1) from fun j hj => by
          by_cases e : j = k
          · subst e; rw [← HX.out]; exact hin
          · exact HG.out j (by omega))
        go_wp2_with fail
        go_roundw
        case rel => exact ⟨k + 1, by go_num, by omega, HN.out, rfl⟩
        case measure => simp [intOf]; omega
    · obtain rfl : k = 6 := by omega
      go_wp2_with fail
      go_ret
      exact ⟨-1, .inr ⟨HG.out, rfl⟩, rfl, hb1⟩
end Go.Proofs.Ytfnlkadcidfhoaa
