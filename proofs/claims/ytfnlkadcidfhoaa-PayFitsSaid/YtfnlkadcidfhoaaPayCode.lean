/- Layer 5: Pay of the landed code. -/
import Derived.Test.YtfnlkadcidfhoaaPaySum
namespace Go.Proofs.Ytfnlkadcidfhoaa
open Go.RowKit Mx Yx
attribute [local go_sem] arr_get
/-- The pool, the cost, the rest, what is paid. -/
structure StQ (w : World) (p c r q : Nat → Int) (wr : World) : Prop where
  p : ArrAt .i64 6 23 wr w.heap.size p
  c : ArrAt .i64 6 23 wr (w.heap.size + 1) c
  r : ArrAt .i64 6 23 wr (w.heap.size + 1 + 1) r
  q : ArrAt .i64 6 23 wr (w.heap.size + 1 + 1 + 1) q
  b : Below w.heap.size w wr
theorem StQ.keep {w wr wy : World} {p c r q : Nat → Int} (h : StQ w p c r q wr) (hb : Below wr.heap.size wr wy) : StQ w p c r q wy :=
  ⟨h.p.keep hb, h.c.keep hb, h.r.keep hb, h.q.keep hb, keepB hb h.b⟩
theorem StQ.drewN {w wr : World} {p c r q : Nat → Int} (h : StQ w p c r q wr) (n : Nat) : StQ w p c r q (wr.drewN n) := ⟨h.p, h.c, h.r, h.q, below_drewN h.b n⟩
theorem StQ.rowR {w wr : World} {p c r q : Nat → Int} (h : StQ w p c r q wr) (g : Nat → Int) : StQ w p c g q (wr.setRow (w.heap.size + 1 + 1) (arr .i64 6 g)) :=
  ⟨h.p.farRow (by omega) _, h.c.farRow (by omega) _, h.r.setRow g, h.q.farRow (by omega) _, below_setRow h.b _ _ (by omega)⟩
theorem StQ.rowQ {w wr : World} {p c r q : Nat → Int} (h : StQ w p c r q wr) (g : Nat → Int) : StQ w p c r g (wr.setRow (w.heap.size + 1 + 1 + 1) (arr .i64 6 g)) :=
  ⟨h.p.farRow (by omega) _, h.c.farRow (by omega) _, h.r.farRow (by omega) _, h.q.setRow g, below_setRow h.b _ _ (by omega)⟩
theorem StQ.setR {w wr : World} {p c r q : Nat → Int} (h : StQ w p c r q wr) (j : Nat) (x : Int) : StQ w p c (updI r j x) q (wr.setCell ⟨w.heap.size + 1 + 1, j, none⟩ (.int .i64 x)) :=
  ⟨h.p.far (by simp; omega) _, h.c.far (by simp) _, h.r.set_ j x, h.q.far (by simp) _, h.b.setCell (by simp; omega) _⟩
theorem StQ.setQ {w wr : World} {p c r q : Nat → Int} (h : StQ w p c r q wr) (j : Nat) (x : Int) : StQ w p c r (updI q j x) (wr.setCell ⟨w.heap.size + 1 + 1 + 1, j, none⟩ (.int .i64 x)) :=
  ⟨h.p.far (by simp; omega) _, h.c.far (by simp) _, h.r.far (by simp) _, h.q.set_ j x, h.b.setCell (by simp; omega) _⟩
theorem StQ.congrR {w wr : World} {p c r r' q : Nat → Int} (h : StQ w p c r q wr) (e : ∀ i, i < 6 → r i = r' i) : StQ w p c r' q wr := ⟨h.p, h.c, h.r.congr e, h.q, h.b⟩
/-- .. but for what is paid. -/
structure StH (w : World) (p r : Nat → Int) (wr : World) : Prop where
  p : ArrAt .i64 6 23 wr w.heap.size p
  r : ArrAt .i64 6 23 wr (w.heap.size + 1 + 1) r
theorem StQ.h {w wr : World} {p c r q : Nat → Int} (h : StQ w p c r q wr) : StH w p r wr := ⟨h.p, h.r⟩
theorem boxes4 (w : World) (p c : Nat → Int) : ∃ w1, w1 = (((w.alloc (.cells (arr .i64 6 p) 23)).alloc (.cells (arr .i64 6 c) 23)).alloc (.cells (arr .i64 6 zeroC) 23)).alloc (.cells (arr .i64 6 zeroC) 23) ∧ StQ w p c zeroC zeroC w1 := by
  obtain ⟨w1, hw1, h⟩ := boxes3 w p c
  have e : w1.heap.size = w.heap.size + 1 + 1 + 1 := by rw [hw1]; simp
  refine ⟨_, rfl, ?_⟩
  rw [← hw1]
  refine ⟨h.p.alloc _, h.c.alloc _, h.r.alloc _, ?_, h.b.alloc (by omega) _⟩
  have h := ArrAt.new w1 .i64 6 23 zeroC
  rw [e] at h
  exact h
def lessF (p q : Nat → Int) : Nat → Int := fun i => p i - q i
theorem less_start {p c : Nat → Int} : ∀ i, i < 6 → freeC p c i = lessF p (updI c 5 0) i := fun i hi => by
  unfold freeC lessF updI
  by_cases e : i = 5
  · subst e; rw [if_neg (by omega), if_pos rfl]; omega
  · rw [if_pos (by omega), if_neg e]
theorem less_next (p q : Nat → Int) (j : Nat) : updI (lessF p q) j (lessF p q j - 1) = lessF p (updI q j (q j + 1)) := by
  funext i; unfold updI lessF
  by_cases e : i = j
  · subst e; simp; omega
  · simp [e]
theorem next_pay {p q : Nat → Int} {j : Nat} (h : NextC (lessF p q) j) : j < 6 ∧ PayS p q (updI q j (q j + 1)) := by
  rcases h with ⟨h, rfl⟩ | ⟨h, hF⟩
  · exact ⟨by omega, .inl ⟨by unfold lessF at h; omega, rfl⟩⟩
  · exact ⟨by have := hF.1; omega, .inr ⟨by unfold lessF at h; omega, j, hF, rfl⟩⟩
theorem less_wide {p c q : Nat → Int} {k : Int} (hc : CanC p c) (h : PayI p c k q) : ∀ i, i < 6 → 0 ≤ lessF p q i ∧ lessF p q i ≤ 1000 := fun i hi => by
  have h1 := hc.1 i hi
  have h3 := hc.2.1 i hi
  unfold lessF
  by_cases e : i < 5
  · have h2 := h.col i e; omega
  · obtain rfl : i = 5 := by omega
    have h2 := h.rest; omega
theorem paid_all (p q : Nat → Int) : ∀ i, i < 6 → restF p (lessF p q) 6 i = q i := fun i hi => by
  unfold restF lessF; rw [if_pos hi]; omega
def PRel (w : World) (p c : Nat → Int) (i : Value) (wr : World) : Prop := ∃ (k : Nat) (q : Nat → Int), i = .int .i64 ((k : Nat) : Int) ∧ (k : Int) ≤ c 5 ∧ PayN p (updI c 5 0) k q ∧ StQ w p c (lessF p q) zeroC wr
def HeldP (w : World) (r q : Nat → Int) (W : World) : Prop := ArrAt .i64 6 23 W (w.heap.size + 1 + 1) r ∧ ArrAt .i64 6 23 W (w.heap.size + 1 + 1 + 1) q ∧ Below w.heap.size w W
set_option linter.unusedSimpArgs false in
set_option maxRecDepth 100000 in
set_option maxHeartbeats 1000000 in
theorem pay_any (p c : Nat → Int) (w : World) (hp : Wide p) (hc : Wide c) : Calls Try.prog 8 #[.agg (arr .i64 6 p), .agg (arr .i64 6 c)] w (PayPost p c errV w) := by
  have hsz : ∀ g, (Try.prog.info? 23).map (·.size) = some (arr .i64 6 g).size := fun g => by rw [arr_size]; exact size6
  have h1 : ∀ g, (arr .i64 6 g).all (·.oneCell') = true := fun g => arr_one .i64 6 g
  have hz6 := zero6
  go_enter Try.func8, Try.ntmps8
  go_upto_region 1 with fail
  obtain ⟨w1, hw1, hs⟩ := boxes4 w p c
  rw [← hw1]
  clear hw1
  go_wp2_with (first
    | (refine wpList_load_row rfl 23 (.tmp 2) rfl w.heap.size rfl 23 _ (0, 0) _ hs.p Try.underlying23 rfl (hsz p) ?_)
    | (refine wpList_load_row rfl 23 (.tmp 3) rfl (w.heap.size + 1) rfl 23 _ (0, 0) _ hs.c Try.underlying23 rfl (hsz c) ?_))
  obtain ⟨B, hB, hC⟩ := truth_both (bothGood_any p c w1 hp hc)
  refine hC.mono ?_
  rintro e w2 ⟨rfl, hb2⟩
  have hs2 := hs.keep hb2
  clear hb2 hs
  by_cases hg : GoodC p ∧ GoodC c
  · obtain rfl : B = true := hB.2 hg
    clear hB hC
    go_wp2_with (first
      | (refine wpList_load_row rfl 23 (.tmp 2) rfl w.heap.size rfl 23 _ (0, 0) _ hs2.p Try.underlying23 rfl (hsz p) ?_)
      | (refine wpList_load_row rfl 23 (.tmp 3) rfl (w.heap.size + 1) rfl 23 _ (0, 0) _ hs2.c Try.underlying23 rfl (hsz c) ?_))
    obtain ⟨B, hB, hC⟩ := truth_both (covers_any p c w2 hg.1 hg.2)
    refine hC.mono ?_
    rintro e w3 ⟨rfl, hb3⟩
    have hs3 := hs2.keep hb3
    clear hb3 hs2
    by_cases hcan : CanC p c
    · obtain rfl : B = true := hB.2 hcan
      clear hB hC
      have HCan := Lib.hid hcan
      have HG := Lib.hid hg
      clear hcan hg
      go_wp2_with (first
        | (refine wpList_load_row rfl 23 (.tmp 2) rfl w.heap.size rfl 23 _ (0, 0) _ hs3.p Try.underlying23 rfl (hsz p) ?_)
        | (refine wpList_load_row rfl 23 (.tmp 3) rfl (w.heap.size + 1) rfl 23 _ (0, 0) _ hs3.c Try.underlying23 rfl (hsz c) ?_))
      refine (free_any p c w3 HG.out.1 HG.out.2).mono ?_
      rintro e w4 ⟨rfl, hb4⟩
      have hs4 := hs3.keep hb4
      clear hb4 hs3
      have HS5 := Lib.hid ((hs4.rowR (freeC p c)).congrR less_start)
      go_upto_region 6 with (refine wpList_store_row rfl 23 (.tmp 4) (.tmp 24) rfl (w.heap.size + 1 + 1) _ rfl rfl 23 (arr .i64 6 zeroC) hs4.r (hsz (freeC p c)) (by rw [arr_size, arr_size]) (h1 (freeC p c)) ?_)
      obtain ⟨w5, hw5⟩ : ∃ w5, w5 = w4.setRow (w.heap.size + 1 + 1) (arr .i64 6 (freeC p c)) := ⟨_, rfl⟩
      rw [← hw5] at HS5 ⊢
      clear hw5 hs4
      have r5 := HS5.out.c.cell (i := 5) (by omega)
      obtain ⟨y0, y1⟩ := HG.out.2 5 (by omega)
      obtain ⟨m, hm⟩ : ∃ m, m = c 5 := ⟨_, rfl⟩
      rw [← hm] at r5 y0 y1
      have HM := Lib.hid hm
      clear hm
      go_upto_region 7 with fail
      clear r5
      go_loopw [27] (fun i wr => PRel w p c i wr) (fun i _ => (m - intOf i).toNat)
      case atStart => exact ⟨0, _, rfl, by rw [← HM.out]; omega, .zero, HS5.out⟩
      case round =>
        obtain ⟨k, q, rfl, hk, hN, hs⟩ := hrel
        rw [← HM.out] at hk
        have HN := Lib.hid hN
        have HS := Lib.hid hs
        clear hN hs HS5
        have hI := payN_inv HCan.out HN.out (by rw [← HM.out]; exact hk)
        have hW := less_wide HCan.out hI
        have HW := Lib.hid hW
        clear hW hI
        by_cases hlt : (k : Int) < m
        · have hr := HS.out.r
          go_upto_region 8 with fail
          go_wp2_with (refine wpList_load_row rfl 23 (.tmp 4) rfl (w.heap.size + 1 + 1) rfl 23 _ (0, 0) _ hr Try.underlying23 rfl (hsz (lessF p q)) ?_)
          refine (usual_any (lessF p q) _).mono ?_
          rintro e w6 ⟨j, hnx, rfl, hb6⟩
          obtain ⟨hj, hPS⟩ := next_pay hnx
          obtain ⟨x0, x1⟩ := HW.out j hj
          have HPS := Lib.hid hPS
          have HS6 := Lib.hid (HS.out.keep hb6)
          clear hnx hPS hr hb6 HS
          have q1 := HS6.out.r.cell hj
          have q2 := HS6.out.r.frozen j
          obtain ⟨x, hx⟩ : ∃ x, x = lessF p q j := ⟨_, rfl⟩
          rw [← hx] at q1 x0 x1
          have HS7 := Lib.hid (show StQ w p c (lessF p (updI q j (q j + 1))) zeroC (w6.setCell ⟨w.heap.size + 1 + 1, j, none⟩ (.int .i64 (x - 1))) by
            have h := HS6.out.setR j (x - 1)
            rw [hx, less_next] at h
            rw [hx]; exact h)
          clear hx
          have b0 : (0 : Int) ≤ (j : Int) := by omega
          have b1 : (j : Int) < 6 := by omega
          go_wp2_with fail
          go_roundw
          case rel => exact ⟨k + 1, _, by go_num, by rw [← HM.out]; omega, .succ HN.out HPS.out, HS7.out⟩
          case measure => simp [intOf]; omega
        · have hkm : m = (k : Int) := by omega
          have HPR := Lib.hid (show PayR p c (lessF p q) q 0 from .inr (.inr ⟨HCan.out, by rw [← HM.out, hkm, Int.toNat_natCast]; exact HN.out, fun i _ => rfl, rfl⟩))
          have hd : decide ((k : Int) < m) = false := by simp; omega
          clear hkm
          go_upto_region 11 with fail
          go_loopw [36] (fun i wz => ∃ t : Nat, i = .int .i64 ((t : Nat) : Int) ∧ t ≤ 6 ∧ StQ w p c (lessF p q) (restF p (lessF p q) t) wz) (fun i _ => 6 - (intOf i).toNat)
          case atStart => exact ⟨0, rfl, by omega, ⟨HS.out.p, HS.out.c, HS.out.r, HS.out.q.congr (fun i _ => by unfold restF; rw [if_neg (by omega)]; rfl), HS.out.b⟩⟩
          case round =>
            obtain ⟨t, rfl, ht, hz⟩ := hrel
            have HZ := Lib.hid hz
            clear hz HS
            by_cases hlt6 : t < 6
            · obtain ⟨x0, x1⟩ := HG.out.1 t hlt6
              obtain ⟨y0, y1⟩ := HW.out t hlt6
              obtain ⟨x, hx⟩ : ∃ x, x = p t := ⟨_, rfl⟩
              obtain ⟨y, hy⟩ : ∃ y, y = lessF p q t := ⟨_, rfl⟩
              rw [← hx] at x0 x1
              rw [← hy] at y0 y1
              have b0 : (0 : Int) ≤ (t : Int) := by omega
              have b1 : (t : Int) < 6 := by omega
              have s1 : IntKind.i64.wrap (x - y) = x - y := i64_in' (by omega) (by omega)
              have c1 : ∀ W, StH w p (lessF p q) W → W.cell? ⟨w.heap.size, t, none⟩ = some (.int .i64 x) := fun W hW => by rw [hx]; exact hW.p.cell hlt6
              have c2 : ∀ W, StH w p (lessF p q) W → W.cell? ⟨w.heap.size + 1 + 1, t, none⟩ = some (.int .i64 y) := fun W hW => by rw [hy]; exact hW.r.cell hlt6
              have HN2 := Lib.hid (show updI (restF p (lessF p q) t) t (x - y) = restF p (lessF p q) (t + 1) by rw [hx, hy]; exact restF_next _ _ _)
              clear hx hy
              go_upto_region 13 with fail
              have hZ1 : StQ w p c (lessF p q) (restF p (lessF p q) t) _ := HZ.out.drewN 1
              refine wp_region_held_drew (S := StH w p (lessF p q)) (by kernel_rfl) hZ1.h (fun hHeld => ?_)
              change StQ w p c (lessF p q) (restF p (lessF p q) t) (World.drew _) at hZ1
              generalize World.drew _ = W0 at hHeld hZ1 ⊢
              refine wpAnyH_take (i := 0) (v := ?_) rfl (by kernel_rfl) (by kernel_rfl) (by kernel_rfl) (fun _ _ _ h => h) (Or.inl ⟨by rfl, ?_⟩) hHeld ?_
              rotate_left
              · (intro w hSw; go_simp; (try with_reducible rfl))
              simp only [Act.put, List.getElem_toArray, List.getElem_cons_zero, List.getElem_cons_succ, List.setIfInBounds_toArray, List.set_cons_zero, List.set_cons_succ]
              refine wpAnyH_take (i := 1) (v := ?_) rfl (by kernel_rfl) (by kernel_rfl) (by kernel_rfl) (fun _ _ _ h => h) (Or.inl ⟨by rfl, ?_⟩) hHeld ?_
              rotate_left
              · (intro w hSw; go_simp; (try with_reducible rfl))
              simp only [Act.put, List.getElem_toArray, List.getElem_cons_zero, List.getElem_cons_succ, List.setIfInBounds_toArray, List.set_cons_zero, List.set_cons_succ]
              refine wpAnyH_take (i := 2) (v := ?_) rfl (by kernel_rfl) (by kernel_rfl) (by kernel_rfl) (fun _ _ _ h => h) (Or.inl ⟨by rfl, ?_⟩) hHeld ?_
              rotate_left
              · (intro w hSw; go_simp; (try with_reducible rfl))
              simp only [Act.put, List.getElem_toArray, List.getElem_cons_zero, List.getElem_cons_succ, List.setIfInBounds_toArray, List.set_cons_zero, List.set_cons_succ]
              refine wpAnyH_take (i := 3) (v := ?_) rfl (by kernel_rfl) (by kernel_rfl) (by kernel_rfl) (fun _ _ _ h => h) (Or.inl ⟨by rfl, ?_⟩) hHeld ?_
              rotate_left
              · (intro w hSw; go_simp; (try with_reducible rfl))
              simp only [Act.put, List.getElem_toArray, List.getElem_cons_zero, List.getElem_cons_succ, List.setIfInBounds_toArray, List.set_cons_zero, List.set_cons_succ]
              refine wpAnyH_take (i := 4) (v := ?_) rfl (by kernel_rfl) (by kernel_rfl) (by kernel_rfl) (fun _ _ _ h => h) (Or.inl ⟨by rfl, ?_⟩) hHeld ?_
              rotate_left
              · (intro w hSw; go_simp; (try with_reducible rfl))
              simp only [Act.put, List.getElem_toArray, List.getElem_cons_zero, List.getElem_cons_succ, List.setIfInBounds_toArray, List.set_cons_zero, List.set_cons_succ]
              refine wpAnyH_take (i := 5) (v := ?_) rfl (by kernel_rfl) (by kernel_rfl) (by kernel_rfl) (fun _ _ _ h => h) (Or.inl ⟨by rfl, ?_⟩) hHeld ?_
              rotate_left
              · (intro w hSw; go_simp; (try with_reducible rfl))
              simp only [Act.put, List.getElem_toArray, List.getElem_cons_zero, List.getElem_cons_succ, List.setIfInBounds_toArray, List.set_cons_zero, List.set_cons_succ]
              refine wpAnyH_take (i := 6) (v := ?_) rfl (by kernel_rfl) (by kernel_rfl) (by kernel_rfl) (fun _ _ _ h => h) (Or.inl ⟨by rfl, ?_⟩) hHeld ?_
              rotate_left
              · (intro w hSw; go_simp; (try with_reducible rfl))
              simp only [Act.put, List.getElem_toArray, List.getElem_cons_zero, List.getElem_cons_succ, List.setIfInBounds_toArray, List.set_cons_zero, List.set_cons_succ]
              refine wpAnyH_take (i := 7) (v := ?_) rfl (by kernel_rfl) (by kernel_rfl) (by kernel_rfl) (fun _ _ _ h => h) (Or.inl ⟨by rfl, ?_⟩) hHeld ?_
              rotate_left
              · (intro w hSw; go_simp; (try with_reducible rfl))
              simp only [Act.put, List.getElem_toArray, List.getElem_cons_zero, List.getElem_cons_succ, List.setIfInBounds_toArray, List.set_cons_zero, List.set_cons_succ]
              refine wpAnyH_take (i := 8) (v := ?_) rfl (by kernel_rfl) (by kernel_rfl) (by kernel_rfl) (fun _ _ _ h => h) (Or.inl ⟨by rfl, ?_⟩) hHeld ?_
              rotate_left
              · (intro w hSw; go_simp; (try with_reducible rfl))
              simp only [Act.put, List.getElem_toArray, List.getElem_cons_zero, List.getElem_cons_succ, List.setIfInBounds_toArray, List.set_cons_zero, List.set_cons_succ]
              have q1 := hZ1.q.cell hlt6
              have q2 := hZ1.q.frozen t
              have hS8 := hZ1.setQ t (x - y)
              rw [HN2.out] at hS8
              have HS8 := Lib.hid hS8
              refine wpAnyH_ready (rs := [9]) (by kernel_rfl) (by simp) ?_
              refine AllReadyH.cons rfl (fun K hK => ?_) AllReadyH.nil
              simp only [List.getElem_toArray, List.getElem_cons_zero, List.getElem_cons_succ]
              go_simp
              refine hK.out _ _ HS8.out.h (fun _ => ?_)
              clear hK K q1 q2 hHeld hZ1 c1 c2 hS8
              refine wpAnyH_done (by kernel_rfl) ?_ _
              go_wp2_with fail
              go_roundw
              case rel => exact ⟨t + 1, by go_num, by omega, HS8.out⟩
              case measure => simp [intOf]; omega
            · obtain rfl : t = 6 := by omega
              go_upto_region 15 with fail
              have hZ1 : StQ w p c (lessF p q) q wr.drew := ⟨HZ.out.p, HZ.out.c, HZ.out.r, HZ.out.q.congr (paid_all p q), below_drewN HZ.out.b 1⟩
              refine wp_region_held_drew (S := HeldP w (lessF p q) q) (by kernel_rfl) ⟨hZ1.r, hZ1.q, hZ1.b⟩ (fun hHeld => ?_)
              generalize wr.drew = W0 at hHeld hZ1 ⊢
              refine wpAnyH_take (i := 0) (v := .agg (arr .i64 6 (lessF p q))) rfl (by kernel_rfl) (by kernel_rfl) (by kernel_rfl) (fun _ _ _ h => h) (yieldsIf_load (by rfl) 23 (.tmp 4) rfl (w.heap.size + 1 + 1) rfl (fun W hW => hW.1) Try.underlying23 size6) hHeld ?_
              simp only [Act.put, List.getElem_toArray, List.getElem_cons_zero, List.getElem_cons_succ, List.setIfInBounds_toArray, List.set_cons_zero, List.set_cons_succ]
              refine wpAnyH_take (i := 1) (v := .agg (arr .i64 6 q)) rfl (by kernel_rfl) (by kernel_rfl) (by kernel_rfl) (fun _ _ _ h => h) (yieldsIf_load (by rfl) 23 (.tmp 5) rfl (w.heap.size + 1 + 1 + 1) rfl (fun W hW => hW.2.1) Try.underlying23 size6) hHeld ?_
              simp only [Act.put, List.getElem_toArray, List.getElem_cons_zero, List.getElem_cons_succ, List.setIfInBounds_toArray, List.set_cons_zero, List.set_cons_succ]
              refine wpAnyH_ready (rs := [2]) (by kernel_rfl) (by simp) ?_
              refine AllReadyH.cons rfl (fun K hK => ?_) AllReadyH.nil
              simp only [List.getElem_toArray, List.getElem_cons_zero, List.getElem_cons_succ]
              refine wp_store_row 23 (.tmp 4) (.tmp 49) rfl (w.heap.size + 1 + 1) _ rfl rfl 23 _ hZ1.r (hsz _) rfl (h1 _) ?_
              have hZ2 := hZ1.rowR (lessF p q)
              refine hK.out _ _ ⟨hZ2.r, hZ2.q, hZ2.b⟩ (fun _ => ?_)
              clear hK K
              try simp only [Act.put, List.setIfInBounds_toArray, List.set_cons_zero, List.set_cons_succ]
              generalize W0.setRow (w.heap.size + 1 + 1) (arr .i64 6 (lessF p q)) = W2 at hZ2 ⊢
              refine wpAnyH_ready (rs := [3]) (by kernel_rfl) (by simp) ?_
              refine AllReadyH.cons rfl (fun K hK => ?_) AllReadyH.nil
              simp only [List.getElem_toArray, List.getElem_cons_zero, List.getElem_cons_succ]
              refine wp_store_row 23 (.tmp 5) (.tmp 50) rfl (w.heap.size + 1 + 1 + 1) _ rfl rfl 23 _ hZ2.q (hsz _) rfl (h1 _) ?_
              have hZ3 := hZ2.rowQ q
              have hS3 : HeldP w (lessF p q) q (W2.setRow (w.heap.size + 1 + 1 + 1) (arr .i64 6 q)) := ⟨hZ3.r, hZ3.q, hZ3.b⟩
              refine hK.out _ _ hS3 (fun _ => ?_)
              clear hK K
              try simp only [Act.put, List.setIfInBounds_toArray, List.set_cons_zero, List.set_cons_succ]
              have hHeld := hS3
              refine wpAnyH_take (i := 4) (v := ?_) rfl (by kernel_rfl) (by kernel_rfl) (by kernel_rfl) (fun _ _ _ h => h) (Or.inl ⟨by rfl, ?_⟩) hHeld ?_
              rotate_left
              · (intro w hSw; go_simp; (try with_reducible rfl))
              simp only [Act.put, List.getElem_toArray, List.getElem_cons_zero, List.getElem_cons_succ, List.setIfInBounds_toArray, List.set_cons_zero, List.set_cons_succ]
              refine wpAnyH_done (by kernel_rfl) ?_ _
              go_wp2_with fail
              refine bodyPost_ret (v := .tuple #[.agg (arr .i64 6 (lessF p q)), .agg (arr .i64 6 q), .nilIface]) ?_ rfl ⟨_, _, 0, HPR.out, rfl, hS3.2.2⟩
              exact results_two (ty := 23) (p := 4) (p2 := 5) (q := 6) (by kernel_rfl) _ _ (w.heap.size + 1 + 1) (w.heap.size + 1 + 1 + 1) 23 23 _ _ (0, 0) (0, 0) _ rfl hZ3.r rfl hZ3.q Try.underlying23 rfl (hsz _) (hsz _)
    · obtain rfl : B = false := by cases h : B; rfl; exact absurd (hB.1 h) hcan
      clear hB hC
      go_wp2_with (first
        | (refine wpList_store_row rfl 23 (.tmp 4) (.tmp 19) rfl (w.heap.size + 1 + 1) _ rfl rfl 23 (arr .i64 6 zeroC) hs3.r (hsz zeroC) rfl (h1 zeroC) ?_)
        | (refine wpList_store_row rfl 23 (.tmp 5) (.tmp 20) rfl (w.heap.size + 1 + 1 + 1) _ rfl rfl 23 (arr .i64 6 zeroC) (hs3.rowR zeroC).q (hsz zeroC) rfl (h1 zeroC) ?_))
      refine bodyPost_ret (v := .tuple #[.agg (arr .i64 6 zeroC), .agg (arr .i64 6 zeroC), .iface 41 (.int .i64 10)]) ?_ rfl ⟨zeroC, zeroC, 10, .inr (.inl ⟨hg, hcan, rfl, rfl, rfl⟩), rfl, ((hs3.rowR zeroC).rowQ zeroC).b⟩
      exact results_two (ty := 23) (p := 4) (p2 := 5) (q := 6) (by kernel_rfl) _ _ (w.heap.size + 1 + 1) (w.heap.size + 1 + 1 + 1) 23 23 _ _ (0, 0) (0, 0) _ rfl ((hs3.rowR zeroC).rowQ zeroC).r rfl ((hs3.rowR zeroC).rowQ zeroC).q Try.underlying23 rfl (hsz zeroC) (hsz zeroC)
  · obtain rfl : B = false := by cases h : B; rfl; exact absurd (hB.1 h) hg
    clear hB hC
    go_wp2_with (first
      | (refine wpList_store_row rfl 23 (.tmp 4) (.tmp 12) rfl (w.heap.size + 1 + 1) _ rfl rfl 23 (arr .i64 6 zeroC) hs2.r (hsz zeroC) rfl (h1 zeroC) ?_)
      | (refine wpList_store_row rfl 23 (.tmp 5) (.tmp 13) rfl (w.heap.size + 1 + 1 + 1) _ rfl rfl 23 (arr .i64 6 zeroC) (hs2.rowR zeroC).q (hsz zeroC) rfl (h1 zeroC) ?_))
    refine bodyPost_ret (v := .tuple #[.agg (arr .i64 6 zeroC), .agg (arr .i64 6 zeroC), .iface 41 (.int .i64 2)]) ?_ rfl ⟨zeroC, zeroC, 2, .inl ⟨hg, rfl, rfl, rfl⟩, rfl, ((hs2.rowR zeroC).rowQ zeroC).b⟩
    exact results_two (ty := 23) (p := 4) (p2 := 5) (q := 6) (by kernel_rfl) _ _ (w.heap.size + 1 + 1) (w.heap.size + 1 + 1 + 1) 23 23 _ _ (0, 0) (0, 0) _ rfl ((hs2.rowR zeroC).rowQ zeroC).r rfl ((hs2.rowR zeroC).rowQ zeroC).q Try.underlying23 rfl (hsz zeroC) (hsz zeroC)
end Go.Proofs.Ytfnlkadcidfhoaa
