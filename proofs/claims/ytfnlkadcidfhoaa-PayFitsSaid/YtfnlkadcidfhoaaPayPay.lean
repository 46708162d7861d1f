/- Layer 5: the reference's Pay. -/
import Derived.Test.YtfnlkadcidfhoaaPayIs
namespace Go.Proofs.Ytfnlkadcidfhoaa
open Go.RowKit Mx Yx
attribute [local go_sem] arr_get
/-- Two whole arrays, and one number, as results. -/
theorem results_two {P : Program} {fn : Func} {p p2 q : Tmp} {ty : TypeId} (h : fn.results = #[.cell p ty, .cell p2 ty, .tmp q]) (tmps : Array Value) (w : World) (g g2 : Nat) (t t2 : TypeId) (cs cs2 : Array Value) (fr fr2 : Nat × Nat) (d : TypeDesc)
    (hp : tmps.getD p undef = .pointer (some ⟨g, 0, none⟩)) (hg : w.heap[g]? = some (.cells cs t fr)) (hp2 : tmps.getD p2 undef = .pointer (some ⟨g2, 0, none⟩)) (hg2 : w.heap[g2]? = some (.cells cs2 t2 fr2))
    (hu : P.underlying ty = some d) (hd : (match d with | .struct _ | .array _ _ => true | _ => false) = true) (hi : (P.info? ty).map (·.size) = some cs.size) (hi2 : (P.info? ty).map (·.size) = some cs2.size) :
    (results fn tmps).run P w = .ok (.tuple #[.agg cs, .agg cs2, tmps.getD q undef]) w := by
  have hp' : tmps[p]?.getD undef = .pointer (some ⟨g, 0, none⟩) := by simpa using hp
  have hp2' : tmps[p2]?.getD undef = .pointer (some ⟨g2, 0, none⟩) := by simpa using hp2
  simp [results, h, hp', hp2', asAddr, run_loadVar_row w g t ty cs fr d hg hu hd hi, run_loadVar_row w g2 t2 ty cs2 fr2 d hg2 hu hd hi2]
def PayPost (pool cost : Nat → Int) (err : Int → Value) (w : World) (e : Ending) (w' : World) : Prop :=
  ∃ r p k, PayR pool cost r p k ∧ e = .returned (.tuple #[.agg (arr .i64 6 r), .agg (arr .i64 6 p), err k]) ∧ Below w.heap.size w w'
/-- What stands in memory while it is paid. -/
structure StY (w : World) (pool cost : Nat → Int) (P : Nat) (q : Nat → Int) (wr : World) : Prop where
  c : ArrAt .i64 6 23 wr P q
  pool : ArrAt .i64 6 23 wr w.heap.size pool
  cost : ArrAt .i64 6 23 wr (w.heap.size + 1) cost
  r : ArrAt .i64 6 23 wr (w.heap.size + 1 + 1) zeroC
  p : ArrAt .i64 6 23 wr (w.heap.size + 1 + 1 + 1) zeroC
  b : Below w.heap.size w wr
theorem StY.keep {w wr wy : World} {pool cost q : Nat → Int} {P : Nat} (h : StY w pool cost P q wr) (hb : Below wr.heap.size wr wy) : StY w pool cost P q wy :=
  ⟨h.c.keep hb, h.pool.keep hb, h.cost.keep hb, h.r.keep hb, h.p.keep hb, h.b.trans (hb.mono h.b.size)⟩
theorem StY.set_ {w wr : World} {pool cost q : Nat → Int} {P : Nat} (h : StY w pool cost P q wr) (hP : w.heap.size + 1 + 1 + 1 < P) (j : Nat) (x : Int) : StY w pool cost P (updI q j x) (wr.setCell ⟨P, j, none⟩ (.int .i64 x)) :=
  ⟨h.c.set_ j x, h.pool.far (by simp; omega) _, h.cost.far (by simp; omega) _, h.r.far (by simp; omega) _, h.p.far (by simp; omega) _, h.b.setCell (by simp; omega) _⟩
theorem StY.drewN {w wr : World} {pool cost q : Nat → Int} {P : Nat} (h : StY w pool cost P q wr) (n : Nat) : StY w pool cost P q (wr.drewN n) :=
  ⟨h.c, h.pool, h.cost, h.r, h.p, below_drewN h.b n⟩
/-- .. and while the rest is laid. -/
structure StZ (w : World) (pool cost : Nat → Int) (P R : Nat) (q f : Nat → Int) (wr : World) : Prop extends StY w pool cost P q wr where
  z : ArrAt .i64 6 23 wr R f
theorem StZ.drewN {w wr : World} {pool cost q f : Nat → Int} {P R : Nat} (h : StZ w pool cost P R q f wr) (n : Nat) : StZ w pool cost P R q f (wr.drewN n) :=
  { h.toStY.drewN n with z := h.z }
theorem StZ.set_ {w wr : World} {pool cost q f : Nat → Int} {P R : Nat} (h : StZ w pool cost P R q f wr) (hP : w.heap.size + 1 + 1 + 1 < P) (hR : P < R) (j : Nat) (x : Int) : StZ w pool cost P R q (updI f j x) (wr.setCell ⟨R, j, none⟩ (.int .i64 x)) :=
  ⟨⟨h.c.far (by simp; omega) _, h.pool.far (by simp; omega) _, h.cost.far (by simp; omega) _, h.r.far (by simp; omega) _, h.p.far (by simp; omega) _, h.b.setCell (by simp; omega) _⟩, h.z.set_ j x⟩
/-- What stands while the results are laid. -/
def HeldY (w : World) (P R : Nat) (q f : Nat → Int) (W : World) : Prop := ArrAt .i64 6 23 W P q ∧ ArrAt .i64 6 23 W R f ∧ Below w.heap.size w W
def restF (pool q : Nat → Int) (t : Nat) : Nat → Int := fun i => if i < t then pool i - q i else 0
theorem restF_next (pool q : Nat → Int) (t : Nat) : updI (restF pool q t) t (pool t - q t) = restF pool q (t + 1) := by
  funext i; unfold updI restF
  by_cases e : i = t
  · subst e; rw [if_pos rfl, if_pos (by omega)]
  · rw [if_neg e]
    by_cases h : i < t
    · rw [if_pos h, if_pos (by omega)]
    · rw [if_neg h, if_neg (by omega)]
def YRel (w : World) (pool cost : Nat → Int) (P c5 : Nat) (left : Value) (wr : World) : Prop :=
  ∃ (k : Nat) (q : Nat → Int), left = .int .i64 ((c5 : Int) - (k : Int)) ∧ k ≤ c5 ∧ PayN pool (updI cost 5 0) k q ∧ StY w pool cost P q wr
set_option linter.unusedSimpArgs false in
set_option maxRecDepth 100000 in
set_option maxHeartbeats 2000000 in
theorem payRef_any (pool cost : Nat → Int) (w : World) (hp : Wide pool) (hc : Wide cost) : Calls Try.prog 9 #[.agg (arr .i64 6 pool), .agg (arr .i64 6 cost)] w (PayPost pool cost (fun k => .int .i64 k) w) := by
  have hsz : ∀ g, (Try.prog.info? 23).map (·.size) = some (arr .i64 6 g).size := fun g => by rw [arr_size]; exact size6
  have h1 : ∀ g, (arr .i64 6 g).all (·.oneCell') = true := fun g => arr_one .i64 6 g
  have hz6 := zero6
  go_enter Try.func9, Try.ntmps9
  go_upto_region 1 with fail
  obtain ⟨w1, hw1⟩ : ∃ w1, w1 = (((w.alloc (.cells (arr .i64 6 pool) 23)).alloc (.cells (arr .i64 6 cost) 23)).alloc (.cells (arr .i64 6 zeroC) 23)).alloc (.cells (arr .i64 6 zeroC) 23) := ⟨_, rfl⟩
  have e1 : (w.alloc (.cells (arr .i64 6 pool) 23)).heap.size = w.heap.size + 1 := by simp
  have e2 : ((w.alloc (.cells (arr .i64 6 pool) 23)).alloc (.cells (arr .i64 6 cost) 23)).heap.size = w.heap.size + 1 + 1 := by simp
  have e3 : (((w.alloc (.cells (arr .i64 6 pool) 23)).alloc (.cells (arr .i64 6 cost) 23)).alloc (.cells (arr .i64 6 zeroC) 23)).heap.size = w.heap.size + 1 + 1 + 1 := by simp
  have a1 : ArrAt .i64 6 23 w1 w.heap.size pool := by rw [hw1]; exact (((ArrAt.new w .i64 6 23 pool).alloc _).alloc _).alloc _
  have a2 : ArrAt .i64 6 23 w1 (w.heap.size + 1) cost := by rw [hw1, ← e1]; exact ((ArrAt.new _ .i64 6 23 cost).alloc _).alloc _
  have a3 : ArrAt .i64 6 23 w1 (w.heap.size + 1 + 1) zeroC := by rw [hw1, ← e2]; exact (ArrAt.new _ .i64 6 23 zeroC).alloc _
  have a4 : ArrAt .i64 6 23 w1 (w.heap.size + 1 + 1 + 1) zeroC := by rw [hw1, ← e3]; exact ArrAt.new _ .i64 6 23 zeroC
  have hb1 : Below w.heap.size w w1 := by rw [hw1]; exact ((((Below.refl _ _).alloc (Nat.le_refl _) _).alloc (by rw [e1]; omega) _).alloc (by rw [e2]; omega) _).alloc (by rw [e3]; omega) _
  rw [← hw1]
  clear hw1 e1 e2 e3
  have hg1 := fun W => goodRef_any pool W hp
  have hg2 := fun W => goodRef_any cost W hc
  have hcan := fun W => can_both (canRef_any pool cost W hp hc)
  go_wp2_with (refine wpList_load_row rfl 23 (.tmp 2) rfl w.heap.size rfl 23 _ (0, 0) _ a1 Try.underlying23 rfl (hsz pool) ?_)
  by_cases g1 : GoodC pool
  · refine (good_yes (hg1 _) g1).mono ?_
    rintro e w2 ⟨rfl, hb2⟩
    have a1 := a1.keep hb2
    have a2 := a2.keep hb2
    have a3 := a3.keep hb2
    have a4 := a4.keep hb2
    have hbw2 := keepB hb2 hb1
    clear hb2 hb1 hg1
    go_wp2_with (refine wantArr (by rfl) 23 (.tmp 3) rfl (w.heap.size + 1) rfl 23 _ (0, 0) _ a2 Try.underlying23 rfl (hsz cost) ?_)
    by_cases g2 : GoodC cost
    · refine (good_yes (hg2 _) g2).mono ?_
      rintro e w3 ⟨rfl, hb3⟩
      have a1 := a1.keep hb3
      have a2 := a2.keep hb3
      have a3 := a3.keep hb3
      have a4 := a4.keep hb3
      have hbw3 := keepB hb3 hbw2
      clear hb3 hbw2 hg2
      go_wp2_with (first
        | (refine wpList_load_row rfl 23 (.tmp 2) rfl w.heap.size rfl 23 _ (0, 0) _ a1 Try.underlying23 rfl (hsz pool) ?_)
        | (refine wpList_load_row rfl 23 (.tmp 3) rfl (w.heap.size + 1) rfl 23 _ (0, 0) _ a2 Try.underlying23 rfl (hsz cost) ?_))
      obtain ⟨B, hB, hC⟩ := hcan w3
      refine hC.mono ?_
      rintro e w4 ⟨rfl, hb4⟩
      have HSt := Lib.hid (show ∀ q P, ArrAt .i64 6 23 w4 P q → StY w pool cost P q w4 from fun q P h => ⟨h, a1.keep hb4, a2.keep hb4, a3.keep hb4, a4.keep hb4, keepB hb4 hbw3⟩)
      have a1 := a1.keep hb4
      have a2 := a2.keep hb4
      have a3 := a3.keep hb4
      have a4 := a4.keep hb4
      have hbw4 := keepB hb4 hbw3
      clear hb4 hbw3 hcan hC
      by_cases hcanc : CanC pool cost
      · obtain rfl : B = true := hB.2 hcanc
        have HCan := Lib.hid hcanc
        obtain ⟨y0, y1⟩ := g2 5 (by omega)
        obtain ⟨c5, hc5⟩ := Int.eq_ofNat_of_zero_le y0
        rw [hc5] at y1
        have HC5 := Lib.hid hc5
        have hP : w.heap.size + 1 + 1 + 1 < w4.heap.size := a4.lt
        have hnew : (w4.alloc (.cells (arr .i64 6 zeroC) 23)).heap[w4.heap.size]? = some (.cells (arr .i64 6 zeroC) 23 (0, 0)) := heap_alloc_new _ _
        clear hcanc hB hc5
        go_upto_region 6 with (first
          | (refine wpList_load_row rfl 23 (.tmp 3) rfl (w.heap.size + 1) rfl 23 _ (0, 0) _ a2 Try.underlying23 rfl (hsz cost) ?_)
          | (refine wpList_store_row rfl 23 (.tmp 7) (.tmp 30) rfl w4.heap.size _ rfl rfl 23 (arr .i64 6 zeroC) hnew (hsz cost) (by rw [arr_size, arr_size]) (h1 cost) ?_))
        obtain ⟨w5, hw5⟩ : ∃ w5, w5 = (w4.alloc (.cells (arr .i64 6 zeroC) 23)).setRow w4.heap.size (arr .i64 6 cost) := ⟨_, rfl⟩
        have hs5 : StY w pool cost w4.heap.size cost w5 := by
          have hb5 : Below w4.heap.size w4 w5 := by rw [hw5]; exact below_setRow ((Below.refl _ _).alloc (Nat.le_refl _) _) _ _ (Nat.le_refl _)
          refine ⟨by rw [hw5]; exact ArrAt.setRow (show ArrAt .i64 6 23 _ _ _ from hnew) _, a1.keep hb5, a2.keep hb5, a3.keep hb5, a4.keep hb5, keepB hb5 hbw4⟩
        rw [← hw5]
        clear hw5 hnew a1 a2 a3 a4 hbw4 HSt
        obtain ⟨P, hPe⟩ : ∃ P, w4.heap.size = P := ⟨_, rfl⟩
        rw [hPe] at hs5 hP ⊢
        clear hPe
        have q1 := hs5.c.cell (i := 5) (by omega)
        have q2 := hs5.c.frozen 5
        have HS6 := Lib.hid (hs5.set_ hP 5 0)
        have HS5 := Lib.hid hs5
        clear hs5
        go_upto_region 7 with fail
        obtain ⟨w6, hw6⟩ : ∃ w6, w6 = w5.setCell ⟨P, 5, none⟩ (.int .i64 0) := ⟨_, rfl⟩
        rw [← hw6] at HS6 ⊢
        have r5 := HS6.out.cost.cell (i := 5) (by omega)
        rw [HC5.out] at r5
        clear hw6 q1 q2 HS5
        go_upto_region 8 with fail
        go_loopw [8] (fun left wr => YRel w pool cost P c5 left wr) (fun left _ => (intOf left).toNat)
        case atStart => exact ⟨0, _, by simp, by omega, .zero, HS6.out⟩
        case round =>
          obtain ⟨k, q, rfl, hk, hN, hst⟩ := hrel
          have HN := Lib.hid hN
          have HS := Lib.hid hst
          clear hN hst HS6
          by_cases hlt : k < c5
          · have hI := payN_inv HCan.out HN.out (by rw [HC5.out]; omega)
            have hq := payI_wide HCan.out hI
            have HI := Lib.hid hI
            have HQ := Lib.hid hq
            have r1 := HS.out.c.cell (i := 5) (by omega)
            have r2 := HS.out.pool.cell (i := 5) (by omega)
            obtain ⟨f0, f1⟩ := hq 5 (by omega)
            obtain ⟨e0, e1⟩ := g1 5 (by omega)
            obtain ⟨y, hy⟩ : ∃ y, y = q 5 := ⟨_, rfl⟩
            obtain ⟨x, hx⟩ : ∃ x, x = pool 5 := ⟨_, rfl⟩
            rw [← hy] at r1 f0 f1
            rw [← hx] at r2 e0 e1
            have HY := Lib.hid hy
            have HX := Lib.hid hx
            clear hI hq hy hx r5
            by_cases h5 : y < x
            · have r3 := HS.out.c.frozen 5
              have HS2 := Lib.hid (HS.out.set_ hP 5 (y + 1))
              go_wp2_with fail
              go_roundw
              case rel => exact ⟨k + 1, _, by congr 1; omega, by omega, .succ HN.out (.inl ⟨by rw [← HY.out, ← HX.out]; exact h5, rfl⟩), by rw [← HY.out]; exact HS2.out⟩
              case measure => simp [intOf]; omega
            · have hn5 : ¬ q 5 < pool 5 := by rw [← HY.out, ← HX.out]; exact h5
              have HN5 := Lib.hid hn5
              obtain ⟨j, hj, hjd⟩ := pay_left HCan.out HI.out (by rw [HC5.out]; omega) hn5
              obtain ⟨d, hd⟩ : ∃ d : Nat → Int, d = fun j => pool j - q j := ⟨_, rfl⟩
              have hdj : 0 < d j := by rw [hd]; exact hjd
              have HF := Lib.hid (mx_found hj hdj)
              clear hn5 hjd hdj
              have HD := Lib.hid hd
              have HDx := Lib.hid (show ∀ i, i < 6 → d i = pool i - q i from fun i _ => by rw [hd])
              have HDr := Lib.hid (show ∀ i, i < 6 → -1000 ≤ d i ∧ d i ≤ 1000 from fun i hi => by
                have := g1 i hi; have := HQ.out i hi; rw [hd]; simp only; omega)
              clear hd
              go_wp2_with fail
              go_loopw [9, 10] (fun m i wz => ∃ t : Nat, i = .int .i64 ((t : Nat) : Int) ∧ m = .int .i64 (mxI d t) ∧ t ≤ 5 ∧ Below wr.heap.size wr wz) (fun _ i _ => 5 - (intOf i).toNat)
              case atStart => exact ⟨0, rfl, rfl, by omega, Below.refl _ _⟩
              case round =>
                obtain ⟨t, rfl, rfl, ht, hbz⟩ := hrel
                have HSz := Lib.hid (HS.out.keep hbz)
                by_cases hlt5 : t < 5
                · have r1 := HSz.out.c.cell (i := t) (by omega)
                  have r2 := HSz.out.pool.cell (i := t) (by omega)
                  obtain ⟨f0, f1⟩ := HQ.out t (by omega)
                  obtain ⟨e0, e1⟩ := g1 t (by omega)
                  have hdt := HDx.out t (by omega)
                  obtain ⟨y, hy⟩ : ∃ y, y = q t := ⟨_, rfl⟩
                  obtain ⟨x, hx⟩ : ∃ x, x = pool t := ⟨_, rfl⟩
                  rw [← hy] at r1 f0 f1 hdt
                  rw [← hx] at r2 e0 e1 hdt
                  have b0 : (0 : Int) ≤ (t : Int) := by omega
                  have b1 : (t : Int) < 6 := by omega
                  obtain ⟨m, hm⟩ : ∃ m, m = mxI d t := ⟨_, rfl⟩
                  rw [← hm]
                  obtain ⟨m2, hm2⟩ : ∃ m2, (if m < x - y then x - y else m) = m2 := ⟨_, rfl⟩
                  have HM := Lib.hid (show mxI d (t + 1) = m2 by rw [← hm2, hm, ← hdt]; rfl)
                  have s1 : IntKind.i64.wrap (x - y) = x - y := i64_in' (by omega) (by omega)
                  clear hy hx hm hdt
                  go_wp2_with fail
                  go_quiet (fail)
                  go_wp2_with fail
                  go_roundw
                  case rel => exact ⟨t + 1, by go_num, by rw [HM.out], by omega, below_drewN hbz _⟩
                  case measure => simp [intOf]; omega
                · obtain rfl : t = 5 := by omega
                  obtain ⟨m, hm⟩ : ∃ m, m = mxI d 5 := ⟨_, rfl⟩
                  rw [← hm] at HF ⊢
                  have HM := Lib.hid hm
                  clear hm hbz
                  go_wp2_with fail
                  go_loopw [11] (fun i wq => ∃ t : Nat, i = .int .i64 ((t : Nat) : Int) ∧ t ≤ 5 ∧ (∀ j, j < t → d j ≠ m) ∧ StY w pool cost P q wq) (fun i _ => 5 - (intOf i).toNat)
                  case atStart => exact ⟨0, rfl, by omega, fun j hj => absurd hj (by omega), HSz.out⟩
                  case round =>
                    obtain ⟨t, rfl, ht, hbef, hsq⟩ := hrel
                    have HSq := Lib.hid hsq
                    have HBef := Lib.hid hbef
                    clear hsq hbef HSz
                    by_cases hlt5 : t < 5
                    · have r1 := HSq.out.c.cell (i := t) (by omega)
                      have r2 := HSq.out.pool.cell (i := t) (by omega)
                      have r3 := HSq.out.c.frozen t
                      obtain ⟨f0, f1⟩ := HQ.out t (by omega)
                      obtain ⟨e0, e1⟩ := g1 t (by omega)
                      have hdt := HDx.out t (by omega)
                      obtain ⟨y, hy⟩ : ∃ y, y = q t := ⟨_, rfl⟩
                      obtain ⟨x, hx⟩ : ∃ x, x = pool t := ⟨_, rfl⟩
                      rw [← hy] at r1 f0 f1 hdt
                      rw [← hx] at r2 e0 e1 hdt
                      have b0 : (0 : Int) ≤ (t : Int) := by omega
                      have b1 : (t : Int) < 6 := by omega
                      have s1 : IntKind.i64.wrap (x - y) = x - y := i64_in' (by omega) (by omega)
                      have HDt := Lib.hid hdt
                      have HY := Lib.hid hy
                      clear hy hx hdt
                      by_cases heq : x - y = m
                      · have hb : (x - y == m) = true := by simp [heq]
                        have HFM := Lib.hid (firstMax_of (d := d) hlt5 (by rw [HDt.out, heq, HM.out]) (fun j hj => by rw [← HM.out]; exact HBef.out j hj))
                        rw [HD.out] at HFM
                        clear heq
                        go_wp2_with fail
                        go_quiet (fail)
                        go_wp2_with fail
                        go_roundw
                        case rel => exact ⟨k + 1, _, by congr 1; omega, by omega, .succ HN.out (.inr ⟨by have := HN5.out; omega, t, HFM.out, rfl⟩), by rw [← HY.out]; exact (HSq.out.drewN _).set_ hP t (y + 1)⟩
                        case measure => simp [intOf]; omega
                      · have hb : (x - y == m) = false := by simp [heq]
                        have HB2 := Lib.hid (show ∀ j, j < t + 1 → d j ≠ m from fun j hj => by
                          by_cases e : j = t
                          · subst e; rw [HDt.out]; exact heq
                          · exact HBef.out j (by omega))
                        clear heq
                        go_wp2_with fail
                        go_quiet (fail)
                        go_wp2_with fail
                        go_roundw
                        case rel => exact ⟨t + 1, by go_num, by omega, HB2.out, HSq.out.drewN _⟩
                        case measure => simp [intOf]; omega
                    · obtain ⟨i, hi, hdi⟩ := HF.out
                      exact absurd hdi (HBef.out i (by omega))
          · obtain rfl : k = c5 := by omega
            have hI := payN_inv HCan.out HN.out (by rw [HC5.out]; omega)
            have hq := payI_wide HCan.out hI
            have HQ := Lib.hid hq
            have hnew : (wr.alloc (.cells (arr .i64 6 zeroC) 23)).heap[wr.heap.size]? = some (.cells (arr .i64 6 zeroC) 23 (0, 0)) := heap_alloc_new _ _
            have hPR := HS.out.c.lt
            have HPN := Lib.hid (show PayR pool cost (restF pool q 6) q 0 from .inr (.inr ⟨HCan.out, by rw [HC5.out, Int.toNat_natCast]; exact HN.out, fun i hi => by unfold restF; rw [if_pos hi], rfl⟩))
            clear hI hq r5
            go_upto_region 24 with (refine wpList_store_row rfl 23 (.tmp 12) (.tmp 78) rfl wr.heap.size _ rfl rfl 23 (arr .i64 6 zeroC) hnew (hsz zeroC) rfl (h1 zeroC) ?_)
            obtain ⟨w7, hw7⟩ : ∃ w7, w7 = (wr.alloc (.cells (arr .i64 6 zeroC) 23)).setRow wr.heap.size (arr .i64 6 zeroC) := ⟨_, rfl⟩
            have hz7 : StZ w pool cost P wr.heap.size q (restF pool q 0) w7 := by
              have hb7 : Below wr.heap.size wr w7 := by rw [hw7]; exact below_setRow ((Below.refl _ _).alloc (Nat.le_refl _) _) _ _ (Nat.le_refl _)
              refine { HS.out.keep hb7 with z := ?_ }
              have h := ArrAt.setRow (show ArrAt .i64 6 23 _ _ _ from hnew) zeroC
              rw [hw7]; exact h.congr (fun i _ => by unfold restF; rw [if_neg (by omega)]; rfl)
            have HZ7 := Lib.hid hz7
            rw [← hw7]
            clear hw7 hnew hz7
            obtain ⟨R, hR⟩ : ∃ R, wr.heap.size = R := ⟨_, rfl⟩
            rw [hR] at HZ7 hPR ⊢
            clear hR HS
            go_loopw [13] (fun i wz => ∃ t : Nat, i = .int .i64 ((t : Nat) : Int) ∧ t ≤ 6 ∧ StZ w pool cost P R q (restF pool q t) wz) (fun i _ => 6 - (intOf i).toNat)
            case atStart => exact ⟨0, rfl, by omega, HZ7.out⟩
            case round =>
              obtain ⟨t, rfl, ht, hsz_⟩ := hrel
              have HZ := Lib.hid hsz_
              clear hsz_ HZ7
              by_cases hlt6 : t < 6
              · obtain ⟨f0, f1⟩ := HQ.out t (by omega)
                obtain ⟨e0, e1⟩ := g1 t (by omega)
                obtain ⟨y, hy⟩ : ∃ y, y = q t := ⟨_, rfl⟩
                obtain ⟨x, hx⟩ : ∃ x, x = pool t := ⟨_, rfl⟩
                rw [← hy] at f0 f1
                rw [← hx] at e0 e1
                have b0 : (0 : Int) ≤ (t : Int) := by omega
                have b1 : (t : Int) < 6 := by omega
                have s1 : IntKind.i64.wrap (x - y) = x - y := i64_in' (by omega) (by omega)
                have c1 : ∀ W, StY w pool cost P q W → W.cell? ⟨P, t, none⟩ = some (.int .i64 y) := fun W hW => by rw [hy]; exact hW.c.cell hlt6
                have c2 : ∀ W, StY w pool cost P q W → W.cell? ⟨w.heap.size, t, none⟩ = some (.int .i64 x) := fun W hW => by rw [hx]; exact hW.pool.cell hlt6
                have HN2 := Lib.hid (show updI (restF pool q t) t (x - y) = restF pool q (t + 1) by rw [hx, hy]; exact restF_next _ _ _)
                clear hx hy
                go_upto_region 26 with fail
                have hZ1 : StZ w pool cost P R q (restF pool q t) wr.drew := HZ.out.drewN 1
                refine wp_region_held_drew (S := StY w pool cost P q) (by kernel_rfl) hZ1.toStY (fun hHeld => ?_)
                generalize wr.drew = W0 at hHeld hZ1 ⊢
                refine wpAnyH_take (i := 0) (v := ?_) rfl (by kernel_rfl) (by kernel_rfl) (by kernel_rfl) (fun _ _ _ h => h) (Or.inl ⟨by rfl, ?_⟩) hHeld ?_
                rotate_left
                · (intro w hSw; go_simp; (try with_reducible rfl))
                simp only [Act.put, List.getElem_toArray, List.getElem_cons_zero, List.getElem_cons_succ, List.setIfInBounds_toArray, List.set_cons_zero, List.set_cons_succ]
                refine wpAnyH_take (i := 1) (v := ?_) rfl (by kernel_rfl) (by kernel_rfl) (by kernel_rfl) (fun _ _ _ h => h) (Or.inl ⟨by rfl, ?_⟩) hHeld ?_
                rotate_left
                · (intro w hSw; go_simp; (try with_reducible rfl))
                simp only [Act.put, List.getElem_toArray, List.getElem_cons_zero, List.getElem_cons_succ, List.setIfInBounds_toArray, List.set_cons_zero, List.set_cons_succ]
                refine wpAnyH_take (i := 2) (v := ?_) rfl (by kernel_rfl) (by kernel_rfl) (by kernel_rfl) (fun _ _ _ h => h) (Or.inl ⟨by rfl, ?_⟩) hHeld ?_
                rotate_left
                · (intro w hSw; go_simp; (try with_reducible rfl))
                simp only [Act.put, List.getElem_toArray, List.getElem_cons_zero, List.getElem_cons_succ, List.setIfInBounds_toArray, List.set_cons_zero, List.set_cons_succ]
                refine wpAnyH_take (i := 3) (v := ?_) rfl (by kernel_rfl) (by kernel_rfl) (by kernel_rfl) (fun _ _ _ h => h) (Or.inl ⟨by rfl, ?_⟩) hHeld ?_
                rotate_left
                · (intro w hSw; go_simp; (try with_reducible rfl))
                simp only [Act.put, List.getElem_toArray, List.getElem_cons_zero, List.getElem_cons_succ, List.setIfInBounds_toArray, List.set_cons_zero, List.set_cons_succ]
                refine wpAnyH_take (i := 4) (v := ?_) rfl (by kernel_rfl) (by kernel_rfl) (by kernel_rfl) (fun _ _ _ h => h) (Or.inl ⟨by rfl, ?_⟩) hHeld ?_
                rotate_left
                · (intro w hSw; go_simp; (try with_reducible rfl))
                simp only [Act.put, List.getElem_toArray, List.getElem_cons_zero, List.getElem_cons_succ, List.setIfInBounds_toArray, List.set_cons_zero, List.set_cons_succ]
                refine wpAnyH_take (i := 5) (v := ?_) rfl (by kernel_rfl) (by kernel_rfl) (by kernel_rfl) (fun _ _ _ h => h) (Or.inl ⟨by rfl, ?_⟩) hHeld ?_
                rotate_left
                · (intro w hSw; go_simp; (try with_reducible rfl))
                simp only [Act.put, List.getElem_toArray, List.getElem_cons_zero, List.getElem_cons_succ, List.setIfInBounds_toArray, List.set_cons_zero, List.set_cons_succ]
                refine wpAnyH_take (i := 6) (v := ?_) rfl (by kernel_rfl) (by kernel_rfl) (by kernel_rfl) (fun _ _ _ h => h) (Or.inl ⟨by rfl, ?_⟩) hHeld ?_
                rotate_left
                · (intro w hSw; go_simp; (try with_reducible rfl))
                simp only [Act.put, List.getElem_toArray, List.getElem_cons_zero, List.getElem_cons_succ, List.setIfInBounds_toArray, List.set_cons_zero, List.set_cons_succ]
                refine wpAnyH_take (i := 7) (v := ?_) rfl (by kernel_rfl) (by kernel_rfl) (by kernel_rfl) (fun _ _ _ h => h) (Or.inl ⟨by rfl, ?_⟩) hHeld ?_
                rotate_left
                · (intro w hSw; go_simp; (try with_reducible rfl))
                simp only [Act.put, List.getElem_toArray, List.getElem_cons_zero, List.getElem_cons_succ, List.setIfInBounds_toArray, List.set_cons_zero, List.set_cons_succ]
                refine wpAnyH_take (i := 8) (v := ?_) rfl (by kernel_rfl) (by kernel_rfl) (by kernel_rfl) (fun _ _ _ h => h) (Or.inl ⟨by rfl, ?_⟩) hHeld ?_
                rotate_left
                · (intro w hSw; go_simp; (try with_reducible rfl))
                simp only [Act.put, List.getElem_toArray, List.getElem_cons_zero, List.getElem_cons_succ, List.setIfInBounds_toArray, List.set_cons_zero, List.set_cons_succ]
                refine wpAnyH_ready (rs := [9]) (by kernel_rfl) (by simp) ?_
                refine AllReadyH.cons rfl (fun K hK => ?_) AllReadyH.nil
                simp only [List.getElem_toArray, List.getElem_cons_zero, List.getElem_cons_succ]
                have q1 := hZ1.z.cell hlt6
                have q2 := hZ1.z.frozen t
                have hS8 := hZ1.set_ hP hPR t (x - y)
                rw [HN2.out] at hS8
                have HS8 := Lib.hid hS8
                go_simp
                refine hK.out _ _ HS8.out.toStY (fun _ => ?_)
                clear hK K q1 q2 hHeld hZ1 c1 c2 hS8
                refine wpAnyH_done (by kernel_rfl) ?_ _
                go_wp2_with fail
                go_roundw
                case rel => exact ⟨t + 1, by go_num, by omega, HS8.out⟩
                case measure => simp [intOf]; omega
              · obtain rfl : t = 6 := by omega
                go_upto_region 27 with fail
                have hZ1 : StZ w pool cost P R q (restF pool q 6) wr.drew := HZ.out.drewN 1
                refine wp_region_held_drew (S := HeldY w P R q (restF pool q 6)) (by kernel_rfl) ⟨hZ1.c, hZ1.z, hZ1.b⟩ (fun hHeld => ?_)
                generalize wr.drew = W0 at hHeld hZ1 ⊢
                refine wpAnyH_take (i := 0) (v := .agg (arr .i64 6 (restF pool q 6))) rfl (by kernel_rfl) (by kernel_rfl) (by kernel_rfl) (fun _ _ _ h => h) (yieldsIf_load (by rfl) 23 (.tmp 12) rfl R rfl (fun W hW => hW.2.1) Try.underlying23 size6) hHeld ?_
                simp only [Act.put, List.getElem_toArray, List.getElem_cons_zero, List.getElem_cons_succ, List.setIfInBounds_toArray, List.set_cons_zero, List.set_cons_succ]
                refine wpAnyH_take (i := 1) (v := .agg (arr .i64 6 q)) rfl (by kernel_rfl) (by kernel_rfl) (by kernel_rfl) (fun _ _ _ h => h) (yieldsIf_load (by rfl) 23 (.tmp 7) rfl P rfl (fun W hW => hW.1) Try.underlying23 size6) hHeld ?_
                simp only [Act.put, List.getElem_toArray, List.getElem_cons_zero, List.getElem_cons_succ, List.setIfInBounds_toArray, List.set_cons_zero, List.set_cons_succ]
                refine wpAnyH_ready (rs := [2]) (by kernel_rfl) (by simp) ?_
                refine AllReadyH.cons rfl (fun K hK => ?_) AllReadyH.nil
                simp only [List.getElem_toArray, List.getElem_cons_zero, List.getElem_cons_succ]
                refine wp_store_row 23 (.tmp 4) (.tmp 92) rfl (w.heap.size + 1 + 1) _ rfl rfl 23 _ hZ1.r (hsz _) (by rw [arr_size, arr_size]) (h1 _) ?_
                have hS2 : HeldY w P R q (restF pool q 6) (W0.setRow (w.heap.size + 1 + 1) (arr .i64 6 (restF pool q 6))) := ⟨hHeld.1.farRow (by omega) _, hHeld.2.1.farRow (by omega) _, below_setRow hHeld.2.2 _ _ (by omega)⟩
                have hr2 := hZ1.r.setRow (restF pool q 6)
                have hp2 := hZ1.p.farRow (g' := w.heap.size + 1 + 1) (by omega) (arr .i64 6 (restF pool q 6))
                refine hK.out _ _ hS2 (fun _ => ?_)
                clear hK K
                try simp only [Act.put, List.setIfInBounds_toArray, List.set_cons_zero, List.set_cons_succ]
                generalize W0.setRow (w.heap.size + 1 + 1) (arr .i64 6 (restF pool q 6)) = W2 at hS2 hr2 hp2 ⊢
                refine wpAnyH_ready (rs := [3]) (by kernel_rfl) (by simp) ?_
                refine AllReadyH.cons rfl (fun K hK => ?_) AllReadyH.nil
                simp only [List.getElem_toArray, List.getElem_cons_zero, List.getElem_cons_succ]
                refine wp_store_row 23 (.tmp 5) (.tmp 93) rfl (w.heap.size + 1 + 1 + 1) _ rfl rfl 23 _ hp2 (hsz _) (by rw [arr_size, arr_size]) (h1 _) ?_
                have hS3 : HeldY w P R q (restF pool q 6) (W2.setRow (w.heap.size + 1 + 1 + 1) (arr .i64 6 q)) := ⟨hS2.1.farRow (by omega) _, hS2.2.1.farRow (by omega) _, below_setRow hS2.2.2 _ _ (by omega)⟩
                have hr3 := hr2.farRow (g' := w.heap.size + 1 + 1 + 1) (by omega) (arr .i64 6 q)
                have hp3 := hp2.setRow q
                refine hK.out _ _ hS3 (fun _ => ?_)
                clear hK K
                try simp only [Act.put, List.setIfInBounds_toArray, List.set_cons_zero, List.set_cons_succ]
                have hHeld := hS3
                refine wpAnyH_take (i := 4) (v := ?_) rfl (by kernel_rfl) (by kernel_rfl) (by kernel_rfl) (fun _ _ _ h => h) (Or.inl ⟨by rfl, ?_⟩) hHeld ?_
                rotate_left
                · (intro w hSw; go_simp; (try with_reducible rfl))
                simp only [Act.put, List.getElem_toArray, List.getElem_cons_zero, List.getElem_cons_succ, List.setIfInBounds_toArray, List.set_cons_zero, List.set_cons_succ]
                refine wpAnyH_done (by kernel_rfl) ?_ _
                go_wp2_with fail
                refine bodyPost_ret (v := .tuple #[.agg (arr .i64 6 (restF pool q 6)), .agg (arr .i64 6 q), .int .i64 0]) ?_ rfl ⟨_, _, 0, HPN.out, rfl, hS3.2.2⟩
                exact results_two (ty := 23) (p := 4) (p2 := 5) (q := 6) (by kernel_rfl) _ _ (w.heap.size + 1 + 1) (w.heap.size + 1 + 1 + 1) 23 23 _ _ (0, 0) (0, 0) _ rfl hr3 rfl hp3 Try.underlying23 rfl (hsz _) (hsz _)
      · obtain rfl : B = false := by cases h : B; rfl; exact absurd (hB.1 h) hcanc
        go_wp2_with (first
          | (refine wpList_store_row rfl 23 (.tmp 4) (.tmp 28) rfl (w.heap.size + 1 + 1) _ rfl rfl 23 (arr .i64 6 zeroC) a3 (hsz zeroC) rfl (h1 zeroC) ?_)
          | (refine wpList_store_row rfl 23 (.tmp 5) (.tmp 29) rfl (w.heap.size + 1 + 1 + 1) _ rfl rfl 23 (arr .i64 6 zeroC) (a4.farRow (by omega) _) (hsz zeroC) rfl (h1 zeroC) ?_))
        refine bodyPost_ret (v := .tuple #[.agg (arr .i64 6 zeroC), .agg (arr .i64 6 zeroC), .int .i64 10]) ?_ rfl ⟨zeroC, zeroC, 10, .inr (.inl ⟨⟨g1, g2⟩, hcanc, rfl, rfl, rfl⟩), rfl, below_setRow (below_setRow hbw4 _ _ (by omega)) _ _ (by omega)⟩
        exact results_two (ty := 23) (p := 4) (p2 := 5) (q := 6) (by kernel_rfl) _ _ (w.heap.size + 1 + 1) (w.heap.size + 1 + 1 + 1) 23 23 _ _ (0, 0) (0, 0) _ rfl ((a3.setRow _).farRow (by omega) _) rfl ((a4.farRow (by omega) _).setRow _) Try.underlying23 rfl (hsz zeroC) (hsz zeroC)
    · refine (good_no (hg2 _) g2).mono ?_
      rintro e w3 ⟨rfl, hb3⟩
      have a3 := a3.keep hb3
      have a4 := a4.keep hb3
      go_wp2_with (first
        | (refine wpList_store_row rfl 23 (.tmp 4) (.tmp 22) rfl (w.heap.size + 1 + 1) _ rfl rfl 23 (arr .i64 6 zeroC) a3 (hsz zeroC) rfl (h1 zeroC) ?_)
        | (refine wpList_store_row rfl 23 (.tmp 5) (.tmp 23) rfl (w.heap.size + 1 + 1 + 1) _ rfl rfl 23 (arr .i64 6 zeroC) (a4.farRow (by omega) _) (hsz zeroC) rfl (h1 zeroC) ?_))
      refine bodyPost_ret (v := .tuple #[.agg (arr .i64 6 zeroC), .agg (arr .i64 6 zeroC), .int .i64 2]) ?_ rfl ⟨zeroC, zeroC, 2, .inl ⟨fun h => g2 h.2, rfl, rfl, rfl⟩, rfl, below_setRow (below_setRow (keepB hb3 hbw2) _ _ (by omega)) _ _ (by omega)⟩
      exact results_two (ty := 23) (p := 4) (p2 := 5) (q := 6) (by kernel_rfl) _ _ (w.heap.size + 1 + 1) (w.heap.size + 1 + 1 + 1) 23 23 _ _ (0, 0) (0, 0) _ rfl ((a3.setRow _).farRow (by omega) _) rfl ((a4.farRow (by omega) _).setRow _) Try.underlying23 rfl (hsz zeroC) (hsz zeroC)
  · refine (good_no (hg1 _) g1).mono ?_
    rintro e w2 ⟨rfl, hb2⟩
    have a3 := a3.keep hb2
    have a4 := a4.keep hb2
    go_wp2_with (first
      | (refine wpList_store_row rfl 23 (.tmp 4) (.tmp 22) rfl (w.heap.size + 1 + 1) _ rfl rfl 23 (arr .i64 6 zeroC) a3 (hsz zeroC) rfl (h1 zeroC) ?_)
      | (refine wpList_store_row rfl 23 (.tmp 5) (.tmp 23) rfl (w.heap.size + 1 + 1 + 1) _ rfl rfl 23 (arr .i64 6 zeroC) (a4.farRow (by omega) _) (hsz zeroC) rfl (h1 zeroC) ?_))
    refine bodyPost_ret (v := .tuple #[.agg (arr .i64 6 zeroC), .agg (arr .i64 6 zeroC), .int .i64 2]) ?_ rfl ⟨zeroC, zeroC, 2, .inl ⟨fun h => g1 h.1, rfl, rfl, rfl⟩, rfl, below_setRow (below_setRow (keepB hb2 hb1) _ _ (by omega)) _ _ (by omega)⟩
    exact results_two (ty := 23) (p := 4) (p2 := 5) (q := 6) (by kernel_rfl) _ _ (w.heap.size + 1 + 1) (w.heap.size + 1 + 1 + 1) 23 23 _ _ (0, 0) (0, 0) _ rfl ((a3.setRow _).farRow (by omega) _) rfl ((a4.farRow (by omega) _).setRow _) Try.underlying23 rfl (hsz zeroC) (hsz zeroC)
end Go.Proofs.Ytfnlkadcidfhoaa
