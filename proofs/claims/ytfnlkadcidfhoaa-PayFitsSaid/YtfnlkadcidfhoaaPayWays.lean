/- Layer 5: the reference's Ways. -/
import Derived.Test.YtfnlkadcidfhoaaPayPay
import Derived.Deep.OwnRows
namespace Go.Proofs.Ytfnlkadcidfhoaa
open Go.RowKit Mx Yx
attribute [local go_sem] arr_get
def frN (pool cost : Nat → Int) (i : Nat) : Nat := (freeC pool cost i).toNat
theorem free_nonneg {pool cost : Nat → Int} (h : CanC pool cost) : ∀ i, i < 6 → 0 ≤ freeC pool cost i := fun i hi => by
  unfold freeC; split
  · have := h.2.2.1 i (by omega); omega
  · exact (h.1 i hi).1
theorem len_sum {pool cost : Nat → Int} (h : CanC pool cost) : ∀ k, k ≤ 6 → (lenN (frN pool cost) k : Int) = 1 + sumF (freeC pool cost) k
  | 0, _ => by simp [lenN, sumF]
  | k + 1, hk => by
    have ih := len_sum h k (by omega)
    have := free_nonneg h k (by omega)
    simp only [lenN, sumF]
    unfold frN at *
    omega
theorem sum_mono {f : Nat → Int} (h : ∀ i, i < 6 → 0 ≤ f i) : ∀ k, k ≤ 6 → sumF f k ≤ sumF f 6 := by
  intro k hk
  have h0 := h 0 (by omega); have h1 := h 1 (by omega); have h2 := h 2 (by omega); have h3 := h 3 (by omega); have h4 := h 4 (by omega); have h5 := h 5 (by omega)
  have hc : k = 0 ∨ k = 1 ∨ k = 2 ∨ k = 3 ∨ k = 4 ∨ k = 5 ∨ k = 6 := by omega
  rcases hc with rfl | rfl | rfl | rfl | rfl | rfl | rfl <;> simp only [sumF] <;> omega
theorem len_le {pool cost : Nat → Int} (h : CanC pool cost) (h60 : sumF pool 6 ≤ 60) : ∀ k, k ≤ 6 → lenN (frN pool cost) k ≤ 61 := by
  intro k hk
  have h1 := len_sum h k hk
  have h2 := sum_mono (free_nonneg h) k hk
  have h3 := over_free pool cost
  have h4 := over_total pool cost
  have h5 := sumF_good h.2.1 5 (by omega)
  omega
theorem pow_le : ∀ k, k ≤ 5 → (61 : Int) ^ k ≤ 844596301 := by
  intro k hk
  have hc : k = 0 ∨ k = 1 ∨ k = 2 ∨ k = 3 ∨ k = 4 ∨ k = 5 := by omega
  rcases hc with rfl | rfl | rfl | rfl | rfl | rfl <;> decide
theorem ways_small {fr : Nat → Nat} {k : Nat} (hk : k ≤ 5) (h : ∀ j, j ≤ 6 → lenN fr j ≤ 61) (s : Nat) : 0 ≤ waysN fr k s ∧ waysN fr k s ≤ 844596301 := by
  have h1 := ways_range (fr := fr) k s (fun j hj => h j (by omega))
  have h2 := pow_le k hk
  omega
theorem convB_small {fr : Nat → Nat} {k : Nat} (hk : k ≤ 5) (h : ∀ j, j ≤ 6 → lenN fr j ≤ 61) {f a b : Nat} (ha : a < 61) (s : Nat) : 0 ≤ convB (waysN fr k) f a b s ∧ convB (waysN fr k) f a b s ≤ 51520374361 := by
  have h1 := conv_range (F := waysN fr k) (fr := f) (M := 844596301) (by omega) a s (fun x _ => ways_small hk h x)
  have h2 := ways_small hk h a
  unfold convB
  split <;> omega
/-- What Ways answers. -/
def WaysR (pool cost : Nat → Int) (n k : Int) : Prop :=
  (¬ (GoodC pool ∧ GoodC cost) ∧ n = 0 ∧ k = 2) ∨ ((GoodC pool ∧ GoodC cost) ∧ 60 < sumF pool 6 ∧ n = 0 ∧ k = 1) ∨
  ((GoodC pool ∧ GoodC cost) ∧ sumF pool 6 ≤ 60 ∧ ¬ CanC pool cost ∧ n = 0 ∧ k = 0) ∨ (CanC pool cost ∧ sumF pool 6 ≤ 60 ∧ n = waysN (frN pool cost) 6 (cost 5).toNat ∧ k = 0)
def WaysPost (pool cost : Nat → Int) (err : Int → Value) (w : World) (e : Ending) (w' : World) : Prop :=
  ∃ n k, WaysR pool cost n k ∧ e = .returned (.tuple #[.int .i64 n, err k]) ∧ Below w.heap.size w w'
theorem waysR_one {pool cost : Nat → Int} {n n' k k' : Int} (h : WaysR pool cost n k) (h' : WaysR pool cost n' k') : n = n' ∧ k = k' := by
  rcases h with ⟨a, rfl, rfl⟩ | ⟨a, b, rfl, rfl⟩ | ⟨a, b, c, rfl, rfl⟩ | ⟨a, b, rfl, rfl⟩ <;> rcases h' with ⟨a', rfl, rfl⟩ | ⟨a', b', rfl, rfl⟩ | ⟨a', b', c', rfl, rfl⟩ | ⟨a', b', rfl, rfl⟩ <;>
  first | exact ⟨rfl, rfl⟩ | exact absurd a' a | exact absurd a a' | exact absurd ⟨a'.1, a'.2.1⟩ a | exact absurd ⟨a.1, a.2.1⟩ a' | (exfalso; omega) | exact absurd a' c | exact absurd a c'
theorem made_arr (n : Nat) : madeCells #[Value.int .i64 0] n = arr .i64 n (fun _ => 0) := by
  unfold madeCells arr
  congr 1
  funext i
  simp [Nat.mod_one]
theorem info_int : (Try.prog.info? 3).map (fun i => (i.zero, i.size, i.bytes)) = some (some (.int .i64 0), 1, 8) := by kernel_rfl
theorem make_ints (x : Int) (n : Nat) (hx : x = (n : Int)) (hn : n ≤ 100000) (W : World) : (Instr.makeSlice 52 (.int .i64 x) (.int .i64 x)).run Try.prog W = .ok (.slice (some ⟨W.heap.size, 0, none⟩) n n) (W.alloc (.cells (arr .i64 n (fun _ => 0)) 3)) := by
  subst hx
  rw [run_make_row' 52 3 (.int .i64 0) 8 Try.underlying52 info_int rfl .i64 .i64 n (by omega) (by omega) W, made_arr]
theorem ways_lit (fr : Nat → Nat) : #[Value.int .i64 1] = arr .i64 1 (waysN fr 0) := by
  rw [← arr_congr (f := fun i => ([1] : List Int).getD i 0) (fun i hi => by
    have h0 : i = 0 := by omega
    rw [h0]; rfl)]
  exact (arr_list .i64 [1]).symm
/-- Two boxes, the list so far, and all below. -/
structure StW (w : World) (pool cost : Nat → Int) (L : Nat) (g : Nat) (F : Nat → Int) (wr : World) : Prop where
  pool : ArrAt .i64 6 23 wr w.heap.size pool
  cost : ArrAt .i64 6 23 wr (w.heap.size + 1) cost
  l : ArrAt .i64 L 3 wr g F
  b : Below w.heap.size w wr
theorem StW.keep {w wr wy : World} {pool cost F : Nat → Int} {L g : Nat} (h : StW w pool cost L g F wr) (hb : Below wr.heap.size wr wy) : StW w pool cost L g F wy :=
  ⟨h.pool.keep hb, h.cost.keep hb, h.l.keep hb, h.b.trans (hb.mono h.b.size)⟩
theorem StW.drewN {w wr : World} {pool cost F : Nat → Int} {L g : Nat} (h : StW w pool cost L g F wr) (n : Nat) : StW w pool cost L g F (wr.drewN n) := ⟨h.pool, h.cost, h.l, below_drewN h.b n⟩
theorem StW.far {w wr : World} {pool cost F : Nat → Int} {L g : Nat} (h : StW w pool cost L g F wr) {n : Nat} (hn : w.heap.size + 1 < n) (hg : g ≠ n) (j : Nat) (v : Value) : StW w pool cost L g F (wr.setCell ⟨n, j, none⟩ v) :=
  ⟨h.pool.far (by simp; omega) _, h.cost.far (by simp; omega) _, h.l.far (by simpa using hg) _, h.b.setCell (by simp; omega) _⟩
def WRel (w : World) (pool cost : Nat → Int) (s i : Value) (wr : World) : Prop :=
  ∃ k g : Nat, i = .int .i64 ((k : Nat) : Int) ∧ s = .slice (some ⟨g, 0, none⟩) (lenN (frN pool cost) k) (lenN (frN pool cost) k) ∧ k ≤ 6 ∧ StW w pool cost (lenN (frN pool cost) k) g (waysN (frN pool cost) k) wr
set_option linter.unusedSimpArgs false in
set_option maxRecDepth 100000 in
set_option maxHeartbeats 2000000 in
theorem waysRef_any (pool cost : Nat → Int) (w : World) (hp : Wide pool) (hc : Wide cost) : Calls Try.prog 14 #[.agg (arr .i64 6 pool), .agg (arr .i64 6 cost)] w (WaysPost pool cost (fun k => .int .i64 k) w) := by
  have hsz : ∀ g, (Try.prog.info? 23).map (·.size) = some (arr .i64 6 g).size := fun g => by rw [arr_size]; exact size6
  go_enter Try.func14, Try.ntmps14
  go_upto_region 1 with fail
  obtain ⟨w1, hw1⟩ : ∃ w1, w1 = (w.alloc (.cells (arr .i64 6 pool) 23)).alloc (.cells (arr .i64 6 cost) 23) := ⟨_, rfl⟩
  have a1 : ArrAt .i64 6 23 w1 w.heap.size pool := by rw [hw1]; exact (ArrAt.new w .i64 6 23 pool).alloc _
  have a2 : ArrAt .i64 6 23 w1 (w.heap.size + 1) cost := by
    have h := ArrAt.new (w.alloc (.cells (arr .i64 6 pool) 23)) .i64 6 23 cost
    rw [hw1]; simpa using h
  have hb1 : Below w.heap.size w w1 := by rw [hw1]; exact ((Below.refl _ _).alloc (Nat.le_refl _) _).alloc (by simp) _
  rw [← hw1]
  clear hw1
  have hg1 := fun W => goodRef_any pool W hp
  have hg2 := fun W => goodRef_any cost W hc
  have hcan := fun W => can_both (canRef_any pool cost W hp hc)
  go_wp2_with (refine wpList_load_row rfl 23 (.tmp 2) rfl w.heap.size rfl 23 _ (0, 0) _ a1 Try.underlying23 rfl (hsz pool) ?_)
  by_cases g1 : GoodC pool
  · refine (good_yes (hg1 _) g1).mono ?_
    rintro e w2 ⟨rfl, hb2⟩
    have a1 := a1.keep hb2
    have a2 := a2.keep hb2
    have hbw2 := keepB hb2 hb1
    clear hb2 hb1 hg1
    go_wp2_with (refine wantArr (by rfl) 23 (.tmp 3) rfl (w.heap.size + 1) rfl 23 _ (0, 0) _ a2 Try.underlying23 rfl (hsz cost) ?_)
    by_cases g2 : GoodC cost
    · refine (good_yes (hg2 _) g2).mono ?_
      rintro e w3 ⟨rfl, hb3⟩
      have a1 := a1.keep hb3
      have a2 := a2.keep hb3
      have hbw3 := keepB hb3 hbw2
      clear hb3 hbw2 hg2
      go_wp2_with (refine wpList_load_row rfl 23 (.tmp 2) rfl w.heap.size rfl 23 _ (0, 0) _ a1 Try.underlying23 rfl (hsz pool) ?_)
      refine (totalRef_any pool _ g1).mono ?_
      rintro e w4 ⟨rfl, hb4⟩
      have a1 := a1.keep hb4
      have a2 := a2.keep hb4
      have hbw4 := keepB hb4 hbw3
      clear hb4 hbw3
      obtain ⟨S, hS⟩ : ∃ S, S = sumF pool 6 := ⟨_, rfl⟩
      rw [← hS]
      have HS := Lib.hid hS
      clear hS
      by_cases h60 : 60 < S
      · go_wp2_with fail
        go_ret2
        exact ⟨0, 1, .inr (.inl ⟨⟨g1, g2⟩, by rw [← HS.out]; exact h60, rfl, rfl⟩), rfl, hbw4⟩
      · go_wp2_with (first
          | (refine wpList_load_row rfl 23 (.tmp 2) rfl w.heap.size rfl 23 _ (0, 0) _ a1 Try.underlying23 rfl (hsz pool) ?_)
          | (refine wpList_load_row rfl 23 (.tmp 3) rfl (w.heap.size + 1) rfl 23 _ (0, 0) _ a2 Try.underlying23 rfl (hsz cost) ?_))
        obtain ⟨B, hB, hC⟩ := hcan w4
        refine hC.mono ?_
        rintro e w5 ⟨rfl, hb5⟩
        have a1 := a1.keep hb5
        have a2 := a2.keep hb5
        have hbw5 := keepB hb5 hbw4
        clear hb5 hbw4 hcan hC
        by_cases hcanc : CanC pool cost
        · obtain rfl : B = true := hB.2 hcanc
          have HCan := Lib.hid hcanc
          have HLen := Lib.hid (len_le hcanc (by rw [← HS.out]; omega))
          have hpos : w.heap.size + 1 < w5.heap.size := a2.lt
          clear hcanc hB hsz
          go_upto_region 8 with fail
          obtain ⟨w6, hw6⟩ : ∃ w6, w6 = w5.alloc (.cells #[.int .i64 1] 3) := ⟨_, rfl⟩
          have HSt := Lib.hid (show StW w pool cost 1 w5.heap.size (waysN (frN pool cost) 0) w6 by
            have hb6 : Below w5.heap.size w5 w6 := by rw [hw6]; exact (Below.refl _ _).alloc (Nat.le_refl _) _
            refine ⟨a1.keep hb6, a2.keep hb6, ?_, keepB hb6 hbw5⟩
            rw [hw6, ways_lit (frN pool cost)]
            exact ArrAt.new w5 .i64 1 3 _)
          rw [← hw6]
          clear hw6 a1 a2 hbw5
          go_upto_region 9 with fail
          go_loopw [6, 7] (fun s i wr => WRel w pool cost s i wr) (fun _ i _ => 6 - (intOf i).toNat)
          case atStart => exact ⟨0, _, rfl, rfl, by omega, HSt.out⟩
          case round =>
            obtain ⟨k, g, rfl, rfl, hk, hst⟩ := hrel
            have HW := Lib.hid hst
            clear hst HSt
            by_cases hlt : k < 6
            · have HL1 := HLen.out k (by omega)
              have HL2 := HLen.out (k + 1) (by omega)
              have hfn := free_nonneg HCan.out k hlt
              have hL2 : lenN (frN pool cost) (k + 1) = lenN (frN pool cost) k + frN pool cost k := rfl
              obtain ⟨L, hL⟩ : ∃ L, L = lenN (frN pool cost) k := ⟨_, rfl⟩
              obtain ⟨F, hF⟩ : ∃ F, F = frN pool cost k := ⟨_, rfl⟩
              obtain ⟨N, hN⟩ : ∃ N, N = lenN (frN pool cost) (k + 1) := ⟨_, rfl⟩
              have hfr : freeC pool cost k = (F : Int) := by rw [hF]; unfold frN; omega
              rw [← hL] at HL1 hL2 HW ⊢
              rw [← hN] at HL2 hL2
              rw [← hF] at hL2
              have r1 := HW.out.pool.cell hlt
              have r2 := HW.out.cost.cell hlt
              obtain ⟨e0, e1⟩ := g1 k (by omega)
              obtain ⟨f0, f1⟩ := g2 k (by omega)
              have b0 : (0 : Int) ≤ (k : Int) := by omega
              have b1 : (k : Int) < 6 := by omega
              obtain ⟨x, hx⟩ : ∃ x, x = pool k := ⟨_, rfl⟩
              obtain ⟨y, hy⟩ : ∃ y, y = cost k := ⟨_, rfl⟩
              have hfx : (if k < 5 then x - y else x) = (F : Int) := by rw [← hfr, hx, hy]; rfl
              rw [← hx] at r1 e0 e1
              rw [← hy] at r2 f0 f1
              have HWs := Lib.hid (fun s => ways_small (fr := frN pool cost) (k := k) (by omega) HLen.out s)
              have HCs := Lib.hid (fun a b s (ha : a < 61) => convB_small (fr := frN pool cost) (k := k) (by omega) HLen.out (f := F) (a := a) (b := b) ha s)
              obtain ⟨V, hV⟩ : ∃ V, V = waysN (frN pool cost) k := ⟨_, rfl⟩
              rw [← hV] at HW HWs HCs
              have HN := Lib.hid (show ∀ s, conv V F L s = waysN (frN pool cost) (k + 1) s from fun s => by rw [hV, hF, hL]; rfl)
              have hNl := hN
              clear hx hy hfr hfn hL hF hN hV
              have s1 : IntKind.i64.wrap (x - y) = x - y := i64_in' (by omega) (by omega)
              by_cases h5 : k < 5
              · rw [if_pos h5] at hfx
                have hd5 : decide ((k : Int) < 5) = true := by simp; omega
                go_upto_region 13 with fail
                go_quiet (fail)
                have hZ := HW.out.drewN nq
                generalize wr.drewN nq = wz at hZ ⊢
                clear hfx s1
                obtain rfl : N = L + F := hL2
                have HLe := Lib.hid hNl
                clear hNl
                have hmk := make_ints ((L : Int) + (F : Int)) (L + F) (by omega) (by omega)
                have hpz : w.heap.size + 1 < wz.heap.size := hZ.cost.lt
                have hgz : g < wz.heap.size := hZ.l.lt
                go_upto_region 15 with fail
                obtain ⟨w8, hw8⟩ : ∃ w8, w8 = wz.alloc (.cells (arr .i64 (L + F) (fun _ => 0)) 3) := ⟨_, rfl⟩
                have HZ8 := Lib.hid (show StW w pool cost L g V w8 from hZ.keep (by rw [hw8]; exact (Below.refl _ _).alloc (Nat.le_refl _) _))
                have HD8 := Lib.hid (show ArrAt .i64 (L + F) 3 w8 wz.heap.size (conv V F 0) by rw [hw8]; exact (ArrAt.new wz .i64 (L + F) 3 _).congr (fun _ _ => rfl))
                rw [← hw8]
                clear hw8 hZ hmk
                obtain ⟨D, hD⟩ : ∃ D, wz.heap.size = D := ⟨_, rfl⟩
                rw [hD] at HD8 hpz hgz ⊢
                clear hD
                go_wp2_with fail
                go_loopw [10] (fun a_ wq => ∃ a : Nat, a_ = .int .i64 ((a : Nat) : Int) ∧ a ≤ L ∧ ArrAt .i64 (L + F) 3 wq D (conv V F a) ∧ StW w pool cost L g V wq) (fun a_ _ => L - (intOf a_).toNat)
                case atStart => exact ⟨0, rfl, by omega, HD8.out, HZ8.out⟩
                case round =>
                  obtain ⟨a, rfl, ha, hda, hza⟩ := hrel
                  have HDa := Lib.hid hda
                  have HZa := Lib.hid hza
                  clear hda hza HZ8 HD8
                  by_cases halt : a < L
                  · go_wp2_with fail
                    go_loopw [11] (fun b_ wq => ∃ b : Nat, b_ = .int .i64 ((b : Nat) : Int) ∧ b ≤ F + 1 ∧ ArrAt .i64 (L + F) 3 wq D (convB V F a b) ∧ StW w pool cost L g V wq) (fun b_ _ => F + 1 - (intOf b_).toNat)
                    case atStart => exact ⟨0, rfl, by omega, HDa.out.congr (fun s _ => (convB_zero V F a s).symm), HZa.out⟩
                    case round =>
                      obtain ⟨b, rfl, hb, hdb, hzb⟩ := hrel
                      have HDb := Lib.hid hdb
                      have HZb := Lib.hid hzb
                      clear hdb hzb HDa HZa
                      by_cases hblt : b ≤ F
                      · have hab : a + b < L + F := by omega
                        obtain ⟨o0, o1⟩ := HCs.out a b (a + b) (by omega)
                        obtain ⟨v0, v1⟩ := HWs.out a
                        obtain ⟨o, ho⟩ : ∃ o, o = convB V F a b (a + b) := ⟨_, rfl⟩
                        obtain ⟨v, hv⟩ : ∃ v, v = V a := ⟨_, rfl⟩
                        rw [← ho] at o0 o1
                        rw [← hv] at v0 v1
                        have t1 : IntKind.i64.wrap ((a : Int) + (b : Int)) = (a : Int) + (b : Int) := i64_in' (by omega) (by omega)
                        have t2 : IntKind.i64.wrap (o + v) = o + v := i64_in' (by omega) (by omega)
                        have u0 : (0 : Int) ≤ (a : Int) := by omega
                        have u1 : (a : Int) < (L : Int) := by omega
                        have u2 : (0 : Int) ≤ (a : Int) + (b : Int) := by omega
                        have u3 : (a : Int) + (b : Int) < (L : Int) + (F : Int) := by omega
                        have u4 : ((a : Int) + (b : Int)).toNat = a + b := by omega
                        have hcl : ∀ W, StW w pool cost L g V W → W.cell? ⟨g, a, none⟩ = some (.int .i64 v) := fun W hW => by rw [hv]; exact hW.l.cell halt
                        have HNx := Lib.hid (show ∀ s, s < L + F → updI (convB V F a b) (a + b) (o + v) s = convB V F a (b + 1) s from fun s _ => by
                          rw [convB_next, ← ho, ← hv]; rfl)
                        have hZ1 : StW w pool cost L g V wr.drew := HZb.out.drewN 1
                        have hD1 : ArrAt .i64 (L + F) 3 wr.drew D (convB V F a b) := HDb.out
                        go_upto_region 21 with fail
                        refine wp_region_held_drew (S := StW w pool cost L g V) (by kernel_rfl) hZ1 (fun hHeld => ?_)
                        generalize wr.drew = W0 at hHeld hZ1 hD1 ⊢
                        have q1 := hD1.cell hab
                        have q2 := hD1.frozen (a + b)
                        rw [← ho] at q1
                        have HS8 := Lib.hid (hZ1.far (n := D) hpz (by omega) (a + b) (.int .i64 (o + v)))
                        have HD9 := Lib.hid ((hD1.set_ (a + b) (o + v)).congr HNx.out)
                        clear ho hv
                        refine wpAnyH_take (i := 0) (v := ?_) rfl (by kernel_rfl) (by kernel_rfl) (by kernel_rfl) (fun _ _ _ h => h) (Or.inl ⟨by rfl, ?_⟩) hHeld ?_
                        rotate_left
                        · (intro w hSw; go_simp; (try with_reducible rfl))
                        simp only [Act.put, List.getElem_toArray, List.getElem_cons_zero, List.getElem_cons_succ, List.setIfInBounds_toArray, List.set_cons_zero, List.set_cons_succ]
                        refine wpAnyH_take (i := 1) (v := ?_) rfl (by kernel_rfl) (by kernel_rfl) (by kernel_rfl) (fun _ _ _ h => h) (Or.inl ⟨by rfl, ?_⟩) hHeld ?_
                        rotate_left
                        · (intro w hSw; go_simp; (try with_reducible rfl))
                        simp only [Act.put, List.getElem_toArray, List.getElem_cons_zero, List.getElem_cons_succ, List.setIfInBounds_toArray, List.set_cons_zero, List.set_cons_succ]
                        refine wpAnyH_take (i := 2) (v := ?_) rfl (by kernel_rfl) (by kernel_rfl) (by kernel_rfl) (fun _ _ _ h => h) (Or.inl ⟨by rfl, ?_⟩) hHeld ?_
                        rotate_left
                        · (intro w hSw; go_simp; (try with_reducible rfl))
                        simp only [Act.put, List.getElem_toArray, List.getElem_cons_zero, List.getElem_cons_succ, List.setIfInBounds_toArray, List.set_cons_zero, List.set_cons_succ]
                        refine wpAnyH_take (i := 3) (v := ?_) rfl (by kernel_rfl) (by kernel_rfl) (by kernel_rfl) (fun _ _ _ h => h) (Or.inl ⟨by rfl, ?_⟩) hHeld ?_
                        rotate_left
                        · (intro w hSw; go_simp; (try with_reducible rfl))
                        simp only [Act.put, List.getElem_toArray, List.getElem_cons_zero, List.getElem_cons_succ, List.setIfInBounds_toArray, List.set_cons_zero, List.set_cons_succ]
                        refine wpAnyH_take (i := 4) (v := ?_) rfl (by kernel_rfl) (by kernel_rfl) (by kernel_rfl) (fun _ _ _ h => h) (Or.inl ⟨by rfl, ?_⟩) hHeld ?_
                        rotate_left
                        · (intro w hSw; go_simp; (try with_reducible rfl))
                        simp only [Act.put, List.getElem_toArray, List.getElem_cons_zero, List.getElem_cons_succ, List.setIfInBounds_toArray, List.set_cons_zero, List.set_cons_succ]
                        refine wpAnyH_take (i := 6) (v := ?_) rfl (by kernel_rfl) (by kernel_rfl) (by kernel_rfl) (fun _ _ _ h => h) (Or.inl ⟨by rfl, ?_⟩) hHeld ?_
                        rotate_left
                        · (intro w hSw; go_simp; (try with_reducible rfl))
                        simp only [Act.put, List.getElem_toArray, List.getElem_cons_zero, List.getElem_cons_succ, List.setIfInBounds_toArray, List.set_cons_zero, List.set_cons_succ]
                        refine wpAnyH_take (i := 7) (v := ?_) rfl (by kernel_rfl) (by kernel_rfl) (by kernel_rfl) (fun _ _ _ h => h) (Or.inl ⟨by rfl, ?_⟩) hHeld ?_
                        rotate_left
                        · (intro w hSw; go_simp; (try with_reducible rfl))
                        simp only [Act.put, List.getElem_toArray, List.getElem_cons_zero, List.getElem_cons_succ, List.setIfInBounds_toArray, List.set_cons_zero, List.set_cons_succ]
                        refine wpAnyH_take (i := 8) (v := ?_) rfl (by kernel_rfl) (by kernel_rfl) (by kernel_rfl) (fun _ _ _ h => h) (Or.inl ⟨by rfl, ?_⟩) hHeld ?_
                        rotate_left
                        · (intro w hSw; go_simp; (try with_reducible rfl))
                        simp only [Act.put, List.getElem_toArray, List.getElem_cons_zero, List.getElem_cons_succ, List.setIfInBounds_toArray, List.set_cons_zero, List.set_cons_succ]
                        refine wpAnyH_take (i := 9) (v := ?_) rfl (by kernel_rfl) (by kernel_rfl) (by kernel_rfl) (fun _ _ _ h => h) (Or.inl ⟨by rfl, ?_⟩) hHeld ?_
                        rotate_left
                        · (intro w hSw; go_simp; (try with_reducible rfl))
                        simp only [Act.put, List.getElem_toArray, List.getElem_cons_zero, List.getElem_cons_succ, List.setIfInBounds_toArray, List.set_cons_zero, List.set_cons_succ]
                        refine wpAnyH_ready (rs := [5]) (by kernel_rfl) (by simp) ?_
                        refine AllReadyH.cons rfl (fun K hK => ?_) AllReadyH.nil
                        simp only [List.getElem_toArray, List.getElem_cons_zero, List.getElem_cons_succ]
                        go_simp
                        refine hK.out _ _ hHeld (fun _ => ?_)
                        clear hK K
                        try simp only [Act.put, List.setIfInBounds_toArray, List.set_cons_zero, List.set_cons_succ]
                        refine wpAnyH_take (i := 10) (v := ?_) rfl (by kernel_rfl) (by kernel_rfl) (by kernel_rfl) (fun _ _ _ h => h) (Or.inl ⟨by rfl, ?_⟩) hHeld ?_
                        rotate_left
                        · (intro w hSw; go_simp; (try with_reducible rfl))
                        simp only [Act.put, List.getElem_toArray, List.getElem_cons_zero, List.getElem_cons_succ, List.setIfInBounds_toArray, List.set_cons_zero, List.set_cons_succ]
                        refine wpAnyH_take (i := 11) (v := ?_) rfl (by kernel_rfl) (by kernel_rfl) (by kernel_rfl) (fun _ _ _ h => h) (Or.inl ⟨by rfl, ?_⟩) hHeld ?_
                        rotate_left
                        · (intro w hSw; go_simp; (try with_reducible rfl))
                        simp only [Act.put, List.getElem_toArray, List.getElem_cons_zero, List.getElem_cons_succ, List.setIfInBounds_toArray, List.set_cons_zero, List.set_cons_succ]
                        refine wpAnyH_ready (rs := [12]) (by kernel_rfl) (by simp) ?_
                        refine AllReadyH.cons rfl (fun K hK => ?_) AllReadyH.nil
                        simp only [List.getElem_toArray, List.getElem_cons_zero, List.getElem_cons_succ]
                        go_simp
                        refine hK.out _ _ HS8.out (fun _ => ?_)
                        clear hK K q1 q2 hHeld hZ1 hD1 hcl
                        refine wpAnyH_done (by kernel_rfl) ?_ _
                        go_wp2_with fail
                        go_roundw
                        case rel => exact ⟨b + 1, by go_num, by omega, HD9.out, HS8.out⟩
                        case measure => simp [intOf]; omega
                      · obtain rfl : b = F + 1 := by omega
                        have HDe := Lib.hid (HDb.out.congr (fun s _ => convB_end V F a s))
                        go_wp2_with fail
                        go_roundw
                        case rel => exact ⟨a + 1, by go_num, by omega, HDe.out, HZb.out⟩
                        case measure => simp [intOf]; omega
                  · obtain rfl : a = L := by omega
                    have HDe := Lib.hid (HDa.out.congr (fun s _ => HN.out s))
                    go_wp2_with fail
                    go_roundw
                    case rel => exact ⟨k + 1, D, by go_num, by rw [← HLe.out], by omega, ⟨HZa.out.pool, HZa.out.cost, by rw [← HLe.out]; exact HDe.out, HZa.out.b⟩⟩
                    case measure => simp [intOf]; omega
              · rw [if_neg h5] at hfx
                subst hfx
                have hZ := HW.out
                have hd5 : decide ((k : Int) < 5) = false := by simp; omega
                go_upto_region 14 with fail
                obtain ⟨wz, hwz⟩ : ∃ wz, wz = wr := ⟨_, rfl⟩
                rw [← hwz] at hZ ⊢
                clear hwz
                obtain rfl : N = L + F := hL2
                have HLe := Lib.hid hNl
                clear hNl
                have hmk := make_ints ((L : Int) + (F : Int)) (L + F) (by omega) (by omega)
                have hpz : w.heap.size + 1 < wz.heap.size := hZ.cost.lt
                have hgz : g < wz.heap.size := hZ.l.lt
                go_upto_region 15 with fail
                obtain ⟨w8, hw8⟩ : ∃ w8, w8 = wz.alloc (.cells (arr .i64 (L + F) (fun _ => 0)) 3) := ⟨_, rfl⟩
                have HZ8 := Lib.hid (show StW w pool cost L g V w8 from hZ.keep (by rw [hw8]; exact (Below.refl _ _).alloc (Nat.le_refl _) _))
                have HD8 := Lib.hid (show ArrAt .i64 (L + F) 3 w8 wz.heap.size (conv V F 0) by rw [hw8]; exact (ArrAt.new wz .i64 (L + F) 3 _).congr (fun _ _ => rfl))
                rw [← hw8]
                clear hw8 hZ hmk
                obtain ⟨D, hD⟩ : ∃ D, wz.heap.size = D := ⟨_, rfl⟩
                rw [hD] at HD8 hpz hgz ⊢
                clear hD
                go_wp2_with fail
                go_loopw [10] (fun a_ wq => ∃ a : Nat, a_ = .int .i64 ((a : Nat) : Int) ∧ a ≤ L ∧ ArrAt .i64 (L + F) 3 wq D (conv V F a) ∧ StW w pool cost L g V wq) (fun a_ _ => L - (intOf a_).toNat)
                case atStart => exact ⟨0, rfl, by omega, HD8.out, HZ8.out⟩
                case round =>
                  obtain ⟨a, rfl, ha, hda, hza⟩ := hrel
                  have HDa := Lib.hid hda
                  have HZa := Lib.hid hza
                  clear hda hza HZ8 HD8
                  by_cases halt : a < L
                  · go_wp2_with fail
                    go_loopw [11] (fun b_ wq => ∃ b : Nat, b_ = .int .i64 ((b : Nat) : Int) ∧ b ≤ F + 1 ∧ ArrAt .i64 (L + F) 3 wq D (convB V F a b) ∧ StW w pool cost L g V wq) (fun b_ _ => F + 1 - (intOf b_).toNat)
                    case atStart => exact ⟨0, rfl, by omega, HDa.out.congr (fun s _ => (convB_zero V F a s).symm), HZa.out⟩
                    case round =>
                      obtain ⟨b, rfl, hb, hdb, hzb⟩ := hrel
                      have HDb := Lib.hid hdb
                      have HZb := Lib.hid hzb
                      clear hdb hzb HDa HZa
                      by_cases hblt : b ≤ F
                      · have hab : a + b < L + F := by omega
                        obtain ⟨o0, o1⟩ := HCs.out a b (a + b) (by omega)
                        obtain ⟨v0, v1⟩ := HWs.out a
                        obtain ⟨o, ho⟩ : ∃ o, o = convB V F a b (a + b) := ⟨_, rfl⟩
                        obtain ⟨v, hv⟩ : ∃ v, v = V a := ⟨_, rfl⟩
                        rw [← ho] at o0 o1
                        rw [← hv] at v0 v1
                        have t1 : IntKind.i64.wrap ((a : Int) + (b : Int)) = (a : Int) + (b : Int) := i64_in' (by omega) (by omega)
                        have t2 : IntKind.i64.wrap (o + v) = o + v := i64_in' (by omega) (by omega)
                        have u0 : (0 : Int) ≤ (a : Int) := by omega
                        have u1 : (a : Int) < (L : Int) := by omega
                        have u2 : (0 : Int) ≤ (a : Int) + (b : Int) := by omega
                        have u3 : (a : Int) + (b : Int) < (L : Int) + (F : Int) := by omega
                        have u4 : ((a : Int) + (b : Int)).toNat = a + b := by omega
                        have hcl : ∀ W, StW w pool cost L g V W → W.cell? ⟨g, a, none⟩ = some (.int .i64 v) := fun W hW => by rw [hv]; exact hW.l.cell halt
                        have HNx := Lib.hid (show ∀ s, s < L + F → updI (convB V F a b) (a + b) (o + v) s = convB V F a (b + 1) s from fun s _ => by
                          rw [convB_next, ← ho, ← hv]; rfl)
                        have hZ1 : StW w pool cost L g V wr.drew := HZb.out.drewN 1
                        have hD1 : ArrAt .i64 (L + F) 3 wr.drew D (convB V F a b) := HDb.out
                        go_upto_region 21 with fail
                        refine wp_region_held_drew (S := StW w pool cost L g V) (by kernel_rfl) hZ1 (fun hHeld => ?_)
                        generalize wr.drew = W0 at hHeld hZ1 hD1 ⊢
                        have q1 := hD1.cell hab
                        have q2 := hD1.frozen (a + b)
                        rw [← ho] at q1
                        have HS8 := Lib.hid (hZ1.far (n := D) hpz (by omega) (a + b) (.int .i64 (o + v)))
                        have HD9 := Lib.hid ((hD1.set_ (a + b) (o + v)).congr HNx.out)
                        clear ho hv
                        refine wpAnyH_take (i := 0) (v := ?_) rfl (by kernel_rfl) (by kernel_rfl) (by kernel_rfl) (fun _ _ _ h => h) (Or.inl ⟨by rfl, ?_⟩) hHeld ?_
                        rotate_left
                        · (intro w hSw; go_simp; (try with_reducible rfl))
                        simp only [Act.put, List.getElem_toArray, List.getElem_cons_zero, List.getElem_cons_succ, List.setIfInBounds_toArray, List.set_cons_zero, List.set_cons_succ]
                        refine wpAnyH_take (i := 1) (v := ?_) rfl (by kernel_rfl) (by kernel_rfl) (by kernel_rfl) (fun _ _ _ h => h) (Or.inl ⟨by rfl, ?_⟩) hHeld ?_
                        rotate_left
                        · (intro w hSw; go_simp; (try with_reducible rfl))
                        simp only [Act.put, List.getElem_toArray, List.getElem_cons_zero, List.getElem_cons_succ, List.setIfInBounds_toArray, List.set_cons_zero, List.set_cons_succ]
                        refine wpAnyH_take (i := 2) (v := ?_) rfl (by kernel_rfl) (by kernel_rfl) (by kernel_rfl) (fun _ _ _ h => h) (Or.inl ⟨by rfl, ?_⟩) hHeld ?_
                        rotate_left
                        · (intro w hSw; go_simp; (try with_reducible rfl))
                        simp only [Act.put, List.getElem_toArray, List.getElem_cons_zero, List.getElem_cons_succ, List.setIfInBounds_toArray, List.set_cons_zero, List.set_cons_succ]
                        refine wpAnyH_take (i := 3) (v := ?_) rfl (by kernel_rfl) (by kernel_rfl) (by kernel_rfl) (fun _ _ _ h => h) (Or.inl ⟨by rfl, ?_⟩) hHeld ?_
                        rotate_left
                        · (intro w hSw; go_simp; (try with_reducible rfl))
                        simp only [Act.put, List.getElem_toArray, List.getElem_cons_zero, List.getElem_cons_succ, List.setIfInBounds_toArray, List.set_cons_zero, List.set_cons_succ]
                        refine wpAnyH_take (i := 4) (v := ?_) rfl (by kernel_rfl) (by kernel_rfl) (by kernel_rfl) (fun _ _ _ h => h) (Or.inl ⟨by rfl, ?_⟩) hHeld ?_
                        rotate_left
                        · (intro w hSw; go_simp; (try with_reducible rfl))
                        simp only [Act.put, List.getElem_toArray, List.getElem_cons_zero, List.getElem_cons_succ, List.setIfInBounds_toArray, List.set_cons_zero, List.set_cons_succ]
                        refine wpAnyH_take (i := 6) (v := ?_) rfl (by kernel_rfl) (by kernel_rfl) (by kernel_rfl) (fun _ _ _ h => h) (Or.inl ⟨by rfl, ?_⟩) hHeld ?_
                        rotate_left
                        · (intro w hSw; go_simp; (try with_reducible rfl))
                        simp only [Act.put, List.getElem_toArray, List.getElem_cons_zero, List.getElem_cons_succ, List.setIfInBounds_toArray, List.set_cons_zero, List.set_cons_succ]
                        refine wpAnyH_take (i := 7) (v := ?_) rfl (by kernel_rfl) (by kernel_rfl) (by kernel_rfl) (fun _ _ _ h => h) (Or.inl ⟨by rfl, ?_⟩) hHeld ?_
                        rotate_left
                        · (intro w hSw; go_simp; (try with_reducible rfl))
                        simp only [Act.put, List.getElem_toArray, List.getElem_cons_zero, List.getElem_cons_succ, List.setIfInBounds_toArray, List.set_cons_zero, List.set_cons_succ]
                        refine wpAnyH_take (i := 8) (v := ?_) rfl (by kernel_rfl) (by kernel_rfl) (by kernel_rfl) (fun _ _ _ h => h) (Or.inl ⟨by rfl, ?_⟩) hHeld ?_
                        rotate_left
                        · (intro w hSw; go_simp; (try with_reducible rfl))
                        simp only [Act.put, List.getElem_toArray, List.getElem_cons_zero, List.getElem_cons_succ, List.setIfInBounds_toArray, List.set_cons_zero, List.set_cons_succ]
                        refine wpAnyH_take (i := 9) (v := ?_) rfl (by kernel_rfl) (by kernel_rfl) (by kernel_rfl) (fun _ _ _ h => h) (Or.inl ⟨by rfl, ?_⟩) hHeld ?_
                        rotate_left
                        · (intro w hSw; go_simp; (try with_reducible rfl))
                        simp only [Act.put, List.getElem_toArray, List.getElem_cons_zero, List.getElem_cons_succ, List.setIfInBounds_toArray, List.set_cons_zero, List.set_cons_succ]
                        refine wpAnyH_ready (rs := [5]) (by kernel_rfl) (by simp) ?_
                        refine AllReadyH.cons rfl (fun K hK => ?_) AllReadyH.nil
                        simp only [List.getElem_toArray, List.getElem_cons_zero, List.getElem_cons_succ]
                        go_simp
                        refine hK.out _ _ hHeld (fun _ => ?_)
                        clear hK K
                        try simp only [Act.put, List.setIfInBounds_toArray, List.set_cons_zero, List.set_cons_succ]
                        refine wpAnyH_take (i := 10) (v := ?_) rfl (by kernel_rfl) (by kernel_rfl) (by kernel_rfl) (fun _ _ _ h => h) (Or.inl ⟨by rfl, ?_⟩) hHeld ?_
                        rotate_left
                        · (intro w hSw; go_simp; (try with_reducible rfl))
                        simp only [Act.put, List.getElem_toArray, List.getElem_cons_zero, List.getElem_cons_succ, List.setIfInBounds_toArray, List.set_cons_zero, List.set_cons_succ]
                        refine wpAnyH_take (i := 11) (v := ?_) rfl (by kernel_rfl) (by kernel_rfl) (by kernel_rfl) (fun _ _ _ h => h) (Or.inl ⟨by rfl, ?_⟩) hHeld ?_
                        rotate_left
                        · (intro w hSw; go_simp; (try with_reducible rfl))
                        simp only [Act.put, List.getElem_toArray, List.getElem_cons_zero, List.getElem_cons_succ, List.setIfInBounds_toArray, List.set_cons_zero, List.set_cons_succ]
                        refine wpAnyH_ready (rs := [12]) (by kernel_rfl) (by simp) ?_
                        refine AllReadyH.cons rfl (fun K hK => ?_) AllReadyH.nil
                        simp only [List.getElem_toArray, List.getElem_cons_zero, List.getElem_cons_succ]
                        go_simp
                        refine hK.out _ _ HS8.out (fun _ => ?_)
                        clear hK K q1 q2 hHeld hZ1 hD1 hcl
                        refine wpAnyH_done (by kernel_rfl) ?_ _
                        go_wp2_with fail
                        go_roundw
                        case rel => exact ⟨b + 1, by go_num, by omega, HD9.out, HS8.out⟩
                        case measure => simp [intOf]; omega
                      · obtain rfl : b = F + 1 := by omega
                        have HDe := Lib.hid (HDb.out.congr (fun s _ => convB_end V F a s))
                        go_wp2_with fail
                        go_roundw
                        case rel => exact ⟨a + 1, by go_num, by omega, HDe.out, HZb.out⟩
                        case measure => simp [intOf]; omega
                  · obtain rfl : a = L := by omega
                    have HDe := Lib.hid (HDa.out.congr (fun s _ => HN.out s))
                    go_wp2_with fail
                    go_roundw
                    case rel => exact ⟨k + 1, D, by go_num, by rw [← HLe.out], by omega, ⟨HZa.out.pool, HZa.out.cost, by rw [← HLe.out]; exact HDe.out, HZa.out.b⟩⟩
                    case measure => simp [intOf]; omega
            · obtain rfl : k = 6 := by omega
              have hL6 := len_sum HCan.out 6 (by omega)
              obtain ⟨y0, y1⟩ := g2 5 (by omega)
              have hle : cost 5 < (lenN (frN pool cost) 6 : Int) := by
                have := HCan.out.2.2.2
                rw [over_free] at this; omega
              have r5 := HW.out.cost.cell (i := 5) (by omega)
              obtain ⟨c5, hc5⟩ := Int.eq_ofNat_of_zero_le y0
              rw [hc5] at r5 hle
              have hlt5 : c5 < lenN (frN pool cost) 6 := by omega
              have r6 := HW.out.l.cell hlt5
              have HR := Lib.hid (show WaysR pool cost (waysN (frN pool cost) 6 c5) 0 from .inr (.inr (.inr ⟨HCan.out, by rw [← HS.out]; omega, by rw [hc5, Int.toNat_natCast], rfl⟩)))
              obtain ⟨L, hL⟩ : ∃ L, L = lenN (frN pool cost) 6 := ⟨_, rfl⟩
              obtain ⟨v, hv⟩ : ∃ v, v = waysN (frN pool cost) 6 c5 := ⟨_, rfl⟩
              rw [← hv] at r6 HR
              rw [← hL] at hle ⊢
              have hbw := HW.out.b
              clear hL hv hL6 hlt5 y0 y1 hc5
              have b0 : (0 : Int) ≤ (c5 : Int) := by omega
              go_wp2_with fail
              go_ret2
              exact ⟨v, 0, HR.out, rfl, hbw⟩
        · obtain rfl : B = false := by cases h : B; rfl; exact absurd (hB.1 h) hcanc
          go_wp2_with fail
          go_ret2
          exact ⟨0, 0, .inr (.inr (.inl ⟨⟨g1, g2⟩, by rw [← HS.out]; omega, hcanc, rfl, rfl⟩)), rfl, hbw5⟩
    · refine (good_no (hg2 _) g2).mono ?_
      rintro e w3 ⟨rfl, hb3⟩
      go_wp2_with fail
      go_ret2
      exact ⟨0, 2, .inl ⟨fun h => g2 h.2, rfl, rfl⟩, rfl, keepB hb3 hbw2⟩
  · refine (good_no (hg1 _) g1).mono ?_
    rintro e w2 ⟨rfl, hb2⟩
    go_wp2_with fail
    go_ret2
    exact ⟨0, 2, .inl ⟨fun h => g1 h.1, rfl, rfl⟩, rfl, keepB hb2 hb1⟩
end Go.Proofs.Ytfnlkadcidfhoaa
