/- Layer 5: count of the landed code. -/
import Derived.Test.YtfnlkadcidfhoaaPayMemo
namespace Go.Proofs.Ytfnlkadcidfhoaa
open Go.RowKit Mx Yx
attribute [local go_sem] arr_get
/-- .. and while the rest of the places is gone through. -/
structure StL (w : World) (B : Nat) (f : Nat → Int) (s : Int) (L : Nat) (g : Nat → Int) (n : Nat) (D : DataW Unit) (wr : World) : Prop extends StM w B f s n D wr where
  lt2 : w.heap.size < L
  l : ArrAt .i64 6 23 wr L g
theorem StL.drewN {w wr : World} {B L n : Nat} {f g : Nat → Int} {s : Int} {D : DataW Unit} (h : StL w B f s L g n D wr) (j : Nat) : StL w B f s L g n D (wr.drewN j) := { h.toStM.drewN j with lt2 := h.lt2, l := h.l }
theorem StL.turn {w wr wy : World} {B L n n' : Nat} {f g : Nat → Int} {s : Int} {D D' : DataW Unit} (h : StL w B f s L g n D wr) (hm : Memo wy B n' D') (hr : Right D') (hg : wr.grownBy wy (some B)) : StL w B f s L g n' D' wy :=
  { h.toStM.turn hm hr hg with lt2 := h.lt2, l := h.l.grown hg (by have := h.lt; have := h.lt2; simp; omega) }
def CnRel (w : World) (B : Nat) (f : Nat → Int) (s : Nat) (g : Nat → Int) (L n M K : Nat) (ways i : Value) (wr : World) : Prop :=
  ∃ (k n' : Nat) (D : DataW Unit), i = .int .i64 ((k : Nat) : Int) ∧ ways = .int .i64 (sumG (cntZ g) s k) ∧ k ≤ K ∧ n' ≤ n + k * M ∧ StL w B f s L g n' D wr
set_option linter.unusedSimpArgs false in
set_option maxRecDepth 100000 in
set_option maxHeartbeats 2000000 in
theorem count_step (f : Nat → Int) (ih : ∀ (g : Nat → Int) (s B n : Nat) (D : DataW Unit) (w : World), posN g 6 < posN f 6 → OkC g s → Memo w B n D → Right D → n + 62 ^ posN g 6 ≤ 62 ^ 7 →
      Calls Try.prog 24 #[.map (some B), keyV g s] w (CountPost w B g s (n + 62 ^ posN g 6))) :
    ∀ (s B n : Nat) (D : DataW Unit) (w : World), OkC f s → Memo w B n D → Right D → n + 62 ^ posN f 6 ≤ 62 ^ 7 →
    Calls Try.prog 24 #[.map (some B), keyV f s] w (CountPost w B f s (n + 62 ^ posN f 6)) := by
  intro s B n D w hok hmemo hright hn
  have hsz6 : ∀ g, (Try.prog.info? 23).map (·.size) = some (arr .i64 6 g).size := fun g => by rw [arr_size]; exact size6
  have hsz7 : ∀ g, (Try.prog.info? 51).map (·.size) = some (arr .i64 7 g).size := fun g => by rw [arr_size]; exact size7
  have h1 : ∀ g, (arr .i64 6 g).all (·.oneCell') = true := fun g => arr_one .i64 6 g
  obtain ⟨kl, hkey⟩ := hok.key
  obtain ⟨cn0, cn1⟩ := cntZ_range hok.room s
  have hwf := i64_wf (x := cntZ f s) (by omega) (by omega)
  have hz6 := zero6
  obtain ⟨N, hN⟩ : ∃ N, N = n + 62 ^ posN f 6 := ⟨_, rfl⟩
  have HN := Lib.hid hN
  have hn1 : n + 1 ≤ N := by have : 0 < 62 ^ posN f 6 := Nat.pow_pos (by omega); omega
  rw [← hN] at hn ⊢
  clear hN
  unfold keyV
  go_enter Try.func24, Try.ntmps24
  go_upto_region 1 with fail
  obtain ⟨w1, hw1⟩ : ∃ w1, w1 = w.alloc (.cells (arr .i64 7 (keyF f s)) 51) := ⟨_, rfl⟩
  have hs1 : StM w B f s n D w1 := by rw [hw1]; exact stM_new hmemo hright f s
  rw [← hw1]
  clear hw1
  go_upto_region 2 with (first
    | (refine wpList_load_row rfl 51 (.tmp 3) rfl w.heap.size rfl 51 _ (0, 0) _ hs1.o Try.underlying51 rfl (hsz7 (keyF f s)) ?_)
    | (at_lookup; refine wpList_lookup_own_ok_int _ rfl _ _ 49 rfl 51 3 .i64 lawOpen Try.underlying49 Try.underlying3 (zeroI _) B n _ rfl hs1.m _ kl rfl hkey ?_; intro c hat hwc))
  obtain ⟨b, hb⟩ : ∃ b, b = Maps.has D kl := ⟨_, rfl⟩
  rw [← hb]
  have HB := Lib.hid hb
  have HAt := Lib.hid hat
  clear hb hat hwc
  cases b with
  | true =>
    have hc := hright.2 f s kl hkey HB.out.symm (.lit (.int .i64 0))
    rw [HAt.out] at hc
    have hce : c = cntZ f s := by injection hc with hc; injection hc
    subst hce
    clear hc HAt
    go_wp2_with fail
    go_ret
    exact ⟨rfl, n, D, by omega, hs1.m, hright, hs1.grow⟩
  | false =>
    clear HAt HB
    go_upto_region 5 with fail
    have o1 := hs1.o
    go_wp2_with (refine load_room rfl (.tmp 19) rfl w.heap.size rfl f s o1 ?_)
    refine (firstRoom_any f w1).mono ?_
    rintro e w2 ⟨j, hj, rfl, hb2⟩
    have hs2 := hs1.keep hb2
    clear hb2 hs1 o1
    rcases hj with ⟨p, hp, rfl, hpos⟩ | ⟨hno, rfl⟩
    · have b0 : (0 : Int) ≤ (p : Int) := by omega
      have b1 : (p : Int) < 6 := by omega
      have o2 := hs2.o
      have hnew : (w2.alloc (.cells (arr .i64 6 zeroC) 23)).heap[w2.heap.size]? = some (.cells (arr .i64 6 zeroC) 23 (0, 0)) := heap_alloc_new _ _
      go_upto_region 8 with (first
        | (refine load_room rfl (.tmp 24) rfl w.heap.size rfl f s o2 ?_)
        | (refine wpList_store_row rfl 23 (.tmp 9) (.tmp 25) rfl w2.heap.size _ rfl rfl 23 (arr .i64 6 zeroC) hnew (hsz6 f) (by rw [arr_size, arr_size]) (h1 f) ?_))
      obtain ⟨w3, hw3⟩ : ∃ w3, w3 = (w2.alloc (.cells (arr .i64 6 zeroC) 23)).setRow w2.heap.size (arr .i64 6 f) := ⟨_, rfl⟩
      have l3 : ArrAt .i64 6 23 w3 w2.heap.size f := by rw [hw3]; exact ArrAt.setRow (show ArrAt .i64 6 23 _ _ _ from hnew) _
      have hb3 : Below w2.heap.size w2 w3 := by rw [hw3]; exact below_setRow ((Below.refl _ _).alloc (Nat.le_refl _) _) _ _ (Nat.le_refl _)
      rw [← hw3]
      clear hw3 hnew
      have q1 := l3.cell hp
      have q2 := l3.frozen p
      go_upto_region 9 with fail
      obtain ⟨w4, hw4⟩ : ∃ w4, w4 = w3.setCell ⟨w2.heap.size, p, none⟩ (.int .i64 0) := ⟨_, rfl⟩
      have hs4 : StL w B f s w2.heap.size (updI f p 0) n D w4 := by
        have hb4 : Below w2.heap.size w2 w4 := by rw [hw4]; exact hb3.setCell (p := ⟨w2.heap.size, p, none⟩) (Nat.le_refl _) _
        refine { hs2.keep hb4 with lt2 := o2.lt, l := ?_ }
        rw [hw4]
        exact l3.set_ p 0
      rw [← hw4]
      clear hw4 q1 q2 l3 hb3 o2 hs2
      obtain ⟨L, hL⟩ : ∃ L, w2.heap.size = L := ⟨_, rfl⟩
      rw [hL] at hs4 ⊢
      clear hL
      obtain ⟨x0, x1⟩ := hok.room p hp
      have hso := hok.owed
      have hpeel := cntZ_peel (f := f) hp s
      obtain ⟨x, hx⟩ : ∃ x, x = f p := ⟨_, rfl⟩
      have HOk := Lib.hid (fun t (ht : t ≤ s) => hok.upd p ht)
      rw [← hx] at hpos x0 x1 hpeel
      have HX := Lib.hid hx
      have hps := posN_upd (f := f) (p := p) (by rw [← hx]; exact hpos) 6 hp
      have HPs := Lib.hid hps
      have HPl := Lib.hid hpeel
      have c1 : ∀ W, StL w B f s L (updI f p 0) n D W → W.cell? ⟨w.heap.size, p, none⟩ = some (.int .i64 x) := fun W hW => by rw [HX.out]; exact room_cell hW.o hp
      have c2 : ∀ W, StL w B f s L (updI f p 0) n D W → W.cell? ⟨w.heap.size, 6, none⟩ = some (.int .i64 s) := fun W hW => owed_cell hW.o
      clear hx hps hpeel
      obtain ⟨mn, hmn⟩ : ∃ mn : Nat, mn = min x.toNat s := ⟨_, rfl⟩
      have hmin : (if (s : Int) < x then (s : Int) else x) = (mn : Int) := by rw [hmn]; split <;> omega
      have hminV : (if (s : Int) < x then Value.int .i64 (s : Int) else Value.int .i64 x) = Value.int .i64 (mn : Int) := by rw [← hmin]; split <;> rfl
      have hmw : IntKind.i64.wrap ((mn : Int) + 1) = ((mn + 1 : Nat) : Int) := i64_in' (by omega) (by omega)
      have hmn1 : mn ≤ s ∧ mn ≤ 60 := by rw [hmn]; omega
      have HMn := Lib.hid hmn
      clear hmn
      have hZ1 : StL w B f s L (updI f p 0) n D w4.drew := hs4.drewN 1
      refine wp_region_held_drew (S := StL w B f s L (updI f p 0) n D) (by kernel_rfl) hZ1 (fun hHeld => ?_)
      generalize w4.drew = W0 at hHeld hZ1 ⊢
      refine wpAnyH_take (i := 0) (v := ?_) rfl (by kernel_rfl) (by kernel_rfl) (by kernel_rfl) (fun _ _ _ h => h) (Or.inl ⟨by rfl, ?_⟩) hHeld ?_
      rotate_left
      · (intro w hSw; go_simp; (try with_reducible rfl))
      simp only [Act.put, List.getElem_toArray, List.getElem_cons_zero, List.getElem_cons_succ, List.setIfInBounds_toArray, List.set_cons_zero, List.set_cons_succ]
      refine wpAnyH_take (i := 1) (v := ?_) rfl (by kernel_rfl) (by kernel_rfl) (by kernel_rfl) (fun _ _ _ h => h) (Or.inl ⟨by rfl, ?_⟩) hHeld ?_
      rotate_left
      · (intro w hSw; go_simp; (try with_reducible rfl))
      simp only [Act.put, List.getElem_toArray, List.getElem_cons_zero, List.getElem_cons_succ, List.setIfInBounds_toArray, List.set_cons_zero, List.set_cons_succ]
      refine wpAnyH_take (i := 2) (v := ?_) rfl (by kernel_rfl) (by kernel_rfl) (by kernel_rfl) (fun _ _ _ h => h) (Or.inl ⟨by rfl, ?_⟩) hHeld ?_
      rotate_left
      · (intro w hSw; go_simp; (try with_reducible rfl))
      simp only [Act.put, List.getElem_toArray, List.getElem_cons_zero, List.getElem_cons_succ, List.setIfInBounds_toArray, List.set_cons_zero, List.set_cons_succ]
      refine wpAnyH_take (i := 3) (v := ?_) rfl (by kernel_rfl) (by kernel_rfl) (by kernel_rfl) (fun _ _ _ h => h) (Or.inl ⟨by rfl, ?_⟩) hHeld ?_
      rotate_left
      · (intro w hSw; go_simp; (try with_reducible rfl))
      simp only [Act.put, List.getElem_toArray, List.getElem_cons_zero, List.getElem_cons_succ, List.setIfInBounds_toArray, List.set_cons_zero, List.set_cons_succ]
      refine wpAnyH_take (i := 4) (v := ?_) rfl (by kernel_rfl) (by kernel_rfl) (by kernel_rfl) (fun _ _ _ h => h) (Or.inl ⟨by rfl, ?_⟩) hHeld ?_
      rotate_left
      · (intro w hSw; go_simp; (try with_reducible rfl))
      simp only [Act.put, List.getElem_toArray, List.getElem_cons_zero, List.getElem_cons_succ, List.setIfInBounds_toArray, List.set_cons_zero, List.set_cons_succ]
      refine wpAnyH_take (i := 5) (v := ?_) rfl (by kernel_rfl) (by kernel_rfl) (by kernel_rfl) (fun _ _ _ h => h) (Or.inl ⟨by rfl, ?_⟩) hHeld ?_
      rotate_left
      · (intro w hSw; go_simp; (try with_reducible rfl))
      simp only [Act.put, List.getElem_toArray, List.getElem_cons_zero, List.getElem_cons_succ, List.setIfInBounds_toArray, List.set_cons_zero, List.set_cons_succ]
      refine wpAnyH_take (i := 6) (v := ?_) rfl (by kernel_rfl) (by kernel_rfl) (by kernel_rfl) (fun _ _ _ h => h) (Or.inl ⟨by rfl, ?_⟩) hHeld ?_
      rotate_left
      · (intro w hSw; go_simp; (try with_reducible rfl))
      simp only [Act.put, List.getElem_toArray, List.getElem_cons_zero, List.getElem_cons_succ, List.setIfInBounds_toArray, List.set_cons_zero, List.set_cons_succ]
      refine wpAnyH_take (i := 7) (v := ?_) rfl (by kernel_rfl) (by kernel_rfl) (by kernel_rfl) (fun _ _ _ h => h) (Or.inl ⟨by rfl, ?_⟩) hHeld ?_
      rotate_left
      · (intro w hSw; go_simp; (try with_reducible rfl))
      simp only [Act.put, List.getElem_toArray, List.getElem_cons_zero, List.getElem_cons_succ, List.setIfInBounds_toArray, List.set_cons_zero, List.set_cons_succ]
      refine wpAnyH_take (i := 8) (v := ?_) rfl (by kernel_rfl) (by kernel_rfl) (by kernel_rfl) (fun _ _ _ h => h) (Or.inl ⟨by rfl, ?_⟩) hHeld ?_
      rotate_left
      · (intro w hSw; go_simp; (try with_reducible rfl))
      simp only [Act.put, List.getElem_toArray, List.getElem_cons_zero, List.getElem_cons_succ, List.setIfInBounds_toArray, List.set_cons_zero, List.set_cons_succ]
      refine wpAnyH_done (by kernel_rfl) ?_ _
      clear hHeld c1 c2
      go_upto_region 10 with fail
      have HZ1 := Lib.hid hZ1
      have hM := Nat.pow_pos (n := posN (updI f p 0) 6) (show 0 < 62 by omega)
      have hNM : n + (mn + 1) * 62 ^ posN (updI f p 0) 6 + 1 ≤ N := by
        have h2 := HN.out
        rw [HPs.out, Nat.pow_succ] at h2
        have h3 : (mn + 1) * 62 ^ posN (updI f p 0) 6 ≤ 61 * 62 ^ posN (updI f p 0) 6 := Nat.mul_le_mul_right _ (by omega)
        omega
      have hlower : posN (updI f p 0) 6 < posN f 6 := by rw [HPs.out]; omega
      have HIh := Lib.hid (fun s n D W => ih (updI f p 0) s B n D W hlower)
      have hcr := fun t => cntZ_range (HOk.out 0 (by omega)).room t
      have HCr := Lib.hid hcr
      have HSr := Lib.hid (fun j => sumG_range hcr s j)
      obtain ⟨g0, hg0⟩ : ∃ g0, g0 = updI f p 0 := ⟨_, rfl⟩
      rw [← hg0] at HZ1 HOk HPl hNM HIh HCr HSr hM
      obtain ⟨M, hMe⟩ : ∃ M, M = 62 ^ posN g0 6 := ⟨_, rfl⟩
      rw [← hMe] at hNM HIh hM
      clear hZ1 hs4 hmin hminV hlower ih hcr hg0 hMe hpos HX HPs hmw
      go_loopw [7, 36] (fun ways i wr => CnRel w B f s g0 L n M (mn + 1) ways i wr) (fun _ i _ => mn + 1 - (intOf i).toNat)
      case atStart => exact ⟨0, n, D, rfl, rfl, by omega, by omega, HZ1.out⟩
      case round =>
        obtain ⟨k, n', D', rfl, rfl, hk, hn', hst⟩ := hrel
        have HS := Lib.hid hst
        clear hst HZ1
        by_cases hlt : k < mn + 1
        · have hd : decide ((k : Int) < (mn : Int) + 1) = true := by simp; omega
          have l1 := HS.out.l
          have o6 := owed_cell HS.out.o
          obtain ⟨q, hq⟩ : ∃ q : Nat, s = k + q := ⟨s - k, by omega⟩
          have hqw : IntKind.i64.wrap ((s : Int) - (k : Int)) = (q : Int) := by rw [i64_in' (by omega) (by omega)]; omega
          have HQ := Lib.hid hq
          clear hq hso
          go_wp2_with (first
            | (refine wpList_load_row rfl 23 (.tmp 9) rfl L rfl 23 _ (0, 0) _ l1 Try.underlying23 rfl (hsz6 g0) ?_)
            | (refine wpList_build_open rfl (.tmp 41) (.tmp 45) rfl g0 q rfl rfl ?_))
          have hkM : (k + 1) * M ≤ (mn + 1) * M := Nat.mul_le_mul_right _ (by omega)
          have hkM1 : (k + 1) * M = k * M + M := Nat.succ_mul k M
          have HkM := Lib.hid hkM1
          refine Calls.mono (calls_at (HIh.out q n' D' wr (HOk.out q (by have := HQ.out; omega)) HS.out.m HS.out.right (by omega)) ?_) ?_
          · rfl
          rintro e w6 ⟨rfl, n2, D2, hn2, hm2, hr2, hg2⟩
          have HS6 := Lib.hid (HS.out.turn hm2 hr2 hg2)
          have hn6 : n2 ≤ n + (k + 1) * M := by omega
          have HN6 := Lib.hid hn6
          obtain ⟨u0, u1⟩ := HSr.out k
          obtain ⟨v0, v1⟩ := HCr.out q
          have hsum : sumG (cntZ g0) s (k + 1) = sumG (cntZ g0) s k + cntZ g0 q := by
            show sumG (cntZ g0) s k + cntZ g0 ((s : Int) - (k : Int)) = _
            rw [show (s : Int) - (k : Int) = (q : Int) by have := HQ.out; omega]
          have HSum := Lib.hid hsum
          obtain ⟨u, hu⟩ : ∃ u, u = sumG (cntZ g0) s k := ⟨_, rfl⟩
          obtain ⟨v, hv⟩ : ∃ v, v = cntZ g0 q := ⟨_, rfl⟩
          rw [← hu] at u0 u1 HSum ⊢
          rw [← hv] at v0 v1 HSum ⊢
          have huv : IntKind.i64.wrap (u + v) = u + v := i64_in' (by omega) (by omega)
          clear hkM hkM1 hn6 hsum hu hv hm2 hr2 hg2 hn2 l1 o6
          go_wp2_with fail
          go_roundw
          case rel => exact ⟨k + 1, n2, D2, by go_num, by rw [HSum.out], by omega, HN6.out, HS6.out⟩
          case measure => simp [intOf]; omega
        · obtain rfl : k = mn + 1 := by omega
          have hd : decide (((mn + 1 : Nat) : Int) < (mn : Int) + 1) = false := by simp
          have HV := Lib.hid (show cntZ f s = sumG (cntZ g0) s (mn + 1) by rw [HPl.out, HMn.out])
          rw [HV.out] at hwf
          obtain ⟨v, hv⟩ : ∃ v, v = sumG (cntZ g0) s (mn + 1) := ⟨_, rfl⟩
          rw [← hv] at HV hwf ⊢
          have hs9 := HS.out.toStM
          clear hv
          go_upto_region 16 with fail
          have o7 := hs9.o
          have m7 := hs9.m
          go_wp2_with (first
            | (refine wpList_load_row rfl 51 (.tmp 3) rfl w.heap.size rfl 51 _ (0, 0) _ o7 Try.underlying51 rfl (hsz7 (keyF f s)) ?_)
            | (at_mapUpdate; refine wpList_mapUpdate_own _ rfl _ _ _ 49 rfl 51 3 lawOpen Try.underlying49 _ B n' _ rfl m7 (by unfold maxLen; omega) _ _ _ rfl rfl hkey _ [] (plainElem_int Try.underlying3 hwf) ?_; intro w9 hown9 hgrow9))
          go_ret
          refine ⟨by rw [HV.out]; rfl, n' + 1, _, by omega, hown9, ?_, hs9.grow.trans hgrow9⟩
          have hput := hs9.right.put hkey
          rw [HV.out] at hput
          exact hput
    · have hcz := cntZ_none hno s
      have o2 := owed_cell hs2.o
      by_cases hs0 : s = 0
      · rw [hs0] at hcz o2
        change _ = some (Value.int .i64 0) at o2
        have HV := Lib.hid (show cntZ f s = 1 by rw [hs0, hcz]; rfl)
        rw [HV.out] at hwf
        clear hcz hs0
        go_upto_region 16 with fail
        have o7 := hs2.o
        have m7 := hs2.m
        go_wp2_with (first
          | (refine wpList_load_row rfl 51 (.tmp 3) rfl w.heap.size rfl 51 _ (0, 0) _ o7 Try.underlying51 rfl (hsz7 (keyF f s)) ?_)
          | (at_mapUpdate; refine wpList_mapUpdate_own _ rfl _ _ _ 49 rfl 51 3 lawOpen Try.underlying49 _ B n _ rfl m7 (by unfold maxLen; omega) _ _ _ rfl rfl hkey _ [] (plainElem_int Try.underlying3 hwf) ?_; intro w9 hown9 hgrow9))
        go_ret
        refine ⟨by rw [HV.out]; rfl, n + 1, _, by omega, hown9, ?_, hs2.grow.trans hgrow9⟩
        have hput := hs2.right.put hkey
        rw [HV.out] at hput
        exact hput
      · have HV := Lib.hid (show cntZ f s = 0 by rw [hcz, if_neg (by omega)])
        have hd : ((s : Int) == 0) = false := by simp; omega
        rw [HV.out] at hwf
        clear hcz
        go_upto_region 16 with fail
        have o7 := hs2.o
        have m7 := hs2.m
        go_wp2_with (first
          | (refine wpList_load_row rfl 51 (.tmp 3) rfl w.heap.size rfl 51 _ (0, 0) _ o7 Try.underlying51 rfl (hsz7 (keyF f s)) ?_)
          | (at_mapUpdate; refine wpList_mapUpdate_own _ rfl _ _ _ 49 rfl 51 3 lawOpen Try.underlying49 _ B n _ rfl m7 (by unfold maxLen; omega) _ _ _ rfl rfl hkey _ [] (plainElem_int Try.underlying3 hwf) ?_; intro w9 hown9 hgrow9))
        go_ret
        refine ⟨by rw [HV.out]; rfl, n + 1, _, by omega, hown9, ?_, hs2.grow.trans hgrow9⟩
        have hput := hs2.right.put hkey
        rw [HV.out] at hput
        exact hput
end Go.Proofs.Ytfnlkadcidfhoaa
