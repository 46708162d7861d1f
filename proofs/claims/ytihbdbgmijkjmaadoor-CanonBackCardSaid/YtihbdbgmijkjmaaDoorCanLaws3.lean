/- Layer 11: the law CanonBack. -/
import Derived.Test.YtihbdbgmijkjmaaDoorCanLaws2
namespace Go.Proofs.YtihbdbgmijkjmaaDoor
open Go.RowKit Ex Px Wx
attribute [local go_sem] arr_get
set_option maxRecDepth 100000
set_option linter.unusedSimpArgs false in
set_option maxHeartbeats 0 in
theorem canonBack_walk {w : World} (S : CanSaid w) (s : StT) (O : SlT) (L : Nat → SlT) (cs : Array Value) (Ab : Option Addr) (nb cb : Nat) (lb : List Int) (h : ReadsS w.heap.size w cs s O L) (hN : Nums .u8 w w.heap.size Ab nb lb) (hnc : nb ≤ cb) (hb : byB lb) :
    Calls Tryd.prog 5 #[.agg cs, .slice Ab nb cb] w fun e w' => e = .returned (.bool true) ∧ Below w.heap.size w w' := by
  have hcsz := h.size
  go_enter Tryd.func5, Tryd.ntmps5
  have hcs := h.cs
  have c0 : cs[0]? = some (.slice O.A O.n O.c) := by rw [hcs]; exact stC_objs _ _ _ _
  have hOn := h.on
  have hOc := h.oc
  have hO := h.o
  have hsz : (Tryd.prog.info? 29).map (·.size) = some cs.size := by rw [h.size]; exact size37
  have H := Lib.hid h
  clear h
  obtain ⟨A, n, c⟩ := O
  simp only at c0 hOn hOc hO
  have HC := Lib.hid hcs
  clear hcs
  subst hOn
  go_upto_region 1 with fail
  have hs0 : StAt (w.alloc (.cells cs 29)) w.heap.size cs := StAt.new _ _
  have hb0 : Below w.heap.size w (w.alloc (.cells cs 29)) := (Below.refl _ _).alloc (Nat.le_refl _) _
  obtain ⟨w1, hw1⟩ : ∃ w1, w1 = w.alloc (.cells cs 29) := ⟨_, rfl⟩
  rw [← hw1] at hs0 hb0 ⊢
  clear hw1
  have c1 := (hs0.cell 0).trans c0
  go_wp2_with fail
  refine (canAlive S w1 hb0).mono ?_
  rintro e w2 ⟨rfl, hb2⟩
  have hs2 := hs0.keep hb2
  have hbw2 := keepB hb2 hb0
  clear c1 hs0
  go_wp2_with (refine load_wantS (by rfl) (.tmp 2) rfl w.heap.size rfl cs hs2 hcsz ?_)
  have hl := long_any s _ L cs 100 w2 w2.heap.size ((H.out.grow hbw2)) (by omega)
  rw [show ((100 : Nat) : Int) = 100 from rfl] at hl
  refine hl.mono ?_
  clear hl
  rintro e w3 ⟨rfl, hb3⟩
  have hs3 := hs2.keep hb3
  have hbw3 := keepB hb3 hbw2
  clear hb2 hs2 hbw2 hb3 hb0
  by_cases hlg : longS s 100 = true
  · rw [hlg]
    go_wp2_with fail
    go_ret
    exact ⟨rfl, hbw3⟩
  replace hlg : longS s 100 = false := by simpa using hlg
  obtain ⟨hn, hll⟩ := long_not (most := 100) hlg
  rw [hlg]
  clear hlg
  by_cases h5 : 2000 < nb
  · have d5 : decide ((2000 : Int) < (nb : Int)) = true := decide_eq_true (by omega)
    clear h5
    go_wp2_with fail
    go_ret
    exact ⟨rfl, hbw3⟩
  have d5 : decide ((2000 : Int) < (nb : Int)) = false := decide_eq_false (by omega)
  have hn6 : s.objs.length ≤ 1000000 := by omega
  have hl6 : ∀ z < 11, (s.lists z).length ≤ 1000000 := fun z hz => by have := hll z hz; omega
  have HNb := Lib.hid hN
  have HBb := Lib.hid hb
  clear hN hb hn hll
  go_wp2_with (refine load_wantS (by rfl) (.tmp 2) rfl w.heap.size rfl cs hs3 hcsz ?_)
  refine (S.bytes s _ L cs w3 (H.out.grow hbw3) hn6 hl6 hbw3).mono ?_
  rintro e w4 ⟨A4, n4, c4, rfl, hN4, hc4, hb4⟩
  have hs4 := hs3.keep hb4
  have hbw4 := keepB hb4 hbw3
  clear hb4 hs3 hbw3
  by_cases hck : chkS s = 0
  case neg =>
    rw [errV_err hck]
    clear hN4
    go_wp2_with fail
    refine (S.parse Ab nb cb lb w4 ((HNb.out.below hbw4).more (hbw4).size) hnc HBb.out (by omega) hbw4).mono ?_
    rintro e x2 ⟨y2, O2, L2, rfl, hR2, hx2⟩
    have hbx2 := keepB hx2 hbw4
    obtain ⟨p, q, hp⟩ : ∃ p q, parseS lb = (p, q) := ⟨_, _, rfl⟩
    obtain ⟨pn, pl⟩ := parse_small HBb.out hp
    rw [hp] at hR2 ⊢
    simp only at hR2 ⊢
    have hz2 := hR2.size
    have hnew : (x2.alloc (.cells st0 29)).heap[x2.heap.size]? = some (.cells st0 29 (0, 0)) := heap_alloc_new _ _
    have hsz : (Tryd.prog.info? 29).map (·.size) = some y2.size := by rw [hR2.size]; exact size37
    have hs0 : st0.size = y2.size := by rw [hR2.size, show st0.size = 37 from stC_size _ _ _ _]
    have hone := hR2.one
    have hz := st0_is
    go_upto_region 11 with (refine wpList_store_row rfl 29 (.tmp 9) (.tmp 44) rfl x2.heap.size _ rfl rfl 29 st0 hnew hsz hs0 hone ?_)
    clear hnew hsz hs0 hone hz
    obtain ⟨x3, hx3, hg3, hb3⟩ := box_new x2 y2
    rw [← hx3]
    have hR3 := hR2.grow hb3
    have hbx3 := keepB hb3 hbx2
    obtain ⟨g3, hg⟩ : ∃ g3, g3 = x2.heap.size := ⟨_, rfl⟩
    rw [← hg] at hg3
    rw [← hg]
    clear hx3 hg hb3 hR2 hx2
    by_cases hq0 : q = 0
    case neg =>
      obtain rfl := parse_err hq0 hp
      have hst := states_any sT0 sT0 _ _ _ _ y2 st0 x3 hR3 (reads_0 _ _) (by simp [sT0]) (by simp [sT0]) (fun z _ => by simp [sT0]) (fun z _ => by simp [sT0])
      rw [sameS_refl] at hst
      have HSt := Lib.hid hst
      rw [errV_err hq0]
      clear hR3 hst hq0 hp pn pl
      go_wp2_with (first
        | (refine load_wantS (by rfl) (.tmp 9) rfl g3 rfl y2 hg3 hz2 ?_)
        | (refine wpList_build0 rfl rfl ?_))
      refine HSt.out.mono ?_
      rintro e x4 ⟨rfl, hb4⟩
      go_wp2_with fail
      go_ret
      exact ⟨rfl, keepB hb4 hbx3⟩
    subst hq0
    have ht := parse_ok HBb.out hp
    have HTold := Lib.hid ht
    rw [errV_nil]
    clear hp ht
    go_wp2_with (refine load_wantS (by rfl) (.tmp 9) rfl g3 rfl y2 hg3 hz2 ?_)
    refine (S.bytes p _ _ y2 x3 hR3 pn pl hbx3).mono ?_
    rintro e x4 ⟨A4, n4, c4, rfl, hN4, hc4, hb4⟩
    rw [if_pos HTold.out.chk, HTold.out.bytes] at hN4
    rw [HTold.out.chk, errV_nil]
    have hbx4 := keepB hb4 hbx3
    have HN4 := Lib.hid hN4
    clear hN4 hR3 hg3
    go_wp2_with fail
    refine (numBytes_any A4 Ab n4 c4 nb cb lb lb x4 _ _ HN4.out (HNb.out.below hbx4) HBb.out HBb.out).mono ?_
    rintro e x5 ⟨rfl, rfl⟩
    rw [show decide (lb = lb) = true from decide_eq_true rfl]
    go_wp2_with fail
    go_ret
    exact ⟨rfl, hbx4⟩
  rw [hck, errV_nil]
  rw [if_pos hck] at hN4
  have HI := Lib.hid (show _ ∧ _ ∧ _ ∧ _ from ⟨fun o ho i (hi : i < 18) => H.out.ow o ho i hi, fun z (hz : z < 11) n hn => H.out.lw z hz n hn, fun i (hi : i < 18) => H.out.pw i hi, fun i (hi : i < 7) => H.out.gw i hi⟩)
  have hby := bytes_byB hck HI.out.1 HI.out.2.1 HI.out.2.2.1 HI.out.2.2.2
  have hfew := bytes_few hck
  obtain ⟨t, ht, hts⟩ := parse_bytes hck HI.out.1 HI.out.2.1 HI.out.2.2.1 HI.out.2.2.2
  have hln4 := hN4.len
  have hpar := S.parse A4 n4 c4 (bytesS s) w4 hN4 hc4 hby (by omega) hbw4
  obtain ⟨tn, tl6⟩ := parse_small hby ht
  have HTs := Lib.hid (sameS_iff.2 hts.symm)
  have HP := Lib.hid ht
  clear hck hby hfew ht hts hln4 hN4 HI
  go_wp2_with fail
  refine hpar.mono ?_
  rintro e w5 ⟨c5, O5, L5, rfl, hR5, hb5⟩
  clear hpar
  rw [HP.out] at hR5 ⊢
  simp only at hR5 ⊢
  rw [errV_nil]
  have hs5 := hs4.keep hb5
  have hbw5 := keepB hb5 hbw4
  have hsz5 := hR5.size
  clear hs4 hb5 hsz
  have hnew : (w5.alloc (.cells st0 29)).heap[w5.heap.size]? = some (.cells st0 29 (0, 0)) := heap_alloc_new _ _
  have hsz : (Tryd.prog.info? 29).map (·.size) = some c5.size := by rw [hR5.size]; exact size37
  have hs0 : st0.size = c5.size := by rw [hR5.size, show st0.size = 37 from stC_size _ _ _ _]
  have hone := hR5.one
  have hz := st0_is
  go_upto_region 8 with (refine wpList_store_row rfl 29 (.tmp 7) (.tmp 31) rfl w5.heap.size _ rfl rfl 29 st0 hnew hsz hs0 hone ?_)
  clear hnew hsz hs0 hone hz
  obtain ⟨w6, hw6, hg6, hb6⟩ := box_new w5 c5
  rw [← hw6]
  have hR6 := hR5.grow hb6
  have hs6 := hs5.keep hb6
  have hbw6 := keepB hb6 hbw5
  obtain ⟨g6, hg⟩ : ∃ g6, g6 = w5.heap.size := ⟨_, rfl⟩
  rw [← hg] at hg6
  rw [← hg]
  have hst := states_any s t _ _ L L5 cs c5 w6 (H.out.grow hbw6) hR6 hn6 tn hl6 tl6
  rw [HTs.out] at hst
  have HSt := Lib.hid hst
  clear hw6 hg hb6 hR5 hR6 hs5 hst
  go_wp2_with (first
    | (refine load_wantS (by rfl) (.tmp 2) rfl w.heap.size rfl cs hs6 hcsz ?_)
    | (refine load_wantS (by rfl) (.tmp 7) rfl g6 rfl c5 hg6 hsz5 ?_))
  refine HSt.out.mono ?_
  rintro e w7 ⟨rfl, hb7⟩
  have hbw7 := keepB hb7 hbw6
  clear hs6 hg6 hb7
  go_wp2_with fail
  refine (S.parse Ab nb cb lb w7 ((HNb.out.below hbw7).more (hbw7).size) hnc HBb.out (by omega) hbw7).mono ?_
  rintro e x2 ⟨y2, O2, L2, rfl, hR2, hx2⟩
  have hbx2 := keepB hx2 hbw7
  obtain ⟨p, q, hp⟩ : ∃ p q, parseS lb = (p, q) := ⟨_, _, rfl⟩
  obtain ⟨pn, pl⟩ := parse_small HBb.out hp
  rw [hp] at hR2 ⊢
  simp only at hR2 ⊢
  have hz2 := hR2.size
  have hnew : (x2.alloc (.cells st0 29)).heap[x2.heap.size]? = some (.cells st0 29 (0, 0)) := heap_alloc_new _ _
  have hsz : (Tryd.prog.info? 29).map (·.size) = some y2.size := by rw [hR2.size]; exact size37
  have hs0 : st0.size = y2.size := by rw [hR2.size, show st0.size = 37 from stC_size _ _ _ _]
  have hone := hR2.one
  have hz := st0_is
  go_upto_region 11 with (refine wpList_store_row rfl 29 (.tmp 9) (.tmp 44) rfl x2.heap.size _ rfl rfl 29 st0 hnew hsz hs0 hone ?_)
  clear hnew hsz hs0 hone hz
  obtain ⟨x3, hx3, hg3, hb3⟩ := box_new x2 y2
  rw [← hx3]
  have hR3 := hR2.grow hb3
  have hbx3 := keepB hb3 hbx2
  obtain ⟨g3, hg⟩ : ∃ g3, g3 = x2.heap.size := ⟨_, rfl⟩
  rw [← hg] at hg3
  rw [← hg]
  clear hx3 hg hb3 hR2 hx2
  by_cases hq0 : q = 0
  case neg =>
    obtain rfl := parse_err hq0 hp
    have hst := states_any sT0 sT0 _ _ _ _ y2 st0 x3 hR3 (reads_0 _ _) (by simp [sT0]) (by simp [sT0]) (fun z _ => by simp [sT0]) (fun z _ => by simp [sT0])
    rw [sameS_refl] at hst
    have HSt := Lib.hid hst
    rw [errV_err hq0]
    clear hR3 hst hq0 hp pn pl
    go_wp2_with (first
      | (refine load_wantS (by rfl) (.tmp 9) rfl g3 rfl y2 hg3 hz2 ?_)
      | (refine wpList_build0 rfl rfl ?_))
    refine HSt.out.mono ?_
    rintro e x4 ⟨rfl, hb4⟩
    go_wp2_with fail
    go_ret
    exact ⟨rfl, keepB hb4 hbx3⟩
  subst hq0
  have ht := parse_ok HBb.out hp
  have HTold := Lib.hid ht
  rw [errV_nil]
  clear hp ht
  go_wp2_with (refine load_wantS (by rfl) (.tmp 9) rfl g3 rfl y2 hg3 hz2 ?_)
  refine (S.bytes p _ _ y2 x3 hR3 pn pl hbx3).mono ?_
  rintro e x4 ⟨A4, n4, c4, rfl, hN4, hc4, hb4⟩
  rw [if_pos HTold.out.chk, HTold.out.bytes] at hN4
  rw [HTold.out.chk, errV_nil]
  have hbx4 := keepB hb4 hbx3
  have HN4 := Lib.hid hN4
  clear hN4 hR3 hg3
  go_wp2_with fail
  refine (numBytes_any A4 Ab n4 c4 nb cb lb lb x4 _ _ HN4.out (HNb.out.below hbx4) HBb.out HBb.out).mono ?_
  rintro e x5 ⟨rfl, rfl⟩
  rw [show decide (lb = lb) = true from decide_eq_true rfl]
  go_wp2_with fail
  go_ret
  exact ⟨rfl, hbx4⟩
end Go.Proofs.YtihbdbgmijkjmaaDoor
