/- Layer 13: the code's Run. -/
import Derived.Test.YtmneajmedopheaaNtRun
import Derived.Test.YtmneajmedopheaaNtG3
import Derived.Test.YtmneajmedopheaaNtG4
namespace Go.Proofs.Ytmneajmedopheaa
open Go.RowKit Ex
set_option maxRecDepth 100000
/-- The state at hand in its box, the answer's box. -/
structure RJ (w : World) (gr gt : Nat) (t : StT) (O : SlT) (L : Nat → SlT) (W : World) : Prop where
  b : Below w.heap.size w W
  r : StAt W gr st0
  ta : StAt W gt (stC O L t.pl t.gm)
  x : ReadsX (gr + 1) gt W (stC O L t.pl t.gm) t O L
section
variable {w W W' : World} {gr gt : Nat} {t : StT} {O : SlT} {L : Nat → SlT}
theorem RJ.keep (h : RJ w gr gt t O L W) (hb : Below W.heap.size W W') : RJ w gr gt t O L W' := ⟨keepB hb h.b, h.r.keep hb, h.ta.keep hb, h.x.stay (Stay.of hb)⟩
theorem RJ.stay (h : RJ w gr gt t O L W) (hs : Stay gt W W') (hne : gr ≠ gt) (hwt : w.heap.size ≤ gt) {u : StT} {O' : SlT} {L' : Nat → SlT} (ha : StAt W' gt (stC O' L' u.pl u.gm)) (hx : ReadsX (gr + 1) gt W' (stC O' L' u.pl u.gm) u O' L') : RJ w gr gt u O' L' W' :=
  ⟨h.b.trans (hs.below h.b.size hwt), (hs.block gr h.r.lt hne).trans h.r, ha, hx⟩
theorem RJ.fin (h : RJ w gr gt t O L W) (hwr : w.heap.size ≤ gr) (hwt : w.heap.size ≤ gt) (hlt : gr < gt) : ReadsN w.heap.size (W.setRow gr (stC O L t.pl t.gm)) (stC O L t.pl t.gm) t O L ∧ Below w.heap.size w (W.setRow gr (stC O L t.pl t.gm)) := by
  have hs : StayX (gr + 1) gt W (W.setRow gr (stC O L t.pl t.gm)) := ⟨by simp, fun k _ _ h3 => setRow_other W gr k _ (by omega)⟩
  exact ⟨(h.x.stayx hs).readsN (by omega) hwt, below_setRow h.b gr _ hwr⟩
end
set_option linter.unusedSimpArgs false in
set_option maxHeartbeats 0 in
theorem run_code (s : StT) (O : SlT) (L : Nat → SlT) (cs : Array Value) (A : Option Addr) (n c : Nat) (l : List EvT) (w : World) (h : ReadsS w.heap.size w cs s O L) (hn : s.objs.length ≤ 500) (hll : ∀ z < 11, (s.lists z).length ≤ 500)
    (hE : Evs w.heap.size w A n l) (hm : n ≤ 200) : Calls Try.prog 7 #[.agg cs, .slice A n c] w (RnP w (runS s l)) := by
  have H := Lib.hid h
  have HE := Lib.hid hE
  have HLL := Lib.hid hll
  have HNO := Lib.hid hn
  have hz := st0_is
  have hcs := h.size
  clear h hE hll hn
  go_enter Try.func7, Try.ntmps7
  go_upto_region 1 with fail
  have hb1 : Below (w.alloc (.cells cs 29)).heap.size (w.alloc (.cells cs 29)) ((w.alloc (.cells cs 29)).alloc (.cells st0 29)) := (Below.refl _ _).alloc (Nat.le_refl _) _
  have hb0 : Below w.heap.size w (w.alloc (.cells cs 29)) := (Below.refl _ _).alloc (Nat.le_refl _) _
  have hs1 := (StAt.new w cs).keep hb1
  have hr1 : StAt ((w.alloc (.cells cs 29)).alloc (.cells st0 29)) (w.heap.size + 1) st0 := by
    have h := StAt.new (w.alloc (.cells cs 29)) st0
    simpa using h
  have hbw := keepB hb1 hb0
  obtain ⟨w1, hw1⟩ : ∃ w1, w1 = (w.alloc (.cells cs 29)).alloc (.cells st0 29) := ⟨_, rfl⟩
  obtain ⟨gs, hgs⟩ : ∃ g, g = w.heap.size := ⟨_, rfl⟩
  obtain ⟨gr, hgr⟩ : ∃ g, g = gs + 1 := ⟨_, rfl⟩
  rw [← hw1] at hs1 hr1 hbw
  rw [← hgs] at hs1 hr1
  rw [← hgr] at hr1
  show Code.wp _ _ _ _ ((w.alloc (.cells cs 29)).alloc (.cells st0 29))
  rw [← hw1, ← hgs, ← hgr]
  have hwr : w.heap.size ≤ gr := by omega
  have hR1 := H.out.grow hbw
  have hrl := hr1.lt
  clear hw1 hb0 hb1 hgs hgr
  have hcp := copyC_own s O L cs w1 hR1 (by have := HNO.out; omega) (fun z hz => by have := HLL.out z hz; omega)
  go_wp2_with (refine load_wantS (by rfl) (.tmp 2) rfl gs rfl cs hs1 hcs ?_)
  refine hcp.mono ?_
  rintro en w2 ⟨cC, rfl, OC, LC, hcC, hoC, hb2⟩
  clear hcp hR1 hs1
  have hI := H.out.i64
  have hnew : (w2.alloc (.cells st0 29)).heap[w2.heap.size]? = some (.cells st0 29 (0, 0)) := heap_alloc_new _ _
  have hsz : (Try.prog.info? 29).map (·.size) = some cC.size := by rw [hcC, stC_size]; exact size37
  have hs0 : st0.size = cC.size := by rw [hcC, stC_size]; exact stC_size _ _ _ _
  have hone : cC.all (·.oneCell') = true := by rw [hcC]; exact stC_one _ _ _ _
  have HcC := Lib.hid hcC
  clear hcC
  go_upto_region 2 with (refine wpList_store_row rfl 29 (.tmp 7) (.tmp 12) rfl w2.heap.size _ rfl rfl 29 st0 hnew hsz hs0 hone ?_)
  clear hnew hsz hs0 hone
  obtain ⟨w3, hw3, ha3, hb3⟩ := box_new w2 cC
  rw [← hw3]
  have HI := Lib.hid (show RJ w gr w2.heap.size s OC LC w3 from by
    have hb := keepB hb3 hb2
    exact ⟨keepB hb hbw, hr1.keep hb, by rw [← HcC.out]; exact ha3, ((hoC.below hb3).low (Nat.succ_le_of_lt hrl)).readsX ha3 hI⟩)
  have hlt : gr < w2.heap.size := Nat.lt_of_lt_of_le hrl hb2.size
  have hne : gr ≠ w2.heap.size := by have := hb2.size; omega
  have hwt : w.heap.size ≤ w2.heap.size := (keepB hb2 hbw).size
  obtain ⟨gt, hgt⟩ : ∃ g, g = w2.heap.size := ⟨_, rfl⟩
  rw [← hgt] at HI hne hwt hlt
  rw [← hgt]
  clear hw3 ha3 hb3 hgt hoC hb2 hr1 hbw hI hrl HcC
  go_upto_region 3 with fail
  have HG0 := Lib.hid (show goS s (l.take 0) = some s from rfl)
  have hlen := Lib.hid HE.out.n
  have HGt := Lib.hid hlt
  clear hlt
  go_loopw [15] (fun i wr => ∃ (k : Nat) (t : StT) (Ot : SlT) (Lt : Nat → SlT), i = .int .i64 ((k : Nat) : Int) ∧ k ≤ n ∧ Hid (goS s (l.take k) = some t) ∧ Hid (RJ w gr gt t Ot Lt wr)) (fun i _ => n - (intOf i).toNat)
  case atStart => exact ⟨0, s, OC, LC, rfl, by omega, HG0, HI⟩
  case round =>
    clear HI HG0
    obtain ⟨k, t, Ot, Lt, rfl, hk, HG, HI⟩ := hrel
    by_cases hlt : k < n
    · have hlt' : k < l.length := by rw [← HE.out.n]; exact hlt
      obtain ⟨b1, o1, ea, hb1, g1⟩ := HE.out.r.at_ hlt'
      subst ea
      have G1 := Lib.hid (range_below HI.out.b hb1 g1)
      have hxi := HE.out.i l[k] (List.getElem_mem hlt')
      obtain ⟨x, hx⟩ : ∃ x, x = l[k] := ⟨_, rfl⟩
      rw [← hx] at G1 hxi
      have HX := Lib.hid (show l[k]? = some x by rw [hx]; exact List.getElem?_eq_getElem hlt')
      have hsz := ev_size x
      have hone := evC_one x
      have hs6 : (evC ev0).size = (evC x).size := rfl
      have hz6 := ev0_is
      have hnew : (wr.alloc (.cells (evC ev0) 45)).heap[wr.heap.size]? = some (.cells (evC ev0) 45 (0, 0)) := heap_alloc_new _ _
      obtain ⟨es, hes⟩ : ∃ es, es = evC x := ⟨_, rfl⟩
      have hev : evV x = .agg es := by rw [hes]; rfl
      have HEs := Lib.hid hes
      have p0 : (0 : Int) ≤ (k : Int) := by omega
      have p1 : (k : Int) < (n : Int) := by omega
      have hm' : (k : Int) ≤ 1000 := by omega
      rw [← hes] at hsz hs6 hone
      clear hx hes g1 hb1 hlt'
      go_upto_region 5 with (first
        | (refine load_evm rfl (.tmp 18) rfl b1 (o1 + k * 6) rfl x G1.out ?_; rw [hev])
        | (refine wpList_store_row rfl 45 (.tmp 9) (.tmp 19) rfl wr.heap.size _ rfl rfl 45 (evC ev0) hnew hsz hs6 hone ?_))
      rw [HEs.out]
      obtain ⟨w4, hw4, he4, hb4⟩ := ev_box wr x
      rw [← hw4]
      have HI4 := Lib.hid (HI.out.keep hb4)
      obtain ⟨ge, hge⟩ : ∃ g, g = wr.heap.size := ⟨_, rfl⟩
      rw [← hge] at he4
      rw [← hge]
      have hgl := goS_len HG.out
      have hd := do_code (Bx := gr + 1) t Ot Lt x gt w4 HI4.out.ta HI4.out.x (by have h1 := hgl.1; have := HNO.out; rw [List.length_take] at h1; omega) (fun z hz => by have h1 := hgl.2 z; have := HLL.out z hz; rw [List.length_take] at h1; omega) hxi
      unfold EvDP at hd
      obtain ⟨r, hr⟩ : ∃ r, r = (applyS t x).2 := ⟨_, rfl⟩
      rw [← hr] at hd
      have HRr := Lib.hid hr
      clear hnew hsz hs6 hone hz6 hw4 hge hgl hr hev hxi HI
      go_wp2_with (refine load_ev (by rfl) (.tmp 9) rfl ge rfl x he4 ?_)
      refine hd.mono ?_
      rintro en w5 ⟨Ou, Lu, rfl, hau, hxu, hsu⟩
      clear hd he4
      by_cases hr0 : r = 0
      · subst hr0
        have HD := Lib.hid (show doS t x = (applyS t x).1 from if_pos HRr.out.symm)
        have HG2 := Lib.hid (show goS s (l.take (k + 1)) = some (applyS t x).1 from by
          rw [take_snoc HX.out]
          exact goS_next HG.out (Prod.ext rfl HRr.out.symm))
        have HI7 := Lib.hid (show RJ w gr gt (applyS t x).1 Ou Lu w5 from by
          rw [← HD.out]; exact HI4.out.stay hsu hne hwt hau hxu)
        rw [errV_nil]
        clear hau hxu hsu
        go_wp2_with fail
        go_roundw
        case rel => exact ⟨k + 1, _, Ou, Lu, by go_num, by omega, HG2, HI7⟩
        case measure => simp [intOf]; omega
      · have HF := Lib.hid (runS_bad HG.out HX.out (by rw [← HRr.out]; exact hr0))
        have HI7 := HI4.out.stay hsu hne hwt hau hxu
        have hr6 := HI7.r
        unfold StAt at hr6
        have hb6w := HI7.b
        have hsz0 := st0_size'
        have hone0 := st0_one'
        have hz := st0_is
        have HR0 := Lib.hid hr0
        rw [errV_err HR0.out]
        clear hau hxu hsu HI7 hr0
        go_wp2_with (first
          | (refine wpList_build0 rfl rfl ?_)
          | (refine wpList_store_row rfl 29 (.tmp 4) (.tmp 24) rfl gr _ rfl rfl 29 st0 hr6 hsz0 rfl hone0 ?_))
        refine bodyPost_ret (v := .tuple #[.agg st0, .int .i64 (k : Int), .iface 54 (.int .i64 r)]) ?_ rfl ⟨st0, nilS, fun _ => nilS, by rw [HF.out, ← HRr.out, errV_err HR0.out], by rw [HF.out]; exact fun _ _ _ => reads_0 _ _, below_setRow hb6w _ _ hwr⟩
        exact results_cell_tmp2 (ty := 29) (p := 4) (q := 5) (r := 6) (by kernel_rfl) _ _ gr 29 _ (0, 0) _ rfl (setRow_heap _ _ _ _ _ _ hr6) Try.underlying29 rfl hsz0
    · obtain rfl : k = n := by omega
      have HF := Lib.hid (show runS s l = (t, k, 0) from by
        have h := HG.out
        rw [HE.out.n, List.take_length] at h
        rw [runS_ok h, ← HE.out.n])
      have hat := HI.out.ta
      have hr6 := HI.out.r
      unfold StAt at hr6
      have hfin := Lib.hid (HI.out.fin hwr hwt HGt.out)
      have hc37 : (stC Ot Lt t.pl t.gm).size = 37 := stC_size _ _ _ _
      have hone : (stC Ot Lt t.pl t.gm).all (·.oneCell') = true := stC_one _ _ _ _
      obtain ⟨ct, hct⟩ : ∃ ct, ct = stC Ot Lt t.pl t.gm := ⟨_, rfl⟩
      rw [← hct] at hat hc37 hone hfin
      have hsz : (Try.prog.info? 29).map (·.size) = some ct.size := by rw [hc37]; exact size37
      have hs0 : st0.size = ct.size := by rw [hc37]; exact stC_size _ _ _ _
      clear hct HI HG
      go_wp2_with (first
        | (refine load_wantS (by rfl) (.tmp 7) rfl gt rfl ct hat hc37 ?_)
        | (refine wpList_store_row rfl 29 (.tmp 4) (.tmp 28) rfl gr _ rfl rfl 29 st0 hr6 hsz hs0 hone ?_))
      refine bodyPost_ret (v := .tuple #[.agg ct, .int .i64 (k : Int), .nilIface]) ?_ rfl ⟨ct, Ot, Lt, by rw [HF.out, errV_nil], by rw [HF.out]; exact hfin.out.1, hfin.out.2⟩
      exact results_cell_tmp2 (ty := 29) (p := 4) (q := 5) (r := 6) (by kernel_rfl) _ _ gr 29 _ (0, 0) _ rfl (setRow_heap _ _ _ _ _ _ hr6) Try.underlying29 rfl hsz
end Go.Proofs.Ytmneajmedopheaa
