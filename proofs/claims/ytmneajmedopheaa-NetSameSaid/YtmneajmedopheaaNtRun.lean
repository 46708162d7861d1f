/- Layer 13: the reference's Run. -/
import Derived.Test.YtmneajmedopheaaNtG1
import Derived.Test.YtmneajmedopheaaNtG2
import Derived.Test.YtmneajmedopheaaEvApply
import Derived.Test.YtmneajmedopheaaNtG3
namespace Go.Proofs.Ytmneajmedopheaa
open Go.RowKit Ex
set_option maxRecDepth 100000
/-- What the reference's Run answers. -/
def RnR (w : World) (r : StT × Nat × Int) (en : Ending) (w' : World) : Prop := ∃ cs O L, en = .returned (.tuple #[.agg cs, .int .i64 (r.2.1 : Int), .int .i64 r.2.2]) ∧ ReadsN w.heap.size w' cs r.1 O L ∧ Below w.heap.size w w'
/-- The state at hand in its box, the answer's box. -/
structure RI (w : World) (gr gt : Nat) (t : StT) (O : SlT) (L : Nat → SlT) (W : World) : Prop where
  b : Below w.heap.size w W
  r : StAt W gr st0
  ta : StAt W gt (stC O L t.pl t.gm)
  o : OwnS W w.heap.size t O L
  i : I64S t
section
variable {w W W' : World} {gr gt : Nat} {t : StT} {O : SlT} {L : Nat → SlT}
theorem RI.keep (h : RI w gr gt t O L W) (hb : Below W.heap.size W W') : RI w gr gt t O L W' := ⟨keepB hb h.b, h.r.keep hb, h.ta.keep hb, h.o.below hb, h.i⟩
theorem RI.reads (h : RI w gr gt t O L W) : ReadsS W.heap.size W (stC O L t.pl t.gm) t O L := h.o.reads h.i.o h.i.l h.i.p h.i.g
theorem RI.next (h : RI w gr gt t O L W) (hne : gr ≠ gt) (hwt : w.heap.size ≤ gt) {u : StT} {O' : SlT} {L' : Nat → SlT} (hb : Below W.heap.size W W') (ho : OwnS W' W.heap.size u O' L') (hi : I64S u) : RI w gr gt u O' L' (W'.setRow gt (stC O' L' u.pl u.gm)) := by
  have ht := h.ta.keep hb
  refine ⟨below_setRow (keepB hb h.b) gt _ hwt, (setRow_other W' gt gr _ hne).trans (h.r.keep hb), setRow_heap _ _ _ _ _ _ ht, (ho.low h.b.size).row ht _, hi⟩
theorem RI.fin (h : RI w gr gt t O L W) (hwr : w.heap.size ≤ gr) : ReadsN w.heap.size (W.setRow gr (stC O L t.pl t.gm)) (stC O L t.pl t.gm) t O L ∧ Below w.heap.size w (W.setRow gr (stC O L t.pl t.gm)) := by
  have ho := h.o.row h.r (stC O L t.pl t.gm)
  exact ⟨ho.readsN h.i, below_setRow h.b gr _ hwr⟩
end
theorem results_cell_tmp2 {P : Program} {fn : Func} {p q r : Tmp} {ty : TypeId} (h : fn.results = #[.cell p ty, .tmp q, .tmp r]) (tmps : Array Value) (w : World) (g : Nat) (t : TypeId) (cs : Array Value) (fr : Nat × Nat) (d : TypeDesc)
    (hp : tmps.getD p undef = .pointer (some ⟨g, 0, none⟩)) (hg : w.heap[g]? = some (.cells cs t fr))
    (hu : P.underlying ty = some d) (hd : (match d with | .struct _ | .array _ _ => true | _ => false) = true) (hi : (P.info? ty).map (·.size) = some cs.size) :
    (results fn tmps).run P w = .ok (.tuple #[.agg cs, tmps.getD q undef, tmps.getD r undef]) w := by
  have hp' : tmps[p]?.getD undef = .pointer (some ⟨g, 0, none⟩) := by simpa using hp
  simp [results, h, hp', asAddr, run_loadVar_row w g t ty cs fr d hg hu hd hi]
set_option linter.unusedSimpArgs false in
set_option maxHeartbeats 0 in
theorem runRef_any (s : StT) (O : SlT) (L : Nat → SlT) (cs : Array Value) (A : Option Addr) (n c : Nat) (l : List EvT) (w : World) (h : ReadsS w.heap.size w cs s O L) (hn : s.objs.length ≤ 1000) (hll : ∀ z < 11, (s.lists z).length ≤ 1000)
    (hE : Evs w.heap.size w A n l) (hm : n ≤ 1000) : Calls Try.prog 8 #[.agg cs, .slice A n c] w (RnR w (runS s l)) := by
  have H := Lib.hid h
  have HE := Lib.hid hE
  have HLL := Lib.hid hll
  have HNO := Lib.hid hn
  have hz := st0_is
  have hcs := h.size
  clear h hE hll hn
  go_enter Try.func8, Try.ntmps8
  go_upto_region 1 with fail
  have hb1 : Below (w.alloc (.cells cs 29)).heap.size (w.alloc (.cells cs 29)) ((w.alloc (.cells cs 29)).alloc (.cells st0 29)) := (Below.refl _ _).alloc (Nat.le_refl _) _
  have hb0 : Below w.heap.size w (w.alloc (.cells cs 29)) := (Below.refl _ _).alloc (Nat.le_refl _) _
  have hs1 := (StAt.new w cs).keep hb1
  have hr1 : StAt ((w.alloc (.cells cs 29)).alloc (.cells st0 29)) (w.heap.size + 1) st0 := by
    have h := StAt.new (w.alloc (.cells cs 29)) st0
    simpa using h
  have hbw := keepB hb1 hb0
  obtain ⟨w1, hw1⟩ : ∃ w1, w1 = (w.alloc (.cells cs 29)).alloc (.cells st0 29) := ⟨_, rfl⟩
  obtain ⟨gs, hgs⟩ : ∃ g, g = w.heap.size := ⟨_, rfl⟩
  obtain ⟨gr, hgr⟩ : ∃ g, g = gs + 1 := ⟨_, rfl⟩
  rw [← hw1] at hs1 hr1 hbw
  rw [← hgs] at hs1 hr1
  rw [← hgr] at hr1
  show Code.wp _ _ _ _ ((w.alloc (.cells cs 29)).alloc (.cells st0 29))
  rw [← hw1, ← hgs, ← hgr]
  have hwr : w.heap.size ≤ gr := by omega
  have hR1 := H.out.grow hbw
  have hrl := hr1.lt
  clear hw1 hb0 hb1 hgs hgr
  have hcp := numCopy_own s O L cs w1 hR1 (by have := HNO.out; omega) (fun z hz => by have := HLL.out z hz; omega)
  go_wp2_with (refine load_wantS (by rfl) (.tmp 2) rfl gs rfl cs hs1 hcs ?_)
  refine hcp.mono ?_
  rintro en w2 ⟨cC, rfl, OC, LC, hcC, hoC, hb2⟩
  clear hcp hR1 hs1
  have hI := H.out.i64
  have hnew : (w2.alloc (.cells st0 29)).heap[w2.heap.size]? = some (.cells st0 29 (0, 0)) := heap_alloc_new _ _
  have hsz : (Try.prog.info? 29).map (·.size) = some cC.size := by rw [hcC, stC_size]; exact size37
  have hs0 : st0.size = cC.size := by rw [hcC, stC_size]; exact stC_size _ _ _ _
  have hone : cC.all (·.oneCell') = true := by rw [hcC]; exact stC_one _ _ _ _
  have HcC := Lib.hid hcC
  clear hcC
  go_upto_region 2 with (refine wpList_store_row rfl 29 (.tmp 7) (.tmp 13) rfl w2.heap.size _ rfl rfl 29 st0 hnew hsz hs0 hone ?_)
  clear hnew hsz hs0 hone
  obtain ⟨w3, hw3, ha3, hb3⟩ := box_new w2 cC
  rw [← hw3]
  have HI := Lib.hid (show RI w gr w2.heap.size s OC LC w3 from by
    have hb := keepB hb3 hb2
    refine ⟨keepB hb hbw, hr1.keep hb, by rw [← HcC.out]; exact ha3, (hoC.below hb3).low hbw.size, hI⟩)
  have hne : gr ≠ w2.heap.size := by have := hb2.size; omega
  have hwt : w.heap.size ≤ w2.heap.size := (keepB hb2 hbw).size
  obtain ⟨gt, hgt⟩ : ∃ g, g = w2.heap.size := ⟨_, rfl⟩
  rw [← hgt] at HI hne hwt
  rw [← hgt]
  clear hw3 ha3 hb3 hgt hoC hb2 hr1 hbw hI hrl HcC
  go_upto_region 3 with fail
  have HG0 := Lib.hid (show goS s (l.take 0) = some s from rfl)
  have hlen := Lib.hid HE.out.n
  go_loopw [16] (fun i wr => ∃ (k : Nat) (t : StT) (Ot : SlT) (Lt : Nat → SlT), i = .int .i64 ((k : Nat) : Int) ∧ k ≤ n ∧ Hid (goS s (l.take k) = some t) ∧ Hid (RI w gr gt t Ot Lt wr)) (fun i _ => n - (intOf i).toNat)
  case atStart => exact ⟨0, s, OC, LC, rfl, by omega, HG0, HI⟩
  case round =>
    clear HI HG0
    obtain ⟨k, t, Ot, Lt, rfl, hk, HG, HI⟩ := hrel
    by_cases hlt : k < n
    · have hlt' : k < l.length := by rw [← HE.out.n]; exact hlt
      obtain ⟨b1, o1, ea, hb1, g1⟩ := HE.out.r.at_ hlt'
      subst ea
      have G1 := Lib.hid (range_below HI.out.b hb1 g1)
      have hxi := HE.out.i l[k] (List.getElem_mem hlt')
      obtain ⟨x, hx⟩ : ∃ x, x = l[k] := ⟨_, rfl⟩
      rw [← hx] at G1 hxi
      have HX := Lib.hid (show l[k]? = some x by rw [hx]; exact List.getElem?_eq_getElem hlt')
      have hsz := ev_size x
      have hone := evC_one x
      have hs6 : (evC ev0).size = (evC x).size := rfl
      have hz6 := ev0_is
      have hnew : (wr.alloc (.cells (evC ev0) 45)).heap[wr.heap.size]? = some (.cells (evC ev0) 45 (0, 0)) := heap_alloc_new _ _
      obtain ⟨es, hes⟩ : ∃ es, es = evC x := ⟨_, rfl⟩
      have hev : evV x = .agg es := by rw [hes]; rfl
      have HEs := Lib.hid hes
      have p0 : (0 : Int) ≤ (k : Int) := by omega
      have p1 : (k : Int) < (n : Int) := by omega
      have hm' : (k : Int) ≤ 1000 := by omega
      rw [← hes] at hsz hs6 hone
      clear hx hes g1 hb1 hlt'
      go_upto_region 5 with (first
        | (refine load_evm rfl (.tmp 19) rfl b1 (o1 + k * 6) rfl x G1.out ?_; rw [hev])
        | (refine wpList_store_row rfl 45 (.tmp 9) (.tmp 20) rfl wr.heap.size _ rfl rfl 45 (evC ev0) hnew hsz hs6 hone ?_))
      rw [HEs.out]
      obtain ⟨w4, hw4, he4, hb4⟩ := ev_box wr x
      rw [← hw4]
      have HI4 := Lib.hid (HI.out.keep hb4)
      obtain ⟨ge, hge⟩ : ∃ g, g = wr.heap.size := ⟨_, rfl⟩
      rw [← hge] at he4
      rw [← hge]
      have hgl := goS_len HG.out
      have hap := applyRef_any t Ot Lt (stC Ot Lt t.pl t.gm) x w4 HI4.out.reads (by have h1 := hgl.1; have := HNO.out; rw [List.length_take] at h1; omega) (fun z hz => by have h1 := hgl.2 z; have := HLL.out z hz; rw [List.length_take] at h1; omega) hxi
      have hat := HI4.out.ta
      have hc37 : (stC Ot Lt t.pl t.gm).size = 37 := stC_size _ _ _ _
      obtain ⟨ct, hct⟩ : ∃ ct, ct = stC Ot Lt t.pl t.gm := ⟨_, rfl⟩
      rw [← hct] at hap hat hc37
      unfold ApR at hap
      obtain ⟨u, hu⟩ : ∃ u, u = (applyS t x).1 := ⟨_, rfl⟩
      obtain ⟨r, hr⟩ : ∃ r, r = (applyS t x).2 := ⟨_, rfl⟩
      rw [← hu, ← hr] at hap
      have HU := Lib.hid hu
      have HRr := Lib.hid hr
      have HCt := Lib.hid hct
      clear hnew hsz hs6 hone hz6 hw4 hge hgl hu hr hct hev hxi HI
      go_wp2_with (first
        | (refine load_wantS (by rfl) (.tmp 7) rfl gt rfl ct hat hc37 ?_)
        | (refine load_ev (by rfl) (.tmp 9) rfl ge rfl x he4 ?_))
      refine hap.mono ?_
      rintro en w5 ⟨cu, Ou, Lu, rfl, hRu, hou, hb5⟩
      clear hap hat he4
      have hIu := hRu.i64
      have hcu := hRu.cs
      have hsz : (Try.prog.info? 29).map (·.size) = some cu.size := by rw [hRu.size]; exact size37
      have hs0 : st0.size = cu.size := by rw [hRu.size]; exact stC_size _ _ _ _
      have hone := hRu.one
      have hc37u := hRu.size
      have HCu := Lib.hid hcu
      have hnew : (w5.alloc (.cells st0 29)).heap[w5.heap.size]? = some (.cells st0 29 (0, 0)) := heap_alloc_new _ _
      have hz := st0_is
      clear hRu hcu
      go_upto_region 6 with (refine wpList_store_row rfl 29 (.tmp 10) (.tmp 25) rfl w5.heap.size _ rfl rfl 29 st0 hnew hsz hs0 hone ?_)
      clear hnew
      obtain ⟨w6, hw6, ha6, hb6⟩ := box_new w5 cu
      rw [← hw6]
      have hou6 := hou.below hb6
      obtain ⟨gu, hgu⟩ : ∃ g, g = w5.heap.size := ⟨_, rfl⟩
      rw [← hgu] at ha6
      rw [← hgu]
      have hb46 := keepB hb6 hb5
      clear hw6 hgu hb6 hb5 hou
      by_cases hr0 : r = 0
      · subst hr0
        have HG2 := Lib.hid (show goS s (l.take (k + 1)) = some u from by
          rw [take_snoc HX.out]
          exact goS_next HG.out (Prod.ext HU.out.symm HRr.out.symm))
        have hat6 := (HI4.out.keep hb46).ta
        unfold StAt at hat6
        rw [← HCt.out] at hat6
        have hs67 : ct.size = cu.size := by rw [hc37, hc37u]
        have HI7 := Lib.hid (show RI w gr gt u Ou Lu (w6.setRow gt cu) from by rw [HCu.out]; exact HI4.out.next hne hwt hb46 hou6 hIu)
        clear hb46 hou6 hIu hs0
        go_wp2_with (first
          | (refine load_wantS (by rfl) (.tmp 10) rfl gu rfl cu ha6 hc37u ?_)
          | (refine wpList_store_row rfl 29 (.tmp 7) (.tmp 32) rfl gt _ rfl rfl 29 ct hat6 hsz hs67 hone ?_))
        go_roundw
        case rel => exact ⟨k + 1, u, Ou, Lu, by go_num, by omega, HG2, HI7⟩
        case measure => simp [intOf]; omega
      · have HF := Lib.hid (runS_bad HG.out HX.out (by rw [← HRr.out]; exact hr0))
        have hr6 := (HI4.out.keep hb46).r
        unfold StAt at hr6
        have hb6w := (HI4.out.keep hb46).b
        have hsz0 := st0_size'
        have hone0 := st0_one'
        have hd0 : ((r : Int) != 0) = true := bne_iff_ne.2 hr0
        clear hb46 hou6 hIu hs0 hsz hone ha6 hr0
        go_wp2_with (first
          | (refine wpList_build0 rfl rfl ?_)
          | (refine wpList_store_row rfl 29 (.tmp 4) (.tmp 29) rfl gr _ rfl rfl 29 st0 hr6 hsz0 rfl hone0 ?_))
        refine bodyPost_ret (v := .tuple #[.agg st0, .int .i64 (k : Int), .int .i64 r]) ?_ rfl ⟨st0, nilS, fun _ => nilS, by rw [HF.out, HRr.out], by rw [HF.out]; exact fun _ _ _ => reads_0 _ _, below_setRow hb6w _ _ hwr⟩
        exact results_cell_tmp2 (ty := 29) (p := 4) (q := 5) (r := 6) (by kernel_rfl) _ _ gr 29 _ (0, 0) _ rfl (setRow_heap _ _ _ _ _ _ hr6) Try.underlying29 rfl hsz0
    · obtain rfl : k = n := by omega
      have HF := Lib.hid (show runS s l = (t, k, 0) from by
        have h := HG.out
        rw [HE.out.n, List.take_length] at h
        rw [runS_ok h, ← HE.out.n])
      have hat := HI.out.ta
      have hr6 := HI.out.r
      unfold StAt at hr6
      have hfin := Lib.hid (HI.out.fin hwr)
      have hc37 : (stC Ot Lt t.pl t.gm).size = 37 := stC_size _ _ _ _
      have hone : (stC Ot Lt t.pl t.gm).all (·.oneCell') = true := stC_one _ _ _ _
      obtain ⟨ct, hct⟩ : ∃ ct, ct = stC Ot Lt t.pl t.gm := ⟨_, rfl⟩
      rw [← hct] at hat hc37 hone hfin
      have hsz : (Try.prog.info? 29).map (·.size) = some ct.size := by rw [hc37]; exact size37
      have hs0 : st0.size = ct.size := by rw [hc37]; exact stC_size _ _ _ _
      clear hct HI HG
      go_wp2_with (first
        | (refine load_wantS (by rfl) (.tmp 7) rfl gt rfl ct hat hc37 ?_)
        | (refine wpList_store_row rfl 29 (.tmp 4) (.tmp 34) rfl gr _ rfl rfl 29 st0 hr6 hsz hs0 hone ?_))
      refine bodyPost_ret (v := .tuple #[.agg ct, .int .i64 (k : Int), .int .i64 0]) ?_ rfl ⟨ct, Ot, Lt, by rw [HF.out], by rw [HF.out]; exact hfin.out.1, hfin.out.2⟩
      exact results_cell_tmp2 (ty := 29) (p := 4) (q := 5) (r := 6) (by kernel_rfl) _ _ gr 29 _ (0, 0) _ rfl (setRow_heap _ _ _ _ _ _ hr6) Try.underlying29 rfl hsz
end Go.Proofs.Ytmneajmedopheaa
