/- Layer 15: the law KnowHides. -/
import Derived.Test.YtmhabodijmnldaaDoorKwLaws3
import Derived.Test.YtmhabodijmnldaaDoorKwHideM
import Derived.Test.YtmhabodijmnldaaDoorEvApply
import Derived.Test.YtmhabodijmnldaaDoorNtRef
import Derived.Test.YtmhabodijmnldaaDoorEvCopy
import Derived.Deep.Cut
import Derived.Deep.DeepCutAuto
namespace Go.Proofs.YtmhabodijmnldaaDoor
open Go.RowKit Ex
set_option maxRecDepth 100000
/-- The copy in its box, in blocks of the call's own. -/
structure UK (w : World) (gu : Nat) (cU : Array Value) (u : StT) (O : SlT) (L : Nat → SlT) (W : World) : Prop where
  b : Below w.heap.size w W
  a : StAt W gu cU
  c : cU = stC O L u.pl u.gm
  o : OwnS W w.heap.size u O L
theorem UK.keep {w W W' : World} {gu : Nat} {cU : Array Value} {u : StT} {O : SlT} {L : Nat → SlT} (h : UK w gu cU u O L W) (hb : Below W.heap.size W W') : UK w gu cU u O L W' := ⟨keepB hb h.b, h.a.keep hb, h.c, h.o.below hb⟩
theorem UK.reads {w W : World} {gu : Nat} {cU : Array Value} {u : StT} {O : SlT} {L : Nat → SlT} (h : UK w gu cU u O L W) (i : I64S u) : ReadsS W.heap.size W cU u O L := by
  rw [h.c]; exact h.o.reads i.o i.l i.p i.g
theorem setO_is {s : StT} {k j : Nat} {o : Nat → Int} {x : Int} (ho : s.objs[k]? = some o) : setO s.objs k j x = s.objs.set k (updI o j x) := by
  unfold setO
  rw [List.getD_eq_getElem?_getD, ho]; rfl
theorem UK.setc {w W : World} {gu g n c : Nat} {cU : Array Value} {u : StT} {L : Nat → SlT} (h : UK w gu cU u ⟨some ⟨g, 0, none⟩, n, c⟩ L W) {i j : Nat} (hi : i < u.objs.length) (hj : j < 18) (x : Int) :
    UK w gu cU ⟨setO u.objs i j x, u.lists, u.pl, u.gm⟩ ⟨some ⟨g, 0, none⟩, n, c⟩ L (W.setCell ⟨g, i * 18 + j, none⟩ (.int .i64 x)) := by
  have ho : W.ownsRow w.heap.size 49 18 (.slice (some ⟨g, 0, none⟩) n c) n (flatO u.objs) := h.o.o
  obtain ⟨g', e', hcell, hfr, hb, hset⟩ := owns_set ho hi hj
  obtain rfl : g = g' := by injection e' with e'; injection e'
  refine ⟨h.b.setCell (by simpa using hb) _, ?_, h.c, ?_, hset x, fun z hz => ⟨(h.o.l z hz).1, owns_keep (h.o.l z hz).2 fun k hk => heap_setCell_other W ⟨g, i * 18 + j, none⟩ k _ ?_⟩, h.o.d⟩
  · refine (heap_setCell_other W ⟨g, i * 18 + j, none⟩ gu _ ?_).trans h.a
    intro e
    have e : gu = g := by simpa using e
    subst e
    obtain ⟨_, cur2, hc2⟩ := own_ty ho (j := gu) rfl
    exact absurd (ty_same h.a hc2) (by decide)
  · show n = (setO u.objs i j x).length
    rw [setO_len]; exact h.o.on
  · intro e
    have e : k = g := by simpa using e
    subst e
    obtain ⟨_, cur, hc⟩ := own_ty (h.o.l z hz).2 hk
    obtain ⟨_, cur2, hc2⟩ := own_ty ho (j := k) rfl
    exact absurd (ty_same hc hc2) (by decide)
theorem kw_mod (v : Nat) : wrap64 ((v : Int) % 120) = (v : Int) % 120 := by unfold wrap64; omega
theorem kw_rng (v : Nat) : (0 : Int) ≤ (v : Int) % 120 ∧ (v : Int) % 120 ≤ 119 := by omega
theorem kw_mod2 (v : Nat) : ∃ y : Nat, (v : Int) % 120 = (y : Int) ∧ wrap64 (y : Int) = (y : Int) ∧ 0 ≤ (y : Int) ∧ (y : Int) ≤ 119 := ⟨v % 120, by omega, by unfold wrap64; omega, by omega, by omega⟩
theorem kw_u (x : Int) : ∃ u : Nat, IntKind.u64.wrap x = (u : Int) ∧ u < 18446744073709551616 := by
  obtain ⟨u, h1, h2, _, _⟩ := wrap_bits x
  exact ⟨u, h1, h2⟩
theorem kw_wrap {k : Nat} (h : k < 60) : wrap64 (k : Int) = (k : Int) := by unfold wrap64; omega
set_option linter.unusedSimpArgs false in
set_option maxHeartbeats 0 in
theorem knowHides_walk {w : World} (E : KwSaid w) (ES : KwSees w) (s : StT) (O : SlT) (L : Nat → SlT) (cs : Array Value) (id card : Int) (hR : ReadsS w.heap.size w cs s O L) (_hid : N64 id) (_hcd : N64 card) :
    Calls Tryd.prog 4 #[.agg cs, .int .i64 id, .int .i64 card] w fun en w' => en = .returned (.bool true) ∧ Below w.heap.size w w' := by
  have hcs := hR.size
  have HR := Lib.hid hR
  obtain ⟨u, hu, hu64⟩ := kw_u id
  obtain ⟨v, hv, hv64⟩ := kw_u card
  clear hR _hid _hcd
  go_enter Tryd.func4, Tryd.ntmps4
  go_upto_region 1 with fail
  obtain ⟨w1, hw1⟩ : ∃ w1, w1 = w.alloc (.cells cs 29) := ⟨_, rfl⟩
  obtain ⟨gs, hgs⟩ : ∃ g, g = w.heap.size := ⟨_, rfl⟩
  have HW := Lib.hid (show KW w gs cs w1 from by
    rw [hw1, hgs]
    exact ⟨(Below.refl _ _).alloc (Nat.le_refl _) _, StAt.new w cs⟩)
  show Code.wp _ _ _ _ (w.alloc (.cells cs 29))
  rw [← hw1, ← hgs]
  have HGs := Lib.hid hgs
  clear hw1 hgs
  go_wp2_with fail
  refine (kwAlive E w1 HW.out.b).mono ?_
  rintro en w2 ⟨rfl, hb2⟩
  have HW2 := Lib.hid (HW.out.keep hb2)
  have hsa := HW2.out.a
  clear HW hb2
  go_wp2_with (refine load_wantS (by rfl) (.tmp 3) rfl gs rfl cs hsa hcs ?_)
  have hl := long_any s O L cs 60 w2 w2.heap.size (HW2.out.reads HR.out) (by omega)
  rw [show ((60 : Nat) : Int) = 60 from rfl] at hl
  refine hl.mono ?_
  clear hl hsa
  rintro en w3 ⟨rfl, hb3⟩
  have HW3 := Lib.hid (HW2.out.keep hb3)
  clear HW2 hb3
  by_cases hlg : longS s 60 = true
  · have hbw := HW3.out.b
    rw [hlg]
    go_wp2_with fail
    go_ret
    exact ⟨rfl, hbw⟩
  replace hlg : longS s 60 = false := by simpa using hlg
  obtain ⟨hn, hll⟩ := long_not (most := 60) hlg
  rw [hlg]
  have HLs := Lib.hid (show s.objs.length ≤ 60 ∧ ∀ z < 11, (s.lists z).length ≤ 70 from ⟨hn, hll⟩)
  clear hlg hn hll
  have hck := st_checkRef_any s O L cs w3 w3.heap.size (HW3.out.reads HR.out) (Nat.le_refl _) (by have := HLs.out.1; omega) (fun z hz => by have := HLs.out.2 z hz; omega)
  have hsa := HW3.out.a
  obtain ⟨bad, hbad⟩ : ∃ b, b = chkS s := ⟨_, rfl⟩
  rw [← hbad] at hck
  go_wp2_with (refine load_wantS (by rfl) (.tmp 3) rfl gs rfl cs hsa hcs ?_)
  refine hck.mono ?_
  rintro en w4 ⟨rfl, hb4⟩
  have HW4 := Lib.hid (HW3.out.keep hb4)
  clear hck hsa HW3 hb4
  by_cases hb0 : bad = 0
  case neg =>
    have hbw := HW4.out.b
    have d0 : (bad != 0) = true := by simp [hb0]
    go_wp2_with fail
    go_ret
    exact ⟨rfl, hbw⟩
  subst hb0
  have HC := Lib.hid hbad.symm
  clear hbad
  have c0 : cs[0]? = some (.slice O.A O.n O.c) := by rw [HR.out.cs]; exact stC_objs _ _ _ _
  have hOn := HR.out.on
  obtain ⟨A, n, c⟩ := O
  simp only at c0 hOn
  subst hOn
  have HC0 := Lib.hid c0
  have cg : w4.cell? ⟨gs, 0, none⟩ = some (.slice A s.objs.length c) := by rw [HW4.out.a.cell]; exact c0
  clear c0
  by_cases hn0 : s.objs.length = 0
  · have hbw := HW4.out.b
    have d1 : ((s.objs.length : Int) == 0) = true := by simp [hn0]
    go_wp2_with fail
    all_goals (go_ret; exact ⟨rfl, hbw⟩)
  have d1 : ((s.objs.length : Int) == 0) = false := by simp [hn0]
  have d2 : s.objs ≠ [] := fun e => hn0 (by rw [e]; rfl)
  have hnz : (s.objs.length : Int) ≠ 0 := by omega
  obtain ⟨k, hk⟩ : ∃ k, k = u % s.objs.length := ⟨_, rfl⟩
  have hkl : k < s.objs.length := by rw [hk]; exact Nat.mod_lt _ (Nat.pos_of_ne_zero hn0)
  have HKi := Lib.hid (kw_wrap (Nat.lt_of_lt_of_le hkl HLs.out.1))
  have hnu : IntKind.u64.wrap (s.objs.length : Int) = (s.objs.length : Int) := u64_small (by omega) (by have := HLs.out.1; omega)
  have hki : wrap64 (k : Int) = (k : Int) := HKi.out
  have hrm : (u : Int) % (s.objs.length : Int) = (k : Int) := by rw [hk]; rfl
  clear hk
  go_upto_region 6 with fail
  try rw [hrm, hki]
  clear hrm hki hu hu64
  have HKl := Lib.hid hkl
  obtain ⟨o, ho⟩ : ∃ o, s.objs[k]? = some o := ⟨_, List.getElem?_eq_getElem hkl⟩
  obtain ⟨b, off, ea, hbl, hra⟩ := HR.out.o k o ho
  simp only at ea
  subst ea
  have HO := Lib.hid ho
  have HOw := Lib.hid (HR.out.ow o (List.mem_of_getElem? ho))
  have HRa := Lib.hid (And.intro hbl hra)
  have HN := Lib.hid (show N64 (k : Int) from by have := HLs.out.1; exact ⟨by omega, by omega⟩)
  have HLl := Lib.hid (show s.objs.length ≤ 1000 ∧ ∀ z < 11, (s.lists z).length ≤ 1000 from ⟨by have := HLs.out.1; omega, fun z hz => by have := HLs.out.2 z hz; omega⟩)
  have p0 : (0 : Int) ≤ (k : Int) := by omega
  have p1 : (k : Int) < (s.objs.length : Int) := by omega
  have p2 : (k : Int) ≤ 1000 := by have := HLs.out.1; omega
  clear hkl hnu hnz ho hbl hra d1 d2 hn0 cg
  go_upto_region 7 with fail
  go_loopw [7] (fun v wr => ∃ j : Nat, v = .int .i64 ((j : Nat) : Int) ∧ j ≤ 2 ∧ Hid (KW w gs cs wr)) (fun v _ => 2 - (intOf v).toNat)
  case atStart => exact ⟨0, rfl, by omega, HW4⟩
  case round =>
    clear HW4
    obtain ⟨j, rfl, hj, HWr⟩ := hrel
    by_cases hlt : j < 2
    · rcases (show j = 0 ∨ j = 1 by omega) with rfl | rfl
      · skip
        have hp : (0 : Int) = 0 ∨ (0 : Int) = 1 := by omega
        have HSh := Lib.hid (E.show_ s _ L cs k 1 wr (HWr.out.reads HR.out) HLl.out.1 HLl.out.2 HN.out (by unfold N64; omega) HWr.out.b)
        have hsh := HSh.out
        unfold EvsP at hsh
        have hsa := HWr.out.a
        by_cases hb : bitK (o 17) 0 = true
        · have hs : showE s.objs (k : Int) 1 true = [] := show_none (p := 0) HO.out hp hb
          rw [hs] at hsh
          have HB := Lib.hid hb
          clear hb hs HSh
          go_wp2_with (refine load_wantS (by rfl) (.tmp 3) rfl gs rfl cs hsa hcs ?_)
          refine hsh.mono ?_
          rintro en w5 ⟨A5, n5, c5, rfl, hc5, hV5, hb5⟩
          obtain rfl : n5 = 0 := hV5.n
          have HW5 := Lib.hid (HWr.out.keep hb5)
          have hgd := E.gained A5 0 c5 [] w5 hV5 hc5 (by omega) HW5.out.b
          rw [show [].any gainsE = false from rfl] at hgd
          clear hsh hV5 hb5 hsa HWr
          go_wp2_with fail
          refine hgd.mono ?_
          rintro en w6 ⟨rfl, hb6⟩
          have HW6 := Lib.hid (HW5.out.keep hb6)
          clear hgd hb6 HW5
          have cg : w6.cell? ⟨gs, 0, none⟩ = some (.slice (some ⟨b, off, none⟩) s.objs.length c) := by rw [HW6.out.a.cell]; exact HC0.out
          have hra := range_below HW6.out.b HRa.out.1 HRa.out.2
          have hkn := E.knows o 0 w6 HOw.out (by unfold N64; omega) HW6.out.b
          rw [HB.out] at hkn
          go_wp2_with (refine load_objW (by rfl) (.tmp 60) rfl b (off + k * 18) rfl o hra ?_)
          refine hkn.mono ?_
          rintro en w7 ⟨rfl, hb7⟩
          have HW7 := Lib.hid (HW6.out.keep hb7)
          clear hkn hra cg hb7 HW6
          go_wp2_with fail
          go_roundw
          case rel => exact ⟨0 + 1, by go_num, by omega, HW7⟩
          case measure => simp [intOf]
        · have hb : bitK (o 17) 0 = false := by simpa using hb
          have hs : showE s.objs (k : Int) 1 true = [⟨2, k, 17, o 17, o 17 + 1, 0⟩] := show_one (p := 0) HO.out hp hb
          obtain ⟨e1, he1⟩ : ∃ e : EvT, e = ⟨2, k, 17, o 17, o 17 + 1, 0⟩ := ⟨_, rfl⟩
          rw [hs, ← he1] at hsh
          have h17 := chk_17 HC.out HO.out
          have HI1 := Lib.hid (show EvI e1 from by
            rw [he1]
            exact ⟨by show N64 2; unfold N64; omega, HN.out, by show N64 17; unfold N64; omega, HOw.out 17 (by omega), by show N64 (o 17 + 1); unfold N64; omega, by show N64 0; unfold N64; omega⟩)
          have hga : [e1].any gainsE = true := by
            have h : gainsE e1 = true := by rw [he1]; exact gains_one (p := 0) hp hb
            simp [h]
          obtain ⟨t, ht⟩ : ∃ t : StT, t = ⟨s.objs.set k (updI o 17 (o 17 + 1)), s.lists, s.pl, s.gm⟩ := ⟨_, rfl⟩
          have HAp := Lib.hid (show applyS s e1 = (t, 0) from by rw [he1, ht]; exact apply_show (p := 0) HC.out HO.out hp)
          have HE1 := Lib.hid he1
          have HT := Lib.hid ht
          have HB := Lib.hid hb
          clear hb hs HSh he1 ht h17
          go_wp2_with (refine load_wantS (by rfl) (.tmp 3) rfl gs rfl cs hsa hcs ?_)
          refine hsh.mono ?_
          rintro en w5 ⟨A5, n5, c5, rfl, hc5, hV5, hb5⟩
          obtain rfl : n5 = 1 := hV5.n
          obtain ⟨be, oe, rfl, hbe, hre⟩ := hV5.r 0 e1 rfl
          rw [Nat.zero_mul, Nat.add_zero] at hre
          have HW5 := Lib.hid (HWr.out.keep hb5)
          have hgd := E.gained _ 1 c5 [e1] w5 hV5 hc5 (by omega) HW5.out.b
          rw [hga] at hgd
          have HRe5 := Lib.hid (And.intro hbe hre)
          clear hsh hV5 hb5 hsa HWr hga hbe hre
          go_wp2_with fail
          refine hgd.mono ?_
          rintro en w6 ⟨rfl, hb6⟩
          have HW6 := Lib.hid (HW5.out.keep hb6)
          have HRe6 := Lib.hid (And.intro (Nat.lt_of_lt_of_le HRe5.out.1 hb6.size) (range_below hb6 HRe5.out.1 HRe5.out.2))
          clear hgd hb6 HW5 HRe5
          have cg : w6.cell? ⟨gs, 0, none⟩ = some (.slice (some ⟨b, off, none⟩) s.objs.length c) := by rw [HW6.out.a.cell]; exact HC0.out
          have hra := range_below HW6.out.b HRa.out.1 HRa.out.2
          have hkn := E.knows o 0 w6 HOw.out (by unfold N64; omega) HW6.out.b
          rw [HB.out] at hkn
          go_wp2_with (refine load_objW (by rfl) (.tmp 60) rfl b (off + k * 18) rfl o hra ?_)
          refine hkn.mono ?_
          rintro en w7 ⟨rfl, hb7⟩
          have HW7 := Lib.hid (HW6.out.keep hb7)
          have HRe7 := Lib.hid (And.intro (Nat.lt_of_lt_of_le HRe6.out.1 hb7.size) (range_below hb7 HRe6.out.1 HRe6.out.2))
          clear hkn hra cg hb7 HW6 HRe6
          go_upto_region 13 with fail
          have HApp := Lib.hid (fun W (hW : Below w7.heap.size w7 W) => (show Calls Tryd.prog 17 #[.agg cs, evV e1] W (ApR W (t, 0)) from by have h := applyRef_any s _ L cs e1 W ((HW7.out.keep hW).reads HR.out) (by have := HLl.out.1; omega) (fun z hz => by have := HLl.out.2 z hz; omega) HI1.out; rw [HAp.out] at h; exact h))
          go_cut [9, 10] (fun tv bv wx => ∃ (g9 : Nat) (cT : Array Value) (OT : SlT) (LT : Nat → SlT), tv = .pointer (some ⟨g9, 0, none⟩) ∧ bv = .int .i64 0 ∧ gs ≠ g9 ∧ Hid (BK g9 cT t OT LT wx) ∧ Hid (KW w gs cs wx) ∧ Hid (Below w7.heap.size w7 wx) ∧ cT.size = 37 ∧ Hid (cT = stC OT LT t.pl t.gm))
          case rest =>
            clear HApp HW7
            obtain ⟨g9, cT, OT, LT, rfl, rfl, hg9s, HT8, HW8, HB8, hcT, HcT⟩ := hcut
            go_upto_region 14 with fail
            obtain ⟨o2, ho2⟩ : ∃ f : Nat → Int, f = updI o 17 (o 17 + 1) := ⟨_, rfl⟩
            have hkl : k < s.objs.length := (List.getElem?_eq_some_iff.1 HO.out).1
            have hto : t.objs[k]? = some o2 := by rw [HT.out, ho2]; exact List.getElem?_set_self hkl
            have htl : t.objs.length = s.objs.length := by rw [HT.out]; exact List.length_set
            have h217 : o2 17 = o 17 + 1 := by rw [ho2]; exact if_pos rfl
            obtain ⟨bT, offT, eT, hblT, hraT⟩ := HT8.out.r.o k o2 hto
            have hnT := HT8.out.r.on
            have hcc := HcT.out
            obtain ⟨AT, nT, ccT⟩ := OT
            simp only at eT hnT
            subst eT
            rw [htl] at hnT
            subst hnT
            have ct0 : cT[0]? = some (.slice (some ⟨bT, offT, none⟩) s.objs.length ccT) := by rw [hcc]; exact stC_objs _ _ _ _
            have hbm := bit_more (x := o 17) (p := 0) (by omega) HB.out
            obtain ⟨q, hq⟩ : ∃ q, q = bitK (o 17) 1 := ⟨_, rfl⟩
            have hqq : (q != q) = false := bne_self_eq_false _
            have HO2w := Lib.hid (HT8.out.r.ow o2 (List.mem_of_getElem? hto))
            have HK1 := Lib.hid (fun W (hW : Below wc.heap.size wc W) => (show Calls Tryd.prog 16 #[.agg (arr .i64 18 o2), .int .i64 0] W fun en w' => en = .returned (.bool true) ∧ Below W.heap.size W w' from by have h := E.knows o2 0 W HO2w.out (by unfold N64; omega) (keepB hW HW8.out.b); rw [h217, show bitK (o 17 + 1) 0 = true from hbm.1] at h; exact h))
            have HK2 := Lib.hid (fun W (hW : Below wc.heap.size wc W) => (show Calls Tryd.prog 16 #[.agg (arr .i64 18 o2), .int .i64 1] W fun en w' => en = .returned (.bool q) ∧ Below W.heap.size W w' from by have h := E.knows o2 1 W HO2w.out (by unfold N64; omega) (keepB hW HW8.out.b); rw [h217, show bitK (o 17 + 1) 1 = q from hbm.2.trans hq.symm] at h; exact h))
            have HK3 := Lib.hid (fun W (hW : Below wc.heap.size wc W) => (show Calls Tryd.prog 16 #[.agg (arr .i64 18 o), .int .i64 1] W fun en w' => en = .returned (.bool q) ∧ Below W.heap.size W w' from by have h := E.knows o 1 W HOw.out (by unfold N64; omega) (keepB hW HW8.out.b); rw [← hq] at h; exact h))
            have x1 : ∀ W, Below wc.heap.size wc W → W.cell? ⟨g9, 0, none⟩ = some (.slice (some ⟨bT, offT, none⟩) s.objs.length ccT) := fun W hW => by rw [(HT8.out.a.keep hW).cell]; exact ct0
            have x2 : ∀ W, Below wc.heap.size wc W → W.cell? ⟨gs, 0, none⟩ = some (.slice (some ⟨b, off, none⟩) s.objs.length c) := fun W hW => by rw [(HW8.out.keep hW).a.cell]; exact HC0.out
            have HR1 := Lib.hid (fun W (hW : Below wc.heap.size wc W) => range_below hW hblT hraT)
            have HR2 := Lib.hid (fun W (hW : Below wc.heap.size wc W) => range_below (HW8.out.keep hW).b HRa.out.1 HRa.out.2)
            have HTo := Lib.hid (And.intro hto htl)
            clear ho2 hkl hto htl h217 hblT hraT hcc ct0 hbm hq
            refine wp_region_held_drew (S := fun W => Below wc.heap.size wc W) (by kernel_rfl) (Below.refl _ _).drew (fun hHeld => ?_)
            refine wpAnyH_take (i := 0) (v := ?_) rfl (by kernel_rfl) (by kernel_rfl) (by kernel_rfl) (fun _ _ _ h => h) (Or.inl ⟨by rfl, ?_⟩) hHeld ?_
            rotate_left
            · (intro w hSw; go_simp; (try with_reducible rfl))
            simp only [Act.put, List.getElem_toArray, List.getElem_cons_zero, List.getElem_cons_succ, List.setIfInBounds_toArray, List.set_cons_zero, List.set_cons_succ]
            refine wpAnyH_take (i := 1) (v := ?_) rfl (by kernel_rfl) (by kernel_rfl) (by kernel_rfl) (fun _ _ _ h => h) (Or.inl ⟨by rfl, ?_⟩) hHeld ?_
            rotate_left
            · (intro w hSw; go_simp; (try with_reducible rfl))
            simp only [Act.put, List.getElem_toArray, List.getElem_cons_zero, List.getElem_cons_succ, List.setIfInBounds_toArray, List.set_cons_zero, List.set_cons_succ]
            refine wpAnyH_take (i := 2) (v := ?_) rfl (by kernel_rfl) (by kernel_rfl) (by kernel_rfl) (fun _ _ _ h => h) (Or.inl ⟨by rfl, ?_⟩) hHeld ?_
            rotate_left
            · (intro w hSw; go_simp; (try with_reducible rfl))
            simp only [Act.put, List.getElem_toArray, List.getElem_cons_zero, List.getElem_cons_succ, List.setIfInBounds_toArray, List.set_cons_zero, List.set_cons_succ]
            refine wpAnyH_take (i := 3) (v := ?_) rfl (by kernel_rfl) (by kernel_rfl) (by kernel_rfl) (fun _ _ _ h => h) (Or.inl ⟨by rfl, ?_⟩) hHeld ?_
            rotate_left
            · (intro w hSw; go_simp; (try with_reducible rfl))
            simp only [Act.put, List.getElem_toArray, List.getElem_cons_zero, List.getElem_cons_succ, List.setIfInBounds_toArray, List.set_cons_zero, List.set_cons_succ]
            refine wpAnyH_take (i := 4) (v := ?_) rfl (by kernel_rfl) (by kernel_rfl) (by kernel_rfl) (fun _ _ _ h => h) (Or.inl ⟨by rfl, ?_⟩) hHeld ?_
            rotate_left
            · (intro w hSw; go_simp; (try with_reducible rfl))
            simp only [Act.put, List.getElem_toArray, List.getElem_cons_zero, List.getElem_cons_succ, List.setIfInBounds_toArray, List.set_cons_zero, List.set_cons_succ]
            refine wpAnyH_take (i := 5) (v := ?_) rfl (by kernel_rfl) (by kernel_rfl) (by kernel_rfl) (fun _ _ _ h => h) (Or.inl ⟨by rfl, ?_⟩) hHeld ?_
            rotate_left
            · (intro w hSw; go_simp; (try with_reducible rfl))
            simp only [Act.put, List.getElem_toArray, List.getElem_cons_zero, List.getElem_cons_succ, List.setIfInBounds_toArray, List.set_cons_zero, List.set_cons_succ]
            refine wpAnyH_take (i := 6) (v := ?_) rfl (by kernel_rfl) (by kernel_rfl) (by kernel_rfl) (fun _ _ _ h => h) (Or.inl ⟨by rfl, ?_⟩) hHeld ?_
            rotate_left
            · (intro w hSw; go_simp; (try with_reducible rfl))
            simp only [Act.put, List.getElem_toArray, List.getElem_cons_zero, List.getElem_cons_succ, List.setIfInBounds_toArray, List.set_cons_zero, List.set_cons_succ]
            refine wpAnyH_take (i := 7) (v := .agg (arr .i64 18 o2)) rfl (by kernel_rfl) (by kernel_rfl) (by kernel_rfl) (fun _ _ _ h => h) (yields_obj (by rfl) (.tmp 86) rfl bT (offT + k * 18) rfl o2 (fun W hW => HR1.out W hW)) hHeld ?_
            simp only [Act.put, List.getElem_toArray, List.getElem_cons_zero, List.getElem_cons_succ, List.setIfInBounds_toArray, List.set_cons_zero, List.set_cons_succ]
            refine wpAnyH_take (i := 8) (v := ?_) rfl (by kernel_rfl) (by kernel_rfl) (by kernel_rfl) (fun _ _ _ h => h) (Or.inl ⟨by rfl, ?_⟩) hHeld ?_
            rotate_left
            · (intro w hSw; go_simp; (try with_reducible rfl))
            simp only [Act.put, List.getElem_toArray, List.getElem_cons_zero, List.getElem_cons_succ, List.setIfInBounds_toArray, List.set_cons_zero, List.set_cons_succ]
            refine wpAnyH_ready (rs := [9]) (by kernel_rfl) (by simp) ?_
            refine AllReadyH.cons rfl (fun K hK => ?_) AllReadyH.nil
            simp only [List.getElem_toArray, List.getElem_cons_zero, List.getElem_cons_succ]
            go_simp
            refine (HK1.out _ hHeld).mono ?_
            rintro en wq ⟨rfl, hbq⟩
            go_wp2_with fail
            have hHeld := keepB hbq hHeld
            refine hK.out _ _ hHeld (fun _ => ?_)
            clear hK K
            try simp only [Act.put, List.setIfInBounds_toArray, List.set_cons_zero, List.set_cons_succ]
            clear hbq
            refine wpAnyH_take (i := 10) (v := ?_) rfl (by kernel_rfl) (by kernel_rfl) (by kernel_rfl) (fun _ _ _ h => h) (Or.inl ⟨by rfl, ?_⟩) hHeld ?_
            rotate_left
            · (intro w hSw; go_simp; (try with_reducible rfl))
            simp only [Act.put, List.getElem_toArray, List.getElem_cons_zero, List.getElem_cons_succ, List.setIfInBounds_toArray, List.set_cons_zero, List.set_cons_succ]
            refine wpAnyH_take (i := 11) (v := ?_) rfl (by kernel_rfl) (by kernel_rfl) (by kernel_rfl) (fun _ _ _ h => h) (Or.inl ⟨by rfl, ?_⟩) hHeld ?_
            rotate_left
            · (intro w hSw; go_simp; (try with_reducible rfl))
            simp only [Act.put, List.getElem_toArray, List.getElem_cons_zero, List.getElem_cons_succ, List.setIfInBounds_toArray, List.set_cons_zero, List.set_cons_succ]
            refine wpAnyH_take (i := 12) (v := ?_) rfl (by kernel_rfl) (by kernel_rfl) (by kernel_rfl) (fun _ _ _ h => h) (Or.inl ⟨by rfl, ?_⟩) hHeld ?_
            rotate_left
            · (intro w hSw; go_simp; (try with_reducible rfl))
            simp only [Act.put, List.getElem_toArray, List.getElem_cons_zero, List.getElem_cons_succ, List.setIfInBounds_toArray, List.set_cons_zero, List.set_cons_succ]
            refine wpAnyH_take (i := 13) (v := ?_) rfl (by kernel_rfl) (by kernel_rfl) (by kernel_rfl) (fun _ _ _ h => h) (Or.inl ⟨by rfl, ?_⟩) hHeld ?_
            rotate_left
            · (intro w hSw; go_simp; (try with_reducible rfl))
            simp only [Act.put, List.getElem_toArray, List.getElem_cons_zero, List.getElem_cons_succ, List.setIfInBounds_toArray, List.set_cons_zero, List.set_cons_succ]
            refine wpAnyH_take (i := 14) (v := ?_) rfl (by kernel_rfl) (by kernel_rfl) (by kernel_rfl) (fun _ _ _ h => h) (Or.inl ⟨by rfl, ?_⟩) hHeld ?_
            rotate_left
            · (intro w hSw; go_simp; (try with_reducible rfl))
            simp only [Act.put, List.getElem_toArray, List.getElem_cons_zero, List.getElem_cons_succ, List.setIfInBounds_toArray, List.set_cons_zero, List.set_cons_succ]
            refine wpAnyH_take (i := 15) (v := ?_) rfl (by kernel_rfl) (by kernel_rfl) (by kernel_rfl) (fun _ _ _ h => h) (Or.inl ⟨by rfl, ?_⟩) hHeld ?_
            rotate_left
            · (intro w hSw; go_simp; (try with_reducible rfl))
            simp only [Act.put, List.getElem_toArray, List.getElem_cons_zero, List.getElem_cons_succ, List.setIfInBounds_toArray, List.set_cons_zero, List.set_cons_succ]
            refine wpAnyH_take (i := 16) (v := ?_) rfl (by kernel_rfl) (by kernel_rfl) (by kernel_rfl) (fun _ _ _ h => h) (Or.inl ⟨by rfl, ?_⟩) hHeld ?_
            rotate_left
            · (intro w hSw; go_simp; (try with_reducible rfl))
            simp only [Act.put, List.getElem_toArray, List.getElem_cons_zero, List.getElem_cons_succ, List.setIfInBounds_toArray, List.set_cons_zero, List.set_cons_succ]
            refine wpAnyH_take (i := 17) (v := .agg (arr .i64 18 o2)) rfl (by kernel_rfl) (by kernel_rfl) (by kernel_rfl) (fun _ _ _ h => h) (yields_obj (by rfl) (.tmp 96) rfl bT (offT + k * 18) rfl o2 (fun W hW => HR1.out W hW)) hHeld ?_
            simp only [Act.put, List.getElem_toArray, List.getElem_cons_zero, List.getElem_cons_succ, List.setIfInBounds_toArray, List.set_cons_zero, List.set_cons_succ]
            refine wpAnyH_take (i := 18) (v := ?_) rfl (by kernel_rfl) (by kernel_rfl) (by kernel_rfl) (fun _ _ _ h => h) (Or.inl ⟨by rfl, ?_⟩) hHeld ?_
            rotate_left
            · (intro w hSw; go_simp; (try with_reducible rfl))
            simp only [Act.put, List.getElem_toArray, List.getElem_cons_zero, List.getElem_cons_succ, List.setIfInBounds_toArray, List.set_cons_zero, List.set_cons_succ]
            refine wpAnyH_take (i := 19) (v := ?_) rfl (by kernel_rfl) (by kernel_rfl) (by kernel_rfl) (fun _ _ _ h => h) (Or.inl ⟨by rfl, ?_⟩) hHeld ?_
            rotate_left
            · (intro w hSw; go_simp; (try with_reducible rfl))
            simp only [Act.put, List.getElem_toArray, List.getElem_cons_zero, List.getElem_cons_succ, List.setIfInBounds_toArray, List.set_cons_zero, List.set_cons_succ]
            refine wpAnyH_take (i := 21) (v := ?_) rfl (by kernel_rfl) (by kernel_rfl) (by kernel_rfl) (fun _ _ _ h => h) (Or.inl ⟨by rfl, ?_⟩) hHeld ?_
            rotate_left
            · (intro w hSw; go_simp; (try with_reducible rfl))
            simp only [Act.put, List.getElem_toArray, List.getElem_cons_zero, List.getElem_cons_succ, List.setIfInBounds_toArray, List.set_cons_zero, List.set_cons_succ]
            refine wpAnyH_take (i := 22) (v := ?_) rfl (by kernel_rfl) (by kernel_rfl) (by kernel_rfl) (fun _ _ _ h => h) (Or.inl ⟨by rfl, ?_⟩) hHeld ?_
            rotate_left
            · (intro w hSw; go_simp; (try with_reducible rfl))
            simp only [Act.put, List.getElem_toArray, List.getElem_cons_zero, List.getElem_cons_succ, List.setIfInBounds_toArray, List.set_cons_zero, List.set_cons_succ]
            refine wpAnyH_take (i := 23) (v := ?_) rfl (by kernel_rfl) (by kernel_rfl) (by kernel_rfl) (fun _ _ _ h => h) (Or.inl ⟨by rfl, ?_⟩) hHeld ?_
            rotate_left
            · (intro w hSw; go_simp; (try with_reducible rfl))
            simp only [Act.put, List.getElem_toArray, List.getElem_cons_zero, List.getElem_cons_succ, List.setIfInBounds_toArray, List.set_cons_zero, List.set_cons_succ]
            refine wpAnyH_take (i := 24) (v := ?_) rfl (by kernel_rfl) (by kernel_rfl) (by kernel_rfl) (fun _ _ _ h => h) (Or.inl ⟨by rfl, ?_⟩) hHeld ?_
            rotate_left
            · (intro w hSw; go_simp; (try with_reducible rfl))
            simp only [Act.put, List.getElem_toArray, List.getElem_cons_zero, List.getElem_cons_succ, List.setIfInBounds_toArray, List.set_cons_zero, List.set_cons_succ]
            refine wpAnyH_take (i := 25) (v := .agg (arr .i64 18 o)) rfl (by kernel_rfl) (by kernel_rfl) (by kernel_rfl) (fun _ _ _ h => h) (yields_obj (by rfl) (.tmp 104) rfl b (off + k * 18) rfl o (fun W hW => HR2.out W hW)) hHeld ?_
            simp only [Act.put, List.getElem_toArray, List.getElem_cons_zero, List.getElem_cons_succ, List.setIfInBounds_toArray, List.set_cons_zero, List.set_cons_succ]
            refine wpAnyH_take (i := 26) (v := ?_) rfl (by kernel_rfl) (by kernel_rfl) (by kernel_rfl) (fun _ _ _ h => h) (Or.inl ⟨by rfl, ?_⟩) hHeld ?_
            rotate_left
            · (intro w hSw; go_simp; (try with_reducible rfl))
            simp only [Act.put, List.getElem_toArray, List.getElem_cons_zero, List.getElem_cons_succ, List.setIfInBounds_toArray, List.set_cons_zero, List.set_cons_succ]
            refine wpAnyH_take (i := 27) (v := ?_) rfl (by kernel_rfl) (by kernel_rfl) (by kernel_rfl) (fun _ _ _ h => h) (Or.inl ⟨by rfl, ?_⟩) hHeld ?_
            rotate_left
            · (intro w hSw; go_simp; (try with_reducible rfl))
            simp only [Act.put, List.getElem_toArray, List.getElem_cons_zero, List.getElem_cons_succ, List.setIfInBounds_toArray, List.set_cons_zero, List.set_cons_succ]
            refine wpAnyH_ready (rs := [20]) (by kernel_rfl) (by simp) ?_
            refine AllReadyH.cons rfl (fun K hK => ?_) AllReadyH.nil
            simp only [List.getElem_toArray, List.getElem_cons_zero, List.getElem_cons_succ]
            go_simp
            refine (HK2.out _ hHeld).mono ?_
            rintro en wq ⟨rfl, hbq⟩
            go_wp2_with fail
            have hHeld := keepB hbq hHeld
            refine hK.out _ _ hHeld (fun _ => ?_)
            clear hK K
            try simp only [Act.put, List.setIfInBounds_toArray, List.set_cons_zero, List.set_cons_succ]
            clear hbq
            refine wpAnyH_ready (rs := [28]) (by kernel_rfl) (by simp) ?_
            refine AllReadyH.cons rfl (fun K hK => ?_) AllReadyH.nil
            simp only [List.getElem_toArray, List.getElem_cons_zero, List.getElem_cons_succ]
            go_simp
            refine (HK3.out _ hHeld).mono ?_
            rintro en wq ⟨rfl, hbq⟩
            go_wp2_with fail
            have hHeld := keepB hbq hHeld
            refine hK.out _ _ hHeld (fun _ => ?_)
            clear hK K
            try simp only [Act.put, List.setIfInBounds_toArray, List.set_cons_zero, List.set_cons_succ]
            clear hbq
            refine wpAnyH_take (i := 29) (v := ?_) rfl (by kernel_rfl) (by kernel_rfl) (by kernel_rfl) (fun _ _ _ h => h) (Or.inl ⟨by rfl, ?_⟩) hHeld ?_
            rotate_left
            · (intro w hSw; go_simp; (try with_reducible rfl))
            simp only [Act.put, List.getElem_toArray, List.getElem_cons_zero, List.getElem_cons_succ, List.setIfInBounds_toArray, List.set_cons_zero, List.set_cons_succ]
            refine wpAnyH_take (i := 30) (v := ?_) rfl (by kernel_rfl) (by kernel_rfl) (by kernel_rfl) (fun _ _ _ h => h) (Or.inl ⟨by rfl, ?_⟩) hHeld ?_
            rotate_left
            · (intro w hSw; go_simp; (try with_reducible rfl))
            simp only [Act.put, List.getElem_toArray, List.getElem_cons_zero, List.getElem_cons_succ, List.setIfInBounds_toArray, List.set_cons_zero, List.set_cons_succ]
            refine wpAnyH_done (by kernel_rfl) ?_ _
            have HWA := Lib.hid (HW8.out.keep hHeld)
            have HTA := Lib.hid (HT8.out.keep hHeld)
            have HBA := Lib.hid (keepB hHeld HB8.out)
            clear x1 x2 HK1 HK2 HK3 HR1 HR2 hqq hHeld HW8 HT8 HB8
            have hsT := HTA.out.a
            have hhd := E.hide t _ LT cT k 1 wq HTA.out.r (by rw [HTo.out.2]; exact HLl.out.1) (fun z hz => by rw [HT.out]; exact HLl.out.2 z hz) HN.out (by unfold N64; omega) HWA.out.b
            unfold EvsP at hhd
            obtain ⟨eB, heB⟩ : ∃ e, e = invE e1 := ⟨_, rfl⟩
            have hhs : showE t.objs (k : Int) 1 false = [eB] := by
              have h := hide_one (os := s.objs) (k := k) (x := o 17) (p := 0) (o := o) (List.getElem?_eq_some_iff.1 HO.out).1 (by omega) HB.out
              rw [HT.out, heB, HE1.out]
              exact h
            rw [hhs] at hhd
            have HEB := Lib.hid heB
            clear hhs heB
            go_wp2_with (refine load_wantS (by rfl) (.tmp 9) rfl g9 rfl cT hsT hcT ?_)
            refine hhd.mono ?_
            rintro en wB ⟨A11, n11, c11, rfl, hc11, hV11, hb11⟩
            obtain rfl : n11 = 1 := hV11.n
            obtain ⟨b2, of2, rfl, hbl2, hre2⟩ := hV11.r 0 eB rfl
            rw [Nat.zero_mul, Nat.add_zero] at hre2
            have HWB := Lib.hid (HWA.out.keep hb11)
            have HBB := Lib.hid (keepB hb11 HBA.out)
            clear hhd hsT hV11 hb11 HWA HBA HTA HTo
            go_upto_region 17 with fail
            have hiv := fun W => invRef_any e1 W
            rw [← HEB.out] at hiv
            have hneq := fun W => neq_evv eB W
            have hsB : (Tryd.prog.info? 53).map (·.size) = some (evC eB).size := ev_size eB
            obtain ⟨es, hes⟩ : ∃ es, es = evC eB := ⟨_, rfl⟩
            rw [show evV eB = .agg es by rw [hes]; rfl] at hneq hiv
            rw [← hes] at hre2 hsB
            have HIv := Lib.hid hiv
            have HR3 := Lib.hid (fun W (hW : Below wB.heap.size wB W) => range_below hW hbl2 hre2)
            have HR4 := Lib.hid (fun W (hW : Below wB.heap.size wB W) => range_below (keepB hW HBB.out) HRe7.out.1 HRe7.out.2)
            clear hes hiv hbl2 hre2
            refine wp_region_held_drew (S := fun W => Below wB.heap.size wB W) (by kernel_rfl) (Below.refl _ _).drew (fun hHeld => ?_)
            refine wpAnyH_take (i := 0) (v := ?_) rfl (by kernel_rfl) (by kernel_rfl) (by kernel_rfl) (fun _ _ _ h => h) (Or.inl ⟨by rfl, ?_⟩) hHeld ?_
            rotate_left
            · (intro w hSw; go_simp; (try with_reducible rfl))
            simp only [Act.put, List.getElem_toArray, List.getElem_cons_zero, List.getElem_cons_succ, List.setIfInBounds_toArray, List.set_cons_zero, List.set_cons_succ]
            refine wpAnyH_take (i := 1) (v := ?_) rfl (by kernel_rfl) (by kernel_rfl) (by kernel_rfl) (fun _ _ _ h => h) (Or.inl ⟨by rfl, ?_⟩) hHeld ?_
            rotate_left
            · (intro w hSw; go_simp; (try with_reducible rfl))
            simp only [Act.put, List.getElem_toArray, List.getElem_cons_zero, List.getElem_cons_succ, List.setIfInBounds_toArray, List.set_cons_zero, List.set_cons_succ]
            refine wpAnyH_take (i := 2) (v := ?_) rfl (by kernel_rfl) (by kernel_rfl) (by kernel_rfl) (fun _ _ _ h => h) (Or.inl ⟨by rfl, ?_⟩) hHeld ?_
            rotate_left
            · (intro w hSw; go_simp; (try with_reducible rfl))
            simp only [Act.put, List.getElem_toArray, List.getElem_cons_zero, List.getElem_cons_succ, List.setIfInBounds_toArray, List.set_cons_zero, List.set_cons_succ]
            refine wpAnyH_take (i := 3) (v := ?_) rfl (by kernel_rfl) (by kernel_rfl) (by kernel_rfl) (fun _ _ _ h => h) (Or.inl ⟨by rfl, ?_⟩) hHeld ?_
            rotate_left
            · (intro w hSw; go_simp; (try with_reducible rfl))
            simp only [Act.put, List.getElem_toArray, List.getElem_cons_zero, List.getElem_cons_succ, List.setIfInBounds_toArray, List.set_cons_zero, List.set_cons_succ]
            refine wpAnyH_take (i := 4) (v := ?_) rfl (by kernel_rfl) (by kernel_rfl) (by kernel_rfl) (fun _ _ _ h => h) (Or.inl ⟨by rfl, ?_⟩) hHeld ?_
            rotate_left
            · (intro w hSw; go_simp; (try with_reducible rfl))
            simp only [Act.put, List.getElem_toArray, List.getElem_cons_zero, List.getElem_cons_succ, List.setIfInBounds_toArray, List.set_cons_zero, List.set_cons_succ]
            refine wpAnyH_take (i := 5) (v := ?_) rfl (by kernel_rfl) (by kernel_rfl) (by kernel_rfl) (fun _ _ _ h => h) (Or.inl ⟨by rfl, ?_⟩) hHeld ?_
            rotate_left
            · (intro w hSw; go_simp; (try with_reducible rfl))
            simp only [Act.put, List.getElem_toArray, List.getElem_cons_zero, List.getElem_cons_succ, List.setIfInBounds_toArray, List.set_cons_zero, List.set_cons_succ]
            refine wpAnyH_take (i := 6) (v := .agg es) rfl (by kernel_rfl) (by kernel_rfl) (by kernel_rfl) (fun _ _ _ h => h) (yields_evA (by rfl) (.tmp 122) rfl b2 of2 rfl es hsB (fun W hW => HR3.out W hW)) hHeld ?_
            simp only [Act.put, List.getElem_toArray, List.getElem_cons_zero, List.getElem_cons_succ, List.setIfInBounds_toArray, List.set_cons_zero, List.set_cons_succ]
            refine wpAnyH_take (i := 7) (v := ?_) rfl (by kernel_rfl) (by kernel_rfl) (by kernel_rfl) (fun _ _ _ h => h) (Or.inl ⟨by rfl, ?_⟩) hHeld ?_
            rotate_left
            · (intro w hSw; go_simp; (try with_reducible rfl))
            simp only [Act.put, List.getElem_toArray, List.getElem_cons_zero, List.getElem_cons_succ, List.setIfInBounds_toArray, List.set_cons_zero, List.set_cons_succ]
            refine wpAnyH_take (i := 8) (v := ?_) rfl (by kernel_rfl) (by kernel_rfl) (by kernel_rfl) (fun _ _ _ h => h) (Or.inl ⟨by rfl, ?_⟩) hHeld ?_
            rotate_left
            · (intro w hSw; go_simp; (try with_reducible rfl))
            simp only [Act.put, List.getElem_toArray, List.getElem_cons_zero, List.getElem_cons_succ, List.setIfInBounds_toArray, List.set_cons_zero, List.set_cons_succ]
            refine wpAnyH_take (i := 9) (v := evV e1) rfl (by kernel_rfl) (by kernel_rfl) (by kernel_rfl) (fun _ _ _ h => h) (yields_evm (by rfl) (.tmp 125) rfl be oe rfl e1 (fun W hW => HR4.out W hW)) hHeld ?_
            simp only [Act.put, List.getElem_toArray, List.getElem_cons_zero, List.getElem_cons_succ, List.setIfInBounds_toArray, List.set_cons_zero, List.set_cons_succ]
            refine wpAnyH_ready (rs := [10]) (by kernel_rfl) (by simp) ?_
            refine AllReadyH.cons rfl (fun K hK => ?_) AllReadyH.nil
            simp only [List.getElem_toArray, List.getElem_cons_zero, List.getElem_cons_succ]
            go_simp
            refine (HIv.out _).mono ?_
            rintro en wq ⟨rfl, hbq⟩
            go_wp2_with fail
            have hHeld := keepB hbq hHeld
            refine hK.out _ _ hHeld (fun _ => ?_)
            clear hK K
            try simp only [Act.put, List.setIfInBounds_toArray, List.set_cons_zero, List.set_cons_succ]
            clear hbq
            refine wpAnyH_take (i := 11) (v := ?_) rfl (by kernel_rfl) (by kernel_rfl) (by kernel_rfl) (fun _ _ _ h => h) (Or.inl ⟨by rfl, ?_⟩) hHeld ?_
            rotate_left
            · (intro w hSw; go_simp; (try with_reducible rfl))
            simp only [Act.put, List.getElem_toArray, List.getElem_cons_zero, List.getElem_cons_succ, List.setIfInBounds_toArray, List.set_cons_zero, List.set_cons_succ]
            refine wpAnyH_take (i := 12) (v := ?_) rfl (by kernel_rfl) (by kernel_rfl) (by kernel_rfl) (fun _ _ _ h => h) (Or.inl ⟨by rfl, ?_⟩) hHeld ?_
            rotate_left
            · (intro w hSw; go_simp; (try with_reducible rfl))
            simp only [Act.put, List.getElem_toArray, List.getElem_cons_zero, List.getElem_cons_succ, List.setIfInBounds_toArray, List.set_cons_zero, List.set_cons_succ]
            refine wpAnyH_done (by kernel_rfl) ?_ _
            have HWC := Lib.hid (HWB.out.keep hHeld)
            clear hneq HIv HR3 HR4 hsB hHeld HWB HBB HRe7 hcT HcT
            go_upto_region 19 with fail
            have hsa := HWC.out.a
            have hcp := numCopy_own s _ L cs wq (HWC.out.reads HR.out) (by have := HLl.out.1; omega) (fun z hz => by have := HLl.out.2 z hz; omega)
            go_wp2_with (refine load_wantS (by rfl) (.tmp 3) rfl gs rfl cs hsa hcs ?_)
            refine hcp.mono ?_
            rintro en wD ⟨cU, rfl, OU, LU, hcU, hoU, hbD⟩
            clear hcp hsa
            have HWD := Lib.hid (HWC.out.keep hbD)
            have hnew : (wD.alloc (.cells st0 29)).heap[wD.heap.size]? = some (.cells st0 29 (0, 0)) := heap_alloc_new _ _
            have hsz : (Tryd.prog.info? 29).map (·.size) = some cU.size := by rw [hcU, stC_size]; exact size37
            have hs0 : st0.size = cU.size := by rw [hcU, stC_size]; exact stC_size _ _ _ _
            have hone : cU.all (·.oneCell') = true := by rw [hcU]; exact stC_one _ _ _ _
            have HcU := Lib.hid hcU
            have hz := st0_is
            clear hcU
            go_upto_region 20 with (refine wpList_store_row rfl 29 (.tmp 12) (.tmp 131) rfl wD.heap.size _ rfl rfl 29 st0 hnew hsz hs0 hone ?_)
            clear hnew hsz hs0 hone hz
            obtain ⟨wE, hwE, hAE, hbE⟩ := box_new wD cU
            rw [← hwE]
            obtain ⟨g12, hg12⟩ : ∃ g, g = wD.heap.size := ⟨_, rfl⟩
            rw [← hg12] at hAE ⊢
            have HU := Lib.hid (show UK wq g12 cU s OU LU wE from ⟨keepB hbE hbD, hAE, HcU.out, hoU.below hbE⟩)
            clear hwE hAE hbE hoU hg12 hbD HWD
            obtain ⟨AU, nU, ccU⟩ := OU
            obtain rfl : nU = s.objs.length := HU.out.o.on
            have hkl : k < s.objs.length := (List.getElem?_eq_some_iff.1 HO.out).1
            obtain ⟨bU, eU, hcell, hfr, _, _⟩ := owns_set (j := 0) (show wE.ownsRow wq.heap.size 49 18 (.slice AU s.objs.length ccU) s.objs.length (flatO s.objs) from HU.out.o.o) hkl (by omega)
            subst eU
            rw [Nat.add_zero] at hcell hfr
            have cu0 : wE.cell? ⟨g12, 0, none⟩ = some (.slice (some ⟨bU, 0, none⟩) s.objs.length ccU) := by rw [HU.out.a.cell, HU.out.c]; exact stC_objs _ _ _ _
            obtain ⟨y, hrm, hwv, hy0, hy1⟩ := kw_mod2 v
            have HV := Lib.hid (And.intro hy0 hy1)
            have HUx := Lib.hid (show UK wq g12 cU ⟨setO s.objs k 0 (y : Int), s.lists, s.pl, s.gm⟩ ⟨some ⟨bU, 0, none⟩, s.objs.length, ccU⟩ LU (wE.setCell ⟨bU, k * 18, none⟩ (.int .i64 (y : Int))) from HU.out.setc hkl (by omega) _)
            obtain ⟨xv, hxv⟩ : ∃ xv, xv = s.objs[k] 0 := ⟨_, rfl⟩
            rw [← hxv] at hcell
            have HCS := Lib.hid (And.intro hcs hkl)
            clear HU hy0 hy1 hv64 hxv hcs hkl
            try clear hb
            try clear hp
            try clear hg9s
            try clear hc5
            try clear hc11
            try clear hj
            try clear hlt
            try clear p2
            go_upto_region 21 with fail
            obtain ⟨hcs, hkl⟩ := HCS.out
            clear hcell hfr cu0 hwv hrm
            generalize wE.setCell ⟨bU, k * 18, none⟩ (.int .i64 (y : Int)) = wF at HUx ⊢
            obtain ⟨u2, hu2⟩ : ∃ u : StT, u = ⟨setO s.objs k 0 (y : Int), s.lists, s.pl, s.gm⟩ := ⟨_, rfl⟩
            rw [← hu2] at HUx
            have hI2 := (HR.out.i64).setO hkl 0 (x := (y : Int)) (by have := HV.out; unfold N64; omega)
            have hck2 : chkS u2 = 0 := by rw [hu2, setO_is HO.out]; exact chk_card HC.out HO.out HV.out
            have hsee : sameS (seeS 0 s) (seeS 0 u2) = true := by rw [hu2, setO_is HO.out]; exact see_card HO.out HB.out _
            have HLu := Lib.hid (show u2.objs.length ≤ 1000 ∧ ∀ z < 11, (u2.lists z).length ≤ 1000 from ⟨by rw [hu2]; show (setO s.objs k 0 (y : Int)).length ≤ 1000; rw [setO_len]; exact HLl.out.1, fun z hz => by rw [hu2]; exact HLl.out.2 z hz⟩)
            have HI2 := Lib.hid (show I64S u2 from by rw [hu2]; exact hI2)
            have HCK2 := Lib.hid (And.intro hck2 hsee)
            clear hu2 hI2 hck2 hsee hkl
            have hEs : seesE s 0 = 0 := by unfold seesE; rw [if_neg (by rw [HC.out]; simp), if_pos (by omega)]
            have hEu : seesE u2 0 = 0 := by unfold seesE; rw [if_neg (by rw [HCK2.out.1]; simp), if_pos (by omega)]
            have HWF := Lib.hid (HWC.out.keep HUx.out.b)
            have hse := ES s _ L cs 0 wF (HWF.out.reads HR.out) HLl.out.1 HLl.out.2 (by unfold N64; omega) HWF.out.b
            rw [hEs, seesT_ok hEs, errV_nil] at hse
            have hsa := HWF.out.a
            clear HWC hEs
            go_wp2_with (refine load_wantS (by rfl) (.tmp 3) rfl gs rfl cs hsa hcs ?_)
            refine hse.mono ?_
            rintro en wG ⟨cA, OA, LA, rfl, hRA, hbG⟩
            clear hse hsa
            have HUG := Lib.hid (HUx.out.keep hbG)
            have HWG := Lib.hid (HWF.out.keep hbG)
            have hnew : (World.alloc wG (.cells st0 29)).heap[(World.heap wG).size]? = some (.cells st0 29 (0, 0)) := heap_alloc_new _ _
            have hsz : (Tryd.prog.info? 29).map (·.size) = some cA.size := by rw [hRA.size]; exact size37
            have hs0 : st0.size = cA.size := by rw [hRA.size, show st0.size = 37 from stC_size _ _ _ _]
            have hone := hRA.one
            have hz := st0_is
            go_upto_region 22 with (refine wpList_store_row rfl 29 (.tmp 13) (.tmp 145) rfl (World.heap wG).size _ rfl rfl 29 st0 hnew hsz hs0 hone ?_)
            clear hnew hsz hs0 hone hz
            obtain ⟨wH, hwH, hAH, hbH⟩ := box_new wG cA
            rw [← hwH]
            obtain ⟨g13, hg13⟩ : ∃ g, g = wG.heap.size := ⟨_, rfl⟩
            rw [← hg13] at hAH ⊢
            have HA := Lib.hid (show BK g13 cA (seeS 0 s) OA LA wH from ⟨hAH, hRA.grow hbH⟩)
            have HUH := Lib.hid (HUG.out.keep hbH)
            have HWH := Lib.hid (HWG.out.keep hbH)
            have hcA := hRA.size
            clear hwH hAH hbH hbG hg13 hRA HUG HWG HUx HWF
            have hsu := ES u2 _ LU cU 0 wH (HUH.out.reads HI2.out) HLu.out.1 HLu.out.2 (by unfold N64; omega) HWH.out.b
            rw [hEu, seesT_ok hEu, errV_nil] at hsu
            have hua := HUH.out.a
            have hcU2 : cU.size = 37 := (HUH.out.reads HI2.out).size
            clear hEu
            go_wp2_with (refine load_wantS (by rfl) (.tmp 12) rfl g12 rfl cU hua hcU2 ?_)
            refine hsu.mono ?_
            rintro en wI ⟨cB, OB, LB, rfl, hRB, hbI⟩
            clear hsu hua
            have HAI := Lib.hid (HA.out.keep hbI)
            have HWI := Lib.hid (HWH.out.keep hbI)
            have hnew : (World.alloc wI (.cells st0 29)).heap[(World.heap wI).size]? = some (.cells st0 29 (0, 0)) := heap_alloc_new _ _
            have hsz : (Tryd.prog.info? 29).map (·.size) = some cB.size := by rw [hRB.size]; exact size37
            have hs0 : st0.size = cB.size := by rw [hRB.size, show st0.size = 37 from stC_size _ _ _ _]
            have hone := hRB.one
            have hz := st0_is
            go_upto_region 23 with (refine wpList_store_row rfl 29 (.tmp 15) (.tmp 151) rfl (World.heap wI).size _ rfl rfl 29 st0 hnew hsz hs0 hone ?_)
            clear hnew hsz hs0 hone hz
            obtain ⟨wJ, hwJ, hAJ, hbJ⟩ := box_new wI cB
            rw [← hwJ]
            obtain ⟨g15, hg15⟩ : ∃ g, g = wI.heap.size := ⟨_, rfl⟩
            rw [← hg15] at hAJ ⊢
            have HBJ := Lib.hid (show BK g15 cB (seeS 0 u2) OB LB wJ from ⟨hAJ, hRB.grow hbJ⟩)
            have HAJ := Lib.hid (HAI.out.keep hbJ)
            have HWJ := Lib.hid (HWI.out.keep hbJ)
            have hcB := hRB.size
            clear hwJ hAJ hbJ hbI hg15 hRB HAI HWI HA HWH HUH hcU2
            have hst := states_any _ _ _ _ _ _ cA cB wJ HAJ.out.r HBJ.out.r (by simp [seeS]; have := HLl.out.1; omega) (by simp [seeS]; have := HLu.out.1; omega) (fun z hz => by have := HLl.out.2 z hz; show (s.lists z).length ≤ 1000000; omega) (fun z hz => by have := HLu.out.2 z hz; show (u2.lists z).length ≤ 1000000; omega)
            rw [HCK2.out.2] at hst
            have haA := HAJ.out.a
            have haB := HBJ.out.a
            go_wp2_with (first
              | (refine load_wantS (by rfl) (.tmp 13) rfl g13 rfl cA haA hcA ?_)
              | (refine load_wantS (by rfl) (.tmp 15) rfl g15 rfl cB haB hcB ?_))
            refine hst.mono ?_
            rintro en wL ⟨rfl, hbL⟩
            have HWL := Lib.hid (HWJ.out.keep hbL)
            clear hst haA haB hcA hcB hbL HWJ HAJ HBJ
            go_wp2_with fail
            go_roundw
            case rel => exact ⟨0 + 1, by go_num, by omega, HWL⟩
            case measure => simp [intOf]
          refine wp_region_held_drew (S := fun W => Below w7.heap.size w7 W) (by kernel_rfl) (Below.refl _ _).drew (fun hHeld => ?_)
          refine wpAnyH_take (i := 0) (v := .agg cs) rfl (by kernel_rfl) (by kernel_rfl) (by kernel_rfl) (fun _ _ _ h => h) (yields_st (by rfl) (.tmp 3) rfl gs rfl cs hcs (fun W hW => (HW7.out.keep hW).a)) hHeld ?_
          simp only [Act.put, List.getElem_toArray, List.getElem_cons_zero, List.getElem_cons_succ, List.setIfInBounds_toArray, List.set_cons_zero, List.set_cons_succ]
          refine wpAnyH_take (i := 1) (v := ?_) rfl (by kernel_rfl) (by kernel_rfl) (by kernel_rfl) (fun _ _ _ h => h) (Or.inl ⟨by rfl, ?_⟩) hHeld ?_
          rotate_left
          · (intro w hSw; go_simp; (try with_reducible rfl))
          simp only [Act.put, List.getElem_toArray, List.getElem_cons_zero, List.getElem_cons_succ, List.setIfInBounds_toArray, List.set_cons_zero, List.set_cons_succ]
          refine wpAnyH_take (i := 2) (v := ?_) rfl (by kernel_rfl) (by kernel_rfl) (by kernel_rfl) (fun _ _ _ h => h) (Or.inl ⟨by rfl, ?_⟩) hHeld ?_
          rotate_left
          · (intro w hSw; go_simp; (try with_reducible rfl))
          simp only [Act.put, List.getElem_toArray, List.getElem_cons_zero, List.getElem_cons_succ, List.setIfInBounds_toArray, List.set_cons_zero, List.set_cons_succ]
          refine wpAnyH_take (i := 3) (v := evV e1) rfl (by kernel_rfl) (by kernel_rfl) (by kernel_rfl) (fun _ _ _ h => h) (yields_evm (by rfl) (.tmp 75) rfl be oe rfl e1 (fun W hW => range_below hW HRe7.out.1 HRe7.out.2)) hHeld ?_
          simp only [Act.put, List.getElem_toArray, List.getElem_cons_zero, List.getElem_cons_succ, List.setIfInBounds_toArray, List.set_cons_zero, List.set_cons_succ]
          have hz37 := st0_is
          generalize w7.drew = W0 at hHeld ⊢
          refine wpAnyH_ready (rs := [4, 8]) (by kernel_rfl) (by simp) ?_
          refine AllReadyH.cons rfl (fun K hK => ?_) (AllReadyH.cons rfl (fun K hK => ?_) AllReadyH.nil)
          all_goals simp only [List.getElem_toArray, List.getElem_cons_zero, List.getElem_cons_succ]
          all_goals go_simp
          · skip
            refine (HApp.out _ hHeld).mono ?_
            rintro en W9 ⟨cT, OT, LT, rfl, hRT, hOU, hb9⟩
            go_wp2_with fail
            have hHeld := keepB hb9 hHeld
            have hI64 := hRT.i64
            have hcT := hRT.size
            have hTone := hRT.one
            have HcT := Lib.hid hRT.cs
            clear hRT
            refine hK.out _ _ hHeld (fun _ => ?_)
            clear hK K
            try simp only [Act.put, List.setIfInBounds_toArray, List.set_cons_zero, List.set_cons_succ]
            refine wpAnyH_take (i := 5) (v := ?_) rfl (by kernel_rfl) (by kernel_rfl) (by kernel_rfl) (fun _ _ _ h => h) (Or.inl ⟨by rfl, ?_⟩) hHeld ?_
            rotate_left
            · (intro w hSw; go_simp; (try with_reducible rfl))
            simp only [Act.put, List.getElem_toArray, List.getElem_cons_zero, List.getElem_cons_succ, List.setIfInBounds_toArray, List.set_cons_zero, List.set_cons_succ]
            refine wpAnyH_take (i := 6) (v := ?_) rfl (by kernel_rfl) (by kernel_rfl) (by kernel_rfl) (fun _ _ _ h => h) (Or.inl ⟨by rfl, ?_⟩) hHeld ?_
            rotate_left
            · (intro w hSw; go_simp; (try with_reducible rfl))
            simp only [Act.put, List.getElem_toArray, List.getElem_cons_zero, List.getElem_cons_succ, List.setIfInBounds_toArray, List.set_cons_zero, List.set_cons_succ]
            refine wpAnyH_take (i := 7) (v := ?_) rfl (by kernel_rfl) (by kernel_rfl) (by kernel_rfl) (fun _ _ _ h => h) (Or.inl ⟨by rfl, ?_⟩) hHeld ?_
            rotate_left
            · (intro w hSw; go_simp; (try with_reducible rfl))
            simp only [Act.put, List.getElem_toArray, List.getElem_cons_zero, List.getElem_cons_succ, List.setIfInBounds_toArray, List.set_cons_zero, List.set_cons_succ]
            refine wpAnyH_ready (rs := [8]) (by kernel_rfl) (by simp) ?_
            refine AllReadyH.cons rfl (fun K hK => ?_) AllReadyH.nil
            simp only [List.getElem_toArray, List.getElem_cons_zero, List.getElem_cons_succ]
            go_simp
            obtain ⟨W7, hW7⟩ : ∃ W7, W7 = World.alloc W9 (.cells st0 29) := ⟨_, rfl⟩
            obtain ⟨g9, hg9⟩ : ∃ g, g = (World.heap W9).size := ⟨_, rfl⟩
            have hbb : Below (World.heap W9).size W9 W7 := by rw [hW7]; exact (Below.refl _ _).alloc (Nat.le_refl _) _
            have hBox : StAt W7 g9 st0 := by rw [hW7, hg9]; exact heap_alloc_new _ _
            have hg9w : w7.heap.size ≤ g9 := by rw [hg9]; exact hHeld.size
            have hHeld := keepB hbb hHeld
            rw [← hW7, ← hg9]
            clear hW7 hg9
            refine hK.out _ _ hHeld (fun _ => ?_)
            clear hK K
            try simp only [Act.put, List.setIfInBounds_toArray, List.set_cons_zero, List.set_cons_succ]
            have hOU := hOU.below hbb
            refine wpAnyH_ready (rs := [9]) (by kernel_rfl) (by simp) ?_
            refine AllReadyH.cons rfl (fun K hK => ?_) AllReadyH.nil
            simp only [List.getElem_toArray, List.getElem_cons_zero, List.getElem_cons_succ]
            refine wp_store_row 29 (.tmp 9) (.tmp 78) rfl g9 _ rfl rfl 29 _ hBox (by rw [hcT]; exact size37) (by rw [hcT]; exact stC_size _ _ _ _) hTone ?_
            have hA9 : StAt (World.setRow W7 g9 cT) g9 cT := setRow_heap _ _ _ _ _ _ hBox
            have hRD := (OwnS.rowK hOU hBox cT).reads hI64.o hI64.l hI64.p hI64.g
            rw [← HcT.out] at hRD
            have hHeld := below_setRow hHeld g9 cT hg9w
            refine hK.out _ _ hHeld (fun _ => ?_)
            clear hK K
            try simp only [Act.put, List.setIfInBounds_toArray, List.set_cons_zero, List.set_cons_succ]
            refine wpAnyH_take (i := 10) (v := ?_) rfl (by kernel_rfl) (by kernel_rfl) (by kernel_rfl) (fun _ _ _ h => h) (Or.inl ⟨by rfl, ?_⟩) hHeld ?_
            rotate_left
            · (intro w hSw; go_simp; (try with_reducible rfl))
            simp only [Act.put, List.getElem_toArray, List.getElem_cons_zero, List.getElem_cons_succ, List.setIfInBounds_toArray, List.set_cons_zero, List.set_cons_succ]
            refine wpAnyH_done (by kernel_rfl) ?_ _
            go_step
            go_step
            go_meet
            have HT8 := Lib.hid (show BK g9 cT t OT LT (World.setRow W7 g9 cT) from ⟨hA9, hRD⟩)
            have HW8 := Lib.hid (HW7.out.keep hHeld)
            have HB8 := Lib.hid hHeld
            have hg9s : gs ≠ g9 := by
              have h1 := HGs.out
              have h2 := HW7.out.a.lt
              omega
            case rel => exact ⟨g9, cT, OT, LT, rfl, rfl, hg9s, HT8, HW8, HB8, hcT, HcT⟩
          · skip
            obtain ⟨W7, hW7⟩ : ∃ W7, W7 = World.alloc W0 (.cells st0 29) := ⟨_, rfl⟩
            obtain ⟨g9, hg9⟩ : ∃ g, g = (World.heap W0).size := ⟨_, rfl⟩
            have hbb : Below (World.heap W0).size W0 W7 := by rw [hW7]; exact (Below.refl _ _).alloc (Nat.le_refl _) _
            have hBox : StAt W7 g9 st0 := by rw [hW7, hg9]; exact heap_alloc_new _ _
            have hg9w : w7.heap.size ≤ g9 := by rw [hg9]; exact hHeld.size
            have hHeld := keepB hbb hHeld
            rw [← hW7, ← hg9]
            clear hW7 hg9
            refine hK.out _ _ hHeld (fun _ => ?_)
            clear hK K
            try simp only [Act.put, List.setIfInBounds_toArray, List.set_cons_zero, List.set_cons_succ]
            refine wpAnyH_ready (rs := [4]) (by kernel_rfl) (by simp) ?_
            refine AllReadyH.cons rfl (fun K hK => ?_) AllReadyH.nil
            simp only [List.getElem_toArray, List.getElem_cons_zero, List.getElem_cons_succ]
            go_simp
            refine (HApp.out _ hHeld).mono ?_
            rintro en W9 ⟨cT, OT, LT, rfl, hRT, hOU, hb9⟩
            go_wp2_with fail
            have hHeld := keepB hb9 hHeld
            have hI64 := hRT.i64
            have hcT := hRT.size
            have hTone := hRT.one
            have HcT := Lib.hid hRT.cs
            clear hRT
            refine hK.out _ _ hHeld (fun _ => ?_)
            clear hK K
            try simp only [Act.put, List.setIfInBounds_toArray, List.set_cons_zero, List.set_cons_succ]
            refine wpAnyH_take (i := 5) (v := ?_) rfl (by kernel_rfl) (by kernel_rfl) (by kernel_rfl) (fun _ _ _ h => h) (Or.inl ⟨by rfl, ?_⟩) hHeld ?_
            rotate_left
            · (intro w hSw; go_simp; (try with_reducible rfl))
            simp only [Act.put, List.getElem_toArray, List.getElem_cons_zero, List.getElem_cons_succ, List.setIfInBounds_toArray, List.set_cons_zero, List.set_cons_succ]
            refine wpAnyH_take (i := 6) (v := ?_) rfl (by kernel_rfl) (by kernel_rfl) (by kernel_rfl) (fun _ _ _ h => h) (Or.inl ⟨by rfl, ?_⟩) hHeld ?_
            rotate_left
            · (intro w hSw; go_simp; (try with_reducible rfl))
            simp only [Act.put, List.getElem_toArray, List.getElem_cons_zero, List.getElem_cons_succ, List.setIfInBounds_toArray, List.set_cons_zero, List.set_cons_succ]
            refine wpAnyH_take (i := 7) (v := ?_) rfl (by kernel_rfl) (by kernel_rfl) (by kernel_rfl) (fun _ _ _ h => h) (Or.inl ⟨by rfl, ?_⟩) hHeld ?_
            rotate_left
            · (intro w hSw; go_simp; (try with_reducible rfl))
            simp only [Act.put, List.getElem_toArray, List.getElem_cons_zero, List.getElem_cons_succ, List.setIfInBounds_toArray, List.set_cons_zero, List.set_cons_succ]
            have hBox := hBox.keep hb9
            refine wpAnyH_ready (rs := [9]) (by kernel_rfl) (by simp) ?_
            refine AllReadyH.cons rfl (fun K hK => ?_) AllReadyH.nil
            simp only [List.getElem_toArray, List.getElem_cons_zero, List.getElem_cons_succ]
            refine wp_store_row 29 (.tmp 9) (.tmp 78) rfl g9 _ rfl rfl 29 _ hBox (by rw [hcT]; exact size37) (by rw [hcT]; exact stC_size _ _ _ _) hTone ?_
            have hA9 : StAt (World.setRow W9 g9 cT) g9 cT := setRow_heap _ _ _ _ _ _ hBox
            have hRD := (OwnS.rowK hOU hBox cT).reads hI64.o hI64.l hI64.p hI64.g
            rw [← HcT.out] at hRD
            have hHeld := below_setRow hHeld g9 cT hg9w
            refine hK.out _ _ hHeld (fun _ => ?_)
            clear hK K
            try simp only [Act.put, List.setIfInBounds_toArray, List.set_cons_zero, List.set_cons_succ]
            refine wpAnyH_take (i := 10) (v := ?_) rfl (by kernel_rfl) (by kernel_rfl) (by kernel_rfl) (fun _ _ _ h => h) (Or.inl ⟨by rfl, ?_⟩) hHeld ?_
            rotate_left
            · (intro w hSw; go_simp; (try with_reducible rfl))
            simp only [Act.put, List.getElem_toArray, List.getElem_cons_zero, List.getElem_cons_succ, List.setIfInBounds_toArray, List.set_cons_zero, List.set_cons_succ]
            refine wpAnyH_done (by kernel_rfl) ?_ _
            go_step
            go_step
            go_meet
            have HT8 := Lib.hid (show BK g9 cT t OT LT (World.setRow W9 g9 cT) from ⟨hA9, hRD⟩)
            have HW8 := Lib.hid (HW7.out.keep hHeld)
            have HB8 := Lib.hid hHeld
            have hg9s : gs ≠ g9 := by
              have h1 := HGs.out
              have h2 := HW7.out.a.lt
              omega
            case rel => exact ⟨g9, cT, OT, LT, rfl, rfl, hg9s, HT8, HW8, HB8, hcT, HcT⟩
      · skip
        have hp : (1 : Int) = 0 ∨ (1 : Int) = 1 := by omega
        have HSh := Lib.hid (E.show_ s _ L cs k 2 wr (HWr.out.reads HR.out) HLl.out.1 HLl.out.2 HN.out (by unfold N64; omega) HWr.out.b)
        have hsh := HSh.out
        unfold EvsP at hsh
        have hsa := HWr.out.a
        by_cases hb : bitK (o 17) 1 = true
        · have hs : showE s.objs (k : Int) 2 true = [] := show_none (p := 1) HO.out hp hb
          rw [hs] at hsh
          have HB := Lib.hid hb
          clear hb hs HSh
          go_wp2_with (refine load_wantS (by rfl) (.tmp 3) rfl gs rfl cs hsa hcs ?_)
          refine hsh.mono ?_
          rintro en w5 ⟨A5, n5, c5, rfl, hc5, hV5, hb5⟩
          obtain rfl : n5 = 0 := hV5.n
          have HW5 := Lib.hid (HWr.out.keep hb5)
          have hgd := E.gained A5 0 c5 [] w5 hV5 hc5 (by omega) HW5.out.b
          rw [show [].any gainsE = false from rfl] at hgd
          clear hsh hV5 hb5 hsa HWr
          go_wp2_with fail
          refine hgd.mono ?_
          rintro en w6 ⟨rfl, hb6⟩
          have HW6 := Lib.hid (HW5.out.keep hb6)
          clear hgd hb6 HW5
          have cg : w6.cell? ⟨gs, 0, none⟩ = some (.slice (some ⟨b, off, none⟩) s.objs.length c) := by rw [HW6.out.a.cell]; exact HC0.out
          have hra := range_below HW6.out.b HRa.out.1 HRa.out.2
          have hkn := E.knows o 1 w6 HOw.out (by unfold N64; omega) HW6.out.b
          rw [HB.out] at hkn
          go_wp2_with (refine load_objW (by rfl) (.tmp 60) rfl b (off + k * 18) rfl o hra ?_)
          refine hkn.mono ?_
          rintro en w7 ⟨rfl, hb7⟩
          have HW7 := Lib.hid (HW6.out.keep hb7)
          clear hkn hra cg hb7 HW6
          go_wp2_with fail
          go_roundw
          case rel => exact ⟨1 + 1, by go_num, by omega, HW7⟩
          case measure => simp [intOf]
        · have hb : bitK (o 17) 1 = false := by simpa using hb
          have hs : showE s.objs (k : Int) 2 true = [⟨2, k, 17, o 17, o 17 + 2, 0⟩] := show_one (p := 1) HO.out hp hb
          obtain ⟨e1, he1⟩ : ∃ e : EvT, e = ⟨2, k, 17, o 17, o 17 + 2, 0⟩ := ⟨_, rfl⟩
          rw [hs, ← he1] at hsh
          have h17 := chk_17 HC.out HO.out
          have HI1 := Lib.hid (show EvI e1 from by
            rw [he1]
            exact ⟨by show N64 2; unfold N64; omega, HN.out, by show N64 17; unfold N64; omega, HOw.out 17 (by omega), by show N64 (o 17 + 2); unfold N64; omega, by show N64 0; unfold N64; omega⟩)
          have hga : [e1].any gainsE = true := by
            have h : gainsE e1 = true := by rw [he1]; exact gains_one (p := 1) hp hb
            simp [h]
          obtain ⟨t, ht⟩ : ∃ t : StT, t = ⟨s.objs.set k (updI o 17 (o 17 + 2)), s.lists, s.pl, s.gm⟩ := ⟨_, rfl⟩
          have HAp := Lib.hid (show applyS s e1 = (t, 0) from by rw [he1, ht]; exact apply_show (p := 1) HC.out HO.out hp)
          have HE1 := Lib.hid he1
          have HT := Lib.hid ht
          have HB := Lib.hid hb
          clear hb hs HSh he1 ht h17
          go_wp2_with (refine load_wantS (by rfl) (.tmp 3) rfl gs rfl cs hsa hcs ?_)
          refine hsh.mono ?_
          rintro en w5 ⟨A5, n5, c5, rfl, hc5, hV5, hb5⟩
          obtain rfl : n5 = 1 := hV5.n
          obtain ⟨be, oe, rfl, hbe, hre⟩ := hV5.r 0 e1 rfl
          rw [Nat.zero_mul, Nat.add_zero] at hre
          have HW5 := Lib.hid (HWr.out.keep hb5)
          have hgd := E.gained _ 1 c5 [e1] w5 hV5 hc5 (by omega) HW5.out.b
          rw [hga] at hgd
          have HRe5 := Lib.hid (And.intro hbe hre)
          clear hsh hV5 hb5 hsa HWr hga hbe hre
          go_wp2_with fail
          refine hgd.mono ?_
          rintro en w6 ⟨rfl, hb6⟩
          have HW6 := Lib.hid (HW5.out.keep hb6)
          have HRe6 := Lib.hid (And.intro (Nat.lt_of_lt_of_le HRe5.out.1 hb6.size) (range_below hb6 HRe5.out.1 HRe5.out.2))
          clear hgd hb6 HW5 HRe5
          have cg : w6.cell? ⟨gs, 0, none⟩ = some (.slice (some ⟨b, off, none⟩) s.objs.length c) := by rw [HW6.out.a.cell]; exact HC0.out
          have hra := range_below HW6.out.b HRa.out.1 HRa.out.2
          have hkn := E.knows o 1 w6 HOw.out (by unfold N64; omega) HW6.out.b
          rw [HB.out] at hkn
          go_wp2_with (refine load_objW (by rfl) (.tmp 60) rfl b (off + k * 18) rfl o hra ?_)
          refine hkn.mono ?_
          rintro en w7 ⟨rfl, hb7⟩
          have HW7 := Lib.hid (HW6.out.keep hb7)
          have HRe7 := Lib.hid (And.intro (Nat.lt_of_lt_of_le HRe6.out.1 hb7.size) (range_below hb7 HRe6.out.1 HRe6.out.2))
          clear hkn hra cg hb7 HW6 HRe6
          go_upto_region 13 with fail
          have HApp := Lib.hid (fun W (hW : Below w7.heap.size w7 W) => (show Calls Tryd.prog 17 #[.agg cs, evV e1] W (ApR W (t, 0)) from by have h := applyRef_any s _ L cs e1 W ((HW7.out.keep hW).reads HR.out) (by have := HLl.out.1; omega) (fun z hz => by have := HLl.out.2 z hz; omega) HI1.out; rw [HAp.out] at h; exact h))
          go_cut [9, 10] (fun tv bv wx => ∃ (g9 : Nat) (cT : Array Value) (OT : SlT) (LT : Nat → SlT), tv = .pointer (some ⟨g9, 0, none⟩) ∧ bv = .int .i64 0 ∧ gs ≠ g9 ∧ Hid (BK g9 cT t OT LT wx) ∧ Hid (KW w gs cs wx) ∧ Hid (Below w7.heap.size w7 wx) ∧ cT.size = 37 ∧ Hid (cT = stC OT LT t.pl t.gm))
          case rest =>
            clear HApp HW7
            obtain ⟨g9, cT, OT, LT, rfl, rfl, hg9s, HT8, HW8, HB8, hcT, HcT⟩ := hcut
            go_upto_region 14 with fail
            obtain ⟨o2, ho2⟩ : ∃ f : Nat → Int, f = updI o 17 (o 17 + 2) := ⟨_, rfl⟩
            have hkl : k < s.objs.length := (List.getElem?_eq_some_iff.1 HO.out).1
            have hto : t.objs[k]? = some o2 := by rw [HT.out, ho2]; exact List.getElem?_set_self hkl
            have htl : t.objs.length = s.objs.length := by rw [HT.out]; exact List.length_set
            have h217 : o2 17 = o 17 + 2 := by rw [ho2]; exact if_pos rfl
            obtain ⟨bT, offT, eT, hblT, hraT⟩ := HT8.out.r.o k o2 hto
            have hnT := HT8.out.r.on
            have hcc := HcT.out
            obtain ⟨AT, nT, ccT⟩ := OT
            simp only at eT hnT
            subst eT
            rw [htl] at hnT
            subst hnT
            have ct0 : cT[0]? = some (.slice (some ⟨bT, offT, none⟩) s.objs.length ccT) := by rw [hcc]; exact stC_objs _ _ _ _
            have hbm := bit_more (x := o 17) (p := 1) (by omega) HB.out
            obtain ⟨q, hq⟩ : ∃ q, q = bitK (o 17) 0 := ⟨_, rfl⟩
            have hqq : (q != q) = false := bne_self_eq_false _
            have HO2w := Lib.hid (HT8.out.r.ow o2 (List.mem_of_getElem? hto))
            have HK1 := Lib.hid (fun W (hW : Below wc.heap.size wc W) => (show Calls Tryd.prog 16 #[.agg (arr .i64 18 o2), .int .i64 1] W fun en w' => en = .returned (.bool true) ∧ Below W.heap.size W w' from by have h := E.knows o2 1 W HO2w.out (by unfold N64; omega) (keepB hW HW8.out.b); rw [h217, show bitK (o 17 + 2) 1 = true from hbm.1] at h; exact h))
            have HK2 := Lib.hid (fun W (hW : Below wc.heap.size wc W) => (show Calls Tryd.prog 16 #[.agg (arr .i64 18 o2), .int .i64 0] W fun en w' => en = .returned (.bool q) ∧ Below W.heap.size W w' from by have h := E.knows o2 0 W HO2w.out (by unfold N64; omega) (keepB hW HW8.out.b); rw [h217, show bitK (o 17 + 2) 0 = q from hbm.2.trans hq.symm] at h; exact h))
            have HK3 := Lib.hid (fun W (hW : Below wc.heap.size wc W) => (show Calls Tryd.prog 16 #[.agg (arr .i64 18 o), .int .i64 0] W fun en w' => en = .returned (.bool q) ∧ Below W.heap.size W w' from by have h := E.knows o 0 W HOw.out (by unfold N64; omega) (keepB hW HW8.out.b); rw [← hq] at h; exact h))
            have x1 : ∀ W, Below wc.heap.size wc W → W.cell? ⟨g9, 0, none⟩ = some (.slice (some ⟨bT, offT, none⟩) s.objs.length ccT) := fun W hW => by rw [(HT8.out.a.keep hW).cell]; exact ct0
            have x2 : ∀ W, Below wc.heap.size wc W → W.cell? ⟨gs, 0, none⟩ = some (.slice (some ⟨b, off, none⟩) s.objs.length c) := fun W hW => by rw [(HW8.out.keep hW).a.cell]; exact HC0.out
            have HR1 := Lib.hid (fun W (hW : Below wc.heap.size wc W) => range_below hW hblT hraT)
            have HR2 := Lib.hid (fun W (hW : Below wc.heap.size wc W) => range_below (HW8.out.keep hW).b HRa.out.1 HRa.out.2)
            have HTo := Lib.hid (And.intro hto htl)
            clear ho2 hkl hto htl h217 hblT hraT hcc ct0 hbm hq
            refine wp_region_held_drew (S := fun W => Below wc.heap.size wc W) (by kernel_rfl) (Below.refl _ _).drew (fun hHeld => ?_)
            refine wpAnyH_take (i := 0) (v := ?_) rfl (by kernel_rfl) (by kernel_rfl) (by kernel_rfl) (fun _ _ _ h => h) (Or.inl ⟨by rfl, ?_⟩) hHeld ?_
            rotate_left
            · (intro w hSw; go_simp; (try with_reducible rfl))
            simp only [Act.put, List.getElem_toArray, List.getElem_cons_zero, List.getElem_cons_succ, List.setIfInBounds_toArray, List.set_cons_zero, List.set_cons_succ]
            refine wpAnyH_take (i := 1) (v := ?_) rfl (by kernel_rfl) (by kernel_rfl) (by kernel_rfl) (fun _ _ _ h => h) (Or.inl ⟨by rfl, ?_⟩) hHeld ?_
            rotate_left
            · (intro w hSw; go_simp; (try with_reducible rfl))
            simp only [Act.put, List.getElem_toArray, List.getElem_cons_zero, List.getElem_cons_succ, List.setIfInBounds_toArray, List.set_cons_zero, List.set_cons_succ]
            refine wpAnyH_take (i := 2) (v := ?_) rfl (by kernel_rfl) (by kernel_rfl) (by kernel_rfl) (fun _ _ _ h => h) (Or.inl ⟨by rfl, ?_⟩) hHeld ?_
            rotate_left
            · (intro w hSw; go_simp; (try with_reducible rfl))
            simp only [Act.put, List.getElem_toArray, List.getElem_cons_zero, List.getElem_cons_succ, List.setIfInBounds_toArray, List.set_cons_zero, List.set_cons_succ]
            refine wpAnyH_take (i := 3) (v := ?_) rfl (by kernel_rfl) (by kernel_rfl) (by kernel_rfl) (fun _ _ _ h => h) (Or.inl ⟨by rfl, ?_⟩) hHeld ?_
            rotate_left
            · (intro w hSw; go_simp; (try with_reducible rfl))
            simp only [Act.put, List.getElem_toArray, List.getElem_cons_zero, List.getElem_cons_succ, List.setIfInBounds_toArray, List.set_cons_zero, List.set_cons_succ]
            refine wpAnyH_take (i := 4) (v := ?_) rfl (by kernel_rfl) (by kernel_rfl) (by kernel_rfl) (fun _ _ _ h => h) (Or.inl ⟨by rfl, ?_⟩) hHeld ?_
            rotate_left
            · (intro w hSw; go_simp; (try with_reducible rfl))
            simp only [Act.put, List.getElem_toArray, List.getElem_cons_zero, List.getElem_cons_succ, List.setIfInBounds_toArray, List.set_cons_zero, List.set_cons_succ]
            refine wpAnyH_take (i := 5) (v := ?_) rfl (by kernel_rfl) (by kernel_rfl) (by kernel_rfl) (fun _ _ _ h => h) (Or.inl ⟨by rfl, ?_⟩) hHeld ?_
            rotate_left
            · (intro w hSw; go_simp; (try with_reducible rfl))
            simp only [Act.put, List.getElem_toArray, List.getElem_cons_zero, List.getElem_cons_succ, List.setIfInBounds_toArray, List.set_cons_zero, List.set_cons_succ]
            refine wpAnyH_take (i := 6) (v := ?_) rfl (by kernel_rfl) (by kernel_rfl) (by kernel_rfl) (fun _ _ _ h => h) (Or.inl ⟨by rfl, ?_⟩) hHeld ?_
            rotate_left
            · (intro w hSw; go_simp; (try with_reducible rfl))
            simp only [Act.put, List.getElem_toArray, List.getElem_cons_zero, List.getElem_cons_succ, List.setIfInBounds_toArray, List.set_cons_zero, List.set_cons_succ]
            refine wpAnyH_take (i := 7) (v := .agg (arr .i64 18 o2)) rfl (by kernel_rfl) (by kernel_rfl) (by kernel_rfl) (fun _ _ _ h => h) (yields_obj (by rfl) (.tmp 86) rfl bT (offT + k * 18) rfl o2 (fun W hW => HR1.out W hW)) hHeld ?_
            simp only [Act.put, List.getElem_toArray, List.getElem_cons_zero, List.getElem_cons_succ, List.setIfInBounds_toArray, List.set_cons_zero, List.set_cons_succ]
            refine wpAnyH_take (i := 8) (v := ?_) rfl (by kernel_rfl) (by kernel_rfl) (by kernel_rfl) (fun _ _ _ h => h) (Or.inl ⟨by rfl, ?_⟩) hHeld ?_
            rotate_left
            · (intro w hSw; go_simp; (try with_reducible rfl))
            simp only [Act.put, List.getElem_toArray, List.getElem_cons_zero, List.getElem_cons_succ, List.setIfInBounds_toArray, List.set_cons_zero, List.set_cons_succ]
            refine wpAnyH_ready (rs := [9]) (by kernel_rfl) (by simp) ?_
            refine AllReadyH.cons rfl (fun K hK => ?_) AllReadyH.nil
            simp only [List.getElem_toArray, List.getElem_cons_zero, List.getElem_cons_succ]
            go_simp
            refine (HK1.out _ hHeld).mono ?_
            rintro en wq ⟨rfl, hbq⟩
            go_wp2_with fail
            have hHeld := keepB hbq hHeld
            refine hK.out _ _ hHeld (fun _ => ?_)
            clear hK K
            try simp only [Act.put, List.setIfInBounds_toArray, List.set_cons_zero, List.set_cons_succ]
            clear hbq
            refine wpAnyH_take (i := 10) (v := ?_) rfl (by kernel_rfl) (by kernel_rfl) (by kernel_rfl) (fun _ _ _ h => h) (Or.inl ⟨by rfl, ?_⟩) hHeld ?_
            rotate_left
            · (intro w hSw; go_simp; (try with_reducible rfl))
            simp only [Act.put, List.getElem_toArray, List.getElem_cons_zero, List.getElem_cons_succ, List.setIfInBounds_toArray, List.set_cons_zero, List.set_cons_succ]
            refine wpAnyH_take (i := 11) (v := ?_) rfl (by kernel_rfl) (by kernel_rfl) (by kernel_rfl) (fun _ _ _ h => h) (Or.inl ⟨by rfl, ?_⟩) hHeld ?_
            rotate_left
            · (intro w hSw; go_simp; (try with_reducible rfl))
            simp only [Act.put, List.getElem_toArray, List.getElem_cons_zero, List.getElem_cons_succ, List.setIfInBounds_toArray, List.set_cons_zero, List.set_cons_succ]
            refine wpAnyH_take (i := 12) (v := ?_) rfl (by kernel_rfl) (by kernel_rfl) (by kernel_rfl) (fun _ _ _ h => h) (Or.inl ⟨by rfl, ?_⟩) hHeld ?_
            rotate_left
            · (intro w hSw; go_simp; (try with_reducible rfl))
            simp only [Act.put, List.getElem_toArray, List.getElem_cons_zero, List.getElem_cons_succ, List.setIfInBounds_toArray, List.set_cons_zero, List.set_cons_succ]
            refine wpAnyH_take (i := 13) (v := ?_) rfl (by kernel_rfl) (by kernel_rfl) (by kernel_rfl) (fun _ _ _ h => h) (Or.inl ⟨by rfl, ?_⟩) hHeld ?_
            rotate_left
            · (intro w hSw; go_simp; (try with_reducible rfl))
            simp only [Act.put, List.getElem_toArray, List.getElem_cons_zero, List.getElem_cons_succ, List.setIfInBounds_toArray, List.set_cons_zero, List.set_cons_succ]
            refine wpAnyH_take (i := 14) (v := ?_) rfl (by kernel_rfl) (by kernel_rfl) (by kernel_rfl) (fun _ _ _ h => h) (Or.inl ⟨by rfl, ?_⟩) hHeld ?_
            rotate_left
            · (intro w hSw; go_simp; (try with_reducible rfl))
            simp only [Act.put, List.getElem_toArray, List.getElem_cons_zero, List.getElem_cons_succ, List.setIfInBounds_toArray, List.set_cons_zero, List.set_cons_succ]
            refine wpAnyH_take (i := 15) (v := ?_) rfl (by kernel_rfl) (by kernel_rfl) (by kernel_rfl) (fun _ _ _ h => h) (Or.inl ⟨by rfl, ?_⟩) hHeld ?_
            rotate_left
            · (intro w hSw; go_simp; (try with_reducible rfl))
            simp only [Act.put, List.getElem_toArray, List.getElem_cons_zero, List.getElem_cons_succ, List.setIfInBounds_toArray, List.set_cons_zero, List.set_cons_succ]
            refine wpAnyH_take (i := 16) (v := ?_) rfl (by kernel_rfl) (by kernel_rfl) (by kernel_rfl) (fun _ _ _ h => h) (Or.inl ⟨by rfl, ?_⟩) hHeld ?_
            rotate_left
            · (intro w hSw; go_simp; (try with_reducible rfl))
            simp only [Act.put, List.getElem_toArray, List.getElem_cons_zero, List.getElem_cons_succ, List.setIfInBounds_toArray, List.set_cons_zero, List.set_cons_succ]
            refine wpAnyH_take (i := 17) (v := .agg (arr .i64 18 o2)) rfl (by kernel_rfl) (by kernel_rfl) (by kernel_rfl) (fun _ _ _ h => h) (yields_obj (by rfl) (.tmp 96) rfl bT (offT + k * 18) rfl o2 (fun W hW => HR1.out W hW)) hHeld ?_
            simp only [Act.put, List.getElem_toArray, List.getElem_cons_zero, List.getElem_cons_succ, List.setIfInBounds_toArray, List.set_cons_zero, List.set_cons_succ]
            refine wpAnyH_take (i := 18) (v := ?_) rfl (by kernel_rfl) (by kernel_rfl) (by kernel_rfl) (fun _ _ _ h => h) (Or.inl ⟨by rfl, ?_⟩) hHeld ?_
            rotate_left
            · (intro w hSw; go_simp; (try with_reducible rfl))
            simp only [Act.put, List.getElem_toArray, List.getElem_cons_zero, List.getElem_cons_succ, List.setIfInBounds_toArray, List.set_cons_zero, List.set_cons_succ]
            refine wpAnyH_take (i := 19) (v := ?_) rfl (by kernel_rfl) (by kernel_rfl) (by kernel_rfl) (fun _ _ _ h => h) (Or.inl ⟨by rfl, ?_⟩) hHeld ?_
            rotate_left
            · (intro w hSw; go_simp; (try with_reducible rfl))
            simp only [Act.put, List.getElem_toArray, List.getElem_cons_zero, List.getElem_cons_succ, List.setIfInBounds_toArray, List.set_cons_zero, List.set_cons_succ]
            refine wpAnyH_take (i := 21) (v := ?_) rfl (by kernel_rfl) (by kernel_rfl) (by kernel_rfl) (fun _ _ _ h => h) (Or.inl ⟨by rfl, ?_⟩) hHeld ?_
            rotate_left
            · (intro w hSw; go_simp; (try with_reducible rfl))
            simp only [Act.put, List.getElem_toArray, List.getElem_cons_zero, List.getElem_cons_succ, List.setIfInBounds_toArray, List.set_cons_zero, List.set_cons_succ]
            refine wpAnyH_take (i := 22) (v := ?_) rfl (by kernel_rfl) (by kernel_rfl) (by kernel_rfl) (fun _ _ _ h => h) (Or.inl ⟨by rfl, ?_⟩) hHeld ?_
            rotate_left
            · (intro w hSw; go_simp; (try with_reducible rfl))
            simp only [Act.put, List.getElem_toArray, List.getElem_cons_zero, List.getElem_cons_succ, List.setIfInBounds_toArray, List.set_cons_zero, List.set_cons_succ]
            refine wpAnyH_take (i := 23) (v := ?_) rfl (by kernel_rfl) (by kernel_rfl) (by kernel_rfl) (fun _ _ _ h => h) (Or.inl ⟨by rfl, ?_⟩) hHeld ?_
            rotate_left
            · (intro w hSw; go_simp; (try with_reducible rfl))
            simp only [Act.put, List.getElem_toArray, List.getElem_cons_zero, List.getElem_cons_succ, List.setIfInBounds_toArray, List.set_cons_zero, List.set_cons_succ]
            refine wpAnyH_take (i := 24) (v := ?_) rfl (by kernel_rfl) (by kernel_rfl) (by kernel_rfl) (fun _ _ _ h => h) (Or.inl ⟨by rfl, ?_⟩) hHeld ?_
            rotate_left
            · (intro w hSw; go_simp; (try with_reducible rfl))
            simp only [Act.put, List.getElem_toArray, List.getElem_cons_zero, List.getElem_cons_succ, List.setIfInBounds_toArray, List.set_cons_zero, List.set_cons_succ]
            refine wpAnyH_take (i := 25) (v := .agg (arr .i64 18 o)) rfl (by kernel_rfl) (by kernel_rfl) (by kernel_rfl) (fun _ _ _ h => h) (yields_obj (by rfl) (.tmp 104) rfl b (off + k * 18) rfl o (fun W hW => HR2.out W hW)) hHeld ?_
            simp only [Act.put, List.getElem_toArray, List.getElem_cons_zero, List.getElem_cons_succ, List.setIfInBounds_toArray, List.set_cons_zero, List.set_cons_succ]
            refine wpAnyH_take (i := 26) (v := ?_) rfl (by kernel_rfl) (by kernel_rfl) (by kernel_rfl) (fun _ _ _ h => h) (Or.inl ⟨by rfl, ?_⟩) hHeld ?_
            rotate_left
            · (intro w hSw; go_simp; (try with_reducible rfl))
            simp only [Act.put, List.getElem_toArray, List.getElem_cons_zero, List.getElem_cons_succ, List.setIfInBounds_toArray, List.set_cons_zero, List.set_cons_succ]
            refine wpAnyH_take (i := 27) (v := ?_) rfl (by kernel_rfl) (by kernel_rfl) (by kernel_rfl) (fun _ _ _ h => h) (Or.inl ⟨by rfl, ?_⟩) hHeld ?_
            rotate_left
            · (intro w hSw; go_simp; (try with_reducible rfl))
            simp only [Act.put, List.getElem_toArray, List.getElem_cons_zero, List.getElem_cons_succ, List.setIfInBounds_toArray, List.set_cons_zero, List.set_cons_succ]
            refine wpAnyH_ready (rs := [20]) (by kernel_rfl) (by simp) ?_
            refine AllReadyH.cons rfl (fun K hK => ?_) AllReadyH.nil
            simp only [List.getElem_toArray, List.getElem_cons_zero, List.getElem_cons_succ]
            go_simp
            refine (HK2.out _ hHeld).mono ?_
            rintro en wq ⟨rfl, hbq⟩
            go_wp2_with fail
            have hHeld := keepB hbq hHeld
            refine hK.out _ _ hHeld (fun _ => ?_)
            clear hK K
            try simp only [Act.put, List.setIfInBounds_toArray, List.set_cons_zero, List.set_cons_succ]
            clear hbq
            refine wpAnyH_ready (rs := [28]) (by kernel_rfl) (by simp) ?_
            refine AllReadyH.cons rfl (fun K hK => ?_) AllReadyH.nil
            simp only [List.getElem_toArray, List.getElem_cons_zero, List.getElem_cons_succ]
            go_simp
            refine (HK3.out _ hHeld).mono ?_
            rintro en wq ⟨rfl, hbq⟩
            go_wp2_with fail
            have hHeld := keepB hbq hHeld
            refine hK.out _ _ hHeld (fun _ => ?_)
            clear hK K
            try simp only [Act.put, List.setIfInBounds_toArray, List.set_cons_zero, List.set_cons_succ]
            clear hbq
            refine wpAnyH_take (i := 29) (v := ?_) rfl (by kernel_rfl) (by kernel_rfl) (by kernel_rfl) (fun _ _ _ h => h) (Or.inl ⟨by rfl, ?_⟩) hHeld ?_
            rotate_left
            · (intro w hSw; go_simp; (try with_reducible rfl))
            simp only [Act.put, List.getElem_toArray, List.getElem_cons_zero, List.getElem_cons_succ, List.setIfInBounds_toArray, List.set_cons_zero, List.set_cons_succ]
            refine wpAnyH_take (i := 30) (v := ?_) rfl (by kernel_rfl) (by kernel_rfl) (by kernel_rfl) (fun _ _ _ h => h) (Or.inl ⟨by rfl, ?_⟩) hHeld ?_
            rotate_left
            · (intro w hSw; go_simp; (try with_reducible rfl))
            simp only [Act.put, List.getElem_toArray, List.getElem_cons_zero, List.getElem_cons_succ, List.setIfInBounds_toArray, List.set_cons_zero, List.set_cons_succ]
            refine wpAnyH_done (by kernel_rfl) ?_ _
            have HWA := Lib.hid (HW8.out.keep hHeld)
            have HTA := Lib.hid (HT8.out.keep hHeld)
            have HBA := Lib.hid (keepB hHeld HB8.out)
            clear x1 x2 HK1 HK2 HK3 HR1 HR2 hqq hHeld HW8 HT8 HB8
            have hsT := HTA.out.a
            have hhd := E.hide t _ LT cT k 2 wq HTA.out.r (by rw [HTo.out.2]; exact HLl.out.1) (fun z hz => by rw [HT.out]; exact HLl.out.2 z hz) HN.out (by unfold N64; omega) HWA.out.b
            unfold EvsP at hhd
            obtain ⟨eB, heB⟩ : ∃ e, e = invE e1 := ⟨_, rfl⟩
            have hhs : showE t.objs (k : Int) 2 false = [eB] := by
              have h := hide_one (os := s.objs) (k := k) (x := o 17) (p := 1) (o := o) (List.getElem?_eq_some_iff.1 HO.out).1 (by omega) HB.out
              rw [HT.out, heB, HE1.out]
              exact h
            rw [hhs] at hhd
            have HEB := Lib.hid heB
            clear hhs heB
            go_wp2_with (refine load_wantS (by rfl) (.tmp 9) rfl g9 rfl cT hsT hcT ?_)
            refine hhd.mono ?_
            rintro en wB ⟨A11, n11, c11, rfl, hc11, hV11, hb11⟩
            obtain rfl : n11 = 1 := hV11.n
            obtain ⟨b2, of2, rfl, hbl2, hre2⟩ := hV11.r 0 eB rfl
            rw [Nat.zero_mul, Nat.add_zero] at hre2
            have HWB := Lib.hid (HWA.out.keep hb11)
            have HBB := Lib.hid (keepB hb11 HBA.out)
            clear hhd hsT hV11 hb11 HWA HBA HTA HTo
            go_upto_region 17 with fail
            have hiv := fun W => invRef_any e1 W
            rw [← HEB.out] at hiv
            have hneq := fun W => neq_evv eB W
            have hsB : (Tryd.prog.info? 53).map (·.size) = some (evC eB).size := ev_size eB
            obtain ⟨es, hes⟩ : ∃ es, es = evC eB := ⟨_, rfl⟩
            rw [show evV eB = .agg es by rw [hes]; rfl] at hneq hiv
            rw [← hes] at hre2 hsB
            have HIv := Lib.hid hiv
            have HR3 := Lib.hid (fun W (hW : Below wB.heap.size wB W) => range_below hW hbl2 hre2)
            have HR4 := Lib.hid (fun W (hW : Below wB.heap.size wB W) => range_below (keepB hW HBB.out) HRe7.out.1 HRe7.out.2)
            clear hes hiv hbl2 hre2
            refine wp_region_held_drew (S := fun W => Below wB.heap.size wB W) (by kernel_rfl) (Below.refl _ _).drew (fun hHeld => ?_)
            refine wpAnyH_take (i := 0) (v := ?_) rfl (by kernel_rfl) (by kernel_rfl) (by kernel_rfl) (fun _ _ _ h => h) (Or.inl ⟨by rfl, ?_⟩) hHeld ?_
            rotate_left
            · (intro w hSw; go_simp; (try with_reducible rfl))
            simp only [Act.put, List.getElem_toArray, List.getElem_cons_zero, List.getElem_cons_succ, List.setIfInBounds_toArray, List.set_cons_zero, List.set_cons_succ]
            refine wpAnyH_take (i := 1) (v := ?_) rfl (by kernel_rfl) (by kernel_rfl) (by kernel_rfl) (fun _ _ _ h => h) (Or.inl ⟨by rfl, ?_⟩) hHeld ?_
            rotate_left
            · (intro w hSw; go_simp; (try with_reducible rfl))
            simp only [Act.put, List.getElem_toArray, List.getElem_cons_zero, List.getElem_cons_succ, List.setIfInBounds_toArray, List.set_cons_zero, List.set_cons_succ]
            refine wpAnyH_take (i := 2) (v := ?_) rfl (by kernel_rfl) (by kernel_rfl) (by kernel_rfl) (fun _ _ _ h => h) (Or.inl ⟨by rfl, ?_⟩) hHeld ?_
            rotate_left
            · (intro w hSw; go_simp; (try with_reducible rfl))
            simp only [Act.put, List.getElem_toArray, List.getElem_cons_zero, List.getElem_cons_succ, List.setIfInBounds_toArray, List.set_cons_zero, List.set_cons_succ]
            refine wpAnyH_take (i := 3) (v := ?_) rfl (by kernel_rfl) (by kernel_rfl) (by kernel_rfl) (fun _ _ _ h => h) (Or.inl ⟨by rfl, ?_⟩) hHeld ?_
            rotate_left
            · (intro w hSw; go_simp; (try with_reducible rfl))
            simp only [Act.put, List.getElem_toArray, List.getElem_cons_zero, List.getElem_cons_succ, List.setIfInBounds_toArray, List.set_cons_zero, List.set_cons_succ]
            refine wpAnyH_take (i := 4) (v := ?_) rfl (by kernel_rfl) (by kernel_rfl) (by kernel_rfl) (fun _ _ _ h => h) (Or.inl ⟨by rfl, ?_⟩) hHeld ?_
            rotate_left
            · (intro w hSw; go_simp; (try with_reducible rfl))
            simp only [Act.put, List.getElem_toArray, List.getElem_cons_zero, List.getElem_cons_succ, List.setIfInBounds_toArray, List.set_cons_zero, List.set_cons_succ]
            refine wpAnyH_take (i := 5) (v := ?_) rfl (by kernel_rfl) (by kernel_rfl) (by kernel_rfl) (fun _ _ _ h => h) (Or.inl ⟨by rfl, ?_⟩) hHeld ?_
            rotate_left
            · (intro w hSw; go_simp; (try with_reducible rfl))
            simp only [Act.put, List.getElem_toArray, List.getElem_cons_zero, List.getElem_cons_succ, List.setIfInBounds_toArray, List.set_cons_zero, List.set_cons_succ]
            refine wpAnyH_take (i := 6) (v := .agg es) rfl (by kernel_rfl) (by kernel_rfl) (by kernel_rfl) (fun _ _ _ h => h) (yields_evA (by rfl) (.tmp 122) rfl b2 of2 rfl es hsB (fun W hW => HR3.out W hW)) hHeld ?_
            simp only [Act.put, List.getElem_toArray, List.getElem_cons_zero, List.getElem_cons_succ, List.setIfInBounds_toArray, List.set_cons_zero, List.set_cons_succ]
            refine wpAnyH_take (i := 7) (v := ?_) rfl (by kernel_rfl) (by kernel_rfl) (by kernel_rfl) (fun _ _ _ h => h) (Or.inl ⟨by rfl, ?_⟩) hHeld ?_
            rotate_left
            · (intro w hSw; go_simp; (try with_reducible rfl))
            simp only [Act.put, List.getElem_toArray, List.getElem_cons_zero, List.getElem_cons_succ, List.setIfInBounds_toArray, List.set_cons_zero, List.set_cons_succ]
            refine wpAnyH_take (i := 8) (v := ?_) rfl (by kernel_rfl) (by kernel_rfl) (by kernel_rfl) (fun _ _ _ h => h) (Or.inl ⟨by rfl, ?_⟩) hHeld ?_
            rotate_left
            · (intro w hSw; go_simp; (try with_reducible rfl))
            simp only [Act.put, List.getElem_toArray, List.getElem_cons_zero, List.getElem_cons_succ, List.setIfInBounds_toArray, List.set_cons_zero, List.set_cons_succ]
            refine wpAnyH_take (i := 9) (v := evV e1) rfl (by kernel_rfl) (by kernel_rfl) (by kernel_rfl) (fun _ _ _ h => h) (yields_evm (by rfl) (.tmp 125) rfl be oe rfl e1 (fun W hW => HR4.out W hW)) hHeld ?_
            simp only [Act.put, List.getElem_toArray, List.getElem_cons_zero, List.getElem_cons_succ, List.setIfInBounds_toArray, List.set_cons_zero, List.set_cons_succ]
            refine wpAnyH_ready (rs := [10]) (by kernel_rfl) (by simp) ?_
            refine AllReadyH.cons rfl (fun K hK => ?_) AllReadyH.nil
            simp only [List.getElem_toArray, List.getElem_cons_zero, List.getElem_cons_succ]
            go_simp
            refine (HIv.out _).mono ?_
            rintro en wq ⟨rfl, hbq⟩
            go_wp2_with fail
            have hHeld := keepB hbq hHeld
            refine hK.out _ _ hHeld (fun _ => ?_)
            clear hK K
            try simp only [Act.put, List.setIfInBounds_toArray, List.set_cons_zero, List.set_cons_succ]
            clear hbq
            refine wpAnyH_take (i := 11) (v := ?_) rfl (by kernel_rfl) (by kernel_rfl) (by kernel_rfl) (fun _ _ _ h => h) (Or.inl ⟨by rfl, ?_⟩) hHeld ?_
            rotate_left
            · (intro w hSw; go_simp; (try with_reducible rfl))
            simp only [Act.put, List.getElem_toArray, List.getElem_cons_zero, List.getElem_cons_succ, List.setIfInBounds_toArray, List.set_cons_zero, List.set_cons_succ]
            refine wpAnyH_take (i := 12) (v := ?_) rfl (by kernel_rfl) (by kernel_rfl) (by kernel_rfl) (fun _ _ _ h => h) (Or.inl ⟨by rfl, ?_⟩) hHeld ?_
            rotate_left
            · (intro w hSw; go_simp; (try with_reducible rfl))
            simp only [Act.put, List.getElem_toArray, List.getElem_cons_zero, List.getElem_cons_succ, List.setIfInBounds_toArray, List.set_cons_zero, List.set_cons_succ]
            refine wpAnyH_done (by kernel_rfl) ?_ _
            have HWC := Lib.hid (HWB.out.keep hHeld)
            clear hneq HIv HR3 HR4 hsB hHeld HWB HBB HRe7 hcT HcT
            go_upto_region 19 with fail
            have hsa := HWC.out.a
            have hcp := numCopy_own s _ L cs wq (HWC.out.reads HR.out) (by have := HLl.out.1; omega) (fun z hz => by have := HLl.out.2 z hz; omega)
            go_wp2_with (refine load_wantS (by rfl) (.tmp 3) rfl gs rfl cs hsa hcs ?_)
            refine hcp.mono ?_
            rintro en wD ⟨cU, rfl, OU, LU, hcU, hoU, hbD⟩
            clear hcp hsa
            have HWD := Lib.hid (HWC.out.keep hbD)
            have hnew : (wD.alloc (.cells st0 29)).heap[wD.heap.size]? = some (.cells st0 29 (0, 0)) := heap_alloc_new _ _
            have hsz : (Tryd.prog.info? 29).map (·.size) = some cU.size := by rw [hcU, stC_size]; exact size37
            have hs0 : st0.size = cU.size := by rw [hcU, stC_size]; exact stC_size _ _ _ _
            have hone : cU.all (·.oneCell') = true := by rw [hcU]; exact stC_one _ _ _ _
            have HcU := Lib.hid hcU
            have hz := st0_is
            clear hcU
            go_upto_region 20 with (refine wpList_store_row rfl 29 (.tmp 12) (.tmp 131) rfl wD.heap.size _ rfl rfl 29 st0 hnew hsz hs0 hone ?_)
            clear hnew hsz hs0 hone hz
            obtain ⟨wE, hwE, hAE, hbE⟩ := box_new wD cU
            rw [← hwE]
            obtain ⟨g12, hg12⟩ : ∃ g, g = wD.heap.size := ⟨_, rfl⟩
            rw [← hg12] at hAE ⊢
            have HU := Lib.hid (show UK wq g12 cU s OU LU wE from ⟨keepB hbE hbD, hAE, HcU.out, hoU.below hbE⟩)
            clear hwE hAE hbE hoU hg12 hbD HWD
            obtain ⟨AU, nU, ccU⟩ := OU
            obtain rfl : nU = s.objs.length := HU.out.o.on
            have hkl : k < s.objs.length := (List.getElem?_eq_some_iff.1 HO.out).1
            obtain ⟨bU, eU, hcell, hfr, _, _⟩ := owns_set (j := 0) (show wE.ownsRow wq.heap.size 49 18 (.slice AU s.objs.length ccU) s.objs.length (flatO s.objs) from HU.out.o.o) hkl (by omega)
            subst eU
            rw [Nat.add_zero] at hcell hfr
            have cu0 : wE.cell? ⟨g12, 0, none⟩ = some (.slice (some ⟨bU, 0, none⟩) s.objs.length ccU) := by rw [HU.out.a.cell, HU.out.c]; exact stC_objs _ _ _ _
            obtain ⟨y, hrm, hwv, hy0, hy1⟩ := kw_mod2 v
            have HV := Lib.hid (And.intro hy0 hy1)
            have HUx := Lib.hid (show UK wq g12 cU ⟨setO s.objs k 0 (y : Int), s.lists, s.pl, s.gm⟩ ⟨some ⟨bU, 0, none⟩, s.objs.length, ccU⟩ LU (wE.setCell ⟨bU, k * 18, none⟩ (.int .i64 (y : Int))) from HU.out.setc hkl (by omega) _)
            obtain ⟨xv, hxv⟩ : ∃ xv, xv = s.objs[k] 0 := ⟨_, rfl⟩
            rw [← hxv] at hcell
            have HCS := Lib.hid (And.intro hcs hkl)
            clear HU hy0 hy1 hv64 hxv hcs hkl
            try clear hb
            try clear hp
            try clear hg9s
            try clear hc5
            try clear hc11
            try clear hj
            try clear hlt
            try clear p2
            go_upto_region 21 with fail
            obtain ⟨hcs, hkl⟩ := HCS.out
            clear hcell hfr cu0 hwv hrm
            generalize wE.setCell ⟨bU, k * 18, none⟩ (.int .i64 (y : Int)) = wF at HUx ⊢
            obtain ⟨u2, hu2⟩ : ∃ u : StT, u = ⟨setO s.objs k 0 (y : Int), s.lists, s.pl, s.gm⟩ := ⟨_, rfl⟩
            rw [← hu2] at HUx
            have hI2 := (HR.out.i64).setO hkl 0 (x := (y : Int)) (by have := HV.out; unfold N64; omega)
            have hck2 : chkS u2 = 0 := by rw [hu2, setO_is HO.out]; exact chk_card HC.out HO.out HV.out
            have hsee : sameS (seeS 1 s) (seeS 1 u2) = true := by rw [hu2, setO_is HO.out]; exact see_card HO.out HB.out _
            have HLu := Lib.hid (show u2.objs.length ≤ 1000 ∧ ∀ z < 11, (u2.lists z).length ≤ 1000 from ⟨by rw [hu2]; show (setO s.objs k 0 (y : Int)).length ≤ 1000; rw [setO_len]; exact HLl.out.1, fun z hz => by rw [hu2]; exact HLl.out.2 z hz⟩)
            have HI2 := Lib.hid (show I64S u2 from by rw [hu2]; exact hI2)
            have HCK2 := Lib.hid (And.intro hck2 hsee)
            clear hu2 hI2 hck2 hsee hkl
            have hEs : seesE s 1 = 0 := by unfold seesE; rw [if_neg (by rw [HC.out]; simp), if_pos (by omega)]
            have hEu : seesE u2 1 = 0 := by unfold seesE; rw [if_neg (by rw [HCK2.out.1]; simp), if_pos (by omega)]
            have HWF := Lib.hid (HWC.out.keep HUx.out.b)
            have hse := ES s _ L cs 1 wF (HWF.out.reads HR.out) HLl.out.1 HLl.out.2 (by unfold N64; omega) HWF.out.b
            rw [hEs, seesT_ok hEs, errV_nil] at hse
            have hsa := HWF.out.a
            clear HWC hEs
            go_wp2_with (refine load_wantS (by rfl) (.tmp 3) rfl gs rfl cs hsa hcs ?_)
            refine hse.mono ?_
            rintro en wG ⟨cA, OA, LA, rfl, hRA, hbG⟩
            clear hse hsa
            have HUG := Lib.hid (HUx.out.keep hbG)
            have HWG := Lib.hid (HWF.out.keep hbG)
            have hnew : (World.alloc wG (.cells st0 29)).heap[(World.heap wG).size]? = some (.cells st0 29 (0, 0)) := heap_alloc_new _ _
            have hsz : (Tryd.prog.info? 29).map (·.size) = some cA.size := by rw [hRA.size]; exact size37
            have hs0 : st0.size = cA.size := by rw [hRA.size, show st0.size = 37 from stC_size _ _ _ _]
            have hone := hRA.one
            have hz := st0_is
            go_upto_region 22 with (refine wpList_store_row rfl 29 (.tmp 13) (.tmp 145) rfl (World.heap wG).size _ rfl rfl 29 st0 hnew hsz hs0 hone ?_)
            clear hnew hsz hs0 hone hz
            obtain ⟨wH, hwH, hAH, hbH⟩ := box_new wG cA
            rw [← hwH]
            obtain ⟨g13, hg13⟩ : ∃ g, g = wG.heap.size := ⟨_, rfl⟩
            rw [← hg13] at hAH ⊢
            have HA := Lib.hid (show BK g13 cA (seeS 1 s) OA LA wH from ⟨hAH, hRA.grow hbH⟩)
            have HUH := Lib.hid (HUG.out.keep hbH)
            have HWH := Lib.hid (HWG.out.keep hbH)
            have hcA := hRA.size
            clear hwH hAH hbH hbG hg13 hRA HUG HWG HUx HWF
            have hsu := ES u2 _ LU cU 1 wH (HUH.out.reads HI2.out) HLu.out.1 HLu.out.2 (by unfold N64; omega) HWH.out.b
            rw [hEu, seesT_ok hEu, errV_nil] at hsu
            have hua := HUH.out.a
            have hcU2 : cU.size = 37 := (HUH.out.reads HI2.out).size
            clear hEu
            go_wp2_with (refine load_wantS (by rfl) (.tmp 12) rfl g12 rfl cU hua hcU2 ?_)
            refine hsu.mono ?_
            rintro en wI ⟨cB, OB, LB, rfl, hRB, hbI⟩
            clear hsu hua
            have HAI := Lib.hid (HA.out.keep hbI)
            have HWI := Lib.hid (HWH.out.keep hbI)
            have hnew : (World.alloc wI (.cells st0 29)).heap[(World.heap wI).size]? = some (.cells st0 29 (0, 0)) := heap_alloc_new _ _
            have hsz : (Tryd.prog.info? 29).map (·.size) = some cB.size := by rw [hRB.size]; exact size37
            have hs0 : st0.size = cB.size := by rw [hRB.size, show st0.size = 37 from stC_size _ _ _ _]
            have hone := hRB.one
            have hz := st0_is
            go_upto_region 23 with (refine wpList_store_row rfl 29 (.tmp 15) (.tmp 151) rfl (World.heap wI).size _ rfl rfl 29 st0 hnew hsz hs0 hone ?_)
            clear hnew hsz hs0 hone hz
            obtain ⟨wJ, hwJ, hAJ, hbJ⟩ := box_new wI cB
            rw [← hwJ]
            obtain ⟨g15, hg15⟩ : ∃ g, g = wI.heap.size := ⟨_, rfl⟩
            rw [← hg15] at hAJ ⊢
            have HBJ := Lib.hid (show BK g15 cB (seeS 1 u2) OB LB wJ from ⟨hAJ, hRB.grow hbJ⟩)
            have HAJ := Lib.hid (HAI.out.keep hbJ)
            have HWJ := Lib.hid (HWI.out.keep hbJ)
            have hcB := hRB.size
            clear hwJ hAJ hbJ hbI hg15 hRB HAI HWI HA HWH HUH hcU2
            have hst := states_any _ _ _ _ _ _ cA cB wJ HAJ.out.r HBJ.out.r (by simp [seeS]; have := HLl.out.1; omega) (by simp [seeS]; have := HLu.out.1; omega) (fun z hz => by have := HLl.out.2 z hz; show (s.lists z).length ≤ 1000000; omega) (fun z hz => by have := HLu.out.2 z hz; show (u2.lists z).length ≤ 1000000; omega)
            rw [HCK2.out.2] at hst
            have haA := HAJ.out.a
            have haB := HBJ.out.a
            go_wp2_with (first
              | (refine load_wantS (by rfl) (.tmp 13) rfl g13 rfl cA haA hcA ?_)
              | (refine load_wantS (by rfl) (.tmp 15) rfl g15 rfl cB haB hcB ?_))
            refine hst.mono ?_
            rintro en wL ⟨rfl, hbL⟩
            have HWL := Lib.hid (HWJ.out.keep hbL)
            clear hst haA haB hcA hcB hbL HWJ HAJ HBJ
            go_wp2_with fail
            go_roundw
            case rel => exact ⟨1 + 1, by go_num, by omega, HWL⟩
            case measure => simp [intOf]
          refine wp_region_held_drew (S := fun W => Below w7.heap.size w7 W) (by kernel_rfl) (Below.refl _ _).drew (fun hHeld => ?_)
          refine wpAnyH_take (i := 0) (v := .agg cs) rfl (by kernel_rfl) (by kernel_rfl) (by kernel_rfl) (fun _ _ _ h => h) (yields_st (by rfl) (.tmp 3) rfl gs rfl cs hcs (fun W hW => (HW7.out.keep hW).a)) hHeld ?_
          simp only [Act.put, List.getElem_toArray, List.getElem_cons_zero, List.getElem_cons_succ, List.setIfInBounds_toArray, List.set_cons_zero, List.set_cons_succ]
          refine wpAnyH_take (i := 1) (v := ?_) rfl (by kernel_rfl) (by kernel_rfl) (by kernel_rfl) (fun _ _ _ h => h) (Or.inl ⟨by rfl, ?_⟩) hHeld ?_
          rotate_left
          · (intro w hSw; go_simp; (try with_reducible rfl))
          simp only [Act.put, List.getElem_toArray, List.getElem_cons_zero, List.getElem_cons_succ, List.setIfInBounds_toArray, List.set_cons_zero, List.set_cons_succ]
          refine wpAnyH_take (i := 2) (v := ?_) rfl (by kernel_rfl) (by kernel_rfl) (by kernel_rfl) (fun _ _ _ h => h) (Or.inl ⟨by rfl, ?_⟩) hHeld ?_
          rotate_left
          · (intro w hSw; go_simp; (try with_reducible rfl))
          simp only [Act.put, List.getElem_toArray, List.getElem_cons_zero, List.getElem_cons_succ, List.setIfInBounds_toArray, List.set_cons_zero, List.set_cons_succ]
          refine wpAnyH_take (i := 3) (v := evV e1) rfl (by kernel_rfl) (by kernel_rfl) (by kernel_rfl) (fun _ _ _ h => h) (yields_evm (by rfl) (.tmp 75) rfl be oe rfl e1 (fun W hW => range_below hW HRe7.out.1 HRe7.out.2)) hHeld ?_
          simp only [Act.put, List.getElem_toArray, List.getElem_cons_zero, List.getElem_cons_succ, List.setIfInBounds_toArray, List.set_cons_zero, List.set_cons_succ]
          have hz37 := st0_is
          generalize w7.drew = W0 at hHeld ⊢
          refine wpAnyH_ready (rs := [4, 8]) (by kernel_rfl) (by simp) ?_
          refine AllReadyH.cons rfl (fun K hK => ?_) (AllReadyH.cons rfl (fun K hK => ?_) AllReadyH.nil)
          all_goals simp only [List.getElem_toArray, List.getElem_cons_zero, List.getElem_cons_succ]
          all_goals go_simp
          · skip
            refine (HApp.out _ hHeld).mono ?_
            rintro en W9 ⟨cT, OT, LT, rfl, hRT, hOU, hb9⟩
            go_wp2_with fail
            have hHeld := keepB hb9 hHeld
            have hI64 := hRT.i64
            have hcT := hRT.size
            have hTone := hRT.one
            have HcT := Lib.hid hRT.cs
            clear hRT
            refine hK.out _ _ hHeld (fun _ => ?_)
            clear hK K
            try simp only [Act.put, List.setIfInBounds_toArray, List.set_cons_zero, List.set_cons_succ]
            refine wpAnyH_take (i := 5) (v := ?_) rfl (by kernel_rfl) (by kernel_rfl) (by kernel_rfl) (fun _ _ _ h => h) (Or.inl ⟨by rfl, ?_⟩) hHeld ?_
            rotate_left
            · (intro w hSw; go_simp; (try with_reducible rfl))
            simp only [Act.put, List.getElem_toArray, List.getElem_cons_zero, List.getElem_cons_succ, List.setIfInBounds_toArray, List.set_cons_zero, List.set_cons_succ]
            refine wpAnyH_take (i := 6) (v := ?_) rfl (by kernel_rfl) (by kernel_rfl) (by kernel_rfl) (fun _ _ _ h => h) (Or.inl ⟨by rfl, ?_⟩) hHeld ?_
            rotate_left
            · (intro w hSw; go_simp; (try with_reducible rfl))
            simp only [Act.put, List.getElem_toArray, List.getElem_cons_zero, List.getElem_cons_succ, List.setIfInBounds_toArray, List.set_cons_zero, List.set_cons_succ]
            refine wpAnyH_take (i := 7) (v := ?_) rfl (by kernel_rfl) (by kernel_rfl) (by kernel_rfl) (fun _ _ _ h => h) (Or.inl ⟨by rfl, ?_⟩) hHeld ?_
            rotate_left
            · (intro w hSw; go_simp; (try with_reducible rfl))
            simp only [Act.put, List.getElem_toArray, List.getElem_cons_zero, List.getElem_cons_succ, List.setIfInBounds_toArray, List.set_cons_zero, List.set_cons_succ]
            refine wpAnyH_ready (rs := [8]) (by kernel_rfl) (by simp) ?_
            refine AllReadyH.cons rfl (fun K hK => ?_) AllReadyH.nil
            simp only [List.getElem_toArray, List.getElem_cons_zero, List.getElem_cons_succ]
            go_simp
            obtain ⟨W7, hW7⟩ : ∃ W7, W7 = World.alloc W9 (.cells st0 29) := ⟨_, rfl⟩
            obtain ⟨g9, hg9⟩ : ∃ g, g = (World.heap W9).size := ⟨_, rfl⟩
            have hbb : Below (World.heap W9).size W9 W7 := by rw [hW7]; exact (Below.refl _ _).alloc (Nat.le_refl _) _
            have hBox : StAt W7 g9 st0 := by rw [hW7, hg9]; exact heap_alloc_new _ _
            have hg9w : w7.heap.size ≤ g9 := by rw [hg9]; exact hHeld.size
            have hHeld := keepB hbb hHeld
            rw [← hW7, ← hg9]
            clear hW7 hg9
            refine hK.out _ _ hHeld (fun _ => ?_)
            clear hK K
            try simp only [Act.put, List.setIfInBounds_toArray, List.set_cons_zero, List.set_cons_succ]
            have hOU := hOU.below hbb
            refine wpAnyH_ready (rs := [9]) (by kernel_rfl) (by simp) ?_
            refine AllReadyH.cons rfl (fun K hK => ?_) AllReadyH.nil
            simp only [List.getElem_toArray, List.getElem_cons_zero, List.getElem_cons_succ]
            refine wp_store_row 29 (.tmp 9) (.tmp 78) rfl g9 _ rfl rfl 29 _ hBox (by rw [hcT]; exact size37) (by rw [hcT]; exact stC_size _ _ _ _) hTone ?_
            have hA9 : StAt (World.setRow W7 g9 cT) g9 cT := setRow_heap _ _ _ _ _ _ hBox
            have hRD := (OwnS.rowK hOU hBox cT).reads hI64.o hI64.l hI64.p hI64.g
            rw [← HcT.out] at hRD
            have hHeld := below_setRow hHeld g9 cT hg9w
            refine hK.out _ _ hHeld (fun _ => ?_)
            clear hK K
            try simp only [Act.put, List.setIfInBounds_toArray, List.set_cons_zero, List.set_cons_succ]
            refine wpAnyH_take (i := 10) (v := ?_) rfl (by kernel_rfl) (by kernel_rfl) (by kernel_rfl) (fun _ _ _ h => h) (Or.inl ⟨by rfl, ?_⟩) hHeld ?_
            rotate_left
            · (intro w hSw; go_simp; (try with_reducible rfl))
            simp only [Act.put, List.getElem_toArray, List.getElem_cons_zero, List.getElem_cons_succ, List.setIfInBounds_toArray, List.set_cons_zero, List.set_cons_succ]
            refine wpAnyH_done (by kernel_rfl) ?_ _
            go_step
            go_step
            go_meet
            have HT8 := Lib.hid (show BK g9 cT t OT LT (World.setRow W7 g9 cT) from ⟨hA9, hRD⟩)
            have HW8 := Lib.hid (HW7.out.keep hHeld)
            have HB8 := Lib.hid hHeld
            have hg9s : gs ≠ g9 := by
              have h1 := HGs.out
              have h2 := HW7.out.a.lt
              omega
            case rel => exact ⟨g9, cT, OT, LT, rfl, rfl, hg9s, HT8, HW8, HB8, hcT, HcT⟩
          · skip
            obtain ⟨W7, hW7⟩ : ∃ W7, W7 = World.alloc W0 (.cells st0 29) := ⟨_, rfl⟩
            obtain ⟨g9, hg9⟩ : ∃ g, g = (World.heap W0).size := ⟨_, rfl⟩
            have hbb : Below (World.heap W0).size W0 W7 := by rw [hW7]; exact (Below.refl _ _).alloc (Nat.le_refl _) _
            have hBox : StAt W7 g9 st0 := by rw [hW7, hg9]; exact heap_alloc_new _ _
            have hg9w : w7.heap.size ≤ g9 := by rw [hg9]; exact hHeld.size
            have hHeld := keepB hbb hHeld
            rw [← hW7, ← hg9]
            clear hW7 hg9
            refine hK.out _ _ hHeld (fun _ => ?_)
            clear hK K
            try simp only [Act.put, List.setIfInBounds_toArray, List.set_cons_zero, List.set_cons_succ]
            refine wpAnyH_ready (rs := [4]) (by kernel_rfl) (by simp) ?_
            refine AllReadyH.cons rfl (fun K hK => ?_) AllReadyH.nil
            simp only [List.getElem_toArray, List.getElem_cons_zero, List.getElem_cons_succ]
            go_simp
            refine (HApp.out _ hHeld).mono ?_
            rintro en W9 ⟨cT, OT, LT, rfl, hRT, hOU, hb9⟩
            go_wp2_with fail
            have hHeld := keepB hb9 hHeld
            have hI64 := hRT.i64
            have hcT := hRT.size
            have hTone := hRT.one
            have HcT := Lib.hid hRT.cs
            clear hRT
            refine hK.out _ _ hHeld (fun _ => ?_)
            clear hK K
            try simp only [Act.put, List.setIfInBounds_toArray, List.set_cons_zero, List.set_cons_succ]
            refine wpAnyH_take (i := 5) (v := ?_) rfl (by kernel_rfl) (by kernel_rfl) (by kernel_rfl) (fun _ _ _ h => h) (Or.inl ⟨by rfl, ?_⟩) hHeld ?_
            rotate_left
            · (intro w hSw; go_simp; (try with_reducible rfl))
            simp only [Act.put, List.getElem_toArray, List.getElem_cons_zero, List.getElem_cons_succ, List.setIfInBounds_toArray, List.set_cons_zero, List.set_cons_succ]
            refine wpAnyH_take (i := 6) (v := ?_) rfl (by kernel_rfl) (by kernel_rfl) (by kernel_rfl) (fun _ _ _ h => h) (Or.inl ⟨by rfl, ?_⟩) hHeld ?_
            rotate_left
            · (intro w hSw; go_simp; (try with_reducible rfl))
            simp only [Act.put, List.getElem_toArray, List.getElem_cons_zero, List.getElem_cons_succ, List.setIfInBounds_toArray, List.set_cons_zero, List.set_cons_succ]
            refine wpAnyH_take (i := 7) (v := ?_) rfl (by kernel_rfl) (by kernel_rfl) (by kernel_rfl) (fun _ _ _ h => h) (Or.inl ⟨by rfl, ?_⟩) hHeld ?_
            rotate_left
            · (intro w hSw; go_simp; (try with_reducible rfl))
            simp only [Act.put, List.getElem_toArray, List.getElem_cons_zero, List.getElem_cons_succ, List.setIfInBounds_toArray, List.set_cons_zero, List.set_cons_succ]
            have hBox := hBox.keep hb9
            refine wpAnyH_ready (rs := [9]) (by kernel_rfl) (by simp) ?_
            refine AllReadyH.cons rfl (fun K hK => ?_) AllReadyH.nil
            simp only [List.getElem_toArray, List.getElem_cons_zero, List.getElem_cons_succ]
            refine wp_store_row 29 (.tmp 9) (.tmp 78) rfl g9 _ rfl rfl 29 _ hBox (by rw [hcT]; exact size37) (by rw [hcT]; exact stC_size _ _ _ _) hTone ?_
            have hA9 : StAt (World.setRow W9 g9 cT) g9 cT := setRow_heap _ _ _ _ _ _ hBox
            have hRD := (OwnS.rowK hOU hBox cT).reads hI64.o hI64.l hI64.p hI64.g
            rw [← HcT.out] at hRD
            have hHeld := below_setRow hHeld g9 cT hg9w
            refine hK.out _ _ hHeld (fun _ => ?_)
            clear hK K
            try simp only [Act.put, List.setIfInBounds_toArray, List.set_cons_zero, List.set_cons_succ]
            refine wpAnyH_take (i := 10) (v := ?_) rfl (by kernel_rfl) (by kernel_rfl) (by kernel_rfl) (fun _ _ _ h => h) (Or.inl ⟨by rfl, ?_⟩) hHeld ?_
            rotate_left
            · (intro w hSw; go_simp; (try with_reducible rfl))
            simp only [Act.put, List.getElem_toArray, List.getElem_cons_zero, List.getElem_cons_succ, List.setIfInBounds_toArray, List.set_cons_zero, List.set_cons_succ]
            refine wpAnyH_done (by kernel_rfl) ?_ _
            go_step
            go_step
            go_meet
            have HT8 := Lib.hid (show BK g9 cT t OT LT (World.setRow W9 g9 cT) from ⟨hA9, hRD⟩)
            have HW8 := Lib.hid (HW7.out.keep hHeld)
            have HB8 := Lib.hid hHeld
            have hg9s : gs ≠ g9 := by
              have h1 := HGs.out
              have h2 := HW7.out.a.lt
              omega
            case rel => exact ⟨g9, cT, OT, LT, rfl, rfl, hg9s, HT8, HW8, HB8, hcT, HcT⟩
    · obtain rfl : j = 2 := by omega
      have hbw := HWr.out.b
      have dj : decide (((2 : Nat) : Int) < 2) = false := by simp
      go_wp2_with fail
      go_ret
      exact ⟨rfl, hbw⟩
end Go.Proofs.YtmhabodijmnldaaDoor
