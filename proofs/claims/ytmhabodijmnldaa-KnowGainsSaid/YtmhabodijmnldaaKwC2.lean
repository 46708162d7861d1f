/- Layer 15: the landed code's Show, Hide, Gains, Gained. -/
import Derived.Test.YtmhabodijmnldaaKwC1
import Derived.Test.YtmhabodijmnldaaStBox
namespace Go.Proofs.Ytmhabodijmnldaa
open Go.RowKit Ex Bx
set_option maxRecDepth 100000
theorem showE_out {os : List (Nat → Int)} {id ps : Int} {is : Bool} (h : id < 0 ∨ (os.length : Int) ≤ id) : showE os id ps is = [] := if_pos h
theorem showE_in {os : List (Nat → Int)} {k : Nat} {ps : Int} {is : Bool} {o : Nat → Int} (h : os[k]? = some o) : showE os (k : Int) ps is = if chgK (o 17) ps is = o 17 then [] else [⟨2, k, 17, o 17, chgK (o 17) ps is, 0⟩] := by
  have hk := (List.getElem?_eq_some_iff.1 h).1
  unfold showE
  rw [if_neg (by omega), Int.toNat_natCast, List.getD_eq_getElem?_getD, h]; rfl
set_option maxHeartbeats 0 in
theorem turned_code (k x y : Int) (hk : N64 k) (hx : N64 x) (hy : N64 y) (w : World) : Calls Try.prog 26 #[.int .i64 k, .int .i64 x, .int .i64 y] w (EvsP w (if y = x then [] else [⟨2, k, 17, x, y, 0⟩])) := by
  have HK := Lib.hid hk
  have HX := Lib.hid hx
  have HY := Lib.hid hy
  clear hk hx hy
  by_cases he : y = x
  · rw [if_pos he]
    have dx : (x == y) = true := by simp [he]
    clear he
    go_enter Try.func26, Try.ntmps26
    go_wp2_with fail
    go_ret
    exact ⟨none, 0, 0, rfl, Nat.le_refl _, Evs.nil, Below.refl _ _⟩
  · rw [if_neg he]
    have dx : (x == y) = false := by simp; exact fun h => he h.symm
    have hbE : Below w.heap.size w (w.alloc (.cells (evC ⟨2, k, 17, x, y, 0⟩) 44)) := (Below.refl _ _).alloc (Nat.le_refl _) _
    have hE : EvB (w.alloc (.cells (evC ⟨2, k, 17, x, y, 0⟩) 44)) w.heap.size ⟨2, k, 17, x, y, 0⟩ := heap_alloc_new _ _
    have HRes := Lib.hid (show Evs (w.alloc (.cells (evC ⟨2, k, 17, x, y, 0⟩) 44)).heap.size (w.alloc (.cells (evC ⟨2, k, 17, x, y, 0⟩) 44)) (some ⟨w.heap.size, 0, none⟩) 1 [⟨2, k, 17, x, y, 0⟩] ∧ Below w.heap.size w (w.alloc (.cells (evC ⟨2, k, 17, x, y, 0⟩) 44)) from
      ⟨⟨rfl, rdV_one hE, fun e he => by
        obtain rfl : e = ⟨2, k, 17, x, y, 0⟩ := by simpa using he
        exact ⟨by show N64 2; unfold N64; omega, HK.out, by show N64 17; unfold N64; omega, HX.out, HY.out, by show N64 0; unfold N64; omega⟩⟩, hbE⟩)
    clear he hbE hE
    go_enter Try.func26, Try.ntmps26
    go_wp2_with (refine wpList_buildSliceEv rfl (.tmp 13) rfl ⟨2, k, 17, x, y, 0⟩ rfl ?_)
    go_ret
    exact ⟨_, 1, 1, rfl, Nat.le_refl _, HRes.out.1, HRes.out.2⟩
set_option maxHeartbeats 0 in
theorem show_code (s : StT) (O : SlT) (L : Nat → SlT) (cs : Array Value) (id ps : Int) (w : World) (h : ReadsS w.heap.size w cs s O L) (hn : s.objs.length ≤ 1000) :
    Calls Try.prog 14 #[.agg cs, .int .i64 id, .int .i64 ps] w (EvsP w (showE s.objs id ps true)) := by
  have HS := Lib.hid h
  have hcs := h.cs
  have c0 : cs[0]? = some (.slice O.A O.n O.c) := by rw [hcs]; exact stC_objs _ _ _ _
  have hsz := h.size
  have hOn := h.on
  obtain ⟨A, n, c⟩ := O
  simp only at c0 hOn
  subst hOn
  have hs0 : StAt (w.alloc (.cells cs 29)) w.heap.size cs := StAt.new _ _
  have hb0 : Below w.heap.size w (w.alloc (.cells cs 29)) := (Below.refl _ _).alloc (Nat.le_refl _) _
  have HN := Lib.hid hn
  clear hcs hn h
  obtain ⟨r, hr⟩ : ∃ r, r = showE s.objs id ps true := ⟨_, rfl⟩
  rw [← hr]
  have HR := Lib.hid hr
  clear hr
  go_enter Try.func14, Try.ntmps14
  go_upto_region 1 with fail
  obtain ⟨g, hg⟩ : ∃ g, g = w.heap.size := ⟨_, rfl⟩
  obtain ⟨w1, hw1⟩ : ∃ W, W = w.alloc (.cells cs 29) := ⟨_, rfl⟩
  rw [← hw1] at hs0 hb0
  rw [← hg] at hs0
  show Code.wp _ _ _ _ (w.alloc (.cells cs 29))
  rw [← hw1]
  try rw [← hg]
  have hio := isObject_code s _ L cs id w1 (HS.out.grow hb0)
  obtain ⟨q, hq⟩ : ∃ q, q = (decide (0 ≤ id) && decide (id < (s.objs.length : Int))) := ⟨_, rfl⟩
  rw [← hq] at hio
  have HIO := Lib.hid hio
  have HS0 := Lib.hid hs0
  have HB0 := Lib.hid hb0
  clear hw1 hg hio
  go_wp2_with (refine load_wantS (by rfl) (.tmp 3) rfl g rfl cs hs0 hsz ?_)
  refine HIO.out.mono ?_
  rintro en w2 ⟨rfl, hb2⟩
  have hs2 := HS0.out.keep hb2
  have HB := Lib.hid (keepB hb2 HB0.out)
  have cg : w2.cell? ⟨g, 0, none⟩ = some (.slice A s.objs.length c) := by rw [hs2.cell]; exact c0
  clear hs0 hb0 hb2 hs2 HS0 HB0 HIO c0
  cases q with
  | false =>
    have HF := Lib.hid (show r = [] from HR.out.trans (showE_out (by
      by_cases h0 : 0 ≤ id
      · rw [decide_eq_true h0, Bool.true_and] at hq
        have := of_decide_eq_false hq.symm
        omega
      · omega)))
    clear hq
    go_wp2_with fail
    go_ret
    exact ⟨none, 0, 0, rfl, Nat.le_refl _, by rw [HF.out]; exact Evs.nil, HB.out⟩
  | true =>
    have hq1 : 0 ≤ id ∧ id < (s.objs.length : Int) := by simpa using hq.symm
    obtain ⟨k, rfl⟩ : ∃ k : Nat, id = (k : Int) := ⟨id.toNat, by omega⟩
    obtain ⟨o, ho⟩ : ∃ o, s.objs[k]? = some o := ⟨_, List.getElem?_eq_getElem (by omega)⟩
    obtain ⟨b, off, ea, hbl, hra⟩ := HS.out.o k o ho
    simp only at ea
    subst ea
    have hra := range_below HB.out hbl hra
    have hc17 := hra 17 (.int .i64 (o 17)) (by rw [Array.getElem?_toList, arr_get .i64 18 o (by omega)])
    have hx := HS.out.ow o (List.mem_of_getElem? ho) 17 (by omega)
    obtain ⟨x, hxe⟩ : ∃ x, x = o 17 := ⟨_, rfl⟩
    rw [← hxe] at hc17 hx
    have HIn := Lib.hid (show r = if chgK x ps true = x then [] else [⟨2, k, 17, x, chgK x ps true, 0⟩] from by rw [HR.out, showE_in ho, hxe])
    have g0 : (0 : Int) ≤ (k : Int) := by omega
    have g1 : (k : Int) < (s.objs.length : Int) := hq1.2
    have hval : bits .or .i64 x (bits .and .i64 ps 3) = chgK x ps true := by rw [and_three]; exact or_chg x ps hx
    have HT := Lib.hid (fun W => turned_code (k : Int) x (chgK x ps true) (by have := HN.out; exact ⟨by omega, by omega⟩) hx (chg_64 hx) W)
    obtain ⟨y, hy⟩ : ∃ y, y = chgK x ps true := ⟨_, rfl⟩
    obtain ⟨ps3, hps⟩ : ∃ y, y = bits .and .i64 ps 3 := ⟨_, rfl⟩
    rw [← hy] at hval HT HIn
    rw [← hps] at hval
    have hps' := hps.symm
    clear hra ho hxe hx hbl hq hq1 HR hy hps
    go_wp2_with fail
    refine (HT.out _).mono ?_
    rintro en w4 ⟨A4, n4, c4, rfl, hnc, hE4, hb4⟩
    have HRes := Lib.hid (show Evs w4.heap.size w4 A4 n4 r ∧ Below w.heap.size w w4 from ⟨by rw [HIn.out]; exact hE4, keepB hb4 HB.out⟩)
    clear hE4 hb4
    go_wp2_with fail
    go_ret
    exact ⟨A4, n4, c4, rfl, hnc, HRes.out.1, HRes.out.2⟩
set_option maxHeartbeats 0 in
theorem hide_code (s : StT) (O : SlT) (L : Nat → SlT) (cs : Array Value) (id ps : Int) (w : World) (h : ReadsS w.heap.size w cs s O L) (hn : s.objs.length ≤ 1000) :
    Calls Try.prog 16 #[.agg cs, .int .i64 id, .int .i64 ps] w (EvsP w (showE s.objs id ps false)) := by
  have HS := Lib.hid h
  have hcs := h.cs
  have c0 : cs[0]? = some (.slice O.A O.n O.c) := by rw [hcs]; exact stC_objs _ _ _ _
  have hsz := h.size
  have hOn := h.on
  obtain ⟨A, n, c⟩ := O
  simp only at c0 hOn
  subst hOn
  have hs0 : StAt (w.alloc (.cells cs 29)) w.heap.size cs := StAt.new _ _
  have hb0 : Below w.heap.size w (w.alloc (.cells cs 29)) := (Below.refl _ _).alloc (Nat.le_refl _) _
  have HN := Lib.hid hn
  clear hcs hn h
  obtain ⟨r, hr⟩ : ∃ r, r = showE s.objs id ps false := ⟨_, rfl⟩
  rw [← hr]
  have HR := Lib.hid hr
  clear hr
  go_enter Try.func16, Try.ntmps16
  go_upto_region 1 with fail
  obtain ⟨g, hg⟩ : ∃ g, g = w.heap.size := ⟨_, rfl⟩
  obtain ⟨w1, hw1⟩ : ∃ W, W = w.alloc (.cells cs 29) := ⟨_, rfl⟩
  rw [← hw1] at hs0 hb0
  rw [← hg] at hs0
  show Code.wp _ _ _ _ (w.alloc (.cells cs 29))
  rw [← hw1]
  try rw [← hg]
  have hio := isObject_code s _ L cs id w1 (HS.out.grow hb0)
  obtain ⟨q, hq⟩ : ∃ q, q = (decide (0 ≤ id) && decide (id < (s.objs.length : Int))) := ⟨_, rfl⟩
  rw [← hq] at hio
  have HIO := Lib.hid hio
  have HS0 := Lib.hid hs0
  have HB0 := Lib.hid hb0
  clear hw1 hg hio
  go_wp2_with (refine load_wantS (by rfl) (.tmp 3) rfl g rfl cs hs0 hsz ?_)
  refine HIO.out.mono ?_
  rintro en w2 ⟨rfl, hb2⟩
  have hs2 := HS0.out.keep hb2
  have HB := Lib.hid (keepB hb2 HB0.out)
  have cg : w2.cell? ⟨g, 0, none⟩ = some (.slice A s.objs.length c) := by rw [hs2.cell]; exact c0
  clear hs0 hb0 hb2 hs2 HS0 HB0 HIO c0
  cases q with
  | false =>
    have HF := Lib.hid (show r = [] from HR.out.trans (showE_out (by
      by_cases h0 : 0 ≤ id
      · rw [decide_eq_true h0, Bool.true_and] at hq
        have := of_decide_eq_false hq.symm
        omega
      · omega)))
    clear hq
    go_wp2_with fail
    go_ret
    exact ⟨none, 0, 0, rfl, Nat.le_refl _, by rw [HF.out]; exact Evs.nil, HB.out⟩
  | true =>
    have hq1 : 0 ≤ id ∧ id < (s.objs.length : Int) := by simpa using hq.symm
    obtain ⟨k, rfl⟩ : ∃ k : Nat, id = (k : Int) := ⟨id.toNat, by omega⟩
    obtain ⟨o, ho⟩ : ∃ o, s.objs[k]? = some o := ⟨_, List.getElem?_eq_getElem (by omega)⟩
    obtain ⟨b, off, ea, hbl, hra⟩ := HS.out.o k o ho
    simp only at ea
    subst ea
    have hra := range_below HB.out hbl hra
    have hc17 := hra 17 (.int .i64 (o 17)) (by rw [Array.getElem?_toList, arr_get .i64 18 o (by omega)])
    have hx := HS.out.ow o (List.mem_of_getElem? ho) 17 (by omega)
    obtain ⟨x, hxe⟩ : ∃ x, x = o 17 := ⟨_, rfl⟩
    rw [← hxe] at hc17 hx
    have HIn := Lib.hid (show r = if chgK x ps false = x then [] else [⟨2, k, 17, x, chgK x ps false, 0⟩] from by rw [HR.out, showE_in ho, hxe])
    have g0 : (0 : Int) ≤ (k : Int) := by omega
    have g1 : (k : Int) < (s.objs.length : Int) := hq1.2
    have hval : bits .andNot .i64 x (bits .and .i64 ps 3) = chgK x ps false := by rw [and_three]; exact andNot_chg x ps hx
    have HT := Lib.hid (fun W => turned_code (k : Int) x (chgK x ps false) (by have := HN.out; exact ⟨by omega, by omega⟩) hx (chg_64 hx) W)
    obtain ⟨y, hy⟩ : ∃ y, y = chgK x ps false := ⟨_, rfl⟩
    obtain ⟨ps3, hps⟩ : ∃ y, y = bits .and .i64 ps 3 := ⟨_, rfl⟩
    rw [← hy] at hval HT HIn
    rw [← hps] at hval
    have hps' := hps.symm
    clear hra ho hxe hx hbl hq hq1 HR hy hps
    go_wp2_with fail
    refine (HT.out _).mono ?_
    rintro en w4 ⟨A4, n4, c4, rfl, hnc, hE4, hb4⟩
    have HRes := Lib.hid (show Evs w4.heap.size w4 A4 n4 r ∧ Below w.heap.size w w4 from ⟨by rw [HIn.out]; exact hE4, keepB hb4 HB.out⟩)
    clear hE4 hb4
    go_wp2_with fail
    go_ret
    exact ⟨A4, n4, c4, rfl, hnc, HRes.out.1, HRes.out.2⟩
set_option maxHeartbeats 0 in
theorem isTurn_code (e : EvT) (w : World) : Calls Try.prog 28 #[evV e] w fun en w' => en = .returned (.bool (decide (e.k = 2) && decide (e.b = 17))) ∧ Below w.heap.size w w' := by
  obtain ⟨r, hr⟩ : ∃ r, r = (decide (e.k = 2) && decide (e.b = 17)) := ⟨_, rfl⟩
  rw [← hr]
  go_enter Try.func28, Try.ntmps28
  go_upto_region 1 with fail
  obtain ⟨w1, hw1⟩ : ∃ w1, w1 = w.alloc (.cells (evC e) 44) := ⟨_, rfl⟩
  have hrow : EvB w1 w.heap.size e := by rw [hw1]; exact heap_alloc_new _ _
  have hb1 : Below w.heap.size w w1 := by rw [hw1]; exact (Below.refl _ _).alloc (Nat.le_refl _) _
  show Code.wp _ _ _ _ (w.alloc (.cells (evC e) 44))
  rw [← hw1]
  obtain ⟨c0, c1, c2, c3, c4, c5⟩ := hrow.cells
  clear hw1 hrow c1 c3 c4 c5
  by_cases k2 : e.k = 2
  · have d0 : (e.k == 2) = true := by simp [k2]
    by_cases k17 : e.b = 17
    · have d1 : (e.b == 17) = true := by simp [k17]
      obtain rfl : r = true := by rw [hr, decide_eq_true k2, decide_eq_true k17]; rfl
      clear k2 k17 hr
      go_wp2_with fail
      go_ret
      exact ⟨rfl, hb1⟩
    · have d1 : (e.b == 17) = false := by simp [k17]
      obtain rfl : r = false := by rw [hr, decide_eq_false k17, Bool.and_false]
      clear k2 k17 hr
      go_wp2_with fail
      go_ret
      exact ⟨rfl, hb1⟩
  · have d0 : (e.k == 2) = false := by simp [k2]
    obtain rfl : r = false := by rw [hr, decide_eq_false k2, Bool.false_and]
    clear k2 hr
    go_wp2_with fail
    go_ret
    exact ⟨rfl, hb1⟩
set_option maxHeartbeats 0 in
theorem gains_code (e : EvT) (w : World) : Calls Try.prog 18 #[evV e] w fun en w' => en = .returned (.bool (gainsE e)) ∧ Below w.heap.size w w' := by
  obtain ⟨r, hr⟩ : ∃ r, r = gainsE e := ⟨_, rfl⟩
  rw [← hr]
  obtain ⟨t, ht⟩ : ∃ t, t = (decide (e.k = 2) && decide (e.b = 17)) := ⟨_, rfl⟩
  have HR := Lib.hid (show r = (t && moreK e.c e.d) from by rw [hr, ht]; rfl)
  have hT := fun W => isTurn_code e W
  rw [← ht] at hT
  have HT := Lib.hid hT
  clear hr ht hT
  go_enter Try.func18, Try.ntmps18
  go_upto_region 1 with fail
  obtain ⟨w1, hw1⟩ : ∃ w1, w1 = w.alloc (.cells (evC e) 44) := ⟨_, rfl⟩
  have hrow : EvB w1 w.heap.size e := by rw [hw1]; exact heap_alloc_new _ _
  have hb1 : Below w.heap.size w w1 := by rw [hw1]; exact (Below.refl _ _).alloc (Nat.le_refl _) _
  show Code.wp _ _ _ _ (w.alloc (.cells (evC e) 44))
  rw [← hw1]
  obtain ⟨g, hg⟩ : ∃ g, g = w.heap.size := ⟨_, rfl⟩
  rw [← hg] at hrow
  try rw [← hg]
  clear hw1 hg
  go_wp2_with (refine load_ev (by rfl) (.tmp 1) rfl g rfl e hrow ?_)
  refine (HT.out w1).mono ?_
  rintro en w2 ⟨rfl, hb2⟩
  obtain ⟨c0, c1, c2, c3, c4, c5⟩ := (hrow.keep hb2).cells
  have HB := Lib.hid (keepB hb2 hb1)
  clear hrow hb1 hb2 c0 c1 c2 c5
  cases t with
  | false =>
    obtain rfl : r = false := by rw [HR.out, Bool.false_and]
    go_wp2_with fail
    go_ret
    exact ⟨rfl, HB.out⟩
  | true =>
    have hv : (!(bits .andNot .i64 (bits .and .i64 3 e.d) e.c == 0)) = r := by rw [HR.out, Bool.true_and, three_and]; exact andNot_more _ _
    obtain ⟨u, hu⟩ : ∃ u, u = bits .and .i64 3 e.d := ⟨_, rfl⟩
    have hu' := hu.symm
    rw [← hu] at hv
    obtain ⟨v, hv2⟩ : ∃ v, v = bits .andNot .i64 u e.c := ⟨_, rfl⟩
    have hv2' := hv2.symm
    rw [← hv2] at hv
    have hd : (v != 0) = r := hv
    clear hu hv2 hv HR
    go_wp2_with fail
    go_ret
    exact ⟨rfl, HB.out⟩
set_option maxHeartbeats 0 in
theorem loses_code (e : EvT) (w : World) : Calls Try.prog 19 #[evV e] w fun en w' => en = .returned (.bool (losesE e)) ∧ Below w.heap.size w w' := by
  obtain ⟨r, hr⟩ : ∃ r, r = losesE e := ⟨_, rfl⟩
  rw [← hr]
  obtain ⟨t, ht⟩ : ∃ t, t = (decide (e.k = 2) && decide (e.b = 17)) := ⟨_, rfl⟩
  have HR := Lib.hid (show r = (t && moreK e.d e.c) from by rw [hr, ht]; rfl)
  have hT := fun W => isTurn_code e W
  rw [← ht] at hT
  have HT := Lib.hid hT
  clear hr ht hT
  go_enter Try.func19, Try.ntmps19
  go_upto_region 1 with fail
  obtain ⟨w1, hw1⟩ : ∃ w1, w1 = w.alloc (.cells (evC e) 44) := ⟨_, rfl⟩
  have hrow : EvB w1 w.heap.size e := by rw [hw1]; exact heap_alloc_new _ _
  have hb1 : Below w.heap.size w w1 := by rw [hw1]; exact (Below.refl _ _).alloc (Nat.le_refl _) _
  show Code.wp _ _ _ _ (w.alloc (.cells (evC e) 44))
  rw [← hw1]
  obtain ⟨g, hg⟩ : ∃ g, g = w.heap.size := ⟨_, rfl⟩
  rw [← hg] at hrow
  try rw [← hg]
  clear hw1 hg
  go_wp2_with (refine load_ev (by rfl) (.tmp 1) rfl g rfl e hrow ?_)
  refine (HT.out w1).mono ?_
  rintro en w2 ⟨rfl, hb2⟩
  obtain ⟨c0, c1, c2, c3, c4, c5⟩ := (hrow.keep hb2).cells
  have HB := Lib.hid (keepB hb2 hb1)
  clear hrow hb1 hb2 c0 c1 c2 c5
  cases t with
  | false =>
    obtain rfl : r = false := by rw [HR.out, Bool.false_and]
    go_wp2_with fail
    go_ret
    exact ⟨rfl, HB.out⟩
  | true =>
    have hv : (!(bits .andNot .i64 (bits .and .i64 3 e.c) e.d == 0)) = r := by rw [HR.out, Bool.true_and, three_and]; exact andNot_more _ _
    obtain ⟨u, hu⟩ : ∃ u, u = bits .and .i64 3 e.c := ⟨_, rfl⟩
    have hu' := hu.symm
    rw [← hu] at hv
    obtain ⟨v, hv2⟩ : ∃ v, v = bits .andNot .i64 u e.d := ⟨_, rfl⟩
    have hv2' := hv2.symm
    rw [← hv2] at hv
    have hd : (v != 0) = r := hv
    clear hu hv2 hv HR
    go_wp2_with fail
    go_ret
    exact ⟨rfl, HB.out⟩
end Go.Proofs.Ytmhabodijmnldaa
