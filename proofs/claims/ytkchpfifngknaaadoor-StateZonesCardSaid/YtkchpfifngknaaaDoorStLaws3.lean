/- Layer 10: the law StateZones. -/
import Derived.Test.YtkchpfifngknaaaDoorStLaws1
import Derived.Deep.DeepCutAuto
namespace Go.Proofs.YtkchpfifngknaaaDoor
open Go.RowKit Ex
attribute [local go_sem] arr_get
set_option maxRecDepth 100000
set_option linter.unusedSimpArgs false in
set_option maxHeartbeats 0 in
theorem stateZones_walk {w : World} (T : TabF w) (s : StT) (O : SlT) (L : Nat → SlT) (cs : Array Value) (b p : Int) (h : ReadsS w.heap.size w cs s O L) (_hb : N64 b) (_hp : N64 p) :
    Calls Tryd.prog 5 #[.agg cs, .int .i64 b, .int .i64 p] w fun e w' => e = .returned (.bool true) ∧ Below w.heap.size w w' := by
  have hcsz := h.size
  go_enter Tryd.func5, Tryd.ntmps5
  have hcs := h.cs
  have c0 : cs[0]? = some (.slice O.A O.n O.c) := by rw [hcs]; exact stC_objs _ _ _ _
  have hOn := h.on
  have hOc := h.oc
  have hO := h.o
  have hsz : (Tryd.prog.info? 29).map (·.size) = some cs.size := by rw [h.size]; exact size37
  have H := Lib.hid h
  clear h
  obtain ⟨A, n, c⟩ := O
  simp only at c0 hOn hOc hO
  have HC := Lib.hid hcs
  clear hcs
  subst hOn
  go_upto_region 1 with fail
  have hs0 : StAt (w.alloc (.cells cs 29)) w.heap.size cs := StAt.new _ _
  have hb0 : Below w.heap.size w (w.alloc (.cells cs 29)) := (Below.refl _ _).alloc (Nat.le_refl _) _
  obtain ⟨w1, hw1⟩ : ∃ w1, w1 = w.alloc (.cells cs 29) := ⟨_, rfl⟩
  rw [← hw1] at hs0 hb0 ⊢
  clear hw1
  have c1 := (hs0.cell 0).trans c0
  go_wp2_with fail
  refine (stAlive T w1 hb0).mono ?_
  rintro e w2 ⟨rfl, hb2⟩
  have hs2 := hs0.keep hb2
  have hbw2 := keepB hb2 hb0
  clear c1 hs0
  go_wp2_with (refine load_wantS (by rfl) (.tmp 3) rfl w.heap.size rfl cs hs2 hcsz ?_)
  have hl := long_any s _ L cs 200 w2 w2.heap.size ((H.out.grow hbw2)) (by omega)
  rw [show ((200 : Nat) : Int) = 200 from rfl] at hl
  refine hl.mono ?_
  clear hl
  rintro e w3 ⟨rfl, hb3⟩
  have hs3 := hs2.keep hb3
  have hbw3 := keepB hb3 hbw2
  clear hb2 hs2 hbw2 hb3 hb0
  by_cases hlg : longS s 200 = true
  · rw [hlg]
    go_wp2_with fail
    go_ret
    exact ⟨rfl, hbw3⟩
  replace hlg : longS s 200 = false := by simpa using hlg
  obtain ⟨hn, hll⟩ := long_not hlg
  rw [hlg]
  clear hlg
  obtain ⟨Z, hZ⟩ : ∃ Z : Bool, Z = decide ((b = 0 ∨ b = 2 ∨ b = 4 ∨ b = 6) ∧ (p = 0 ∨ p = 1)) := ⟨_, rfl⟩
  have HZ := Lib.hid hZ
  clear hZ
  go_upto_region 6 with fail
  go_cut [39] (fun s wx => s = .bool Z ∧ w3 = wx)
  case first =>
    as_aux_lemma =>
      by_cases b0 : b = 0
      · subst b0
        by_cases p0 : p = 0
        · subst p0
          have HQ := Lib.hid (show Z = true by rw [HZ.out]; simp)
          go_wp2_with fail
          go_meet
          exact ⟨by rw [HQ.out], rfl⟩
        by_cases p1 : p = 1
        · subst p1
          have HQ := Lib.hid (show Z = true by rw [HZ.out]; simp)
          go_wp2_with fail
          go_meet
          exact ⟨by rw [HQ.out], rfl⟩
        have g0 : (p == 0) = false := by simpa using p0
        have g1 : (p == 1) = false := by simpa using p1
        have HQ := Lib.hid (show Z = false by rw [HZ.out]; simp [p0, p1])
        clear p0 p1
        go_wp2_with fail
        go_meet
        exact ⟨by rw [HQ.out], rfl⟩
      by_cases b2 : b = 2
      · subst b2
        by_cases p0 : p = 0
        · subst p0
          have HQ := Lib.hid (show Z = true by rw [HZ.out]; simp)
          go_wp2_with fail
          go_meet
          exact ⟨by rw [HQ.out], rfl⟩
        by_cases p1 : p = 1
        · subst p1
          have HQ := Lib.hid (show Z = true by rw [HZ.out]; simp)
          go_wp2_with fail
          go_meet
          exact ⟨by rw [HQ.out], rfl⟩
        have g0 : (p == 0) = false := by simpa using p0
        have g1 : (p == 1) = false := by simpa using p1
        have HQ := Lib.hid (show Z = false by rw [HZ.out]; simp [p0, p1])
        clear p0 p1
        go_wp2_with fail
        go_meet
        exact ⟨by rw [HQ.out], rfl⟩
      by_cases b4 : b = 4
      · subst b4
        by_cases p0 : p = 0
        · subst p0
          have HQ := Lib.hid (show Z = true by rw [HZ.out]; simp)
          go_wp2_with fail
          go_meet
          exact ⟨by rw [HQ.out], rfl⟩
        by_cases p1 : p = 1
        · subst p1
          have HQ := Lib.hid (show Z = true by rw [HZ.out]; simp)
          go_wp2_with fail
          go_meet
          exact ⟨by rw [HQ.out], rfl⟩
        have g0 : (p == 0) = false := by simpa using p0
        have g1 : (p == 1) = false := by simpa using p1
        have HQ := Lib.hid (show Z = false by rw [HZ.out]; simp [p0, p1])
        clear p0 p1
        go_wp2_with fail
        go_meet
        exact ⟨by rw [HQ.out], rfl⟩
      by_cases b6 : b = 6
      · subst b6
        by_cases p0 : p = 0
        · subst p0
          have HQ := Lib.hid (show Z = true by rw [HZ.out]; simp)
          go_wp2_with fail
          go_meet
          exact ⟨by rw [HQ.out], rfl⟩
        by_cases p1 : p = 1
        · subst p1
          have HQ := Lib.hid (show Z = true by rw [HZ.out]; simp)
          go_wp2_with fail
          go_meet
          exact ⟨by rw [HQ.out], rfl⟩
        have g0 : (p == 0) = false := by simpa using p0
        have g1 : (p == 1) = false := by simpa using p1
        have HQ := Lib.hid (show Z = false by rw [HZ.out]; simp [p0, p1])
        clear p0 p1
        go_wp2_with fail
        go_meet
        exact ⟨by rw [HQ.out], rfl⟩
      have f0 : (b == 0) = false := by simpa using b0
      have f2 : (b == 2) = false := by simpa using b2
      have f4 : (b == 4) = false := by simpa using b4
      have f6 : (b == 6) = false := by simpa using b6
      have HQ := Lib.hid (show Z = false by rw [HZ.out]; simp [b0, b2, b4, b6])
      clear b0 b2 b4 b6
      go_wp2_with fail
      go_meet
      exact ⟨by rw [HQ.out], rfl⟩
  case rest =>
    obtain ⟨rfl, rfl⟩ := hcut
    go_upto_if 39 with fail
    go_cut [7] (fun s wx => s = .int .i64 (zoneV b p) ∧ w3 = wx)
    case first =>
      as_aux_lemma =>
        cases Z
        case true =>
          have hz := of_decide_eq_true HZ.out.symm
          have hv : zoneV b p = b + p := if_pos hz
          have hb1 : -9223372036854775808 ≤ b + p := by omega
          have hb2 : b + p ≤ 9223372036854775807 := by omega
          have HV := Lib.hid hv
          clear hz hv
          go_wp2_with fail
          go_meet
          exact ⟨by rw [HV.out], rfl⟩
        case false =>
          have hz := of_decide_eq_false HZ.out.symm
          have hv : zoneV b p = -1 := if_neg hz
          have HV := Lib.hid hv
          clear hz hv
          go_wp2_with fail
          go_meet
          exact ⟨by rw [HV.out], rfl⟩
    case rest =>
      obtain ⟨rfl, rfl⟩ := hcut
      clear HZ
      have hzc := fun W => zone_code b p W
      obtain ⟨v, hv⟩ : ∃ v, v = zoneV b p := ⟨_, rfl⟩
      rw [← hv] at hzc
      rw [← hv]
      clear hv
      have hvv : (v != v) = false := by simp
      have hsd := fun W => side_code b W
      have htp := fun W (hW : Below w3.heap.size w3 W) => top_code s _ L cs b W W.heap.size (H.out.grow (keepB hW hbw3)) (Nat.le_refl _) (fun z hz => by have := hll z hz; omega)
      obtain ⟨sb, hsb⟩ : ∃ x, x = sideB b := ⟨_, rfl⟩
      obtain ⟨sp, hsp⟩ : ∃ x, x = sideP b := ⟨_, rfl⟩
      obtain ⟨so, hso⟩ : ∃ x, x = sideO b := ⟨_, rfl⟩
      obtain ⟨tx, htx⟩ : ∃ x, x = topX s b := ⟨_, rfl⟩
      obtain ⟨tb, htb⟩ : ∃ x, x = topB s b := ⟨_, rfl⟩
      rw [← hsb, ← hsp, ← hso] at hsd
      rw [← htx, ← htb] at htp
      have HSD := Lib.hid hsd
      have HTP := Lib.hid htp
      have HZC := Lib.hid hzc
      have HF := Lib.hid (show sb = sideB b ∧ sp = sideP b ∧ so = sideO b ∧ tx = topX s b ∧ tb = topB s b from ⟨hsb, hsp, hso, htx, htb⟩)
      clear hsd htp hzc hsb hsp hso htx htb
      go_wp2_with fail
      refine (HSD.out w3).mono ?_
      rintro e w4 ⟨rfl, rfl⟩
      go_wp2_with (refine load_wantS (by rfl) (.tmp 3) rfl w.heap.size rfl cs hs3 hcsz ?_)
      refine (HTP.out w3 (Below.refl _ _)).mono ?_
      rintro e w4 ⟨rfl, hb4⟩
      have hs4 := hs3.keep hb4
      have hbw4 := keepB hb4 hbw3
      clear hs3 hbw3 hb4
      go_wp2_with fail
      refine (HZC.out w4).mono ?_
      rintro e w5 ⟨rfl, rfl⟩
      go_upto_region 12 with fail
      by_cases hlo : b < 0
      · have d1 : decide (b < 0) = true := by simpa using hlo
        obtain ⟨f1, f2, f3, f4, f5⟩ := HF.out
        have hb : topB s b = false := by simp [topB]; omega
        obtain rfl : sb = 0 := by rw [f1, sideB, if_neg (by omega), if_neg (by omega)]
        obtain rfl : sp = 0 := by rw [f2, sideP, if_neg (by omega)]
        obtain rfl : so = false := by rw [f3]; simp [sideO]; omega
        obtain rfl : tb = false := f5.trans hb
        obtain rfl : tx = 0 := by rw [f4, topX, hb]; rfl
        clear f1 f2 f3 f4 f5 hb
        go_wp2_with fail
        go_ret
        exact ⟨rfl, hbw4⟩
      have d1 : decide (b < 0) = false := by simpa using hlo
      by_cases hhi : 10 < b
      · have d2 : decide (10 < b) = true := by simpa using hhi
        obtain ⟨f1, f2, f3, f4, f5⟩ := HF.out
        have hb : topB s b = false := by simp [topB]; omega
        obtain rfl : sb = 0 := by rw [f1, sideB, if_neg (by omega), if_neg (by omega)]
        obtain rfl : sp = 0 := by rw [f2, sideP, if_neg (by omega)]
        obtain rfl : so = false := by rw [f3]; simp [sideO]; omega
        obtain rfl : tb = false := f5.trans hb
        obtain rfl : tx = 0 := by rw [f4, topX, hb]; rfl
        clear f1 f2 f3 f4 f5 hb
        go_wp2_with fail
        go_ret
        exact ⟨rfl, hbw4⟩
      have d2 : decide (10 < b) = false := by simpa using hhi
      obtain ⟨z, rfl⟩ : ∃ z : Nat, b = (z : Int) := ⟨b.toNat, by omega⟩
      have hz : z < 11 := by omega
      obtain ⟨A2, n2, c2, hc2, hnc2, hN2⟩ := H.out.at_list hz
      have hcz := (hs4.cell (1 + z)).trans hc2
      have hN := hN2.below hbw4
      have hln := hN.len
      have hnm : n2 ≤ 210 := by have := hll z hz; omega
      have HT := Lib.hid (show tb = decide (0 < n2) ∧ tx = if 0 < n2 then (s.lists z).getD (n2 - 1) 0 else 0 from by
        obtain ⟨f1, f2, f3, f4, f5⟩ := HF.out
        have hb : topB s (z : Int) = decide (0 < n2) := by
          simp only [topB, Int.toNat_natCast, hln]
          simp; omega
        refine ⟨f5.trans hb, f4.trans ?_⟩
        simp only [topX, hb, Int.toNat_natCast, hln, decide_eq_true_eq])
      clear hc2 hN2
      have q0 : (0 : Int) ≤ (z : Int) := by omega
      have q1 : (z : Int) < 11 := by omega
      by_cases h8 : z < 8
      · have d3 : decide ((z : Int) < 8) = true := by simp; omega
        have d4 : decide ((8 : Int) ≤ (z : Int)) = false := by simp; omega
        obtain ⟨f1, f2, f3, f4, f5⟩ := HF.out
        have e1 : sb = (z : Int) - (z : Int) % 2 := by rw [f1, sideB, if_pos (by omega)]
        have e2 : sp = (z : Int) % 2 := by rw [f2, sideP, if_pos (by omega)]
        obtain rfl : so = true := by rw [f3]; simp [sideO]; omega
        have e3 : (z : Int) % 2 = sp := e2.symm
        have e4 : (z : Int) - sp = sb := by omega
        have e5 : (sp != sp) = false := by simp
        have e6 : (sb != sb) = false := by simp
        have e7 : 0 ≤ sp ∧ sp ≤ 1 := by omega
        clear f1 f2 f3 f4 f5 e1 e2
        by_cases hn0 : n2 = 0
        · subst hn0
          obtain ⟨g1, g2⟩ := HT.out
          obtain rfl : tb = false := g1
          obtain rfl : tx = 0 := g2
          go_wp2_with fail
          go_ret
          exact ⟨rfl, hbw4⟩
        · obtain ⟨g1, g2⟩ := HT.out
          obtain rfl : tb = true := g1.trans (by simp; omega)
          rw [if_pos (by omega)] at g2
          obtain ⟨a, rfl, hab, hca⟩ := hN.at_ (show n2 - 1 < (s.lists z).length by omega)
          have hx : tx = (s.lists z)[n2 - 1]'(by omega) := by rw [g2, List.getD_eq_getElem?_getD, List.getElem?_eq_getElem (by omega)]; rfl
          rw [← hx] at hca
          obtain ⟨k, hk⟩ : ∃ k, k = n2 - 1 := ⟨_, rfl⟩
          have hkn : (n2 : Int) - 1 = (k : Int) := by omega
          have hk0 : (0 : Int) ≤ (k : Int) := by omega
          have hk1 : (k : Int) < (n2 : Int) := by omega
          have dn : decide ((0 : Int) < (n2 : Int)) = true := by simp; omega
          have ex : (tx == tx) = true := by simp
          rw [← hk] at hca
          clear g1 g2 hx hk hn0
          go_wp2_with fail
          go_ret
          exact ⟨rfl, hbw4⟩
      · have d3 : decide ((z : Int) < 8) = false := by simp; omega
        have d4 : decide ((8 : Int) ≤ (z : Int)) = true := by simp; omega
        obtain ⟨f1, f2, f3, f4, f5⟩ := HF.out
        obtain rfl : sb = (z : Int) := by rw [f1, sideB, if_neg (by omega), if_pos (by omega)]
        obtain rfl : sp = 0 := by rw [f2, sideP, if_neg (by omega)]
        obtain rfl : so = false := by rw [f3]; simp [sideO]; omega
        have e5 : ((z : Int) != (z : Int)) = false := by simp
        clear f1 f2 f3 f4 f5
        by_cases hn0 : n2 = 0
        · subst hn0
          obtain ⟨g1, g2⟩ := HT.out
          obtain rfl : tb = false := g1
          obtain rfl : tx = 0 := g2
          go_wp2_with fail
          go_ret
          exact ⟨rfl, hbw4⟩
        · obtain ⟨g1, g2⟩ := HT.out
          obtain rfl : tb = true := g1.trans (by simp; omega)
          rw [if_pos (by omega)] at g2
          obtain ⟨a, rfl, hab, hca⟩ := hN.at_ (show n2 - 1 < (s.lists z).length by omega)
          have hx : tx = (s.lists z)[n2 - 1]'(by omega) := by rw [g2, List.getD_eq_getElem?_getD, List.getElem?_eq_getElem (by omega)]; rfl
          rw [← hx] at hca
          obtain ⟨k, hk⟩ : ∃ k, k = n2 - 1 := ⟨_, rfl⟩
          have hkn : (n2 : Int) - 1 = (k : Int) := by omega
          have hk0 : (0 : Int) ≤ (k : Int) := by omega
          have hk1 : (k : Int) < (n2 : Int) := by omega
          have dn : decide ((0 : Int) < (n2 : Int)) = true := by simp; omega
          have ex : (tx == tx) = true := by simp
          rw [← hk] at hca
          clear g1 g2 hx hk hn0
          go_wp2_with fail
          go_ret
          exact ⟨rfl, hbw4⟩
end Go.Proofs.YtkchpfifngknaaaDoor
