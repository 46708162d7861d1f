/- Layer 13: the law NetSame. -/
import Derived.Test.YtmneajmedopheaaNtAlive
import Derived.Test.YtmneajmedopheaaNtLw
namespace Go.Proofs.Ytmneajmedopheaa
open Go.RowKit Ex
set_option maxRecDepth 100000
set_option linter.unusedSimpArgs false in
set_option maxHeartbeats 0 in
theorem netSame_walk {w : World} (E : NtSaid w) (s : StT) (O : SlT) (L : Nat → SlT) (cs : Array Value) (A : Option Addr) (n c : Nat) (l : List EvT) (hR : ReadsS w.heap.size w cs s O L) (hV : Evs w.heap.size w A n l) (hc : n ≤ c) :
    Calls Try.prog 4 #[.agg cs, .slice A n c] w fun en w' => en = .returned (.bool true) ∧ Below w.heap.size w w' := by
  have hcs := hR.size
  have HR := Lib.hid hR
  have HV := Lib.hid hV
  have HC := Lib.hid hc
  clear hR hV hc
  go_enter Try.func4, Try.ntmps4
  go_upto_region 1 with fail
  obtain ⟨w1, hw1⟩ : ∃ w1, w1 = w.alloc (.cells cs 29) := ⟨_, rfl⟩
  obtain ⟨gs, hgs⟩ : ∃ g, g = w.heap.size := ⟨_, rfl⟩
  have HW := Lib.hid (show NW w gs cs w1 from by
    rw [hw1, hgs]
    exact ⟨(Below.refl _ _).alloc (Nat.le_refl _) _, StAt.new w cs⟩)
  show Code.wp _ _ _ _ (w.alloc (.cells cs 29))
  rw [← hw1, ← hgs]
  have HGs := Lib.hid hgs
  clear hw1 hgs
  go_wp2_with fail
  refine (ntAlive E w1 HW.out.b).mono ?_
  rintro en w2 ⟨rfl, hb2⟩
  have HW2 := Lib.hid (HW.out.keep hb2)
  have hsa := HW2.out.a
  clear HW hb2
  go_wp2_with (refine load_wantS (by rfl) (.tmp 2) rfl gs rfl cs hsa hcs ?_)
  have hl := long_any s O L cs 100 w2 w2.heap.size (HW2.out.reads HR.out) (by omega)
  rw [show ((100 : Nat) : Int) = 100 from rfl] at hl
  refine hl.mono ?_
  clear hl hsa
  rintro en w3 ⟨rfl, hb3⟩
  have HW3 := Lib.hid (HW2.out.keep hb3)
  clear HW2 hb3
  by_cases hlg : longS s 100 = true
  · have hbw := HW3.out.b
    rw [hlg]
    go_wp2_with fail
    go_ret
    exact ⟨rfl, hbw⟩
  replace hlg : longS s 100 = false := by simpa using hlg
  obtain ⟨hn, hll⟩ := long_not (most := 100) hlg
  rw [hlg]
  by_cases hng : 100 < n
  · have hbw := HW3.out.b
    have hd : decide ((100 : Int) < (n : Int)) = true := by simp; omega
    go_wp2_with fail
    go_ret
    exact ⟨rfl, hbw⟩
  have hd : decide ((100 : Int) < (n : Int)) = false := by simp; omega
  have HNl := Lib.hid (And.intro hn (And.intro hll (show n ≤ 100 by omega)))
  clear hlg hn hll hng
  -- n
  have hn := E.net A n c l w3 (HW3.out.v HV.out) HC.out (by have := HNl.out.2.2; omega) HW3.out.b
  unfold EvsP at hn
  go_wp2_with fail
  refine hn.mono ?_
  rintro en w4 ⟨A4, n4, c4, rfl, hc4, hV4, hb4⟩
  have HW4 := Lib.hid (HW3.out.keep hb4)
  have hle : n4 ≤ n := by rw [hV4.n, HV.out.n]; exact net_len l
  have hgt : decide ((n4 : Int) > (n : Int)) = false := by simp; omega
  have hgt2 : decide ((n : Int) < (n4 : Int)) = false := by simp; omega
  have HV4 := Lib.hid hV4
  have HL4 := Lib.hid hle
  have HC4 := Lib.hid hc4
  clear hn HW3 hb4 hV4 hle hc4
  have hn := E.net A4 n4 c4 (netL l) w4 HV4.out HC4.out (by have := HNl.out.2.2; have := HL4.out; omega) HW4.out.b
  unfold EvsP at hn
  rw [net_net] at hn
  go_wp2_with fail
  refine hn.mono ?_
  rintro en w5 ⟨A5, n5, c5, rfl, hc5, hV5, hb5⟩
  have HW5 := Lib.hid (HW4.out.keep hb5)
  have HV5 := Lib.hid (HV4.out.grow hb5)
  obtain rfl : n5 = n4 := by rw [hV5.n, HV4.out.n]
  have he := events_any A5 A4 n5 c5 c4 (netL l) w5 hV5 HV5.out (by have := HNl.out.2.2; have := HL4.out; omega)
  clear hn HW4 HV4 hb5 hc5 hV5
  go_wp2_with fail
  refine he.mono ?_
  rintro en w6 ⟨rfl, hb6⟩
  have HW6 := Lib.hid (HW5.out.keep hb6)
  have HV6 := Lib.hid (HV5.out.grow hb6)
  have hsa := HW6.out.a
  clear he HW5 HV5 hb6 hgt hgt2
  -- t
  have hrn := E.run s O L cs A n c l w6 (HW6.out.reads HR.out) (by have := HNl.out.1; omega) (fun z hz => by have := HNl.out.2.1 z hz; omega) (HW6.out.v HV.out) HC.out (by have := HNl.out.2.2; omega) HW6.out.b
  unfold RnP at hrn
  obtain ⟨t, ht⟩ : ∃ t, t = (runS s l).1 := ⟨_, rfl⟩
  obtain ⟨k, hk⟩ : ∃ k, k = (runS s l).2.1 := ⟨_, rfl⟩
  obtain ⟨r, hr⟩ : ∃ r, r = (runS s l).2.2 := ⟨_, rfl⟩
  have HT := Lib.hid (And.intro ht (And.intro hk hr))
  rw [← ht, ← hk, ← hr] at hrn
  clear ht hk hr
  go_wp2_with (refine load_wantS (by rfl) (.tmp 2) rfl gs rfl cs hsa hcs ?_)
  refine hrn.mono ?_
  rintro en w7 ⟨cT, OT, LT, rfl, hNT, hb7⟩
  clear hrn hsa
  have HW7 := Lib.hid (HW6.out.keep hb7)
  have HV7 := Lib.hid (HV6.out.grow hb7)
  have hcT := hNT.now.size
  clear HW6 HV6 hb7
  have hnew : (World.alloc w7 (.cells st0 29)).heap[(World.heap w7).size]? = some (.cells st0 29 (0, 0)) := heap_alloc_new _ _
  have hsz : (Try.prog.info? 29).map (·.size) = some cT.size := by rw [hNT.now.size]; exact size37
  have hs0 : st0.size = cT.size := by rw [hNT.now.size, show st0.size = 37 from stC_size _ _ _ _]
  have hone := hNT.now.one
  have hz := st0_is
  go_upto_region 9 with (refine wpList_store_row rfl 29 (.tmp 6) (.tmp 38) rfl (World.heap w7).size _ rfl rfl 29 st0 hnew hsz hs0 hone ?_)
  clear hnew hsz hs0 hone hz
  obtain ⟨w8, hw8, hA8, hb8⟩ := box_new w7 cT
  rw [← hw8]
  have HW8 := Lib.hid (HW7.out.keep hb8)
  have HV8 := Lib.hid (HV7.out.grow hb8)
  have HT8 := Lib.hid (BN.new hNT hA8 hb8)
  obtain ⟨g7, hg7⟩ : ∃ g, g = w7.heap.size := ⟨_, rfl⟩
  rw [← hg7] at HT8 ⊢
  clear hw8 hA8 hb8 hNT HW7 HV7 hg7
  by_cases hr0 : r = 0
  case neg =>
    have hbw := HW8.out.b
    rw [errV_err hr0]
    go_wp2_with fail
    go_ret
    exact ⟨rfl, hbw⟩
  subst hr0
  rw [errV_nil]
  have HG := Lib.hid (runS_inv (s := s) (l := l) HT.out.2.2.symm)
  have HG2 := Lib.hid (runS_ok (net_go HG.out.1))
  have hsa := HW8.out.a
  have hrn := E.run s O L cs A4 n5 c4 (netL l) w8 (HW8.out.reads HR.out) (by have := HNl.out.1; omega) (fun z hz => by have := HNl.out.2.1 z hz; omega) HV8.out HC4.out (by have := HNl.out.2.2; have := HL4.out; omega) HW8.out.b
  unfold RnP at hrn
  rw [HG2.out, ← HT.out.1, ← HV8.out.n] at hrn
  simp only at hrn
  rw [errV_nil] at hrn
  go_wp2_with (refine load_wantS (by rfl) (.tmp 2) rfl gs rfl cs hsa hcs ?_)
  refine hrn.mono ?_
  rintro en w9 ⟨cU, OU, LU, rfl, hNU, hb9⟩
  clear hrn hsa
  have HW9 := Lib.hid (HW8.out.keep hb9)
  have HT9 := Lib.hid (HT8.out.keep hb9)
  have hcU := hNU.now.size
  clear HW8 HV8 HT8 hb9
  have hnew : (World.alloc w9 (.cells st0 29)).heap[(World.heap w9).size]? = some (.cells st0 29 (0, 0)) := heap_alloc_new _ _
  have hsz : (Try.prog.info? 29).map (·.size) = some cU.size := by rw [hNU.now.size]; exact size37
  have hs0 : st0.size = cU.size := by rw [hNU.now.size, show st0.size = 37 from stC_size _ _ _ _]
  have hone := hNU.now.one
  have hz := st0_is
  go_upto_region 12 with (refine wpList_store_row rfl 29 (.tmp 9) (.tmp 47) rfl (World.heap w9).size _ rfl rfl 29 st0 hnew hsz hs0 hone ?_)
  clear hnew hsz hs0 hone hz
  obtain ⟨wA, hwA, hAA, hbA⟩ := box_new w9 cU
  rw [← hwA]
  have HWA := Lib.hid (HW9.out.keep hbA)
  have HTA := Lib.hid (HT9.out.keep hbA)
  have HUA := Lib.hid (BN.new hNU hAA hbA)
  obtain ⟨g9, hg9⟩ : ∃ g, g = w9.heap.size := ⟨_, rfl⟩
  rw [← hg9] at HUA ⊢
  clear hwA hAA hbA hNU HW9 HT9 hg9
  have HTl := Lib.hid (show t.objs.length ≤ 1000000 ∧ ∀ z < 11, (t.lists z).length ≤ 1000000 from by
    have h := runS_len s l
    rw [← HT.out.1, ← HV.out.n] at h
    exact ⟨by have := h.1; have := HNl.out.1; have := HNl.out.2.2; omega, fun z hz => by have := h.2 z; have := HNl.out.2.1 z hz; have := HNl.out.2.2; omega⟩)
  have hst := states_any t t OT OU LT LU cT cU wA HTA.out.reads HUA.out.reads HTl.out.1 HTl.out.1 HTl.out.2 HTl.out.2
  rw [sameS_refl] at hst
  have haT := HTA.out.a
  have haU := HUA.out.a
  have hbA := HWA.out.b
  have hnn : ((n5 : Int) == (n5 : Int)) = true := beq_self_eq_true _
  go_wp2_with (first
    | (refine load_wantS (by rfl) (.tmp 6) rfl g7 rfl cT haT hcT ?_)
    | (refine load_wantS (by rfl) (.tmp 9) rfl g9 rfl cU haU hcU ?_))
  refine hst.mono ?_
  rintro en wB ⟨rfl, hbB⟩
  go_wp2_with fail
  go_ret
  exact ⟨rfl, keepB hbB hbA⟩
end Go.Proofs.Ytmneajmedopheaa
