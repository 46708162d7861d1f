/- Layer 14: the law JournalBack. -/
import Derived.Test.YtncmfkmgaghklaaJnAlive
import Derived.Test.YtncmfkmgaghklaaNtRef
import Derived.Test.YtncmfkmgaghklaaNtRfI
namespace Go.Proofs.Ytncmfkmgaghklaa
open Go.RowKit Ex
set_option maxRecDepth 100000
theorem add_good {j : JT} {l : List EvT} (h : addE j l = 0) : addJ j l = ⟨j.ev ++ l, j.ms, j.last⟩ := if_pos h
theorem add_none {j : JT} {l : List EvT} (h : addE j l ≠ 0) : addJ j l = j := if_neg h
theorem jb_span (ahead a b : List EvT) : deadJ ⟨ahead ++ a ++ b, [(1, ahead.length), (2, (ahead ++ a).length)], 2⟩ 1 = 0 ∧ spanJ ⟨ahead ++ a ++ b, [(1, ahead.length), (2, (ahead ++ a).length)], 2⟩ 1 = a ++ b ∧
    backJ ⟨ahead ++ a ++ b, [(1, ahead.length), (2, (ahead ++ a).length)], 2⟩ 1 = ⟨ahead, [(1, ahead.length)], 2⟩ := by
  refine ⟨rfl, ?_, ?_⟩
  · show (ahead ++ a ++ b).drop ahead.length = a ++ b
    rw [List.append_assoc, List.drop_left]
  · show JT.mk ((ahead ++ a ++ b).take ahead.length) _ _ = _
    rw [List.append_assoc, List.take_left]; rfl
theorem invL_i {l : List EvT} (h : ∀ e ∈ l, EvI e) : ∀ e ∈ invL l, EvI e := fun e he => by
  obtain ⟨x, hx, rfl⟩ := List.mem_map.1 (List.mem_reverse.1 he)
  exact invE_i (h x hx)
set_option linter.unusedSimpArgs false in
set_option maxHeartbeats 0 in
theorem journalBack_walk {T : JRep} {w : World} (E : JnSaid T w) (A0 A1 A2 : Option Addr) (n0 c0 n1 c1 n2 c2 : Nat) (l0 l1 l2 : List EvT) (hV0 : Evs w.heap.size w A0 n0 l0) (hc0 : n0 ≤ c0) (hm0 : c0 ≤ maxLen)
    (hV1 : Evs w.heap.size w A1 n1 l1) (hc1 : n1 ≤ c1) (hm1 : c1 ≤ maxLen) (hV2 : Evs w.heap.size w A2 n2 l2) (hc2 : n2 ≤ c2) (hm2 : c2 ≤ maxLen) :
    Calls Try.prog 5 #[.slice A0 n0 c0, .slice A1 n1 c1, .slice A2 n2 c2] w fun en w' => en = .returned (.bool true) ∧ Below w.heap.size w w' := by
  have H0 := Lib.hid hV0
  have H1 := Lib.hid hV1
  have H2 := Lib.hid hV2
  have HC := Lib.hid (And.intro hc0 (And.intro hc1 hc2))
  have HMx := Lib.hid (And.intro hm0 (And.intro hm1 hm2))
  obtain ⟨s1, hs1⟩ : ∃ s, s = IntKind.i64.wrap ((n0 : Int) + (n1 : Int)) := ⟨_, rfl⟩
  obtain ⟨s2, hs2⟩ : ∃ s, s = IntKind.i64.wrap (s1 + (n2 : Int)) := ⟨_, rfl⟩
  have e1 := hs1.symm
  have e2 := hs2.symm
  clear hs1 hs2
  clear hV0 hV1 hV2 hc0 hc1 hc2 hm0 hm1 hm2
  go_enter Try.func5, Try.ntmps5
  go_wp2_with fail
  refine (jnAlive E w (Below.refl _ _)).mono ?_
  rintro en w1 ⟨rfl, hb1⟩
  by_cases hng : (100 : Int) < s2
  · have hd : decide ((100 : Int) < s2) = true := decide_eq_true hng
    go_wp2_with fail
    go_ret
    exact ⟨rfl, hb1⟩
  have hd : decide ((100 : Int) < s2) = false := decide_eq_false hng
  clear hng
  go_wp2_with fail
  refine (E.new w1 hb1).mono ?_
  rintro en w2 ⟨p, F2, rfl, hR2, hF2, hb2⟩
  have HJ2 := Lib.hid (JI.new hb1 hR2 hF2 hb2)
  clear hR2 hF2 hb1 hb2 hd e1 e2
  unfold ptrV
  -- ahead
  have ha := E.add p j0 F2 A0 n0 c0 l0 w2 HJ2.out.r HJ2.out.ok (H0.out.grow HJ2.out.b) HC.out.1 HMx.out.1 HJ2.out.low HJ2.out.b
  unfold ptrV at ha
  obtain ⟨e0, he0⟩ : ∃ e, e = addE j0 l0 := ⟨_, rfl⟩
  rw [← he0] at ha
  go_wp2_with fail
  refine ha.mono ?_
  rintro en w3 ⟨rfl, hp3⟩
  clear ha
  by_cases hz0 : e0 = 0
  case neg =>
    rw [add_none (by rw [← he0]; exact hz0)] at hp3
    obtain ⟨F3, hJ3⟩ := HJ2.out.step hp3 HJ2.out.ok
    have HJ3 := Lib.hid hJ3
    have hl := E.len p j0 F3 w3 HJ3.out.r HJ3.out.ok HJ3.out.b
    unfold ptrV at hl
    rw [show ((j0.ev.length : Nat) : Int) = 0 from rfl] at hl
    rw [errV_err hz0]
    clear hp3 hJ3 he0 hz0
    go_wp2_with fail
    refine hl.mono ?_
    rintro en w4 ⟨rfl, hb4⟩
    have hb := keepB hb4 HJ3.out.b
    clear hl
    go_wp2_with fail
    go_ret
    exact ⟨rfl, hb⟩
  subst hz0
  rw [add_good he0.symm] at hp3
  obtain ⟨F3, hJ3⟩ := HJ2.out.step hp3 (by rw [← add_good he0.symm]; exact add_ok HJ2.out.ok)
  rw [show (⟨j0.ev ++ l0, j0.ms, j0.last⟩ : JT) = ⟨l0, [], 0⟩ from rfl] at hJ3
  have HJ3 := Lib.hid hJ3
  rw [errV_nil]
  clear hp3 hJ3 he0 HJ2
  -- the checkpoint
  have hm := E.mark p ⟨l0, [], 0⟩ F3 w3 HJ3.out.r HJ3.out.ok (by simp) HJ3.out.low HJ3.out.b
  unfold ptrV at hm
  rw [show markJ ⟨l0, [], 0⟩ = ⟨l0, [(1, l0.length)], 1⟩ from rfl] at hm
  go_wp2_with fail
  refine hm.mono ?_
  rintro en w4 ⟨rfl, hp4⟩
  obtain ⟨F4, hJ4⟩ := HJ3.out.step hp4 (by have := mark_ok HJ3.out.ok; exact this)
  have HJ4 := Lib.hid hJ4
  rw [show (0 : Int) + 1 = 1 from rfl]
  clear hm hp4 hJ4 HJ3
  -- a
  obtain ⟨j4, hj4⟩ : ∃ j, j = (⟨l0, [(1, l0.length)], 1⟩ : JT) := ⟨_, rfl⟩
  rw [← hj4] at HJ4
  have ha := E.add p j4 F4 A1 n1 c1 l1 w4 HJ4.out.r HJ4.out.ok (H1.out.grow HJ4.out.b) HC.out.2.1 HMx.out.2.1 HJ4.out.low HJ4.out.b
  unfold ptrV at ha
  obtain ⟨e1, he1⟩ : ∃ e, e = addE j4 l1 := ⟨_, rfl⟩
  rw [← he1] at ha
  have HE1 := Lib.hid he1
  have Hj4 := Lib.hid hj4
  clear he1 hj4
  go_wp2_with fail
  refine ha.mono ?_
  rintro en w5 ⟨rfl, hp5⟩
  clear ha
  obtain ⟨F5, hJ5⟩ := HJ4.out.step hp5 (add_ok HJ4.out.ok)
  have HJ5 := Lib.hid hJ5
  clear hp5 hJ5 HJ4
  by_cases hz1 : e1 = 0
  case neg =>
    have hb := HJ5.out.b
    rw [errV_err hz1]
    clear hz1
    go_wp2_with fail
    go_ret
    exact ⟨rfl, hb⟩
  subst hz1
  have hJ5 := HJ5.out
  rw [add_good HE1.out.symm, Hj4.out] at hJ5
  have HJ5 := Lib.hid hJ5
  rw [errV_nil]
  clear hJ5 HE1 Hj4
  have hm := E.mark p ⟨l0 ++ l1, [(1, l0.length)], 1⟩ F5 w5 HJ5.out.r HJ5.out.ok (by simp) HJ5.out.low HJ5.out.b
  unfold ptrV at hm
  rw [show markJ ⟨l0 ++ l1, [(1, l0.length)], 1⟩ = ⟨l0 ++ l1, [(1, l0.length), (2, (l0 ++ l1).length)], 2⟩ from rfl, show (1 : Int) + 1 = 2 from rfl] at hm
  go_wp2_with fail
  refine hm.mono ?_
  rintro en w6 ⟨rfl, hp6⟩
  obtain ⟨F6, hJ6⟩ := HJ5.out.step hp6 (by have := mark_ok HJ5.out.ok; exact this)
  obtain ⟨j6, hj6⟩ : ∃ j, j = (⟨l0 ++ l1, [(1, l0.length), (2, (l0 ++ l1).length)], 2⟩ : JT) := ⟨_, rfl⟩
  rw [← hj6] at hJ6
  have HJ6 := Lib.hid hJ6
  clear hm hp6 hJ6 HJ5
  -- b
  have ha := E.add p j6 F6 A2 n2 c2 l2 w6 HJ6.out.r HJ6.out.ok (H2.out.grow HJ6.out.b) HC.out.2.2 HMx.out.2.2 HJ6.out.low HJ6.out.b
  unfold ptrV at ha
  obtain ⟨e2, he2⟩ : ∃ e, e = addE j6 l2 := ⟨_, rfl⟩
  rw [← he2] at ha
  have HE2 := Lib.hid he2
  have Hj6 := Lib.hid hj6
  clear he2 hj6
  go_wp2_with fail
  refine ha.mono ?_
  rintro en w7 ⟨rfl, hp7⟩
  clear ha
  obtain ⟨F7, hJ7⟩ := HJ6.out.step hp7 (add_ok HJ6.out.ok)
  have HJ7 := Lib.hid hJ7
  clear hp7 hJ7 HJ6
  by_cases hz2 : e2 = 0
  case neg =>
    have hb := HJ7.out.b
    rw [errV_err hz2]
    clear hz2
    go_wp2_with fail
    go_ret
    exact ⟨rfl, hb⟩
  subst hz2
  have hJ7 := HJ7.out
  rw [add_good HE2.out.symm, Hj6.out] at hJ7
  have HJ7 := Lib.hid hJ7
  rw [errV_nil]
  clear hJ7 HE2 Hj6
  have HSz := Lib.hid (show n0 + n1 + n2 ≤ 65536 from by
    have := HJ7.out.ok.n
    simp only [List.length_append] at this
    rw [← H0.out.n, ← H1.out.n, ← H2.out.n] at this
    exact this)
  have hk := E.back p ⟨l0 ++ l1 ++ l2, [(1, l0.length), (2, (l0 ++ l1).length)], 2⟩ F7 1 w7 HJ7.out.r HJ7.out.ok ⟨by omega, by omega⟩ HJ7.out.low HJ7.out.b
  unfold ptrV at hk
  rw [(jb_span l0 l1 l2).1, (jb_span l0 l1 l2).2.1, (jb_span l0 l1 l2).2.2, errV_nil] at hk
  go_wp2_with fail
  refine hk.mono ?_
  rintro en w8 ⟨⟨A8, n8, c8, rfl, hc8, hV8⟩, hp8⟩
  obtain ⟨F8, hJ8⟩ := HJ7.out.step hp8 (by have := back_ok (c := 1) HJ7.out.ok; rw [(jb_span l0 l1 l2).2.2] at this; exact this)
  have HJ8 := Lib.hid hJ8
  have HV8 := Lib.hid hV8
  clear hk hp8 hJ8 HJ7 hV8 hc8
  have hl := E.len p ⟨l0, [(1, l0.length)], 2⟩ F8 w8 HJ8.out.r HJ8.out.ok HJ8.out.b
  unfold ptrV at hl
  simp only at hl
  rw [← H0.out.n] at hl
  obtain rfl : n8 = n1 + n2 := by rw [HV8.out.n, invL_len, List.length_append, ← H1.out.n, ← H2.out.n]
  have d0 : ((n0 : Int) != (n0 : Int)) = false := bne_self_eq_false _
  have y1 : (n1 : Int) ≤ 65536 := by have := HSz.out; omega
  have y2 : (n2 : Int) ≤ 65536 := by have := HSz.out; omega
  have y3 : (0 : Int) ≤ (n1 : Int) := by omega
  have y4 : (0 : Int) ≤ (n2 : Int) := by omega
  have d1 : (((n1 + n2 : Nat) : Int) != (n1 : Int) + (n2 : Int)) = false := by rw [bne_eq_false_iff_eq]; omega
  go_wp2_with fail
  refine hl.mono ?_
  rintro en w9 ⟨rfl, hb9⟩
  have HB9 := Lib.hid (keepB hb9 HJ8.out.b)
  have HV9 := Lib.hid (HV8.out.grow hb9)
  clear hl hb9 HJ8 HV8
  -- all
  have h0 := ownV_empty w9 w9.heap.size (Nat.le_refl _)
  have hbA : Below w9.heap.size w9 (w9.alloc (.cells #[] 41)) := (Below.refl _ _).alloc (Nat.le_refl _) _
  have hr1 := ((H1.out.grow HB9.out).grow hbA).r
  have hn1 : 0 + n1 ≤ 1000000 := by have := HSz.out; omega
  have hl1 := Lib.hid H1.out.n
  have hsA : w9.heap.size ≤ (w9.alloc (.cells #[] 41)).heap.size := hbA.size
  have hq : ∀ (A' : Option Addr) (c' : Nat) (w' : World), OwnV w' w9.heap.size A' n1 c' l1 → (w9.alloc (.cells #[] 41)).grownBy w' (Value.slice (some ⟨w9.heap.size, 0, none⟩) 0 0).ownBlock → VB w9 A' n1 c' l1 w' := fun A' c' w' ho hg => ⟨ho, h0.grown hbA hsA hg⟩
  have HQ := Lib.hid hq
  clear hq
  go_wp2_with (first
    | (at_builtin; refine wpList_appV rfl (.tmp 75) (.tmp 76) rfl w9.heap.size (some ⟨w9.heap.size, 0, none⟩) 0 0 [] rfl h0 _ A1 n1 c1 l1 rfl hr1 hl1.out hn1 hsA ?_; intro AB cB wB hoB hgB; rw [Nat.zero_add, List.nil_append] at hoB; have HVB := Lib.hid (HQ.out AB cB wB hoB hgB); have hrB := ((H2.out.grow HB9.out).grow HVB.out.b).r; have hnB : n1 + n2 ≤ 1000000 := (by have := HSz.out; omega); have hl2 := Lib.hid H2.out.n; have hsB := HVB.out.b.size; have hOB := HVB.out.own)
    | (at_builtin; refine wpList_appV rfl (.tmp 77) (.tmp 78) rfl w9.heap.size AB n1 cB _ rfl hOB _ A2 n2 c2 l2 rfl hrB hl2.out hnB hsB ?_; intro AD cD wD hoD hgD; have HVD := Lib.hid (show VB w9 AD (n1 + n2) cD (l1 ++ l2) wD from ⟨hoD, hOB.grown HVB.out.b hsB hgD⟩)))
  have hi8 := invLRef_any A8 (n1 + n2) c8 (invL (l1 ++ l2)) wD (HV9.out.grow HVD.out.b) (by have := HSz.out; omega)
  clear hr1 hn1 hsA hrB hnB hsB hOB hoB hgB hoD hgD h0 hbA
  go_wp2_with fail
  refine hi8.mono ?_
  rintro en wE ⟨AE, cE, rfl, hcE, hVE, hbE⟩
  have HVE := Lib.hid hVE
  have hall : ∀ e ∈ l1 ++ l2, EvI e := fun e he => by
    rcases List.mem_append.1 he with h | h
    · exact H1.out.i e h
    · exact H2.out.i e h
  have HVD2 := Lib.hid ((HVD.out.own.evs hall).grow hbE)
  have hbwE := keepB hbE (keepB HVD.out.b HB9.out)
  clear hi8 hVE hcE hall
  have hi9 := invLRef_any AD (n1 + n2) cD (l1 ++ l2) wE HVD2.out (by have := HSz.out; omega)
  go_wp2_with fail
  refine hi9.mono ?_
  rintro en wF ⟨AF, cF, rfl, hcF, hVF, hbF⟩
  have hbwF := keepB hbF hbwE
  have HVE2 := Lib.hid (HVE.out.grow hbF)
  clear hi9 hcF
  have hi10 := invLRef_any AF (n1 + n2) cF (invL (l1 ++ l2)) wF hVF (by have := HSz.out; omega)
  clear hVF hbwE hbE hbF
  go_wp2_with fail
  refine hi10.mono ?_
  rintro en wG ⟨AG, cG, rfl, hcG, hVG, hbG⟩
  have hev := events_any AE AG (n1 + n2) cE cG (invL (invL (l1 ++ l2))) wG (HVE2.out.grow hbG) hVG (by have := HSz.out; omega)
  have hbwG := keepB hbG hbwF
  clear hi10 hVG hcG hbG hbwF
  go_wp2_with fail
  refine hev.mono ?_
  rintro en wH ⟨rfl, hbH⟩
  have hb := keepB hbH hbwG
  clear hev
  go_wp2_with fail
  go_ret
  exact ⟨rfl, hb⟩
end Go.Proofs.Ytncmfkmgaghklaa
