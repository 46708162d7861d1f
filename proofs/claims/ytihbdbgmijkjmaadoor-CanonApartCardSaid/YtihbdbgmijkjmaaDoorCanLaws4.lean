/- Layer 11: the law CanonApart. -/
import Derived.Test.YtihbdbgmijkjmaaDoorCanG1
namespace Go.Proofs.YtihbdbgmijkjmaaDoor
open Go.RowKit Ex Px Wx
attribute [local go_sem] arr_get
set_option maxRecDepth 100000
/-- Numbers within, as the bytes want them. -/
structure I64S (s : StT) : Prop where
  o : ∀ o ∈ s.objs, ∀ i, i < 18 → i64B (o i)
  l : ∀ z, z < 11 → ∀ n ∈ s.lists z, i64B n
  p : ∀ i, i < 18 → i64B (s.pl i)
  g : ∀ i, i < 7 → i64B (s.gm i)
theorem I64S.of {B : Nat} {w : World} {cs : Array Value} {s : StT} {O : SlT} {L : Nat → SlT} (h : ReadsS B w cs s O L) : I64S s :=
  ⟨fun o ho i hi => h.ow o ho i hi, fun z hz n hn => h.lw z hz n hn, fun i hi => h.pw i hi, fun i hi => h.gw i hi⟩
/-- Two right states have the same bytes just where they are the same. -/
theorem bytes_apart {s t : StT} (hs : chkS s = 0) (ht : chkS t = 0) (h : I64S s) (h' : I64S t) : decide (bytesS s = bytesS t) = sameS s t := by
  rw [Bool.eq_iff_iff, decide_eq_true_iff, sameS_iff]
  constructor
  · intro e
    obtain ⟨s', e1, h1⟩ := parse_bytes hs h.o h.l h.p h.g
    obtain ⟨t', e2, h2⟩ := parse_bytes ht h'.o h'.l h'.p h'.g
    rw [e, e2] at e1
    injection e1 with e1
    subst e1
    exact h1.symm.trans h2
  · exact bytes_congr
set_option linter.unusedSimpArgs false in
set_option maxHeartbeats 0 in
theorem canonApart_walk {w : World} (S : CanSaid w) (a b : StT) (Oa Ob : SlT) (La Lb : Nat → SlT) (ca cb : Array Value) (hA : ReadsS w.heap.size w ca a Oa La) (hB : ReadsS w.heap.size w cb b Ob Lb) :
    Calls Tryd.prog 6 #[.agg ca, .agg cb] w fun e w' => e = .returned (.bool true) ∧ Below w.heap.size w w' := by
  have hca := hA.size
  have hcb := hB.size
  have HA := Lib.hid hA
  have HB := Lib.hid hB
  clear hA hB
  go_enter Tryd.func6, Tryd.ntmps6
  go_upto_region 1 with fail
  have HT := Lib.hid (show TwoS w w.heap.size (w.heap.size + 1) ca cb ((w.alloc (.cells ca 29)).alloc (.cells cb 29)) from by
    have h1 : Below (w.alloc (.cells ca 29)).heap.size (w.alloc (.cells ca 29)) ((w.alloc (.cells ca 29)).alloc (.cells cb 29)) := (Below.refl _ _).alloc (Nat.le_refl _) _
    have h0 : Below w.heap.size w (w.alloc (.cells ca 29)) := (Below.refl _ _).alloc (Nat.le_refl _) _
    refine ⟨keepB h1 h0, (StAt.new w ca).keep h1, ?_⟩
    have h := StAt.new (w.alloc (.cells ca 29)) cb
    simpa using h)
  obtain ⟨w1, hw1⟩ : ∃ w1, w1 = (w.alloc (.cells ca 29)).alloc (.cells cb 29) := ⟨_, rfl⟩
  obtain ⟨gb, hgb⟩ : ∃ gb, gb = w.heap.size + 1 := ⟨_, rfl⟩
  rw [← hw1, ← hgb] at HT
  rw [← hw1, ← hgb]
  clear hw1 hgb
  go_wp2_with fail
  refine (canAlive S w1 HT.out.b).mono ?_
  rintro e w2 ⟨rfl, hb2⟩
  have HT2 := Lib.hid (HT.out.keep hb2)
  have hsa := HT2.out.sa
  clear HT hb2
  go_wp2_with (refine load_wantS (by rfl) (.tmp 2) rfl w.heap.size rfl ca hsa hca ?_)
  have hl := long_any a _ La ca 60 w2 w2.heap.size (HA.out.grow HT2.out.b) (by omega)
  rw [show ((60 : Nat) : Int) = 60 from rfl] at hl
  refine hl.mono ?_
  clear hl hsa
  rintro e w3 ⟨rfl, hb3⟩
  have HT3 := Lib.hid (HT2.out.keep hb3)
  clear HT2 hb3
  by_cases hlg : longS a 60 = true
  · have hbw := HT3.out.b
    rw [hlg]
    go_wp2_with fail
    go_ret
    exact ⟨rfl, hbw⟩
  replace hlg : longS a 60 = false := by simpa using hlg
  obtain ⟨hna, hla⟩ := long_not (most := 60) hlg
  rw [hlg]
  clear hlg
  have hsb := HT3.out.sb
  go_wp2_with (refine load_wantS (by rfl) (.tmp 3) rfl gb rfl cb hsb hcb ?_)
  have hl := long_any b _ Lb cb 60 w3 w3.heap.size (HB.out.grow HT3.out.b) (by omega)
  rw [show ((60 : Nat) : Int) = 60 from rfl] at hl
  refine hl.mono ?_
  clear hl hsb
  rintro e w4 ⟨rfl, hb4⟩
  have HT4 := Lib.hid (HT3.out.keep hb4)
  clear HT3 hb4
  by_cases hlg : longS b 60 = true
  · have hbw := HT4.out.b
    rw [hlg]
    go_wp2_with fail
    go_ret
    exact ⟨rfl, hbw⟩
  replace hlg : longS b 60 = false := by simpa using hlg
  obtain ⟨hnb, hlb⟩ := long_not (most := 60) hlg
  rw [hlg]
  clear hlg
  have hna6 : a.objs.length ≤ 1000000 := by omega
  have hla6 : ∀ z < 11, (a.lists z).length ≤ 1000000 := fun z hz => by have := hla z hz; omega
  have hnb6 : b.objs.length ≤ 1000000 := by omega
  have hlb6 : ∀ z < 11, (b.lists z).length ≤ 1000000 := fun z hz => by have := hlb z hz; omega
  clear hla hlb hna hnb
  have hsa := HT4.out.sa
  go_wp2_with (refine load_wantS (by rfl) (.tmp 2) rfl w.heap.size rfl ca hsa hca ?_)
  refine (S.bytes a _ La ca w4 (HA.out.grow HT4.out.b) hna6 hla6 HT4.out.b).mono ?_
  rintro e w5 ⟨A5, n5, c5, rfl, hN5, hc5, hb5⟩
  have HT5 := Lib.hid (HT4.out.keep hb5)
  have HN5 := Lib.hid hN5
  clear HT4 hb5 hsa hN5
  have hsb := HT5.out.sb
  go_wp2_with (refine load_wantS (by rfl) (.tmp 3) rfl gb rfl cb hsb hcb ?_)
  refine (S.bytes b _ Lb cb w5 (HB.out.grow HT5.out.b) hnb6 hlb6 HT5.out.b).mono ?_
  rintro e w8 ⟨A8, n8, c8, rfl, hN8, hc8, hb8⟩
  have HT8 := Lib.hid (HT5.out.keep hb8)
  have HN8 := Lib.hid hN8
  have HN58 := Lib.hid ((HN5.out.below hb8).more hb8.size)
  have hbw8 := HT8.out.b
  have hs2 := HT8.out.sa
  have hs3 := HT8.out.sb
  have HS2 := Lib.hid hs2
  have HS3 := Lib.hid hs3
  clear HT5 hb8 hsb hN8 HN5
  have HC1 := Lib.hid (fun W (hW : Below w8.heap.size w8 W) => st_checkRef_any a _ La ca W W.heap.size (HA.out.grow (keepB hW hbw8)) (Nat.le_refl _) hna6 hla6)
  have HC2 := Lib.hid (fun W (hW : Below w8.heap.size w8 W) => st_checkRef_any b _ Lb cb W W.heap.size (HB.out.grow (keepB hW hbw8)) (Nat.le_refl _) hnb6 hlb6)
  obtain ⟨q1, hq1⟩ : ∃ q, q = chkS a := ⟨_, rfl⟩
  obtain ⟨q2, hq2⟩ : ∃ q, q = chkS b := ⟨_, rfl⟩
  have HQ := Lib.hid (show q1 = chkS a ∧ q2 = chkS b from ⟨hq1, hq2⟩)
  rw [← hq1] at HC1 HN58 ⊢
  rw [← hq2] at HC2 HN8 ⊢
  clear hq1 hq2 hs2 hs3
  by_cases h1 : q1 = 0
  · by_cases h2 : q2 = 0
    · subst h1 h2
      rw [errV_nil]
      rw [if_pos rfl] at HN58 HN8
      have hIa := I64S.of HA.out
      have hIb := I64S.of HB.out
      have hba := bytes_byB HQ.out.1.symm hIa.o hIa.l hIa.p hIa.g
      have hbb := bytes_byB HQ.out.2.symm hIb.o hIb.l hIb.p hIb.g
      have hap := bytes_apart HQ.out.1.symm HQ.out.2.symm hIa hIb
      have HBy := Lib.hid (fun W (hW : Below w8.heap.size w8 W) => numBytes_any A5 A8 n5 c5 n8 c8 _ _ W _ _ (HN58.out.below hW) (HN8.out.below hW) hba hbb)
      have HSt := Lib.hid (fun W (hW : Below w8.heap.size w8 W) => states_any a b _ _ La Lb ca cb W (HA.out.grow (keepB hW hbw8)) (HB.out.grow (keepB hW hbw8)) hna6 hnb6 hla6 hlb6)
      rw [hap] at HBy
      obtain ⟨u, hu⟩ : ∃ u, u = sameS a b := ⟨_, rfl⟩
      rw [← hu] at HBy HSt
      have huu : (u == u) = true := by simp
      clear hu hap hba hbb hIa hIb
      go_upto_region 9 with fail
      refine region_below (by kernel_rfl) (fun hHeld => ?_)
      refine wpAnyH_take (i := 0) (v := ?_) rfl (by kernel_rfl) (by kernel_rfl) (by kernel_rfl) (fun _ _ _ h => h) (Or.inl ⟨by rfl, ?_⟩) hHeld ?_
      rotate_left
      · (intro w hSw; go_simp; (try with_reducible rfl))
      simp only [Act.put, List.getElem_toArray, List.getElem_cons_zero, List.getElem_cons_succ, List.setIfInBounds_toArray, List.set_cons_zero, List.set_cons_succ]
      refine wpAnyH_take (i := 1) (v := ?_) rfl (by kernel_rfl) (by kernel_rfl) (by kernel_rfl) (fun _ _ _ h => h) (Or.inl ⟨by rfl, ?_⟩) hHeld ?_
      rotate_left
      · (intro w hSw; go_simp; (try with_reducible rfl))
      simp only [Act.put, List.getElem_toArray, List.getElem_cons_zero, List.getElem_cons_succ, List.setIfInBounds_toArray, List.set_cons_zero, List.set_cons_succ]
      refine wpAnyH_take (i := 3) (v := .agg ca) rfl (by kernel_rfl) (by kernel_rfl) (by kernel_rfl) (fun _ _ _ h => h) (yields_st (by rfl) (.tmp 2) rfl w.heap.size rfl ca hca (fun W hW => (HS2.out).keep hW)) hHeld ?_
      simp only [Act.put, List.getElem_toArray, List.getElem_cons_zero, List.getElem_cons_succ, List.setIfInBounds_toArray, List.set_cons_zero, List.set_cons_succ]
      refine wpAnyH_take (i := 4) (v := .agg cb) rfl (by kernel_rfl) (by kernel_rfl) (by kernel_rfl) (fun _ _ _ h => h) (yields_st (by rfl) (.tmp 3) rfl gb rfl cb hcb (fun W hW => (HS3.out).keep hW)) hHeld ?_
      simp only [Act.put, List.getElem_toArray, List.getElem_cons_zero, List.getElem_cons_succ, List.setIfInBounds_toArray, List.set_cons_zero, List.set_cons_succ]
      refine wpAnyH_ready (rs := [2]) (by kernel_rfl) (by simp) ?_
      refine AllReadyH.cons rfl (fun K hK => ?_) AllReadyH.nil
      simp only [List.getElem_toArray, List.getElem_cons_zero, List.getElem_cons_succ]
      go_simp
      refine (HBy.out _ hHeld).mono ?_
      rintro e w9 ⟨rfl, rfl⟩
      go_wp2_with fail
      have hB9 := keepB (Below.refl _ _) hHeld
      refine hK.out _ _ hB9 (fun _ => ?_)
      clear hK K
      try simp only [Act.put, List.setIfInBounds_toArray, List.set_cons_zero, List.set_cons_succ]
      refine anyH_rebase hB9 (fun hHeld => ?_)
      refine wpAnyH_ready (rs := [5]) (by kernel_rfl) (by simp) ?_
      refine AllReadyH.cons rfl (fun K hK => ?_) AllReadyH.nil
      simp only [List.getElem_toArray, List.getElem_cons_zero, List.getElem_cons_succ]
      go_simp
      refine (HSt.out _ (keepB hHeld hB9)).mono ?_
      rintro e w10 ⟨rfl, hb10⟩
      go_wp2_with fail
      have hB10 := keepB hb10 hHeld
      refine hK.out _ _ hB10 (fun _ => ?_)
      clear hK K
      try simp only [Act.put, List.setIfInBounds_toArray, List.set_cons_zero, List.set_cons_succ]
      refine anyH_rebase hB10 (fun hHeld => ?_)
      refine wpAnyH_take (i := 6) (v := ?_) rfl (by kernel_rfl) (by kernel_rfl) (by kernel_rfl) (fun _ _ _ h => h) (Or.inl ⟨by rfl, ?_⟩) hHeld ?_
      rotate_left
      · (intro w hSw; go_simp; (try with_reducible rfl))
      simp only [Act.put, List.getElem_toArray, List.getElem_cons_zero, List.getElem_cons_succ, List.setIfInBounds_toArray, List.set_cons_zero, List.set_cons_succ]
      refine wpAnyH_take (i := 7) (v := ?_) rfl (by kernel_rfl) (by kernel_rfl) (by kernel_rfl) (fun _ _ _ h => h) (Or.inl ⟨by rfl, ?_⟩) hHeld ?_
      rotate_left
      · (intro w hSw; go_simp; (try with_reducible rfl))
      simp only [Act.put, List.getElem_toArray, List.getElem_cons_zero, List.getElem_cons_succ, List.setIfInBounds_toArray, List.set_cons_zero, List.set_cons_succ]
      refine wpAnyH_done (by kernel_rfl) ?_ _
      go_wp2_with fail
      go_ret
      exact ⟨rfl, keepB (keepB hB10 hB9) hbw8⟩
    · subst h1
      rw [errV_nil, errV_err h2]
      have d1 : ((0 : Int) == 0) = true := by simp
      have d2 : (q2 == 0) = false := by simpa using h2
      clear h2
      go_upto_region 8 with fail
      refine region_below (by kernel_rfl) (fun hHeld => ?_)
      refine wpAnyH_take (i := 0) (v := ?_) rfl (by kernel_rfl) (by kernel_rfl) (by kernel_rfl) (fun _ _ _ h => h) (Or.inl ⟨by rfl, ?_⟩) hHeld ?_
      rotate_left
      · (intro w hSw; go_simp; (try with_reducible rfl))
      simp only [Act.put, List.getElem_toArray, List.getElem_cons_zero, List.getElem_cons_succ, List.setIfInBounds_toArray, List.set_cons_zero, List.set_cons_succ]
      refine wpAnyH_take (i := 1) (v := ?_) rfl (by kernel_rfl) (by kernel_rfl) (by kernel_rfl) (fun _ _ _ h => h) (Or.inl ⟨by rfl, ?_⟩) hHeld ?_
      rotate_left
      · (intro w hSw; go_simp; (try with_reducible rfl))
      simp only [Act.put, List.getElem_toArray, List.getElem_cons_zero, List.getElem_cons_succ, List.setIfInBounds_toArray, List.set_cons_zero, List.set_cons_succ]
      refine wpAnyH_take (i := 2) (v := .agg ca) rfl (by kernel_rfl) (by kernel_rfl) (by kernel_rfl) (fun _ _ _ h => h) (yields_st (by rfl) (.tmp 2) rfl w.heap.size rfl ca hca (fun W hW => (HS2.out).keep hW)) hHeld ?_
      simp only [Act.put, List.getElem_toArray, List.getElem_cons_zero, List.getElem_cons_succ, List.setIfInBounds_toArray, List.set_cons_zero, List.set_cons_succ]
      refine wpAnyH_ready (rs := [3]) (by kernel_rfl) (by simp) ?_
      refine AllReadyH.cons rfl (fun K hK => ?_) AllReadyH.nil
      simp only [List.getElem_toArray, List.getElem_cons_zero, List.getElem_cons_succ]
      go_simp
      refine (HC1.out _ hHeld).mono ?_
      rintro e w9 ⟨rfl, hb9⟩
      go_wp2_with fail
      have hB9 := keepB hb9 hHeld
      refine hK.out _ _ hB9 (fun _ => ?_)
      clear hK K
      try simp only [Act.put, List.setIfInBounds_toArray, List.set_cons_zero, List.set_cons_succ]
      refine anyH_rebase hB9 (fun hHeld => ?_)
      have HS39 := Lib.hid (HS3.out.keep hB9)
      refine wpAnyH_take (i := 4) (v := ?_) rfl (by kernel_rfl) (by kernel_rfl) (by kernel_rfl) (fun _ _ _ h => h) (Or.inl ⟨by rfl, ?_⟩) hHeld ?_
      rotate_left
      · (intro w hSw; go_simp; (try with_reducible rfl))
      simp only [Act.put, List.getElem_toArray, List.getElem_cons_zero, List.getElem_cons_succ, List.setIfInBounds_toArray, List.set_cons_zero, List.set_cons_succ]
      refine wpAnyH_take (i := 5) (v := ?_) rfl (by kernel_rfl) (by kernel_rfl) (by kernel_rfl) (fun _ _ _ h => h) (Or.inl ⟨by rfl, ?_⟩) hHeld ?_
      rotate_left
      · (intro w hSw; go_simp; (try with_reducible rfl))
      simp only [Act.put, List.getElem_toArray, List.getElem_cons_zero, List.getElem_cons_succ, List.setIfInBounds_toArray, List.set_cons_zero, List.set_cons_succ]
      refine wpAnyH_take (i := 6) (v := ?_) rfl (by kernel_rfl) (by kernel_rfl) (by kernel_rfl) (fun _ _ _ h => h) (Or.inl ⟨by rfl, ?_⟩) hHeld ?_
      rotate_left
      · (intro w hSw; go_simp; (try with_reducible rfl))
      simp only [Act.put, List.getElem_toArray, List.getElem_cons_zero, List.getElem_cons_succ, List.setIfInBounds_toArray, List.set_cons_zero, List.set_cons_succ]
      refine wpAnyH_take (i := 7) (v := ?_) rfl (by kernel_rfl) (by kernel_rfl) (by kernel_rfl) (fun _ _ _ h => h) (Or.inl ⟨by rfl, ?_⟩) hHeld ?_
      rotate_left
      · (intro w hSw; go_simp; (try with_reducible rfl))
      simp only [Act.put, List.getElem_toArray, List.getElem_cons_zero, List.getElem_cons_succ, List.setIfInBounds_toArray, List.set_cons_zero, List.set_cons_succ]
      refine wpAnyH_take (i := 8) (v := ?_) rfl (by kernel_rfl) (by kernel_rfl) (by kernel_rfl) (fun _ _ _ h => h) (Or.inl ⟨by rfl, ?_⟩) hHeld ?_
      rotate_left
      · (intro w hSw; go_simp; (try with_reducible rfl))
      simp only [Act.put, List.getElem_toArray, List.getElem_cons_zero, List.getElem_cons_succ, List.setIfInBounds_toArray, List.set_cons_zero, List.set_cons_succ]
      refine wpAnyH_take (i := 9) (v := .agg cb) rfl (by kernel_rfl) (by kernel_rfl) (by kernel_rfl) (fun _ _ _ h => h) (yields_st (by rfl) (.tmp 3) rfl gb rfl cb hcb (fun W hW => (HS39.out).keep hW)) hHeld ?_
      simp only [Act.put, List.getElem_toArray, List.getElem_cons_zero, List.getElem_cons_succ, List.setIfInBounds_toArray, List.set_cons_zero, List.set_cons_succ]
      refine wpAnyH_ready (rs := [10]) (by kernel_rfl) (by simp) ?_
      refine AllReadyH.cons rfl (fun K hK => ?_) AllReadyH.nil
      simp only [List.getElem_toArray, List.getElem_cons_zero, List.getElem_cons_succ]
      go_simp
      refine (HC2.out _ (keepB hHeld hB9)).mono ?_
      rintro e w10 ⟨rfl, hb10⟩
      go_wp2_with fail
      have hB10 := keepB hb10 hHeld
      refine hK.out _ _ hB10 (fun _ => ?_)
      clear hK K
      try simp only [Act.put, List.setIfInBounds_toArray, List.set_cons_zero, List.set_cons_succ]
      refine anyH_rebase hB10 (fun hHeld => ?_)
      refine wpAnyH_take (i := 11) (v := ?_) rfl (by kernel_rfl) (by kernel_rfl) (by kernel_rfl) (fun _ _ _ h => h) (Or.inl ⟨by rfl, ?_⟩) hHeld ?_
      rotate_left
      · (intro w hSw; go_simp; (try with_reducible rfl))
      simp only [Act.put, List.getElem_toArray, List.getElem_cons_zero, List.getElem_cons_succ, List.setIfInBounds_toArray, List.set_cons_zero, List.set_cons_succ]
      refine wpAnyH_take (i := 12) (v := ?_) rfl (by kernel_rfl) (by kernel_rfl) (by kernel_rfl) (fun _ _ _ h => h) (Or.inl ⟨by rfl, ?_⟩) hHeld ?_
      rotate_left
      · (intro w hSw; go_simp; (try with_reducible rfl))
      simp only [Act.put, List.getElem_toArray, List.getElem_cons_zero, List.getElem_cons_succ, List.setIfInBounds_toArray, List.set_cons_zero, List.set_cons_succ]
      refine wpAnyH_take (i := 13) (v := ?_) rfl (by kernel_rfl) (by kernel_rfl) (by kernel_rfl) (fun _ _ _ h => h) (Or.inl ⟨by rfl, ?_⟩) hHeld ?_
      rotate_left
      · (intro w hSw; go_simp; (try with_reducible rfl))
      simp only [Act.put, List.getElem_toArray, List.getElem_cons_zero, List.getElem_cons_succ, List.setIfInBounds_toArray, List.set_cons_zero, List.set_cons_succ]
      refine wpAnyH_take (i := 14) (v := ?_) rfl (by kernel_rfl) (by kernel_rfl) (by kernel_rfl) (fun _ _ _ h => h) (Or.inl ⟨by rfl, ?_⟩) hHeld ?_
      rotate_left
      · (intro w hSw; go_simp; (try with_reducible rfl))
      simp only [Act.put, List.getElem_toArray, List.getElem_cons_zero, List.getElem_cons_succ, List.setIfInBounds_toArray, List.set_cons_zero, List.set_cons_succ]
      refine wpAnyH_done (by kernel_rfl) ?_ _
      go_wp2_with fail
      go_ret
      exact ⟨rfl, keepB (keepB hB10 hB9) hbw8⟩
  · by_cases h2 : q2 = 0
    · subst h2
      rw [errV_nil, errV_err h1]
      have d2 : (q1 == 0) = false := by simpa using h1
      clear h1
      go_upto_region 8 with fail
      refine region_below (by kernel_rfl) (fun hHeld => ?_)
      refine wpAnyH_take (i := 0) (v := ?_) rfl (by kernel_rfl) (by kernel_rfl) (by kernel_rfl) (fun _ _ _ h => h) (Or.inl ⟨by rfl, ?_⟩) hHeld ?_
      rotate_left
      · (intro w hSw; go_simp; (try with_reducible rfl))
      simp only [Act.put, List.getElem_toArray, List.getElem_cons_zero, List.getElem_cons_succ, List.setIfInBounds_toArray, List.set_cons_zero, List.set_cons_succ]
      refine wpAnyH_take (i := 1) (v := ?_) rfl (by kernel_rfl) (by kernel_rfl) (by kernel_rfl) (fun _ _ _ h => h) (Or.inl ⟨by rfl, ?_⟩) hHeld ?_
      rotate_left
      · (intro w hSw; go_simp; (try with_reducible rfl))
      simp only [Act.put, List.getElem_toArray, List.getElem_cons_zero, List.getElem_cons_succ, List.setIfInBounds_toArray, List.set_cons_zero, List.set_cons_succ]
      refine wpAnyH_take (i := 2) (v := .agg ca) rfl (by kernel_rfl) (by kernel_rfl) (by kernel_rfl) (fun _ _ _ h => h) (yields_st (by rfl) (.tmp 2) rfl w.heap.size rfl ca hca (fun W hW => (HS2.out).keep hW)) hHeld ?_
      simp only [Act.put, List.getElem_toArray, List.getElem_cons_zero, List.getElem_cons_succ, List.setIfInBounds_toArray, List.set_cons_zero, List.set_cons_succ]
      refine wpAnyH_ready (rs := [3]) (by kernel_rfl) (by simp) ?_
      refine AllReadyH.cons rfl (fun K hK => ?_) AllReadyH.nil
      simp only [List.getElem_toArray, List.getElem_cons_zero, List.getElem_cons_succ]
      go_simp
      refine (HC1.out _ hHeld).mono ?_
      rintro e w9 ⟨rfl, hb9⟩
      go_wp2_with fail
      have hB9 := keepB hb9 hHeld
      refine hK.out _ _ hB9 (fun _ => ?_)
      clear hK K
      try simp only [Act.put, List.setIfInBounds_toArray, List.set_cons_zero, List.set_cons_succ]
      refine anyH_rebase hB9 (fun hHeld => ?_)
      have HS39 := Lib.hid (HS3.out.keep hB9)
      refine wpAnyH_take (i := 4) (v := ?_) rfl (by kernel_rfl) (by kernel_rfl) (by kernel_rfl) (fun _ _ _ h => h) (Or.inl ⟨by rfl, ?_⟩) hHeld ?_
      rotate_left
      · (intro w hSw; go_simp; (try with_reducible rfl))
      simp only [Act.put, List.getElem_toArray, List.getElem_cons_zero, List.getElem_cons_succ, List.setIfInBounds_toArray, List.set_cons_zero, List.set_cons_succ]
      refine wpAnyH_take (i := 5) (v := ?_) rfl (by kernel_rfl) (by kernel_rfl) (by kernel_rfl) (fun _ _ _ h => h) (Or.inl ⟨by rfl, ?_⟩) hHeld ?_
      rotate_left
      · (intro w hSw; go_simp; (try with_reducible rfl))
      simp only [Act.put, List.getElem_toArray, List.getElem_cons_zero, List.getElem_cons_succ, List.setIfInBounds_toArray, List.set_cons_zero, List.set_cons_succ]
      refine wpAnyH_take (i := 6) (v := ?_) rfl (by kernel_rfl) (by kernel_rfl) (by kernel_rfl) (fun _ _ _ h => h) (Or.inl ⟨by rfl, ?_⟩) hHeld ?_
      rotate_left
      · (intro w hSw; go_simp; (try with_reducible rfl))
      simp only [Act.put, List.getElem_toArray, List.getElem_cons_zero, List.getElem_cons_succ, List.setIfInBounds_toArray, List.set_cons_zero, List.set_cons_succ]
      refine wpAnyH_take (i := 7) (v := ?_) rfl (by kernel_rfl) (by kernel_rfl) (by kernel_rfl) (fun _ _ _ h => h) (Or.inl ⟨by rfl, ?_⟩) hHeld ?_
      rotate_left
      · (intro w hSw; go_simp; (try with_reducible rfl))
      simp only [Act.put, List.getElem_toArray, List.getElem_cons_zero, List.getElem_cons_succ, List.setIfInBounds_toArray, List.set_cons_zero, List.set_cons_succ]
      refine wpAnyH_take (i := 8) (v := ?_) rfl (by kernel_rfl) (by kernel_rfl) (by kernel_rfl) (fun _ _ _ h => h) (Or.inl ⟨by rfl, ?_⟩) hHeld ?_
      rotate_left
      · (intro w hSw; go_simp; (try with_reducible rfl))
      simp only [Act.put, List.getElem_toArray, List.getElem_cons_zero, List.getElem_cons_succ, List.setIfInBounds_toArray, List.set_cons_zero, List.set_cons_succ]
      refine wpAnyH_take (i := 9) (v := .agg cb) rfl (by kernel_rfl) (by kernel_rfl) (by kernel_rfl) (fun _ _ _ h => h) (yields_st (by rfl) (.tmp 3) rfl gb rfl cb hcb (fun W hW => (HS39.out).keep hW)) hHeld ?_
      simp only [Act.put, List.getElem_toArray, List.getElem_cons_zero, List.getElem_cons_succ, List.setIfInBounds_toArray, List.set_cons_zero, List.set_cons_succ]
      refine wpAnyH_ready (rs := [10]) (by kernel_rfl) (by simp) ?_
      refine AllReadyH.cons rfl (fun K hK => ?_) AllReadyH.nil
      simp only [List.getElem_toArray, List.getElem_cons_zero, List.getElem_cons_succ]
      go_simp
      refine (HC2.out _ (keepB hHeld hB9)).mono ?_
      rintro e w10 ⟨rfl, hb10⟩
      go_wp2_with fail
      have hB10 := keepB hb10 hHeld
      refine hK.out _ _ hB10 (fun _ => ?_)
      clear hK K
      try simp only [Act.put, List.setIfInBounds_toArray, List.set_cons_zero, List.set_cons_succ]
      refine anyH_rebase hB10 (fun hHeld => ?_)
      refine wpAnyH_take (i := 11) (v := ?_) rfl (by kernel_rfl) (by kernel_rfl) (by kernel_rfl) (fun _ _ _ h => h) (Or.inl ⟨by rfl, ?_⟩) hHeld ?_
      rotate_left
      · (intro w hSw; go_simp; (try with_reducible rfl))
      simp only [Act.put, List.getElem_toArray, List.getElem_cons_zero, List.getElem_cons_succ, List.setIfInBounds_toArray, List.set_cons_zero, List.set_cons_succ]
      refine wpAnyH_take (i := 12) (v := ?_) rfl (by kernel_rfl) (by kernel_rfl) (by kernel_rfl) (fun _ _ _ h => h) (Or.inl ⟨by rfl, ?_⟩) hHeld ?_
      rotate_left
      · (intro w hSw; go_simp; (try with_reducible rfl))
      simp only [Act.put, List.getElem_toArray, List.getElem_cons_zero, List.getElem_cons_succ, List.setIfInBounds_toArray, List.set_cons_zero, List.set_cons_succ]
      refine wpAnyH_take (i := 13) (v := ?_) rfl (by kernel_rfl) (by kernel_rfl) (by kernel_rfl) (fun _ _ _ h => h) (Or.inl ⟨by rfl, ?_⟩) hHeld ?_
      rotate_left
      · (intro w hSw; go_simp; (try with_reducible rfl))
      simp only [Act.put, List.getElem_toArray, List.getElem_cons_zero, List.getElem_cons_succ, List.setIfInBounds_toArray, List.set_cons_zero, List.set_cons_succ]
      refine wpAnyH_take (i := 14) (v := ?_) rfl (by kernel_rfl) (by kernel_rfl) (by kernel_rfl) (fun _ _ _ h => h) (Or.inl ⟨by rfl, ?_⟩) hHeld ?_
      rotate_left
      · (intro w hSw; go_simp; (try with_reducible rfl))
      simp only [Act.put, List.getElem_toArray, List.getElem_cons_zero, List.getElem_cons_succ, List.setIfInBounds_toArray, List.set_cons_zero, List.set_cons_succ]
      refine wpAnyH_done (by kernel_rfl) ?_ _
      go_wp2_with fail
      go_ret
      exact ⟨rfl, keepB (keepB hB10 hB9) hbw8⟩
    · rw [errV_err h1, errV_err h2]
      have d1 : (q1 == 0) = false := by simpa using h1
      have d2 : (q2 == 0) = false := by simpa using h2
      clear h1 h2
      go_upto_region 8 with fail
      refine region_below (by kernel_rfl) (fun hHeld => ?_)
      refine wpAnyH_take (i := 0) (v := ?_) rfl (by kernel_rfl) (by kernel_rfl) (by kernel_rfl) (fun _ _ _ h => h) (Or.inl ⟨by rfl, ?_⟩) hHeld ?_
      rotate_left
      · (intro w hSw; go_simp; (try with_reducible rfl))
      simp only [Act.put, List.getElem_toArray, List.getElem_cons_zero, List.getElem_cons_succ, List.setIfInBounds_toArray, List.set_cons_zero, List.set_cons_succ]
      refine wpAnyH_take (i := 1) (v := ?_) rfl (by kernel_rfl) (by kernel_rfl) (by kernel_rfl) (fun _ _ _ h => h) (Or.inl ⟨by rfl, ?_⟩) hHeld ?_
      rotate_left
      · (intro w hSw; go_simp; (try with_reducible rfl))
      simp only [Act.put, List.getElem_toArray, List.getElem_cons_zero, List.getElem_cons_succ, List.setIfInBounds_toArray, List.set_cons_zero, List.set_cons_succ]
      refine wpAnyH_take (i := 2) (v := .agg ca) rfl (by kernel_rfl) (by kernel_rfl) (by kernel_rfl) (fun _ _ _ h => h) (yields_st (by rfl) (.tmp 2) rfl w.heap.size rfl ca hca (fun W hW => (HS2.out).keep hW)) hHeld ?_
      simp only [Act.put, List.getElem_toArray, List.getElem_cons_zero, List.getElem_cons_succ, List.setIfInBounds_toArray, List.set_cons_zero, List.set_cons_succ]
      refine wpAnyH_ready (rs := [3]) (by kernel_rfl) (by simp) ?_
      refine AllReadyH.cons rfl (fun K hK => ?_) AllReadyH.nil
      simp only [List.getElem_toArray, List.getElem_cons_zero, List.getElem_cons_succ]
      go_simp
      refine (HC1.out _ hHeld).mono ?_
      rintro e w9 ⟨rfl, hb9⟩
      go_wp2_with fail
      have hB9 := keepB hb9 hHeld
      refine hK.out _ _ hB9 (fun _ => ?_)
      clear hK K
      try simp only [Act.put, List.setIfInBounds_toArray, List.set_cons_zero, List.set_cons_succ]
      refine anyH_rebase hB9 (fun hHeld => ?_)
      have HS39 := Lib.hid (HS3.out.keep hB9)
      refine wpAnyH_take (i := 4) (v := ?_) rfl (by kernel_rfl) (by kernel_rfl) (by kernel_rfl) (fun _ _ _ h => h) (Or.inl ⟨by rfl, ?_⟩) hHeld ?_
      rotate_left
      · (intro w hSw; go_simp; (try with_reducible rfl))
      simp only [Act.put, List.getElem_toArray, List.getElem_cons_zero, List.getElem_cons_succ, List.setIfInBounds_toArray, List.set_cons_zero, List.set_cons_succ]
      refine wpAnyH_take (i := 5) (v := ?_) rfl (by kernel_rfl) (by kernel_rfl) (by kernel_rfl) (fun _ _ _ h => h) (Or.inl ⟨by rfl, ?_⟩) hHeld ?_
      rotate_left
      · (intro w hSw; go_simp; (try with_reducible rfl))
      simp only [Act.put, List.getElem_toArray, List.getElem_cons_zero, List.getElem_cons_succ, List.setIfInBounds_toArray, List.set_cons_zero, List.set_cons_succ]
      refine wpAnyH_take (i := 6) (v := ?_) rfl (by kernel_rfl) (by kernel_rfl) (by kernel_rfl) (fun _ _ _ h => h) (Or.inl ⟨by rfl, ?_⟩) hHeld ?_
      rotate_left
      · (intro w hSw; go_simp; (try with_reducible rfl))
      simp only [Act.put, List.getElem_toArray, List.getElem_cons_zero, List.getElem_cons_succ, List.setIfInBounds_toArray, List.set_cons_zero, List.set_cons_succ]
      refine wpAnyH_take (i := 7) (v := ?_) rfl (by kernel_rfl) (by kernel_rfl) (by kernel_rfl) (fun _ _ _ h => h) (Or.inl ⟨by rfl, ?_⟩) hHeld ?_
      rotate_left
      · (intro w hSw; go_simp; (try with_reducible rfl))
      simp only [Act.put, List.getElem_toArray, List.getElem_cons_zero, List.getElem_cons_succ, List.setIfInBounds_toArray, List.set_cons_zero, List.set_cons_succ]
      refine wpAnyH_take (i := 8) (v := ?_) rfl (by kernel_rfl) (by kernel_rfl) (by kernel_rfl) (fun _ _ _ h => h) (Or.inl ⟨by rfl, ?_⟩) hHeld ?_
      rotate_left
      · (intro w hSw; go_simp; (try with_reducible rfl))
      simp only [Act.put, List.getElem_toArray, List.getElem_cons_zero, List.getElem_cons_succ, List.setIfInBounds_toArray, List.set_cons_zero, List.set_cons_succ]
      refine wpAnyH_take (i := 9) (v := .agg cb) rfl (by kernel_rfl) (by kernel_rfl) (by kernel_rfl) (fun _ _ _ h => h) (yields_st (by rfl) (.tmp 3) rfl gb rfl cb hcb (fun W hW => (HS39.out).keep hW)) hHeld ?_
      simp only [Act.put, List.getElem_toArray, List.getElem_cons_zero, List.getElem_cons_succ, List.setIfInBounds_toArray, List.set_cons_zero, List.set_cons_succ]
      refine wpAnyH_ready (rs := [10]) (by kernel_rfl) (by simp) ?_
      refine AllReadyH.cons rfl (fun K hK => ?_) AllReadyH.nil
      simp only [List.getElem_toArray, List.getElem_cons_zero, List.getElem_cons_succ]
      go_simp
      refine (HC2.out _ (keepB hHeld hB9)).mono ?_
      rintro e w10 ⟨rfl, hb10⟩
      go_wp2_with fail
      have hB10 := keepB hb10 hHeld
      refine hK.out _ _ hB10 (fun _ => ?_)
      clear hK K
      try simp only [Act.put, List.setIfInBounds_toArray, List.set_cons_zero, List.set_cons_succ]
      refine anyH_rebase hB10 (fun hHeld => ?_)
      refine wpAnyH_take (i := 11) (v := ?_) rfl (by kernel_rfl) (by kernel_rfl) (by kernel_rfl) (fun _ _ _ h => h) (Or.inl ⟨by rfl, ?_⟩) hHeld ?_
      rotate_left
      · (intro w hSw; go_simp; (try with_reducible rfl))
      simp only [Act.put, List.getElem_toArray, List.getElem_cons_zero, List.getElem_cons_succ, List.setIfInBounds_toArray, List.set_cons_zero, List.set_cons_succ]
      refine wpAnyH_take (i := 12) (v := ?_) rfl (by kernel_rfl) (by kernel_rfl) (by kernel_rfl) (fun _ _ _ h => h) (Or.inl ⟨by rfl, ?_⟩) hHeld ?_
      rotate_left
      · (intro w hSw; go_simp; (try with_reducible rfl))
      simp only [Act.put, List.getElem_toArray, List.getElem_cons_zero, List.getElem_cons_succ, List.setIfInBounds_toArray, List.set_cons_zero, List.set_cons_succ]
      refine wpAnyH_take (i := 13) (v := ?_) rfl (by kernel_rfl) (by kernel_rfl) (by kernel_rfl) (fun _ _ _ h => h) (Or.inl ⟨by rfl, ?_⟩) hHeld ?_
      rotate_left
      · (intro w hSw; go_simp; (try with_reducible rfl))
      simp only [Act.put, List.getElem_toArray, List.getElem_cons_zero, List.getElem_cons_succ, List.setIfInBounds_toArray, List.set_cons_zero, List.set_cons_succ]
      refine wpAnyH_take (i := 14) (v := ?_) rfl (by kernel_rfl) (by kernel_rfl) (by kernel_rfl) (fun _ _ _ h => h) (Or.inl ⟨by rfl, ?_⟩) hHeld ?_
      rotate_left
      · (intro w hSw; go_simp; (try with_reducible rfl))
      simp only [Act.put, List.getElem_toArray, List.getElem_cons_zero, List.getElem_cons_succ, List.setIfInBounds_toArray, List.set_cons_zero, List.set_cons_succ]
      refine wpAnyH_done (by kernel_rfl) ?_ _
      go_wp2_with fail
      go_ret
      exact ⟨rfl, keepB (keepB hB10 hB9) hbw8⟩
end Go.Proofs.YtihbdbgmijkjmaaDoor
