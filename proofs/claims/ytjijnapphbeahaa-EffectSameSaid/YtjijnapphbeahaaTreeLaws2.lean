/- Layer 6: the laws' walks: EffectSame. -/
import Derived.Test.YtjijnapphbeahaaTreeLaws1
namespace Go.Proofs.Ytjijnapphbeahaa
open Go.RowKit Ex Wx
theorem Own.only {k : IntKind} {e : TypeId} {w w' : World} {base n c B N : Nat} {A : Option Addr} {l : List Int} (h : Own k e w base A n c l) (ho : Only B N w w') (hN : N ≤ base) : Own k e w' base A n c l := by
  refine ⟨h.1, h.2.1, ?_⟩
  rcases h.2.2 with hv | ⟨g, cap, cur, hv, hbs, hg, rest⟩
  · exact .inl hv
  · exact .inr ⟨g, cap, cur, hv, hbs, by rw [ho.block g (Array.getElem?_eq_some_iff.1 hg).1 (.inr (by omega))]; exact hg, rest⟩
set_option linter.unusedSimpArgs false in
set_option maxRecDepth 100000 in
set_option maxHeartbeats 2000000 in
theorem effectSame_walk {w : World} (S : EffSaid w) (d : Nat) (t : ET) (cs : Array Value) (d' : Nat) (t' : ET) (cs' : Array Value) (hr : Reads w.heap.size w d cs t) (hr' : Reads w.heap.size w d' cs' t') :
    Calls Try.prog 5 #[.agg cs, .agg cs'] w fun e w' => e = .returned (.bool true) ∧ Below w.heap.size w w' := by
  have hsx : (Try.prog.info? 24).map (·.size) = some cs.size := by rw [hr.size]; exact size5
  have hsx' : (Try.prog.info? 24).map (·.size) = some cs'.size := by rw [hr'.size]; exact size5
  go_enter Try.func5, Try.ntmps5
  go_upto_region 1 with fail
  obtain ⟨w1, hw1⟩ : ∃ w1, w1 = (w.alloc (.cells cs 24)).alloc (.cells cs' 24) := ⟨_, rfl⟩
  have hE : EvAt w1 w.heap.size cs := by rw [hw1]; exact (EvAt.new w cs).keep ((Below.refl _ _).alloc (Nat.le_refl _) _)
  have hE' : EvAt w1 (w.heap.size + 1) cs' := by
    have h := EvAt.new (w.alloc (.cells cs 24)) cs'
    rw [hw1]; simpa using h
  have hb1 : Below w.heap.size w w1 := by rw [hw1]; exact ((Below.refl _ _).alloc (Nat.le_refl _) _).alloc (by simp) _
  rw [← hw1]
  clear hw1
  go_wp2_with fail
  refine (effAlive S w1 hb1).mono ?_
  rintro e w2 ⟨rfl, hb2⟩
  have hE := hE.keep hb2
  have hE' := hE'.keep hb2
  have hbw2 := keepB hb2 hb1
  go_wp2_with (refine wpList_load_row rfl 24 (.tmp 2) rfl w.heap.size rfl 24 _ (0, 0) _ hE Try.underlying24 rfl hsx ?_)
  refine (large_any d t cs w2 (hr.grow hbw2)).mono ?_
  rintro e w3 ⟨B, hB, rfl, hb3⟩
  have hE := hE.keep hb3
  have hE' := hE'.keep hb3
  have hbw3 := keepB hb3 hbw2
  clear hb1 hb2 hb3 hbw2
  cases B with
  | true =>
    clear hB
    go_wp2_with fail
    go_ret
    exact ⟨rfl, hbw3⟩
  | false =>
    obtain ⟨hs, _⟩ := hB rfl
    clear hB
    go_wp2_with (refine wantEv (by rfl) (.tmp 3) rfl (w.heap.size + 1) rfl cs' hE' hsx' ?_)
    refine (large_any d' t' cs' w3 (hr'.grow hbw3)).mono ?_
    rintro e w4 ⟨B, hB, rfl, hb4⟩
    have hE := hE.keep hb4
    have hE' := hE'.keep hb4
    have hbw4 := keepB hb4 hbw3
    clear hb4 hbw3
    cases B with
    | true =>
      clear hB
      go_wp2_with fail
      go_ret
      exact ⟨rfl, hbw4⟩
    | false =>
      obtain ⟨hs', _⟩ := hB rfl
      clear hB
      go_wp2_with (refine wpList_load_row rfl 24 (.tmp 2) rfl w.heap.size rfl 24 _ (0, 0) _ hE Try.underlying24 rfl hsx ?_)
      refine (S.copy d t cs w4 (hr.grow hbw4) hs hbw4).mono ?_
      rintro e w5 ⟨d2, cs2, rfl, hr2, hap, hb5⟩
      have hE := hE.keep hb5
      have hE' := hE'.keep hb5
      have hbw5 := keepB hb5 hbw4
      have hs45 := hb5.size
      have hws4 := hbw4.size
      have hg4 : w.heap.size + 1 < w4.heap.size := by have h1 := hE'.lt; have := hb5.size; have h2 := hbw4.size; exact Nat.lt_of_lt_of_le (show w.heap.size + 1 < w4.heap.size from ‹EvAt w4 (w.heap.size + 1) cs'›.lt) (Nat.le_refl _)
      clear hb5
      have hsx2 : (Try.prog.info? 24).map (·.size) = some cs2.size := by rw [hr2.size]; exact size5
      have h12 := hr2.one
      have hs2 := hr2.size
      have hnew : (w5.alloc (.cells zeroE 24)).heap[w5.heap.size]? = some (.cells zeroE 24 (0, 0)) := heap_alloc_new _ _
      go_upto_region 6 with (refine wpList_store_row rfl 24 (.tmp 5) (.tmp 16) rfl w5.heap.size _ rfl rfl 24 zeroE hnew hsx2 (by rw [hs2]; rfl) h12 ?_)
      obtain ⟨w6, hw6, hE2, hb6⟩ := ev_box w5 (xs := cs2)
      rw [← hw6]
      clear hw6 hnew
      have hE := hE.keep hb6
      have hE' := hE'.keep hb6
      have hbw6 := keepB hb6 hbw5
      have hr2 := hr2.grow hb6
      have hap := hap.below hb6 (Nat.le_refl _)
      have hs56 := hb6.size
      clear hb6
      go_wp2_with (refine wpList_load_row rfl 24 (.tmp 2) rfl w.heap.size rfl 24 _ (0, 0) _ hE Try.underlying24 rfl hsx ?_)
      refine (bytesRef6_any d t cs w6 (hr.grow hbw6) (by omega)).mono ?_
      rintro e w7 ⟨A7, m7, c7, rfl, hown7, hb7⟩
      have HE := Lib.hid (hE.keep hb7)
      have HE' := Lib.hid (hE'.keep hb7)
      have HE2 := Lib.hid (hE2.keep hb7)
      have hbw7 := keepB hb7 hbw6
      have HR2 := Lib.hid (hr2.grow hb7)
      have HAp := Lib.hid (hap.below hb7 (by omega))
      have HO7 := Lib.hid hown7
      have hs67 := hb7.size
      have HSm := Lib.hid (fun W (hW : Below w7.heap.size w7 W) => S.same d t cs d2 t cs2 W (hr.grow (keepB hW hbw7)) (HR2.out.grow hW) hs hs (keepB hW hbw7))
      have HSn := Lib.hid (fun W (hW : Below w7.heap.size w7 W) => S.same d t cs d' t' cs' W (hr.grow (keepB hW hbw7)) (hr'.grow (keepB hW hbw7)) hs hs' (keepB hW hbw7))
      have HEf := Lib.hid (fun W (hW : Below w7.heap.size w7 W) => effects_any d t t' cs cs' d' W (hr.grow (keepB hW hbw7)) (hr'.grow (keepB hW hbw7)) (by omega))
      rw [sameT_refl] at HSm
      obtain ⟨v, hv⟩ : ∃ v, v = sameT t t' := ⟨_, rfl⟩
      rw [← hv] at HSn HEf
      have HSs := Lib.hid hs
      have HRr := Lib.hid hr
      clear hv hr hr' hs hs' hE hE' hE2 hr2 hap hown7 hb7 hbw4 hbw5 hbw6 hs2 h12
      go_upto_region 7 with fail
      refine region_below (by kernel_rfl) (fun hHeld => ?_)
      refine wpAnyH_take (i := 0) (v := .agg cs) rfl (by kernel_rfl) (by kernel_rfl) (by kernel_rfl) (fun _ _ _ h => h) (yieldsEv (by rfl) (.tmp 2) rfl w.heap.size rfl cs (fun W hW => HE.out.keep hW) hsx) hHeld ?_
      simp only [Act.put, List.getElem_toArray, List.getElem_cons_zero, List.getElem_cons_succ, List.setIfInBounds_toArray, List.set_cons_zero, List.set_cons_succ]
      refine wpAnyH_take (i := 1) (v := .agg cs2) rfl (by kernel_rfl) (by kernel_rfl) (by kernel_rfl) (fun _ _ _ h => h) (yieldsEv (by rfl) (.tmp 5) rfl w5.heap.size rfl cs2 (fun W hW => HE2.out.keep hW) hsx2) hHeld ?_
      simp only [Act.put, List.getElem_toArray, List.getElem_cons_zero, List.getElem_cons_succ, List.setIfInBounds_toArray, List.set_cons_zero, List.set_cons_succ]
      refine wpAnyH_ready (rs := [2]) (by kernel_rfl) (by simp) ?_
      refine AllReadyH.cons rfl (fun K hK => ?_) AllReadyH.nil
      simp only [List.getElem_toArray, List.getElem_cons_zero, List.getElem_cons_succ]
      go_simp
      refine (HSm.out _ hHeld).mono ?_
      rintro e w8 ⟨rfl, hb8⟩
      go_wp2_with fail
      have hB8 := keepB hb8 hHeld
      refine hK.out _ _ hB8 (fun _ => ?_)
      clear hK K
      try simp only [Act.put, List.setIfInBounds_toArray, List.set_cons_zero, List.set_cons_succ]
      refine anyH_rebase hB8 (fun hHeld => ?_)
      have HE8 := Lib.hid (HE.out.keep hB8)
      have HE8' := Lib.hid (HE'.out.keep hB8)
      clear hb8
      refine wpAnyH_take (i := 3) (v := ?_) rfl (by kernel_rfl) (by kernel_rfl) (by kernel_rfl) (fun _ _ _ h => h) (Or.inl ⟨by rfl, ?_⟩) hHeld ?_
      rotate_left
      · (intro w hSw; go_simp; (try with_reducible rfl))
      simp only [Act.put, List.getElem_toArray, List.getElem_cons_zero, List.getElem_cons_succ, List.setIfInBounds_toArray, List.set_cons_zero, List.set_cons_succ]
      refine wpAnyH_take (i := 4) (v := ?_) rfl (by kernel_rfl) (by kernel_rfl) (by kernel_rfl) (fun _ _ _ h => h) (Or.inl ⟨by rfl, ?_⟩) hHeld ?_
      rotate_left
      · (intro w hSw; go_simp; (try with_reducible rfl))
      simp only [Act.put, List.getElem_toArray, List.getElem_cons_zero, List.getElem_cons_succ, List.setIfInBounds_toArray, List.set_cons_zero, List.set_cons_succ]
      refine wpAnyH_take (i := 5) (v := .agg cs) rfl (by kernel_rfl) (by kernel_rfl) (by kernel_rfl) (fun _ _ _ h => h) (yieldsEv (by rfl) (.tmp 2) rfl w.heap.size rfl cs (fun W hW => HE8.out.keep hW) hsx) hHeld ?_
      simp only [Act.put, List.getElem_toArray, List.getElem_cons_zero, List.getElem_cons_succ, List.setIfInBounds_toArray, List.set_cons_zero, List.set_cons_succ]
      refine wpAnyH_take (i := 6) (v := .agg cs') rfl (by kernel_rfl) (by kernel_rfl) (by kernel_rfl) (fun _ _ _ h => h) (yieldsEv (by rfl) (.tmp 3) rfl (w.heap.size + 1) rfl cs' (fun W hW => HE8'.out.keep hW) hsx') hHeld ?_
      simp only [Act.put, List.getElem_toArray, List.getElem_cons_zero, List.getElem_cons_succ, List.setIfInBounds_toArray, List.set_cons_zero, List.set_cons_succ]
      refine wpAnyH_take (i := 8) (v := .agg cs) rfl (by kernel_rfl) (by kernel_rfl) (by kernel_rfl) (fun _ _ _ h => h) (yieldsEv (by rfl) (.tmp 2) rfl w.heap.size rfl cs (fun W hW => HE8.out.keep hW) hsx) hHeld ?_
      simp only [Act.put, List.getElem_toArray, List.getElem_cons_zero, List.getElem_cons_succ, List.setIfInBounds_toArray, List.set_cons_zero, List.set_cons_succ]
      refine wpAnyH_take (i := 9) (v := .agg cs') rfl (by kernel_rfl) (by kernel_rfl) (by kernel_rfl) (fun _ _ _ h => h) (yieldsEv (by rfl) (.tmp 3) rfl (w.heap.size + 1) rfl cs' (fun W hW => HE8'.out.keep hW) hsx') hHeld ?_
      simp only [Act.put, List.getElem_toArray, List.getElem_cons_zero, List.getElem_cons_succ, List.setIfInBounds_toArray, List.set_cons_zero, List.set_cons_succ]
      refine wpAnyH_ready (rs := [7]) (by kernel_rfl) (by simp) ?_
      refine AllReadyH.cons rfl (fun K hK => ?_) AllReadyH.nil
      simp only [List.getElem_toArray, List.getElem_cons_zero, List.getElem_cons_succ]
      go_simp
      refine (HSn.out _ hB8).mono ?_
      rintro e w9 ⟨rfl, hb9⟩
      go_wp2_with fail
      have hB9 := keepB hb9 hHeld
      refine hK.out _ _ hB9 (fun _ => ?_)
      clear hK K
      try simp only [Act.put, List.setIfInBounds_toArray, List.set_cons_zero, List.set_cons_succ]
      refine anyH_rebase hB9 (fun hHeld => ?_)
      have hB9w := keepB hB9 hB8
      clear hb9
      refine wpAnyH_ready (rs := [10]) (by kernel_rfl) (by simp) ?_
      refine AllReadyH.cons rfl (fun K hK => ?_) AllReadyH.nil
      simp only [List.getElem_toArray, List.getElem_cons_zero, List.getElem_cons_succ]
      go_simp
      refine (HEf.out _ hB9w).mono ?_
      rintro e w10 ⟨rfl, hb10⟩
      go_wp2_with fail
      have hB10 := keepB hb10 hHeld
      refine hK.out _ _ hB10 (fun _ => ?_)
      clear hK K
      try simp only [Act.put, List.setIfInBounds_toArray, List.set_cons_zero, List.set_cons_succ]
      refine anyH_rebase hB10 (fun hHeld => ?_)
      have hB10w := keepB hB10 hB9w
      clear hb10
      refine wpAnyH_take (i := 11) (v := ?_) rfl (by kernel_rfl) (by kernel_rfl) (by kernel_rfl) (fun _ _ _ h => h) (Or.inl ⟨by rfl, ?_⟩) hHeld ?_
      rotate_left
      · (intro w hSw; go_simp; (try with_reducible rfl))
      simp only [Act.put, List.getElem_toArray, List.getElem_cons_zero, List.getElem_cons_succ, List.setIfInBounds_toArray, List.set_cons_zero, List.set_cons_succ]
      refine wpAnyH_take (i := 12) (v := ?_) rfl (by kernel_rfl) (by kernel_rfl) (by kernel_rfl) (fun _ _ _ h => h) (Or.inl ⟨by rfl, ?_⟩) hHeld ?_
      rotate_left
      · (intro w hSw; go_simp; (try with_reducible rfl))
      simp only [Act.put, List.getElem_toArray, List.getElem_cons_zero, List.getElem_cons_succ, List.setIfInBounds_toArray, List.set_cons_zero, List.set_cons_succ]
      refine wpAnyH_done (by kernel_rfl) ?_ _
      have hE10 := HE.out.keep hB10w
      have hE210 := HE2.out.keep hB10w
      have hs710 := hB10w.size
      have hap10 := HAp.out.below hB10w (by omega)
      have hO10 := HO7.out.below hB10w (Nat.le_refl _)
      have hbw10 := keepB hB10w hbw7
      clear hHeld hB8 hB9 hB10 hB9w hB10w HE8 HE8' HSm HSn HEf
      go_upto_region 9 with fail
      go_wp2_with (refine wpList_load_row rfl 24 (.tmp 5) rfl w5.heap.size rfl 24 _ (0, 0) _ hE210 Try.underlying24 rfl hsx2 ?_)
      refine (spoil_any w4.heap.size w5.heap.size d2 cs2 w10 hap10 hs45 (by omega)).mono ?_
      rintro e w11 ⟨rfl, ho11, _⟩
      have hb11 : Below w4.heap.size w10 w11 := ho11.below (by omega)
      have hE11 := hE10.below hb11 (by omega)
      have hbw11 : Below w.heap.size w w11 := hbw10.trans (hb11.mono (by omega))
      have hO11 := hO10.only ho11 (by omega)
      clear hE10 hE210 hap10 hO10 ho11 hb11
      go_wp2_with (refine wpList_load_row rfl 24 (.tmp 2) rfl w.heap.size rfl 24 _ (0, 0) _ hE11 Try.underlying24 rfl hsx ?_)
      refine (bytesRef6_any d t cs w11 (HRr.out.grow hbw11) (by have := HSs.out; omega)).mono ?_
      rintro e w12 ⟨A12, m12, c12, rfl, hown12, hb12⟩
      have hO12 := hO11.below hb12 (Nat.le_refl _)
      have hbw12 := keepB hb12 hbw11
      go_wp2_with fail
      refine (numBytes_same A12 A7 m12 c12 m7 c7 (btT t) w12 _ _ hown12.nums hO12.nums).mono ?_
      rintro e w13 ⟨rfl, rfl⟩
      go_wp2_with fail
      go_ret
      exact ⟨rfl, hbw12⟩
end Go.Proofs.Ytjijnapphbeahaa
