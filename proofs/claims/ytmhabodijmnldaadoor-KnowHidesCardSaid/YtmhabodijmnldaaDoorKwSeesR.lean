/- Layer 15: the reference's Sees. -/
import Derived.Test.YtmhabodijmnldaaDoorKwSee
import Derived.Test.YtmhabodijmnldaaDoorKwLw
import Derived.Test.YtmhabodijmnldaaDoorEvCopy
namespace Go.Proofs.YtmhabodijmnldaaDoor
open Go.RowKit Ex
set_option maxRecDepth 100000
/-- A state's own slices are no box. -/
theorem OwnS.rowK {B g : Nat} {w : World} {cs : Array Value} {s : StT} {O : SlT} {L : Nat → SlT} (h : OwnS w B s O L) (hg : StAt w g cs) (cs' : Array Value) : OwnS (w.setRow g cs') B s O L := by
  have hne : ∀ {v : Value} {e : TypeId} {k n : Nat} {xs : List Value}, w.ownsRow B e k v n xs → e ≠ 29 → ∀ j, v.ownBlock = some j → j ≠ g := fun ho he j hj => by
    obtain ⟨hb, cur, hc⟩ := own_ty ho hj
    intro e
    subst e
    exact he (ty_same hc hg)
  exact ⟨h.on, owns_keep h.o fun j hj => setRow_other w g j cs' (hne h.o (by decide) j hj), fun z hz => ⟨(h.l z hz).1, owns_keep (h.l z hz).2 fun j hj => setRow_other w g j cs' (hne (h.l z hz).2 (by decide) j hj)⟩, h.d⟩
set_option linter.unusedSimpArgs false in
set_option maxHeartbeats 0 in
theorem seesRef_any (s : StT) (O : SlT) (L : Nat → SlT) (cs : Array Value) (p : Int) (w : World) (h : ReadsS w.heap.size w cs s O L) (hn : s.objs.length ≤ 1000) (hll : ∀ z < 11, (s.lists z).length ≤ 1000) :
    Calls Tryd.prog 13 #[.agg cs, .int .i64 p] w fun en w' => ∃ cs' O' L', en = .returned (.agg cs') ∧ ReadsS w'.heap.size w' cs' (seeS p s) O' L' ∧ Below w.heap.size w w' := by
  have H := Lib.hid h
  have HLs := Lib.hid (And.intro hn hll)
  have hz := st0_is
  have hcs := h.size
  clear h hll hn
  go_enter Tryd.func13, Tryd.ntmps13
  go_upto_region 1 with fail
  have hb1 : Below (w.alloc (.cells cs 29)).heap.size (w.alloc (.cells cs 29)) ((w.alloc (.cells cs 29)).alloc (.cells st0 29)) := (Below.refl _ _).alloc (Nat.le_refl _) _
  have hb0 : Below w.heap.size w (w.alloc (.cells cs 29)) := (Below.refl _ _).alloc (Nat.le_refl _) _
  have hs1 := (StAt.new w cs).keep hb1
  have hr1 : StAt ((w.alloc (.cells cs 29)).alloc (.cells st0 29)) (w.heap.size + 1) st0 := by
    have h := StAt.new (w.alloc (.cells cs 29)) st0
    simpa using h
  have hbw := keepB hb1 hb0
  obtain ⟨w1, hw1⟩ : ∃ w1, w1 = (w.alloc (.cells cs 29)).alloc (.cells st0 29) := ⟨_, rfl⟩
  obtain ⟨gs, hgs⟩ : ∃ g, g = w.heap.size := ⟨_, rfl⟩
  obtain ⟨gr, hgr⟩ : ∃ g, g = gs + 1 := ⟨_, rfl⟩
  rw [← hw1] at hs1 hr1 hbw
  rw [← hgs] at hs1 hr1
  rw [← hgr] at hr1
  show Code.wp _ _ _ _ ((w.alloc (.cells cs 29)).alloc (.cells st0 29))
  rw [← hw1, ← hgs, ← hgr]
  have hwr : w.heap.size ≤ gr := by omega
  have hR1 := H.out.grow hbw
  have hrl := hr1.lt
  clear hw1 hb0 hb1 hgs hgr
  have hcp := numCopy_own s O L cs w1 hR1 (by have := HLs.out.1; omega) (fun z hz => by have := HLs.out.2 z hz; omega)
  go_wp2_with (refine load_wantS (by rfl) (.tmp 2) rfl gs rfl cs hs1 hcs ?_)
  refine hcp.mono ?_
  rintro en w2 ⟨cC, rfl, OC, LC, hcC, hoC, hb2⟩
  clear hcp hR1
  have hnew : (w2.alloc (.cells st0 29)).heap[w2.heap.size]? = some (.cells st0 29 (0, 0)) := heap_alloc_new _ _
  have hsz : (Tryd.prog.info? 29).map (·.size) = some cC.size := by rw [hcC, stC_size]; exact size37
  have hs0 : st0.size = cC.size := by rw [hcC, stC_size]; exact stC_size _ _ _ _
  have hone : cC.all (·.oneCell') = true := by rw [hcC]; exact stC_one _ _ _ _
  have HcC := Lib.hid hcC
  clear hcC
  go_upto_region 2 with (refine wpList_store_row rfl 29 (.tmp 5) (.tmp 10) rfl w2.heap.size _ rfl rfl 29 st0 hnew hsz hs0 hone ?_)
  clear hnew hsz hs0 hone
  obtain ⟨w3, hw3, ha3, hb3⟩ := box_new w2 cC
  rw [← hw3]
  have HI := Lib.hid (show SI w gr w2.heap.size s (seeN p s.objs 0) OC LC w3 from by
    have hb := keepB hb3 hb2
    refine ⟨keepB hb hbw, hr1.keep hb, by rw [← HcC.out]; exact ha3, ?_⟩
    rw [seeN_0]
    exact (hoC.below hb3).low hbw.size)
  have hne : gr ≠ w2.heap.size := by have := hb2.size; omega
  have hwt : w.heap.size ≤ w2.heap.size := (keepB hb2 hbw).size
  have hs3 := hs1.keep (keepB hb3 hb2)
  obtain ⟨gt, hgt⟩ : ∃ g, g = w2.heap.size := ⟨_, rfl⟩
  rw [← hgt] at HI hne hwt
  rw [← hgt]
  clear hw3 ha3 hb3 hgt hoC hb2 hr1 hbw hrl HcC hs1
  have c0 : cs[0]? = some (.slice O.A O.n O.c) := by rw [H.out.cs]; exact stC_objs _ _ _ _
  have hOn := H.out.on
  obtain ⟨A, n, c⟩ := O
  simp only at c0 hOn
  subst hOn
  have cg : w3.cell? ⟨gs, 0, none⟩ = some (.slice A s.objs.length c) := by rw [hs3.cell]; exact c0
  obtain ⟨AC, nC, cC'⟩ := OC
  obtain rfl : nC = (seeN p s.objs 0).length := HI.out.o.on
  clear c0 hs3
  go_upto_region 3 with fail
  clear cg
  go_loopw [14] (fun i wr => ∃ k : Nat, i = .int .i64 ((k : Nat) : Int) ∧ k ≤ s.objs.length ∧ Hid (SI w gr gt s (seeN p s.objs k) ⟨AC, (seeN p s.objs 0).length, cC'⟩ LC wr)) (fun i _ => s.objs.length - (intOf i).toNat)
  case atStart => exact ⟨0, rfl, by omega, HI⟩
  case round =>
    clear HI
    obtain ⟨k, rfl, hk, HI⟩ := hrel
    by_cases hlt : k < s.objs.length
    · obtain ⟨o, ho⟩ : ∃ o, s.objs[k]? = some o := ⟨_, List.getElem?_eq_getElem hlt⟩
      obtain ⟨b, off, ea, hbl, hra⟩ := H.out.o k o ho
      simp only at ea
      subst ea
      have HRa := Lib.hid (range_below HI.out.b hbl hra)
      have HO := Lib.hid ho
      have p0 : (0 : Int) ≤ (k : Int) := by omega
      have p1 : (k : Int) < (s.objs.length : Int) := by omega
      have p2 : (k : Int) ≤ 1000 := by have := HLs.out.1; omega
      have hz := st_zero18
      have hnew : (wr.alloc (.cells (arr .i64 18 fun _ => 0) 49)).heap[wr.heap.size]? = some (.cells (arr .i64 18 fun _ => 0) 49 (0, 0)) := heap_alloc_new _ _
      have hsx : (Tryd.prog.info? 49).map (·.size) = some (arr .i64 18 o).size := by rw [arr_size]; exact st_size18
      clear ho hra hbl
      go_upto_region 5 with (first
        | (refine load_obj rfl (.tmp 17) rfl b (off + k * 18) rfl o HRa.out ?_)
        | (refine wpList_store_row rfl 49 (.tmp 7) (.tmp 18) rfl wr.heap.size _ rfl rfl 49 (arr .i64 18 fun _ => 0) hnew hsx (by rw [arr_size, arr_size]) (arr_one .i64 18 o) ?_))
      obtain ⟨w4, hw4, hO4, hb4⟩ := ob_box wr o
      rw [← hw4]
      have HI4 := Lib.hid (HI.out.keep hb4)
      obtain ⟨g7, hg7⟩ : ∃ g, g = wr.heap.size := ⟨_, rfl⟩
      rw [← hg7] at hO4 ⊢
      clear hw4 hg7 hnew hsx hb4 HI HRa
      have hr4 := hO4.range
      go_wp2_with (refine load_obj rfl (.tmp 7) rfl g7 0 rfl o hr4 ?_)
      refine (knowsRef_any o p w4).mono ?_
      rintro en w5 ⟨rfl, hb5⟩
      have HI5 := Lib.hid (HI4.out.keep hb5)
      have hO5 := ObAt.keep hO4 hb5
      clear HI4 hO4 hb5 hr4
      obtain ⟨q, hq⟩ : ∃ q, q = bitK (o 17) p := ⟨_, rfl⟩
      rw [← hq]
      cases q with
      | true =>
        have HN := Lib.hid (seeN_same p HO.out hq.symm)
        clear hO5 hq
        go_wp2_with fail
        go_roundw
        case rel => exact ⟨k + 1, by go_num, by omega, by rw [HN.out]; exact HI5⟩
        case measure => simp [intOf]; omega
      | false =>
        have HQ := Lib.hid hq
        clear hq
        have hnew : (w5.alloc (.cells (arr .i64 18 fun _ => 0) 49)).heap[w5.heap.size]? = some (.cells (arr .i64 18 fun _ => 0) 49 (0, 0)) := heap_alloc_new _ _
        have hsx : (Tryd.prog.info? 49).map (·.size) = some (arr .i64 18 fun _ => 0).size := by rw [arr_size]; exact st_size18
        go_upto_region 7 with (first
          | (refine wpList_ob0 rfl rfl ?_)
          | (refine wpList_store_row rfl 49 (.tmp 8) (.tmp 22) rfl w5.heap.size _ rfl rfl 49 (arr .i64 18 fun _ => 0) hnew hsx (by rw [arr_size]) (arr_one .i64 18 _) ?_))
        obtain ⟨w6, hw6, hO6, hb6⟩ := ob_box w5 (fun _ => 0)
        rw [← hw6]
        clear hw6 hnew hsx
        have l5 := hO5
        have x1 : ∀ W, Below w5.heap.size w5 W → W.cell? ⟨g7, 1, none⟩ = some (.int .i64 (o 1)) := fun W hW => ArrAt.cell (ObAt.keep l5 hW) (by omega)
        have x2 : ∀ W, Below w5.heap.size w5 W → W.cell? ⟨g7, 2, none⟩ = some (.int .i64 (o 2)) := fun W hW => ArrAt.cell (ObAt.keep l5 hW) (by omega)
        have x3 : ∀ W, Below w5.heap.size w5 W → W.cell? ⟨g7, 3, none⟩ = some (.int .i64 (o 3)) := fun W hW => ArrAt.cell (ObAt.keep l5 hW) (by omega)
        have hA : ArrAt .i64 18 49 w6.drew w5.heap.size (fun _ => 0) := hO6
        clear hO5 l5 hO6
        refine wp_region_held_drew (S := fun W => Below w5.heap.size w5 W) (by kernel_rfl) hb6.drew (fun hHeld => ?_)
        clear hb6
        generalize w6.drew = W0 at hA hHeld ⊢
        refine wpAnyH_take (i := 0) (v := ?_) rfl (by kernel_rfl) (by kernel_rfl) (by kernel_rfl) (fun _ _ _ h => h) (Or.inl ⟨by rfl, ?_⟩) hHeld ?_
        rotate_left
        · (intro w hSw; go_simp; (try with_reducible rfl))
        simp only [Act.put, List.getElem_toArray, List.getElem_cons_zero, List.getElem_cons_succ, List.setIfInBounds_toArray, List.set_cons_zero, List.set_cons_succ]
        refine wpAnyH_take (i := 1) (v := ?_) rfl (by kernel_rfl) (by kernel_rfl) (by kernel_rfl) (fun _ _ _ h => h) (Or.inl ⟨by rfl, ?_⟩) hHeld ?_
        rotate_left
        · (intro w hSw; go_simp; (try with_reducible rfl))
        simp only [Act.put, List.getElem_toArray, List.getElem_cons_zero, List.getElem_cons_succ, List.setIfInBounds_toArray, List.set_cons_zero, List.set_cons_succ]
        refine wpAnyH_take (i := 2) (v := ?_) rfl (by kernel_rfl) (by kernel_rfl) (by kernel_rfl) (fun _ _ _ h => h) (Or.inl ⟨by rfl, ?_⟩) hHeld ?_
        rotate_left
        · (intro w hSw; go_simp; (try with_reducible rfl))
        simp only [Act.put, List.getElem_toArray, List.getElem_cons_zero, List.getElem_cons_succ, List.setIfInBounds_toArray, List.set_cons_zero, List.set_cons_succ]
        refine wpAnyH_take (i := 3) (v := ?_) rfl (by kernel_rfl) (by kernel_rfl) (by kernel_rfl) (fun _ _ _ h => h) (Or.inl ⟨by rfl, ?_⟩) hHeld ?_
        rotate_left
        · (intro w hSw; go_simp; (try with_reducible rfl))
        simp only [Act.put, List.getElem_toArray, List.getElem_cons_zero, List.getElem_cons_succ, List.setIfInBounds_toArray, List.set_cons_zero, List.set_cons_succ]
        refine wpAnyH_take (i := 4) (v := ?_) rfl (by kernel_rfl) (by kernel_rfl) (by kernel_rfl) (fun _ _ _ h => h) (Or.inl ⟨by rfl, ?_⟩) hHeld ?_
        rotate_left
        · (intro w hSw; go_simp; (try with_reducible rfl))
        simp only [Act.put, List.getElem_toArray, List.getElem_cons_zero, List.getElem_cons_succ, List.setIfInBounds_toArray, List.set_cons_zero, List.set_cons_succ]
        refine wpAnyH_take (i := 5) (v := ?_) rfl (by kernel_rfl) (by kernel_rfl) (by kernel_rfl) (fun _ _ _ h => h) (Or.inl ⟨by rfl, ?_⟩) hHeld ?_
        rotate_left
        · (intro w hSw; go_simp; (try with_reducible rfl))
        simp only [Act.put, List.getElem_toArray, List.getElem_cons_zero, List.getElem_cons_succ, List.setIfInBounds_toArray, List.set_cons_zero, List.set_cons_succ]
        refine wpAnyH_take (i := 6) (v := ?_) rfl (by kernel_rfl) (by kernel_rfl) (by kernel_rfl) (fun _ _ _ h => h) (Or.inl ⟨by rfl, ?_⟩) hHeld ?_
        rotate_left
        · (intro w hSw; go_simp; (try with_reducible rfl))
        simp only [Act.put, List.getElem_toArray, List.getElem_cons_zero, List.getElem_cons_succ, List.setIfInBounds_toArray, List.set_cons_zero, List.set_cons_succ]
        refine wpAnyH_ready (rs := [7]) (by kernel_rfl) (by simp) ?_
        refine AllReadyH.cons rfl (fun K hK => ?_) AllReadyH.nil
        simp only [List.getElem_toArray, List.getElem_cons_zero, List.getElem_cons_succ]
        have q1 := hA.cell (i := 1) (by omega)
        have q2 := hA.frozen 1
        go_simp
        have hB := hHeld.setCell (p := ⟨w5.heap.size, 1, none⟩) (Nat.le_refl _) (.int .i64 (o 1))
        refine hK.out _ _ hB (fun _ => ?_)
        clear hK K q1 q2 hHeld
        have hHeld := hB
        have hA2 := hA.set_ 1 (o 1)
        clear hA hB
        have hA := hA2
        clear hA2
        generalize W0.setCell ⟨w5.heap.size, 1, none⟩ (.int .i64 (o 1)) = W1 at hA hHeld ⊢
        refine wpAnyH_take (i := 8) (v := ?_) rfl (by kernel_rfl) (by kernel_rfl) (by kernel_rfl) (fun _ _ _ h => h) (Or.inl ⟨by rfl, ?_⟩) hHeld ?_
        rotate_left
        · (intro w hSw; go_simp; (try with_reducible rfl))
        simp only [Act.put, List.getElem_toArray, List.getElem_cons_zero, List.getElem_cons_succ, List.setIfInBounds_toArray, List.set_cons_zero, List.set_cons_succ]
        refine wpAnyH_ready (rs := [9]) (by kernel_rfl) (by simp) ?_
        refine AllReadyH.cons rfl (fun K hK => ?_) AllReadyH.nil
        simp only [List.getElem_toArray, List.getElem_cons_zero, List.getElem_cons_succ]
        have q1 := hA.cell (i := 2) (by omega)
        have q2 := hA.frozen 2
        go_simp
        have hB := hHeld.setCell (p := ⟨w5.heap.size, 2, none⟩) (Nat.le_refl _) (.int .i64 (o 2))
        refine hK.out _ _ hB (fun _ => ?_)
        clear hK K q1 q2 hHeld
        have hHeld := hB
        have hA2 := hA.set_ 2 (o 2)
        clear hA hB
        have hA := hA2
        clear hA2
        generalize W1.setCell ⟨w5.heap.size, 2, none⟩ (.int .i64 (o 2)) = W2 at hA hHeld ⊢
        refine wpAnyH_take (i := 10) (v := ?_) rfl (by kernel_rfl) (by kernel_rfl) (by kernel_rfl) (fun _ _ _ h => h) (Or.inl ⟨by rfl, ?_⟩) hHeld ?_
        rotate_left
        · (intro w hSw; go_simp; (try with_reducible rfl))
        simp only [Act.put, List.getElem_toArray, List.getElem_cons_zero, List.getElem_cons_succ, List.setIfInBounds_toArray, List.set_cons_zero, List.set_cons_succ]
        refine wpAnyH_ready (rs := [11]) (by kernel_rfl) (by simp) ?_
        refine AllReadyH.cons rfl (fun K hK => ?_) AllReadyH.nil
        simp only [List.getElem_toArray, List.getElem_cons_zero, List.getElem_cons_succ]
        have q1 := hA.cell (i := 3) (by omega)
        have q2 := hA.frozen 3
        go_simp
        have hB := hHeld.setCell (p := ⟨w5.heap.size, 3, none⟩) (Nat.le_refl _) (.int .i64 (o 3))
        refine hK.out _ _ hB (fun _ => ?_)
        clear hK K q1 q2 hHeld
        have hHeld := hB
        have hA2 := hA.set_ 3 (o 3)
        clear hA hB
        have hA := hA2
        clear hA2
        generalize W2.setCell ⟨w5.heap.size, 3, none⟩ (.int .i64 (o 3)) = W3 at hA hHeld ⊢
        refine wpAnyH_done (by kernel_rfl) ?_ _
        have hA := ArrAt.congr (h := seeO p o) hA (fun i hi => by
          have hs : seeO p o i = if i = 1 ∨ i = 2 ∨ i = 3 then o i else 0 := by unfold seeO; rw [if_neg (by rw [← HQ.out]; simp)]
          rw [hs]
          unfold updI
          by_cases e3 : i = 3
          · simp [e3]
          · by_cases e2 : i = 2
            · simp [e2]
            · by_cases e1 : i = 1
              · simp [e1]
              · simp [e1, e2, e3])
        have HI6 := Lib.hid (HI5.out.keep hHeld)
        have hr8 := ObAt.range (show ObAt W3 w5.heap.size (seeO p o) from hA)
        have hown : W3.ownsRow w.heap.size 49 18 (.slice AC (seeN p s.objs 0).length cC') (seeN p s.objs 0).length (flatO (seeN p s.objs k)) := HI6.out.o.o
        obtain ⟨gb, rfl, hcap⟩ := own_form hown (by rw [seeN_len]; omega)
        have hkl : k < (seeN p s.objs k).length := by rw [seeN_len]; exact hlt
        have hth : W3.there gb (k * 18) (arr .i64 18 (seeO p o)).size := by rw [arr_size]; exact HI6.out.there hkl
        have hsx : (Tryd.prog.info? 49).map (·.size) = some (arr .i64 18 (seeO p o)).size := by rw [arr_size]; exact st_size18
        have hone := arr_one .i64 18 (seeO p o)
        have HI7 := Lib.hid (show SI w gr gt s (seeN p s.objs (k + 1)) ⟨some ⟨gb, 0, none⟩, (seeN p s.objs 0).length, cC'⟩ LC (W3.setCells gb (k * 18) (arr .i64 18 (seeO p o)).toList) from by rw [seeN_at p HO.out]; exact HI6.out.set18 hkl (seeO p o))
        have ct : W3.cell? ⟨gt, 0, none⟩ = some (.slice (some ⟨gb, 0, none⟩) (seeN p s.objs 0).length cC') := by rw [HI6.out.ta.cell]; exact stC_objs _ _ _ _
        have p3 : (k : Int) < ((seeN p s.objs 0).length : Int) := by rw [seeN_len]; omega
        clear x1 x2 x3 hHeld hA hown HI5 hkl HI6
        go_wp2_with (first
          | (refine load_obj rfl (.tmp 8) rfl w5.heap.size 0 rfl (seeO p o) hr8 ?_)
          | (refine wpList_store_mid rfl 49 (.tmp 36) (.tmp 35) rfl gb (k * 18) (arr .i64 18 (seeO p o)) (by simp [Act.eval]; done) rfl hth hsx hone ?_))
        go_roundw
        case rel => exact ⟨k + 1, by go_num, by omega, HI7⟩
        case measure => simp [intOf]; omega
    · obtain rfl : k = s.objs.length := by omega
      have hfin := HI.out
      have hI : I64S (seeS p s) := by
        have hi := H.out.i64
        refine ⟨fun x hx i hil => ?_, hi.l, hi.p, hi.g⟩
        obtain ⟨y, hy, rfl⟩ := List.mem_map.1 hx
        unfold seeO
        split
        · exact hi.o y hy i hil
        · show N64 (if _ then _ else _)
          split
          · exact hi.o y hy i hil
          · unfold N64; omega
      have hr9 := HI.out.r
      have hg9 := HI.out.ta
      have hsz9 : (Tryd.prog.info? 29).map (·.size) = some (stC ⟨AC, (seeN p s.objs 0).length, cC'⟩ LC s.pl s.gm).size := by rw [stC_size]; exact size37
      have hs9 : st0.size = (stC ⟨AC, (seeN p s.objs 0).length, cC'⟩ LC s.pl s.gm).size := by rw [stC_size, show st0.size = 37 from stC_size _ _ _ _]
      have hone9 := stC_one ⟨AC, (seeN p s.objs 0).length, cC'⟩ LC s.pl s.gm
      have HF := Lib.hid (show ReadsS (wr.setRow gr (stC ⟨AC, (seeN p s.objs 0).length, cC'⟩ LC s.pl s.gm)).heap.size (wr.setRow gr (stC ⟨AC, (seeN p s.objs 0).length, cC'⟩ LC s.pl s.gm)) (stC ⟨AC, (seeN p s.objs 0).length, cC'⟩ LC s.pl s.gm) (seeS p s) ⟨AC, (seeN p s.objs 0).length, cC'⟩ LC ∧ Below w.heap.size w (wr.setRow gr (stC ⟨AC, (seeN p s.objs 0).length, cC'⟩ LC s.pl s.gm)) from by
        have ho := hfin.o
        rw [seeN_all] at ho
        exact ⟨(OwnS.rowK ho hr9 _).reads hI.o hI.l hI.p hI.g, below_setRow hfin.b gr _ hwr⟩)
      obtain ⟨cs9, hcs9⟩ : ∃ cs9, cs9 = stC ⟨AC, (seeN p s.objs 0).length, cC'⟩ LC s.pl s.gm := ⟨_, rfl⟩
      rw [← hcs9] at HF hg9 hsz9 hs9 hone9
      clear hcs9 HI hfin hI
      go_wp2_with (first
        | (refine wpList_load_row rfl 29 (.tmp 5) rfl gt rfl 29 _ (0, 0) _ hg9 Tryd.underlying29 rfl hsz9 ?_)
        | (refine wpList_store_row rfl 29 (.tmp 4) (.tmp 38) rfl gr _ rfl rfl 29 st0 hr9 hsz9 hs9 hone9 ?_))
      refine bodyPost_ret (v := .agg cs9) ?_ rfl ⟨cs9, _, _, rfl, HF.out.1, HF.out.2⟩
      exact results_cell_row (ty := 29) (p := 4) (by kernel_rfl) _ _ gr 29 _ (0, 0) _ rfl (setRow_heap _ _ _ _ _ _ hr9) Tryd.underlying29 rfl hsz9
end Go.Proofs.YtmhabodijmnldaaDoor
