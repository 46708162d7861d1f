/- Layer 12: the laws' fixed fact. -/
import Derived.Test.YthedopnhhanknaaEvG2
namespace Go.Proofs.Ythedopnhhanknaa
open Go.RowKit Ex
set_option maxRecDepth 100000
/-- The fact's state and event. -/
def sA : StT := ⟨[], fun _ => [], updI (fun _ => 0) 0 20, fun _ => 0⟩
def sB : StT := ⟨[], fun _ => [], updI (updI (fun _ => 0) 0 20) 0 17, fun _ => 0⟩
def eA : EvT := ⟨3, 0, 0, 20, 17, 0⟩
def eB : EvT := ⟨3, 0, 0, 17, 20, 0⟩
theorem inv_eA : invE eA = eB := rfl
theorem apply_eA : applyS sA eA = (sB, 0) := by
  have hc : chkE eA = 0 := by decide
  unfold applyS
  rw [if_neg (by rw [hc]; simp)]
  show ap3 sA eA = _
  unfold ap3
  rw [if_neg (by decide)]
  rfl
theorem apply_eB : (applyS sB eB).2 = 0 ∧ (applyS sB eB).1.pl 0 = 20 := by
  have hc : chkE eB = 0 := by decide
  have : applyS sB eB = (⟨sB.objs, sB.lists, updI sB.pl 0 20, sB.gm⟩, 0) := by
    unfold applyS
    rw [if_neg (by rw [hc]; simp)]
    show ap3 sB eB = _
    unfold ap3
    rw [if_neg (by decide)]
    rfl
  rw [this]
  exact ⟨rfl, rfl⟩
theorem eA_i : EvI eA := ⟨by decide, by decide, by decide, by decide, by decide, by decide⟩
theorem eB_i : EvI eB := ⟨by decide, by decide, by decide, by decide, by decide, by decide⟩
def csA : Array Value := stC nilS (fun _ => nilS) (updI (fun _ => 0) 0 20) (fun _ => 0)
theorem reads_A (B : Nat) (w : World) : ReadsS B w csA sA nilS (fun _ => nilS) :=
  ⟨rfl, rfl, Nat.le_refl _, by simp [nilS], fun i o hi => by simp [sA] at hi, fun z _ => Nums.none_, fun z _ => Nat.le_refl _, fun o ho => by simp [sA] at ho, fun z _ x hx => by simp [sA] at hx, fun i _ => by
    show N64 (updI (fun _ => 0) 0 20 i)
    unfold updI N64; split
    · omega
    · show -9223372036854775808 ≤ (0 : Int) ∧ (0 : Int) ≤ 9223372036854775807; omega, fun i _ => by simp [N64, sA]⟩
theorem build_eA (W : World) : (Instr.build 31 #[(0, .int .i64 3), (2, .int .i64 0), (3, .int .i64 20), (4, .int .i64 17)]).run Try.prog W = .ok (.agg (evC eA)) W := by kernel_rfl
theorem wpList_buildEA {ops : Array Oper} {rest : List Oper} {o : Oper} {a : Act} {w : World} {Q : Exit → Act → World → Prop} (hg : o.guard = none) (ho : o.op = .build 31 #[(0, .const (.int .i64 3)), (2, .const (.int .i64 0)), (3, .const (.int .i64 20)), (4, .const (.int .i64 17))])
    (hK : wpList Try.prog ops Q rest (a.put o.dst (.agg (evC eA))) w) : wpList Try.prog ops Q (o :: rest) a w := by
  refine wpList_plain hg fun K' hK' => ?_
  unfold Oper.wp
  have hev : ∀ v, a.eval (.const v) = v := fun _ => rfl
  simp [execOp, ho, hev, build_eA, Result.andThen]
  exact hK' _ _ hK
theorem yields_ev2 {ops : Array Oper} {S : World → Prop} {o : Oper} {a : Act} (hg : Region.wanted o (yielded ops a.tmps) = true) (x : Operand) (ho : o.op = .load 31 x) (g : Nat) (hx : a.eval x = .pointer (some ⟨g, 0, none⟩)) (cs : Array Value)
    (hS : ∀ w, S w → w.heap[g]? = some (.cells cs 31 (0, 0))) (hi : (Try.prog.info? 31).map (·.size) = some cs.size) : YieldsIf Try.prog ops S o (.agg cs) a :=
  Or.inl ⟨hg, fun w hw => by
    unfold execOp
    simp only [ho, hx, Instr.loadAt, Instr.sureAddr, Sem.run_bind, Sem.run_pure, Result.andThen_ok, run_loadVar_row w g 31 31 cs (0, 0) _ (hS w hw) Try.underlying31 rfl hi]⟩
set_option linter.unusedSimpArgs false in
set_option maxHeartbeats 0 in
theorem evAlive {z : World} (E : EvSaid z) (w : World) (hz : Below z.heap.size z w) : Calls Try.prog 7 #[] w fun e w' => e = .returned (.bool true) ∧ Below w.heap.size w w' := by
  have hz37 := st0_is
  have hsz0 := st0_size'
  have hone0 := st0_one'
  have hnew : (w.alloc (.cells st0 29)).heap[w.heap.size]? = some (.cells st0 29 (0, 0)) := heap_alloc_new _ _
  go_enter Try.func7, Try.ntmps7
  go_upto_region 2 with (first
    | (refine wpList_build0 rfl rfl ?_)
    | (refine wpList_store_row rfl 29 (.tmp 1) (.tmp 7) rfl w.heap.size _ rfl rfl 29 st0 hnew hsz0 rfl hone0 ?_))
  obtain ⟨w1, hw1, hs1, hb1⟩ := box_new w st0
  rw [← hw1]
  obtain ⟨g1, hg1⟩ : ∃ g, g = w.heap.size := ⟨_, rfl⟩
  rw [← hg1] at hs1 ⊢
  have hl1 := hs1.lt
  have hwg : w.heap.size ≤ g1 := by omega
  clear hw1 hg1 hnew
  have hc1 := (hs1.cell 12).trans (stC_pl nilS (fun _ => nilS) (fun _ => 0) (fun _ => 0) (show 0 < 18 by omega))
  have hf1 := frozen_of_row w1 g1 12 _ _ hs1
  go_upto_region 3 with fail
  obtain ⟨w2, hw2⟩ : ∃ w2, w2 = w1.setCell ⟨g1, 12, none⟩ (.int .i64 20) := ⟨_, rfl⟩
  have hs2 : StAt w2 g1 csA := by
    rw [hw2]
    unfold StAt
    rw [heap_setCell_same w1 g1 12 _ _ _ hs1]
    exact congrArg (fun c => some (Obj.cells c _ _)) (stC_set_pl nilS (fun _ => nilS) (fun _ => 0) (fun _ => 0) (show 0 < 18 by omega) 20)
  have hb2 : Below w.heap.size w w2 := by rw [hw2]; exact hb1.setCell (by simp; omega) _
  rw [← hw2]
  clear hw2 hs1 hb1 hc1 hf1 hl1
  have hze := ev0_is
  have hnew : (w2.alloc (.cells (evC ev0) 31)).heap[w2.heap.size]? = some (.cells (evC ev0) 31 (0, 0)) := heap_alloc_new _ _
  have hsE := ev_size eA
  have hoE := evC_one eA
  obtain ⟨es, hes⟩ : ∃ es, es = evC eA := ⟨_, rfl⟩
  have HEs := Lib.hid hes
  rw [← hes] at hsE hoE
  have hs6 : (evC ev0).size = es.size := by rw [hes]; rfl
  clear hes
  go_upto_region 4 with (first
    | (refine wpList_buildEA rfl rfl ?_; rw [← HEs.out])
    | (refine wpList_store_row rfl 31 (.tmp 2) (.tmp 11) rfl w2.heap.size _ rfl rfl 31 (evC ev0) hnew hsE hs6 hoE ?_))
  obtain ⟨w3, hw3, he3, hb3⟩ := ev_box w2 eA
  rw [HEs.out, ← hw3]
  have hs3 := hs2.keep hb3
  have hb3' := keepB hb3 hb2
  have hl2 := hs2.lt
  obtain ⟨g2, hg2⟩ : ∃ g, g = w2.heap.size := ⟨_, rfl⟩
  rw [← hg2] at he3 ⊢
  have hwg2 : w.heap.size ≤ g2 := by omega
  clear hw3 hg2 hnew hs2 hb2 hb3 hl2 hs6
  rw [HEs.out] at hsE
  have hszA : (Try.prog.info? 29).map (·.size) = some csA.size := by rw [show csA.size = 37 from stC_size _ _ _ _]; exact size37
  have hap := E.apply sA nilS (fun _ => nilS) csA eA w3 (reads_A _ _) (by simp [sA]) (fun z _ => by simp [sA]) eA_i (hz.trans (hb3'.mono hz.size))
  unfold EvAP at hap
  rw [apply_eA, errV_nil] at hap
  have HSA := Lib.hid hszA
  clear hszA hz37 hze
  have hz37 := st0_is
  go_upto_region 4 with fail
  have hsA2 := HSA.out
  have hes3 : w3.heap[g2]? = some (.cells es 31 (0, 0)) := by rw [HEs.out]; exact he3
  have hsE2 : (Try.prog.info? 31).map (·.size) = some es.size := by rw [HEs.out]; exact hsE
  rw [show evV eA = .agg es by rw [HEs.out]; rfl] at hap
  clear hsE
  go_wp2_with (first
    | (refine wpList_load_row rfl 29 (.tmp 1) rfl g1 rfl 29 _ (0, 0) _ hs3 Try.underlying29 rfl hsA2 ?_)
    | (refine wpList_load_row rfl 31 (.tmp 2) rfl g2 rfl 31 _ (0, 0) _ hes3 Try.underlying31 rfl hsE2 ?_))
  refine hap.mono ?_
  rintro en w4 ⟨csB, OB, LB, rfl, hRB, _, hb4⟩
  have hsB : (Try.prog.info? 29).map (·.size) = some csB.size := by rw [hRB.size]; exact size37
  have hoB := hRB.one
  have hs0B : st0.size = csB.size := by rw [hRB.size]; exact stC_size _ _ _ _
  have hnew : (w4.alloc (.cells st0 29)).heap[w4.heap.size]? = some (.cells st0 29 (0, 0)) := heap_alloc_new _ _
  clear hap
  go_upto_region 5 with (refine wpList_store_row rfl 29 (.tmp 3) (.tmp 16) rfl w4.heap.size _ rfl rfl 29 st0 hnew hsB hs0B hoB ?_)
  obtain ⟨w5, hw5, hS5, hb5⟩ := box_new w4 csB
  rw [← hw5]
  have hb45 := keepB hb5 (keepB hb4 hb3')
  have he5 : EvB w5 g2 eA := (he3.keep hb4).keep hb5
  have hRB5 : ReadsS w5.heap.size w5 csB sB OB LB := hRB.grow hb5
  obtain ⟨g3, hg3⟩ : ∃ g, g = w4.heap.size := ⟨_, rfl⟩
  rw [← hg3] at hS5 ⊢
  clear hw5 hg3 hnew hs3 he3 hes3 hRB hsA2 hb4 hb5 hb3' hz37
  have hinv := fun W hW => E.inv eA W eA_i (hz.trans ((keepB hW hb45).mono hz.size))
  rw [inv_eA, show evV eA = .agg es by rw [HEs.out]; rfl] at hinv
  obtain ⟨ev2, hev2⟩ : ∃ v, v = evV eB := ⟨_, rfl⟩
  rw [← hev2] at hinv
  have happ := fun W (hW : Below w5.heap.size w5 W) => E.apply sB OB LB csB eB W (hRB5.grow hW) (by simp [sB]) (fun z _ => by simp [sB]) eB_i (hz.trans ((keepB hW hb45).mono hz.size))
  unfold EvAP at happ
  rw [apply_eB.1, errV_nil, ← hev2] at happ
  have HInv := Lib.hid hinv
  have HApp := Lib.hid happ
  have HS5 := Lib.hid hS5
  have HE5 := Lib.hid he5
  have hsB37 : csB.size = 37 := hRB5.size
  clear hinv happ hev2 hsE2
  refine region_below (by kernel_rfl) (fun hHeld => ?_)
  refine wpAnyH_take (i := 0) (v := .agg csB) rfl (by kernel_rfl) (by kernel_rfl) (by kernel_rfl) (fun _ _ _ h => h) (yields_st (by rfl) (.tmp 3) rfl g3 rfl csB hsB37 (fun W hW => HS5.out.keep hW)) hHeld ?_
  simp only [Act.put, List.getElem_toArray, List.getElem_cons_zero, List.getElem_cons_succ, List.setIfInBounds_toArray, List.set_cons_zero, List.set_cons_succ]
  refine wpAnyH_take (i := 1) (v := .agg es) rfl (by kernel_rfl) (by kernel_rfl) (by kernel_rfl) (fun _ _ _ h => h) (yields_ev2 (by rfl) (.tmp 2) rfl g2 rfl es (fun W hW => by rw [HEs.out]; exact HE5.out.keep hW) (by rw [HEs.out]; exact ev_size eA)) hHeld ?_
  simp only [Act.put, List.getElem_toArray, List.getElem_cons_zero, List.getElem_cons_succ, List.setIfInBounds_toArray, List.set_cons_zero, List.set_cons_succ]
  have hz37 := st0_is
  have HCB := Lib.hid (show csB = stC OB LB sB.pl sB.gm from hRB5.cs)
  clear hRB5 hS5 he5
  generalize w5.drew = W0 at hHeld ⊢
  refine wpAnyH_ready (rs := [2, 7]) (by kernel_rfl) (by simp) ?_
  refine AllReadyH.cons rfl (fun K hK => ?_) (AllReadyH.cons rfl (fun K hK => ?_) AllReadyH.nil)
  all_goals simp only [List.getElem_toArray, List.getElem_cons_zero, List.getElem_cons_succ]
  all_goals go_simp
  · skip
    refine (HInv.out _ hHeld).mono ?_
    rintro en W8 ⟨rfl, hb8⟩
    go_wp2_with fail
    have hHeld := keepB hb8 hHeld
    refine hK.out _ _ hHeld (fun _ => ?_)
    clear hK K
    try simp only [Act.put, List.setIfInBounds_toArray, List.set_cons_zero, List.set_cons_succ]
    refine wpAnyH_ready (rs := [3, 7]) (by kernel_rfl) (by simp) ?_
    refine AllReadyH.cons rfl (fun K hK => ?_) (AllReadyH.cons rfl (fun K hK => ?_) AllReadyH.nil)
    all_goals simp only [List.getElem_toArray, List.getElem_cons_zero, List.getElem_cons_succ]
    all_goals go_simp
    · skip
      refine (HApp.out _ hHeld).mono ?_
      rintro en W9 ⟨csC, OC, LC, rfl, hRC, _, hb9⟩
      go_wp2_with fail
      have hHeld := keepB hb9 hHeld
      have hc37 : csC.size = 37 := hRC.size
      have hc12 : csC[12]? = some (.int .i64 20) := by rw [hRC.cs, show (12 : Nat) = 12 + 0 from rfl, stC_pl _ _ _ _ (by omega), apply_eB.2]
      have hcone := hRC.one
      clear hRC
      refine hK.out _ _ hHeld (fun _ => ?_)
      clear hK K
      try simp only [Act.put, List.setIfInBounds_toArray, List.set_cons_zero, List.set_cons_succ]
      refine wpAnyH_take (i := 4) (v := ?_) rfl (by kernel_rfl) (by kernel_rfl) (by kernel_rfl) (fun _ _ _ h => h) (Or.inl ⟨by rfl, ?_⟩) hHeld ?_
      rotate_left
      · (intro w hSw; go_simp; (try with_reducible rfl))
      simp only [Act.put, List.getElem_toArray, List.getElem_cons_zero, List.getElem_cons_succ, List.setIfInBounds_toArray, List.set_cons_zero, List.set_cons_succ]
      refine wpAnyH_take (i := 5) (v := ?_) rfl (by kernel_rfl) (by kernel_rfl) (by kernel_rfl) (fun _ _ _ h => h) (Or.inl ⟨by rfl, ?_⟩) hHeld ?_
      rotate_left
      · (intro w hSw; go_simp; (try with_reducible rfl))
      simp only [Act.put, List.getElem_toArray, List.getElem_cons_zero, List.getElem_cons_succ, List.setIfInBounds_toArray, List.set_cons_zero, List.set_cons_succ]
      refine wpAnyH_take (i := 6) (v := ?_) rfl (by kernel_rfl) (by kernel_rfl) (by kernel_rfl) (fun _ _ _ h => h) (Or.inl ⟨by rfl, ?_⟩) hHeld ?_
      rotate_left
      · (intro w hSw; go_simp; (try with_reducible rfl))
      simp only [Act.put, List.getElem_toArray, List.getElem_cons_zero, List.getElem_cons_succ, List.setIfInBounds_toArray, List.set_cons_zero, List.set_cons_succ]
      refine wpAnyH_ready (rs := [7]) (by kernel_rfl) (by simp) ?_
      refine AllReadyH.cons rfl (fun K hK => ?_) AllReadyH.nil
      simp only [List.getElem_toArray, List.getElem_cons_zero, List.getElem_cons_succ]
      go_simp
      obtain ⟨W7, hW7⟩ : ∃ W7, W7 = World.alloc W9 (.cells st0 29) := ⟨_, rfl⟩
      obtain ⟨g5, hg5⟩ : ∃ g, g = (World.heap W9).size := ⟨_, rfl⟩
      have hb7 : Below (World.heap W9).size W9 W7 := by rw [hW7]; exact (Below.refl _ _).alloc (Nat.le_refl _) _
      have hBox : StAt W7 g5 st0 := by rw [hW7, hg5]; exact heap_alloc_new _ _
      have hg5w : w5.heap.size ≤ g5 := by rw [hg5]; exact hHeld.size
      have hHeld := keepB hb7 hHeld
      rw [← hW7, ← hg5]
      clear hW7 hg5
      refine hK.out _ _ hHeld (fun _ => ?_)
      clear hK K
      try simp only [Act.put, List.setIfInBounds_toArray, List.set_cons_zero, List.set_cons_succ]
      refine wpAnyH_ready (rs := [8]) (by kernel_rfl) (by simp) ?_
      refine AllReadyH.cons rfl (fun K hK => ?_) AllReadyH.nil
      simp only [List.getElem_toArray, List.getElem_cons_zero, List.getElem_cons_succ]
      refine wp_store_row 29 (.tmp 5) (.tmp 23) rfl g5 _ rfl rfl 29 _ hBox (by rw [hc37]; exact size37) (by rw [hc37]; exact stC_size _ _ _ _) hcone ?_
      have hA5 : StAt (W7.setRow g5 csC) g5 csC := setRow_heap _ _ _ _ _ _ hBox
      have hHeld := below_setRow hHeld g5 csC hg5w
      have hS3 := HS5.out.keep hHeld
      refine hK.out _ _ hHeld (fun _ => ?_)
      clear hK K
      try simp only [Act.put, List.setIfInBounds_toArray, List.set_cons_zero, List.set_cons_succ]
      refine wpAnyH_take (i := 9) (v := ?_) rfl (by kernel_rfl) (by kernel_rfl) (by kernel_rfl) (fun _ _ _ h => h) (Or.inl ⟨by rfl, ?_⟩) hHeld ?_
      rotate_left
      · (intro w hSw; go_simp; (try with_reducible rfl))
      simp only [Act.put, List.getElem_toArray, List.getElem_cons_zero, List.getElem_cons_succ, List.setIfInBounds_toArray, List.set_cons_zero, List.set_cons_succ]
      refine wpAnyH_done (by kernel_rfl) ?_ _
      have k3 : (W7.setRow g5 csC).cell? ⟨g3, 12, none⟩ = some (.int .i64 17) := by
        rw [hS3.cell, HCB.out, show (12 : Nat) = 12 + 0 from rfl, stC_pl _ _ _ _ (by omega)]; rfl
      have k5 : (W7.setRow g5 csC).cell? ⟨g5, 12, none⟩ = some (.int .i64 20) := (hA5.cell 12).trans hc12
      have hbF := keepB hHeld hb45
      generalize W7.setRow g5 csC = WF at k3 k5 hbF ⊢
      clear hHeld hS3 hA5 hBox
      go_wp2_with fail
      go_ret
      exact ⟨rfl, hbF⟩
    · skip
      obtain ⟨W7, hW7⟩ : ∃ W7, W7 = World.alloc W8 (.cells st0 29) := ⟨_, rfl⟩
      obtain ⟨g5, hg5⟩ : ∃ g, g = (World.heap W8).size := ⟨_, rfl⟩
      have hb7 : Below (World.heap W8).size W8 W7 := by rw [hW7]; exact (Below.refl _ _).alloc (Nat.le_refl _) _
      have hBox : StAt W7 g5 st0 := by rw [hW7, hg5]; exact heap_alloc_new _ _
      have hg5w : w5.heap.size ≤ g5 := by rw [hg5]; exact hHeld.size
      have hHeld := keepB hb7 hHeld
      rw [← hW7, ← hg5]
      clear hW7 hg5
      refine hK.out _ _ hHeld (fun _ => ?_)
      clear hK K
      try simp only [Act.put, List.setIfInBounds_toArray, List.set_cons_zero, List.set_cons_succ]
      refine wpAnyH_ready (rs := [3]) (by kernel_rfl) (by simp) ?_
      refine AllReadyH.cons rfl (fun K hK => ?_) AllReadyH.nil
      simp only [List.getElem_toArray, List.getElem_cons_zero, List.getElem_cons_succ]
      go_simp
      refine (HApp.out _ hHeld).mono ?_
      rintro en W9 ⟨csC, OC, LC, rfl, hRC, _, hb9⟩
      go_wp2_with fail
      have hHeld := keepB hb9 hHeld
      have hc37 : csC.size = 37 := hRC.size
      have hc12 : csC[12]? = some (.int .i64 20) := by rw [hRC.cs, show (12 : Nat) = 12 + 0 from rfl, stC_pl _ _ _ _ (by omega), apply_eB.2]
      have hcone := hRC.one
      clear hRC
      refine hK.out _ _ hHeld (fun _ => ?_)
      clear hK K
      try simp only [Act.put, List.setIfInBounds_toArray, List.set_cons_zero, List.set_cons_succ]
      have hBox := hBox.keep hb9
      refine wpAnyH_take (i := 4) (v := ?_) rfl (by kernel_rfl) (by kernel_rfl) (by kernel_rfl) (fun _ _ _ h => h) (Or.inl ⟨by rfl, ?_⟩) hHeld ?_
      rotate_left
      · (intro w hSw; go_simp; (try with_reducible rfl))
      simp only [Act.put, List.getElem_toArray, List.getElem_cons_zero, List.getElem_cons_succ, List.setIfInBounds_toArray, List.set_cons_zero, List.set_cons_succ]
      refine wpAnyH_take (i := 5) (v := ?_) rfl (by kernel_rfl) (by kernel_rfl) (by kernel_rfl) (fun _ _ _ h => h) (Or.inl ⟨by rfl, ?_⟩) hHeld ?_
      rotate_left
      · (intro w hSw; go_simp; (try with_reducible rfl))
      simp only [Act.put, List.getElem_toArray, List.getElem_cons_zero, List.getElem_cons_succ, List.setIfInBounds_toArray, List.set_cons_zero, List.set_cons_succ]
      refine wpAnyH_take (i := 6) (v := ?_) rfl (by kernel_rfl) (by kernel_rfl) (by kernel_rfl) (fun _ _ _ h => h) (Or.inl ⟨by rfl, ?_⟩) hHeld ?_
      rotate_left
      · (intro w hSw; go_simp; (try with_reducible rfl))
      simp only [Act.put, List.getElem_toArray, List.getElem_cons_zero, List.getElem_cons_succ, List.setIfInBounds_toArray, List.set_cons_zero, List.set_cons_succ]
      refine wpAnyH_ready (rs := [8]) (by kernel_rfl) (by simp) ?_
      refine AllReadyH.cons rfl (fun K hK => ?_) AllReadyH.nil
      simp only [List.getElem_toArray, List.getElem_cons_zero, List.getElem_cons_succ]
      refine wp_store_row 29 (.tmp 5) (.tmp 23) rfl g5 _ rfl rfl 29 _ hBox (by rw [hc37]; exact size37) (by rw [hc37]; exact stC_size _ _ _ _) hcone ?_
      have hA5 : StAt (W9.setRow g5 csC) g5 csC := setRow_heap _ _ _ _ _ _ hBox
      have hHeld := below_setRow hHeld g5 csC hg5w
      have hS3 := HS5.out.keep hHeld
      refine hK.out _ _ hHeld (fun _ => ?_)
      clear hK K
      try simp only [Act.put, List.setIfInBounds_toArray, List.set_cons_zero, List.set_cons_succ]
      refine wpAnyH_take (i := 9) (v := ?_) rfl (by kernel_rfl) (by kernel_rfl) (by kernel_rfl) (fun _ _ _ h => h) (Or.inl ⟨by rfl, ?_⟩) hHeld ?_
      rotate_left
      · (intro w hSw; go_simp; (try with_reducible rfl))
      simp only [Act.put, List.getElem_toArray, List.getElem_cons_zero, List.getElem_cons_succ, List.setIfInBounds_toArray, List.set_cons_zero, List.set_cons_succ]
      refine wpAnyH_done (by kernel_rfl) ?_ _
      have k3 : (W9.setRow g5 csC).cell? ⟨g3, 12, none⟩ = some (.int .i64 17) := by
        rw [hS3.cell, HCB.out, show (12 : Nat) = 12 + 0 from rfl, stC_pl _ _ _ _ (by omega)]; rfl
      have k5 : (W9.setRow g5 csC).cell? ⟨g5, 12, none⟩ = some (.int .i64 20) := (hA5.cell 12).trans hc12
      have hbF := keepB hHeld hb45
      generalize W9.setRow g5 csC = WF at k3 k5 hbF ⊢
      clear hHeld hS3 hA5 hBox
      go_wp2_with fail
      go_ret
      exact ⟨rfl, hbF⟩
  · skip
    obtain ⟨W7, hW7⟩ : ∃ W7, W7 = World.alloc W0 (.cells st0 29) := ⟨_, rfl⟩
    obtain ⟨g5, hg5⟩ : ∃ g, g = (World.heap W0).size := ⟨_, rfl⟩
    have hb7 : Below (World.heap W0).size W0 W7 := by rw [hW7]; exact (Below.refl _ _).alloc (Nat.le_refl _) _
    have hBox : StAt W7 g5 st0 := by rw [hW7, hg5]; exact heap_alloc_new _ _
    have hg5w : w5.heap.size ≤ g5 := by rw [hg5]; exact hHeld.size
    have hHeld := keepB hb7 hHeld
    rw [← hW7, ← hg5]
    clear hW7 hg5
    refine hK.out _ _ hHeld (fun _ => ?_)
    clear hK K
    try simp only [Act.put, List.setIfInBounds_toArray, List.set_cons_zero, List.set_cons_succ]
    refine wpAnyH_ready (rs := [2]) (by kernel_rfl) (by simp) ?_
    refine AllReadyH.cons rfl (fun K hK => ?_) AllReadyH.nil
    simp only [List.getElem_toArray, List.getElem_cons_zero, List.getElem_cons_succ]
    go_simp
    refine (HInv.out _ hHeld).mono ?_
    rintro en W8 ⟨rfl, hb8⟩
    go_wp2_with fail
    have hHeld := keepB hb8 hHeld
    refine hK.out _ _ hHeld (fun _ => ?_)
    clear hK K
    try simp only [Act.put, List.setIfInBounds_toArray, List.set_cons_zero, List.set_cons_succ]
    have hBox := hBox.keep hb8
    refine wpAnyH_ready (rs := [3]) (by kernel_rfl) (by simp) ?_
    refine AllReadyH.cons rfl (fun K hK => ?_) AllReadyH.nil
    simp only [List.getElem_toArray, List.getElem_cons_zero, List.getElem_cons_succ]
    go_simp
    refine (HApp.out _ hHeld).mono ?_
    rintro en W9 ⟨csC, OC, LC, rfl, hRC, _, hb9⟩
    go_wp2_with fail
    have hHeld := keepB hb9 hHeld
    have hc37 : csC.size = 37 := hRC.size
    have hc12 : csC[12]? = some (.int .i64 20) := by rw [hRC.cs, show (12 : Nat) = 12 + 0 from rfl, stC_pl _ _ _ _ (by omega), apply_eB.2]
    have hcone := hRC.one
    clear hRC
    refine hK.out _ _ hHeld (fun _ => ?_)
    clear hK K
    try simp only [Act.put, List.setIfInBounds_toArray, List.set_cons_zero, List.set_cons_succ]
    have hBox := hBox.keep hb9
    refine wpAnyH_take (i := 4) (v := ?_) rfl (by kernel_rfl) (by kernel_rfl) (by kernel_rfl) (fun _ _ _ h => h) (Or.inl ⟨by rfl, ?_⟩) hHeld ?_
    rotate_left
    · (intro w hSw; go_simp; (try with_reducible rfl))
    simp only [Act.put, List.getElem_toArray, List.getElem_cons_zero, List.getElem_cons_succ, List.setIfInBounds_toArray, List.set_cons_zero, List.set_cons_succ]
    refine wpAnyH_take (i := 5) (v := ?_) rfl (by kernel_rfl) (by kernel_rfl) (by kernel_rfl) (fun _ _ _ h => h) (Or.inl ⟨by rfl, ?_⟩) hHeld ?_
    rotate_left
    · (intro w hSw; go_simp; (try with_reducible rfl))
    simp only [Act.put, List.getElem_toArray, List.getElem_cons_zero, List.getElem_cons_succ, List.setIfInBounds_toArray, List.set_cons_zero, List.set_cons_succ]
    refine wpAnyH_take (i := 6) (v := ?_) rfl (by kernel_rfl) (by kernel_rfl) (by kernel_rfl) (fun _ _ _ h => h) (Or.inl ⟨by rfl, ?_⟩) hHeld ?_
    rotate_left
    · (intro w hSw; go_simp; (try with_reducible rfl))
    simp only [Act.put, List.getElem_toArray, List.getElem_cons_zero, List.getElem_cons_succ, List.setIfInBounds_toArray, List.set_cons_zero, List.set_cons_succ]
    refine wpAnyH_ready (rs := [8]) (by kernel_rfl) (by simp) ?_
    refine AllReadyH.cons rfl (fun K hK => ?_) AllReadyH.nil
    simp only [List.getElem_toArray, List.getElem_cons_zero, List.getElem_cons_succ]
    refine wp_store_row 29 (.tmp 5) (.tmp 23) rfl g5 _ rfl rfl 29 _ hBox (by rw [hc37]; exact size37) (by rw [hc37]; exact stC_size _ _ _ _) hcone ?_
    have hA5 : StAt (W9.setRow g5 csC) g5 csC := setRow_heap _ _ _ _ _ _ hBox
    have hHeld := below_setRow hHeld g5 csC hg5w
    have hS3 := HS5.out.keep hHeld
    refine hK.out _ _ hHeld (fun _ => ?_)
    clear hK K
    try simp only [Act.put, List.setIfInBounds_toArray, List.set_cons_zero, List.set_cons_succ]
    refine wpAnyH_take (i := 9) (v := ?_) rfl (by kernel_rfl) (by kernel_rfl) (by kernel_rfl) (fun _ _ _ h => h) (Or.inl ⟨by rfl, ?_⟩) hHeld ?_
    rotate_left
    · (intro w hSw; go_simp; (try with_reducible rfl))
    simp only [Act.put, List.getElem_toArray, List.getElem_cons_zero, List.getElem_cons_succ, List.setIfInBounds_toArray, List.set_cons_zero, List.set_cons_succ]
    refine wpAnyH_done (by kernel_rfl) ?_ _
    have k3 : (W9.setRow g5 csC).cell? ⟨g3, 12, none⟩ = some (.int .i64 17) := by
      rw [hS3.cell, HCB.out, show (12 : Nat) = 12 + 0 from rfl, stC_pl _ _ _ _ (by omega)]; rfl
    have k5 : (W9.setRow g5 csC).cell? ⟨g5, 12, none⟩ = some (.int .i64 20) := (hA5.cell 12).trans hc12
    have hbF := keepB hHeld hb45
    generalize W9.setRow g5 csC = WF at k3 k5 hbF ⊢
    clear hHeld hS3 hA5 hBox
    go_wp2_with fail
    go_ret
    exact ⟨rfl, hbF⟩
end Go.Proofs.Ythedopnhhanknaa
