/- Layer 3: PackBack, walked over what the calls answer. -/
import Derived.Test.YtbnmajajnjphpaaDoorPackLaws3
namespace Go.Proofs.YtbnmajajnjphpaaDoor
open Go.RowKit Px
attribute [local go_sem] arr_get
theorem load_want {P : Program} {ops : Array Oper} {rest : List Oper} {o : Oper} {a : Act} {w : World} {Q : Exit → Act → World → Prop} (hw : Region.wanted o (yielded ops a.tmps) = true) (ty : TypeId) (x : Operand) (ho : o.op = .load ty x)
    (g : Nat) (hx : a.eval x = .pointer (some ⟨g, 0, none⟩)) (t : TypeId) (cs : Array Value) (fr : Nat × Nat) (d : TypeDesc) (hg : w.heap[g]? = some (.cells cs t fr))
    (hu : P.underlying ty = some d) (hd : (match d with | .struct _ | .array _ _ => true | _ => false) = true) (hi : (P.info? ty).map (·.size) = some cs.size)
    (h : wpList P ops Q rest (a.put o.dst (.agg cs)) w) : wpList P ops Q (o :: rest) a w :=
  BigFrame.wpList_want hw fun _ hK => wp_load_row ty x ho g hx t cs fr d hg hu hd hi (hK _ _ h)
theorem eq9i (f g : Nat → Int) (h : ∀ i, i < 9 → f i = g i) (W : World) : (binOp .eql 33 (.agg (arr .i64 9 f)) (.agg (arr .i64 9 g))).run Tryd.prog W = .ok (.bool true) W := by
  rw [run_eql_arr W 33 3 .i64 9 Tryd.underlying33 Tryd.underlying3 (fun _ => by kernel_rfl) f g, sameI_iff.2 h]
theorem neq18 (f g : Nat → Int) (h : ∀ i, i < 18 → f i = g i) (W : World) : (binOp .neq 23 (.agg (arr .i64 18 f)) (.agg (arr .i64 18 g))).run Tryd.prog W = .ok (.bool false) W := by
  rw [run_neq_arr W 23 3 .i64 18 Tryd.underlying23 Tryd.underlying3 (fun _ => by kernel_rfl) f g, sameI_iff.2 h]; rfl
theorem objF_range {x : Int} (r : Nat → Int) (_ : 0 ≤ x) (_ : x < 2097152) (hr : ∀ i, i < 9 → -9223372036854775808 ≤ r i ∧ r i ≤ 9223372036854775807) : ∀ i, i < 18 → -9223372036854775808 ≤ objF x r i ∧ objF x r i ≤ 9223372036854775807 := by
  refine all18 (all9 ?_ ?_ ?_ ?_ ?_ ?_ ?_ ?_ ?_) (all9 ?_ ?_ ?_ ?_ ?_ ?_ ?_ ?_ ?_)
  all_goals simp only [objF, objL, List.getD_cons_succ, List.getD_cons_zero, Nat.reduceAdd]
  all_goals first | omega | exact hr _ (by omega)
theorem restF_range {o : Nat → Int} (hr : ∀ i, i < 18 → -9223372036854775808 ≤ o i ∧ o i ≤ 9223372036854775807) : ∀ i, i < 9 → -9223372036854775808 ≤ restF o i ∧ restF o i ≤ 9223372036854775807 :=
  all9 (hr _ (by omega)) (hr _ (by omega)) (hr _ (by omega)) (hr _ (by omega)) (hr _ (by omega)) (hr _ (by omega)) (hr _ (by omega)) (hr _ (by omega)) (hr _ (by omega))
theorem headP {b : World} (S : PackSaid b) {x : Int} {o : Nat → Int} (h0 : 0 ≤ x) (h1 : x < 2097152) (hr : ∀ i, i < 18 → -9223372036854775808 ≤ o i ∧ o i ≤ 9223372036854775807) (w : World) (hw : Below b.heap.size b w) :
    Calls Tryd.prog 8 #[.agg (arr .i64 18 (objF x (restF o)))] w fun e w' => e = .returned (.tuple #[.int .u32 x, .nilIface]) ∧ Below w.heap.size w w' := by
  have h := head_ok S.toHeadSaid (objF_range (restF o) h0 h1 (restF_range hr)) (head_back h0 h1 (restF o)).1 w hw
  rwa [(head_back h0 h1 (restF o)).2.1] at h
theorem restP {b : World} (S : PackSaid b) {x : Int} (h0 : 0 ≤ x) (h1 : x < 2097152) (o : Nat → Int) (w : World) (hw : Below b.heap.size b w) :
    Calls Tryd.prog 11 #[.agg (arr .i64 18 (objF x (restF o)))] w fun e w' => e = .returned (.agg (arr .i64 9 (restF o))) ∧ Below w.heap.size w w' := by
  have h := S.rest (objF x (restF o)) w hw
  rwa [arr_congr (head_back h0 h1 (restF o)).2.2] at h
set_option linter.unusedSimpArgs false in
set_option maxRecDepth 100000 in
set_option maxHeartbeats 2000000 in
theorem packBack_a {w : World} (S : PackSaid w) (o : Nat → Int) (hr : ∀ i, i < 18 → -9223372036854775808 ≤ o i ∧ o i ≤ 9223372036854775807) (hf : Fit o 9) (x : Int) (h0 : 0 ≤ x) (h1 : x < 2097152) :
    Calls Tryd.prog 6 #[.agg (arr .i64 18 o), .int .u32 x] w fun e w' => e = .returned (.bool true) ∧ Below w.heap.size w w' := by
  have HF := Lib.hid hf
  clear hf
  have hz := zero18
  have hsz : ∀ f, (Tryd.prog.info? 23).map (·.size) = some (arr .i64 18 f).size := fun f => by rw [arr_size]; exact size18
  go_enter Tryd.func6, Tryd.ntmps6
  go_wp2_with fail
  refine (alive_true S.toHeadSaid _ ((Below.refl _ _).alloc (Nat.le_refl _) _)).mono ?_
  rintro e w1 ⟨rfl, hb1⟩
  have ha1 := (ArrAt.new w .i64 18 23 o).keep hb1
  have hbel1 : Below w.heap.size w w1 := ((Below.refl _ _).alloc (Nat.le_refl _) _).trans (hb1.mono (by simp))
  clear hb1
  go_wp2_with (refine wpList_load_row rfl 23 (.tmp 2) rfl w.heap.size rfl 23 _ (0, 0) _ ha1 Tryd.underlying23 rfl (hsz _) ?_)
  refine (head_ok S.toHeadSaid hr HF.out _ hbel1).mono ?_
  rintro e w2 ⟨rfl, hb2⟩
  have ha2 := ha1.keep hb2
  have hbel2 := keepB hb2 hbel1
  have hsum := sumH_range 9 (by omega) HF.out
  rw [show wN 9 = 2097152 by decide] at hsum
  obtain ⟨hs0, hs1⟩ := hsum
  have HO := Lib.hid (obj_back HF.out)
  clear hb2 ha1 hbel1
  go_wp2_with (refine wpList_load_row rfl 23 (.tmp 2) rfl w.heap.size rfl 23 _ (0, 0) _ ha2 Tryd.underlying23 rfl (hsz _) ?_)
  refine (S.rest o _ hbel2).mono ?_
  rintro e w3 ⟨rfl, hb3⟩
  have ha3 := ha2.keep hb3
  have hbel3 := keepB hb3 hbel2
  clear hb3 ha2 hbel2
  go_wp2_with fail
  refine (object_ok S (restF o) hs0 hs1 _ hbel3).mono ?_
  rintro e w4 ⟨rfl, hb4⟩
  have ha4 := ha3.keep hb4
  have hbel4 := keepB hb4 hbel3
  clear hb4 ha3 hbel3
  obtain ⟨w5, hw5, hn5, hb5⟩ := laid_new w4 .i64 18 23 (fun _ => 0) (objF (sumH o 9) (restF o))
  go_upto_region 6 with (refine wpList_store_row rfl 23 (.tmp 7) (.tmp 25) rfl w4.heap.size _ rfl rfl 23 (arr .i64 18 (fun _ => 0)) (heap_alloc_new _ _) (hsz _) (by simp only [arr_size]) (arr_one _ _ _) ?_)
  rw [← hw5]
  have ha5 := ha4.keep hb5
  have hbel5 := keepB hb5 hbel4
  have hne := neq18 _ _ HO.out
  clear hb5 ha4 hbel4 hw5
  go_wp2_with (first
    | (refine load_want (by rfl) 23 (.tmp 7) rfl w4.heap.size rfl 23 _ (0, 0) _ hn5 Tryd.underlying23 rfl (hsz _) ?_)
    | (refine load_want (by rfl) 23 (.tmp 2) rfl w.heap.size rfl 23 _ (0, 0) _ ha5 Tryd.underlying23 rfl (hsz _) ?_))
  clear hne
  refine (S.rest o _ hbel5).mono ?_
  rintro e w6 ⟨rfl, hb6⟩
  have ha6 := (ha5).keep hb6
  have hbel6 := keepB hb6 hbel5
  clear hb6 ha5 hbel5
  go_wp2_with fail
  refine (object_ok S (restF o) h0 h1 _ hbel6).mono ?_
  rintro e w7 ⟨rfl, hb7⟩
  have ha7 := ha6.keep hb7
  have hbel7 := keepB hb7 hbel6
  clear hb7 ha6 hbel6
  obtain ⟨w8, hw8, hn8, hb8⟩ := laid_new w7 .i64 18 23 (fun _ => 0) (objF x (restF o))
  go_upto_region 9 with (refine wpList_store_row rfl 23 (.tmp 9) (.tmp 39) rfl w7.heap.size _ rfl rfl 23 (arr .i64 18 (fun _ => 0)) (heap_alloc_new _ _) (hsz _) (by simp only [arr_size]) (arr_one _ _ _) ?_)
  rw [← hw8]
  have ha8 := ha7.keep hb8
  have hbel8 := keepB hb8 hbel7
  clear hb8 ha7 hbel7 hw8
  go_wp2_with (refine load_want (by rfl) 23 (.tmp 9) rfl w7.heap.size rfl 23 _ (0, 0) _ hn8 Tryd.underlying23 rfl (hsz _) ?_)
  refine (headP S h0 h1 hr _ hbel8).mono ?_
  rintro e w9 ⟨rfl, hb9⟩
  have ha9 := ha8.keep hb9
  have hn9 := hn8.keep hb9
  have hbel9 := keepB hb9 hbel8
  clear hb9 ha8 hn8 hbel8 hz
  have heq := eq9i (restF o) (restF o) (fun _ _ => rfl)
  go_wp2_with fail
  refine region_below (by kernel_rfl) (fun hHeld => ?_)
  refine wpAnyH_take (i := 0) (v := ?_) rfl (by kernel_rfl) (by kernel_rfl) (by kernel_rfl) (fun _ _ _ h => h) (Or.inl ⟨by rfl, ?_⟩) hHeld ?_
  rotate_left
  · (intro w hSw; go_simp; (try with_reducible rfl))
  simp only [Act.put, List.getElem_toArray, List.getElem_cons_zero, List.getElem_cons_succ, List.setIfInBounds_toArray, List.set_cons_zero, List.set_cons_succ]
  refine wpAnyH_take (i := 1) (v := ?_) rfl (by kernel_rfl) (by kernel_rfl) (by kernel_rfl) (fun _ _ _ h => h) (Or.inl ⟨by rfl, ?_⟩) hHeld ?_
  rotate_left
  · (intro w hSw; go_simp; (try with_reducible rfl))
  simp only [Act.put, List.getElem_toArray, List.getElem_cons_zero, List.getElem_cons_succ, List.setIfInBounds_toArray, List.set_cons_zero, List.set_cons_succ]
  refine wpAnyH_take (i := 2) (v := ?_) rfl (by kernel_rfl) (by kernel_rfl) (by kernel_rfl) (fun _ _ _ h => h) (Or.inl ⟨by rfl, ?_⟩) hHeld ?_
  rotate_left
  · (intro w hSw; go_simp; (try with_reducible rfl))
  simp only [Act.put, List.getElem_toArray, List.getElem_cons_zero, List.getElem_cons_succ, List.setIfInBounds_toArray, List.set_cons_zero, List.set_cons_succ]
  refine wpAnyH_take (i := 3) (v := ?_) rfl (by kernel_rfl) (by kernel_rfl) (by kernel_rfl) (fun _ _ _ h => h) (Or.inl ⟨by rfl, ?_⟩) hHeld ?_
  rotate_left
  · (intro w hSw; go_simp; (try with_reducible rfl))
  simp only [Act.put, List.getElem_toArray, List.getElem_cons_zero, List.getElem_cons_succ, List.setIfInBounds_toArray, List.set_cons_zero, List.set_cons_succ]
  refine wpAnyH_take (i := 4) (v := ?_) rfl (by kernel_rfl) (by kernel_rfl) (by kernel_rfl) (fun _ _ _ h => h) (Or.inl ⟨by rfl, ?_⟩) hHeld ?_
  rotate_left
  · (intro w hSw; go_simp; (try with_reducible rfl))
  simp only [Act.put, List.getElem_toArray, List.getElem_cons_zero, List.getElem_cons_succ, List.setIfInBounds_toArray, List.set_cons_zero, List.set_cons_succ]
  refine wpAnyH_take (i := 5) (v := ?_) rfl (by kernel_rfl) (by kernel_rfl) (by kernel_rfl) (fun _ _ _ h => h) (Or.inl ⟨by rfl, ?_⟩) hHeld ?_
  rotate_left
  · (intro w hSw; go_simp; (try with_reducible rfl))
  simp only [Act.put, List.getElem_toArray, List.getElem_cons_zero, List.getElem_cons_succ, List.setIfInBounds_toArray, List.set_cons_zero, List.set_cons_succ]
  refine wpAnyH_take (i := 6) (v := ?_) rfl (by kernel_rfl) (by kernel_rfl) (by kernel_rfl) (fun _ _ _ h => h) (Or.inl ⟨by rfl, ?_⟩) hHeld ?_
  rotate_left
  · (intro w hSw; go_simp; (try with_reducible rfl))
  simp only [Act.put, List.getElem_toArray, List.getElem_cons_zero, List.getElem_cons_succ, List.setIfInBounds_toArray, List.set_cons_zero, List.set_cons_succ]
  refine wpAnyH_take (i := 7) (v := ?_) rfl (by kernel_rfl) (by kernel_rfl) (by kernel_rfl) (fun _ _ _ h => h) (Or.inl ⟨by rfl, ?_⟩) hHeld ?_
  rotate_left
  · (intro w hSw; go_simp; (try with_reducible rfl))
  simp only [Act.put, List.getElem_toArray, List.getElem_cons_zero, List.getElem_cons_succ, List.setIfInBounds_toArray, List.set_cons_zero, List.set_cons_succ]
  refine wpAnyH_take (i := 8) (v := .agg (arr .i64 18 (objF x (restF o)))) rfl (by kernel_rfl) (by kernel_rfl) (by kernel_rfl) (fun _ _ _ h => h) (yieldsIf_load (by rfl) 23 (.tmp 9) rfl w7.heap.size rfl (fun W hW => hn9.keep hW) Tryd.underlying23 size18) hHeld ?_
  simp only [Act.put, List.getElem_toArray, List.getElem_cons_zero, List.getElem_cons_succ, List.setIfInBounds_toArray, List.set_cons_zero, List.set_cons_succ]
  refine wpAnyH_take (i := 10) (v := .agg (arr .i64 18 o)) rfl (by kernel_rfl) (by kernel_rfl) (by kernel_rfl) (fun _ _ _ h => h) (yieldsIf_load (by rfl) 23 (.tmp 2) rfl w.heap.size rfl (fun W hW => ha9.keep hW) Tryd.underlying23 size18) hHeld ?_
  simp only [Act.put, List.getElem_toArray, List.getElem_cons_zero, List.getElem_cons_succ, List.setIfInBounds_toArray, List.set_cons_zero, List.set_cons_succ]
  refine wpAnyH_ready (rs := [9]) (by kernel_rfl) (by simp) ?_
  refine AllReadyH.cons rfl (fun K hK => ?_) AllReadyH.nil
  simp only [List.getElem_toArray, List.getElem_cons_zero, List.getElem_cons_succ]
  go_simp
  refine (restP S h0 h1 o _ (keepB hHeld hbel9)).mono ?_
  rintro e w10 ⟨rfl, hb10⟩
  go_wp2_with fail
  have hB10 := keepB hb10 hHeld
  refine hK.out _ _ hB10 (fun _ => ?_)
  clear hK K
  try simp only [Act.put, List.setIfInBounds_toArray, List.set_cons_zero, List.set_cons_succ]
  refine anyH_rebase hB10 (fun hHeld => ?_)
  refine wpAnyH_ready (rs := [11]) (by kernel_rfl) (by simp) ?_
  refine AllReadyH.cons rfl (fun K hK => ?_) AllReadyH.nil
  simp only [List.getElem_toArray, List.getElem_cons_zero, List.getElem_cons_succ]
  go_simp
  refine (S.rest o _ (keepB hB10 hbel9)).mono ?_
  rintro e w11 ⟨rfl, hb11⟩
  go_wp2_with fail
  have hB11 := keepB hb11 hHeld
  refine hK.out _ _ hB11 (fun _ => ?_)
  clear hK K
  try simp only [Act.put, List.setIfInBounds_toArray, List.set_cons_zero, List.set_cons_succ]
  refine anyH_rebase hB11 (fun hHeld => ?_)
  refine wpAnyH_take (i := 12) (v := ?_) rfl (by kernel_rfl) (by kernel_rfl) (by kernel_rfl) (fun _ _ _ h => h) (Or.inl ⟨by rfl, ?_⟩) hHeld ?_
  rotate_left
  · (intro w hSw; go_simp; (try with_reducible rfl))
  simp only [Act.put, List.getElem_toArray, List.getElem_cons_zero, List.getElem_cons_succ, List.setIfInBounds_toArray, List.set_cons_zero, List.set_cons_succ]
  refine wpAnyH_take (i := 13) (v := ?_) rfl (by kernel_rfl) (by kernel_rfl) (by kernel_rfl) (fun _ _ _ h => h) (Or.inl ⟨by rfl, ?_⟩) hHeld ?_
  rotate_left
  · (intro w hSw; go_simp; (try with_reducible rfl))
  simp only [Act.put, List.getElem_toArray, List.getElem_cons_zero, List.getElem_cons_succ, List.setIfInBounds_toArray, List.set_cons_zero, List.set_cons_succ]
  refine wpAnyH_take (i := 14) (v := ?_) rfl (by kernel_rfl) (by kernel_rfl) (by kernel_rfl) (fun _ _ _ h => h) (Or.inl ⟨by rfl, ?_⟩) hHeld ?_
  rotate_left
  · (intro w hSw; go_simp; (try with_reducible rfl))
  simp only [Act.put, List.getElem_toArray, List.getElem_cons_zero, List.getElem_cons_succ, List.setIfInBounds_toArray, List.set_cons_zero, List.set_cons_succ]
  refine wpAnyH_done (by kernel_rfl) ?_ _
  have hbel11 := hbel9.trans ((hB10.trans (hB11.mono hB10.size)).mono hbel9.size)
  go_wp2_with fail
  go_ret
  exact ⟨rfl, hbel11⟩
set_option linter.unusedSimpArgs false in
set_option maxRecDepth 100000 in
set_option maxHeartbeats 2000000 in
theorem packBack_b {w : World} (S : PackSaid w) (o : Nat → Int) (hr : ∀ i, i < 18 → -9223372036854775808 ≤ o i ∧ o i ≤ 9223372036854775807) (hf : Fit o 9) (x : Int) (h0 : 2097152 ≤ x) (h1 : x < 4294967296) :
    Calls Tryd.prog 6 #[.agg (arr .i64 18 o), .int .u32 x] w fun e w' => e = .returned (.bool true) ∧ Below w.heap.size w w' := by
  have HF := Lib.hid hf
  clear hf
  have hz := zero18
  have hsz : ∀ f, (Tryd.prog.info? 23).map (·.size) = some (arr .i64 18 f).size := fun f => by rw [arr_size]; exact size18
  go_enter Tryd.func6, Tryd.ntmps6
  go_wp2_with fail
  refine (alive_true S.toHeadSaid _ ((Below.refl _ _).alloc (Nat.le_refl _) _)).mono ?_
  rintro e w1 ⟨rfl, hb1⟩
  have ha1 := (ArrAt.new w .i64 18 23 o).keep hb1
  have hbel1 : Below w.heap.size w w1 := ((Below.refl _ _).alloc (Nat.le_refl _) _).trans (hb1.mono (by simp))
  clear hb1
  go_wp2_with (refine wpList_load_row rfl 23 (.tmp 2) rfl w.heap.size rfl 23 _ (0, 0) _ ha1 Tryd.underlying23 rfl (hsz _) ?_)
  refine (head_ok S.toHeadSaid hr HF.out _ hbel1).mono ?_
  rintro e w2 ⟨rfl, hb2⟩
  have ha2 := ha1.keep hb2
  have hbel2 := keepB hb2 hbel1
  have hsum := sumH_range 9 (by omega) HF.out
  rw [show wN 9 = 2097152 by decide] at hsum
  obtain ⟨hs0, hs1⟩ := hsum
  have HO := Lib.hid (obj_back HF.out)
  clear hb2 ha1 hbel1
  go_wp2_with (refine wpList_load_row rfl 23 (.tmp 2) rfl w.heap.size rfl 23 _ (0, 0) _ ha2 Tryd.underlying23 rfl (hsz _) ?_)
  refine (S.rest o _ hbel2).mono ?_
  rintro e w3 ⟨rfl, hb3⟩
  have ha3 := ha2.keep hb3
  have hbel3 := keepB hb3 hbel2
  clear hb3 ha2 hbel2
  go_wp2_with fail
  refine (object_ok S (restF o) hs0 hs1 _ hbel3).mono ?_
  rintro e w4 ⟨rfl, hb4⟩
  have ha4 := ha3.keep hb4
  have hbel4 := keepB hb4 hbel3
  clear hb4 ha3 hbel3
  obtain ⟨w5, hw5, hn5, hb5⟩ := laid_new w4 .i64 18 23 (fun _ => 0) (objF (sumH o 9) (restF o))
  go_upto_region 6 with (refine wpList_store_row rfl 23 (.tmp 7) (.tmp 25) rfl w4.heap.size _ rfl rfl 23 (arr .i64 18 (fun _ => 0)) (heap_alloc_new _ _) (hsz _) (by simp only [arr_size]) (arr_one _ _ _) ?_)
  rw [← hw5]
  have ha5 := ha4.keep hb5
  have hbel5 := keepB hb5 hbel4
  have hne := neq18 _ _ HO.out
  clear hb5 ha4 hbel4 hw5
  go_wp2_with (first
    | (refine load_want (by rfl) 23 (.tmp 7) rfl w4.heap.size rfl 23 _ (0, 0) _ hn5 Tryd.underlying23 rfl (hsz _) ?_)
    | (refine load_want (by rfl) 23 (.tmp 2) rfl w.heap.size rfl 23 _ (0, 0) _ ha5 Tryd.underlying23 rfl (hsz _) ?_))
  clear hne
  refine (S.rest o _ hbel5).mono ?_
  rintro e w6 ⟨rfl, hb6⟩
  have hbel6 := keepB hb6 hbel5
  clear hb6 ha5 hbel5
  go_wp2_with fail
  refine (object_bad S (restF o) h0 h1 _ hbel6).mono ?_
  rintro e w7 ⟨rfl, hb7⟩
  have hbel7 := keepB hb7 hbel6
  clear hb7 hbel6
  obtain ⟨w8, hw8, hn8, hb8⟩ := laid_new w7 .i64 18 23 (fun _ => 0) (fun _ => 0)
  go_upto_region 9 with (refine wpList_store_row rfl 23 (.tmp 9) (.tmp 39) rfl w7.heap.size _ rfl rfl 23 (arr .i64 18 (fun _ => 0)) (heap_alloc_new _ _) (hsz _) (by simp only [arr_size]) (arr_one _ _ _) ?_)
  rw [← hw8]
  have hbel8 := keepB hb8 hbel7
  have heq := eq18 (fun _ => 0) (fun _ => 0) (fun _ _ => rfl)
  clear hb8 hbel7 hw8
  go_wp2_with (refine load_want (by rfl) 23 (.tmp 9) rfl w7.heap.size rfl 23 _ (0, 0) _ hn8 Tryd.underlying23 rfl (hsz _) ?_)
  go_ret
  exact ⟨rfl, hbel8⟩
set_option linter.unusedSimpArgs false in
set_option maxRecDepth 100000 in
set_option maxHeartbeats 2000000 in
theorem packBack_c {w : World} (S : PackSaid w) (o : Nat → Int) (hr : ∀ i, i < 18 → -9223372036854775808 ≤ o i ∧ o i ≤ 9223372036854775807) (hf : ¬ Fit o 9) (x : Int) (h0 : 0 ≤ x) (h1 : x < 2097152) :
    Calls Tryd.prog 6 #[.agg (arr .i64 18 o), .int .u32 x] w fun e w' => e = .returned (.bool true) ∧ Below w.heap.size w w' := by
  have HF := Lib.hid hf
  clear hf
  have hz := zero18
  have hsz : ∀ f, (Tryd.prog.info? 23).map (·.size) = some (arr .i64 18 f).size := fun f => by rw [arr_size]; exact size18
  go_enter Tryd.func6, Tryd.ntmps6
  go_wp2_with fail
  refine (alive_true S.toHeadSaid _ ((Below.refl _ _).alloc (Nat.le_refl _) _)).mono ?_
  rintro e w1 ⟨rfl, hb1⟩
  have ha1 := (ArrAt.new w .i64 18 23 o).keep hb1
  have hbel1 : Below w.heap.size w w1 := ((Below.refl _ _).alloc (Nat.le_refl _) _).trans (hb1.mono (by simp))
  clear hb1
  go_wp2_with (refine wpList_load_row rfl 23 (.tmp 2) rfl w.heap.size rfl 23 _ (0, 0) _ ha1 Tryd.underlying23 rfl (hsz _) ?_)
  refine (head_bad S.toHeadSaid hr HF.out _ hbel1).mono ?_
  rintro e w2 ⟨rfl, hb2⟩
  have ha2 := ha1.keep hb2
  have hbel2 := keepB hb2 hbel1
  clear hb2 ha1 hbel1
  go_wp2_with (refine load_want (by rfl) 23 (.tmp 2) rfl w.heap.size rfl 23 _ (0, 0) _ ha2 Tryd.underlying23 rfl (hsz _) ?_)
  refine (S.rest o _ hbel2).mono ?_
  rintro e w6 ⟨rfl, hb6⟩
  have ha6 := (ha2).keep hb6
  have hbel6 := keepB hb6 hbel2
  clear hb6 ha2 hbel2
  go_wp2_with fail
  refine (object_ok S (restF o) h0 h1 _ hbel6).mono ?_
  rintro e w7 ⟨rfl, hb7⟩
  have ha7 := ha6.keep hb7
  have hbel7 := keepB hb7 hbel6
  clear hb7 ha6 hbel6
  obtain ⟨w8, hw8, hn8, hb8⟩ := laid_new w7 .i64 18 23 (fun _ => 0) (objF x (restF o))
  go_upto_region 9 with (refine wpList_store_row rfl 23 (.tmp 9) (.tmp 39) rfl w7.heap.size _ rfl rfl 23 (arr .i64 18 (fun _ => 0)) (heap_alloc_new _ _) (hsz _) (by simp only [arr_size]) (arr_one _ _ _) ?_)
  rw [← hw8]
  have ha8 := ha7.keep hb8
  have hbel8 := keepB hb8 hbel7
  clear hb8 ha7 hbel7 hw8
  go_wp2_with (refine load_want (by rfl) 23 (.tmp 9) rfl w7.heap.size rfl 23 _ (0, 0) _ hn8 Tryd.underlying23 rfl (hsz _) ?_)
  refine (headP S h0 h1 hr _ hbel8).mono ?_
  rintro e w9 ⟨rfl, hb9⟩
  have ha9 := ha8.keep hb9
  have hn9 := hn8.keep hb9
  have hbel9 := keepB hb9 hbel8
  clear hb9 ha8 hn8 hbel8 hz
  have heq := eq9i (restF o) (restF o) (fun _ _ => rfl)
  go_wp2_with fail
  refine region_below (by kernel_rfl) (fun hHeld => ?_)
  refine wpAnyH_take (i := 0) (v := ?_) rfl (by kernel_rfl) (by kernel_rfl) (by kernel_rfl) (fun _ _ _ h => h) (Or.inl ⟨by rfl, ?_⟩) hHeld ?_
  rotate_left
  · (intro w hSw; go_simp; (try with_reducible rfl))
  simp only [Act.put, List.getElem_toArray, List.getElem_cons_zero, List.getElem_cons_succ, List.setIfInBounds_toArray, List.set_cons_zero, List.set_cons_succ]
  refine wpAnyH_take (i := 1) (v := ?_) rfl (by kernel_rfl) (by kernel_rfl) (by kernel_rfl) (fun _ _ _ h => h) (Or.inl ⟨by rfl, ?_⟩) hHeld ?_
  rotate_left
  · (intro w hSw; go_simp; (try with_reducible rfl))
  simp only [Act.put, List.getElem_toArray, List.getElem_cons_zero, List.getElem_cons_succ, List.setIfInBounds_toArray, List.set_cons_zero, List.set_cons_succ]
  refine wpAnyH_take (i := 2) (v := ?_) rfl (by kernel_rfl) (by kernel_rfl) (by kernel_rfl) (fun _ _ _ h => h) (Or.inl ⟨by rfl, ?_⟩) hHeld ?_
  rotate_left
  · (intro w hSw; go_simp; (try with_reducible rfl))
  simp only [Act.put, List.getElem_toArray, List.getElem_cons_zero, List.getElem_cons_succ, List.setIfInBounds_toArray, List.set_cons_zero, List.set_cons_succ]
  refine wpAnyH_take (i := 3) (v := ?_) rfl (by kernel_rfl) (by kernel_rfl) (by kernel_rfl) (fun _ _ _ h => h) (Or.inl ⟨by rfl, ?_⟩) hHeld ?_
  rotate_left
  · (intro w hSw; go_simp; (try with_reducible rfl))
  simp only [Act.put, List.getElem_toArray, List.getElem_cons_zero, List.getElem_cons_succ, List.setIfInBounds_toArray, List.set_cons_zero, List.set_cons_succ]
  refine wpAnyH_take (i := 4) (v := ?_) rfl (by kernel_rfl) (by kernel_rfl) (by kernel_rfl) (fun _ _ _ h => h) (Or.inl ⟨by rfl, ?_⟩) hHeld ?_
  rotate_left
  · (intro w hSw; go_simp; (try with_reducible rfl))
  simp only [Act.put, List.getElem_toArray, List.getElem_cons_zero, List.getElem_cons_succ, List.setIfInBounds_toArray, List.set_cons_zero, List.set_cons_succ]
  refine wpAnyH_take (i := 5) (v := ?_) rfl (by kernel_rfl) (by kernel_rfl) (by kernel_rfl) (fun _ _ _ h => h) (Or.inl ⟨by rfl, ?_⟩) hHeld ?_
  rotate_left
  · (intro w hSw; go_simp; (try with_reducible rfl))
  simp only [Act.put, List.getElem_toArray, List.getElem_cons_zero, List.getElem_cons_succ, List.setIfInBounds_toArray, List.set_cons_zero, List.set_cons_succ]
  refine wpAnyH_take (i := 6) (v := ?_) rfl (by kernel_rfl) (by kernel_rfl) (by kernel_rfl) (fun _ _ _ h => h) (Or.inl ⟨by rfl, ?_⟩) hHeld ?_
  rotate_left
  · (intro w hSw; go_simp; (try with_reducible rfl))
  simp only [Act.put, List.getElem_toArray, List.getElem_cons_zero, List.getElem_cons_succ, List.setIfInBounds_toArray, List.set_cons_zero, List.set_cons_succ]
  refine wpAnyH_take (i := 7) (v := ?_) rfl (by kernel_rfl) (by kernel_rfl) (by kernel_rfl) (fun _ _ _ h => h) (Or.inl ⟨by rfl, ?_⟩) hHeld ?_
  rotate_left
  · (intro w hSw; go_simp; (try with_reducible rfl))
  simp only [Act.put, List.getElem_toArray, List.getElem_cons_zero, List.getElem_cons_succ, List.setIfInBounds_toArray, List.set_cons_zero, List.set_cons_succ]
  refine wpAnyH_take (i := 8) (v := .agg (arr .i64 18 (objF x (restF o)))) rfl (by kernel_rfl) (by kernel_rfl) (by kernel_rfl) (fun _ _ _ h => h) (yieldsIf_load (by rfl) 23 (.tmp 9) rfl w7.heap.size rfl (fun W hW => hn9.keep hW) Tryd.underlying23 size18) hHeld ?_
  simp only [Act.put, List.getElem_toArray, List.getElem_cons_zero, List.getElem_cons_succ, List.setIfInBounds_toArray, List.set_cons_zero, List.set_cons_succ]
  refine wpAnyH_take (i := 10) (v := .agg (arr .i64 18 o)) rfl (by kernel_rfl) (by kernel_rfl) (by kernel_rfl) (fun _ _ _ h => h) (yieldsIf_load (by rfl) 23 (.tmp 2) rfl w.heap.size rfl (fun W hW => ha9.keep hW) Tryd.underlying23 size18) hHeld ?_
  simp only [Act.put, List.getElem_toArray, List.getElem_cons_zero, List.getElem_cons_succ, List.setIfInBounds_toArray, List.set_cons_zero, List.set_cons_succ]
  refine wpAnyH_ready (rs := [9]) (by kernel_rfl) (by simp) ?_
  refine AllReadyH.cons rfl (fun K hK => ?_) AllReadyH.nil
  simp only [List.getElem_toArray, List.getElem_cons_zero, List.getElem_cons_succ]
  go_simp
  refine (restP S h0 h1 o _ (keepB hHeld hbel9)).mono ?_
  rintro e w10 ⟨rfl, hb10⟩
  go_wp2_with fail
  have hB10 := keepB hb10 hHeld
  refine hK.out _ _ hB10 (fun _ => ?_)
  clear hK K
  try simp only [Act.put, List.setIfInBounds_toArray, List.set_cons_zero, List.set_cons_succ]
  refine anyH_rebase hB10 (fun hHeld => ?_)
  refine wpAnyH_ready (rs := [11]) (by kernel_rfl) (by simp) ?_
  refine AllReadyH.cons rfl (fun K hK => ?_) AllReadyH.nil
  simp only [List.getElem_toArray, List.getElem_cons_zero, List.getElem_cons_succ]
  go_simp
  refine (S.rest o _ (keepB hB10 hbel9)).mono ?_
  rintro e w11 ⟨rfl, hb11⟩
  go_wp2_with fail
  have hB11 := keepB hb11 hHeld
  refine hK.out _ _ hB11 (fun _ => ?_)
  clear hK K
  try simp only [Act.put, List.setIfInBounds_toArray, List.set_cons_zero, List.set_cons_succ]
  refine anyH_rebase hB11 (fun hHeld => ?_)
  refine wpAnyH_take (i := 12) (v := ?_) rfl (by kernel_rfl) (by kernel_rfl) (by kernel_rfl) (fun _ _ _ h => h) (Or.inl ⟨by rfl, ?_⟩) hHeld ?_
  rotate_left
  · (intro w hSw; go_simp; (try with_reducible rfl))
  simp only [Act.put, List.getElem_toArray, List.getElem_cons_zero, List.getElem_cons_succ, List.setIfInBounds_toArray, List.set_cons_zero, List.set_cons_succ]
  refine wpAnyH_take (i := 13) (v := ?_) rfl (by kernel_rfl) (by kernel_rfl) (by kernel_rfl) (fun _ _ _ h => h) (Or.inl ⟨by rfl, ?_⟩) hHeld ?_
  rotate_left
  · (intro w hSw; go_simp; (try with_reducible rfl))
  simp only [Act.put, List.getElem_toArray, List.getElem_cons_zero, List.getElem_cons_succ, List.setIfInBounds_toArray, List.set_cons_zero, List.set_cons_succ]
  refine wpAnyH_take (i := 14) (v := ?_) rfl (by kernel_rfl) (by kernel_rfl) (by kernel_rfl) (fun _ _ _ h => h) (Or.inl ⟨by rfl, ?_⟩) hHeld ?_
  rotate_left
  · (intro w hSw; go_simp; (try with_reducible rfl))
  simp only [Act.put, List.getElem_toArray, List.getElem_cons_zero, List.getElem_cons_succ, List.setIfInBounds_toArray, List.set_cons_zero, List.set_cons_succ]
  refine wpAnyH_done (by kernel_rfl) ?_ _
  have hbel11 := hbel9.trans ((hB10.trans (hB11.mono hB10.size)).mono hbel9.size)
  go_wp2_with fail
  go_ret
  exact ⟨rfl, hbel11⟩
set_option linter.unusedSimpArgs false in
set_option maxRecDepth 100000 in
set_option maxHeartbeats 2000000 in
theorem packBack_d {w : World} (S : PackSaid w) (o : Nat → Int) (hr : ∀ i, i < 18 → -9223372036854775808 ≤ o i ∧ o i ≤ 9223372036854775807) (hf : ¬ Fit o 9) (x : Int) (h0 : 2097152 ≤ x) (h1 : x < 4294967296) :
    Calls Tryd.prog 6 #[.agg (arr .i64 18 o), .int .u32 x] w fun e w' => e = .returned (.bool true) ∧ Below w.heap.size w w' := by
  have HF := Lib.hid hf
  clear hf
  have hz := zero18
  have hsz : ∀ f, (Tryd.prog.info? 23).map (·.size) = some (arr .i64 18 f).size := fun f => by rw [arr_size]; exact size18
  go_enter Tryd.func6, Tryd.ntmps6
  go_wp2_with fail
  refine (alive_true S.toHeadSaid _ ((Below.refl _ _).alloc (Nat.le_refl _) _)).mono ?_
  rintro e w1 ⟨rfl, hb1⟩
  have ha1 := (ArrAt.new w .i64 18 23 o).keep hb1
  have hbel1 : Below w.heap.size w w1 := ((Below.refl _ _).alloc (Nat.le_refl _) _).trans (hb1.mono (by simp))
  clear hb1
  go_wp2_with (refine wpList_load_row rfl 23 (.tmp 2) rfl w.heap.size rfl 23 _ (0, 0) _ ha1 Tryd.underlying23 rfl (hsz _) ?_)
  refine (head_bad S.toHeadSaid hr HF.out _ hbel1).mono ?_
  rintro e w2 ⟨rfl, hb2⟩
  have ha2 := ha1.keep hb2
  have hbel2 := keepB hb2 hbel1
  clear hb2 ha1 hbel1
  go_wp2_with (refine load_want (by rfl) 23 (.tmp 2) rfl w.heap.size rfl 23 _ (0, 0) _ ha2 Tryd.underlying23 rfl (hsz _) ?_)
  refine (S.rest o _ hbel2).mono ?_
  rintro e w6 ⟨rfl, hb6⟩
  have hbel6 := keepB hb6 hbel2
  clear hb6 ha2 hbel2
  go_wp2_with fail
  refine (object_bad S (restF o) h0 h1 _ hbel6).mono ?_
  rintro e w7 ⟨rfl, hb7⟩
  have hbel7 := keepB hb7 hbel6
  clear hb7 hbel6
  obtain ⟨w8, hw8, hn8, hb8⟩ := laid_new w7 .i64 18 23 (fun _ => 0) (fun _ => 0)
  go_upto_region 9 with (refine wpList_store_row rfl 23 (.tmp 9) (.tmp 39) rfl w7.heap.size _ rfl rfl 23 (arr .i64 18 (fun _ => 0)) (heap_alloc_new _ _) (hsz _) (by simp only [arr_size]) (arr_one _ _ _) ?_)
  rw [← hw8]
  have hbel8 := keepB hb8 hbel7
  have heq := eq18 (fun _ => 0) (fun _ => 0) (fun _ _ => rfl)
  clear hb8 hbel7 hw8
  go_wp2_with (refine load_want (by rfl) 23 (.tmp 9) rfl w7.heap.size rfl 23 _ (0, 0) _ hn8 Tryd.underlying23 rfl (hsz _) ?_)
  go_ret
  exact ⟨rfl, hbel8⟩
theorem packBack_walk {w : World} (S : PackSaid w) (o : Nat → Int) (hr : ∀ i, i < 18 → -9223372036854775808 ≤ o i ∧ o i ≤ 9223372036854775807) (x : Int) (hx : 0 ≤ x ∧ x < 4294967296) :
    Calls Tryd.prog 6 #[.agg (arr .i64 18 o), .int .u32 x] w fun e w' => e = .returned (.bool true) ∧ Below w.heap.size w w' := by
  by_cases hf : Fit o 9 <;> by_cases hb : x < 2097152
  · exact packBack_a S o hr hf x hx.1 hb
  · exact packBack_b S o hr hf x (by omega) hx.2
  · exact packBack_c S o hr hf x hx.1 hb
  · exact packBack_d S o hr hf x (by omega) hx.2
end Go.Proofs.YtbnmajajnjphpaaDoor
