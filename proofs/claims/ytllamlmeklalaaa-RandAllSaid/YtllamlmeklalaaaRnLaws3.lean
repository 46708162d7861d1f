/- Layer 16: the law RandAll. -/
import Derived.Test.YtllamlmeklalaaaRnAlive
import Derived.Test.YtllamlmeklalaaaRnAllM
import Derived.Test.YtllamlmeklalaaaRnOrd
import Derived.Test.YtllamlmeklalaaaReg
import Derived.Deep.DeepCutAuto
import Derived.Deep.CutBlock
namespace Go.Proofs.Ytllamlmeklalaaa
open Go.RowKit
set_option maxRecDepth 100000
/-- The draws' list: empty, or in blocks of its own. -/
def DS (W4 : World) (Ad : Option Addr) (z cd : Nat) (d : List Int) (W : World) : Prop := W4.heap.size ≤ W.heap.size ∧ ((z = 0 ∧ cd = 0 ∧ d = [] ∧ ∃ g, Ad = some ⟨g, 0, none⟩) ∨ Own .i64 3 W W4.heap.size Ad z cd d)
theorem DS.keep {W4 W W' : World} {Ad : Option Addr} {z cd : Nat} {d : List Int} (h : DS W4 Ad z cd d W) (hs : W.heap.size ≤ W'.heap.size) (hb : ∀ j, W4.heap.size ≤ j → j < W.heap.size → W'.heap[j]? = W.heap[j]?) : DS W4 Ad z cd d W' := by
  refine ⟨Nat.le_trans h.1 hs, ?_⟩
  rcases h.2 with h1 | h1
  · exact .inl h1
  · exact .inr ⟨h1.1, owns_keep h1.2 fun j hj => hb j (h1.2.lt j hj).1 (h1.2.lt j hj).2⟩
theorem DS.nums {W4 W : World} {Ad : Option Addr} {z cd : Nat} {d : List Int} (h : DS W4 Ad z cd d W) : Nums .i64 W W.heap.size Ad z d ∧ z ≤ cd := by
  rcases h.2 with ⟨rfl, rfl, rfl, _⟩ | h1
  · exact ⟨⟨rfl, fun i u hu => by simp at hu⟩, Nat.le_refl _⟩
  · exact ⟨h1.nums, h1.cap⟩
theorem DS.app {W4 W : World} {Ad : Option Addr} {z cd g : Nat} {d : List Int} {v : Int} (h : DS W4 Ad z cd d W) (hz : z ≤ 1000) (hg : W.heap[g]? = some (.cells #[.int .i64 v] 3 (0, 0))) :
    ∃ A' c' w', (Builtin.append_ #[22, 22] 22 #[.slice Ad z cd, .slice (some ⟨g, 0, none⟩) 1 1]).run Try.prog W = .ok (.slice A' (z + 1) c') w' ∧ DS W4 A' (z + 1) c' (d ++ [v]) w' ∧ Below W4.heap.size W w' := by
  obtain ⟨i0, hi, hz0, hz1, hz2⟩ := info_parts info_intS
  have hb0 : Below W4.heap.size W W := Below.refl _ _
  have hnew : ∀ j u, [Value.int .i64 v][j]? = some u → W.cell? ((⟨g, 0, none⟩ : Addr).add j) = some u := fun j u hj => by
    rw [Addr.add_mid, Nat.zero_add, cell_of_row W g j _ _ _ hg]
    simpa using hj
  rcases h.2 with ⟨rfl, rfl, rfl, gd, rfl⟩ | h1
  · obtain ⟨v', w', hrun, hown, hgr⟩ := run_append_arg_grows (P := Try.prog) W 22 22 3 i0 _ 1 8 Try.underlying22 hi hz0 hz1 hz2 rfl (by omega) ⟨gd, 0, none⟩ 0 0 [] rfl (fun j u hj => by simp at hj) ⟨g, 0, none⟩ 1 1 [.int .i64 v] rfl hnew (by omega) (by unfold maxLen; omega) (by omega)
    rcases hown.2 with ⟨_, hn0⟩ | ⟨g', cap, cur, rfl, hb, rest⟩
    · omega
    · have ho2 : w'.ownsRow W4.heap.size 3 1 (.slice (some ⟨g', 0, none⟩) (0 + 1) cap) (0 + 1) ([] ++ [Value.int .i64 v]) := ⟨hown.1, .inr ⟨g', cap, cur, rfl, Nat.le_trans h.1 hb, rest⟩⟩
      exact ⟨_, cap, w', hrun, ⟨Nat.le_trans h.1 hgr.size, .inr ⟨rfl, ho2⟩⟩, hb0.grown hgr h.1 (fun k hk => by cases hk)⟩
  · obtain ⟨A', c', w', hrun, hown, hgr⟩ := run_app (P := Try.prog) W .i64 W4.heap.size 22 22 3 i0 _ 8 Try.underlying22 hi hz0 hz1 hz2 rfl h1 (B := W.heap.size) (A2 := some ⟨g, 0, none⟩) (m := 1) (c2 := 1) (l2 := [v])
      ⟨rfl, fun j u hj => ⟨_, rfl, (Array.getElem?_eq_some_iff.1 hg).1, hnew j _ (by
        match j, hj with
        | 0, hj => simp at hj; simp [hj]
        | j + 1, hj => simp at hj)⟩⟩ (by omega) (by omega) h.1
    exact ⟨A', c', w', hrun, ⟨Nat.le_trans h.1 hgr.size, .inr hown⟩, hb0.grown hgr h.1 (fun k hk => h1.ownLt k hk)⟩
theorem wpList_runA {P : Program} {w : World} {ops : Array Oper} {rest : List Oper} {o : Oper} {a : Act} {Q : Exit → Act → World → Prop} (hgd : o.guard = none) (s x : Operand) (t : TypeId) (sv xv v : Value) (w' : World)
    (hrun : (Builtin.append_ #[t, t] o.type #[sv, xv]).run P w = .ok v w') (ho : o.op = .call { callee := .builtin .append, args := #[s, x], argTypes := #[t, t] }) (hs : a.eval s = sv) (hx : a.eval x = xv)
    (hK : wpList P ops Q rest (a.put o.dst v) w') : wpList P ops Q (o :: rest) a w := by
  refine wpList_plain hgd fun K hK' => ?_
  unfold Oper.wp execOp
  simp only [ho, resolve, invoke, builtin, Sem.run_bind, Sem.run_pure, Result.andThen_ok, List.map_toArray, List.map_cons, List.map_nil, hs, hx, hrun]
  exact hK' _ _ hK
set_option linter.unusedSimpArgs false in
set_option maxHeartbeats 0 in
theorem randAll_walk {w : World} (E : RnSaid w) (A : Option Addr) (n c : Nat) (l : List Int) (many : Int) (hN : Nums .i64 w w.heap.size A n l) (hcm : n ≤ 9223372036854775807) :
    Calls Try.prog 6 #[.slice A n c, .int .i64 many] w fun en w' => en = .returned (.bool true) ∧ Below w.heap.size w w' := by
  obtain ⟨i0, hi, hz0, hz1, hz2⟩ := info_parts info_intS
  have HN := Lib.hid hN
  have HL := Lib.hid hN.len
  obtain ⟨u, hu⟩ := wrap_u many
  obtain ⟨N, hNm, hNw, hN12⟩ := mod_12 u
  clear hN
  go_enter Try.func6, Try.ntmps6
  go_wp2_with fail
  refine (rnAlive E w (Below.refl _ _)).mono ?_
  rintro en w1 ⟨rfl, hb1⟩
  go_upto_region 5 with fail
  try rw [hNm, hNw]
  have hbA : Below w1.heap.size w1 (w1.alloc (.cells #[] 3)) := (Below.refl _ _).alloc (Nat.le_refl _) _
  have HV0 := Lib.hid (show IW w (some ⟨w1.heap.size, 0, none⟩) 0 0 (upto 0) (w1.alloc (.cells #[] 3)) from ⟨own_empty w1 _ hb1.size, keepB hbA hb1⟩)
  clear hbA hu hNm hNw hb1
  go_upto_region 6 with fail
  go_loopw [6, 7] (fun o i wr => ∃ (k c2 : Nat) (A2 : Option Addr), i = .int .i64 ((k : Nat) : Int) ∧ o = .slice A2 k c2 ∧ k ≤ N ∧ Hid (IW w A2 k c2 (upto k) wr)) (fun _ i _ => N - (intOf i).toNat)
  case atStart => exact ⟨0, _, _, rfl, rfl, by omega, HV0⟩
  case round =>
    clear HV0
    obtain ⟨k, c2, A2, rfl, rfl, hk, HV⟩ := hrel
    by_cases hlt : k < N
    · have d0 : decide ((k : Int) < (N : Int)) = true := by simp; omega
      have hbA : Below wr.heap.size wr (wr.alloc (.cells #[.int .i64 (k : Int)] 3)) := (Below.refl _ _).alloc (Nat.le_refl _) _
      have hO := HV.out.own.alloc (.cells #[.int .i64 (k : Int)] 3)
      have HB2 := Lib.hid (keepB hbA HV.out.b)
      have hsz := HB2.out.size
      clear hbA
      go_wp2_with (at_builtin; refine wpList_app rfl (.tmp 31) (.tmp 33) _ rfl .i64 w.heap.size 3 i0 _ 8 Try.underlying22 hi hz0 hz1 hz2 rfl A2 k c2 _ rfl hO _ (some ⟨wr.heap.size, 0, none⟩) 1 1 [(k : Int)] rfl (Nums.one _ _ _ _) (by omega) (by omega) hsz ?_; intro A7 c7 w7 ho7 hg7)
      have HV7 := Lib.hid (show IW w A7 (k + 1) c7 (upto (k + 1)) w7 from by rw [upto_succ]; exact ⟨ho7, hO.belowGrown HB2.out hsz hg7⟩)
      clear ho7 hg7 hO
      go_roundw
      case rel => exact ⟨k + 1, _, _, by go_num, rfl, by omega, HV7⟩
      case measure => simp [intOf]; omega
    obtain rfl : k = N := by omega
    have d0 : decide ((k : Int) < (k : Int)) = false := by simp
    have HW0 := Lib.hid (show ∃ o, IW w A2 k c2 o wr ∧ o.Perm (upto k) from ⟨_, HV.out, List.Perm.refl _⟩)
    clear HV
    go_upto_block 2 with fail
    clear d0 hlt
    go_cut [] (fun wx => Hid (∃ o, IW w A2 k c2 o wx ∧ o.Perm (upto k)))
    case first =>
      have f2 : (n : Int) ≤ 9223372036854775807 := by omega
      go_upto_region 10 with fail
      go_loopw [37] (fun i wx => ∃ (q : Nat) (o : List Int), i = .int .i64 ((q : Nat) : Int) ∧ q ≤ n ∧ Hid (IW w A2 k c2 o wx ∧ o.Perm (upto k))) (fun i _ => n - (intOf i).toNat)
      case atStart => obtain ⟨o, ho⟩ := HW0.out; exact ⟨0, o, rfl, by omega, Lib.hid ho⟩
      case round =>
        rename_i wr0
        clear HW0
        obtain ⟨q, o, rfl, hq, HV⟩ := hrel
        by_cases hlt : q < n
        · have d0 : decide ((q : Int) < (n : Int)) = true := by simp; omega
          obtain ⟨a, hA, _, hcell⟩ := (HN.out.below HV.out.1.b).at_ (show q < l.length by rw [HL.out]; exact hlt)
          subst hA
          obtain ⟨v, hv⟩ : ∃ v, v = l[q]'(by rw [HL.out]; exact hlt) := ⟨_, rfl⟩
          rw [← hv] at hcell
          have g0 : (0 : Int) ≤ (q : Int) := by omega
          have g1 : (q : Int) < (n : Int) := by omega
          have HE := Lib.hid (show ∃ o, IW w A2 k c2 o wr ∧ o.Perm (upto k) from ⟨o, HV.out⟩)
          clear hv
          by_cases h4 : 40 < q
          · have d1 : decide ((40 : Int) < (q : Int)) = true := by simp; omega
            clear HV
            go_wp2_with fail
            go_meet
            case rel => exact HE
          have d1 : decide ((40 : Int) < (q : Int)) = false := by simp; omega
          by_cases hk0 : k = 0
          · have d2 : ((k : Int) == 0) = true := by simp; omega
            clear HV
            go_wp2_with fail
            go_meet
            case rel => exact HE
          have d2 : ((k : Int) == 0) = false := by simp; omega
          clear HE
          have hk1 : 0 < k := by omega
          have hku := u_small (y := (k : Int)) (by omega) (by omega)
          have hkm : ((k : Int) == -1) = false := by simp
          obtain ⟨u2, hu2⟩ := wrap_u v
          obtain ⟨y, hy1, hy2, hy3⟩ := mod_n u2 hk1 hN12
          obtain ⟨x, hx1, hx2⟩ := rem_n q hk1
          have HY := Lib.hid (And.intro hx2 hy3)
          clear hx2 hy3
          go_upto_region 14 with fail
          try rw [hy1]
          try rw [hy2]
          rename_i K0 hK0
          clear hu2 hy1 hy2 hku
          have hvd := HV.out.1.keep (Below.refl wr.heap.size wr).drew
          have hpo := HV.out.2
          refine wp_region_held_drew (S := fun _ => True) (by kernel_rfl) trivial (fun hHeld => ?_)
          obtain ⟨w5, hw5⟩ : ∃ W, W = wr.drew := ⟨_, rfl⟩
          rw [← hw5] at hvd
          rw [← hw5]
          obtain ⟨g, hA, c1, c3, f1, f3, c5, hsw⟩ := hvd.swap (i := x) (k := y) HY.out.1 HY.out.2
          subst hA
          have HSW := Lib.hid (show IW w (some ⟨g, 0, none⟩) k c2 (swapL o x y) _ ∧ (swapL o x y).Perm (upto k) from
            ⟨hsw, (swap_perm (by rw [hvd.len]; exact HY.out.1) (by rw [hvd.len]; exact HY.out.2)).trans hpo⟩)
          obtain ⟨v1, hv1⟩ : ∃ v, v = o.getD x 0 := ⟨_, rfl⟩
          obtain ⟨v2, hv2⟩ : ∃ v, v = o.getD y 0 := ⟨_, rfl⟩
          obtain ⟨o2, ho2⟩ : ∃ o2, o2 = swapL o x y := ⟨_, rfl⟩
          rw [← hv1, ← hv2, ← ho2] at HSW
          rw [← hv1] at c1
          rw [← hv2] at c3 c5
          have p0 : (0 : Int) ≤ (x : Int) := by omega
          have p1 : (x : Int) < (k : Int) := by have := HY.out.1; omega
          have p2 : (0 : Int) ≤ (y : Int) := by omega
          have p3 : (y : Int) < (k : Int) := by have := HY.out.2; omega
          clear hsw hv1 hv2 ho2 hvd hpo hw5 HV
          refine wpAnyH_take (i := 0) (v := ?_) rfl (by kernel_rfl) (by kernel_rfl) (by kernel_rfl) (fun _ _ _ h => h) (Or.inl ⟨by rfl, ?_⟩) hHeld ?_
          rotate_left
          · (intro w hSw; go_simp; (try with_reducible rfl))
          simp only [Act.put, List.getElem_toArray, List.getElem_cons_zero, List.getElem_cons_succ, List.setIfInBounds_toArray, List.set_cons_zero, List.set_cons_succ]
          refine wpAnyH_take (i := 1) (v := ?_) rfl (by kernel_rfl) (by kernel_rfl) (by kernel_rfl) (fun _ _ _ h => h) (Or.inl ⟨by rfl, ?_⟩) hHeld ?_
          rotate_left
          · (intro w hSw; go_simp; (try with_reducible rfl))
          simp only [Act.put, List.getElem_toArray, List.getElem_cons_zero, List.getElem_cons_succ, List.setIfInBounds_toArray, List.set_cons_zero, List.set_cons_succ]
          refine wpAnyH_take (i := 2) (v := ?_) rfl (by kernel_rfl) (by kernel_rfl) (by kernel_rfl) (fun _ _ _ h => h) (Or.inl ⟨by rfl, ?_⟩) hHeld ?_
          rotate_left
          · (intro w hSw; go_simp; (try with_reducible rfl))
          simp only [Act.put, List.getElem_toArray, List.getElem_cons_zero, List.getElem_cons_succ, List.setIfInBounds_toArray, List.set_cons_zero, List.set_cons_succ]
          refine wpAnyH_take (i := 3) (v := ?_) rfl (by kernel_rfl) (by kernel_rfl) (by kernel_rfl) (fun _ _ _ h => h) (Or.inl ⟨by rfl, ?_⟩) hHeld ?_
          rotate_left
          · (intro w hSw; go_simp; (try with_reducible rfl))
          simp only [Act.put, List.getElem_toArray, List.getElem_cons_zero, List.getElem_cons_succ, List.setIfInBounds_toArray, List.set_cons_zero, List.set_cons_succ]
          refine wpAnyH_take (i := 4) (v := ?_) rfl (by kernel_rfl) (by kernel_rfl) (by kernel_rfl) (fun _ _ _ h => h) (Or.inl ⟨by rfl, ?_⟩) hHeld ?_
          rotate_left
          · (intro w hSw; go_simp; (try with_reducible rfl))
          simp only [Act.put, List.getElem_toArray, List.getElem_cons_zero, List.getElem_cons_succ, List.setIfInBounds_toArray, List.set_cons_zero, List.set_cons_succ]
          refine wpAnyH_take (i := 5) (v := ?_) rfl (by kernel_rfl) (by kernel_rfl) (by kernel_rfl) (fun _ _ _ h => h) (Or.inl ⟨by rfl, ?_⟩) hHeld ?_
          rotate_left
          · (intro w hSw; go_simp; (try with_reducible rfl))
          simp only [Act.put, List.getElem_toArray, List.getElem_cons_zero, List.getElem_cons_succ, List.setIfInBounds_toArray, List.set_cons_zero, List.set_cons_succ]
          refine wpAnyH_take (i := 6) (v := ?_) rfl (by kernel_rfl) (by kernel_rfl) (by kernel_rfl) (fun _ _ _ h => h) (Or.inl ⟨by rfl, ?_⟩) hHeld ?_
          rotate_left
          · (intro w hSw; go_simp; (try with_reducible rfl))
          simp only [Act.put, List.getElem_toArray, List.getElem_cons_zero, List.getElem_cons_succ, List.setIfInBounds_toArray, List.set_cons_zero, List.set_cons_succ]
          refine wpAnyH_take (i := 7) (v := ?_) rfl (by kernel_rfl) (by kernel_rfl) (by kernel_rfl) (fun _ _ _ h => h) (Or.inl ⟨by rfl, ?_⟩) hHeld ?_
          rotate_left
          · (intro w hSw; go_simp; (try with_reducible rfl))
          simp only [Act.put, List.getElem_toArray, List.getElem_cons_zero, List.getElem_cons_succ, List.setIfInBounds_toArray, List.set_cons_zero, List.set_cons_succ]
          refine wpAnyH_take (i := 8) (v := ?_) rfl (by kernel_rfl) (by kernel_rfl) (by kernel_rfl) (fun _ _ _ h => h) (Or.inl ⟨by rfl, ?_⟩) hHeld ?_
          rotate_left
          · (intro w hSw; go_simp; (try with_reducible rfl))
          simp only [Act.put, List.getElem_toArray, List.getElem_cons_zero, List.getElem_cons_succ, List.setIfInBounds_toArray, List.set_cons_zero, List.set_cons_succ]
          refine wpAnyH_take (i := 10) (v := ?_) rfl (by kernel_rfl) (by kernel_rfl) (by kernel_rfl) (fun _ _ _ h => h) (Or.inl ⟨by rfl, ?_⟩) hHeld ?_
          rotate_left
          · (intro w hSw; go_simp; (try with_reducible rfl))
          simp only [Act.put, List.getElem_toArray, List.getElem_cons_zero, List.getElem_cons_succ, List.setIfInBounds_toArray, List.set_cons_zero, List.set_cons_succ]
          refine wpAnyH_take (i := 11) (v := ?_) rfl (by kernel_rfl) (by kernel_rfl) (by kernel_rfl) (fun _ _ _ h => h) (Or.inl ⟨by rfl, ?_⟩) hHeld ?_
          rotate_left
          · (intro w hSw; go_simp; (try with_reducible rfl))
          simp only [Act.put, List.getElem_toArray, List.getElem_cons_zero, List.getElem_cons_succ, List.setIfInBounds_toArray, List.set_cons_zero, List.set_cons_succ]
          refine wpAnyH_take (i := 12) (v := ?_) rfl (by kernel_rfl) (by kernel_rfl) (by kernel_rfl) (fun _ _ _ h => h) (Or.inl ⟨by rfl, ?_⟩) hHeld ?_
          rotate_left
          · (intro w hSw; go_simp; (try with_reducible rfl))
          simp only [Act.put, List.getElem_toArray, List.getElem_cons_zero, List.getElem_cons_succ, List.setIfInBounds_toArray, List.set_cons_zero, List.set_cons_succ]
          refine wpAnyH_take (i := 13) (v := ?_) rfl (by kernel_rfl) (by kernel_rfl) (by kernel_rfl) (fun _ _ _ h => h) (Or.inl ⟨by rfl, ?_⟩) hHeld ?_
          rotate_left
          · (intro w hSw; go_simp; (try with_reducible rfl))
          simp only [Act.put, List.getElem_toArray, List.getElem_cons_zero, List.getElem_cons_succ, List.setIfInBounds_toArray, List.set_cons_zero, List.set_cons_succ]
          refine wpAnyH_take (i := 14) (v := ?_) rfl (by kernel_rfl) (by kernel_rfl) (by kernel_rfl) (fun _ _ _ h => h) (Or.inl ⟨by rfl, ?_⟩) hHeld ?_
          rotate_left
          · (intro w hSw; go_simp; (try with_reducible rfl))
          simp only [Act.put, List.getElem_toArray, List.getElem_cons_zero, List.getElem_cons_succ, List.setIfInBounds_toArray, List.set_cons_zero, List.set_cons_succ]
          refine wpAnyH_ready (rs := [9, 15]) (by kernel_rfl) (by simp) ?_
          refine AllReadyH.cons rfl (fun K hK => ?_) (AllReadyH.cons rfl (fun K hK => ?_) AllReadyH.nil)
          all_goals (try simp only [List.getElem_toArray, List.getElem_cons_zero, List.getElem_cons_succ])
          · go_simp
            refine hK.out _ _ trivial (fun _ => ?_)
            clear hK K
            try simp only [Act.put, List.setIfInBounds_toArray, List.set_cons_zero, List.set_cons_succ]
            refine wpAnyH_ready (rs := [15]) (by kernel_rfl) (by simp) ?_
            refine AllReadyH.cons rfl (fun K hK => ?_) AllReadyH.nil
            try simp only [List.getElem_toArray, List.getElem_cons_zero, List.getElem_cons_succ]
            go_simp
            refine hK.out _ _ trivial (fun _ => ?_)
            clear hK K
            try simp only [Act.put, List.setIfInBounds_toArray, List.set_cons_zero, List.set_cons_succ]
            refine wpAnyH_take (i := 16) (v := ?_) rfl (by kernel_rfl) (by kernel_rfl) (by kernel_rfl) (fun _ _ _ h => h) (Or.inl ⟨by rfl, ?_⟩) hHeld ?_
            rotate_left
            · (intro w hSw; go_simp; (try with_reducible rfl))
            simp only [Act.put, List.getElem_toArray, List.getElem_cons_zero, List.getElem_cons_succ, List.setIfInBounds_toArray, List.set_cons_zero, List.set_cons_succ]
            refine wpAnyH_ready (rs := [17]) (by kernel_rfl) (by simp) ?_
            refine AllReadyH.cons rfl (fun K hK => ?_) AllReadyH.nil
            try simp only [List.getElem_toArray, List.getElem_cons_zero, List.getElem_cons_succ]
            go_simp
            refine hK.out _ _ trivial (fun _ => ?_)
            clear hK K
            try simp only [Act.put, List.setIfInBounds_toArray, List.set_cons_zero, List.set_cons_succ]
            refine wpAnyH_take (i := 18) (v := ?_) rfl (by kernel_rfl) (by kernel_rfl) (by kernel_rfl) (fun _ _ _ h => h) (Or.inl ⟨by rfl, ?_⟩) hHeld ?_
            rotate_left
            · (intro w hSw; go_simp; (try with_reducible rfl))
            simp only [Act.put, List.getElem_toArray, List.getElem_cons_zero, List.getElem_cons_succ, List.setIfInBounds_toArray, List.set_cons_zero, List.set_cons_succ]
            refine wpAnyH_ready (rs := [19]) (by kernel_rfl) (by simp) ?_
            refine AllReadyH.cons rfl (fun K hK => ?_) AllReadyH.nil
            try simp only [List.getElem_toArray, List.getElem_cons_zero, List.getElem_cons_succ]
            go_simp
            refine hK.out _ _ trivial (fun _ => ?_)
            clear hK K
            try simp only [Act.put, List.setIfInBounds_toArray, List.set_cons_zero, List.set_cons_succ]
            refine wpAnyH_done (by kernel_rfl) ?_ _
            refine hK0 _ _ ?_
            clear hK0 K0
            go_wp2_with fail
            go_roundw
            case rel => exact ⟨q + 1, _, by go_num, by omega, HSW⟩
            case measure => simp [intOf]; omega
          · go_simp
            refine hK.out _ _ trivial (fun _ => ?_)
            clear hK K
            try simp only [Act.put, List.setIfInBounds_toArray, List.set_cons_zero, List.set_cons_succ]
            refine wpAnyH_ready (rs := [9]) (by kernel_rfl) (by simp) ?_
            refine AllReadyH.cons rfl (fun K hK => ?_) AllReadyH.nil
            try simp only [List.getElem_toArray, List.getElem_cons_zero, List.getElem_cons_succ]
            go_simp
            refine hK.out _ _ trivial (fun _ => ?_)
            clear hK K
            try simp only [Act.put, List.setIfInBounds_toArray, List.set_cons_zero, List.set_cons_succ]
            refine wpAnyH_take (i := 16) (v := ?_) rfl (by kernel_rfl) (by kernel_rfl) (by kernel_rfl) (fun _ _ _ h => h) (Or.inl ⟨by rfl, ?_⟩) hHeld ?_
            rotate_left
            · (intro w hSw; go_simp; (try with_reducible rfl))
            simp only [Act.put, List.getElem_toArray, List.getElem_cons_zero, List.getElem_cons_succ, List.setIfInBounds_toArray, List.set_cons_zero, List.set_cons_succ]
            refine wpAnyH_ready (rs := [17]) (by kernel_rfl) (by simp) ?_
            refine AllReadyH.cons rfl (fun K hK => ?_) AllReadyH.nil
            try simp only [List.getElem_toArray, List.getElem_cons_zero, List.getElem_cons_succ]
            go_simp
            refine hK.out _ _ trivial (fun _ => ?_)
            clear hK K
            try simp only [Act.put, List.setIfInBounds_toArray, List.set_cons_zero, List.set_cons_succ]
            refine wpAnyH_take (i := 18) (v := ?_) rfl (by kernel_rfl) (by kernel_rfl) (by kernel_rfl) (fun _ _ _ h => h) (Or.inl ⟨by rfl, ?_⟩) hHeld ?_
            rotate_left
            · (intro w hSw; go_simp; (try with_reducible rfl))
            simp only [Act.put, List.getElem_toArray, List.getElem_cons_zero, List.getElem_cons_succ, List.setIfInBounds_toArray, List.set_cons_zero, List.set_cons_succ]
            refine wpAnyH_ready (rs := [19]) (by kernel_rfl) (by simp) ?_
            refine AllReadyH.cons rfl (fun K hK => ?_) AllReadyH.nil
            try simp only [List.getElem_toArray, List.getElem_cons_zero, List.getElem_cons_succ]
            go_simp
            refine hK.out _ _ trivial (fun _ => ?_)
            clear hK K
            try simp only [Act.put, List.setIfInBounds_toArray, List.set_cons_zero, List.set_cons_succ]
            refine wpAnyH_done (by kernel_rfl) ?_ _
            refine hK0 _ _ ?_
            clear hK0 K0
            go_wp2_with fail
            go_roundw
            case rel => exact ⟨q + 1, _, by go_num, by omega, HSW⟩
            case measure => simp [intOf]; omega
        · obtain rfl : q = n := by omega
          have d0 : decide ((q : Int) < (q : Int)) = false := by simp
          have HE := Lib.hid (show ∃ o, IW w A2 k c2 o wr ∧ o.Perm (upto k) from ⟨o, HV.out⟩)
          clear HV
          go_wp2_with fail
          go_meet
          case rel => exact HE
    case rest =>
      clear HW0 HN HL
      obtain ⟨want, hwant, hperm⟩ := hcut.out
      have HWant := Lib.hid (show Nums .i64 wc wc.heap.size A2 k want ∧ want.Perm (upto k) ∧ want.Nodup ∧ want.length = k ∧ Below w.heap.size w wc from ⟨hwant.own.nums, hperm, hperm.nodup_iff.2 (upto_nodup k), hwant.len, hwant.b⟩)
      clear hwant hperm hcut
      have hbx : Below wc.heap.size wc (wc.alloc (.cells #[] 3)) := (Below.refl _ _).alloc (Nat.le_refl _) _
      have hby : Below (wc.alloc (.cells #[] 3)).heap.size (wc.alloc (.cells #[] 3)) ((wc.alloc (.cells #[] 3)).alloc (.cells #[] 3)) := (Below.refl _ _).alloc (Nat.le_refl _) _
      have HV0 := Lib.hid (show IW wc (some ⟨wc.heap.size, 0, none⟩) 0 0 (upto 0) ((wc.alloc (.cells #[] 3)).alloc (.cells #[] 3)) from IW.keep ⟨own_empty wc _ (Nat.le_refl _), hbx⟩ hby)
      clear hbx hby
      go_upto_region 18 with fail
      go_loopw [11, 13] (fun o i wr => ∃ (q c3 : Nat) (A3 : Option Addr), i = .int .i64 ((q : Nat) : Int) ∧ o = .slice A3 q c3 ∧ q ≤ k ∧ Hid (IW wc A3 q c3 (upto q) wr)) (fun _ i _ => k - (intOf i).toNat)
      case atStart => exact ⟨0, _, _, rfl, rfl, by omega, HV0⟩
      case round =>
        clear HV0
        obtain ⟨q, c3, A3, rfl, rfl, hq, HV⟩ := hrel
        by_cases hlt : q < k
        · have d0 : decide ((q : Int) < (k : Int)) = true := by simp; omega
          have hbA : Below wr.heap.size wr (wr.alloc (.cells #[.int .i64 (q : Int)] 3)) := (Below.refl _ _).alloc (Nat.le_refl _) _
          have hO := HV.out.own.alloc (.cells #[.int .i64 (q : Int)] 3)
          have HB2 := Lib.hid (keepB hbA HV.out.b)
          have hsz := HB2.out.size
          clear hbA
          go_wp2_with (at_builtin; refine wpList_app rfl (.tmp 80) (.tmp 82) _ rfl .i64 wc.heap.size 3 i0 _ 8 Try.underlying22 hi hz0 hz1 hz2 rfl A3 q c3 _ rfl hO _ (some ⟨wr.heap.size, 0, none⟩) 1 1 [(q : Int)] rfl (Nums.one _ _ _ _) (by omega) (by omega) hsz ?_; intro A7 c7 w7 ho7 hg7)
          have HV7 := Lib.hid (show IW wc A7 (q + 1) c7 (upto (q + 1)) w7 from by rw [upto_succ]; exact ⟨ho7, hO.belowGrown HB2.out hsz hg7⟩)
          clear ho7 hg7 hO
          go_roundw
          case rel => exact ⟨q + 1, _, _, by go_num, rfl, by omega, HV7⟩
          case measure => simp [intOf]; omega
        obtain rfl : q = k := by omega
        have d0 : decide ((q : Int) < (q : Int)) = false := by simp
        have HA0 := Lib.hid (show ∃ d now, AllS want q 0 d now ∧ IW wc A3 q c3 now wr ∧ DS wr (some ⟨wc.heap.size + 1, 0, none⟩) 0 0 d wr ∧ Below wr.heap.size wr wr from ⟨[], _, AllS.start HWant.out.2.1, HV.out, ⟨Nat.le_refl _, .inl ⟨rfl, rfl, rfl, _, rfl⟩⟩, Below.refl _ _⟩)
        clear HV
        go_upto_region 22 with fail
        clear d0 hlt
        obtain ⟨W4, hW4⟩ : ∃ W4, W4 = wr := ⟨_, rfl⟩
        have HA1 : Hid (∃ d now, AllS want q 0 d now ∧ IW wc A3 q c3 now wr ∧ DS W4 (some ⟨wc.heap.size + 1, 0, none⟩) 0 0 d wr ∧ wr.heap.size = wr.heap.size) := by
          obtain ⟨d, now, h1, h2, h3, h4⟩ := HA0.out
          exact Lib.hid ⟨d, now, h1, h2, by rw [hW4]; exact h3, rfl⟩
        have HG := Lib.hid (show ∀ g, A3 = some ⟨g, 0, none⟩ → 0 < q → g < W4.heap.size from by
          obtain ⟨d, now, h1, h2, h3, h4⟩ := HA0.out
          intro g hg h0
          obtain ⟨g', hA, _, _, hlt, _⟩ := h2.set_ (i := 0) (by rw [h2.len]; exact h0)
          rw [hg] at hA
          injection hA with hA
          injection hA with hA
          rw [hW4, hA]; exact hlt)
        have HG2 := Lib.hid (show wc.heap.size ≤ W4.heap.size from by obtain ⟨d, now, h1, h2, h3, h4⟩ := HA0.out; rw [hW4]; exact h2.b.size)
        clear HA0
        go_loopw [12, 14] (fun dv iv wx => ∃ (z cd : Nat) (Ad : Option Addr), iv = .int .i64 ((q : Int) - 1 - (z : Int)) ∧ dv = .slice Ad z cd ∧ (z = 0 ∨ z < q) ∧ Hid (∃ d now, AllS want q z d now ∧ IW wc A3 q c3 now wx ∧ DS W4 Ad z cd d wx)) (fun _ i _ => (intOf i).toNat)
        case atStart =>
          obtain ⟨d, now, h1, h2, h3, _⟩ := HA1.out
          exact ⟨0, 0, _, by simp, rfl, .inl rfl, Lib.hid ⟨d, now, h1, h2, h3⟩⟩
        case round =>
          rename_i wr4
          clear HA1
          obtain ⟨z, cd, Ad, rfl, rfl, hz, HA⟩ := hrel
          obtain ⟨d, now, h1, h2, h3⟩ := HA.out
          by_cases hlt : z + 1 < q
          · obtain ⟨i, hi1⟩ : ∃ i, i = q - 1 - z := ⟨_, rfl⟩
            have hie : (q : Int) - 1 - (z : Int) = (i : Int) := by omega
            rw [hie]
            have hiq : i < q := by omega
            have hi1' : 1 ≤ i := by omega
            have d0 : decide ((1 : Int) ≤ (i : Int)) = true := by simp; omega
            obtain ⟨K, hK1, hK2, hK3⟩ := all_find h1.p HWant.out.2.2.1 HWant.out.2.2.2.1 hiq (fun j h4 h5 => h1.a j (by omega) h5)
            have hwg : want[i]? = some (want.getD i 0) := by rw [List.getD_eq_getElem?_getD, List.getElem?_eq_getElem (by have := HWant.out.2.2.2.1; omega)]; rfl
            obtain ⟨x, hx⟩ : ∃ x, x = want.getD i 0 := ⟨_, rfl⟩
            rw [← hx] at hwg
            rw [hwg] at hK2 hK3
            have hln := h1.len
            have hat : ∃ aw, A2 = some aw ∧ wr.cell? (aw.add i) = some (.int .i64 x) := by
              obtain ⟨aw, hAw, _, cw⟩ := (HWant.out.1.below h2.b).at_ (show i < want.length by have := HWant.out.2.2.2.1; omega)
              refine ⟨aw, hAw, ?_⟩
              rw [cw, hx, List.getD_eq_getElem?_getD, List.getElem?_eq_getElem (by have := HWant.out.2.2.2.1; omega)]; rfl
            have hgx : ∃ gn, A3 = some ⟨gn, 0, none⟩ ∧ gn < W4.heap.size ∧ ∀ j : Nat, ∀ y, now[j]? = some y → wr.cell? ⟨gn, j, none⟩ = some (.int .i64 y) := by
              obtain ⟨gn, hAn, _, _, hgn, _⟩ := h2.set_ (i := 0) (by omega)
              refine ⟨gn, hAn, HG.out gn hAn (by omega), fun j y hj => ?_⟩
              have hjl := (List.getElem?_eq_some_iff.1 hj).1
              obtain ⟨g', hA', cj, _⟩ := h2.set_ (i := j) hjl
              rw [hAn] at hA'
              injection hA' with hA'
              injection hA' with hA'
              rw [hA', cj, (List.getElem?_eq_some_iff.1 hj).2]
            obtain ⟨aw, hAw, cw⟩ := hat
            obtain ⟨gn, hAn, hgn4, hcn⟩ := hgx
            subst hAw hAn
            have HC := Lib.hid hcn
            have HK := Lib.hid (And.intro hK2 (And.intro hK3 hwg))
            have HI := Lib.hid (show i = q - 1 - z from hi1)
            have HS := Lib.hid (show AllS want q z d now ∧ IW wc (some ⟨gn, 0, none⟩) q c3 now wr ∧ DS W4 Ad z cd d wr from ⟨h1, h2, h3⟩)
            have HLn := Lib.hid hln
            have g2 : (0 : Int) ≤ (i : Int) := by omega
            have g3 : (i : Int) < (q : Int) := by omega
            have HCW := Lib.hid cw
            clear hwg hK2 hK3 h1 h2 h3 hi1 hie HA cw hcn hx hln
            obtain ⟨wx, hwx⟩ : ∃ wx, wx = wr := ⟨_, rfl⟩
            rw [← hwx] at HC HS HCW
            rw [← hwx]
            clear hwx
            go_upto_region 25 with fail
            go_loopw [15] (fun s wy => ∃ (j m : Nat), s = .int .i64 ((j : Nat) : Int) ∧ j ≤ K ∧ wy = wx.drewN m) (fun s _ => K - (intOf s).toNat)
            case atStart => exact ⟨0, 0, rfl, by omega, rfl⟩
            case round =>
              obtain ⟨j, m, rfl, hj, rfl⟩ := hrel
              have hjn : j < now.length := by rw [HLn.out]; omega
              have cj : (wx.drewN m).cell? ⟨gn, j, none⟩ = some (.int .i64 now[j]) := HC.out j _ (List.getElem?_eq_getElem hjn)
              obtain ⟨y, hy⟩ : ∃ y, y = now[j] := ⟨_, rfl⟩
              rw [← hy] at cj
              have hyo : now[j]? = some y := by rw [hy]; exact List.getElem?_eq_getElem hjn
              have ci : (wx.drewN m).cell? (aw.add i) = some (.int .i64 x) := HCW.out
              have cj2 : ((wx.drewN m).drew).cell? ⟨gn, j, none⟩ = some (.int .i64 y) := cj
              have ci2 : ((wx.drewN m).drew).cell? (aw.add i) = some (.int .i64 x) := ci
              have cj3 : wx.cell? ⟨gn, j, none⟩ = some (.int .i64 y) := cj
              have ci3 : wx.cell? (aw.add i) = some (.int .i64 x) := ci
              have g0 : (0 : Int) ≤ (j : Int) := by omega
              have g1 : (j : Int) < (q : Int) := by omega
              by_cases hjK : j < K
              · have hne : (y != x) = true := by
                  have h := HK.out.2.1 j hjK
                  rw [hyo] at h
                  simp; exact fun e => h (by rw [e])
                clear hy hyo hjn
                go_wp2_with fail
                all_goals go_region
                go_wp2_with fail
                go_roundw
                case rel => exact ⟨j + 1, m + 1, by go_num, by omega, rfl⟩
                case measure => simp [intOf]; omega
              · obtain rfl : j = K := by omega
                have hne : (y != x) = false := by
                  have h := HK.out.1
                  rw [hyo] at h
                  injection h with h
                  simp [h]
                clear hy hyo hjn
                go_wp2_with fail
                all_goals go_region
                go_upto_region 27 with fail
                clear cj cj2 cj3 ci ci2 ci3 hne
                show Code.wp _ _ _ _ (wx.drewN (m + 1))
                have hw6b : Below wx.heap.size wx (wx.drewN (m + 1)) := below_drewN (Below.refl _ _) (m + 1)
                obtain ⟨w6, hw6⟩ : ∃ W, W = wx.drewN (m + 1) := ⟨_, rfl⟩
                rw [← hw6] at hw6b
                rw [← hw6]
                have hbA : Below w6.heap.size w6 (w6.alloc (.cells #[.int .i64 (j : Int)] 3)) := (Below.refl _ _).alloc (Nat.le_refl _) _
                have hIA := (HS.out.2.1.keep hw6b).keep hbA
                have hDA : DS W4 Ad z cd d (w6.alloc (.cells #[.int .i64 (j : Int)] 3)) := (HS.out.2.2.keep hw6b.size fun k _ hk => hw6b.block k hk).keep hbA.size fun k _ hk => hbA.block k hk
                obtain ⟨A7, c7, w7, hrun, hD7, hb7⟩ := hDA.app (g := w6.heap.size) (v := (j : Int)) (by omega) (heap_alloc_new _ _)
                have hI7 : IW wc (some ⟨gn, 0, none⟩) q c3 now w7 := ⟨⟨hIA.own.1, owns_keep hIA.own.2 fun k hk => hb7.block k (by injection hk with hk; rw [← hk]; exact hgn4)⟩, hIA.b.trans (hb7.mono HG2.out)⟩
                have hA7 := HS.out.1.next HI.out hlt hK1 (HK.out.1.trans HK.out.2.2.symm)
                have HA7 := Lib.hid hA7
                clear hw6 hw6b hbA hIA hDA hA7
                go_upto_region 28 with (at_builtin; refine wpList_runA rfl (.tmp 101) (.tmp 103) _ _ _ _ _ hrun rfl rfl rfl ?_)
                clear hrun hb7
                have hvd := hI7.keep (Below.refl w7.heap.size w7).drew
                have hDd : DS W4 A7 (z + 1) c7 (d ++ [(j : Int)]) w7.drew := hD7.keep (Nat.le_refl _) fun _ _ _ => rfl
                refine wp_region_held_drew (S := fun _ => True) (by kernel_rfl) trivial (fun hHeld => ?_)
                obtain ⟨w5, hw5⟩ : ∃ W, W = w7.drew := ⟨_, rfl⟩
                rw [← hw5] at hvd hDd
                rw [← hw5]
                obtain ⟨g, hA, c1, c3', f1, f3, c5, hsw⟩ := hvd.swap (i := i) (k := j) hiq (by omega)
                obtain rfl : gn = g := by injection hA with hA; injection hA
                have hDs : DS W4 A7 (z + 1) c7 (d ++ [(j : Int)]) ((w5.setCell ⟨gn, i, none⟩ (.int .i64 (now.getD j 0))).setCell ⟨gn, j, none⟩ (.int .i64 (now.getD i 0))) :=
                  hDd.keep (by simp [World.setCell]) fun k hk _ => (heap_setCell_other _ ⟨gn, j, none⟩ k _ (by simp; omega)).trans (heap_setCell_other w5 ⟨gn, i, none⟩ k _ (by simp; omega))
                obtain ⟨v1, hv1⟩ : ∃ v, v = now.getD i 0 := ⟨_, rfl⟩
                obtain ⟨v2, hv2⟩ : ∃ v, v = now.getD j 0 := ⟨_, rfl⟩
                rw [← hv1, ← hv2] at hsw hDs
                rw [← hv1] at c1
                rw [← hv2] at c3' c5
                have HSW := Lib.hid (show ∃ d now, AllS want q (z + 1) d now ∧ IW wc (some ⟨gn, 0, none⟩) q c3 now ((w5.setCell ⟨gn, i, none⟩ (.int .i64 v2)).setCell ⟨gn, j, none⟩ (.int .i64 v1)) ∧ DS W4 A7 (z + 1) c7 d ((w5.setCell ⟨gn, i, none⟩ (.int .i64 v2)).setCell ⟨gn, j, none⟩ (.int .i64 v1)) from ⟨_, _, HA7.out, hsw, hDs⟩)
                clear hsw hv1 hv2 hvd hDd hDs hw5 hI7 hD7 HA7 HS HC HCW
                refine wpAnyH_take (i := 0) (v := ?_) rfl (by kernel_rfl) (by kernel_rfl) (by kernel_rfl) (fun _ _ _ h => h) (Or.inl ⟨by rfl, ?_⟩) hHeld ?_
                rotate_left
                · (intro w hSw; go_simp; (try with_reducible rfl))
                simp only [Act.put, List.getElem_toArray, List.getElem_cons_zero, List.getElem_cons_succ, List.setIfInBounds_toArray, List.set_cons_zero, List.set_cons_succ]
                refine wpAnyH_take (i := 1) (v := ?_) rfl (by kernel_rfl) (by kernel_rfl) (by kernel_rfl) (fun _ _ _ h => h) (Or.inl ⟨by rfl, ?_⟩) hHeld ?_
                rotate_left
                · (intro w hSw; go_simp; (try with_reducible rfl))
                simp only [Act.put, List.getElem_toArray, List.getElem_cons_zero, List.getElem_cons_succ, List.setIfInBounds_toArray, List.set_cons_zero, List.set_cons_succ]
                refine wpAnyH_take (i := 2) (v := ?_) rfl (by kernel_rfl) (by kernel_rfl) (by kernel_rfl) (fun _ _ _ h => h) (Or.inl ⟨by rfl, ?_⟩) hHeld ?_
                rotate_left
                · (intro w hSw; go_simp; (try with_reducible rfl))
                simp only [Act.put, List.getElem_toArray, List.getElem_cons_zero, List.getElem_cons_succ, List.setIfInBounds_toArray, List.set_cons_zero, List.set_cons_succ]
                refine wpAnyH_take (i := 3) (v := ?_) rfl (by kernel_rfl) (by kernel_rfl) (by kernel_rfl) (fun _ _ _ h => h) (Or.inl ⟨by rfl, ?_⟩) hHeld ?_
                rotate_left
                · (intro w hSw; go_simp; (try with_reducible rfl))
                simp only [Act.put, List.getElem_toArray, List.getElem_cons_zero, List.getElem_cons_succ, List.setIfInBounds_toArray, List.set_cons_zero, List.set_cons_succ]
                refine wpAnyH_take (i := 4) (v := ?_) rfl (by kernel_rfl) (by kernel_rfl) (by kernel_rfl) (fun _ _ _ h => h) (Or.inl ⟨by rfl, ?_⟩) hHeld ?_
                rotate_left
                · (intro w hSw; go_simp; (try with_reducible rfl))
                simp only [Act.put, List.getElem_toArray, List.getElem_cons_zero, List.getElem_cons_succ, List.setIfInBounds_toArray, List.set_cons_zero, List.set_cons_succ]
                refine wpAnyH_take (i := 5) (v := ?_) rfl (by kernel_rfl) (by kernel_rfl) (by kernel_rfl) (fun _ _ _ h => h) (Or.inl ⟨by rfl, ?_⟩) hHeld ?_
                rotate_left
                · (intro w hSw; go_simp; (try with_reducible rfl))
                simp only [Act.put, List.getElem_toArray, List.getElem_cons_zero, List.getElem_cons_succ, List.setIfInBounds_toArray, List.set_cons_zero, List.set_cons_succ]
                refine wpAnyH_take (i := 6) (v := ?_) rfl (by kernel_rfl) (by kernel_rfl) (by kernel_rfl) (fun _ _ _ h => h) (Or.inl ⟨by rfl, ?_⟩) hHeld ?_
                rotate_left
                · (intro w hSw; go_simp; (try with_reducible rfl))
                simp only [Act.put, List.getElem_toArray, List.getElem_cons_zero, List.getElem_cons_succ, List.setIfInBounds_toArray, List.set_cons_zero, List.set_cons_succ]
                refine wpAnyH_take (i := 8) (v := ?_) rfl (by kernel_rfl) (by kernel_rfl) (by kernel_rfl) (fun _ _ _ h => h) (Or.inl ⟨by rfl, ?_⟩) hHeld ?_
                rotate_left
                · (intro w hSw; go_simp; (try with_reducible rfl))
                simp only [Act.put, List.getElem_toArray, List.getElem_cons_zero, List.getElem_cons_succ, List.setIfInBounds_toArray, List.set_cons_zero, List.set_cons_succ]
                refine wpAnyH_take (i := 9) (v := ?_) rfl (by kernel_rfl) (by kernel_rfl) (by kernel_rfl) (fun _ _ _ h => h) (Or.inl ⟨by rfl, ?_⟩) hHeld ?_
                rotate_left
                · (intro w hSw; go_simp; (try with_reducible rfl))
                simp only [Act.put, List.getElem_toArray, List.getElem_cons_zero, List.getElem_cons_succ, List.setIfInBounds_toArray, List.set_cons_zero, List.set_cons_succ]
                refine wpAnyH_take (i := 10) (v := ?_) rfl (by kernel_rfl) (by kernel_rfl) (by kernel_rfl) (fun _ _ _ h => h) (Or.inl ⟨by rfl, ?_⟩) hHeld ?_
                rotate_left
                · (intro w hSw; go_simp; (try with_reducible rfl))
                simp only [Act.put, List.getElem_toArray, List.getElem_cons_zero, List.getElem_cons_succ, List.setIfInBounds_toArray, List.set_cons_zero, List.set_cons_succ]
                refine wpAnyH_ready (rs := [7, 11]) (by kernel_rfl) (by simp) ?_
                refine AllReadyH.cons rfl (fun K hK => ?_) (AllReadyH.cons rfl (fun K hK => ?_) AllReadyH.nil)
                all_goals (try simp only [List.getElem_toArray, List.getElem_cons_zero, List.getElem_cons_succ])
                · go_simp
                  refine hK.out _ _ trivial (fun _ => ?_)
                  clear hK K
                  try simp only [Act.put, List.setIfInBounds_toArray, List.set_cons_zero, List.set_cons_succ]
                  refine wpAnyH_ready (rs := [11]) (by kernel_rfl) (by simp) ?_
                  refine AllReadyH.cons rfl (fun K hK => ?_) AllReadyH.nil
                  try simp only [List.getElem_toArray, List.getElem_cons_zero, List.getElem_cons_succ]
                  go_simp
                  refine hK.out _ _ trivial (fun _ => ?_)
                  clear hK K
                  try simp only [Act.put, List.setIfInBounds_toArray, List.set_cons_zero, List.set_cons_succ]
                  refine wpAnyH_take (i := 12) (v := ?_) rfl (by kernel_rfl) (by kernel_rfl) (by kernel_rfl) (fun _ _ _ h => h) (Or.inl ⟨by rfl, ?_⟩) hHeld ?_
                  rotate_left
                  · (intro w hSw; go_simp; (try with_reducible rfl))
                  simp only [Act.put, List.getElem_toArray, List.getElem_cons_zero, List.getElem_cons_succ, List.setIfInBounds_toArray, List.set_cons_zero, List.set_cons_succ]
                  refine wpAnyH_ready (rs := [13]) (by kernel_rfl) (by simp) ?_
                  refine AllReadyH.cons rfl (fun K hK => ?_) AllReadyH.nil
                  try simp only [List.getElem_toArray, List.getElem_cons_zero, List.getElem_cons_succ]
                  go_simp
                  refine hK.out _ _ trivial (fun _ => ?_)
                  clear hK K
                  try simp only [Act.put, List.setIfInBounds_toArray, List.set_cons_zero, List.set_cons_succ]
                  refine wpAnyH_take (i := 14) (v := ?_) rfl (by kernel_rfl) (by kernel_rfl) (by kernel_rfl) (fun _ _ _ h => h) (Or.inl ⟨by rfl, ?_⟩) hHeld ?_
                  rotate_left
                  · (intro w hSw; go_simp; (try with_reducible rfl))
                  simp only [Act.put, List.getElem_toArray, List.getElem_cons_zero, List.getElem_cons_succ, List.setIfInBounds_toArray, List.set_cons_zero, List.set_cons_succ]
                  refine wpAnyH_ready (rs := [15]) (by kernel_rfl) (by simp) ?_
                  refine AllReadyH.cons rfl (fun K hK => ?_) AllReadyH.nil
                  try simp only [List.getElem_toArray, List.getElem_cons_zero, List.getElem_cons_succ]
                  go_simp
                  refine hK.out _ _ trivial (fun _ => ?_)
                  clear hK K
                  try simp only [Act.put, List.setIfInBounds_toArray, List.set_cons_zero, List.set_cons_succ]
                  refine wpAnyH_done (by kernel_rfl) ?_ _
                  go_wp2_with fail
                  go_roundw
                  case rel => exact ⟨z + 1, c7, A7, by have := HI.out; go_num, rfl, .inr (by omega), HSW⟩
                  case measure => simp [intOf]; omega
                · go_simp
                  refine hK.out _ _ trivial (fun _ => ?_)
                  clear hK K
                  try simp only [Act.put, List.setIfInBounds_toArray, List.set_cons_zero, List.set_cons_succ]
                  refine wpAnyH_ready (rs := [7]) (by kernel_rfl) (by simp) ?_
                  refine AllReadyH.cons rfl (fun K hK => ?_) AllReadyH.nil
                  try simp only [List.getElem_toArray, List.getElem_cons_zero, List.getElem_cons_succ]
                  go_simp
                  refine hK.out _ _ trivial (fun _ => ?_)
                  clear hK K
                  try simp only [Act.put, List.setIfInBounds_toArray, List.set_cons_zero, List.set_cons_succ]
                  refine wpAnyH_take (i := 12) (v := ?_) rfl (by kernel_rfl) (by kernel_rfl) (by kernel_rfl) (fun _ _ _ h => h) (Or.inl ⟨by rfl, ?_⟩) hHeld ?_
                  rotate_left
                  · (intro w hSw; go_simp; (try with_reducible rfl))
                  simp only [Act.put, List.getElem_toArray, List.getElem_cons_zero, List.getElem_cons_succ, List.setIfInBounds_toArray, List.set_cons_zero, List.set_cons_succ]
                  refine wpAnyH_ready (rs := [13]) (by kernel_rfl) (by simp) ?_
                  refine AllReadyH.cons rfl (fun K hK => ?_) AllReadyH.nil
                  try simp only [List.getElem_toArray, List.getElem_cons_zero, List.getElem_cons_succ]
                  go_simp
                  refine hK.out _ _ trivial (fun _ => ?_)
                  clear hK K
                  try simp only [Act.put, List.setIfInBounds_toArray, List.set_cons_zero, List.set_cons_succ]
                  refine wpAnyH_take (i := 14) (v := ?_) rfl (by kernel_rfl) (by kernel_rfl) (by kernel_rfl) (fun _ _ _ h => h) (Or.inl ⟨by rfl, ?_⟩) hHeld ?_
                  rotate_left
                  · (intro w hSw; go_simp; (try with_reducible rfl))
                  simp only [Act.put, List.getElem_toArray, List.getElem_cons_zero, List.getElem_cons_succ, List.setIfInBounds_toArray, List.set_cons_zero, List.set_cons_succ]
                  refine wpAnyH_ready (rs := [15]) (by kernel_rfl) (by simp) ?_
                  refine AllReadyH.cons rfl (fun K hK => ?_) AllReadyH.nil
                  try simp only [List.getElem_toArray, List.getElem_cons_zero, List.getElem_cons_succ]
                  go_simp
                  refine hK.out _ _ trivial (fun _ => ?_)
                  clear hK K
                  try simp only [Act.put, List.setIfInBounds_toArray, List.set_cons_zero, List.set_cons_succ]
                  refine wpAnyH_done (by kernel_rfl) ?_ _
                  go_wp2_with fail
                  go_roundw
                  case rel => exact ⟨z + 1, c7, A7, by have := HI.out; go_num, rfl, .inr (by omega), HSW⟩
                  case measure => simp [intOf]; omega
          · have hfin : now = want := all_done h1.p HWant.out.2.2.1 HWant.out.2.2.2.1 (fun j h4 h5 => h1.a j (by omega) h5)
            have hdl : d.length = q - 1 := by rw [h1.n]; omega
            have hod := ord_all hdl (by omega)
            rw [h1.s, hfin, h1.n] at hod
            obtain ⟨hNd, hzc⟩ := h3.nums
            have hbw : Below w.heap.size w wr := HWant.out.2.2.2.2.trans (h2.b.mono HWant.out.2.2.2.2.size)
            have hor := E.order Ad z cd d 0 (q : Int) wr hNd hzc (by omega) (fun x hx => by have := h1.r x hx; unfold N64; omega) (by unfold N64; omega) (by unfold N64; omega) hbw
            rw [hod] at hor
            unfold OrdP at hor
            have d0 : decide ((1 : Int) ≤ (q : Int) - 1 - (z : Int)) = false := by simp; omega
            have HWr := Lib.hid (show Nums .i64 wr wc.heap.size A2 q want from HWant.out.1.below h2.b)
            have HWs := Lib.hid (show wc.heap.size ≤ wr.heap.size from h2.b.size)
            have HBw := Lib.hid hbw
            clear h1 h2 h3 hfin hdl hod hNd hbw HA
            go_wp2_with fail
            refine hor.mono ?_
            rintro en w8 ⟨A8, n8, c8, rfl, hc8, hN8, hb8⟩
            rw [show errV (want, (z : Int), (0 : Int)).2.2 = .nilIface from errV_nil]
            have hin := ints_any A8 A2 n8 c8 q c2 want want w8 _ _ hN8 (HWr.out.belowL hb8 HWs.out) (by have h8 := hN8.len; have h9 := HWant.out.2.2.2.1; have h10 : want.length = n8 := h8; omega) (by omega)
            rw [decide_eq_true rfl] at hin
            have HB8 := Lib.hid (keepB hb8 HBw.out)
            clear hor hN8 hb8
            go_wp2_with fail
            refine hin.mono ?_
            rintro en w9 ⟨rfl, m9, rfl⟩
            clear hin
            go_wp2_with fail
            go_ret
            exact ⟨rfl, below_drewN HB8.out m9⟩
end Go.Proofs.Ytllamlmeklalaaa
