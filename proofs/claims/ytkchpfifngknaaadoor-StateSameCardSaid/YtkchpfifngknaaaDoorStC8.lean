/- Layer 10: the code's slices.Equal, Same. -/
import Derived.Test.YtkchpfifngknaaaDoorStSame
import Derived.Test.YtkchpfifngknaaaDoorStC6
import Derived.Test.YtkchpfifngknaaaDoorReg
namespace Go.Proofs.YtkchpfifngknaaaDoor
open Go.RowKit Ex
attribute [local go_sem] arr_get
set_option maxRecDepth 100000
theorem yields_obj {ops : Array Oper} {S : World → Prop} {op : Oper} {a : Act} (hw : Region.wanted op (yielded ops a.tmps) = true) (x : Operand) (ho : op.op = .load 33 x)
    (b o : Nat) (hx : a.eval x = .pointer (some ⟨b, o, none⟩)) (f : Nat → Int) (hS : ∀ w, S w → w.rangeAt b o (arr .i64 18 f).toList) : YieldsIf Tryd.prog ops S op (.agg (arr .i64 18 f)) a := by
  have h := yieldsIf_load_mid (P := Tryd.prog) (S := S) hw 33 x ho b o hx (arr .i64 18 f).toList _ hS Tryd.underlying33 rfl (by rw [Array.length_toList, arr_size]; exact st_size18)
  rw [Array.toArray_toList] at h
  exact h
set_option maxHeartbeats 400000 in
theorem equalI_any (A1 A2 : Option Addr) (n1 c1 n2 c2 : Nat) (l1 l2 : List Int) (w : World) (B1 B2 : Nat) (h1 : Nums .i64 w B1 A1 n1 l1) (h2 : Nums .i64 w B2 A2 n2 l2) (hn1 : n1 ≤ 1000000000) (hn2 : n2 ≤ 1000000000) :
    Calls Tryd.prog 28 #[.slice A1 n1 c1, .slice A2 n2 c2] w fun e w' => e = .returned (.bool (decide (l1 = l2))) ∧ ∃ m, w' = w.drewN m := by
  obtain rfl := h1.len
  obtain rfl := h2.len
  have H1 := Lib.hid h1
  have H2 := Lib.hid h2
  clear h1 h2
  by_cases hne : l1.length = l2.length
  · have hb : ((l1.length : Int) != (l2.length : Int)) = false := by rw [bne_eq_false_iff_eq]; omega
    have HL := Lib.hid hne
    have hle : l1.length ≤ l2.length := by omega
    clear hne
    go_enter Tryd.func28, Tryd.ntmps28
    go_wp2_with fail
    go_loopw [13] (fun i wr => ∃ k m : Nat, i = .int .i64 ((k : Nat) : Int) ∧ k ≤ l1.length ∧ wr = w.drewN m ∧ Hid (l1.take k = l2.take k)) (fun i _ => l1.length - (intOf i).toNat)
    case atStart => exact ⟨0, 0, rfl, by omega, rfl, rfl⟩
    case round =>
      obtain ⟨k, m, rfl, hk, rfl, HT⟩ := hrel
      by_cases hlt : k < l1.length
      · obtain ⟨a1, e1, _, g1⟩ := H1.out.at_ hlt
        obtain ⟨a2, e2, _, g2⟩ := H2.out.at_ (show k < l2.length by omega)
        have HN := ints_take hlt (show k < l2.length by omega) HT.out
        obtain ⟨x, hx⟩ : ∃ x, x = l1[k] := ⟨_, rfl⟩
        obtain ⟨y, hy⟩ : ∃ y, y = l2[k]'(show k < l2.length by omega) := ⟨_, rfl⟩
        rw [← hx] at g1
        rw [← hy] at g2
        subst e1 e2
        have b0 : (0 : Int) ≤ (k : Int) := by omega
        have b1 : (k : Int) < (l1.length : Int) := by omega
        have b2 : (k : Int) < (l2.length : Int) := by omega
        have HN := Lib.hid HN
        have HX := Lib.hid hx
        have HY := Lib.hid hy
        clear hx hy
        by_cases hxy : x = y
        · have hb2 : (x != y) = false := by simpa using hxy
          have HXY := Lib.hid hxy
          clear hxy
          go_wp2_with fail
          go_quiet (fail)
          go_wp2_with fail
          go_roundw
          case rel => exact ⟨k + 1, _, by go_num, by omega, rfl, HN.out (by rw [← HX.out, ← HY.out]; exact HXY.out)⟩
          case measure => simp [intOf]; omega
        · have hb2 : (x != y) = true := by simpa using hxy
          have HD : Hid (false = decide (l1 = l2)) := by
            show _ = _
            rw [eq_comm, decide_eq_false_iff_not]; intro e; apply hxy
            rw [HX.out, HY.out]; subst e; rfl
          clear hxy
          go_wp2_with fail
          go_quiet (fail)
          go_wp2_with fail
          go_ret
          rw [← HD.out]
          exact ⟨rfl, m + nq, by rw [World.drewN_drewN]⟩
      · have HD : Hid (true = decide (l1 = l2)) := by
          show _ = _
          have h := HT.out
          have h5 := HL.out
          rw [List.take_of_length_le (by omega), List.take_of_length_le (by omega)] at h
          rw [eq_comm, decide_eq_true_iff]; exact h
        go_wp2_with fail
        go_ret
        rw [← HD.out]
        exact ⟨rfl, m, rfl⟩
  · have hb : ((l1.length : Int) != (l2.length : Int)) = true := by rw [bne_iff_ne]; omega
    have HD : Hid (false = decide (l1 = l2)) := by
      show _ = _
      rw [eq_comm, decide_eq_false_iff_not]; intro e; exact hne (by rw [e])
    clear hne
    go_enter Tryd.func28, Tryd.ntmps28
    go_wp2_with fail
    go_ret
    rw [← HD.out]
    exact ⟨rfl, 0, rfl⟩
set_option linter.unusedSimpArgs false in
set_option maxHeartbeats 1000000 in
theorem equalO_any (A1 A2 : Option Addr) (c1 c2 : Nat) (l1 l2 : List (Nat → Int)) (w : World) (B1 B2 : Nat) (h1 : RdO B1 w A1 l1) (h2 : RdO B2 w A2 l2) (hB1 : B1 ≤ w.heap.size) (hB2 : B2 ≤ w.heap.size) (hn1 : l1.length ≤ 1000000000) (hn2 : l2.length ≤ 1000000000) :
    Calls Tryd.prog 29 #[.slice A1 l1.length c1, .slice A2 l2.length c2] w fun e w' => e = .returned (.bool (sameOL l1 l2)) ∧ ∃ m, w' = w.drewN m := by
  obtain ⟨q, hq⟩ : ∃ q, q = sameOL l1 l2 := ⟨_, rfl⟩
  rw [← hq]
  have HQ := Lib.hid hq
  have H1 := Lib.hid h1
  have H2 := Lib.hid h2
  clear h1 h2 hq
  by_cases hne : l1.length = l2.length
  · have hb : ((l1.length : Int) != (l2.length : Int)) = false := by rw [bne_eq_false_iff_eq]; omega
    have HL := Lib.hid hne
    have hle : l1.length ≤ l2.length := by omega
    clear hne
    go_enter Tryd.func29, Tryd.ntmps29
    go_wp2_with fail
    go_loopw [13] (fun i wr => ∃ k m : Nat, i = .int .i64 ((k : Nat) : Int) ∧ k ≤ l1.length ∧ wr = w.drewN m ∧ Hid (∀ j (h1 : j < l1.length) (h2 : j < l2.length), j < k → sameI 18 l1[j] l2[j] = true)) (fun i _ => l1.length - (intOf i).toNat)
    case atStart => exact ⟨0, 0, rfl, by omega, rfl, fun j _ _ h => absurd h (by omega)⟩
    case round =>
      obtain ⟨k, m, rfl, hk, rfl, HT⟩ := hrel
      by_cases hlt : k < l1.length
      · have hlt2 : k < l2.length := by omega
        obtain ⟨b1, o1, rfl, hb1, g1⟩ := H1.out.at_ hlt
        obtain ⟨b2, o2, rfl, hb2, g2⟩ := H2.out.at_ hlt2
        obtain ⟨x, hx⟩ : ∃ x, x = l1[k] := ⟨_, rfl⟩
        obtain ⟨y, hy⟩ : ∃ y, y = l2[k] := ⟨_, rfl⟩
        rw [← hx] at g1
        rw [← hy] at g2
        have p0 : (0 : Int) ≤ (k : Int) := by omega
        have p1 : (k : Int) < (l1.length : Int) := by omega
        have p2 : (k : Int) < (l2.length : Int) := by omega
        have hneq := neq_obj x y
        obtain ⟨r, hr⟩ : ∃ r, r = sameI 18 x y := ⟨_, rfl⟩
        rw [← hr] at hneq
        have HR := Lib.hid (show r = sameI 18 l1[k] l2[k] by rw [hr, hx, hy])
        have G1 := Lib.hid g1
        have G2 := Lib.hid g2
        have hb1 : b1 < (w.drewN m).heap.size := by show b1 < w.heap.size; omega
        have hb2 : b2 < (w.drewN m).heap.size := by show b2 < w.heap.size; omega
        clear hx hy hr g1 g2
        go_upto_region 6 with fail
        refine region_below (by kernel_rfl) (fun hHeld => ?_)
        refine wpAnyH_take (i := 0) (v := ?_) rfl (by kernel_rfl) (by kernel_rfl) (by kernel_rfl) (fun _ _ _ h => h) (Or.inl ⟨by rfl, ?_⟩) hHeld ?_
        rotate_left
        · (intro w hSw; go_simp; (try with_reducible rfl))
        simp only [Act.put, List.getElem_toArray, List.getElem_cons_zero, List.getElem_cons_succ, List.setIfInBounds_toArray, List.set_cons_zero, List.set_cons_succ]
        refine wpAnyH_take (i := 1) (v := ?_) rfl (by kernel_rfl) (by kernel_rfl) (by kernel_rfl) (fun _ _ _ h => h) (Or.inl ⟨by rfl, ?_⟩) hHeld ?_
        rotate_left
        · (intro w hSw; go_simp; (try with_reducible rfl))
        simp only [Act.put, List.getElem_toArray, List.getElem_cons_zero, List.getElem_cons_succ, List.setIfInBounds_toArray, List.set_cons_zero, List.set_cons_succ]
        refine wpAnyH_take (i := 2) (v := ?_) rfl (by kernel_rfl) (by kernel_rfl) (by kernel_rfl) (fun _ _ _ h => h) (Or.inl ⟨by rfl, ?_⟩) hHeld ?_
        rotate_left
        · (intro w hSw; go_simp; (try with_reducible rfl))
        simp only [Act.put, List.getElem_toArray, List.getElem_cons_zero, List.getElem_cons_succ, List.setIfInBounds_toArray, List.set_cons_zero, List.set_cons_succ]
        refine wpAnyH_take (i := 3) (v := .agg (arr .i64 18 x)) rfl (by kernel_rfl) (by kernel_rfl) (by kernel_rfl) (fun _ _ _ h => h) (yields_obj (by rfl) (.tmp 18) rfl b1 (o1 + k * 18) rfl x (fun W hW => range_below hW hb1 (G1).out)) hHeld ?_
        simp only [Act.put, List.getElem_toArray, List.getElem_cons_zero, List.getElem_cons_succ, List.setIfInBounds_toArray, List.set_cons_zero, List.set_cons_succ]
        refine wpAnyH_take (i := 4) (v := ?_) rfl (by kernel_rfl) (by kernel_rfl) (by kernel_rfl) (fun _ _ _ h => h) (Or.inl ⟨by rfl, ?_⟩) hHeld ?_
        rotate_left
        · (intro w hSw; go_simp; (try with_reducible rfl))
        simp only [Act.put, List.getElem_toArray, List.getElem_cons_zero, List.getElem_cons_succ, List.setIfInBounds_toArray, List.set_cons_zero, List.set_cons_succ]
        refine wpAnyH_take (i := 5) (v := ?_) rfl (by kernel_rfl) (by kernel_rfl) (by kernel_rfl) (fun _ _ _ h => h) (Or.inl ⟨by rfl, ?_⟩) hHeld ?_
        rotate_left
        · (intro w hSw; go_simp; (try with_reducible rfl))
        simp only [Act.put, List.getElem_toArray, List.getElem_cons_zero, List.getElem_cons_succ, List.setIfInBounds_toArray, List.set_cons_zero, List.set_cons_succ]
        refine wpAnyH_take (i := 6) (v := ?_) rfl (by kernel_rfl) (by kernel_rfl) (by kernel_rfl) (fun _ _ _ h => h) (Or.inl ⟨by rfl, ?_⟩) hHeld ?_
        rotate_left
        · (intro w hSw; go_simp; (try with_reducible rfl))
        simp only [Act.put, List.getElem_toArray, List.getElem_cons_zero, List.getElem_cons_succ, List.setIfInBounds_toArray, List.set_cons_zero, List.set_cons_succ]
        refine wpAnyH_take (i := 7) (v := .agg (arr .i64 18 y)) rfl (by kernel_rfl) (by kernel_rfl) (by kernel_rfl) (fun _ _ _ h => h) (yields_obj (by rfl) (.tmp 22) rfl b2 (o2 + k * 18) rfl y (fun W hW => range_below hW hb2 (G2).out)) hHeld ?_
        simp only [Act.put, List.getElem_toArray, List.getElem_cons_zero, List.getElem_cons_succ, List.setIfInBounds_toArray, List.set_cons_zero, List.set_cons_succ]
        refine wpAnyH_take (i := 8) (v := ?_) rfl (by kernel_rfl) (by kernel_rfl) (by kernel_rfl) (fun _ _ _ h => h) (Or.inl ⟨by rfl, ?_⟩) hHeld ?_
        rotate_left
        · (intro w hSw; go_simp; (try with_reducible rfl))
        simp only [Act.put, List.getElem_toArray, List.getElem_cons_zero, List.getElem_cons_succ, List.setIfInBounds_toArray, List.set_cons_zero, List.set_cons_succ]
        refine wpAnyH_done (by kernel_rfl) ?_ _
        clear hneq hHeld
        by_cases hrt : r = true
        · subst hrt
          have HT2 := Lib.hid (show ∀ j (h1 : j < l1.length) (h2 : j < l2.length), j < k + 1 → sameI 18 l1[j] l2[j] = true from fun j h1 h2 hj => by
            by_cases e : j = k
            · subst e; exact HR.out.symm
            · exact HT.out j h1 h2 (by omega))
          go_wp2_with fail
          go_roundw
          case rel => exact ⟨k + 1, m + 1, by go_num, by omega, by rfl, HT2⟩
          case measure => simp [intOf]; omega
        · obtain rfl : r = false := by simpa using hrt
          obtain rfl := HQ.out.trans (sameOL_at hlt hlt2 HR.out.symm)
          go_wp2_with fail
          go_ret
          exact ⟨rfl, m + 1, rfl⟩
      · obtain rfl := HQ.out.trans (sameOL_iff.2 ⟨HL.out, fun j h1 h2 => HT.out j h1 h2 (by omega)⟩)
        go_wp2_with fail
        go_ret
        exact ⟨rfl, m, rfl⟩
  · have hb : ((l1.length : Int) != (l2.length : Int)) = true := by rw [bne_iff_ne]; omega
    obtain rfl := HQ.out.trans (sameOL_len hne)
    clear hne
    go_enter Tryd.func29, Tryd.ntmps29
    go_wp2_with fail
    go_ret
    exact ⟨rfl, 0, rfl⟩
theorem load_twoW {ops : Array Oper} {rest : List Oper} {op : Oper} {a : Act} {w : World} {Q : Exit → Act → World → Prop} (hw : Region.wanted op (yielded ops a.tmps) = true) (x : Operand) (ho : op.op = .load 26 x)
    (b o : Nat) (hx : a.eval x = .pointer (some ⟨b, o, none⟩)) (f : Nat → Int) (h : w.rangeAt b o (arr .i64 18 f).toList)
    (hK : wpList Tryd.prog ops Q rest (a.put op.dst (.agg (arr .i64 18 f))) w) : wpList Tryd.prog ops Q (op :: rest) a w := by
  refine BigFrame.wpList_want hw fun _ hK' => wp_load_mid 26 x ho b o hx (arr .i64 18 f).toList _ h Tryd.underlying26 rfl (by rw [Array.length_toList, arr_size]; exact size18p) (hK' _ _ ?_)
  rw [Array.toArray_toList]
  exact hK
theorem load_sevenW {ops : Array Oper} {rest : List Oper} {op : Oper} {a : Act} {w : World} {Q : Exit → Act → World → Prop} (hw : Region.wanted op (yielded ops a.tmps) = true) (x : Operand) (ho : op.op = .load 27 x)
    (b o : Nat) (hx : a.eval x = .pointer (some ⟨b, o, none⟩)) (f : Nat → Int) (h : w.rangeAt b o (arr .i64 7 f).toList)
    (hK : wpList Tryd.prog ops Q rest (a.put op.dst (.agg (arr .i64 7 f))) w) : wpList Tryd.prog ops Q (op :: rest) a w := by
  refine BigFrame.wpList_want hw fun _ hK' => wp_load_mid 27 x ho b o hx (arr .i64 7 f).toList _ h Tryd.underlying27 rfl (by rw [Array.length_toList, arr_size]; exact st_size7) (hK' _ _ ?_)
  rw [Array.toArray_toList]
  exact hK
/-- Two boxes with states. -/
structure TwoS (w : World) (ga gb : Nat) (ca cb : Array Value) (W : World) : Prop where
  b : Below w.heap.size w W
  sa : StAt W ga ca
  sb : StAt W gb cb
theorem TwoS.keep {w : World} {ga gb : Nat} {ca cb : Array Value} {W W' : World} (h : TwoS w ga gb ca cb W) (hb : Below W.heap.size W W') : TwoS w ga gb ca cb W' := ⟨keepB hb h.b, h.sa.keep hb, h.sb.keep hb⟩
theorem TwoS.drewN {w : World} {ga gb : Nat} {ca cb : Array Value} {W : World} (h : TwoS w ga gb ca cb W) (m : Nat) : TwoS w ga gb ca cb (W.drewN m) := ⟨below_drewN h.b m, h.sa, h.sb⟩
set_option maxHeartbeats 0 in
theorem same_code (a b : StT) (Oa Ob : SlT) (La Lb : Nat → SlT) (ca cb : Array Value) (w : World) (hA : ReadsS w.heap.size w ca a Oa La) (hB : ReadsS w.heap.size w cb b Ob Lb)
    (na : a.objs.length ≤ 1000000) (nb : b.objs.length ≤ 1000000) (la : ∀ z < 11, (a.lists z).length ≤ 1000000) (lb : ∀ z < 11, (b.lists z).length ≤ 1000000) :
    Calls Tryd.prog 15 #[.agg ca, .agg cb] w fun e w' => e = .returned (.bool (sameS a b)) ∧ Below w.heap.size w w' := by
  obtain ⟨q, hq⟩ : ∃ q, q = sameS a b := ⟨_, rfl⟩
  rw [← hq]
  have HQ := Lib.hid hq
  clear hq
  go_enter Tryd.func15, Tryd.ntmps15
  have HA := Lib.hid hA
  have HB := Lib.hid hB
  clear hA hB
  have ca0 : ca[0]? = some (.slice Oa.A a.objs.length Oa.c) := by rw [HA.out.cs, stC_objs, ← HA.out.on]; rfl
  have cb0 : cb[0]? = some (.slice Ob.A b.objs.length Ob.c) := by rw [HB.out.cs, stC_objs, ← HB.out.on]; rfl
  go_upto_region 1 with fail
  have HT := Lib.hid (show TwoS w w.heap.size (w.heap.size + 1) ca cb ((w.alloc (.cells ca 29)).alloc (.cells cb 29)) from by
    have h1 : Below (w.alloc (.cells ca 29)).heap.size (w.alloc (.cells ca 29)) ((w.alloc (.cells ca 29)).alloc (.cells cb 29)) := (Below.refl _ _).alloc (Nat.le_refl _) _
    have h0 : Below w.heap.size w (w.alloc (.cells ca 29)) := (Below.refl _ _).alloc (Nat.le_refl _) _
    refine ⟨keepB h1 h0, (StAt.new w ca).keep h1, ?_⟩
    have h := StAt.new (w.alloc (.cells ca 29)) cb
    simpa using h)
  obtain ⟨w1, hw1⟩ : ∃ w1, w1 = (w.alloc (.cells ca 29)).alloc (.cells cb 29) := ⟨_, rfl⟩
  obtain ⟨gb, hgb⟩ : ∃ gb, gb = w.heap.size + 1 := ⟨_, rfl⟩
  rw [← hw1, ← hgb] at HT
  rw [← hw1, ← hgb]
  clear hw1 hgb
  have hra := HT.out.sa
  rw [HA.out.cs] at hra
  have hra := hra.ls
  go_upto_region 2 with (refine load_lists rfl (.tmp 7) rfl w.heap.size 1 rfl (sl11 La) (sl11_size La) hra ?_)
  clear hra
  have HL0 := Lib.hid (show ∀ y, y < 0 → a.lists y = b.lists y from fun y hy => absurd hy (by omega))
  go_loopw [9] (fun i wr => ∃ z : Nat, i = .int .i64 ((z : Nat) : Int) ∧ z ≤ 11 ∧ Hid (∀ y, y < z → a.lists y = b.lists y) ∧ Hid (TwoS w w.heap.size gb ca cb wr)) (fun i _ => 11 - (intOf i).toNat)
  case atStart => exact ⟨0, rfl, by omega, HL0, HT⟩
  case round =>
    clear HT HL0
    obtain ⟨z, rfl, hz, HL, HT⟩ := hrel
    by_cases hlt : z < 11
    · have hd : decide ((z : Int) < 11) = true := by simp; omega
      obtain ⟨A1, n1, c1, hix, _, hN1⟩ := list_at HA.out hlt
      obtain ⟨A2, n2, c2, hc2, _, hN2⟩ := HB.out.at_list hlt
      replace hc2 := (HT.out.sb.cell (1 + z)).trans hc2
      have heq := equalI_any A1 A2 n1 c1 n2 c2 _ _ wr _ _ (hN1.below HT.out.b) (hN2.below HT.out.b) (by have := hN1.len; have := la z hlt; omega) (by have := hN2.len; have := lb z hlt; omega)
      obtain ⟨r, hr⟩ : ∃ r, r = decide (a.lists z = b.lists z) := ⟨_, rfl⟩
      rw [← hr] at heq
      have HR := Lib.hid hr
      clear hr hN1 hN2
      go_wp2_with fail
      refine heq.mono ?_
      rintro e w4 ⟨rfl, m, rfl⟩
      clear heq hix hc2
      have HT2 := Lib.hid (HT.out.drewN m)
      by_cases hrt : r = true
      · subst hrt
        have HL2 := Lib.hid (show ∀ y, y < z + 1 → a.lists y = b.lists y from fun y hy => by
          by_cases e : y = z
          · subst e; exact of_decide_eq_true HR.out.symm
          · exact HL.out y (by omega))
        go_wp2_with fail
        go_roundw
        case rel => exact ⟨z + 1, by go_num, by omega, HL2, HT2⟩
        case measure => simp [intOf]; omega
      · obtain rfl : r = false := by simpa using hrt
        have hf : sameS a b = false := by simp only [sameS, sameL_bad hlt (of_decide_eq_false HR.out.symm), Bool.false_and]
        obtain rfl := HQ.out.trans hf
        clear hf
        go_wp2_with fail
        go_ret
        exact ⟨rfl, HT2.out.b⟩
    · obtain rfl : z = 11 := by omega
      have hsl := sameL_good HL.out
      have c1 := (HT.out.sa.cell 0).trans ca0
      have c2 := (HT.out.sb.cell 0).trans cb0
      have heq := equalO_any Oa.A Ob.A Oa.c Ob.c a.objs b.objs wr _ _ (HA.out.o.below HT.out.b) (HB.out.o.below HT.out.b) HT.out.b.size HT.out.b.size (by omega) (by omega)
      obtain ⟨r, hr⟩ : ∃ r, r = sameOL a.objs b.objs := ⟨_, rfl⟩
      rw [← hr] at heq
      have HR := Lib.hid hr
      clear hr
      go_wp2_with fail
      refine heq.mono ?_
      rintro e w4 ⟨rfl, m, rfl⟩
      clear heq c1 c2
      have HT2 := Lib.hid (HT.out.drewN m)
      clear HT
      obtain ⟨w5, hw5⟩ : ∃ w5, w5 = wr.drewN m := ⟨_, rfl⟩
      rw [← hw5] at HT2
      rw [← hw5]
      clear hw5
      by_cases hrt : r = true
      case neg =>
        obtain rfl : r = false := by simpa using hrt
        have hf : sameS a b = false := by simp only [sameS, ← HR.out, Bool.false_and, Bool.and_false]
        obtain rfl := HQ.out.trans hf
        clear hf
        go_wp2_with fail
        go_ret
        exact ⟨rfl, HT2.out.b⟩
      subst hrt
      have hra := HT2.out.sa
      rw [HA.out.cs] at hra
      have hrb := HT2.out.sb
      rw [HB.out.cs] at hrb
      have p1 := hra.two
      have p2 := hrb.two
      have g1 := hra.gm
      have g2 := hrb.gm
      have e1 := eql_two a.pl b.pl
      have e2 := eql_seven a.gm b.gm
      obtain ⟨u, hu⟩ : ∃ u, u = sameI 18 a.pl b.pl := ⟨_, rfl⟩
      obtain ⟨v, hv⟩ : ∃ v, v = sameI 7 a.gm b.gm := ⟨_, rfl⟩
      rw [← hu] at e1
      rw [← hv] at e2
      have hf : sameS a b = (u && v) := by simp only [sameS, ← HR.out, hsl, hu, hv, Bool.true_and]
      have hbw := HT2.out.b
      clear hsl hra hrb hu hv
      by_cases hut : u = true
      · subst hut
        obtain rfl := HQ.out.trans (hf.trans (Bool.true_and v))
        clear hf
        go_wp2_with (first
          | (refine load_twoW (by rfl) (.tmp 27) rfl w.heap.size 12 rfl a.pl p1 ?_)
          | (refine load_twoW (by rfl) (.tmp 29) rfl gb 12 rfl b.pl p2 ?_)
          | (refine load_sevenW (by rfl) (.tmp 34) rfl w.heap.size 30 rfl a.gm g1 ?_)
          | (refine load_sevenW (by rfl) (.tmp 36) rfl gb 30 rfl b.gm g2 ?_))
        go_ret
        exact ⟨rfl, hbw⟩
      · obtain rfl : u = false := by simpa using hut
        obtain rfl := HQ.out.trans (hf.trans (Bool.false_and v))
        clear hf
        go_wp2_with (first
          | (refine load_twoW (by rfl) (.tmp 27) rfl w.heap.size 12 rfl a.pl p1 ?_)
          | (refine load_twoW (by rfl) (.tmp 29) rfl gb 12 rfl b.pl p2 ?_))
        go_ret
        exact ⟨rfl, hbw⟩
end Go.Proofs.YtkchpfifngknaaaDoor
