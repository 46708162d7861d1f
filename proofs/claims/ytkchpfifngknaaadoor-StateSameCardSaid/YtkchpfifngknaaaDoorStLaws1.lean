/- Layer 10: the law StateChecks. -/
import Derived.Test.YtkchpfifngknaaaDoorStAlive
import Derived.Test.YtkchpfifngknaaaDoorStC3
import Derived.Test.YtkchpfifngknaaaDoorReg
namespace Go.Proofs.YtkchpfifngknaaaDoor
open Go.RowKit Ex
attribute [local go_sem] arr_get
set_option maxRecDepth 100000
theorem yields_st {ops : Array Oper} {S : World → Prop} {op : Oper} {a : Act} (hw : Region.wanted op (yielded ops a.tmps) = true) (x : Operand) (ho : op.op = .load 29 x)
    (g : Nat) (hx : a.eval x = .pointer (some ⟨g, 0, none⟩)) (cs : Array Value) (hs : cs.size = 37) (hS : ∀ w, S w → StAt w g cs) : YieldsIf Tryd.prog ops S op (.agg cs) a := by
  have h := yieldsIf_load_mid (P := Tryd.prog) (S := S) hw 29 x ho g 0 hx cs.toList _ (fun w hSw j v hv => by
    rw [Array.getElem?_toList] at hv
    rw [(hS w hSw).cell, Nat.zero_add]
    exact hv) Tryd.underlying29 rfl (by rw [Array.length_toList, hs]; exact size37)
  rw [Array.toArray_toList] at h
  exact h
/-- What is not long. -/
theorem long_not {s : StT} {most : Nat} (h : longS s most = false) : s.objs.length ≤ most ∧ ∀ z < 11, (s.lists z).length ≤ most + 10 := by
  simp only [longS, Bool.or_eq_false_iff, decide_eq_false_iff_not, List.any_eq_false, List.mem_range, decide_eq_true_eq] at h
  exact ⟨by have := h.1; omega, fun z hz => by have := h.2 z hz; omega⟩
set_option linter.unusedSimpArgs false in
set_option maxHeartbeats 0 in
theorem stateChecks_walk {w : World} (T : TabF w) (s : StT) (O : SlT) (L : Nat → SlT) (cs : Array Value) (h : ReadsS w.heap.size w cs s O L) :
    Calls Tryd.prog 3 #[.agg cs] w fun e w' => e = .returned (.bool true) ∧ Below w.heap.size w w' := by
  have hcsz := h.size
  go_enter Tryd.func3, Tryd.ntmps3
  have hcs := h.cs
  have c0 : cs[0]? = some (.slice O.A O.n O.c) := by rw [hcs]; exact stC_objs _ _ _ _
  have hOn := h.on
  have hOc := h.oc
  have hO := h.o
  have hsz : (Tryd.prog.info? 29).map (·.size) = some cs.size := by rw [h.size]; exact size37
  have H := Lib.hid h
  clear h
  obtain ⟨A, n, c⟩ := O
  simp only at c0 hOn hOc hO
  have HC := Lib.hid hcs
  clear hcs
  subst hOn
  go_upto_region 1 with fail
  have hs0 : StAt (w.alloc (.cells cs 29)) w.heap.size cs := StAt.new _ _
  have hb0 : Below w.heap.size w (w.alloc (.cells cs 29)) := (Below.refl _ _).alloc (Nat.le_refl _) _
  obtain ⟨w1, hw1⟩ : ∃ w1, w1 = w.alloc (.cells cs 29) := ⟨_, rfl⟩
  rw [← hw1] at hs0 hb0 ⊢
  clear hw1
  have c1 := (hs0.cell 0).trans c0
  go_wp2_with fail
  refine (stAlive T w1 hb0).mono ?_
  rintro e w2 ⟨rfl, hb2⟩
  have hs2 := hs0.keep hb2
  have hbw2 := keepB hb2 hb0
  clear c1 hs0
  go_wp2_with (refine load_wantS (by rfl) (.tmp 1) rfl w.heap.size rfl cs hs2 hcsz ?_)
  have hl := long_any s _ L cs 60 w2 w2.heap.size ((H.out.grow hbw2)) (by omega)
  rw [show ((60 : Nat) : Int) = 60 from rfl] at hl
  refine hl.mono ?_
  clear hl
  rintro e w3 ⟨rfl, hb3⟩
  have hs3 := hs2.keep hb3
  have hbw3 := keepB hb3 hbw2
  clear hb2 hs2 hbw2 hb3
  by_cases hlg : longS s 60 = true
  · rw [hlg]
    go_wp2_with fail
    go_ret
    exact ⟨rfl, hbw3⟩
  replace hlg : longS s 60 = false := by simpa using hlg
  obtain ⟨hn, hll⟩ := long_not hlg
  rw [hlg]
  clear hlg
  have c3 := (hs3.cell 0).trans c0
  go_upto_region 7 with fail
  have HS0 := Lib.hid hs3
  clear c3 hs3
  go_loopw [3, 13] (fun c i wr => ∃ k : Nat, i = .int .i64 ((k : Nat) : Int) ∧ c = .int .i64 ((cardsN (s.objs.take k) : Nat) : Int) ∧ k ≤ s.objs.length ∧ Below w.heap.size w wr ∧ Hid (StAt wr w.heap.size cs)) (fun _ i _ => s.objs.length - (intOf i).toNat)
  case atStart => exact ⟨0, rfl, by simp [cardsN], by omega, hbw3, HS0⟩
  case round =>
    clear hbw3 HS0
    obtain ⟨k, rfl, rfl, hk, hbr, HS⟩ := hrel
    have hle := cards_le s.objs k
    by_cases hlt : k < s.objs.length
    · have hst := Lib.hid (cards_step hlt)
      obtain ⟨m, hm⟩ : ∃ m, m = cardsN (s.objs.take k) := ⟨_, rfl⟩
      rw [← hm] at hle ⊢
      have HM := Lib.hid hm
      clear hm
      obtain ⟨b, off, rfl, hbB, hra⟩ := hO.at_ hlt
      have hra := range_below hbr (by omega) hra
      obtain ⟨x, hx⟩ : ∃ x, x = s.objs[k] := ⟨_, rfl⟩
      rw [← hx] at hra
      have HX := Lib.hid hx
      clear hx
      have hz := st_zero18
      have hnew : (wr.alloc (.cells (arr .i64 18 fun _ => 0) 33)).heap[wr.heap.size]? = some (.cells (arr .i64 18 fun _ => 0) 33 (0, 0)) := heap_alloc_new _ _
      have hsx : (Tryd.prog.info? 33).map (·.size) = some (arr .i64 18 x).size := by rw [arr_size]; exact st_size18
      go_upto_region 9 with (first
        | (refine load_obj rfl (.tmp 15) rfl b (off + k * 18) rfl x hra ?_)
        | (refine wpList_store_row rfl 33 (.tmp 5) (.tmp 16) rfl wr.heap.size _ rfl rfl 33 (arr .i64 18 fun _ => 0) hnew hsx (by rw [arr_size, arr_size]) (arr_one .i64 18 x) ?_))
      obtain ⟨wn, hwn, hEn, hbn⟩ := ob_box wr x
      rw [← hwn]
      have hbrn := keepB hbn hbr
      clear hwn hnew hra hz
      have xs : ∀ i < 18, wn.cell? ⟨wr.heap.size, i, none⟩ = some (.int .i64 (x i)) := fun i hi => by
        have h := cell_of_row wn wr.heap.size i _ _ _ hEn
        rw [arr_get .i64 18 x hi] at h
        exact h
      have HS2 := Lib.hid (HS.out.keep hbn)
      have x13 := xs 13 (by omega)
      clear xs
      by_cases e : x 13 = 0
      · have hd : (x 13 == 0) = true := by simpa using e
        have HN := Lib.hid (show cardsN (s.objs.take (k + 1)) = m + 1 by rw [hst.out, ← HX.out, if_pos e, HM.out])
        go_wp2_with fail
        go_roundw
        case rel => exact ⟨k + 1, by go_num, by rw [HN.out]; go_num, by omega, hbrn, HS2⟩
        case measure => simp [intOf]; omega
      · have hd : (x 13 == 0) = false := by simpa using e
        have HN := Lib.hid (show cardsN (s.objs.take (k + 1)) = m by rw [hst.out, ← HX.out, if_neg e, HM.out, Nat.add_zero])
        go_wp2_with fail
        go_roundw
        case rel => exact ⟨k + 1, by go_num, by rw [HN.out], by omega, hbrn, HS2⟩
        case measure => simp [intOf]; omega
    · obtain rfl : k = s.objs.length := by omega
      rw [List.take_length]
      have hn6 : s.objs.length ≤ 1000000 := by omega
      have hl6 : ∀ z < 11, (s.lists z).length ≤ 1000000 := fun z hz => by have := hll z hz; omega
      obtain ⟨m, hm⟩ : ∃ m : Int, m = ((cardsN s.objs : Nat) : Int) := ⟨_, rfl⟩
      obtain ⟨q, hq⟩ : ∃ q, q = chkS s := ⟨_, rfl⟩
      have h1 : (m == m) = true := by simp
      have h2 : (q == q) = true := by simp
      have HM := Lib.hid hm
      have HQ := Lib.hid hq
      have HC1 := Lib.hid (fun W (hW : Below wr.heap.size wr W) => check_code T s _ L cs W W.heap.size (H.out.grow (keepB hW hbr)) (Nat.le_refl _) hn6 hl6 (keepB hW hbr))
      have HC2 := Lib.hid (fun W (hW : Below wr.heap.size wr W) => st_checkRef_any s _ L cs W W.heap.size (H.out.grow (keepB hW hbr)) (Nat.le_refl _) hn6 hl6)
      have HC3 := Lib.hid (fun W (hW : Below wr.heap.size wr W) => cards_code s _ L cs W W.heap.size (H.out.grow (keepB hW hbr)) (Nat.le_refl _) hn6)
      rw [← hq] at HC1 HC2
      rw [← hm] at HC3
      rw [← hm]
      clear hm hq
      go_upto_region 12 with fail
      refine region_below (by kernel_rfl) (fun hHeld => ?_)
      refine wpAnyH_take (i := 0) (v := .agg cs) rfl (by kernel_rfl) (by kernel_rfl) (by kernel_rfl) (fun _ _ _ h => h) (yields_st (by rfl) (.tmp 1) rfl w.heap.size rfl cs hcsz (fun W hW => (HS.out).keep hW)) hHeld ?_
      simp only [Act.put, List.getElem_toArray, List.getElem_cons_zero, List.getElem_cons_succ, List.setIfInBounds_toArray, List.set_cons_zero, List.set_cons_succ]
      refine wpAnyH_take (i := 3) (v := .agg cs) rfl (by kernel_rfl) (by kernel_rfl) (by kernel_rfl) (fun _ _ _ h => h) (yields_st (by rfl) (.tmp 1) rfl w.heap.size rfl cs hcsz (fun W hW => (HS.out).keep hW)) hHeld ?_
      simp only [Act.put, List.getElem_toArray, List.getElem_cons_zero, List.getElem_cons_succ, List.setIfInBounds_toArray, List.set_cons_zero, List.set_cons_succ]
      refine wpAnyH_ready (rs := [1]) (by kernel_rfl) (by simp) ?_
      refine AllReadyH.cons rfl (fun K hK => ?_) AllReadyH.nil
      simp only [List.getElem_toArray, List.getElem_cons_zero, List.getElem_cons_succ]
      go_simp
      refine (HC1.out _ hHeld).mono ?_
      rintro e w4 ⟨rfl, hb4⟩
      go_wp2_with fail
      have hB4 := keepB hb4 hHeld
      refine hK.out _ _ hB4 (fun _ => ?_)
      clear hK K
      try simp only [Act.put, List.setIfInBounds_toArray, List.set_cons_zero, List.set_cons_succ]
      refine anyH_rebase hB4 (fun hHeld => ?_)
      refine wpAnyH_ready (rs := [2]) (by kernel_rfl) (by simp) ?_
      refine AllReadyH.cons rfl (fun K hK => ?_) AllReadyH.nil
      simp only [List.getElem_toArray, List.getElem_cons_zero, List.getElem_cons_succ]
      go_simp
      refine (num_by q _).mono ?_
      rintro e w5 ⟨rfl, rfl⟩
      go_wp2_with fail
      have hB5 := keepB (Below.refl _ _) hHeld
      refine hK.out _ _ hB5 (fun _ => ?_)
      clear hK K
      try simp only [Act.put, List.setIfInBounds_toArray, List.set_cons_zero, List.set_cons_succ]
      refine anyH_rebase hB5 (fun hHeld => ?_)
      have hB45 := keepB hB5 hB4
      refine wpAnyH_ready (rs := [4]) (by kernel_rfl) (by simp) ?_
      refine AllReadyH.cons rfl (fun K hK => ?_) AllReadyH.nil
      simp only [List.getElem_toArray, List.getElem_cons_zero, List.getElem_cons_succ]
      go_simp
      refine (HC2.out _ (keepB hHeld hB45)).mono ?_
      rintro e w6 ⟨rfl, hb6⟩
      go_wp2_with fail
      have hB6 := keepB hb6 hHeld
      refine hK.out _ _ hB6 (fun _ => ?_)
      clear hK K
      try simp only [Act.put, List.setIfInBounds_toArray, List.set_cons_zero, List.set_cons_succ]
      refine anyH_rebase hB6 (fun hHeld => ?_)
      have hB46 := keepB hB6 hB45
      have HS6 := Lib.hid (HS.out.keep hB46)
      refine wpAnyH_take (i := 5) (v := ?_) rfl (by kernel_rfl) (by kernel_rfl) (by kernel_rfl) (fun _ _ _ h => h) (Or.inl ⟨by rfl, ?_⟩) hHeld ?_
      rotate_left
      · (intro w hSw; go_simp; (try with_reducible rfl))
      simp only [Act.put, List.getElem_toArray, List.getElem_cons_zero, List.getElem_cons_succ, List.setIfInBounds_toArray, List.set_cons_zero, List.set_cons_succ]
      refine wpAnyH_take (i := 6) (v := ?_) rfl (by kernel_rfl) (by kernel_rfl) (by kernel_rfl) (fun _ _ _ h => h) (Or.inl ⟨by rfl, ?_⟩) hHeld ?_
      rotate_left
      · (intro w hSw; go_simp; (try with_reducible rfl))
      simp only [Act.put, List.getElem_toArray, List.getElem_cons_zero, List.getElem_cons_succ, List.setIfInBounds_toArray, List.set_cons_zero, List.set_cons_succ]
      refine wpAnyH_take (i := 7) (v := .agg cs) rfl (by kernel_rfl) (by kernel_rfl) (by kernel_rfl) (fun _ _ _ h => h) (yields_st (by rfl) (.tmp 1) rfl w.heap.size rfl cs hcsz (fun W hW => (HS6.out).keep hW)) hHeld ?_
      simp only [Act.put, List.getElem_toArray, List.getElem_cons_zero, List.getElem_cons_succ, List.setIfInBounds_toArray, List.set_cons_zero, List.set_cons_succ]
      refine wpAnyH_take (i := 9) (v := ?_) rfl (by kernel_rfl) (by kernel_rfl) (by kernel_rfl) (fun _ _ _ h => h) (Or.inl ⟨by rfl, ?_⟩) hHeld ?_
      rotate_left
      · (intro w hSw; go_simp; (try with_reducible rfl))
      simp only [Act.put, List.getElem_toArray, List.getElem_cons_zero, List.getElem_cons_succ, List.setIfInBounds_toArray, List.set_cons_zero, List.set_cons_succ]
      refine wpAnyH_ready (rs := [8]) (by kernel_rfl) (by simp) ?_
      refine AllReadyH.cons rfl (fun K hK => ?_) AllReadyH.nil
      simp only [List.getElem_toArray, List.getElem_cons_zero, List.getElem_cons_succ]
      go_simp
      refine (HC3.out _ (keepB hHeld hB46)).mono ?_
      rintro e w7 ⟨rfl, hb7⟩
      go_wp2_with fail
      have hB7 := keepB hb7 hHeld
      refine hK.out _ _ hB7 (fun _ => ?_)
      clear hK K
      try simp only [Act.put, List.setIfInBounds_toArray, List.set_cons_zero, List.set_cons_succ]
      refine anyH_rebase hB7 (fun hHeld => ?_)
      refine wpAnyH_take (i := 10) (v := ?_) rfl (by kernel_rfl) (by kernel_rfl) (by kernel_rfl) (fun _ _ _ h => h) (Or.inl ⟨by rfl, ?_⟩) hHeld ?_
      rotate_left
      · (intro w hSw; go_simp; (try with_reducible rfl))
      simp only [Act.put, List.getElem_toArray, List.getElem_cons_zero, List.getElem_cons_succ, List.setIfInBounds_toArray, List.set_cons_zero, List.set_cons_succ]
      refine wpAnyH_take (i := 11) (v := ?_) rfl (by kernel_rfl) (by kernel_rfl) (by kernel_rfl) (fun _ _ _ h => h) (Or.inl ⟨by rfl, ?_⟩) hHeld ?_
      rotate_left
      · (intro w hSw; go_simp; (try with_reducible rfl))
      simp only [Act.put, List.getElem_toArray, List.getElem_cons_zero, List.getElem_cons_succ, List.setIfInBounds_toArray, List.set_cons_zero, List.set_cons_succ]
      refine wpAnyH_take (i := 12) (v := ?_) rfl (by kernel_rfl) (by kernel_rfl) (by kernel_rfl) (fun _ _ _ h => h) (Or.inl ⟨by rfl, ?_⟩) hHeld ?_
      rotate_left
      · (intro w hSw; go_simp; (try with_reducible rfl))
      simp only [Act.put, List.getElem_toArray, List.getElem_cons_zero, List.getElem_cons_succ, List.setIfInBounds_toArray, List.set_cons_zero, List.set_cons_succ]
      refine wpAnyH_done (by kernel_rfl) ?_ _
      go_wp2_with fail
      go_ret
      exact ⟨rfl, keepB (keepB hB7 hB46) hbr⟩
end Go.Proofs.YtkchpfifngknaaaDoor
