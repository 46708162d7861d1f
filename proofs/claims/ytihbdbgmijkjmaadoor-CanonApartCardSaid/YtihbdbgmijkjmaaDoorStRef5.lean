/- Layer 10: the reference's Check. -/
import Derived.Test.YtihbdbgmijkjmaaDoorStRef4
namespace Go.Proofs.YtihbdbgmijkjmaaDoor
open Go.RowKit Ex
set_option maxRecDepth 100000
attribute [local go_sem] arr_get
/-- The number of what is wrong. -/
def chkS (s : StT) : Int := if 400 < s.objs.length then 5 else if rangesB s = false then 1 else if zonesB s = false then 12 else if (s.objs.all formedB) = false then 2 else 0
def GoodF (s : StT) (k : Nat) : Prop := ∀ j (hj : j < s.objs.length), j < k → formedB s.objs[j] = true
theorem form_bad {s : StT} {k : Nat} (hk : k < s.objs.length) (h : formedB s.objs[k] = false) : (s.objs.all formedB) = false := by
  rw [Bool.eq_false_iff]; intro h2
  rw [List.all_eq_true] at h2
  have := h2 _ (List.getElem_mem hk)
  rw [h] at this; cases this
theorem form_good {s : StT} (h : GoodF s s.objs.length) : (s.objs.all formedB) = true := by
  rw [List.all_eq_true]
  intro o ho
  obtain ⟨i, hi, rfl⟩ := List.getElem_of_mem ho
  exact h i hi hi
set_option maxRecDepth 100000 in
set_option maxHeartbeats 0 in
theorem st_checkRef_any (s : StT) (O : SlT) (L : Nat → SlT) (cs : Array Value) (w : World) (B : Nat) (h : ReadsS B w cs s O L) (hB : B ≤ w.heap.size) (hn : s.objs.length ≤ 1000000) (hll : ∀ z < 11, (s.lists z).length ≤ 1000000) :
    Calls Tryd.prog 19 #[.agg cs] w fun e w' => e = .returned (.int .i64 (chkS s)) ∧ Below w.heap.size w w' := by
  go_enter Tryd.func19, Tryd.ntmps19
  have hcs := h.cs
  have c0 : cs[0]? = some (.slice O.A O.n O.c) := by rw [hcs]; exact stC_objs _ _ _ _
  have hOn := h.on
  have hOc := h.oc
  have hO := h.o
  have hsz : (Tryd.prog.info? 29).map (·.size) = some cs.size := by rw [h.size]; exact size37
  have H := Lib.hid h
  clear h
  obtain ⟨A, n, c⟩ := O
  simp only at c0 hOn hOc hO
  clear hcs
  subst hOn
  go_upto_region 1 with fail
  have hs0 : StAt (w.alloc (.cells cs 29)) w.heap.size cs := StAt.new _ _
  have hb0 : Below w.heap.size w (w.alloc (.cells cs 29)) := (Below.refl _ _).alloc (Nat.le_refl _) _
  obtain ⟨w1, hw1⟩ : ∃ w1, w1 = w.alloc (.cells cs 29) := ⟨_, rfl⟩
  rw [← hw1] at hs0 hb0 ⊢
  clear hw1
  have c1 := (hs0.cell 0).trans c0
  by_cases h4 : 400 < s.objs.length
  · have d4 : decide ((400 : Int) < (s.objs.length : Int)) = true := by simp; omega
    have hf := Lib.hid (show chkS s = 5 by simp [chkS, h4])
    go_wp2_with fail
    go_ret
    exact ⟨congrArg (fun b => Ending.returned (Value.int .i64 b)) hf.out.symm, hb0⟩
  have d4 : decide ((400 : Int) < (s.objs.length : Int)) = false := by simp; omega
  go_wp2_with (refine wpList_load_row rfl 29 (.tmp 1) rfl w.heap.size rfl 29 _ (0, 0) _ hs0 Tryd.underlying29 rfl hsz ?_)
  refine (ranges_any s _ L cs w1 _ ((H.out.more hB).below hb0) hb0.size hn).mono ?_
  rintro e w2 ⟨rfl, hb2⟩
  have hb := keepB hb2 hb0
  have hs2 := hs0.keep hb2
  clear c1
  by_cases hr : rangesB s = true
  case neg =>
    have fr : rangesB s = false := by simpa using hr
    have hf := Lib.hid (show chkS s = 1 by simp [chkS, h4, fr])
    go_wp2_with fail
    go_ret
    exact ⟨congrArg (fun b => Ending.returned (Value.int .i64 b)) hf.out.symm, hb⟩
  go_wp2_with (refine wpList_load_row rfl 29 (.tmp 1) rfl w.heap.size rfl 29 _ (0, 0) _ hs2 Tryd.underlying29 rfl hsz ?_)
  refine (zones_any s _ L cs w2 _ ((H.out.more hB).below hb) hb.size hn hll).mono ?_
  rintro e w3 ⟨rfl, hb3⟩
  have hbb := keepB hb3 hb
  have hs3 := hs2.keep hb3
  clear hb hb2 hs2 hb0 hs0 hb3
  by_cases hq : zonesB s = true
  case neg =>
    have fq : zonesB s = false := by simpa using hq
    have hf := Lib.hid (show chkS s = 12 by simp [chkS, h4, hr, fq])
    go_wp2_with fail
    go_ret
    exact ⟨congrArg (fun b => Ending.returned (Value.int .i64 b)) hf.out.symm, hbb⟩
  have c3 := (hs3.cell 0).trans c0
  go_upto_region 8 with fail
  have hg0 : GoodF s 0 := fun j hj hk => absurd hk (by omega)
  go_loopw [18] (fun i wr => ∃ k : Nat, i = .int .i64 ((k : Nat) : Int) ∧ k ≤ s.objs.length ∧ GoodF s k ∧ Below w.heap.size w wr) (fun i _ => s.objs.length - (intOf i).toNat)
  case atStart => exact ⟨0, rfl, by omega, hg0, hbb⟩
  case round =>
    clear hbb hs3 c3 hg0
    obtain ⟨k, rfl, hk, hgood, hbr⟩ := hrel
    by_cases hlt : k < s.objs.length
    · obtain ⟨b, off, rfl, hbB, hra⟩ := hO.at_ hlt
      have hra := range_below hbr (by omega) hra
      obtain ⟨x, hx⟩ : ∃ x, x = s.objs[k] := ⟨_, rfl⟩
      rw [← hx] at hra
      have HX := Lib.hid hx
      clear hx
      have hz := st_zero18
      have hnew : (wr.alloc (.cells (arr .i64 18 fun _ => 0) 56)).heap[wr.heap.size]? = some (.cells (arr .i64 18 fun _ => 0) 56 (0, 0)) := heap_alloc_new _ _
      have hsx : (Tryd.prog.info? 56).map (·.size) = some (arr .i64 18 x).size := by rw [arr_size]; exact st_size18
      go_upto_region 10 with (first
        | (refine load_obj rfl (.tmp 20) rfl b (off + k * 18) rfl x hra ?_)
        | (refine wpList_store_row rfl 56 (.tmp 4) (.tmp 21) rfl wr.heap.size _ rfl rfl 56 (arr .i64 18 fun _ => 0) hnew hsx (by rw [arr_size, arr_size]) (arr_one .i64 18 x) ?_))
      obtain ⟨wn, hwn, hEn, hbn⟩ := ob_box wr x
      rw [← hwn]
      have hbrn := keepB hbn hbr
      clear hwn hnew hra hz
      go_upto_region 11 with (refine wpList_load_row rfl 56 (.tmp 4) rfl wr.heap.size rfl 56 _ (0, 0) _ hEn Tryd.underlying56 rfl hsx ?_)
      refine (formed_any x wn).mono ?_
      rintro e w4 ⟨rfl, hb4⟩
      have hbr4 := keepB hb4 hbrn
      clear hEn hbn hbrn hbr
      by_cases hy : formedB x = true
      · have hgood2 : GoodF s (k + 1) := fun j hj hjk => by
          by_cases e : j = k
          · subst e; rw [← HX.out]; exact hy
          · exact hgood j hj (by omega)
        go_wp2_with fail
        go_roundw
        case rel => exact ⟨k + 1, by go_num, by omega, hgood2, hbr4⟩
        case measure => simp [intOf]; omega
      · have hy : formedB x = false := by simpa using hy
        have fa := form_bad hlt (HX.out ▸ hy)
        have hf := Lib.hid (show chkS s = 2 by rw [chkS, if_neg h4, hr, hq, fa]; rfl)
        clear fa
        go_wp2_with fail
        go_ret
        exact ⟨congrArg (fun b => Ending.returned (Value.int .i64 b)) hf.out.symm, hbr4⟩
    · obtain rfl : k = s.objs.length := by omega
      have fa := form_good hgood
      have hf := Lib.hid (show chkS s = 0 by rw [chkS, if_neg h4, hr, hq, fa]; rfl)
      clear fa
      go_wp2_with fail
      go_ret
      exact ⟨congrArg (fun b => Ending.returned (Value.int .i64 b)) hf.out.symm, hbr⟩
end Go.Proofs.YtihbdbgmijkjmaaDoor
