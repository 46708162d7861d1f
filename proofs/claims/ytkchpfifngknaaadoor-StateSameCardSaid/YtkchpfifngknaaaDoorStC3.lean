/- Layer 10: the code's Cards and Top. -/
import Derived.Test.YtkchpfifngknaaaDoorStC1
namespace Go.Proofs.YtkchpfifngknaaaDoor
open Go.RowKit Ex
attribute [local go_sem] arr_get
set_option maxRecDepth 100000
def cardsN (l : List (Nat → Int)) : Nat := l.countP fun o => o 13 == 0
theorem cards_step {l : List (Nat → Int)} {k : Nat} (hk : k < l.length) : cardsN (l.take (k + 1)) = cardsN (l.take k) + if l[k] 13 = 0 then 1 else 0 := by
  unfold cardsN
  rw [List.take_succ_eq_append_getElem hk, List.countP_append, List.countP_singleton]
  simp
theorem cards_le (l : List (Nat → Int)) (k : Nat) : cardsN (l.take k) ≤ k := by
  unfold cardsN
  have h1 := List.countP_le_length (p := fun o : Nat → Int => o 13 == 0) (l := l.take k)
  have h2 := List.length_take (l := l) (i := k)
  omega
set_option maxHeartbeats 0 in
theorem cards_code (s : StT) (O : SlT) (L : Nat → SlT) (cs : Array Value) (w : World) (B : Nat) (h : ReadsS B w cs s O L) (hB : B ≤ w.heap.size) (hn : s.objs.length ≤ 1000000) :
    Calls Tryd.prog 12 #[.agg cs] w fun e w' => e = .returned (.int .i64 ((cardsN s.objs : Nat) : Int)) ∧ Below w.heap.size w w' := by
  go_enter Tryd.func12, Tryd.ntmps12
  have hcs := h.cs
  have c0 : cs[0]? = some (.slice O.A O.n O.c) := by rw [hcs]; exact stC_objs _ _ _ _
  have hOn := h.on
  have hOc := h.oc
  have hO := h.o
  have hsz : (Tryd.prog.info? 29).map (·.size) = some cs.size := by rw [h.size]; exact size37
  have H := Lib.hid h
  clear h
  obtain ⟨A, n, c⟩ := O
  simp only at c0 hOn hOc hO
  have HC := Lib.hid hcs
  clear hcs
  subst hOn
  go_upto_region 1 with fail
  have hs0 : StAt (w.alloc (.cells cs 29)) w.heap.size cs := StAt.new _ _
  have hb0 : Below w.heap.size w (w.alloc (.cells cs 29)) := (Below.refl _ _).alloc (Nat.le_refl _) _
  obtain ⟨w1, hw1⟩ : ∃ w1, w1 = w.alloc (.cells cs 29) := ⟨_, rfl⟩
  rw [← hw1] at hs0 hb0 ⊢
  clear hw1
  have c1 := (hs0.cell 0).trans c0
  go_upto_region 3 with fail
  go_loopw [3, 9] (fun c i wr => ∃ k : Nat, i = .int .i64 ((k : Nat) : Int) ∧ c = .int .i64 ((cardsN (s.objs.take k) : Nat) : Int) ∧ k ≤ s.objs.length ∧ Below w.heap.size w wr) (fun _ i _ => s.objs.length - (intOf i).toNat)
  case atStart => exact ⟨0, rfl, by simp [cardsN], by omega, hb0⟩
  case round =>
    clear hb0 hs0 c1
    obtain ⟨k, rfl, rfl, hk, hbr⟩ := hrel
    have hle := cards_le s.objs k
    by_cases hlt : k < s.objs.length
    · have hst := Lib.hid (cards_step hlt)
      obtain ⟨m, hm⟩ : ∃ m, m = cardsN (s.objs.take k) := ⟨_, rfl⟩
      rw [← hm] at hle ⊢
      have HM := Lib.hid hm
      clear hm
      obtain ⟨b, off, rfl, hbB, hra⟩ := hO.at_ hlt
      have hra := range_below hbr (by omega) hra
      obtain ⟨x, hx⟩ : ∃ x, x = s.objs[k] := ⟨_, rfl⟩
      rw [← hx] at hra
      have HX := Lib.hid hx
      clear hx
      have hz := st_zero18
      have hnew : (wr.alloc (.cells (arr .i64 18 fun _ => 0) 33)).heap[wr.heap.size]? = some (.cells (arr .i64 18 fun _ => 0) 33 (0, 0)) := heap_alloc_new _ _
      have hsx : (Tryd.prog.info? 33).map (·.size) = some (arr .i64 18 x).size := by rw [arr_size]; exact st_size18
      go_upto_region 5 with (first
        | (refine load_obj rfl (.tmp 11) rfl b (off + k * 18) rfl x hra ?_)
        | (refine wpList_store_row rfl 33 (.tmp 5) (.tmp 12) rfl wr.heap.size _ rfl rfl 33 (arr .i64 18 fun _ => 0) hnew hsx (by rw [arr_size, arr_size]) (arr_one .i64 18 x) ?_))
      obtain ⟨wn, hwn, hEn, hbn⟩ := ob_box wr x
      rw [← hwn]
      have hbrn := keepB hbn hbr
      clear hwn hnew hra hz
      have xs : ∀ i < 18, wn.cell? ⟨wr.heap.size, i, none⟩ = some (.int .i64 (x i)) := fun i hi => by
        have h := cell_of_row wn wr.heap.size i _ _ _ hEn
        rw [arr_get .i64 18 x hi] at h
        exact h
      have x13 := xs 13 (by omega)
      clear xs
      by_cases e : x 13 = 0
      · have hd : (x 13 == 0) = true := by simpa using e
        have HN := Lib.hid (show cardsN (s.objs.take (k + 1)) = m + 1 by rw [hst.out, ← HX.out, if_pos e, HM.out])
        go_wp2_with fail
        go_roundw
        case rel => exact ⟨k + 1, by go_num, by rw [HN.out]; go_num, by omega, hbrn⟩
        case measure => simp [intOf]; omega
      · have hd : (x 13 == 0) = false := by simpa using e
        have HN := Lib.hid (show cardsN (s.objs.take (k + 1)) = m by rw [hst.out, ← HX.out, if_neg e, HM.out, Nat.add_zero])
        go_wp2_with fail
        go_roundw
        case rel => exact ⟨k + 1, by go_num, by rw [HN.out], by omega, hbrn⟩
        case measure => simp [intOf]; omega
    · obtain rfl : k = s.objs.length := by omega
      rw [List.take_length]
      go_wp2_with fail
      go_ret
      exact ⟨rfl, hbr⟩
/-- The last number of a list, and whether there is one. -/
def topB (s : StT) (z : Int) : Bool := decide (0 ≤ z) && decide (z < 11) && decide (0 < (s.lists z.toNat).length)
def topX (s : StT) (z : Int) : Int := if topB s z = true then (s.lists z.toNat).getD ((s.lists z.toNat).length - 1) 0 else 0
set_option maxHeartbeats 0 in
theorem top_code (s : StT) (O : SlT) (L : Nat → SlT) (cs : Array Value) (z : Int) (w : World) (B : Nat) (h : ReadsS B w cs s O L) (hB : B ≤ w.heap.size) (hll : ∀ z < 11, (s.lists z).length ≤ 1000000) :
    Calls Tryd.prog 19 #[.agg cs, .int .i64 z] w fun e w' => e = .returned (.tuple #[.int .i64 (topX s z), .bool (topB s z)]) ∧ Below w.heap.size w w' := by
  have hl := isList_any z
  obtain ⟨q, hq⟩ : ∃ q, q = topX s z := ⟨_, rfl⟩
  obtain ⟨r, hr⟩ : ∃ r, r = topB s z := ⟨_, rfl⟩
  rw [← hq, ← hr]
  have HQ := Lib.hid hq
  have HR := Lib.hid hr
  clear hq hr
  go_enter Tryd.func19, Tryd.ntmps19
  have hcs := h.cs
  have c0 : cs[0]? = some (.slice O.A O.n O.c) := by rw [hcs]; exact stC_objs _ _ _ _
  have hOn := h.on
  have hOc := h.oc
  have hO := h.o
  have hsz : (Tryd.prog.info? 29).map (·.size) = some cs.size := by rw [h.size]; exact size37
  have H := Lib.hid h
  clear h
  obtain ⟨A, n, c⟩ := O
  simp only at c0 hOn hOc hO
  have HC := Lib.hid hcs
  clear hcs
  subst hOn
  go_upto_region 1 with fail
  have hs0 : StAt (w.alloc (.cells cs 29)) w.heap.size cs := StAt.new _ _
  have hb0 : Below w.heap.size w (w.alloc (.cells cs 29)) := (Below.refl _ _).alloc (Nat.le_refl _) _
  obtain ⟨w1, hw1⟩ : ∃ w1, w1 = w.alloc (.cells cs 29) := ⟨_, rfl⟩
  rw [← hw1] at hs0 hb0 ⊢
  clear hw1
  have c1 := (hs0.cell 0).trans c0
  clear c1 c0
  by_cases hz : 0 ≤ z ∧ z < 11
  case neg =>
    have hf : (decide (0 ≤ z) && decide (z < 11)) = false := by rw [Bool.eq_false_iff]; intro h; simp at h; omega
    have hb : topB s z = false := by rw [topB, hf, Bool.false_and]
    have hx : topX s z = 0 := if_neg (by rw [hb]; simp)
    obtain rfl := HQ.out.trans hx
    obtain rfl := HR.out.trans hb
    rw [hf] at hl
    clear hf hz hb hx
    go_wp2_with fail
    refine (hl _).mono ?_
    rintro e w2 ⟨rfl, rfl⟩
    clear hl
    go_wp2_with fail
    go_ret2
    exact ⟨rfl, hb0⟩
  obtain ⟨y, rfl⟩ : ∃ y : Nat, z = (y : Int) := ⟨z.toNat, by omega⟩
  have hy : y < 11 := by omega
  rw [show (decide (0 ≤ (y : Int)) && decide ((y : Int) < 11)) = true by simp; omega] at hl
  obtain ⟨A2, n2, c2, hc2, hnc2, hN⟩ := H.out.at_list hy
  have hc2 := (hs0.cell (1 + y)).trans hc2
  have hln := hN.len
  have hnm : n2 ≤ 1000000 := hln ▸ hll y hy
  have HN := Lib.hid hN
  clear hN hz
  by_cases hn0 : n2 = 0
  · subst hn0
    have hb : topB s y = false := by simp [topB, hln]
    have hx : topX s y = 0 := if_neg (by rw [hb]; simp)
    obtain rfl := HQ.out.trans hx
    obtain rfl := HR.out.trans hb
    clear hb hx
    go_wp2_with fail
    refine (hl _).mono ?_
    rintro e w2 ⟨rfl, rfl⟩
    clear hl
    go_wp2_with fail
    go_ret2
    exact ⟨rfl, hb0⟩
  have hb : topB s y = true := by simp [topB, hln]; omega
  obtain ⟨a, rfl, hab, hca⟩ := HN.out.at_ (i := n2 - 1) (by omega)
  replace hca := (hb0.cell (by rw [addr_block]; omega)).trans hca
  have hx : topX s y = (s.lists y).getD (n2 - 1) 0 := by rw [topX, if_pos hb, Int.toNat_natCast, hln]
  have hg : (s.lists y).getD (n2 - 1) 0 = (s.lists y)[n2 - 1]'(by omega) := by rw [List.getD_eq_getElem?_getD, List.getElem?_eq_getElem (by omega)]; rfl
  rw [← hg, ← hx, ← HQ.out] at hca
  obtain rfl := HR.out.trans hb
  obtain ⟨m, rfl⟩ : ∃ m, n2 = m + 1 := ⟨n2 - 1, by omega⟩
  rw [Nat.add_sub_cancel] at hca
  have d1 : (((m + 1 : Nat) : Int) == 0) = false := by simp; omega
  have d2 : ((m + 1 : Nat) : Int) - 1 = (m : Int) := by omega
  clear hn0 hb hx hg
  go_wp2_with fail
  refine (hl _).mono ?_
  rintro e w2 ⟨rfl, rfl⟩
  clear hl
  go_wp2_with fail
  go_ret2
  exact ⟨rfl, hb0⟩
end Go.Proofs.YtkchpfifngknaaaDoor
