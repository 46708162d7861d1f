/- Layer 15: the reference's bit, Zone, More, Gains. -/
import Derived.Test.YtmhabodijmnldaaKwRef
import Derived.Test.YtmhabodijmnldaaKwMath
import Derived.Test.YtmhabodijmnldaaEvInv
import Derived.Test.YtmhabodijmnldaaStBase
namespace Go.Proofs.Ytmhabodijmnldaa
open Go.RowKit Ex
set_option maxRecDepth 100000
set_option linter.unusedSimpArgs false in
set_option maxHeartbeats 0 in
theorem bitRef_any (x p : Int) (w : World) : Calls Try.prog 27 #[.int .i64 x, .int .i64 p] w fun en w' => en = .returned (.bool (bitK x p)) ∧ Below w.heap.size w w' := by
  have hz18 := st_zero18
  have hnew : (w.alloc (.cells (arr .i64 18 fun _ => 0) 33)).heap[w.heap.size]? = some (.cells (arr .i64 18 fun _ => 0) 33 (0, 0)) := heap_alloc_new _ _
  have hsx : (Try.prog.info? 33).map (·.size) = some (arr .i64 18 fun _ => 0).size := by rw [arr_size]; exact st_size18
  go_enter Try.func27, Try.ntmps27
  go_upto_region 2 with (first
    | (refine wpList_ob0 rfl rfl ?_)
    | (refine wpList_store_row rfl 33 (.tmp 5) (.tmp 6) rfl w.heap.size _ rfl rfl 33 (arr .i64 18 fun _ => 0) hnew hsx (by rw [arr_size]) (arr_one .i64 18 _) ?_))
  obtain ⟨w7, hw7, hO7, hb7⟩ := ob_box w (fun _ => 0)
  rw [← hw7]
  obtain ⟨g, hg⟩ : ∃ g, g = w.heap.size := ⟨_, rfl⟩
  have hA0 : ArrAt .i64 18 33 w7 g (fun _ => 0) := by rw [hg]; exact hO7
  have hwg : w.heap.size ≤ g := by omega
  rw [← hg]
  have c17 := hA0.cell (show 17 < 18 by omega)
  have f17 := hA0.frozen 17
  have hA1 := hA0.set_ 17 x
  have hb8 := hb7.setCell (p := ⟨g, 17, none⟩) hwg (.int .i64 x)
  have hr1 := ObAt.range (show ObAt (w7.setCell ⟨g, 17, none⟩ (.int .i64 x)) g (updI (fun _ => 0) 17 x) from hA1)
  have hkn := knowsRef_any (updI (fun _ => 0) 17 x) p (w7.setCell ⟨g, 17, none⟩ (.int .i64 x))
  rw [show updI (fun _ => 0) 17 x 17 = x from rfl] at hkn
  have HB := Lib.hid hb8
  have HR := Lib.hid hr1
  clear hw7 hnew hsx hz18 hO7 hb7 hg hA0 hA1 hb8 hwg hr1
  go_wp2_with (refine load_obj rfl (.tmp 5) rfl g 0 rfl _ HR.out ?_)
  refine hkn.mono ?_
  clear hkn
  rintro en w9 ⟨rfl, hb9⟩
  have hbF := keepB hb9 HB.out
  clear hb9
  go_wp2_with fail
  go_ret
  exact ⟨rfl, hbF⟩
set_option maxHeartbeats 0 in
theorem zoneRef_any (z : Int) (w : World) : Calls Try.prog 12 #[.int .i64 z] w fun en w' => en = .returned (.int .i64 (zoneK z)) ∧ w = w' := by
  by_cases hr : 2 ≤ z ∧ z ≤ 10
  · obtain ⟨k, rfl⟩ : ∃ k : Nat, z = (k : Int) := ⟨z.toNat, by omega⟩
    have hk : k = 2 ∨ k = 3 ∨ k = 4 ∨ k = 5 ∨ k = 6 ∨ k = 7 ∨ k = 8 ∨ k = 9 ∨ k = 10 := by omega
    rcases hk with rfl | rfl | rfl | rfl | rfl | rfl | rfl | rfl | rfl <;>
    · go_enter Try.func12, Try.ntmps12
      go_wp2_with fail
      go_ret
      exact ⟨rfl, rfl⟩
  · have e : zoneK z = 0 := by
      unfold zoneK
      rw [if_neg (by omega), if_neg (by omega), if_neg (by omega)]
    rw [e]
    have d2 : (z == 2) = false := by simp; omega
    have d3 : (z == 3) = false := by simp; omega
    have d4 : (z == 4) = false := by simp; omega
    have d5 : (z == 5) = false := by simp; omega
    have d6 : (z == 6) = false := by simp; omega
    have d7 : (z == 7) = false := by simp; omega
    have d8 : (z == 8) = false := by simp; omega
    have d9 : (z == 9) = false := by simp; omega
    have d10 : (z == 10) = false := by simp; omega
    clear hr e
    go_enter Try.func12, Try.ntmps12
    go_wp2_with fail
    go_ret
    exact ⟨rfl, rfl⟩
set_option linter.unusedSimpArgs false in
set_option maxHeartbeats 0 in
theorem moreRef_any (a b : Int) (w : World) : Calls Try.prog 20 #[.int .i64 a, .int .i64 b] w fun en w' => en = .returned (.bool (moreK a b)) ∧ Below w.heap.size w w' := by
  unfold moreK
  obtain ⟨b0, hb0⟩ : ∃ q, q = bitK b 0 := ⟨_, rfl⟩
  obtain ⟨b1, hb1⟩ : ∃ q, q = bitK b 1 := ⟨_, rfl⟩
  obtain ⟨a0, ha0⟩ : ∃ q, q = bitK a 0 := ⟨_, rfl⟩
  obtain ⟨a1, ha1⟩ : ∃ q, q = bitK a 1 := ⟨_, rfl⟩
  have hB0 := bitRef_any b 0
  have hB1 := bitRef_any b 1
  have hA0 := bitRef_any a 0
  have hA1 := bitRef_any a 1
  rw [← hb0] at hB0
  rw [← hb1] at hB1
  rw [← ha0] at hA0
  rw [← ha1] at hA1
  rw [← hb0, ← hb1, ← ha0, ← ha1]
  have HB0 := Lib.hid hB0
  have HB1 := Lib.hid hB1
  have HA0 := Lib.hid hA0
  have HA1 := Lib.hid hA1
  clear hb0 hb1 ha0 ha1 hB0 hB1 hA0 hA1
  go_enter Try.func20, Try.ntmps20
  go_wp2_with fail
  refine (HB0.out w).mono ?_
  rintro en w1 ⟨rfl, hb1⟩
  cases b0 with
  | true =>
    go_wp2_with fail
    refine (HA0.out w1).mono ?_
    rintro en w2 ⟨rfl, hb2⟩
    have hb2 := keepB hb2 hb1
    clear hb1
    cases a0 with
    | false =>
      go_wp2_with fail
      go_ret
      exact ⟨rfl, hb2⟩
    | true =>
      go_wp2_with fail
      refine (HB1.out w2).mono ?_
      rintro en w3 ⟨rfl, hb3⟩
      have hb3 := keepB hb3 hb2
      clear hb2
      cases b1 with
      | false =>
        go_wp2_with fail
        go_ret
        exact ⟨rfl, hb3⟩
      | true =>
        go_wp2_with fail
        refine (HA1.out w3).mono ?_
        rintro en w4 ⟨rfl, hb4⟩
        have hb4 := keepB hb4 hb3
        clear hb3
        cases a1 <;>
        · go_wp2_with fail
          go_ret
          exact ⟨rfl, hb4⟩
  | false =>
    go_wp2_with fail
    refine (HB1.out w1).mono ?_
    rintro en w3 ⟨rfl, hb3⟩
    have hb3 := keepB hb3 hb1
    clear hb1
    cases b1 with
    | false =>
      go_wp2_with fail
      go_ret
      exact ⟨rfl, hb3⟩
    | true =>
      go_wp2_with fail
      refine (HA1.out w3).mono ?_
      rintro en w4 ⟨rfl, hb4⟩
      have hb4 := keepB hb4 hb3
      clear hb3
      cases a1 <;>
      · go_wp2_with fail
        go_ret
        exact ⟨rfl, hb4⟩
set_option linter.unusedSimpArgs false in
set_option maxHeartbeats 0 in
theorem gainsRef_any (e : EvT) (w : World) : Calls Try.prog 17 #[evV e] w fun en w' => en = .returned (.bool (gainsE e)) ∧ Below w.heap.size w w' := by
  unfold gainsE
  obtain ⟨m, hm⟩ : ∃ q, q = moreK e.c e.d := ⟨_, rfl⟩
  have hmo := moreRef_any e.c e.d
  rw [← hm] at hmo ⊢
  have HMo := Lib.hid hmo
  obtain ⟨r, hr⟩ : ∃ r, r = (decide (e.k = 2) && decide (e.b = 17) && m) := ⟨_, rfl⟩
  rw [← hr]
  have HRr := Lib.hid hr
  clear hm hmo hr
  go_enter Try.func17, Try.ntmps17
  go_upto_region 1 with fail
  obtain ⟨w1, hw1⟩ : ∃ w1, w1 = w.alloc (.cells (evC e) 44) := ⟨_, rfl⟩
  have hrow : EvB w1 w.heap.size e := by rw [hw1]; exact heap_alloc_new _ _
  have hb1 : Below w.heap.size w w1 := by rw [hw1]; exact (Below.refl _ _).alloc (Nat.le_refl _) _
  show Code.wp _ _ _ _ (w.alloc (.cells (evC e) 44))
  rw [← hw1]
  obtain ⟨c0, c1, c2, c3, c4, c5⟩ := hrow.cells
  clear hw1 hrow
  by_cases k2 : e.k = 2
  · have d0 : (e.k == 2) = true := by simp [k2]
    by_cases k17 : e.b = 17
    · have d1 : (e.b == 17) = true := by simp [k17]
      have HF := Lib.hid (show r = m by rw [HRr.out, decide_eq_true k2, decide_eq_true k17]; rfl)
      clear k2 k17
      go_wp2_with fail
      refine (HMo.out w1).mono ?_
      rintro en w2 ⟨rfl, hb2⟩
      have hbF := keepB hb2 hb1
      clear hb2 hb1
      cases m <;>
      · go_wp2_with fail
        go_ret
        exact ⟨by rw [HF.out]; rfl, hbF⟩
    · have d1 : (e.b == 17) = false := by simp [k17]
      have HF := Lib.hid (show r = false by rw [HRr.out, decide_eq_true k2, decide_eq_false k17]; rfl)
      clear k2 k17
      go_wp2_with fail
      go_ret
      exact ⟨by rw [HF.out]; rfl, hb1⟩
  · have d0 : (e.k == 2) = false := by simp [k2]
    have HF := Lib.hid (show r = false by rw [HRr.out, decide_eq_false k2]; rfl)
    clear k2
    go_wp2_with fail
    go_ret
    exact ⟨by rw [HF.out]; rfl, hb1⟩
end Go.Proofs.Ytmhabodijmnldaa
