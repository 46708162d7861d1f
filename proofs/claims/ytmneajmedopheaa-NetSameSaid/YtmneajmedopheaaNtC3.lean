/- Layer 13: the code's small calls: whether an event parts spans, which field it sets. -/
import Derived.Test.YtmneajmedopheaaNtKey
import Derived.Test.YtmneajmedopheaaNtEv2
import Derived.Test.YtmneajmedopheaaNtG3
import Derived.Test.YtmneajmedopheaaNtG4
namespace Go.Proofs.Ytmneajmedopheaa
open Go.RowKit Ex
set_option maxRecDepth 100000
set_option maxHeartbeats 0 in
theorem parts_code (e : EvT) (w : World) : Calls Try.prog 24 #[evV e] w fun en w' => en = .returned (.bool (isCut e)) ∧ Below w.heap.size w w' := by
  obtain ⟨r, hr⟩ : ∃ r, r = isCut e := ⟨_, rfl⟩
  rw [← hr]
  have hc : r = ((e.k == 0) || (e.k == 5)) := by rw [hr]; unfold isCut; rfl
  clear hr
  go_enter Try.func24, Try.ntmps24
  go_upto_region 1 with fail
  obtain ⟨w1, hw1⟩ : ∃ w1, w1 = w.alloc (.cells (evC e) 45) := ⟨_, rfl⟩
  have hrow : EvB w1 w.heap.size e := by rw [hw1]; exact heap_alloc_new _ _
  have hb1 : Below w.heap.size w w1 := by rw [hw1]; exact (Below.refl _ _).alloc (Nat.le_refl _) _
  show Code.wp _ _ _ _ (w.alloc (.cells (evC e) 45))
  rw [← hw1]
  have c0 := hrow.cells.1
  clear hw1 hrow
  by_cases k0 : e.k = 0
  · have d0 : (e.k == 0) = true := by simp [k0]
    obtain rfl : r = true := by rw [hc, d0]; rfl
    clear hc k0
    go_wp2_with fail
    go_ret
    exact ⟨rfl, hb1⟩
  · have d0 : (e.k == 0) = false := by simp [k0]
    obtain ⟨q, hq⟩ : ∃ q, q = (e.k == 5) := ⟨_, rfl⟩
    obtain rfl : r = q := by rw [hc, d0, hq]; rfl
    have d5 := hq.symm
    clear hc k0 hq
    go_wp2_with fail
    go_ret
    exact ⟨rfl, hb1⟩
theorem keyC_eq (e : EvT) : arr .i64 3 (keyF e) = #[.int .i64 e.k, .int .i64 e.a, .int .i64 e.b] := Array.toList_inj.1 (arr3 (keyF e))
theorem zero3' : #[Value.int .i64 0, Value.int .i64 0, Value.int .i64 0] = arr .i64 3 (fun _ => 0) := (arr_zero .i64 3).symm
theorem size3' (e : EvT) : (Try.prog.info? 70).map (·.size) = some (arr .i64 3 (keyF e)).size := by rw [arr_size]; kernel_rfl
theorem build_key (k a b : Int) (W : World) : (Instr.build 70 #[(0, .int .i64 k), (1, .int .i64 a), (2, .int .i64 b)]).run Try.prog W = .ok (.agg #[.int .i64 k, .int .i64 a, .int .i64 b]) W := by kernel_rfl
theorem wpList_buildKey {ops : Array Oper} {rest : List Oper} {o : Oper} {a : Act} {w : World} {Q : Exit → Act → World → Prop} (hg : o.guard = none) (x y z : Operand) (ho : o.op = .build 70 #[(0, x), (1, y), (2, z)])
    (e : EvT) (hx : a.eval x = .int .i64 e.k) (hy : a.eval y = .int .i64 e.a) (hz : a.eval z = .int .i64 e.b) (hK : wpList Try.prog ops Q rest (a.put o.dst (keyV e)) w) : wpList Try.prog ops Q (o :: rest) a w := by
  refine wpList_plain hg fun K' hK' => ?_
  unfold Oper.wp
  unfold keyV at hK
  rw [keyC_eq] at hK
  simp [execOp, ho, hx, hy, hz, build_key, Result.andThen]
  exact hK' _ _ hK
set_option maxHeartbeats 0 in
theorem key_code (e : EvT) (w : World) : Calls Try.prog 37 #[evV e] w fun en w' => en = .returned (keyV e) ∧ Below w.heap.size w w' := by
  have hz3 := zero3'
  go_enter Try.func37, Try.ntmps37
  go_upto_region 1 with fail
  have hb0 : Below w.heap.size w (w.alloc (.cells (evC e) 45)) := (Below.refl _ _).alloc (Nat.le_refl _) _
  have hb1 : Below (w.alloc (.cells (evC e) 45)).heap.size (w.alloc (.cells (evC e) 45)) ((w.alloc (.cells (evC e) 45)).alloc (.cells (arr .i64 3 fun _ => 0) 70)) := (Below.refl _ _).alloc (Nat.le_refl _) _
  have hrow : EvB ((w.alloc (.cells (evC e) 45)).alloc (.cells (arr .i64 3 fun _ => 0) 70)) w.heap.size e := EvB.keep (heap_alloc_new _ _) hb1
  have hk : ((w.alloc (.cells (evC e) 45)).alloc (.cells (arr .i64 3 fun _ => 0) 70)).heap[w.heap.size + 1]? = some (.cells (arr .i64 3 fun _ => 0) 70 (0, 0)) := by
    have := heap_alloc_new (w.alloc (.cells (evC e) 45)) (.cells (arr .i64 3 fun _ => 0) 70)
    rwa [World.size_alloc] at this
  have hbw := keepB hb1 hb0
  obtain ⟨w1, hw1⟩ : ∃ w1, w1 = (w.alloc (.cells (evC e) 45)).alloc (.cells (arr .i64 3 fun _ => 0) 70) := ⟨_, rfl⟩
  rw [← hw1] at hrow hk hbw
  show Code.wp _ _ _ _ ((w.alloc (.cells (evC e) 45)).alloc (.cells (arr .i64 3 fun _ => 0) 70))
  rw [← hw1]
  obtain ⟨g, hg⟩ : ∃ g, g = w.heap.size := ⟨_, rfl⟩
  obtain ⟨gk, hgk⟩ : ∃ gk, gk = w.heap.size + 1 := ⟨_, rfl⟩
  rw [← hgk] at hk
  have hwg : w.heap.size ≤ gk := by omega
  rw [← hg] at hrow
  rw [← hg, show g + 1 = gk by omega]
  have c0 := hrow.cells.1
  have c1 := hrow.cells.2.1
  have c2 := hrow.cells.2.2.1
  have hsz := size3' e
  have hs0 : (arr .i64 3 fun _ => 0).size = (arr .i64 3 (keyF e)).size := by rw [arr_size, arr_size]
  have hone := arr_one .i64 3 (keyF e)
  clear hw1 hb0 hb1 hg hgk hrow
  go_wp2_with (first
    | (refine wpList_buildKey rfl (.tmp 4) (.tmp 6) (.tmp 8) rfl e rfl rfl rfl ?_)
    | (refine wpList_store_row rfl 70 (.tmp 2) (.tmp 9) rfl gk _ rfl rfl 70 (arr .i64 3 fun _ => 0) hk hsz hs0 hone ?_))
  refine bodyPost_ret (v := keyV e) ?_ rfl ⟨rfl, below_setRow hbw _ _ hwg⟩
  exact results_cellE (ty := 70) (p := 2) (by kernel_rfl) _ _ gk 70 _ (0, 0) _ rfl (setRow_heap _ _ _ _ _ _ hk) Try.underlying70 rfl hsz
end Go.Proofs.Ytmneajmedopheaa
