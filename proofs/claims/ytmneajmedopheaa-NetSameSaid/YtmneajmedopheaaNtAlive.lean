/- Layer 13: the laws' fixed fact. -/
import Derived.Test.YtmneajmedopheaaNtG3
namespace Go.Proofs.Ytmneajmedopheaa
open Go.RowKit Ex
set_option maxRecDepth 100000
/-- The fact's events. -/
def nA : EvT := ⟨3, 0, 0, 20, 17, 0⟩
def nB : EvT := ⟨3, 0, 0, 17, 20, 0⟩
theorem net_alive : netL [nA, nB, ev0] = [ev0] := by
  have h1 : stepN nt0 nA = ⟨[], [], [nA]⟩ := rfl
  have h2 : stepN ⟨[], [], [nA]⟩ nB = ⟨[], [], [⟨3, 0, 0, 20, 20, 0⟩]⟩ := rfl
  have h3 : stepN ⟨[], [], [⟨3, 0, 0, 20, 20, 0⟩]⟩ ev0 = ⟨[ev0], [], []⟩ := rfl
  show outN (stepN (stepN (stepN nt0 nA) nB) ev0) = _
  rw [h1, h2, h3]; rfl
theorem rdV_flat {w : World} {g : Nat} {l : List EvT} (h : w.heap[g]? = some (.cells (flatV l).toArray 45 (0, 0))) : RdV w.heap.size w (some ⟨g, 0, none⟩) l := fun i o hi =>
  ⟨g, 0, rfl, (Array.getElem?_eq_some_iff.1 h).1, fun j v hv => by
    rw [cell_of_row w g _ _ _ _ h, List.getElem?_toArray, Nat.zero_add]
    exact flatV_at i o hi j v hv⟩
theorem build_nA (W : World) : (Instr.build 45 #[(0, .int .i64 3), (3, .int .i64 20), (4, .int .i64 17)]).run Try.prog W = .ok (evV nA) W := by kernel_rfl
theorem build_nB (W : World) : (Instr.build 45 #[(0, .int .i64 3), (3, .int .i64 17), (4, .int .i64 20)]).run Try.prog W = .ok (evV nB) W := by kernel_rfl
theorem build_n0 (W : World) : (Instr.build 45 #[(0, .int .i64 0)]).run Try.prog W = .ok (evV ev0) W := by kernel_rfl
section
variable {ops : Array Oper} {rest : List Oper} {o : Oper} {a : Act} {w : World} {Q : Exit → Act → World → Prop}
theorem wpList_buildNA (hg : o.guard = none) (ho : o.op = .build 45 #[(0, .const (.int .i64 3)), (3, .const (.int .i64 20)), (4, .const (.int .i64 17))])
    (hK : wpList Try.prog ops Q rest (a.put o.dst (evV nA)) w) : wpList Try.prog ops Q (o :: rest) a w := by
  refine wpList_plain hg fun K' hK' => ?_
  unfold Oper.wp
  have hev : ∀ v, a.eval (.const v) = v := fun _ => rfl
  simp [execOp, ho, hev, build_nA, Result.andThen]
  exact hK' _ _ hK
theorem wpList_buildNB (hg : o.guard = none) (ho : o.op = .build 45 #[(0, .const (.int .i64 3)), (3, .const (.int .i64 17)), (4, .const (.int .i64 20))])
    (hK : wpList Try.prog ops Q rest (a.put o.dst (evV nB)) w) : wpList Try.prog ops Q (o :: rest) a w := by
  refine wpList_plain hg fun K' hK' => ?_
  unfold Oper.wp
  have hev : ∀ v, a.eval (.const v) = v := fun _ => rfl
  simp [execOp, ho, hev, build_nB, Result.andThen]
  exact hK' _ _ hK
theorem wpList_buildN0 (hg : o.guard = none) (ho : o.op = .build 45 #[(0, .const (.int .i64 0))])
    (hK : wpList Try.prog ops Q rest (a.put o.dst (evV ev0)) w) : wpList Try.prog ops Q (o :: rest) a w := by
  refine wpList_plain hg fun K' hK' => ?_
  unfold Oper.wp
  have hev : ∀ v, a.eval (.const v) = v := fun _ => rfl
  simp [execOp, ho, hev, build_n0, Result.andThen]
  exact hK' _ _ hK
theorem buildSlice3 (x y z : EvT) (W : World) : (Instr.buildSlice 30 3 #[(0, evV x), (1, evV y), (2, evV z)]).run Try.prog W = .ok (.slice (some ⟨W.heap.size, 0, none⟩) 3 3) (W.alloc (.cells (flatV [x, y, z]).toArray 45)) := by
  obtain ⟨k, a, b, c, d, f⟩ := x
  obtain ⟨k2, a2, b2, c2, d2, f2⟩ := y
  obtain ⟨k3, a3, b3, c3, d3, f3⟩ := z
  kernel_rfl
theorem wpList_buildSlice3 (hg : o.guard = none) (p q r : Operand) (ho : o.op = .buildSlice 30 3 #[(0, p), (1, q), (2, r)]) (x y z : EvT) (hx : a.eval p = evV x) (hy : a.eval q = evV y) (hz : a.eval r = evV z)
    (hK : wpList Try.prog ops Q rest (a.put o.dst (.slice (some ⟨w.heap.size, 0, none⟩) 3 3)) (w.alloc (.cells (flatV [x, y, z]).toArray 45))) : wpList Try.prog ops Q (o :: rest) a w := by
  refine wpList_plain hg fun K' hK' => ?_
  unfold Oper.wp
  simp [execOp, ho, hx, hy, hz, buildSlice3, Result.andThen]
  exact hK' _ _ hK
/-- An event within, loaded whole, with or without a guard. -/
theorem load_evG {op : Oper} (hw : Region.wanted op (yielded ops a.tmps) = true) (x : Operand) (ho : op.op = .load 45 x)
    (b off : Nat) (hx : a.eval x = .pointer (some ⟨b, off, none⟩)) (es : Array Value) (hs : es.size = 6) (h : w.rangeAt b off es.toList)
    (hK : wpList Try.prog ops Q rest (a.put op.dst (.agg es)) w) : wpList Try.prog ops Q (op :: rest) a w := by
  refine BigFrame.wpList_want hw fun _ hK' => wp_load_mid 45 x ho b off hx es.toList _ h Try.underlying45 rfl (by rw [Array.length_toList, hs]; exact ev_size ev0) (hK' _ _ ?_)
  rw [Array.toArray_toList]
  exact hK
end
theorem ev0_i : EvI ev0 := ⟨by decide, by decide, by decide, by decide, by decide, by decide⟩
theorem nA_i : EvI nA := ⟨by decide, by decide, by decide, by decide, by decide, by decide⟩
theorem nB_i : EvI nB := ⟨by decide, by decide, by decide, by decide, by decide, by decide⟩
set_option linter.unusedSimpArgs false in
set_option maxHeartbeats 0 in
theorem ntAlive {z : World} (E : NtSaid z) (w : World) (hz : Below z.heap.size z w) : Calls Try.prog 5 #[] w fun e w' => e = .returned (.bool true) ∧ Below w.heap.size w w' := by
  have hze := ev0_is
  have hnew : (w.alloc (.cells (evC ev0) 45)).heap[w.heap.size]? = some (.cells (evC ev0) 45 (0, 0)) := heap_alloc_new _ _
  have hsE := ev_size nA
  have hoE := evC_one nA
  obtain ⟨es, hes⟩ : ∃ es, es = evC nA := ⟨_, rfl⟩
  have HEs := Lib.hid hes
  rw [← hes] at hsE hoE
  have hs6 : (evC ev0).size = es.size := by rw [hes]; rfl
  have hvA : evV nA = .agg es := by rw [hes]; rfl
  clear hes
  go_enter Try.func5, Try.ntmps5
  go_upto_region 2 with (first
    | (refine wpList_buildNA rfl rfl ?_; rw [hvA])
    | (refine wpList_store_row rfl 45 (.tmp 1) (.tmp 4) rfl w.heap.size _ rfl rfl 45 (evC ev0) hnew hsE hs6 hoE ?_))
  obtain ⟨w1, hw1, he1, hb1⟩ := ev_box w nA
  rw [HEs.out, ← hw1]
  obtain ⟨g1, hg1⟩ : ∃ g, g = w.heap.size := ⟨_, rfl⟩
  rw [← hg1] at he1
  rw [← hg1]
  clear hw1 hg1 hnew hsE hoE hs6 hvA HEs es
  have hnew : (w1.alloc (.cells (evC ev0) 45)).heap[w1.heap.size]? = some (.cells (evC ev0) 45 (0, 0)) := heap_alloc_new _ _
  have hsE := ev_size nB
  have hoE := evC_one nB
  obtain ⟨es, hes⟩ : ∃ es, es = evC nB := ⟨_, rfl⟩
  have HEs := Lib.hid hes
  rw [← hes] at hsE hoE
  have hs6 : (evC ev0).size = es.size := by rw [hes]; rfl
  have hvA : evV nB = .agg es := by rw [hes]; rfl
  clear hes
  go_upto_region 3 with (first
    | (refine wpList_buildNB rfl rfl ?_; rw [hvA])
    | (refine wpList_store_row rfl 45 (.tmp 2) (.tmp 5) rfl w1.heap.size _ rfl rfl 45 (evC ev0) hnew hsE hs6 hoE ?_))
  obtain ⟨w2, hw2, he2, hb2⟩ := ev_box w1 nB
  rw [HEs.out, ← hw2]
  have he12 := he1.keep hb2
  have hbw2 := keepB hb2 hb1
  obtain ⟨g2, hg2⟩ : ∃ g, g = w1.heap.size := ⟨_, rfl⟩
  rw [← hg2] at he2
  rw [← hg2]
  clear hw2 hg2 hnew hsE hoE hs6 hvA HEs es he1 hb1 hb2 hze
  have hb3 : Below w2.heap.size w2 (w2.alloc (.cells (flatV [nA, nB, ev0]).toArray 45)) := (Below.refl _ _).alloc (Nat.le_refl _) _
  have hV : Evs (w2.alloc (.cells (flatV [nA, nB, ev0]).toArray 45)).heap.size (w2.alloc (.cells (flatV [nA, nB, ev0]).toArray 45)) (some ⟨w2.heap.size, 0, none⟩) 3 [nA, nB, ev0] :=
    ⟨rfl, rdV_flat (heap_alloc_new _ _), fun e he => by
      rcases List.mem_cons.1 he with rfl | he
      · exact nA_i
      rcases List.mem_cons.1 he with rfl | he
      · exact nB_i
      obtain rfl : e = ev0 := by simpa using he
      exact ev0_i⟩
  have hbw3 := keepB hb3 hbw2
  have hn := E.net _ 3 3 _ _ hV (Nat.le_refl _) (by omega) (hz.trans (hbw3.mono hz.size))
  unfold EvsP at hn
  rw [net_alive] at hn
  clear hb3 hV hbw2
  go_wp2_with (first
    | (refine load_ev (by rfl) (.tmp 1) rfl g1 rfl nA he12 ?_)
    | (refine load_ev (by rfl) (.tmp 2) rfl g2 rfl nB he2 ?_)
    | (refine wpList_buildN0 rfl rfl ?_)
    | (refine wpList_buildSlice3 rfl (.tmp 6) (.tmp 7) (.tmp 8) rfl nA nB ev0 rfl rfl rfl ?_))
  refine hn.mono ?_
  rintro en w4 ⟨A4, n4, c4, rfl, hc4, hV4, hb4⟩
  have hbw4 := keepB hb4 hbw3
  obtain rfl : n4 = 1 := hV4.n
  obtain ⟨b, off, rfl, _, hra⟩ := hV4.r 0 ev0 rfl
  have hra : w4.rangeAt b off #[Value.int .i64 0, .int .i64 0, .int .i64 0, .int .i64 0, .int .i64 0, .int .i64 0].toList := by
    rw [Nat.zero_mul, Nat.add_zero] at hra
    exact hra
  clear hn hV4 hb4 hbw3 he12 he2
  go_wp2_with (refine load_evG (by rfl) (.tmp 16) rfl b off rfl _ rfl hra ?_)
  go_ret
  exact ⟨rfl, hbw4⟩
end Go.Proofs.Ytmneajmedopheaa
