/- Layer 15: the laws' fixed fact. -/
import Derived.Test.YtmhabodijmnldaaDoorKwSaid
import Derived.Test.YtmhabodijmnldaaDoorStBox
namespace Go.Proofs.YtmhabodijmnldaaDoor
open Go.RowKit Ex
set_option maxRecDepth 100000
/-- The fact's object. -/
def oK : Nat → Int := fun i => if i = 17 then 1 else 0
theorem build_oK (W : World) : (Instr.build 49 #[(17, .int .i64 1)]).run Tryd.prog W = .ok (.agg (arr .i64 18 oK)) W := by kernel_rfl
theorem wpList_buildOK {ops : Array Oper} {rest : List Oper} {o : Oper} {a : Act} {w : World} {Q : Exit → Act → World → Prop} (hg : o.guard = none) (ho : o.op = .build 49 #[(17, .const (.int .i64 1))])
    (hK : wpList Tryd.prog ops Q rest (a.put o.dst (.agg (arr .i64 18 oK))) w) : wpList Tryd.prog ops Q (o :: rest) a w := by
  refine wpList_plain hg fun K' hK' => ?_
  unfold Oper.wp
  have hev : ∀ v, a.eval (.const v) = v := fun _ => rfl
  simp [execOp, ho, hev, build_oK, Result.andThen]
  exact hK' _ _ hK
theorem buildSlice_oK (W : World) : (Instr.buildSlice 22 1 #[(0, .agg (arr .i64 18 oK))]).run Tryd.prog W = .ok (.slice (some ⟨W.heap.size, 0, none⟩) 1 1) (W.alloc (.cells (arr .i64 18 oK) 49)) := by kernel_rfl
theorem wpList_buildSliceOK {ops : Array Oper} {rest : List Oper} {o : Oper} {a : Act} {w : World} {Q : Exit → Act → World → Prop} (hg : o.guard = none) (x : Operand) (ho : o.op = .buildSlice 22 1 #[(0, x)])
    (hx : a.eval x = .agg (arr .i64 18 oK)) (hK : wpList Tryd.prog ops Q rest (a.put o.dst (.slice (some ⟨w.heap.size, 0, none⟩) 1 1)) (w.alloc (.cells (arr .i64 18 oK) 49))) : wpList Tryd.prog ops Q (o :: rest) a w := by
  refine wpList_plain hg fun K' hK' => ?_
  unfold Oper.wp
  simp [execOp, ho, hx, buildSlice_oK, Result.andThen]
  exact hK' _ _ hK
def sOK (g : Nat) : SlT := ⟨some ⟨g, 0, none⟩, 1, 1⟩
def stK (g : Nat) : Array Value := stC (sOK g) (fun _ => nilS) (fun _ => 0) (fun _ => 0)
def sTK : StT := ⟨[oK], fun _ => [], fun _ => 0, fun _ => 0⟩
theorem build_stK (g : Nat) (W : World) : (Instr.build 29 #[(0, .slice (some ⟨g, 0, none⟩) 1 1)]).run Tryd.prog W = .ok (.agg (stK g)) W := by kernel_rfl
theorem wpList_buildSK {ops : Array Oper} {rest : List Oper} {o : Oper} {a : Act} {w : World} {Q : Exit → Act → World → Prop} (hg : o.guard = none) (x : Operand) (ho : o.op = .build 29 #[(0, x)])
    (g : Nat) (hx : a.eval x = .slice (some ⟨g, 0, none⟩) 1 1) (hK : wpList Tryd.prog ops Q rest (a.put o.dst (.agg (stK g))) w) : wpList Tryd.prog ops Q (o :: rest) a w := by
  refine wpList_plain hg fun K' hK' => ?_
  unfold Oper.wp
  simp [execOp, ho, hx, build_stK, Result.andThen]
  exact hK' _ _ hK
theorem reads_K {w : World} {g : Nat} (h : ObAt w g oK) {B : Nat} (hB : g < B) : ReadsS B w (stK g) sTK (sOK g) (fun _ => nilS) :=
  ⟨rfl, rfl, Nat.le_refl _, by simp [sOK, maxLen], fun i o hi => by
    match i, hi with
    | 0, hi =>
      simp only [sTK, List.getElem?_cons_zero, Option.some.injEq] at hi
      subst hi
      exact ⟨g, 0, rfl, hB, fun j v hv => by
        rw [Array.getElem?_toList] at hv
        exact (cell_of_row w g _ _ _ _ h).trans (by rw [show 0 + 0 * 18 + j = j by omega]; exact hv)⟩, fun z _ => Nums.none_, fun z _ => Nat.le_refl _, fun o ho => by
      simp [sTK] at ho; subst ho; intro i _; unfold oK N64; split <;> omega, fun z _ x hx => by simp [sTK] at hx, fun i _ => by simp [N64, sTK], fun i _ => by simp [N64, sTK]⟩
def eK : EvT := ⟨2, 0, 17, 1, 3, 0⟩
theorem show_K : showE sTK.objs 0 3 true = [eK] := by kernel_rfl
theorem build_eK (W : World) : (Instr.build 53 #[(0, .int .i64 2), (2, .int .i64 17), (3, .int .i64 1), (4, .int .i64 3)]).run Tryd.prog W = .ok (.agg (evC eK)) W := by kernel_rfl
theorem wpList_buildEK {ops : Array Oper} {rest : List Oper} {op : Oper} {a : Act} {w : World} {Q : Exit → Act → World → Prop} (hw : Region.wanted op (yielded ops a.tmps) = true) (ho : op.op = .build 53 #[(0, .const (.int .i64 2)), (2, .const (.int .i64 17)), (3, .const (.int .i64 1)), (4, .const (.int .i64 3))])
    (hK : wpList Tryd.prog ops Q rest (a.put op.dst (.agg #[Value.int .i64 2, .int .i64 0, .int .i64 17, .int .i64 1, .int .i64 3, .int .i64 0])) w) : wpList Tryd.prog ops Q (op :: rest) a w := by
  refine BigFrame.wpList_want hw fun K' hK' => ?_
  unfold Oper.wp
  have hev : ∀ v, a.eval (.const v) = v := fun _ => rfl
  simp [execOp, ho, hev, build_eK, Result.andThen]
  exact hK' _ _ hK
theorem load_evK {ops : Array Oper} {rest : List Oper} {op : Oper} {a : Act} {w : World} {Q : Exit → Act → World → Prop} (hw : Region.wanted op (yielded ops a.tmps) = true) (x : Operand) (ho : op.op = .load 53 x)
    (b off : Nat) (hx : a.eval x = .pointer (some ⟨b, off, none⟩)) (es : Array Value) (hs : es.size = 6) (h : w.rangeAt b off es.toList)
    (hK : wpList Tryd.prog ops Q rest (a.put op.dst (.agg es)) w) : wpList Tryd.prog ops Q (op :: rest) a w := by
  refine BigFrame.wpList_want hw fun _ hK' => wp_load_mid 53 x ho b off hx es.toList _ h Tryd.underlying53 rfl (by rw [Array.length_toList, hs]; exact ev_size ev0) (hK' _ _ ?_)
  rw [Array.toArray_toList]
  exact hK
set_option linter.unusedSimpArgs false in
set_option maxHeartbeats 0 in
theorem kwAlive {z : World} (E : KwSaid z) (w : World) (hzw : Below z.heap.size z w) : Calls Tryd.prog 5 #[] w fun e w' => e = .returned (.bool true) ∧ Below w.heap.size w w' := by
  have hz := st0_is
  go_enter Tryd.func5, Tryd.ntmps5
  go_upto_region 1 with fail
  obtain ⟨w1, hw1⟩ : ∃ w1, w1 = w.alloc (.cells (arr .i64 18 oK) 49) := ⟨_, rfl⟩
  have ho1 : ObAt w1 w.heap.size oK := by rw [hw1]; exact heap_alloc_new _ _
  have hb1 : Below w.heap.size w w1 := by rw [hw1]; exact (Below.refl _ _).alloc (Nat.le_refl _) _
  have HW1 := Lib.hid hw1
  clear hw1
  have hsg : (stK w.heap.size).size = 37 := stC_size _ _ _ _
  have hnew : (w1.alloc (.cells st0 29)).heap[w1.heap.size]? = some (.cells st0 29 (0, 0)) := heap_alloc_new _ _
  have hsz : (Tryd.prog.info? 29).map (·.size) = some (stK w.heap.size).size := by rw [hsg]; exact size37
  have hs0 : st0.size = (stK w.heap.size).size := by rw [hsg, show st0.size = 37 from stC_size _ _ _ _]
  have hone : (stK w.heap.size).all (·.oneCell') = true := stC_one _ _ _ _
  go_upto_region 2 with (first
    | (refine wpList_buildOK rfl rfl ?_)
    | (refine wpList_buildSliceOK rfl (.tmp 3) rfl rfl ?_; rw [← HW1.out])
    | (refine wpList_buildSK rfl (.tmp 4) rfl w.heap.size rfl ?_)
    | (refine wpList_store_row rfl 29 (.tmp 1) (.tmp 5) rfl w1.heap.size _ rfl rfl 29 st0 hnew hsz hs0 hone ?_))
  have hb2 : Below w1.heap.size w1 ((w1.alloc (.cells st0 29)).setRow w1.heap.size (stK w.heap.size)) := below_setRow ((Below.refl _ _).alloc (Nat.le_refl _) _) _ _ (Nat.le_refl _)
  have hg2 : StAt ((w1.alloc (.cells st0 29)).setRow w1.heap.size (stK w.heap.size)) w1.heap.size (stK w.heap.size) := setRow_heap _ _ _ _ _ _ hnew
  obtain ⟨w2, hw2⟩ : ∃ w2, w2 = (w1.alloc (.cells st0 29)).setRow w1.heap.size (stK w.heap.size) := ⟨_, rfl⟩
  rw [← hw2] at hb2 hg2
  rw [← hw2]
  clear hw2 hnew HW1 hz hs0 hone
  obtain ⟨g, hg⟩ : ∃ g, g = w1.heap.size := ⟨_, rfl⟩
  have hgo : w.heap.size < w1.heap.size := (Array.getElem?_eq_some_iff.1 ho1).1
  have hR := reads_K (w := w2) (B := w2.heap.size) (show ObAt w2 w.heap.size oK from (hb2.block _ hgo).trans ho1) (by have := hb2.size; omega)
  rw [← hg] at hg2
  rw [← hg]
  have HB2 := Lib.hid (keepB hb2 hb1)
  have hsh := E.show_ sTK _ _ _ 0 3 w2 hR (by simp [sTK]) (fun z _ => by simp [sTK]) (by unfold N64; omega) (by unfold N64; omega) (keepB HB2.out hzw)
  unfold EvsP at hsh
  rw [show_K] at hsh
  clear hg ho1 hgo hb1 hb2 w1 hR
  go_wp2_with (refine load_wantS (by rfl) (.tmp 1) rfl g rfl _ hg2 hsg ?_)
  refine hsh.mono ?_
  rintro en w4 ⟨A4, n4, c4, rfl, hc4, hV4, hb4⟩
  have HB4 := Lib.hid (keepB hb4 HB2.out)
  obtain rfl : n4 = 1 := hV4.n
  obtain ⟨b, off, rfl, hbl, hra⟩ := hV4.r 0 eK rfl
  rw [Nat.zero_mul, Nat.add_zero] at hra
  clear hsh hV4 hb4 hg2
  have hzn := E.zone 3 w4 (by unfold N64; omega) (keepB HB4.out hzw)
  rw [show zoneK 3 = 2 from rfl] at hzn
  go_wp2_with fail
  refine hzn.mono ?_
  rintro en w5 ⟨rfl, hb5⟩
  have hra : w5.rangeAt b off #[Value.int .i64 2, .int .i64 0, .int .i64 17, .int .i64 1, .int .i64 3, .int .i64 0].toList := range_below hb5 hbl hra
  have HB5 := Lib.hid (keepB hb5 HB4.out)
  clear hzn hb5
  go_wp2_with (first
    | (refine load_evK (by rfl) (.tmp 17) rfl b off rfl _ rfl hra ?_)
    | (refine wpList_buildEK (by rfl) rfl ?_))
  go_ret
  exact ⟨rfl, HB5.out⟩
end Go.Proofs.YtmhabodijmnldaaDoor
