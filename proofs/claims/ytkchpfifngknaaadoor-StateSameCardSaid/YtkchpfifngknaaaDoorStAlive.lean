/- Layer 10: the laws' fixed fact. -/
import Derived.Test.YtkchpfifngknaaaDoorStC7
import Derived.Test.YtkchpfifngknaaaDoorStMade
import Derived.Test.YtkchpfifngknaaaDoorIs
namespace Go.Proofs.YtkchpfifngknaaaDoor
open Go.RowKit Ex
attribute [local go_sem] arr_get
set_option maxRecDepth 100000
theorem build_o0 (W : World) : (Instr.build 33 #[]).run Tryd.prog W = .ok (.agg (arr .i64 18 fun _ => 0)) W := by kernel_rfl
theorem wpList_buildO {ops : Array Oper} {rest : List Oper} {o : Oper} {a : Act} {w : World} {Q : Exit → Act → World → Prop} (hg : o.guard = none) (ho : o.op = .build 33 #[])
    (hK : wpList Tryd.prog ops Q rest (a.put o.dst (.agg (arr .i64 18 fun _ => 0))) w) : wpList Tryd.prog ops Q (o :: rest) a w := by
  refine wpList_plain hg fun K' hK' => ?_
  unfold Oper.wp
  simp [execOp, ho, build_o0, Result.andThen]
  exact hK' _ _ hK
theorem buildSlice_o0 (W : World) : (Instr.buildSlice 22 1 #[(0, .agg (arr .i64 18 fun _ => 0))]).run Tryd.prog W = .ok (.slice (some ⟨W.heap.size, 0, none⟩) 1 1) (W.alloc (.cells (arr .i64 18 fun _ => 0) 33)) := by kernel_rfl
theorem wpList_buildSliceO {ops : Array Oper} {rest : List Oper} {o : Oper} {a : Act} {w : World} {Q : Exit → Act → World → Prop} (hg : o.guard = none) (x : Operand) (ho : o.op = .buildSlice 22 1 #[(0, x)])
    (hx : a.eval x = .agg (arr .i64 18 fun _ => 0)) (hK : wpList Tryd.prog ops Q rest (a.put o.dst (.slice (some ⟨w.heap.size, 0, none⟩) 1 1)) (w.alloc (.cells (arr .i64 18 fun _ => 0) 33))) : wpList Tryd.prog ops Q (o :: rest) a w := by
  refine wpList_plain hg fun K' hK' => ?_
  unfold Oper.wp
  simp [execOp, ho, hx, buildSlice_o0, Result.andThen]
  exact hK' _ _ hK
/-- One object of zeros. -/
def sO1 (g : Nat) : SlT := ⟨some ⟨g, 0, none⟩, 1, 1⟩
def st1 (g : Nat) : Array Value := stC (sO1 g) (fun _ => nilS) (fun _ => 0) (fun _ => 0)
def sT1 : StT := ⟨[fun _ => 0], fun _ => [], fun _ => 0, fun _ => 0⟩
theorem build_st1 (g : Nat) (W : World) : (Instr.build 29 #[(0, .slice (some ⟨g, 0, none⟩) 1 1)]).run Tryd.prog W = .ok (.agg (st1 g)) W := by kernel_rfl
theorem wpList_buildS {ops : Array Oper} {rest : List Oper} {o : Oper} {a : Act} {w : World} {Q : Exit → Act → World → Prop} (hg : o.guard = none) (x : Operand) (ho : o.op = .build 29 #[(0, x)])
    (g : Nat) (hx : a.eval x = .slice (some ⟨g, 0, none⟩) 1 1) (hK : wpList Tryd.prog ops Q rest (a.put o.dst (.agg (st1 g))) w) : wpList Tryd.prog ops Q (o :: rest) a w := by
  refine wpList_plain hg fun K' hK' => ?_
  unfold Oper.wp
  simp [execOp, ho, hx, build_st1, Result.andThen]
  exact hK' _ _ hK
theorem reads_1 {w : World} {g : Nat} (h : ObAt w g fun _ => 0) {B : Nat} (hB : g < B) : ReadsS B w (st1 g) sT1 (sO1 g) (fun _ => nilS) :=
  ⟨rfl, rfl, Nat.le_refl _, by simp [sO1, maxLen], fun i o hi => by
    match i, hi with
    | 0, hi =>
      simp only [sT1, List.getElem?_cons_zero, Option.some.injEq] at hi
      subst hi
      exact ⟨g, 0, rfl, hB, fun j v hv => by
        rw [Array.getElem?_toList] at hv
        exact (cell_of_row w g _ _ _ _ h).trans (by rw [show 0 + 0 * 18 + j = j by omega]; exact hv)⟩, fun z _ => Nums.none_, fun z _ => Nat.le_refl _, fun o ho => by simp [sT1] at ho; subst ho; intro i _; simp [N64], fun z _ x hx => by simp [sT1] at hx, fun i _ => by simp [N64, sT1], fun i _ => by simp [N64, sT1]⟩
theorem chk0 : chkS sT0 = 0 := by decide +kernel
theorem chk1 : chkS sT1 = 12 := by decide +kernel
/-- A state's box, loaded whole, behind a guard or not. -/
theorem load_wantS {ops : Array Oper} {rest : List Oper} {op : Oper} {a : Act} {w : World} {Q : Exit → Act → World → Prop} (hw : Region.wanted op (yielded ops a.tmps) = true) (x : Operand) (ho : op.op = .load 29 x)
    (g : Nat) (hx : a.eval x = .pointer (some ⟨g, 0, none⟩)) (cs : Array Value) (h : StAt w g cs) (hs : cs.size = 37)
    (hK : wpList Tryd.prog ops Q rest (a.put op.dst (.agg cs)) w) : wpList Tryd.prog ops Q (op :: rest) a w := by
  refine BigFrame.wpList_want hw fun _ hK' => wp_load_row 29 x ho g hx 29 cs (0, 0) _ h Tryd.underlying29 rfl (by rw [hs]; exact size37) (hK' _ _ hK)
set_option maxHeartbeats 0 in
theorem stAlive {z : World} (T : TabF z) (w : World) (hzw : Below z.heap.size z w) : Calls Tryd.prog 7 #[] w fun e w' => e = .returned (.bool true) ∧ Below w.heap.size w w' := by
  have hz := st0_is
  go_enter Tryd.func7, Tryd.ntmps7
  go_upto_region 1 with fail
  obtain ⟨w1, hw1⟩ : ∃ w1, w1 = w.alloc (.cells (arr .i64 18 fun _ => 0) 33) := ⟨_, rfl⟩
  have ho1 : ObAt w1 w.heap.size fun _ => 0 := by rw [hw1]; exact heap_alloc_new _ _
  have hb1 : Below w.heap.size w w1 := by rw [hw1]; exact (Below.refl _ _).alloc (Nat.le_refl _) _
  have HW1 := Lib.hid hw1
  clear hw1
  have hsg : (st1 w.heap.size).size = 37 := stC_size _ _ _ _
  have hnew : (w1.alloc (.cells st0 29)).heap[w1.heap.size]? = some (.cells st0 29 (0, 0)) := heap_alloc_new _ _
  have hsz : (Tryd.prog.info? 29).map (·.size) = some (st1 w.heap.size).size := by rw [hsg]; exact size37
  have hs0 : st0.size = (st1 w.heap.size).size := by rw [hsg, show st0.size = 37 from stC_size _ _ _ _]
  have hone : (st1 w.heap.size).all (·.oneCell') = true := stC_one _ _ _ _
  go_upto_region 2 with (first
    | (refine wpList_buildO rfl rfl ?_)
    | (refine wpList_buildSliceO rfl (.tmp 2) rfl rfl ?_; rw [← HW1.out])
    | (refine wpList_buildS rfl (.tmp 3) rfl w.heap.size rfl ?_)
    | (refine wpList_store_row rfl 29 (.tmp 1) (.tmp 4) rfl w1.heap.size _ rfl rfl 29 st0 hnew hsz hs0 hone ?_))
  have hb2 : Below w1.heap.size w1 ((w1.alloc (.cells st0 29)).setRow w1.heap.size (st1 w.heap.size)) := below_setRow ((Below.refl _ _).alloc (Nat.le_refl _) _) _ _ (Nat.le_refl _)
  have hg2 : StAt ((w1.alloc (.cells st0 29)).setRow w1.heap.size (st1 w.heap.size)) w1.heap.size (st1 w.heap.size) := setRow_heap _ _ _ _ _ _ hnew
  obtain ⟨w2, hw2⟩ : ∃ w2, w2 = (w1.alloc (.cells st0 29)).setRow w1.heap.size (st1 w.heap.size) := ⟨_, rfl⟩
  rw [← hw2] at hb2 hg2
  rw [← hw2]
  clear hw2 hnew HW1 hz hs0 hone
  obtain ⟨g, hg⟩ : ∃ g, g = w1.heap.size := ⟨_, rfl⟩
  have hgo : w.heap.size < w1.heap.size := (Array.getElem?_eq_some_iff.1 ho1).1
  have hR := Lib.hid (fun W (hW : Below w2.heap.size w2 W) => reads_1 (w := W) (B := W.heap.size) (show ObAt W w.heap.size fun _ => 0 from ((keepB hW hb2).block _ hgo).trans ho1) (by have := (keepB hW hb2).size; omega))
  rw [← hg] at hg2
  rw [← hg]
  have hbw := keepB hb2 hb1
  clear hg ho1 hgo hb1 hb2 w1
  go_wp2_with fail
  refine (new_code w2).mono ?_
  rintro e w3 ⟨rfl, hb3⟩
  go_wp2_with fail
  refine (check_code T sT0 nilS (fun _ => nilS) st0 w3 w3.heap.size (reads_0 _ _) (Nat.le_refl _) (by simp [sT0]) (fun z _ => by simp [sT0]) (keepB (keepB hb3 hbw) hzw)).mono ?_
  rintro e w4 ⟨rfl, hb4⟩
  have hb24 := keepB hb4 hb3
  have hg4 := hg2.keep hb24
  rw [chk0, errV_nil]
  go_wp2_with (refine load_wantS (by rfl) (.tmp 1) rfl g rfl _ hg4 hsg ?_)
  refine (check_code T sT1 _ _ _ w4 w4.heap.size (hR.out w4 hb24) (Nat.le_refl _) (by simp [sT1]) (fun z _ => by simp [sT1]) (keepB (keepB hb24 hbw) hzw)).mono ?_
  rintro e w5 ⟨rfl, hb5⟩
  rw [chk1]
  go_wp2_with fail
  refine (is_by 12 12 w5).mono ?_
  rintro e w6 ⟨rfl, rfl⟩
  go_wp2_with fail
  go_ret
  exact ⟨rfl, keepB (keepB hb5 hb24) hbw⟩
end Go.Proofs.YtkchpfifngknaaaDoor
