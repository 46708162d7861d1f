/- Layer 10: objects, appended to. -/
import Derived.Test.YtmhabodijmnldaaDoorStMade
namespace Go.Proofs.YtmhabodijmnldaaDoor
open Go.RowKit Ex
set_option maxRecDepth 100000
/-- append of one object to objects of the call's own. -/
theorem wpList_appO1 {ops : Array Oper} {rest : List Oper} {o : Oper} {a : Act} {w : World} {Q : Exit → Act → World → Prop} (hgd : o.guard = none) (s x : Operand)
    (ho : o.op = .call { callee := .builtin .append, args := #[s, x], argTypes := #[22, 22] })
    (base : Nat) (A : Option Addr) (n c : Nat) (l : List (Nat → Int)) (hs : a.eval s = .slice A n c) (h : w.ownsRow base 49 18 (.slice A n c) n (flatO l))
    (g c2 : Nat) (f : Nat → Int) (hx : a.eval x = .slice (some ⟨g, 0, none⟩) 1 c2) (hr : ObAt w g f) (hn : n ≤ 1000000) (hbase : base ≤ w.heap.size)
    (hK : ∀ A' c' w', w'.ownsRow base 49 18 (.slice A' (n + 1) c') (n + 1) (flatO (l ++ [f])) → w.grownBy w' (Value.slice A n c).ownBlock → wpList Tryd.prog ops Q rest (a.put o.dst (.slice A' (n + 1) c')) w') :
    wpList Tryd.prog ops Q (o :: rest) a w := by
  obtain ⟨i0, hi, hz0, hz1, hz2⟩ := info_parts info_obj
  refine wpList_append_own_at w hgd s x 22 ho base 49 i0 _ 18 144 Tryd.underlying22 hi hz0 hz1 hz2 (show (arr .i64 18 fun _ => 0).size = 18 by rw [arr_size]) (by omega) _ n (flatO l) hs h ⟨g, 0, none⟩ 1 c2 (flatO [f]) hx (by rw [flatO_len]; rfl)
    (fun j u hj => ?_) (flatO_one [f]) (by unfold maxLen; omega) (by omega) hbase ?_
  · rw [Addr.add_mid, Nat.zero_add, cell_of_row w g j _ _ _ hr, ← Array.getElem?_toList]
    simpa [flatO] using hj
  · intro v' w' hown hgr _ _
    rw [← show flatO (l ++ [f]) = flatO l ++ flatO [f] by simp [flatO]] at hown
    have hform : ∃ A' c', v' = .slice A' (n + 1) c' := by
      rcases hown.2 with ⟨rfl, hz⟩ | ⟨g', cap, _, rfl, _⟩
      · omega
      · exact ⟨_, _, rfl⟩
    obtain ⟨A', c', rfl⟩ := hform
    exact hK A' c' w' hown hgr
theorem buildSlice_of (f : Nat → Int) (W : World) : (Instr.buildSlice 22 1 #[(0, .agg (arr .i64 18 f))]).run Tryd.prog W = .ok (.slice (some ⟨W.heap.size, 0, none⟩) 1 1) (W.alloc (.cells (arr .i64 18 f) 49)) := by kernel_rfl
theorem wpList_buildSliceOf {ops : Array Oper} {rest : List Oper} {o : Oper} {a : Act} {w : World} {Q : Exit → Act → World → Prop} (hg : o.guard = none) (x : Operand) (ho : o.op = .buildSlice 22 1 #[(0, x)]) (f : Nat → Int)
    (hx : a.eval x = .agg (arr .i64 18 f)) (hK : wpList Tryd.prog ops Q rest (a.put o.dst (.slice (some ⟨w.heap.size, 0, none⟩) 1 1)) (w.alloc (.cells (arr .i64 18 f) 49))) : wpList Tryd.prog ops Q (o :: rest) a w := by
  refine wpList_plain hg fun K' hK' => ?_
  unfold Oper.wp
  simp [execOp, ho, hx, buildSlice_of, Result.andThen]
  exact hK' _ _ hK
end Go.Proofs.YtmhabodijmnldaaDoor
