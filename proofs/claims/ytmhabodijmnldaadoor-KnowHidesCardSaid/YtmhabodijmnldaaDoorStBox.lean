/- Layer 10: a state's box, loaded whole; what is not long. -/
import Derived.Test.YtmhabodijmnldaaDoorStLong
import Derived.Test.YtmhabodijmnldaaDoorStPl
import Derived.Test.YtmhabodijmnldaaDoorReg
namespace Go.Proofs.YtmhabodijmnldaaDoor
open Go.RowKit Ex
set_option maxRecDepth 100000
/-- A state's box, loaded whole, behind a guard or not. -/
theorem load_wantS {ops : Array Oper} {rest : List Oper} {op : Oper} {a : Act} {w : World} {Q : Exit → Act → World → Prop} (hw : Region.wanted op (yielded ops a.tmps) = true) (x : Operand) (ho : op.op = .load 29 x)
    (g : Nat) (hx : a.eval x = .pointer (some ⟨g, 0, none⟩)) (cs : Array Value) (h : StAt w g cs) (hs : cs.size = 37)
    (hK : wpList Tryd.prog ops Q rest (a.put op.dst (.agg cs)) w) : wpList Tryd.prog ops Q (op :: rest) a w := by
  refine BigFrame.wpList_want hw fun _ hK' => wp_load_row 29 x ho g hx 29 cs (0, 0) _ h Tryd.underlying29 rfl (by rw [hs]; exact size37) (hK' _ _ hK)
theorem yields_st {ops : Array Oper} {S : World → Prop} {op : Oper} {a : Act} (hw : Region.wanted op (yielded ops a.tmps) = true) (x : Operand) (ho : op.op = .load 29 x)
    (g : Nat) (hx : a.eval x = .pointer (some ⟨g, 0, none⟩)) (cs : Array Value) (hs : cs.size = 37) (hS : ∀ w, S w → StAt w g cs) : YieldsIf Tryd.prog ops S op (.agg cs) a := by
  have h := yieldsIf_load_mid (P := Tryd.prog) (S := S) hw 29 x ho g 0 hx cs.toList _ (fun w hSw j v hv => by
    rw [Array.getElem?_toList] at hv
    rw [(hS w hSw).cell, Nat.zero_add]
    exact hv) Tryd.underlying29 rfl (by rw [Array.length_toList, hs]; exact size37)
  rw [Array.toArray_toList] at h
  exact h
/-- What is not long. -/
theorem long_not {s : StT} {most : Nat} (h : longS s most = false) : s.objs.length ≤ most ∧ ∀ z < 11, (s.lists z).length ≤ most + 10 := by
  simp only [longS, Bool.or_eq_false_iff, decide_eq_false_iff_not, List.any_eq_false, List.mem_range, decide_eq_true_eq] at h
  exact ⟨by have := h.1; omega, fun z hz => by have := h.2 z hz; omega⟩
theorem box_new (w : World) (cs : Array Value) : ∃ W, W = (w.alloc (.cells st0 29)).setRow w.heap.size cs ∧ StAt W w.heap.size cs ∧ Below w.heap.size w W :=
  ⟨_, rfl, setRow_heap _ _ _ _ _ _ (heap_alloc_new _ _), below_setRow ((Below.refl _ _).alloc (Nat.le_refl _) _) _ _ (Nat.le_refl _)⟩
end Go.Proofs.YtmhabodijmnldaaDoor
