/- Layer 10: two boxes with states, side by side. -/
import Derived.Test.YtmhabodijmnldaaDoorStSame
import Derived.Test.YtmhabodijmnldaaDoorStPl
import Derived.Test.YtmhabodijmnldaaDoorReg
namespace Go.Proofs.YtmhabodijmnldaaDoor
open Go.RowKit Ex
attribute [local go_sem] arr_get
set_option maxRecDepth 100000
theorem yields_obj {ops : Array Oper} {S : World → Prop} {op : Oper} {a : Act} (hw : Region.wanted op (yielded ops a.tmps) = true) (x : Operand) (ho : op.op = .load 49 x)
    (b o : Nat) (hx : a.eval x = .pointer (some ⟨b, o, none⟩)) (f : Nat → Int) (hS : ∀ w, S w → w.rangeAt b o (arr .i64 18 f).toList) : YieldsIf Tryd.prog ops S op (.agg (arr .i64 18 f)) a := by
  have h := yieldsIf_load_mid (P := Tryd.prog) (S := S) hw 49 x ho b o hx (arr .i64 18 f).toList _ hS Tryd.underlying49 rfl (by rw [Array.length_toList, arr_size]; exact st_size18)
  rw [Array.toArray_toList] at h
  exact h
theorem load_twoW {ops : Array Oper} {rest : List Oper} {op : Oper} {a : Act} {w : World} {Q : Exit → Act → World → Prop} (hw : Region.wanted op (yielded ops a.tmps) = true) (x : Operand) (ho : op.op = .load 26 x)
    (b o : Nat) (hx : a.eval x = .pointer (some ⟨b, o, none⟩)) (f : Nat → Int) (h : w.rangeAt b o (arr .i64 18 f).toList)
    (hK : wpList Tryd.prog ops Q rest (a.put op.dst (.agg (arr .i64 18 f))) w) : wpList Tryd.prog ops Q (op :: rest) a w := by
  refine BigFrame.wpList_want hw fun _ hK' => wp_load_mid 26 x ho b o hx (arr .i64 18 f).toList _ h Tryd.underlying26 rfl (by rw [Array.length_toList, arr_size]; exact size18p) (hK' _ _ ?_)
  rw [Array.toArray_toList]
  exact hK
theorem load_sevenW {ops : Array Oper} {rest : List Oper} {op : Oper} {a : Act} {w : World} {Q : Exit → Act → World → Prop} (hw : Region.wanted op (yielded ops a.tmps) = true) (x : Operand) (ho : op.op = .load 27 x)
    (b o : Nat) (hx : a.eval x = .pointer (some ⟨b, o, none⟩)) (f : Nat → Int) (h : w.rangeAt b o (arr .i64 7 f).toList)
    (hK : wpList Tryd.prog ops Q rest (a.put op.dst (.agg (arr .i64 7 f))) w) : wpList Tryd.prog ops Q (op :: rest) a w := by
  refine BigFrame.wpList_want hw fun _ hK' => wp_load_mid 27 x ho b o hx (arr .i64 7 f).toList _ h Tryd.underlying27 rfl (by rw [Array.length_toList, arr_size]; exact st_size7) (hK' _ _ ?_)
  rw [Array.toArray_toList]
  exact hK
/-- Two boxes with states. -/
structure TwoS (w : World) (ga gb : Nat) (ca cb : Array Value) (W : World) : Prop where
  b : Below w.heap.size w W
  sa : StAt W ga ca
  sb : StAt W gb cb
theorem TwoS.keep {w : World} {ga gb : Nat} {ca cb : Array Value} {W W' : World} (h : TwoS w ga gb ca cb W) (hb : Below W.heap.size W W') : TwoS w ga gb ca cb W' := ⟨keepB hb h.b, h.sa.keep hb, h.sb.keep hb⟩
theorem TwoS.drewN {w : World} {ga gb : Nat} {ca cb : Array Value} {W : World} (h : TwoS w ga gb ca cb W) (m : Nat) : TwoS w ga gb ca cb (W.drewN m) := ⟨below_drewN h.b m, h.sa, h.sb⟩
end Go.Proofs.YtmhabodijmnldaaDoor
