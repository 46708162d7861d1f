/- Layer 6: what the walks over effects share. -/
import Derived.Test.YtplfblccaeligaaDoorTree
import Derived.Test.YtplfblccaeligaaDoorErr
import Derived.Test.YtplfblccaeligaaDoorReg
import Derived.Test.YtplfblccaeligaaDoorBase0
import Derived.WalkSpells
import Derived.WalkLawsBesides
import Derived.Lib.Hide
import Derived.BigQuiet
import Derived.Deep.QuietTactic
import Derived.Deep.Cut
import Derived.IntWalk
namespace Go.Proofs.YtplfblccaeligaaDoor
open Go.RowKit Ex
theorem size5 : (Tryd.prog.info? 65).map (·.size) = some 5 := by kernel_rfl
theorem cells5 : Tryd.prog.cellsOf 65 = 5 := by kernel_rfl
/-- Block g is an effect's box. -/
def EvAt (w : World) (g : Nat) (cs : Array Value) : Prop := w.heap[g]? = some (.cells cs 65 (0, 0))
theorem EvAt.new (w : World) (cs : Array Value) : EvAt (w.alloc (.cells cs 65)) w.heap.size cs := heap_alloc_new _ _
theorem EvAt.lt {w : World} {g : Nat} {cs : Array Value} (h : EvAt w g cs) : g < w.heap.size := (Array.getElem?_eq_some_iff.1 h).1
theorem EvAt.keep {w w' : World} {g : Nat} {cs : Array Value} (h : EvAt w g cs) (hb : Below w.heap.size w w') : EvAt w' g cs := (hb.block g h.lt).trans h
theorem EvAt.below {B : Nat} {w w' : World} {g : Nat} {cs : Array Value} (h : EvAt w g cs) (hb : Below B w w') (hg : g < B) : EvAt w' g cs := (hb.block g hg).trans h
theorem EvAt.cell {w : World} {g : Nat} {cs : Array Value} (h : EvAt w g cs) (i : Nat) : w.cell? ⟨g, i, none⟩ = cs[i]? := cell_of_row w g i cs 65 (0, 0) h
theorem Reads.grow {d : Nat} {w w' : World} {cs : Array Value} {t : ET} (h : Reads w.heap.size w d cs t) (hb : Below w.heap.size w w') : Reads w'.heap.size w' d cs t := (h.keep hb).more hb.size
/-- The effect at a place of a list within, loaded whole. -/
theorem load_sub {ops : Array Oper} {rest : List Oper} {op : Oper} {a : Act} {w : World} {Q : Exit → Act → World → Prop} (hgd : op.guard = none) (x : Operand) (ho : op.op = .load 65 x)
    (b o : Nat) (hx : a.eval x = .pointer (some ⟨b, o, none⟩)) (xs : Array Value) (hs : xs.size = 5) (h : w.rangeAt b o xs.toList)
    (hK : wpList Tryd.prog ops Q rest (a.put op.dst (.agg xs)) w) : wpList Tryd.prog ops Q (op :: rest) a w := by
  refine wpList_load_mid hgd 65 x ho b o hx xs.toList _ h Tryd.underlying65 rfl (by rw [Array.length_toList, hs]; exact size5) ?_
  rw [Array.toArray_toList]
  exact hK
theorem wantEv {ops : Array Oper} {rest : List Oper} {o : Oper} {a : Act} {w : World} {Q : Exit → Act → World → Prop} (hw : Region.wanted o (yielded ops a.tmps) = true) (x : Operand) (ho : o.op = .load 65 x)
    (g : Nat) (hx : a.eval x = .pointer (some ⟨g, 0, none⟩)) (cs : Array Value) (h : EvAt w g cs) (hs : (Tryd.prog.info? 65).map (·.size) = some cs.size)
    (hK : wpList Tryd.prog ops Q rest (a.put o.dst (.agg cs)) w) : wpList Tryd.prog ops Q (o :: rest) a w :=
  BigFrame.wpList_want hw fun _ hK' => wp_load_row 65 x ho g hx 65 cs (0, 0) _ h Tryd.underlying65 rfl hs (hK' _ _ hK)
theorem yieldsEv {ops : Array Oper} {S : World → Prop} {op : Oper} {a : Act} (hw : Region.wanted op (yielded ops a.tmps) = true) (x : Operand) (ho : op.op = .load 65 x)
    (g : Nat) (hx : a.eval x = .pointer (some ⟨g, 0, none⟩)) (cs : Array Value) (hS : ∀ w, S w → EvAt w g cs) (hs : (Tryd.prog.info? 65).map (·.size) = some cs.size) : YieldsIf Tryd.prog ops S op (.agg cs) a :=
  .inl ⟨hw, fun w hw' => by
    unfold execOp
    simp only [ho, hx, Instr.loadAt, Instr.sureAddr, Sem.run_bind, Sem.run_pure, Result.andThen_ok, run_loadVar_row w g 65 65 cs (0, 0) _ (hS w hw') Tryd.underlying65 rfl hs]⟩
theorem yieldsSub {ops : Array Oper} {S : World → Prop} {op : Oper} {a : Act} (hw : Region.wanted op (yielded ops a.tmps) = true) (x : Operand) (ho : op.op = .load 65 x)
    (b o : Nat) (hx : a.eval x = .pointer (some ⟨b, o, none⟩)) (xs : Array Value) (hs : xs.size = 5) (hS : ∀ w, S w → w.rangeAt b o xs.toList) : YieldsIf Tryd.prog ops S op (.agg xs) a := by
  have h := yieldsIf_load_mid (P := Tryd.prog) hw 65 x ho b o hx xs.toList _ hS Tryd.underlying65 rfl (by rw [Array.length_toList, hs]; exact size5)
  rw [Array.toArray_toList] at h
  exact h
theorem ev_one (op n m who : Int) (A : Option Addr) (k c : Nat) : (evC op n m who A k c).all (·.oneCell') = true := by
  simp [evC, Value.oneCell']
theorem Reads.one {B d : Nat} {w : World} {cs : Array Value} {t : ET} (h : Reads B w d cs t) : cs.all (·.oneCell') = true := by
  obtain ⟨A, c, rfl, _⟩ := h.shape
  exact ev_one _ _ _ _ _ _ _
abbrev zeroE : Array Value := #[.int .i64 0, .int .i64 0, .int .i64 0, .int .i64 0, .slice none 0 0]
/-- A new box with an effect in it. -/
theorem ev_box (wr : World) {xs : Array Value} : ∃ w3, w3 = (wr.alloc (.cells zeroE 65)).setRow wr.heap.size xs ∧ EvAt w3 wr.heap.size xs ∧ Below wr.heap.size wr w3 := by
  refine ⟨_, rfl, ?_, below_setRow ((Below.refl _ _).alloc (Nat.le_refl _) _) _ _ (Nat.le_refl _)⟩
  unfold EvAt
  exact setRow_heap _ _ _ _ _ _ (heap_alloc_new _ _)
end Go.Proofs.YtplfblccaeligaaDoor
