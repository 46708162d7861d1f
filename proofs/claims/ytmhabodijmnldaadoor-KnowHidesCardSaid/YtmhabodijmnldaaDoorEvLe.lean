/- Layer 12: an event's box, loaded whole. -/
import Derived.Test.YtmhabodijmnldaaDoorEvInv
namespace Go.Proofs.YtmhabodijmnldaaDoor
open Go.RowKit Ex
set_option maxRecDepth 100000
theorem yields_ev2 {ops : Array Oper} {S : World → Prop} {o : Oper} {a : Act} (hg : Region.wanted o (yielded ops a.tmps) = true) (x : Operand) (ho : o.op = .load 53 x) (g : Nat) (hx : a.eval x = .pointer (some ⟨g, 0, none⟩)) (cs : Array Value)
    (hS : ∀ w, S w → w.heap[g]? = some (.cells cs 53 (0, 0))) (hi : (Tryd.prog.info? 53).map (·.size) = some cs.size) : YieldsIf Tryd.prog ops S o (.agg cs) a :=
  Or.inl ⟨hg, fun w hw => by
    unfold execOp
    simp only [ho, hx, Instr.loadAt, Instr.sureAddr, Sem.run_bind, Sem.run_pure, Result.andThen_ok, run_loadVar_row w g 53 53 cs (0, 0) _ (hS w hw) Tryd.underlying53 rfl hi]⟩
theorem load_ev {ops : Array Oper} {rest : List Oper} {op : Oper} {a : Act} {w : World} {Q : Exit → Act → World → Prop} (hw : Region.wanted op (yielded ops a.tmps) = true) (x : Operand) (ho : op.op = .load 53 x)
    (g : Nat) (hx : a.eval x = .pointer (some ⟨g, 0, none⟩)) (e : EvT) (h : EvB w g e)
    (hK : wpList Tryd.prog ops Q rest (a.put op.dst (evV e)) w) : wpList Tryd.prog ops Q (op :: rest) a w := by
  refine BigFrame.wpList_want hw fun _ hK' => wp_load_row 53 x ho g hx 53 (evC e) (0, 0) _ h Tryd.underlying53 rfl (ev_size e) (hK' _ _ hK)
theorem yields_evb {ops : Array Oper} {S : World → Prop} {o : Oper} {a : Act} (hg : Region.wanted o (yielded ops a.tmps) = true) (x : Operand) (ho : o.op = .load 53 x) (g : Nat) (hx : a.eval x = .pointer (some ⟨g, 0, none⟩)) (e : EvT)
    (hS : ∀ w, S w → EvB w g e) : YieldsIf Tryd.prog ops S o (evV e) a := yields_ev2 hg x ho g hx (evC e) hS (ev_size e)
theorem eql_ev (x : EvT) (W : World) : (binOp .eql 53 (evV x) (evV x)).run Tryd.prog W = .ok (.bool true) W := by
  obtain ⟨k, a, b, c, d, f⟩ := x
  unfold evV
  go_simp
theorem neq_ev (x : EvT) (W : World) : (binOp .neq 53 (evV x) (evV x)).run Tryd.prog W = .ok (.bool false) W := by
  obtain ⟨k, a, b, c, d, f⟩ := x
  unfold evV
  go_simp
end Go.Proofs.YtmhabodijmnldaaDoor
