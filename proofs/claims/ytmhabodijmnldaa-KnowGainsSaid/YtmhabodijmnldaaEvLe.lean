/- Layer 12: an event's box, loaded whole. -/
import Derived.Test.YtmhabodijmnldaaEvInv
namespace Go.Proofs.Ytmhabodijmnldaa
open Go.RowKit Ex
set_option maxRecDepth 100000
theorem yields_ev2 {ops : Array Oper} {S : World → Prop} {o : Oper} {a : Act} (hg : Region.wanted o (yielded ops a.tmps) = true) (x : Operand) (ho : o.op = .load 44 x) (g : Nat) (hx : a.eval x = .pointer (some ⟨g, 0, none⟩)) (cs : Array Value)
    (hS : ∀ w, S w → w.heap[g]? = some (.cells cs 44 (0, 0))) (hi : (Try.prog.info? 44).map (·.size) = some cs.size) : YieldsIf Try.prog ops S o (.agg cs) a :=
  Or.inl ⟨hg, fun w hw => by
    unfold execOp
    simp only [ho, hx, Instr.loadAt, Instr.sureAddr, Sem.run_bind, Sem.run_pure, Result.andThen_ok, run_loadVar_row w g 44 44 cs (0, 0) _ (hS w hw) Try.underlying44 rfl hi]⟩
theorem load_ev {ops : Array Oper} {rest : List Oper} {op : Oper} {a : Act} {w : World} {Q : Exit → Act → World → Prop} (hw : Region.wanted op (yielded ops a.tmps) = true) (x : Operand) (ho : op.op = .load 44 x)
    (g : Nat) (hx : a.eval x = .pointer (some ⟨g, 0, none⟩)) (e : EvT) (h : EvB w g e)
    (hK : wpList Try.prog ops Q rest (a.put op.dst (evV e)) w) : wpList Try.prog ops Q (op :: rest) a w := by
  refine BigFrame.wpList_want hw fun _ hK' => wp_load_row 44 x ho g hx 44 (evC e) (0, 0) _ h Try.underlying44 rfl (ev_size e) (hK' _ _ hK)
theorem yields_evb {ops : Array Oper} {S : World → Prop} {o : Oper} {a : Act} (hg : Region.wanted o (yielded ops a.tmps) = true) (x : Operand) (ho : o.op = .load 44 x) (g : Nat) (hx : a.eval x = .pointer (some ⟨g, 0, none⟩)) (e : EvT)
    (hS : ∀ w, S w → EvB w g e) : YieldsIf Try.prog ops S o (evV e) a := yields_ev2 hg x ho g hx (evC e) hS (ev_size e)
theorem eql_ev (x : EvT) (W : World) : (binOp .eql 44 (evV x) (evV x)).run Try.prog W = .ok (.bool true) W := by
  obtain ⟨k, a, b, c, d, f⟩ := x
  unfold evV
  go_simp
theorem neq_ev (x : EvT) (W : World) : (binOp .neq 44 (evV x) (evV x)).run Try.prog W = .ok (.bool false) W := by
  obtain ⟨k, a, b, c, d, f⟩ := x
  unfold evV
  go_simp
end Go.Proofs.Ytmhabodijmnldaa
