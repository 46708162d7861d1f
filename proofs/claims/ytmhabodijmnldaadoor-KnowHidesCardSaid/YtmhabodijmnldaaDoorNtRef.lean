/- Layer 13: mulligannum's Events, of one list twice. -/
import Derived.Test.YtmhabodijmnldaaDoorNtEv
namespace Go.Proofs.YtmhabodijmnldaaDoor
open Go.RowKit Ex
set_option maxRecDepth 100000
theorem yields_evA {ops : Array Oper} {S : World → Prop} {op : Oper} {a : Act} (hw : Region.wanted op (yielded ops a.tmps) = true) (x : Operand) (ho : op.op = .load 53 x)
    (b o : Nat) (hx : a.eval x = .pointer (some ⟨b, o, none⟩)) (es : Array Value) (hs : (Tryd.prog.info? 53).map (·.size) = some es.size) (hS : ∀ w, S w → w.rangeAt b o es.toList) : YieldsIf Tryd.prog ops S op (.agg es) a := by
  have h := yieldsIf_load_mid (P := Tryd.prog) (S := S) hw 53 x ho b o hx es.toList _ hS Tryd.underlying53 rfl (by rw [Array.length_toList]; exact hs)
  rw [Array.toArray_toList] at h
  exact h
end Go.Proofs.YtmhabodijmnldaaDoor
