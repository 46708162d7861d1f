/- Layer 12: the laws' boxes: what stands in them. -/
import Derived.Test.YthedopnhhanknaaEvAlive
import Derived.Test.YthedopnhhanknaaEvG2
import Derived.Test.YthedopnhhanknaaStRef6
import Derived.Test.YthedopnhhanknaaStRef7
import Derived.Test.YthedopnhhanknaaEvApply
import Derived.Test.YthedopnhhanknaaIs
namespace Go.Proofs.Ythedopnhhanknaa
open Go.RowKit Ex
set_option maxRecDepth 100000
/-- The arguments' boxes. -/
structure LW (w : World) (gs ge : Nat) (cs : Array Value) (e : EvT) (W : World) : Prop where
  b : Below w.heap.size w W
  s : StAt W gs cs
  e : EvB W ge e
theorem LW.keep {w W W' : World} {gs ge : Nat} {cs : Array Value} {e : EvT} (h : LW w gs ge cs e W) (hb : Below W.heap.size W W') : LW w gs ge cs e W' := ⟨keepB hb h.b, h.s.keep hb, h.e.keep hb⟩
/-- A state in its box: how it reads. -/
structure BW (g : Nat) (cs : Array Value) (s : StT) (O : SlT) (L : Nat → SlT) (W : World) : Prop where
  a : StAt W g cs
  r : ReadsS g W cs s O L
theorem BW.keep {W W' : World} {g : Nat} {cs : Array Value} {s : StT} {O : SlT} {L : Nat → SlT} (h : BW g cs s O L W) (hb : Below W.heap.size W W') : BW g cs s O L W' := ⟨h.a.keep hb, h.r.below (hb.mono (Nat.le_of_lt h.a.lt))⟩
theorem BW.reads {W : World} {g : Nat} {cs : Array Value} {s : StT} {O : SlT} {L : Nat → SlT} (h : BW g cs s O L W) : ReadsS W.heap.size W cs s O L := h.r.more (Nat.le_of_lt h.a.lt)
theorem BW.new {W W' : World} {cs : Array Value} {s : StT} {O : SlT} {L : Nat → SlT} (h : ReadsS W.heap.size W cs s O L) (ha : StAt W' W.heap.size cs) (hb : Below W.heap.size W W') : BW W.heap.size cs s O L W' := ⟨ha, h.below hb⟩
/-- What becomes of a box that another one's turning doesn't touch. -/
theorem BW.stay {W W' : World} {g k : Nat} {cs : Array Value} {s : StT} {O : SlT} {L : Nat → SlT} (h : BW g cs s O L W) (hs : Stay k W W') (hg : g < k) : BW g cs s O L W' :=
  ⟨(hs.block g h.a.lt (by omega)).trans h.a, h.r.below (hs.below (Nat.le_of_lt h.a.lt) (by omega))⟩
theorem load_ev {ops : Array Oper} {rest : List Oper} {op : Oper} {a : Act} {w : World} {Q : Exit → Act → World → Prop} (hw : Region.wanted op (yielded ops a.tmps) = true) (x : Operand) (ho : op.op = .load 31 x)
    (g : Nat) (hx : a.eval x = .pointer (some ⟨g, 0, none⟩)) (e : EvT) (h : EvB w g e)
    (hK : wpList Try.prog ops Q rest (a.put op.dst (evV e)) w) : wpList Try.prog ops Q (op :: rest) a w := by
  refine BigFrame.wpList_want hw fun _ hK' => wp_load_row 31 x ho g hx 31 (evC e) (0, 0) _ h Try.underlying31 rfl (ev_size e) (hK' _ _ hK)
theorem yields_evb {ops : Array Oper} {S : World → Prop} {o : Oper} {a : Act} (hg : Region.wanted o (yielded ops a.tmps) = true) (x : Operand) (ho : o.op = .load 31 x) (g : Nat) (hx : a.eval x = .pointer (some ⟨g, 0, none⟩)) (e : EvT)
    (hS : ∀ w, S w → EvB w g e) : YieldsIf Try.prog ops S o (evV e) a := yields_ev2 hg x ho g hx (evC e) hS (ev_size e)
theorem eql_ev (x : EvT) (W : World) : (binOp .eql 31 (evV x) (evV x)).run Try.prog W = .ok (.bool true) W := by
  obtain ⟨k, a, b, c, d, f⟩ := x
  unfold evV
  go_simp
theorem neq_ev (x : EvT) (W : World) : (binOp .neq 31 (evV x) (evV x)).run Try.prog W = .ok (.bool false) W := by
  obtain ⟨k, a, b, c, d, f⟩ := x
  unfold evV
  go_simp
end Go.Proofs.Ythedopnhhanknaa
