/- Layer 12: boxes that hold a state, an event: what stands in them; an event's box, loaded whole. -/
import Derived.Test.YtmhabodijmnldaaDoorEvDo
import Derived.Test.YtmhabodijmnldaaDoorEvLe
namespace Go.Proofs.YtmhabodijmnldaaDoor
open Go.RowKit Ex
set_option maxRecDepth 100000
/-- The arguments' boxes. -/
structure LW (w : World) (gs ge : Nat) (cs : Array Value) (e : EvT) (W : World) : Prop where
  b : Below w.heap.size w W
  s : StAt W gs cs
  e : EvB W ge e
theorem LW.keep {w W W' : World} {gs ge : Nat} {cs : Array Value} {e : EvT} (h : LW w gs ge cs e W) (hb : Below W.heap.size W W') : LW w gs ge cs e W' := ⟨keepB hb h.b, h.s.keep hb, h.e.keep hb⟩
/-- A state in its box: how it reads. -/
structure BW (g : Nat) (cs : Array Value) (s : StT) (O : SlT) (L : Nat → SlT) (W : World) : Prop where
  a : StAt W g cs
  r : ReadsS g W cs s O L
theorem BW.keep {W W' : World} {g : Nat} {cs : Array Value} {s : StT} {O : SlT} {L : Nat → SlT} (h : BW g cs s O L W) (hb : Below W.heap.size W W') : BW g cs s O L W' := ⟨h.a.keep hb, h.r.below (hb.mono (Nat.le_of_lt h.a.lt))⟩
theorem BW.reads {W : World} {g : Nat} {cs : Array Value} {s : StT} {O : SlT} {L : Nat → SlT} (h : BW g cs s O L W) : ReadsS W.heap.size W cs s O L := h.r.more (Nat.le_of_lt h.a.lt)
theorem BW.new {W W' : World} {cs : Array Value} {s : StT} {O : SlT} {L : Nat → SlT} (h : ReadsS W.heap.size W cs s O L) (ha : StAt W' W.heap.size cs) (hb : Below W.heap.size W W') : BW W.heap.size cs s O L W' := ⟨ha, h.below hb⟩
/-- What becomes of a box that another one's turning doesn't touch. -/
theorem BW.stay {W W' : World} {g k : Nat} {cs : Array Value} {s : StT} {O : SlT} {L : Nat → SlT} (h : BW g cs s O L W) (hs : Stay k W W') (hg : g < k) : BW g cs s O L W' :=
  ⟨(hs.block g h.a.lt (by omega)).trans h.a, h.r.below (hs.below (Nat.le_of_lt h.a.lt) (by omega))⟩
end Go.Proofs.YtmhabodijmnldaaDoor
