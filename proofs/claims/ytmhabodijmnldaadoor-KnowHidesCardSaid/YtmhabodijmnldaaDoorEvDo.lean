/- Layer 12: what event's calls answer: plain facts. -/
import Derived.Test.YtmhabodijmnldaaDoorEvAp
import Derived.Test.YtmhabodijmnldaaDoorWireMath
import Derived.Test.YtmhabodijmnldaaDoorErr
namespace Go.Proofs.YtmhabodijmnldaaDoor
open Go.RowKit Ex Wx
set_option maxRecDepth 100000
/-- An event's six numbers, its bytes; with which event bytes begin. -/
def numsE (e : EvT) : List Int := [e.k, e.a, e.b, e.c, e.d, e.e]
def bytesE (e : EvT) : List Int := (numsE e).flatMap bts
def ofN (x : List Int) : EvT := ⟨x.getD 0 0, x.getD 1 0, x.getD 2 0, x.getD 3 0, x.getD 4 0, x.getD 5 0⟩
def parseE (l : List Int) : EvT × Int :=
  if (more 6 l 0 []).2.2 ≠ 0 then (ev0, (more 6 l 0 []).2.2)
  else if (more 6 l 0 []).2.1 < l.length then (ev0, 3)
  else if chkE (ofN (more 6 l 0 []).1) ≠ 0 then (ev0, chkE (ofN (more 6 l 0 []).1))
  else (ofN (more 6 l 0 []).1, 0)
/-- The state that Do leaves. -/
def doS (s : StT) (e : EvT) : StT := if (applyS s e).2 = 0 then (applyS s e).1 else s
/-- What Apply answers; Do. -/
def EvAP (w : World) (s : StT) (e : EvT) (en : Ending) (w' : World) : Prop :=
  ∃ cs O L, en = .returned (.tuple #[.agg cs, errV (applyS s e).2]) ∧ ReadsS w'.heap.size w' cs (applyS s e).1 O L ∧ OwnS w' w.heap.size (applyS s e).1 O L ∧ Below w.heap.size w w'
/-- Nothing of what stood is turned but one block. -/
structure Stay (g : Nat) (w w' : World) : Prop where
  os : w'.os = w.os
  tape : w'.tape = w.tape
  output : w'.output = w.output
  size : w.heap.size ≤ w'.heap.size
  block : ∀ k, k < w.heap.size → k ≠ g → w'.heap[k]? = w.heap[k]?
theorem Stay.refl (g : Nat) (w : World) : Stay g w w := ⟨rfl, rfl, rfl, Nat.le_refl _, fun _ _ _ => rfl⟩
theorem Stay.trans {g : Nat} {w w' w'' : World} (h : Stay g w w') (h2 : Stay g w' w'') : Stay g w w'' :=
  ⟨h2.os.trans h.os, h2.tape.trans h.tape, h2.output.trans h.output, Nat.le_trans h.size h2.size, fun k hk hn => (h2.block k (Nat.lt_of_lt_of_le hk h.size) hn).trans (h.block k hk hn)⟩
theorem Stay.of {g : Nat} {w w' : World} (h : Below w.heap.size w w') : Stay g w w' := ⟨h.os, h.tape, h.output, h.size, fun k hk _ => h.block k hk⟩
theorem Stay.set_ {g : Nat} {w w' : World} (h : Stay g w w') (i : Nat) (v : Value) : Stay g w (w'.setCell ⟨g, i, none⟩ v) :=
  ⟨h.os, h.tape, h.output, by simpa using h.size, fun k hk hn => (heap_setCell_other w' ⟨g, i, none⟩ k v (by simpa using hn)).trans (h.block k hk hn)⟩
theorem Stay.below {g : Nat} {w w' : World} (h : Stay g w w') {b : Nat} (hb : b ≤ w.heap.size) (hg : b ≤ g) : Below b w w' :=
  ⟨h.os, h.tape, h.output, h.size, fun k hk => h.block k (by omega) (by omega)⟩
/-- Nothing of what stood is turned but one block, and blocks below a bound and below that block. -/
structure StayX (B g : Nat) (w w' : World) : Prop where
  size : w.heap.size ≤ w'.heap.size
  block : ∀ k, k < w.heap.size → k ≠ g → B ≤ k ∨ g < k → w'.heap[k]? = w.heap[k]?
theorem StayX.refl (B g : Nat) (w : World) : StayX B g w w := ⟨Nat.le_refl _, fun _ _ _ _ => rfl⟩
theorem StayX.trans {B g : Nat} {w w' w'' : World} (h : StayX B g w w') (h2 : StayX B g w' w'') : StayX B g w w'' :=
  ⟨Nat.le_trans h.size h2.size, fun k hk hn hb => (h2.block k (Nat.lt_of_lt_of_le hk h.size) hn hb).trans (h.block k hk hn hb)⟩
theorem Stay.x {B g : Nat} {w w' : World} (h : Stay g w w') : StayX B g w w' := ⟨h.size, fun k hk hn _ => h.block k hk hn⟩
/-- A state that reads so, whatever becomes of one block, and of blocks below a bound and below that block. -/
def ReadsX (B g : Nat) (w : World) (cs : Array Value) (s : StT) (O : SlT) (L : Nat → SlT) : Prop := ∀ w', StayX B g w w' → ReadsS w'.heap.size w' cs s O L
section
variable {B : Nat}
theorem ReadsX.stayx {g : Nat} {w w' : World} {cs : Array Value} {s : StT} {O : SlT} {L : Nat → SlT} (h : ReadsX B g w cs s O L) (hs : StayX B g w w') : ReadsX B g w' cs s O L := fun _ h2 => h _ (hs.trans h2)
theorem ReadsX.stay {g : Nat} {w w' : World} {cs : Array Value} {s : StT} {O : SlT} {L : Nat → SlT} (h : ReadsX B g w cs s O L) (hs : Stay g w w') : ReadsX B g w' cs s O L := h.stayx hs.x
theorem ReadsX.now {g : Nat} {w : World} {cs : Array Value} {s : StT} {O : SlT} {L : Nat → SlT} (h : ReadsX B g w cs s O L) : ReadsS w.heap.size w cs s O L := h w (StayX.refl B g w)
end
theorem ReadsX.of {g B : Nat} {w : World} {cs : Array Value} {s : StT} {O : SlT} {L : Nat → SlT} (h : ReadsS B w cs s O L) (hg : B ≤ g) (hB : B ≤ w.heap.size) : ReadsX 0 g w cs s O L := fun w' hs => by
  have hb : ∀ k, k < B → w'.heap[k]? = w.heap[k]? := fun k hk => hs.block k (by omega) (by omega) (.inl (Nat.zero_le _))
  refine ⟨h.cs, h.on, h.oc, h.om, fun i o hi => ?_, fun z hz => ?_, h.lc, h.ow, h.lw, h.pw, h.gw⟩
  · obtain ⟨b, off, h1, h2, h3⟩ := h.o i o hi
    exact ⟨b, off, h1, by have := hs.size; omega, fun j v hv => (World.cell?_of_block (hb b h2)).trans (h3 j v hv)⟩
  · refine ⟨(h.l z hz).1, fun j u hu => ?_⟩
    obtain ⟨a, ea, h1, h2⟩ := (h.l z hz).2 j u hu
    exact ⟨a, ea, by have := hs.size; omega, (World.cell?_of_block (by rw [addr_block]; exact hb _ h1)).trans h2⟩
/-- What Do answers of the state in box g. -/
def EvDP (B : Nat) (w : World) (g : Nat) (s : StT) (e : EvT) (en : Ending) (w' : World) : Prop :=
  ∃ O L, en = .returned (errV (applyS s e).2) ∧ StAt w' g (stC O L (doS s e).pl (doS s e).gm) ∧ ReadsX B g w' (stC O L (doS s e).pl (doS s e).gm) (doS s e) O L ∧ Stay g w w'
end Go.Proofs.YtmhabodijmnldaaDoor
