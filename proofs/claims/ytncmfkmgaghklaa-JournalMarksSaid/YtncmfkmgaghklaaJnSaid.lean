/- Layer 14: what journal's calls answer, as one statement: the laws' walks take it, the code's walks prove it. A journal is told by what it holds and by the blocks that are its own. -/
import Derived.Test.YtncmfkmgaghklaaJnMath
import Derived.Test.YtncmfkmgaghklaaNtEv
import Derived.Test.YtncmfkmgaghklaaErr
namespace Go.Proofs.Ytncmfkmgaghklaa
open Go.RowKit Ex
set_option maxRecDepth 100000
/-- Nothing of what stood is turned but some blocks. -/
structure Foot (F : Nat → Prop) (w w' : World) : Prop where
  os : w'.os = w.os
  tape : w'.tape = w.tape
  output : w'.output = w.output
  size : w.heap.size ≤ w'.heap.size
  block : ∀ k, k < w.heap.size → ¬ F k → w'.heap[k]? = w.heap[k]?
theorem Foot.below {F : Nat → Prop} {w w' : World} {b : Nat} (h : Foot F w w') (hb : b ≤ w.heap.size) (hF : ∀ k, F k → b ≤ k) : Below b w w' :=
  ⟨h.os, h.tape, h.output, h.size, fun k hk => h.block k (by omega) fun hf => by have := hF k hf; omega⟩
theorem Foot.of {F : Nat → Prop} {w w' : World} (h : Below w.heap.size w w') : Foot F w w' := ⟨h.os, h.tape, h.output, h.size, fun k hk _ => h.block k hk⟩
/-- How a journal lies in memory: told by the code. -/
structure JRep where
  R : World → Nat → JT → (Nat → Prop) → Prop
  lt : ∀ {w : World} {p : Nat} {j : JT} {F : Nat → Prop} {k : Nat}, R w p j F → F k → k < w.heap.size
  stay : ∀ {w w' : World} {p : Nat} {j : JT} {F : Nat → Prop}, R w p j F → w.heap.size ≤ w'.heap.size → (∀ k, F k → w'.heap[k]? = w.heap[k]?) → R w' p j F
/-- A journal that is its own: behind a call it holds this, in old and new blocks. -/
def JP (T : JRep) (w : World) (p : Nat) (F : Nat → Prop) (j : JT) (w' : World) : Prop := ∃ F', T.R w' p j F' ∧ (∀ k, F' k → F k ∨ w.heap.size ≤ k) ∧ Foot F w w'
def ptrV (p : Nat) : Value := .pointer (some ⟨p, 0, none⟩)
/-- A list of numbers that is answered. -/
def IntsP (w : World) (l : List Int) (en : Ending) (w' : World) : Prop := ∃ A n c, en = .returned (.slice A n c) ∧ n ≤ c ∧ Nums .i64 w' w'.heap.size A n l ∧ Below w.heap.size w w'
structure JnSaid (T : JRep) (z : World) : Prop where
  new : ∀ w, Below z.heap.size z w → Calls Try.prog 9 #[] w fun en w' => ∃ p F, en = .returned (ptrV p) ∧ T.R w' p j0 F ∧ (∀ k, F k → w.heap.size ≤ k) ∧ Below w.heap.size w w'
  add : ∀ (p : Nat) (j : JT) (F : Nat → Prop) (A : Option Addr) (n c : Nat) (l : List EvT) (w : World), T.R w p j F → JOk j → Evs w.heap.size w A n l → n ≤ c → c ≤ maxLen → (∀ k, F k → z.heap.size ≤ k) → Below z.heap.size z w →
    Calls Try.prog 13 #[ptrV p, .slice A n c] w fun en w' => en = .returned (errV (addE j l)) ∧ JP T w p F (addJ j l) w'
  mark : ∀ (p : Nat) (j : JT) (F : Nat → Prop) (w : World), T.R w p j F → JOk j → j.last ≤ 1000000 → (∀ k, F k → z.heap.size ≤ k) → Below z.heap.size z w →
    Calls Try.prog 15 #[ptrV p] w fun en w' => en = .returned (.int .i64 (j.last + 1)) ∧ JP T w p F (markJ j) w'
  live : ∀ (p : Nat) (j : JT) (F : Nat → Prop) (c : Int) (w : World), T.R w p j F → JOk j → N64 c → Below z.heap.size z w →
    Calls Try.prog 30 #[ptrV p, .int .i64 c] w fun en w' => en = .returned (.bool (liveJ j c)) ∧ Below w.heap.size w w'
  span : ∀ (p : Nat) (j : JT) (F : Nat → Prop) (c : Int) (w : World), T.R w p j F → JOk j → N64 c → Below z.heap.size z w →
    Calls Try.prog 27 #[ptrV p, .int .i64 c] w fun en w' => ∃ A n cc, en = .returned (.tuple #[.slice A n cc, errV (deadJ j c)]) ∧ n ≤ cc ∧ Evs w'.heap.size w' A n (spanJ j c) ∧ Below w.heap.size w w'
  back : ∀ (p : Nat) (j : JT) (F : Nat → Prop) (c : Int) (w : World), T.R w p j F → JOk j → N64 c → (∀ k, F k → z.heap.size ≤ k) → Below z.heap.size z w →
    Calls Try.prog 18 #[ptrV p, .int .i64 c] w fun en w' => (∃ A n cc, en = .returned (.tuple #[.slice A n cc, errV (deadJ j c)]) ∧ n ≤ cc ∧ Evs w'.heap.size w' A n (invL (spanJ j c))) ∧ JP T w p F (backJ j c) w'
  fold : ∀ (p : Nat) (j : JT) (F : Nat → Prop) (c : Int) (w : World), T.R w p j F → JOk j → N64 c → (∀ k, F k → z.heap.size ≤ k) → Below z.heap.size z w →
    Calls Try.prog 17 #[ptrV p, .int .i64 c] w fun en w' => en = .returned (errV (deadJ j c)) ∧ JP T w p F (foldJ j c) w'
  len : ∀ (p : Nat) (j : JT) (F : Nat → Prop) (w : World), T.R w p j F → JOk j → Below z.heap.size z w →
    Calls Try.prog 28 #[ptrV p] w fun en w' => en = .returned (.int .i64 (j.ev.length : Int)) ∧ Below w.heap.size w w'
  marks : ∀ (p : Nat) (j : JT) (F : Nat → Prop) (w : World), T.R w p j F → JOk j → j.ms.length ≤ 1000 → Below z.heap.size z w →
    Calls Try.prog 31 #[ptrV p] w (IntsP w (numsJ j))
  next : ∀ (p : Nat) (j : JT) (F : Nat → Prop) (w : World), T.R w p j F → JOk j → j.last ≤ 1000000 → Below z.heap.size z w →
    Calls Try.prog 29 #[ptrV p] w fun en w' => en = .returned (.int .i64 (j.last + 1)) ∧ Below w.heap.size w w'
  copy : ∀ (p : Nat) (j : JT) (F : Nat → Prop) (w : World), T.R w p j F → JOk j → j.ms.length ≤ 1000 → Below z.heap.size z w →
    Calls Try.prog 25 #[ptrV p] w fun en w' => ∃ p' F', en = .returned (ptrV p') ∧ T.R w' p' j F' ∧ (∀ k, F' k → w.heap.size ≤ k) ∧ Below w.heap.size w w'
/-- What a nil journal answers. -/
structure JnNil (z : World) : Prop where
  add : ∀ (A : Option Addr) (n c : Nat) (l : List EvT) (w : World), Evs w.heap.size w A n l → n ≤ c → n ≤ 1000 → Below z.heap.size z w → Calls Try.prog 13 #[.pointer none, .slice A n c] w fun en w' => en = .returned (errV 4) ∧ Below w.heap.size w w'
  mark : ∀ w, Below z.heap.size z w → Calls Try.prog 15 #[.pointer none] w fun en w' => en = .returned (.int .i64 0) ∧ Below w.heap.size w w'
  live : ∀ (c : Int) (w : World), N64 c → Below z.heap.size z w → Calls Try.prog 30 #[.pointer none, .int .i64 c] w fun en w' => en = .returned (.bool false) ∧ Below w.heap.size w w'
  span : ∀ (c : Int) (w : World), N64 c → Below z.heap.size z w → Calls Try.prog 27 #[.pointer none, .int .i64 c] w fun en w' => ∃ A cc, en = .returned (.tuple #[.slice A 0 cc, errV 16]) ∧ Below w.heap.size w w'
  back : ∀ (c : Int) (w : World), N64 c → Below z.heap.size z w → Calls Try.prog 18 #[.pointer none, .int .i64 c] w fun en w' => ∃ A cc, en = .returned (.tuple #[.slice A 0 cc, errV 16]) ∧ Below w.heap.size w w'
  fold : ∀ (c : Int) (w : World), N64 c → Below z.heap.size z w → Calls Try.prog 17 #[.pointer none, .int .i64 c] w fun en w' => en = .returned (errV 16) ∧ Below w.heap.size w w'
  len : ∀ w, Below z.heap.size z w → Calls Try.prog 28 #[.pointer none] w fun en w' => en = .returned (.int .i64 0) ∧ Below w.heap.size w w'
  marks : ∀ w, Below z.heap.size z w → Calls Try.prog 31 #[.pointer none] w fun en w' => ∃ A cc, en = .returned (.slice A 0 cc) ∧ Below w.heap.size w w'
  next : ∀ w, Below z.heap.size z w → Calls Try.prog 29 #[.pointer none] w fun en w' => en = .returned (.int .i64 0) ∧ Below w.heap.size w w'
  copy : ∀ w, Below z.heap.size z w → Calls Try.prog 25 #[.pointer none] w fun en w' => en = .returned (.pointer none) ∧ Below w.heap.size w w'
end Go.Proofs.Ytncmfkmgaghklaa
