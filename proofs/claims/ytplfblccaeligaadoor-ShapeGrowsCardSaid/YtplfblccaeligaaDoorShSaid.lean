/- Layer 17: what shape's calls answer. -/
import Derived.Test.YtplfblccaeligaaDoorShOfM
import Derived.Test.YtplfblccaeligaaDoorShG3
import Derived.Test.YtplfblccaeligaaDoorErr
namespace Go.Proofs.YtplfblccaeligaaDoor
open Go.RowKit Ex Mx
set_option maxRecDepth 100000
def zsh : Int × Int × Nat := (0, 0, 0)
def ofE (s : StT) (id : Int) : Int := if chkS s ≠ 0 then chkS s else if isB s id = true then 0 else 4
def ofT (s : StT) (id : Int) : Int × Int × Nat := if ofE s id = 0 then ofS s id else zsh
def leftT (s : StT) (id : Int) : Int := if ofE s id = 0 then (ofS s id).2.1 - objS s id 6 else 0
def isT (s : StT) (id : Int) : Bool := decide (chkS s = 0) && isB s id
/-- All bits of a word from 1 to 255 in words. -/
def hasT (s : StT) (id word : Int) : Bool := isT s id && decide (1 ≤ word) && decide (word ≤ 255) && ((List.range 8).all fun i => !(word.toNat.testBit i) || (ofS s id).2.2.testBit i)
def beastT (s : StT) (p : Int) : List Int := if chkS s = 0 then beastS s p else []
def statT (s : StT) : Nat := if chkS s = 0 then (statS s).length else 0
theorem ofE_0 {s : StT} {id : Int} : ofE s id = 0 ↔ isT s id = true := by
  unfold ofE isT
  by_cases h : chkS s = 0
  · cases hb : isB s id <;> simp [h]
  · simp [h]
/-- A list of numbers that is answered. -/
def ShIP (w : World) (l : List Int) (en : Ending) (w' : World) : Prop := ∃ A n c, en = .returned (.slice A n c) ∧ n ≤ c ∧ Nums .i64 w' w'.heap.size A n l ∧ Below w.heap.size w w'
structure ShSaid (z : World) : Prop where
  of_ : ∀ (s : StT) (O : SlT) (L : Nat → SlT) (cs : Array Value) (id : Int) (w : World), ReadsS w.heap.size w cs s O L → s.objs.length ≤ 1000 → (∀ z < 11, (s.lists z).length ≤ 1000) → N64 id → Below z.heap.size z w →
    Calls Tryd.prog 12 #[.agg cs, .int .i64 id] w fun en w' => en = .returned (.tuple #[.agg (shV (ofT s id)), errV (ofE s id)]) ∧ Below w.heap.size w w'
  left : ∀ (s : StT) (O : SlT) (L : Nat → SlT) (cs : Array Value) (id : Int) (w : World), ReadsS w.heap.size w cs s O L → s.objs.length ≤ 1000 → (∀ z < 11, (s.lists z).length ≤ 1000) → N64 id → Below z.heap.size z w →
    Calls Tryd.prog 13 #[.agg cs, .int .i64 id] w fun en w' => en = .returned (.tuple #[.int .i64 (leftT s id), errV (ofE s id)]) ∧ Below w.heap.size w w'
  is_ : ∀ (s : StT) (O : SlT) (L : Nat → SlT) (cs : Array Value) (id : Int) (w : World), ReadsS w.heap.size w cs s O L → s.objs.length ≤ 1000 → (∀ z < 11, (s.lists z).length ≤ 1000) → N64 id → Below z.heap.size z w →
    Calls Tryd.prog 15 #[.agg cs, .int .i64 id] w fun en w' => en = .returned (.bool (isT s id)) ∧ Below w.heap.size w w'
  has : ∀ (s : StT) (O : SlT) (L : Nat → SlT) (cs : Array Value) (id word : Int) (w : World), ReadsS w.heap.size w cs s O L → s.objs.length ≤ 1000 → (∀ z < 11, (s.lists z).length ≤ 1000) → N64 id → N64 word → Below z.heap.size z w →
    Calls Tryd.prog 16 #[.agg cs, .int .i64 id, .int .i64 word] w fun en w' => en = .returned (.bool (hasT s id word)) ∧ Below w.heap.size w w'
  beasts : ∀ (s : StT) (O : SlT) (L : Nat → SlT) (cs : Array Value) (p : Int) (w : World), ReadsS w.heap.size w cs s O L → s.objs.length ≤ 1000 → (∀ z < 11, (s.lists z).length ≤ 1000) → N64 p → Below z.heap.size z w →
    Calls Tryd.prog 17 #[.agg cs, .int .i64 p] w (ShIP w (beastT s p))
  statics : ∀ (s : StT) (O : SlT) (L : Nat → SlT) (cs : Array Value) (w : World), ReadsS w.heap.size w cs s O L → s.objs.length ≤ 1000 → (∀ z < 11, (s.lists z).length ≤ 1000) → Below z.heap.size z w →
    Calls Tryd.prog 18 #[.agg cs] w fun en w' => en = .returned (.int .i64 (statT s : Nat)) ∧ Below w.heap.size w w'
end Go.Proofs.YtplfblccaeligaaDoor
