/- Layer 15: what Known and Loses answer. -/
import Derived.Test.YtmhabodijmnldaaKwSaid
namespace Go.Proofs.Ytmhabodijmnldaa
open Go.RowKit Ex
set_option maxRecDepth 100000
/-- A list of numbers that is answered. -/
def KwIP (w : World) (l : List Int) (en : Ending) (w' : World) : Prop := ∃ A n c, en = .returned (.slice A n c) ∧ n ≤ c ∧ Nums .i64 w' w'.heap.size A n l ∧ Below w.heap.size w w'
structure KwSaid2 (z : World) : Prop where
  known : ∀ (s : StT) (O : SlT) (L : Nat → SlT) (cs : Array Value) (p : Int) (w : World), ReadsS w.heap.size w cs s O L → s.objs.length ≤ 1000 → (∀ z < 11, (s.lists z).length ≤ 1000) → N64 p → Below z.heap.size z w →
    Calls Try.prog 10 #[.agg cs, .int .i64 p] w (KwIP w (knownK p 0 s.objs))
  loses : ∀ (e : EvT) (w : World), EvI e → Below z.heap.size z w → Calls Try.prog 19 #[evV e] w fun en w' => en = .returned (.bool (losesE e)) ∧ Below w.heap.size w w'
end Go.Proofs.Ytmhabodijmnldaa
