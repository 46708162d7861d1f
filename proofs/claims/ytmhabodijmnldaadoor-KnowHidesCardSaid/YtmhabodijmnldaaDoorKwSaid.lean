/- Layer 15: what six of know's calls answer, as one statement: the laws' walks take it, the code's walks prove it. Sees stands by itself in KwSees. -/
import Derived.Test.YtmhabodijmnldaaDoorKwMath
import Derived.Test.YtmhabodijmnldaaDoorNtEvP
import Derived.Test.YtmhabodijmnldaaDoorStArg
namespace Go.Proofs.YtmhabodijmnldaaDoor
open Go.RowKit Ex
set_option maxRecDepth 100000

structure KwSaid (z : World) : Prop where
  knows : ∀ (o : Nat → Int) (p : Int) (w : World), (∀ i < 18, N64 (o i)) → N64 p → Below z.heap.size z w → Calls Tryd.prog 16 #[.agg (arr .i64 18 o), .int .i64 p] w fun en w' => en = .returned (.bool (bitK (o 17) p)) ∧ Below w.heap.size w w'
  zone : ∀ (k : Int) (w : World), N64 k → Below z.heap.size z w → Calls Tryd.prog 20 #[.int .i64 k] w fun en w' => en = .returned (.int .i64 (zoneK k)) ∧ Below w.heap.size w w'
  show_ : ∀ (s : StT) (O : SlT) (L : Nat → SlT) (cs : Array Value) (id ps : Int) (w : World), ReadsS w.heap.size w cs s O L → s.objs.length ≤ 1000 → (∀ z < 11, (s.lists z).length ≤ 1000) → N64 id → N64 ps → Below z.heap.size z w →
    Calls Tryd.prog 14 #[.agg cs, .int .i64 id, .int .i64 ps] w (EvsP w (showE s.objs id ps true))
  hide : ∀ (s : StT) (O : SlT) (L : Nat → SlT) (cs : Array Value) (id ps : Int) (w : World), ReadsS w.heap.size w cs s O L → s.objs.length ≤ 1000 → (∀ z < 11, (s.lists z).length ≤ 1000) → N64 id → N64 ps → Below z.heap.size z w →
    Calls Tryd.prog 18 #[.agg cs, .int .i64 id, .int .i64 ps] w (EvsP w (showE s.objs id ps false))
  gains : ∀ (e : EvT) (w : World), EvI e → Below z.heap.size z w → Calls Tryd.prog 32 #[evV e] w fun en w' => en = .returned (.bool (gainsE e)) ∧ Below w.heap.size w w'
  gained : ∀ (A : Option Addr) (n c : Nat) (l : List EvT) (w : World), Evs w.heap.size w A n l → n ≤ c → n ≤ 1000 → Below z.heap.size z w → Calls Tryd.prog 15 #[.slice A n c] w fun en w' => en = .returned (.bool (l.any gainsE)) ∧ Below w.heap.size w w'
end Go.Proofs.YtmhabodijmnldaaDoor
