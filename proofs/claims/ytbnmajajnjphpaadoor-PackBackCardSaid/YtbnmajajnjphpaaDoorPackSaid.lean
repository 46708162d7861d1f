/- Layer 3: what pack's calls answer, as one statement: the laws' walks take it, the code's walks prove it. -/
import Derived.Test.YtbnmajajnjphpaaDoorPackObj
import Derived.Test.YtbnmajajnjphpaaDoorPackSpec
namespace Go.Proofs.YtbnmajajnjphpaaDoor
open Go.RowKit Px
/-- In every world that keeps what stands in z (a table of the code's, if it has one, stands there): what PackShorts' calls answer. -/
structure HeadSaid (z : World) : Prop where
  head : ∀ (o : Nat → Int) (w : World), (∀ i, i < 18 → -9223372036854775808 ≤ o i ∧ o i ≤ 9223372036854775807) → Below z.heap.size z w → Calls Tryd.prog 8 #[.agg (arr .i64 18 o)] w (HeadPost o .nilIface (.iface 54 (.int .i64 1)) w)
  short : ∀ (n : Int) (w : World), -9223372036854775808 ≤ n → n ≤ 9223372036854775807 → Below z.heap.size z w → Calls Tryd.prog 15 #[.int .i64 n] w fun e w' => e = .returned (.int .i16 (sat n)) ∧ Below w.heap.size w w'
  pair : ∀ (a b : Int) (w : World), -32768 ≤ a ∧ a ≤ 32767 → -32768 ≤ b ∧ b ≤ 32767 → Below z.heap.size z w → Calls Tryd.prog 16 #[.int .i16 a, .int .i16 b] w fun e w' => e = .returned (.int .u32 (pairV a b)) ∧ Below w.heap.size w w'
  halves : ∀ (x : Int) (w : World), 0 ≤ x → x < 4294967296 → Below z.heap.size z w → Calls Tryd.prog 17 #[.int .u32 x] w fun e w' => e = .returned (.tuple #[.int .i16 (sgn (x / 65536)), .int .i16 (sgn (x % 65536))]) ∧ Below w.heap.size w w'
/-- And those of the other laws. -/
structure PackSaid (z : World) : Prop extends HeadSaid z where
  rest : ∀ (o : Nat → Int) (w : World), Below z.heap.size z w → Calls Tryd.prog 11 #[.agg (arr .i64 18 o)] w fun e w' => e = .returned (.agg (arr .i64 9 (restF o))) ∧ Below w.heap.size w w'
  object : ∀ (x : Int) (r : Nat → Int) (w : World), 0 ≤ x → x < 4294967296 → Below z.heap.size z w → Calls Tryd.prog 13 #[.int .u32 x, .agg (arr .i64 9 r)] w (ROPost x r w .nilIface (.iface 54 (.int .i64 2)))
end Go.Proofs.YtbnmajajnjphpaaDoor
