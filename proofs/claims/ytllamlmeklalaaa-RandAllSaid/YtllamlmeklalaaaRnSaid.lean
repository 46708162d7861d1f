/- Layer 16: what rand's calls answer, as one statement. -/
import Derived.Test.YtllamlmeklalaaaRnMath
import Derived.Test.YtllamlmeklalaaaSl
import Derived.Test.YtllamlmeklalaaaErr
import Derived.Test.YtllamlmeklalaaaGen
namespace Go.Proofs.Ytllamlmeklalaaa
open Go.RowKit
set_option maxRecDepth 100000
/-- A list in new memory, two more answers. -/
def OrdP (w : World) (q : List Int × Int × Int) (en : Ending) (w' : World) : Prop :=
  ∃ A n c, en = .returned (.tuple #[.slice A n c, .int .i64 q.2.1, errV q.2.2]) ∧ n ≤ c ∧ Nums .i64 w' w'.heap.size A n q.1 ∧ Below w.heap.size w w'
structure RnSaid (z : World) : Prop where
  check : ∀ (A : Option Addr) (n c : Nat) (l : List Int) (w : World), Nums .i64 w w.heap.size A n l → n ≤ c → n ≤ 5000 → Below z.heap.size z w →
    Calls Try.prog 13 #[.slice A n c] w fun en w' => en = .returned (errV (if 4096 < l.length then 19 else 0)) ∧ Below w.heap.size w w'
  pick : ∀ (A : Option Addr) (n c : Nat) (l : List Int) (cur m : Int) (w : World), Nums .i64 w w.heap.size A n l → n ≤ c → n ≤ 5000 → (∀ x ∈ l, N64 x) → N64 cur → N64 m → Below z.heap.size z w →
    Calls Try.prog 8 #[.slice A n c, .int .i64 cur, .int .i64 m] w fun en w' => en = .returned (.tuple #[.int .i64 (pickD l cur m).1, .int .i64 (pickD l cur m).2.1, errV (pickD l cur m).2.2]) ∧ Below w.heap.size w w'
  order : ∀ (A : Option Addr) (n c : Nat) (l : List Int) (cur m : Int) (w : World), Nums .i64 w w.heap.size A n l → n ≤ c → n ≤ 5000 → (∀ x ∈ l, N64 x) → N64 cur → N64 m → Below z.heap.size z w →
    Calls Try.prog 14 #[.slice A n c, .int .i64 cur, .int .i64 m] w (OrdP w (ordD l cur m))
  left : ∀ (A : Option Addr) (n c : Nat) (l : List Int) (cur : Int) (w : World), Nums .i64 w w.heap.size A n l → n ≤ c → n ≤ 5000 → N64 cur → Below z.heap.size z w →
    Calls Try.prog 11 #[.slice A n c, .int .i64 cur] w fun en w' => en = .returned (.int .i64 (leftD l cur)) ∧ Below w.heap.size w w'
  needs : ∀ (m : Int) (w : World), N64 m → Below z.heap.size z w → Calls Try.prog 12 #[.int .i64 m] w fun en w' => en = .returned (.int .i64 (needD m)) ∧ Below w.heap.size w w'
end Go.Proofs.Ytllamlmeklalaaa
