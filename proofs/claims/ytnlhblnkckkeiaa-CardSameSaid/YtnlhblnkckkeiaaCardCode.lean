/- Layer 7: the landed code answers as CardSaid says. -/
import Derived.Test.YtnlhblnkckkeiaaCardSaid
import Derived.Test.YtnlhblnkckkeiaaCardC3
import Derived.Test.YtnlhblnkckkeiaaCardC4
import Derived.Test.YtnlhblnkckkeiaaCardC5
namespace Go.Proofs.Ytnlhblnkckkeiaa
open Go.RowKit Ex Mx
theorem cardSaid (z : World) : CardSaid z where
  check := fun d c cs w hr hs _ => checkC_any d c cs w hr hs
  uses := fun d c cs wh w hr hs _ _ => (uses_any d c cs wh w hr (by have := hs.1; omega)).mono (by
    rintro e w' ⟨A, m, cc, rfl, hown, hb⟩
    exact ⟨A, m, cc, rfl, hown.nums, hown.cap, hb⟩)
  aims := fun d c cs w hr hs _ => aims_any d c cs w hr (by have := hs.1; omega)
  same := fun d c cs d' c' cs' w hr hr' hs _ _ => sameC_any d d' c c' cs cs' w hr hr' hs
  copy := fun d c cs w hr hs _ => copyC_any d c cs w hr hs
theorem effCheck (d : Nat) (t : ET) (cs : Array Value) (tg : Int) (w : World) (hr : Reads w.heap.size w d cs t) (hs : sizeT t ≤ 300) :
    Calls Try.prog 20 #[.agg cs, .int .i64 tg] w fun e w' => e = .returned (errV (chkTop t tg)) ∧ Below w.heap.size w w' := checkTop_any d t cs tg w hr hs
end Go.Proofs.Ytnlhblnkckkeiaa
