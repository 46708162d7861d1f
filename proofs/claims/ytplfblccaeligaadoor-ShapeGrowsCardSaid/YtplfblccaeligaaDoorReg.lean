/- A region that draws its order, with calls that make memory: the condition on the world may be turned behind each call. -/
import Derived.Deep.RegionHeld3
import Derived.Below
namespace Go.Proofs.YtplfblccaeligaaDoor
open Go.RowKit
section
variable {P : Program} {md : Region.Mode} {ops : Array Oper} {Q : Exit → Act → World → Prop} {S T : World → Prop}
/-- What holds under a condition that says more holds under one that says less. -/
theorem anyH_mono (h : ∀ w, S w → T w) : ∀ (fuel : Nat) (listed : Array Bool) (a : Act) (w : World), wpAnyH P md ops Q S fuel listed a w → wpAnyH P md ops Q T fuel listed a w
  | 0, _, _, _, hh => hh
  | fuel + 1, _, _, _, hh => ⟨hh.1, fun i hi => wpOp_mono (fun a' w' h' => ⟨h _ h'.1, anyH_mono h fuel _ a' w' h'.2⟩) (hh.2 i hi)⟩
/-- Behind a call that leaves what was there: from now on nothing turns of what is there now. -/
theorem anyH_rebase {b : World} {fuel : Nat} {listed : Array Bool} {a : Act} {w : World} (hb : Below b.heap.size b w)
    (h : Below w.heap.size w w → wpAnyH P md ops Q (fun W => Below w.heap.size w W) fuel listed a w) : wpAnyH P md ops Q (fun W => Below b.heap.size b W) fuel listed a w :=
  anyH_mono (fun _ hW => hb.trans (hW.mono hb.size)) _ _ _ _ (h (Below.refl _ _))
theorem region_below {id : Nat} {a : Act} {w : World} (hm : P.follows .mixedOrders = true)
    (h : Below w.heap.size w w.drew → wpAnyH P .any ops Q (fun W => Below w.heap.size w W) ops.size (Array.replicate ops.size false) a w.drew) : (Code.region id ops true).wp P Q a w :=
  wp_region_held hm (h (Below.refl _ _).drew)
end
end Go.Proofs.YtplfblccaeligaaDoor
