/- What holds of any memory: ranges, rows of a call's own. -/
import Derived.Test.YtplfblccaeligaaDoorRows
import Derived.Test.YtplfblccaeligaaDoorSl
import Derived.Test.YtplfblccaeligaaDoorBase0
import Derived.Deep.MidRow
namespace Go.Proofs.YtplfblccaeligaaDoor
open Go.RowKit
set_option maxRecDepth 100000
abbrev N64 (x : Int) : Prop := -9223372036854775808 ≤ x ∧ x ≤ 9223372036854775807
theorem range_below {B : Nat} {w w' : World} {b o : Nat} {vs : List Value} (hb : Below B w w') (hlt : b < B) (h : w.rangeAt b o vs) : w'.rangeAt b o vs := fun j v hv => (hb.cell (by simpa using hlt)).trans (h j v hv)
section
variable {W W' : World} {base : Nat}
theorem owns_keep {v : Value} {e : TypeId} {k n : Nat} {xs : List Value} (h : W.ownsRow base e k v n xs) (hb : ∀ j, v.ownBlock = some j → W'.heap[j]? = W.heap[j]?) : W'.ownsRow base e k v n xs := by
  refine ⟨h.1, ?_⟩
  rcases h.2 with hv | ⟨g, cap, cur, hv, hbs, hg, rest⟩
  · exact .inl hv
  · exact .inr ⟨g, cap, cur, hv, hbs, (hb g (by rw [hv]; rfl)).trans hg, rest⟩
end
theorem own_ty {W : World} {base k n : Nat} {e : TypeId} {v : Value} {xs : List Value} (h : W.ownsRow base e k v n xs) {j : Nat} (hj : v.ownBlock = some j) : base ≤ j ∧ ∃ cur, W.heap[j]? = some (.cells cur e (0, 0)) := by
  rcases h.2 with ⟨hv, _⟩ | ⟨g, cap, cur, hv, hb, hg, _⟩
  · rw [hv] at hj; cases hj
  · rw [hv] at hj
    injection hj with hj
    have hj : g = j := hj
    subst hj
    exact ⟨hb, cur, hg⟩
theorem ty_same {W : World} {j : Nat} {c1 c2 : Array Value} {t1 t2 : TypeId} {f1 f2 : Nat × Nat} (h1 : W.heap[j]? = some (.cells c1 t1 f1)) (h2 : W.heap[j]? = some (.cells c2 t2 f2)) : t1 = t2 := by
  rw [h1] at h2; injection h2 with h2; injection h2
/-- Where a list lies. -/
structure SlT where
  A : Option Addr
  n : Nat
  c : Nat
def SlT.v (x : SlT) : Value := .slice x.A x.n x.c
end Go.Proofs.YtplfblccaeligaaDoor
