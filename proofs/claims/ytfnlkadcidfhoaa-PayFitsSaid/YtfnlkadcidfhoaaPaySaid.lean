/- Layer 5: what pay's calls answer, as one statement: the laws' walks take it, the code's walks prove it. -/
import Derived.Test.YtfnlkadcidfhoaaPayWays
import Derived.Test.YtfnlkadcidfhoaaNumE
namespace Go.Proofs.Ytfnlkadcidfhoaa
open Go.RowKit Mx Yx
def addF (a b : Nat → Int) : Nat → Int := fun i => a i + b i
/-- What Sum answers. -/
def SumR (a b c : Nat → Int) (k : Int) : Prop :=
  (¬ (GoodC a ∧ GoodC b) ∧ c = zeroC ∧ k = 2) ∨ ((GoodC a ∧ GoodC b) ∧ ¬ GoodC (addF a b) ∧ c = zeroC ∧ k = 1) ∨ ((GoodC a ∧ GoodC b) ∧ GoodC (addF a b) ∧ (∀ i, i < 6 → c i = addF a b i) ∧ k = 0)
def SumPost (a b : Nat → Int) (err : Int → Value) (w : World) (e : Ending) (w' : World) : Prop :=
  ∃ c k, SumR a b c k ∧ e = .returned (.tuple #[.agg (arr .i64 6 c), err k]) ∧ Below w.heap.size w w'
/-- In every world that keeps what stands in z. -/
structure PaySaid (z : World) : Prop where
  can : ∀ (p c : Nat → Int) (w : World), Wide p → Wide c → Below z.heap.size z w → Calls Try.prog 11 #[.agg (arr .i64 6 p), .agg (arr .i64 6 c)] w (CanPost p c w)
  pay : ∀ (p c : Nat → Int) (w : World), Wide p → Wide c → Below z.heap.size z w → Calls Try.prog 8 #[.agg (arr .i64 6 p), .agg (arr .i64 6 c)] w (PayPost p c errV w)
  ways : ∀ (p c : Nat → Int) (w : World), Wide p → Wide c → Below z.heap.size z w → Calls Try.prog 13 #[.agg (arr .i64 6 p), .agg (arr .i64 6 c)] w (WaysPost p c errV w)
  sum : ∀ (p c : Nat → Int) (w : World), Wide p → Wide c → Below z.heap.size z w → Calls Try.prog 15 #[.agg (arr .i64 6 p), .agg (arr .i64 6 c)] w (SumPost p c errV w)
theorem num_by (k : Int) (w : World) : Calls Try.prog 10 #[errV k] w fun e w' => e = .returned (.int .i64 k) ∧ w = w' := by
  unfold errV
  split
  · rename_i h; subst h; exact num_nil w
  · rename_i h; exact num_err k h w
theorem eqC (f g : Nat → Int) (h : ∀ i, i < 6 → f i = g i) (W : World) : (binOp .eql 23 (.agg (arr .i64 6 f)) (.agg (arr .i64 6 g))).run Try.prog W = .ok (.bool true) W := by
  rw [run_eql_arr W 23 3 .i64 6 Try.underlying23 Try.underlying3 (fun _ => by kernel_rfl) f g, sameI_iff.2 h]
theorem neqC (f g : Nat → Int) (h : ∀ i, i < 6 → f i = g i) (W : World) : (binOp .neq 23 (.agg (arr .i64 6 f)) (.agg (arr .i64 6 g))).run Try.prog W = .ok (.bool false) W := by
  rw [run_neq_arr W 23 3 .i64 6 Try.underlying23 Try.underlying3 (fun _ => by kernel_rfl) f g, sameI_iff.2 h]; rfl
/-- Two new arrays, laid. -/
def two (w : World) (r p : Nat → Int) : World := (((w.alloc (.cells (arr .i64 6 zeroC) 23)).alloc (.cells (arr .i64 6 zeroC) 23)).setRow w.heap.size (arr .i64 6 r)).setRow (w.heap.size + 1) (arr .i64 6 p)
theorem two_size (w : World) : (w.alloc (.cells (arr .i64 6 zeroC) 23)).heap.size = w.heap.size + 1 := by simp
theorem two_a (w : World) : ArrAt .i64 6 23 ((w.alloc (.cells (arr .i64 6 zeroC) 23)).alloc (.cells (arr .i64 6 zeroC) 23)) w.heap.size zeroC := (ArrAt.new w _ _ _ _).alloc _
theorem two_b (w : World) (r : Nat → Int) : ArrAt .i64 6 23 (((w.alloc (.cells (arr .i64 6 zeroC) 23)).alloc (.cells (arr .i64 6 zeroC) 23)).setRow w.heap.size (arr .i64 6 r)) (w.heap.size + 1) zeroC := by
  have h := ArrAt.new (w.alloc (.cells (arr .i64 6 zeroC) 23)) .i64 6 23 zeroC
  rw [two_size] at h
  exact h.farRow (by omega) _
theorem two_r (w : World) (r p : Nat → Int) : ArrAt .i64 6 23 (two w r p) w.heap.size r := ((two_a w).setRow r).farRow (by omega) _
theorem two_p (w : World) (r p : Nat → Int) : ArrAt .i64 6 23 (two w r p) (w.heap.size + 1) p := (two_b w r).setRow p
theorem two_below (w : World) (r p : Nat → Int) : Below w.heap.size w (two w r p) := below_setRow (below_setRow (((Below.refl _ _).alloc (Nat.le_refl _) _).alloc (by rw [two_size]; omega) _) _ _ (by omega)) _ _ (by omega)
end Go.Proofs.Ytfnlkadcidfhoaa
