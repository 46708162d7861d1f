/- Layer 14: a journal while a law goes on. -/
import Derived.Test.YtncmfkmgaghklaaJnSaid
namespace Go.Proofs.Ytncmfkmgaghklaa
open Go.RowKit Ex
set_option maxRecDepth 100000
/-- The law's journal: what it holds, in blocks that are the law's own. -/
structure JI (T : JRep) (w : World) (p : Nat) (j : JT) (W : World) (F : Nat → Prop) : Prop where
  r : T.R W p j F
  low : ∀ k, F k → w.heap.size ≤ k
  ok : JOk j
  b : Below w.heap.size w W
section
variable {T : JRep} {w W W' : World} {p : Nat} {j j' : JT} {F : Nat → Prop}
theorem JI.keep (h : JI T w p j W F) (hb : Below W.heap.size W W') : JI T w p j W' F :=
  ⟨T.stay h.r hb.size fun k hk => hb.block k (T.lt h.r hk), h.low, h.ok, keepB hb h.b⟩
theorem JI.step (h : JI T w p j W F) (hp : JP T W p F j' W') (hok : JOk j') : ∃ F', JI T w p j' W' F' := by
  obtain ⟨F', h1, h2, h3⟩ := hp
  refine ⟨F', h1, fun k hk => ?_, hok, h.b.trans (h3.below h.b.size h.low)⟩
  rcases h2 k hk with h4 | h4
  · exact h.low k h4
  · exact Nat.le_trans h.b.size h4
theorem JI.new {z : World} (hz : Below w.heap.size w z) (h : T.R W p j0 F) (hF : ∀ k, F k → z.heap.size ≤ k) (hb : Below z.heap.size z W) : JI T w p j0 W F :=
  ⟨h, fun k hk => Nat.le_trans hz.size (hF k hk), j0_ok, keepB hb hz⟩
theorem JI.lowz {z : World} (h : JI T w p j W F) (hz : Below z.heap.size z w) : ∀ k, F k → z.heap.size ≤ k := fun k hk => Nat.le_trans hz.size (h.low k hk)
theorem JI.zb {z : World} (h : JI T w p j W F) (hz : Below z.heap.size z w) : Below z.heap.size z W := hz.trans (h.b.mono hz.size)
end
end Go.Proofs.Ytncmfkmgaghklaa
