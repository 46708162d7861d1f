/- A number of a list of the call's own is read, and written. -/
import Derived.Test.YtllamlmeklalaaaSl
import Derived.Test.YtllamlmeklalaaaBase0
import Derived.Test.YtllamlmeklalaaaRows
namespace Go.Proofs.Ytllamlmeklalaaa
open Go.RowKit
theorem Own.setI {k : IntKind} {e : TypeId} {w : World} {base n c : Nat} {A : Option Addr} {l : List Int} (h : Own k e w base A n c l) {i : Nat} (hi : i < l.length) :
    ∃ g, A = some ⟨g, 0, none⟩ ∧ w.cell? ⟨g, i, none⟩ = some (.int k l[i]) ∧ w.frozen? ⟨g, i, none⟩ = false ∧ base ≤ g ∧ g < w.heap.size ∧ (∃ cur, w.heap[g]? = some (.cells cur e (0, 0))) ∧
      ∀ v : Int, Own k e (w.setCell ⟨g, i, none⟩ (.int k v)) base A n c (l.set i v) := by
  have hl := h.1
  rcases h.2.2 with ⟨hv, hn⟩ | ⟨g, cap, cur, hv, hb, hg, hc, hm, hs, ht⟩
  · omega
  · injection hv with h1 _ h3
    subst h1 h3
    rw [Nat.mul_one] at hs ht
    have hx : cur.toList[i]? = some (.int k l[i]) := by
      have : (cur.toList.take n)[i]? = some (.int k l[i]) := by rw [ht, List.getElem?_map, List.getElem?_eq_getElem hi]; rfl
      rw [List.getElem?_take_of_lt (by omega)] at this
      exact this
    refine ⟨g, rfl, ?_, frozen_of_row w g i cur _ hg, hb, (Array.getElem?_eq_some_iff.1 hg).1, ⟨cur, hg⟩, fun v => ⟨by rw [List.length_set]; exact hl, by rw [List.length_map, List.length_set]; omega, .inr ⟨g, c, cur.setIfInBounds i (.int k v), rfl, hb, heap_setCell_same w g i _ _ _ hg, hc, hm, by rw [Array.size_setIfInBounds]; omega, ?_⟩⟩⟩
    · rw [cell_of_row w g i cur _ _ hg, ← Array.getElem?_toList]; exact hx
    · rw [Nat.mul_one, Array.toList_setIfInBounds, List.take_set, ht, List.map_set]
/-- A list of numbers in the making. -/
structure IW (w : World) (A : Option Addr) (m c : Nat) (l : List Int) (W : World) : Prop where
  own : Own .i64 3 W w.heap.size A m c l
  b : Below w.heap.size w W
theorem IW.keep {w W W' : World} {A : Option Addr} {m c : Nat} {l : List Int} (h : IW w A m c l W) (hb : Below W.heap.size W W') : IW w A m c l W' := ⟨h.own.below hb (Nat.le_refl _), keepB hb h.b⟩
theorem IW.len {w W : World} {A : Option Addr} {m c : Nat} {l : List Int} (h : IW w A m c l W) : l.length = m := h.own.1
theorem IW.set_ {w W : World} {A : Option Addr} {m c : Nat} {l : List Int} (h : IW w A m c l W) {i : Nat} (hi : i < l.length) :
    ∃ g, A = some ⟨g, 0, none⟩ ∧ W.cell? ⟨g, i, none⟩ = some (.int .i64 l[i]) ∧ W.frozen? ⟨g, i, none⟩ = false ∧ g < W.heap.size ∧ ∀ v : Int, IW w A m c (l.set i v) (W.setCell ⟨g, i, none⟩ (.int .i64 v)) := by
  obtain ⟨g, hA, h1, h2, h3, h4, _, h5⟩ := h.own.setI hi
  exact ⟨g, hA, h1, h2, h4, fun v => ⟨h5 v, h.b.setCell h3 _⟩⟩
theorem info_intS : (Try.prog.info? 3).map (fun i => (i.zero, i.size, i.bytes)) = some (some (.int .i64 0), 1, 8) := by kernel_rfl
end Go.Proofs.Ytllamlmeklalaaa
