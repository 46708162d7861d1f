/- Layer 7: loads of cards, of abilities, of a cost and an effect within one; how large a card is that is looked at. -/
import Derived.Test.YtmdfgkfimlmmnaaDoorCard
import Derived.Test.YtmdfgkfimlmmnaaDoorTreeHas
namespace Go.Proofs.YtmdfgkfimlmmnaaDoor
open Go.RowKit Ex Mx
section
variable {ops : Array Oper} {rest : List Oper} {o : Oper} {a : Act} {w : World} {Q : Exit → Act → World → Prop}
/-- An ability at a place of a list, loaded whole. -/
theorem load_ab (hgd : o.guard = none) (x : Operand) (ho : o.op = .load 48 x) (b p : Nat) (hx : a.eval x = .pointer (some ⟨b, p, none⟩)) (ys : Array Value) (hs : ys.size = 14) (h : w.rangeAt b p ys.toList)
    (hK : wpList Tryd.prog ops Q rest (a.put o.dst (.agg ys)) w) : wpList Tryd.prog ops Q (o :: rest) a w := by
  refine wpList_load_mid hgd 48 x ho b p hx ys.toList _ h Tryd.underlying48 rfl (by rw [Array.length_toList, hs]; exact size14) ?_
  rw [Array.toArray_toList]
  exact hK
/-- A card's box, loaded whole, guarded or not. -/
theorem wantCd (hw : Region.wanted o (yielded ops a.tmps) = true) (x : Operand) (ho : o.op = .load 27 x) (g : Nat) (hx : a.eval x = .pointer (some ⟨g, 0, none⟩)) (cs : Array Value) (h : CdAt w g cs)
    (hs : (Tryd.prog.info? 27).map (·.size) = some cs.size) (hK : wpList Tryd.prog ops Q rest (a.put o.dst (.agg cs)) w) : wpList Tryd.prog ops Q (o :: rest) a w :=
  BigFrame.wpList_want hw fun _ hK' => wp_load_row 27 x ho g hx 27 cs (0, 0) _ h Tryd.underlying27 rfl hs (hK' _ _ hK)
/-- An effect within an ability, guarded or not. -/
theorem wantDo (hw : Region.wanted o (yielded ops a.tmps) = true) (x : Operand) (ho : o.op = .load 46 x) (b p : Nat) (hx : a.eval x = .pointer (some ⟨b, p, none⟩)) (xs : Array Value) (hs : xs.size = 5) (h : w.rangeAt b p xs.toList)
    (hK : wpList Tryd.prog ops Q rest (a.put o.dst (.agg xs)) w) : wpList Tryd.prog ops Q (o :: rest) a w :=
  BigFrame.wpList_want hw fun _ hK' => wp_load_mid 46 x ho b p hx xs.toList _ h Tryd.underlying46 rfl (by rw [Array.length_toList, hs]; exact size5) (by rw [Array.toArray_toList]; exact hK' _ _ hK)
/-- A cost within an ability or a card, guarded or not. -/
theorem wantCost (hw : Region.wanted o (yielded ops a.tmps) = true) (x : Operand) (ho : o.op = .load 24 x) (b p : Nat) (hx : a.eval x = .pointer (some ⟨b, p, none⟩)) (f : Nat → Int) (h : w.rangeAt b p (arr .i64 6 f).toList)
    (hK : wpList Tryd.prog ops Q rest (a.put o.dst (.agg (arr .i64 6 f))) w) : wpList Tryd.prog ops Q (o :: rest) a w :=
  BigFrame.wpList_want hw fun _ hK' => wp_load_mid 24 x ho b p hx (arr .i64 6 f).toList _ h Tryd.underlying24 rfl (by rw [Array.length_toList, arr_size]; exact size6) (by rw [Array.toArray_toList]; exact hK' _ _ hK)
end
theorem AbAt.do_ {w : World} {g : Nat} {a : AbT} {xs : Array Value} (h : AbAt w g (abC a xs)) : w.rangeAt g 9 xs.toList := by
  have := ab_do h.range
  rw [Nat.zero_add] at this; exact this
theorem AbAt.cost {w : World} {g : Nat} {a : AbT} {xs : Array Value} (h : AbAt w g (abC a xs)) : w.rangeAt g 1 (arr .i64 6 a.cost).toList := by
  have := ab_cost h.range
  rw [Nat.zero_add] at this; exact this
theorem CdAt.cost {w : World} {g : Nat} {c : CardT} {A : Option Addr} {k cc : Nat} (h : CdAt w g (cardC c A k cc)) : w.rangeAt g 3 (arr .i64 6 c.cost).toList := by
  have := cd_cost h.range
  rw [Nat.zero_add] at this; exact this
/-- A card that is looked at. -/
def SmallC (c : CardT) : Prop := c.abs.length ≤ 9 ∧ ∀ (i : Nat) (a : AbT), c.abs[i]? = some a → sizeT a.do_ ≤ 300
end Go.Proofs.YtmdfgkfimlmmnaaDoor
