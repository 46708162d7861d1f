/- Layer 8: what the calls on cards by number, on names and decks are to answer. -/
import Derived.Test.YtmdfgkfimlmmnaaDoorCardMade
import Derived.Test.YtmdfgkfimlmmnaaDoorCardChk
namespace Go.Proofs.YtmdfgkfimlmmnaaDoor
open Go.RowKit Ex Mx
namespace Ex
/-- How often x stands in l. -/
def cnt (x : Int) : List Int → Nat
  | [] => 0
  | y :: l => if y = x then cnt x l + 1 else cnt x l
theorem cnt_len (x : Int) : ∀ l, cnt x l ≤ l.length
  | [] => Nat.le_refl _
  | y :: l => by
    have := cnt_len x l
    simp only [cnt, List.length_cons]
    split <;> omega
theorem cnt_snoc (x y : Int) : ∀ l, cnt x (l ++ [y]) = if y = x then cnt x l + 1 else cnt x l
  | [] => by simp [cnt]
  | z :: l => by
    simp only [List.cons_append, cnt, cnt_snoc x y l]
    split <;> split <;> rfl
/-- The number of what is wrong with a deck. -/
def deckL (l : List Int) : Int :=
  if 100 < l.length then 19
  else if ∃ x ∈ l, x < 0 ∨ 111 < x then 4
  else if ∃ x ∈ l, 5 ≤ x ∧ 4 < cnt x l then 8
  else 0
theorem deck_many {l : List Int} (h : 100 < l.length) : deckL l = 19 := if_pos h
theorem deck_none {l : List Int} (h : ¬ 100 < l.length) {x : Int} (hm : x ∈ l) (hx : x < 0 ∨ 111 < x) : deckL l = 4 := by
  unfold deckL; rw [if_neg h, if_pos ⟨x, hm, hx⟩]
theorem deck_twice {l : List Int} (h : ¬ 100 < l.length) (h1 : ∀ x ∈ l, 0 ≤ x ∧ x ≤ 111) {x : Int} (hm : x ∈ l) (hx : 5 ≤ x ∧ 4 < cnt x l) : deckL l = 8 := by
  unfold deckL; rw [if_neg h, if_neg (fun ⟨y, hy, hq⟩ => by have := h1 y hy; omega), if_pos ⟨x, hm, hx⟩]
theorem deck_fine {l : List Int} (h : ¬ 100 < l.length) (h1 : ∀ x ∈ l, 0 ≤ x ∧ x ≤ 111) (h2 : ∀ x ∈ l, ¬ (5 ≤ x ∧ 4 < cnt x l)) : deckL l = 0 := by
  unfold deckL; rw [if_neg h, if_neg (fun ⟨y, hy, hq⟩ => by have := h1 y hy; omega), if_neg (fun ⟨y, hy, hq⟩ => h2 y hy hq)]
theorem upto_all {p : Int → Prop} {l : List Int} {k : Nat} (h : ∀ (i : Nat) (x : Int), i < k → l[i]? = some x → p x) (hk : l.length ≤ k) : ∀ x ∈ l, p x := fun x hx => by
  obtain ⟨i, hi⟩ := List.mem_iff_getElem?.1 hx
  exact h i x (by have := (List.getElem?_eq_some_iff.1 hi).1; omega) hi
end Ex
end Go.Proofs.YtmdfgkfimlmmnaaDoor
