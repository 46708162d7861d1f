/- Layer 7: the reference's Uses and Aims. -/
import Derived.Test.YtmdfgkfimlmmnaaDoorCardRef
namespace Go.Proofs.YtmdfgkfimlmmnaaDoor
open Go.RowKit Ex Mx
namespace Ex
theorem aims_uses (l : List AbT) : ∀ k, k ≤ l.length → (usesK l 0 k = [] ∧ ∀ rest, aimsL (l.take k ++ rest) = aimsL rest) ∨ (∃ (j : Nat) (a : AbT) (r : List Int), usesK l 0 k = (j : Int) :: r ∧ l[j]? = some a ∧ j < k ∧ ∀ rest, aimsL (l.take k ++ rest) = a.target)
  | 0, _ => .inl ⟨rfl, fun rest => by simp⟩
  | k + 1, hk => by
    have hlt : k < l.length := by omega
    have ha := List.getElem?_eq_getElem hlt
    have ht : ∀ rest, l.take (k + 1) ++ rest = l.take k ++ (l[k] :: rest) := fun rest => by rw [List.take_succ_eq_append_getElem hlt, List.append_assoc]; rfl
    rcases aims_uses l k (by omega) with ⟨h1, h2⟩ | ⟨j, a, r, h1, h2, h3, h4⟩
    · by_cases hw : l[k].when_ = 0
      · right
        refine ⟨k, l[k], [], by rw [usesK_yes ha hw, h1]; rfl, ha, by omega, fun rest => ?_⟩
        rw [ht, h2]; simp [aimsL, hw]
      · left
        refine ⟨by rw [usesK_no ha hw, h1], fun rest => ?_⟩
        rw [ht, h2]; simp [aimsL, hw]
    · right
      by_cases hw : l[k].when_ = 0
      · exact ⟨j, a, r ++ [(k : Int)], by rw [usesK_yes ha hw, h1]; rfl, h2, by omega, fun rest => by rw [ht, h4]⟩
      · exact ⟨j, a, r, by rw [usesK_no ha hw, h1], h2, by omega, fun rest => by rw [ht, h4]⟩
theorem aims_of (l : List AbT) : (usesL l 0 = [] ∧ aimsL l = 0) ∨ (∃ (j : Nat) (a : AbT) (r : List Int), usesL l 0 = (j : Int) :: r ∧ l[j]? = some a ∧ aimsL l = a.target) := by
  rcases aims_uses l l.length (Nat.le_refl _) with ⟨h1, h2⟩ | ⟨j, a, r, h1, h2, _, h4⟩
  · left
    have := h2 []
    rw [List.take_length, List.append_nil] at this
    exact ⟨h1, this⟩
  · right
    have := h4 []
    rw [List.take_length, List.append_nil] at this
    exact ⟨j, a, r, h1, h2, this⟩
end Ex
/-- Numbers of the call's own. -/
def UsesPost (l : List Int) (w : World) (e : Ending) (w' : World) : Prop := ∃ A m cc, e = .returned (.slice A m cc) ∧ Own .i64 3 w' w.heap.size A m cc l ∧ Below w.heap.size w w'
def UsRel (w1 : World) (l : List AbT) (wh : Int) (v i : Value) (wr : World) : Prop :=
  ∃ A m cc k, v = .slice A m cc ∧ i = .int .i64 ((k : Nat) : Int) ∧ k ≤ l.length ∧ Own .i64 3 wr w1.heap.size A m cc (usesK l wh k) ∧ Below w1.heap.size w1 wr
end Go.Proofs.YtmdfgkfimlmmnaaDoor
