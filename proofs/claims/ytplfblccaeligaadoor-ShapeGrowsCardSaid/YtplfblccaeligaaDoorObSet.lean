/- Objects in a block of the call's own: a number of one is written. -/
import Derived.Test.YtplfblccaeligaaDoorShG4
namespace Go.Proofs.YtplfblccaeligaaDoor
open Go.RowKit Ex
set_option maxRecDepth 100000
def setO (os : List (Nat → Int)) (i j : Nat) (x : Int) : List (Nat → Int) := os.set i (updI (os.getD i fun _ => 0) j x)
theorem setO_len (os : List (Nat → Int)) (i j : Nat) (x : Int) : (setO os i j x).length = os.length := List.length_set
theorem flatO_set : ∀ (os : List (Nat → Int)) (i j : Nat) (x : Int), i < os.length → j < 18 → (flatO os).set (i * 18 + j) (.int .i64 x) = flatO (setO os i j x)
  | [], i, j, x, h, _ => by simp at h
  | o :: l, 0, j, x, _, hj => by
    simp only [flatO, setO, List.flatMap_cons, Nat.zero_mul, Nat.zero_add, List.set_cons_zero, List.getD_cons_zero]
    rw [List.set_append_left _ _ (by rw [Array.length_toList, arr_size]; exact hj), ← arr_set, Array.toList_setIfInBounds]
  | o :: l, i + 1, j, x, h, hj => by
    have ih := flatO_set l i j x (by simpa using h) hj
    simp only [flatO, setO, List.flatMap_cons, List.set_cons_succ, List.getD_cons_succ] at ih ⊢
    rw [List.set_append_right _ _ (by rw [Array.length_toList, arr_size]; omega), Array.length_toList, arr_size, show (i + 1) * 18 + j - 18 = i * 18 + j by omega, ih]
theorem owns_set {W : World} {base n c : Nat} {A : Option Addr} {os : List (Nat → Int)} (h : W.ownsRow base 37 18 (.slice A n c) n (flatO os)) {i j : Nat} (hi : i < os.length) (hj : j < 18) :
    ∃ g, A = some ⟨g, 0, none⟩ ∧ W.cell? ⟨g, i * 18 + j, none⟩ = some (.int .i64 (os[i] j)) ∧ W.frozen? ⟨g, i * 18 + j, none⟩ = false ∧ base ≤ g ∧
      ∀ x : Int, (W.setCell ⟨g, i * 18 + j, none⟩ (.int .i64 x)).ownsRow base 37 18 (.slice A n c) n (flatO (setO os i j x)) := by
  have hl := h.1
  rw [flatO_len] at hl
  rcases h.2 with ⟨hv, hn⟩ | ⟨g, cap, cur, hv, hb, hg, hc, hm, hs, ht⟩
  · omega
  · injection hv with h1 _ h3
    subst h1 h3
    have hlt : i * 18 + j < n * 18 := by omega
    have hat := flatO_at i os[i] (List.getElem?_eq_getElem hi) j (.int .i64 (os[i] j)) (by rw [Array.getElem?_toList, arr_get .i64 18 _ hj])
    refine ⟨g, rfl, ?_, frozen_of_row W g (i * 18 + j) cur _ hg, hb, fun x => ?_⟩
    · rw [cell_of_row W g (i * 18 + j) cur _ _ hg, ← Array.getElem?_toList, ← hat, ← ht, List.getElem?_take_of_lt hlt]
    · refine ⟨by rw [flatO_len, setO_len]; exact hl, .inr ⟨g, c, cur.setIfInBounds (i * 18 + j) (.int .i64 x), rfl, hb, heap_setCell_same W g (i * 18 + j) _ _ _ hg, hc, hm, by rw [Array.size_setIfInBounds]; exact hs, ?_⟩⟩
      rw [Array.toList_setIfInBounds, List.take_set, ht, flatO_set os i j x hi hj]
end Go.Proofs.YtplfblccaeligaaDoor
