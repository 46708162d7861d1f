/- Layer 9: what the calls on lists are to answer. -/
import Derived.Test.YtmhabodijmnldaaDoorSl
namespace Go.Proofs.YtmhabodijmnldaaDoor
open Go.RowKit
namespace Ex
/-- A list with a number more; without a place; of which one number was moved. -/
def insL (l : List Int) (i : Nat) (x : Int) : List Int := l.take i ++ x :: l.drop i
def rmL (l : List Int) (i : Nat) : List Int := l.take i ++ l.drop (i + 1)
def mvL (l : List Int) (i j : Nat) : List Int := insL (rmL l i) j (l.getD i 0)
/-- The first place; -1: none. -/
def idxL : List Int → Int → Int
  | [], _ => -1
  | y :: l, x => if y = x then 0 else if idxL l x = -1 then -1 else idxL l x + 1
theorem idx_ge : ∀ (l : List Int) (x : Int), -1 ≤ idxL l x ∧ idxL l x < l.length
  | [], x => by simp [idxL]
  | y :: l, x => by
    have h := idx_ge l x
    simp only [idxL, List.length_cons]
    split
    · omega
    · split <;> omega
theorem idx_none : ∀ {l : List Int} {x : Int}, idxL l x = -1 ↔ x ∉ l
  | [], x => by simp [idxL]
  | y :: l, x => by
    have h := idx_none (l := l) (x := x)
    have h2 := idx_ge l x
    simp only [idxL, List.mem_cons, not_or]
    by_cases e : y = x
    · rw [if_pos e]; exact ⟨fun h => by omega, fun h => absurd e.symm h.1⟩
    · rw [if_neg e]
      split
      · rename_i h1; exact ⟨fun _ => ⟨fun h => e h.symm, h.1 h1⟩, fun _ => rfl⟩
      · rename_i h1; exact ⟨fun h3 => by omega, fun h3 => absurd (h.2 h3.2) h1⟩
theorem idx_at : ∀ {l : List Int} {x : Int} {k : Nat}, (∀ (j : Nat), j < k → l[j]? ≠ some x) → l[k]? = some x → idxL l x = (k : Int)
  | [], x, k, _, h => by simp at h
  | y :: l, x, 0, _, h => by simp at h; simp [idxL, h]
  | y :: l, x, k + 1, h1, h => by
    have e : y ≠ x := fun e => h1 0 (by omega) (by simp [e])
    have ih := idx_at (l := l) (x := x) (k := k) (fun j hj => by have := h1 (j + 1) (by omega); simpa using this) (by simpa using h)
    simp only [idxL, if_neg e, ih]
    rw [if_neg (by omega)]; omega
theorem idx_mem {l : List Int} {x : Int} (h : x ∈ l) : 0 ≤ idxL l x := by
  have h1 := idx_ge l x
  have h2 := (idx_none (l := l) (x := x))
  by_cases e : idxL l x = -1
  · exact absurd h (h2.1 e)
  · omega
/-- No number stands twice just where each one's first place is its own. -/
theorem once_iff {l : List Int} : (∀ (i : Nat) (x : Int), l[i]? = some x → idxL l x = (i : Int)) ↔ l.Nodup := by
  unfold List.Nodup
  rw [List.pairwise_iff_getElem]
  constructor
  · intro h i j hi hj hij e
    have h1 := h i l[i] (List.getElem?_eq_getElem hi)
    have h2 := h j l[j] (List.getElem?_eq_getElem hj)
    rw [e] at h1
    omega
  · intro h i x hx
    refine idx_at (fun j hj e => ?_) hx
    obtain ⟨hi, hxi⟩ := List.getElem?_eq_some_iff.1 hx
    obtain ⟨hj2, hxj⟩ := List.getElem?_eq_some_iff.1 e
    exact h j i hj2 hi hj (hxj.trans hxi.symm)
/-- Is order each of the n places once? -/
def dealOk (n : Nat) (order : List Int) : Prop := n = order.length ∧ ∀ i : Nat, i < n → (i : Int) ∈ order
instance (n : Nat) (order : List Int) : Decidable (dealOk n order) := inferInstanceAs (Decidable (_ ∧ _))
theorem deal_in : ∀ (n : Nat) (o : List Int), o.length = n → (∀ i : Nat, i < n → (i : Int) ∈ o) → ∀ x ∈ o, 0 ≤ x ∧ x < n
  | 0, o, hl, _, x, hx => by rw [List.eq_nil_of_length_eq_zero hl] at hx; simp at hx
  | n + 1, o, hl, hm, x, hx => by
    have hn := hm n (by omega)
    have ih := deal_in n (o.erase (n : Int)) (by rw [List.length_erase_of_mem hn]; omega) (fun i hi => (List.mem_erase_of_ne (by omega)).2 (hm i (by omega)))
    by_cases e : x = (n : Int)
    · omega
    · have := ih x ((List.mem_erase_of_ne e).2 hx)
      omega
def dealL (l order : List Int) : List Int := order.map fun o => l.getD o.toNat 0
/-- What has been laid of a list with a number more when k places are over. -/
def insK (l : List Int) (i : Nat) (x : Int) (k : Nat) : List Int := if i < k then insL (l.take k) i x else l.take k
theorem insK_step (l : List Int) (i : Nat) (x : Int) (k : Nat) (hi : i ≤ l.length) (hk : k ≤ l.length) :
    insK l i x (k + 1) = insK l i x k ++ ((if k = i then [x] else []) ++ (l[k]?).toList) := by
  unfold insK insL
  rw [List.take_add_one]
  by_cases h1 : i < k
  · rw [if_pos (by omega), if_pos h1, if_neg (by omega)]
    have hl : i ≤ (l.take k).length := by rw [List.length_take]; omega
    rw [List.take_append_of_le_length hl, List.drop_append_of_le_length hl]
    simp
  · by_cases h2 : k = i
    · subst h2
      rw [if_pos (by omega), if_neg (by omega), if_pos rfl]
      have hl : (l.take k).length = k := by rw [List.length_take]; omega
      rw [List.take_append_of_le_length (by omega), List.drop_append_of_le_length (by omega), List.take_of_length_le (by omega), List.drop_of_length_le (by omega)]
      simp
    · rw [if_neg (by omega), if_neg h1, if_neg h2]; simp
theorem insK_end (l : List Int) (i : Nat) (x : Int) (hi : i ≤ l.length) : insK l i x (l.length + 1) = insL l i x := by
  unfold insK; rw [if_pos (by omega), List.take_of_length_le (by omega)]
def rmK (l : List Int) (i k : Nat) : List Int := if i < k then rmL (l.take k) i else l.take k
theorem rmK_step (l : List Int) (i k : Nat) (hk : k < l.length) : rmK l i (k + 1) = rmK l i k ++ (if k = i then [] else [l[k]]) := by
  unfold rmK rmL
  rw [List.take_succ_eq_append_getElem hk]
  have hl : (l.take k).length = k := by rw [List.length_take]; omega
  by_cases h1 : i < k
  · rw [if_pos (by omega), if_pos h1, if_neg (by omega), List.take_append_of_le_length (by omega), List.drop_append_of_le_length (by omega)]
    simp
  · by_cases h2 : k = i
    · subst h2
      rw [if_pos (by omega), if_neg (by omega), if_pos rfl, List.take_append_of_le_length (by omega), List.drop_of_length_le (by simp; omega), List.take_of_length_le (by omega)]
    · rw [if_neg (by omega), if_neg h1, if_neg h2]
theorem rmK_end (l : List Int) (i : Nat) (hi : i < l.length) : rmK l i l.length = rmL l i := by
  unfold rmK; rw [if_pos hi, List.take_length]
theorem ins_len (l : List Int) (i : Nat) (x : Int) (hi : i ≤ l.length) : (insL l i x).length = l.length + 1 := by simp [insL]; omega
theorem rm_len (l : List Int) (i : Nat) (hi : i < l.length) : (rmL l i).length = l.length - 1 := by simp [rmL]; omega
theorem insK_len (l : List Int) (i : Nat) (x : Int) (k : Nat) : (insK l i x k).length ≤ l.length + 1 := by
  unfold insK insL; split
  · simp; omega
  · simp; omega
theorem rmK_len (l : List Int) (i k : Nat) : (rmK l i k).length ≤ l.length := by
  unfold rmK rmL; split
  · simp; omega
  · simp; omega
theorem ins_at (l : List Int) (i : Nat) (x : Int) (hi : i ≤ l.length) : (insL l i x)[i]? = some x := by
  unfold insL
  rw [List.getElem?_append_right (by rw [List.length_take]; omega), List.length_take, show i - min i l.length = 0 by omega]
  rfl
theorem rm_ins (l : List Int) (i : Nat) (x : Int) (hi : i ≤ l.length) : rmL (insL l i x) i = l := by
  unfold rmL insL
  have hl : (l.take i).length = i := by rw [List.length_take]; omega
  rw [List.take_append_of_le_length (by omega), List.take_of_length_le (by omega), List.drop_append, List.drop_of_length_le (by omega), hl, show i + 1 - i = 1 by omega, List.nil_append]
  simp
theorem ins_rm (l : List Int) (i : Nat) (hi : i < l.length) : insL (rmL l i) i (l.getD i 0) = l := by
  unfold rmL insL
  have hl : (l.take i).length = i := by rw [List.length_take]; omega
  rw [List.take_append_of_le_length (by omega), List.take_of_length_le (by omega), List.drop_append, List.drop_of_length_le (by omega), hl, Nat.sub_self, List.nil_append, List.drop_zero, List.getD_eq_getElem?_getD, List.getElem?_eq_getElem hi, Option.getD_some, ← List.drop_eq_getElem_cons hi, List.take_append_drop]
theorem mv_len (l : List Int) (i j : Nat) (hi : i < l.length) (hj : j < l.length) : (mvL l i j).length = l.length := by
  unfold mvL; rw [ins_len _ _ _ (by rw [rm_len l i hi]; omega), rm_len l i hi]; omega
theorem mv_back (l : List Int) (i j : Nat) (hi : i < l.length) (hj : j < l.length) : mvL (mvL l i j) j i = l := by
  have hr : j ≤ (rmL l i).length := by rw [rm_len l i hi]; omega
  have h1 : rmL (mvL l i j) j = rmL l i := rm_ins _ _ _ hr
  have h2 : (mvL l i j).getD j 0 = l.getD i 0 := by rw [List.getD_eq_getElem?_getD, show (mvL l i j)[j]? = some (l.getD i 0) from ins_at _ _ _ hr]; rfl
  unfold mvL at h1 h2 ⊢
  rw [h1, h2, ins_rm l i hi]
end Ex
end Go.Proofs.YtmhabodijmnldaaDoor
