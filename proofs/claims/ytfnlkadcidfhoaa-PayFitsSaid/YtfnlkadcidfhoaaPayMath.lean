/- Layer 5: payments: which there are, the usual one, how many. -/
import Derived.Test.YtfnlkadcidfhoaaManaBase
namespace Go.Proofs.Ytfnlkadcidfhoaa
namespace Yx
open Mx
/-- The sum of the first k numbers. -/
def sumF (f : Nat → Int) : Nat → Int
  | 0 => 0
  | k + 1 => sumF f k + f k
theorem sumF_congr {f g : Nat → Int} : ∀ k, (∀ i, i < k → f i = g i) → sumF f k = sumF g k
  | 0, _ => rfl
  | k + 1, h => by simp only [sumF]; rw [sumF_congr k (fun i hi => h i (by omega)), h k (by omega)]
theorem sumF_good {f : Nat → Int} (h : GoodC f) : ∀ k, k ≤ 6 → 0 ≤ sumF f k ∧ sumF f k ≤ 1000 * k
  | 0, _ => by simp [sumF]
  | k + 1, hk => by
    have h1 := sumF_good h k (by omega)
    have h2 := h k (by omega)
    simp only [sumF]; omega
theorem sumW_eq {f : Nat → Int} (h : GoodC f) : ∀ k, k ≤ 6 → sumW f k = sumF f k
  | 0, _ => rfl
  | k + 1, hk => by
    have h1 := sumF_good h (k + 1) hk
    simp only [sumF] at h1
    simp only [sumW, sumF]
    rw [sumW_eq h k (by omega)]
    exact IntWalk.wrap64_in _ ⟨by omega, by omega⟩
/-- What is left of the pool over the colours that the cost asks for. -/
def freeC (pool cost : Nat → Int) (i : Nat) : Int := if i < 5 then pool i - cost i else pool i
def overC (pool cost : Nat → Int) (k : Nat) : Int := pool 5 + sumF (fun i => pool i - cost i) k
theorem over_free (pool cost : Nat → Int) : overC pool cost 5 = sumF (freeC pool cost) 6 := by
  simp [overC, sumF, freeC]; omega
def ColC (pool cost : Nat → Int) (k : Nat) : Prop := ∀ i, i < k → cost i ≤ pool i
/-- There is a payment. -/
def CanC (pool cost : Nat → Int) : Prop := GoodC pool ∧ GoodC cost ∧ ColC pool cost 5 ∧ cost 5 ≤ overC pool cost 5
theorem over_total (pool cost : Nat → Int) : overC pool cost 5 = sumF pool 6 - sumF cost 5 := by
  simp [overC, sumF]; omega
theorem can_total {pool cost : Nat → Int} : CanC pool cost ↔ GoodC pool ∧ GoodC cost ∧ ColC pool cost 5 ∧ sumF cost 6 ≤ sumF pool 6 := by
  unfold CanC
  rw [over_total]
  have : sumF cost 6 = sumF cost 5 + cost 5 := rfl
  constructor <;> rintro ⟨a, b, c, d⟩ <;> exact ⟨a, b, c, by omega⟩
/-- The first of the greatest. -/
def FirstMax (d : Nat → Int) (i : Nat) : Prop := i < 5 ∧ (∀ j, j < 5 → d j ≤ d i) ∧ ∀ j, j < i → d j < d i
theorem firstMax_one {d : Nat → Int} {i j : Nat} (h : FirstMax d i) (h' : FirstMax d j) : i = j := by
  rcases Nat.lt_trichotomy i j with l | l | l
  · have := h'.2.2 i l; have := h.2.1 j h'.1; omega
  · exact l
  · have := h.2.2 j l; have := h'.2.1 i h.1; omega
def mxI (d : Nat → Int) : Nat → Int
  | 0 => 0
  | k + 1 => if mxI d k < d k then d k else mxI d k
theorem mxI_ge (d : Nat → Int) : ∀ k i, i < k → d i ≤ mxI d k
  | k + 1, i, h => by
    simp only [mxI]
    by_cases e : i = k
    · subst e; split <;> omega
    · have := mxI_ge d k i (by omega)
      split <;> omega
theorem mxI_at (d : Nat → Int) : ∀ k, mxI d k = 0 ∨ ∃ i, i < k ∧ d i = mxI d k
  | 0 => .inl rfl
  | k + 1 => by
    simp only [mxI]
    split
    · exact .inr ⟨k, by omega, rfl⟩
    · rcases mxI_at d k with h | ⟨i, h1, h2⟩
      · exact .inl h
      · exact .inr ⟨i, by omega, h2⟩
theorem mxI_nonneg (d : Nat → Int) : ∀ k, 0 ≤ mxI d k
  | 0 => by simp [mxI]
  | k + 1 => by have := mxI_nonneg d k; simp only [mxI]; split <;> omega
theorem firstMax_of {d : Nat → Int} {i : Nat} (hi : i < 5) (h : d i = mxI d 5) (hb : ∀ j, j < i → d j ≠ mxI d 5) : FirstMax d i := by
  refine ⟨hi, fun j hj => by rw [h]; exact mxI_ge d 5 j hj, fun j hj => ?_⟩
  have h1 := mxI_ge d 5 j (by omega)
  have h2 := hb j hj
  omega
theorem mx_found {d : Nat → Int} {j : Nat} (hj : j < 5) (h : 0 < d j) : ∃ i, i < 5 ∧ d i = mxI d 5 := by
  rcases mxI_at d 5 with h2 | h2
  · have := mxI_ge d 5 j hj; omega
  · exact h2
/-- One more of the payment. -/
def PayS (pool p q : Nat → Int) : Prop := (p 5 < pool 5 ∧ q = updI p 5 (p 5 + 1)) ∨ (¬ p 5 < pool 5 ∧ ∃ i, FirstMax (fun j => pool j - p j) i ∧ q = updI p i (p i + 1))
theorem payS_one {pool p q q' : Nat → Int} (h : PayS pool p q) (h' : PayS pool p q') : q = q' := by
  rcases h with ⟨a, rfl⟩ | ⟨a, i, hi, rfl⟩ <;> rcases h' with ⟨b, rfl⟩ | ⟨b, j, hj, rfl⟩
  · rfl
  · exact absurd a b
  · exact absurd b a
  · rw [firstMax_one hi hj]
inductive PayN (pool : Nat → Int) (p : Nat → Int) : Nat → (Nat → Int) → Prop
  | zero : PayN pool p 0 p
  | succ {k : Nat} {q r : Nat → Int} : PayN pool p k q → PayS pool q r → PayN pool p (k + 1) r
theorem payN_one {pool p : Nat → Int} {k : Nat} {q : Nat → Int} (h : PayN pool p k q) : ∀ {q'}, PayN pool p k q' → q = q' := by
  induction h with
  | zero => intro q' h'; cases h'; rfl
  | succ _ hs ih =>
    intro q' h'
    cases h' with
    | succ h1 h2 =>
      obtain rfl := ih h1
      exact payS_one hs h2
/-- What holds of a payment that has come so far. -/
structure PayI (pool cost : Nat → Int) (k : Int) (q : Nat → Int) : Prop where
  col : ∀ i, i < 5 → cost i ≤ q i ∧ q i ≤ pool i
  rest : 0 ≤ q 5 ∧ q 5 ≤ pool 5
  sum : sumF q 6 = sumF cost 5 + k
theorem sumF_upd {q : Nat → Int} {i : Nat} {x : Int} : ∀ k, i < k → sumF (updI q i x) k = sumF q k + (x - q i)
  | k + 1, h => by
    simp only [sumF]
    by_cases e : i = k
    · subst e
      rw [updI_at, sumF_congr i (g := q) (fun j hj => updI_ne q x (by omega))]; omega
    · rw [sumF_upd k (by omega), updI_ne q x (fun h => e h.symm)]; omega
theorem payI_start {pool cost : Nat → Int} (h : CanC pool cost) : PayI pool cost 0 (updI cost 5 0) where
  col i hi := by
    have := h.2.2.1 i hi
    rw [updI_ne cost 0 (by omega)]; omega
  rest := by
    have := h.1 5 (by omega)
    rw [updI_at]; omega
  sum := by
    rw [sumF_upd 6 (by omega)]
    have : sumF cost 6 = sumF cost 5 + cost 5 := rfl
    omega
/-- Where more is asked for, there is some left of a colour, or of none. -/
theorem pay_left {pool cost q : Nat → Int} {k : Int} (hc : CanC pool cost) (h : PayI pool cost k q) (hk : k < cost 5) (h5 : ¬ q 5 < pool 5) : ∃ j, j < 5 ∧ 0 < pool j - q j := by
  have h1 := h.sum
  have h2 := (can_total.1 hc).2.2.2
  have h3 : sumF cost 6 = sumF cost 5 + cost 5 := rfl
  have h4 := h.rest
  have h0 := h.col 0 (by omega)
  have h6 := h.col 1 (by omega)
  have h7 := h.col 2 (by omega)
  have h8 := h.col 3 (by omega)
  have h9 := h.col 4 (by omega)
  by_cases e0 : 0 < pool 0 - q 0
  · exact ⟨0, by omega, e0⟩
  by_cases e1 : 0 < pool 1 - q 1
  · exact ⟨1, by omega, e1⟩
  by_cases e2 : 0 < pool 2 - q 2
  · exact ⟨2, by omega, e2⟩
  by_cases e3 : 0 < pool 3 - q 3
  · exact ⟨3, by omega, e3⟩
  by_cases e4 : 0 < pool 4 - q 4
  · exact ⟨4, by omega, e4⟩
  exfalso
  rw [h3] at h2
  simp only [sumF] at h1 h2
  omega
theorem payI_next {pool cost q r : Nat → Int} {k : Int} (hc : CanC pool cost) (h : PayI pool cost k q) (hk : k < cost 5) (hs : PayS pool q r) : PayI pool cost (k + 1) r := by
  rcases hs with ⟨a, rfl⟩ | ⟨a, i, hi, rfl⟩
  · refine ⟨fun j hj => by rw [updI_ne q _ (by omega)]; exact h.col j hj, by have := h.rest; rw [updI_at]; omega, ?_⟩
    rw [sumF_upd 6 (by omega), h.sum]; omega
  · obtain ⟨j, hj, hd⟩ := pay_left hc h hk a
    have hm := hi.2.1 j hj
    have hi5 := hi.1
    refine ⟨fun j hj => ?_, by have := h.rest; rw [updI_ne q _ (by omega)]; exact this, ?_⟩
    · have h1 := h.col j hj
      have h2 := h.col i hi5
      unfold updI; split
      · rename_i e; subst e; simp only at hm; omega
      · exact h1
    · rw [sumF_upd 6 (by omega), h.sum]; omega
theorem payN_inv {pool cost : Nat → Int} (hc : CanC pool cost) : ∀ {k : Nat} {q : Nat → Int}, PayN pool (updI cost 5 0) k q → (k : Int) ≤ cost 5 → PayI pool cost k q := by
  intro k q h
  induction h with
  | zero => intro _; exact payI_start hc
  | succ _ hs ih => intro hk; exact payI_next hc (ih (by omega)) (by omega) hs
theorem payI_wide {pool cost q : Nat → Int} {k : Int} (hc : CanC pool cost) (h : PayI pool cost k q) : GoodC q := fun i hi => by
  by_cases e : i < 5
  · have h1 := h.col i e
    have h2 := hc.1 i hi
    have h3 := hc.2.1 i hi
    omega
  · obtain rfl : i = 5 := by omega
    have h1 := h.rest
    have h2 := hc.1 5 hi
    omega
/-- What Pay answers: the rest, the payment, an error's number. -/
def PayR (pool cost rest paid : Nat → Int) (k : Int) : Prop :=
  (¬ (GoodC pool ∧ GoodC cost) ∧ rest = zeroC ∧ paid = zeroC ∧ k = 2) ∨
  ((GoodC pool ∧ GoodC cost) ∧ ¬ CanC pool cost ∧ rest = zeroC ∧ paid = zeroC ∧ k = 10) ∨
  (CanC pool cost ∧ PayN pool (updI cost 5 0) (cost 5).toNat paid ∧ (∀ i, i < 6 → rest i = pool i - paid i) ∧ k = 0)
theorem payR_one {pool cost r p r' p' : Nat → Int} {k k' : Int} (h : PayR pool cost r p k) (h' : PayR pool cost r' p' k') : (∀ i, i < 6 → r i = r' i) ∧ (∀ i, i < 6 → p i = p' i) ∧ k = k' := by
  rcases h with ⟨a, rfl, rfl, rfl⟩ | ⟨a, b, rfl, rfl, rfl⟩ | ⟨a, b, c, rfl⟩ <;> rcases h' with ⟨a', rfl, rfl, rfl⟩ | ⟨a', b', rfl, rfl, rfl⟩ | ⟨a', b', c', rfl⟩
  · exact ⟨fun _ _ => rfl, fun _ _ => rfl, rfl⟩
  · exact absurd a' a
  · exact absurd ⟨a'.1, a'.2.1⟩ a
  · exact absurd a a'
  · exact ⟨fun _ _ => rfl, fun _ _ => rfl, rfl⟩
  · exact absurd a' b
  · exact absurd ⟨a.1, a.2.1⟩ a'
  · exact absurd a b'
  · obtain rfl := payN_one b b'
    exact ⟨fun i hi => by rw [c i hi, c' i hi], fun _ _ => rfl, rfl⟩

/-- F at the first n places, each taken with 0 to fr more: how often s comes out. -/
def conv (F : Nat → Int) (fr : Nat) : Nat → Nat → Int
  | 0, _ => 0
  | n + 1, s => conv F fr n s + (if n ≤ s ∧ s ≤ n + fr then F n else 0)
/-- .. and the next place, with 0 to b - 1 more. -/
def convB (F : Nat → Int) (fr n b s : Nat) : Int := conv F fr n s + (if n ≤ s ∧ s < n + b then F n else 0)
theorem convB_zero (F : Nat → Int) (fr n s : Nat) : convB F fr n 0 s = conv F fr n s := by
  unfold convB; rw [if_neg (by omega)]; omega
theorem convB_end (F : Nat → Int) (fr n s : Nat) : convB F fr n (fr + 1) s = conv F fr (n + 1) s := by
  unfold convB; simp only [conv]
  by_cases h : n ≤ s ∧ s ≤ n + fr
  · rw [if_pos h, if_pos (by omega)]
  · rw [if_neg h, if_neg (by omega)]
theorem convB_next (F : Nat → Int) (fr n b s : Nat) : convB F fr n (b + 1) s = if s = n + b then convB F fr n b (n + b) + F n else convB F fr n b s := by
  unfold convB
  by_cases e : s = n + b
  · subst e
    rw [if_pos (by omega), if_pos rfl, if_neg (by omega)]; omega
  · rw [if_neg e]
    by_cases h : n ≤ s ∧ s < n + b
    · rw [if_pos h, if_pos (by omega)]
    · rw [if_neg h, if_neg (by omega)]
theorem conv_range {F : Nat → Int} {fr : Nat} {M : Int} (hM : 0 ≤ M) : ∀ n s, (∀ a, a < n → 0 ≤ F a ∧ F a ≤ M) → 0 ≤ conv F fr n s ∧ conv F fr n s ≤ n * M
  | 0, s, _ => by simp [conv]
  | n + 1, s, h => by
    have h1 := conv_range (fr := fr) hM n s (fun a ha => h a (by omega))
    have h2 := h n (by omega)
    have h3 : ((n + 1 : Nat) : Int) * M = n * M + M := by rw [Int.natCast_add, Int.add_mul]; simp
    simp only [conv]
    split <;> omega
/-- How many there are to choose from. -/
def lenN (fr : Nat → Nat) : Nat → Nat
  | 0 => 1
  | k + 1 => lenN fr k + fr k
/-- In how many ways s is taken out of the first k places. -/
def waysN (fr : Nat → Nat) : Nat → Nat → Int
  | 0, s => if s = 0 then 1 else 0
  | k + 1, s => conv (waysN fr k) (fr k) (lenN fr k) s
theorem ways_range {fr : Nat → Nat} : ∀ k s, (∀ j, j ≤ k → lenN fr j ≤ 61) → 0 ≤ waysN fr k s ∧ waysN fr k s ≤ 61 ^ k
  | 0, s, _ => by simp only [waysN]; split <;> simp
  | k + 1, s, h => by
    have hM : (0 : Int) ≤ 61 ^ k := Int.pow_nonneg (by omega)
    have h1 := conv_range (F := waysN fr k) (fr := fr k) hM (lenN fr k) s (fun a _ => ways_range k a (fun j hj => h j (by omega)))
    have h2 := h k (by omega)
    have h3 : (lenN fr k : Int) * 61 ^ k ≤ 61 * 61 ^ k := Int.mul_le_mul_of_nonneg_right (by omega) hM
    simp only [waysN]
    rw [Int.pow_succ]
    omega
end Yx
end Go.Proofs.Ytfnlkadcidfhoaa
