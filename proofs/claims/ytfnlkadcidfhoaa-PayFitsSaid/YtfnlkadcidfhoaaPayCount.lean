/- Layer 5: counting place by place gives the same, whichever place is gone through first. -/
import Derived.Test.YtfnlkadcidfhoaaPayWays
namespace Go.Proofs.Ytfnlkadcidfhoaa
namespace Yx
open Mx
/-- F, with one more place that may give up to n. -/
def addP : Nat → (Int → Int) → Int → Int
  | 0, F => F
  | n + 1, F => fun s => addP n F s + F (s - ((n : Int) + 1))
theorem addP_add (F G : Int → Int) : ∀ n s, addP n (fun x => F x + G x) s = addP n F s + addP n G s
  | 0, _ => rfl
  | n + 1, s => by simp only [addP]; rw [addP_add F G n s]; omega
theorem addP_shift (F : Int → Int) (d : Int) : ∀ n s, addP n (fun x => F (x - d)) s = addP n F (s - d)
  | 0, _ => rfl
  | n + 1, s => by
    simp only [addP]; rw [addP_shift F d n s]
    congr 2; omega
theorem addP_comm (F : Int → Int) (n : Nat) : ∀ m, addP n (addP m F) = addP m (addP n F)
  | 0 => rfl
  | m + 1 => by
    funext s
    have h := congrFun (addP_comm F n m) s
    simp only [addP]
    rw [addP_add (addP m F) (fun x => F (x - ((m : Int) + 1))) n s, addP_shift F _ n s, h]
/-- In how many ways s comes out of the first k places. -/
def waysZ (fr : Nat → Nat) : Nat → Int → Int
  | 0, s => if s = 0 then 1 else 0
  | k + 1, s => addP (fr k) (waysZ fr k) s
theorem waysZ_succ (fr : Nat → Nat) (k : Nat) : waysZ fr (k + 1) = addP (fr k) (waysZ fr k) := rfl
theorem waysZ_congr {f g : Nat → Nat} : ∀ k, (∀ i, i < k → f i = g i) → waysZ f k = waysZ g k
  | 0, _ => rfl
  | k + 1, h => by rw [waysZ_succ, waysZ_succ, h k (by omega), waysZ_congr k (fun i hi => h i (by omega))]
def updN (f : Nat → Nat) (j x : Nat) : Nat → Nat := fun i => if i = j then x else f i
theorem waysZ_peel (fr : Nat → Nat) {p : Nat} : ∀ k, p < k → waysZ fr k = addP (fr p) (waysZ (updN fr p 0) k)
  | k + 1, h => by
    rw [waysZ_succ, waysZ_succ]
    by_cases e : p = k
    · subst e
      rw [show updN fr p 0 p = 0 by simp [updN], waysZ_congr (g := updN fr p 0) p (fun i hi => by unfold updN; rw [if_neg (by omega)])]
      rfl
    · rw [waysZ_peel (p := p) fr k (by omega), addP_comm, show updN fr p 0 k = fr k by unfold updN; rw [if_neg (fun h => e h.symm)]]
theorem addP_zero : ∀ n s, addP n (fun _ => 0) s = 0
  | 0, _ => rfl
  | n + 1, s => by simp only [addP]; rw [addP_zero n s]; rfl
theorem addP_one (a : Nat) (v : Int) : ∀ n s, addP n (fun x => if x = (a : Int) then v else 0) s = if (a : Int) ≤ s ∧ s ≤ a + n then v else 0
  | 0, s => by
    simp only [addP]
    by_cases h : s = (a : Int)
    · rw [if_pos h, if_pos (by omega)]
    · rw [if_neg h, if_neg (by omega)]
  | n + 1, s => by
    simp only [addP]
    rw [addP_one a v n s]
    by_cases h : s - ((n : Int) + 1) = (a : Int)
    · rw [if_pos h, if_neg (by omega), if_pos (by omega)]; omega
    · rw [if_neg h]
      by_cases h2 : (a : Int) ≤ s ∧ s ≤ a + n
      · rw [if_pos h2, if_pos (by omega)]; omega
      · rw [if_neg h2, if_neg (by omega)]; rfl
/-- F at 0, .., n - 1 alone. -/
def cutZ (F : Nat → Int) (n : Nat) : Int → Int := fun x => if 0 ≤ x ∧ x < n then F x.toNat else 0
theorem cutZ_succ (F : Nat → Int) (n : Nat) : cutZ F (n + 1) = fun x => cutZ F n x + (if x = (n : Int) then F n else 0) := by
  funext x
  unfold cutZ
  by_cases h : x = (n : Int)
  · subst h
    rw [if_pos (by omega), if_neg (by omega), if_pos rfl, Int.toNat_natCast]; omega
  · rw [if_neg h]
    by_cases h2 : 0 ≤ x ∧ x < n
    · rw [if_pos h2, if_pos (by omega)]; omega
    · rw [if_neg h2, if_neg (by omega)]; rfl
theorem conv_addP (F : Nat → Int) (fr : Nat) : ∀ n (s : Nat), conv F fr n s = addP fr (cutZ F n) (s : Int)
  | 0, s => by
    rw [show cutZ F 0 = fun _ => 0 from by funext x; unfold cutZ; rw [if_neg (by omega)], addP_zero]; rfl
  | n + 1, s => by
    rw [cutZ_succ, addP_add, addP_one, ← conv_addP F fr n s]
    simp only [conv]
    congr 1
    by_cases h : n ≤ s ∧ s ≤ n + fr
    · rw [if_pos h, if_pos (by omega)]
    · rw [if_neg h, if_neg (by omega)]
theorem addP_neg {F : Int → Int} (h : ∀ x, x < 0 → F x = 0) : ∀ n s, s < 0 → addP n F s = 0
  | 0, s, hs => h s hs
  | n + 1, s, hs => by simp only [addP]; rw [addP_neg h n s hs, h _ (by omega)]; rfl
theorem addP_high {F : Int → Int} {L : Int} (h : ∀ x, L ≤ x → F x = 0) : ∀ (n : Nat) (s : Int), L + (n : Int) ≤ s → addP n F s = 0
  | 0, s, hs => h s (by omega)
  | n + 1, s, hs => by simp only [addP]; rw [addP_high h n s (by omega), h _ (by omega)]; rfl
theorem waysZ_neg (fr : Nat → Nat) : ∀ k s, s < 0 → waysZ fr k s = 0
  | 0, s, h => by simp only [waysZ]; rw [if_neg (by omega)]
  | k + 1, s, h => by simp only [waysZ]; exact addP_neg (waysZ_neg fr k) _ s h
theorem waysZ_high (fr : Nat → Nat) : ∀ k s, (lenN fr k : Int) ≤ s → waysZ fr k s = 0
  | 0, s, h => by simp only [lenN] at h; simp only [waysZ]; rw [if_neg (by omega)]
  | k + 1, s, h => by
    simp only [waysZ]; simp only [lenN] at h
    exact addP_high (L := lenN fr k) (waysZ_high fr k) _ s (by omega)
/-- The reference's list bears the same numbers. -/
theorem waysN_waysZ (fr : Nat → Nat) : ∀ k (s : Nat), waysN fr k s = waysZ fr k (s : Int)
  | 0, s => by
    simp only [waysN, waysZ]
    by_cases h : s = 0
    · subst h; rfl
    · rw [if_neg h, if_neg (by omega)]
  | k + 1, s => by
    simp only [waysN, waysZ]
    rw [conv_addP, show cutZ (waysN fr k) (lenN fr k) = waysZ fr k from ?_]
    funext x
    unfold cutZ
    by_cases h : 0 ≤ x ∧ x < (lenN fr k : Int)
    · rw [if_pos h, waysN_waysZ fr k, show ((x.toNat : Nat) : Int) = x by omega]
    · rw [if_neg h]
      by_cases h2 : x < 0
      · exact (waysZ_neg fr k x h2).symm
      · exact (waysZ_high fr k x (by omega)).symm
/-- The sum that the code adds up: so many given, one after another. -/
def sumG (F : Int → Int) (s : Int) : Nat → Int
  | 0 => 0
  | n + 1 => sumG F s n + F (s - (n : Int))
theorem sumG_addP (F : Int → Int) (s : Int) : ∀ n, sumG F s (n + 1) = addP n F s
  | 0 => by simp [sumG, addP]
  | n + 1 => by
    rw [sumG, sumG_addP F s n]
    simp only [addP]; rfl
theorem addP_cap {F : Int → Int} (h : ∀ x, x < 0 → F x = 0) : ∀ (n : Nat) (s : Nat), addP n F (s : Int) = addP (min n s) F (s : Int)
  | 0, s => by rw [Nat.zero_min]
  | n + 1, s => by
    by_cases e : n + 1 ≤ s
    · rw [Nat.min_eq_left e]
    · rw [Nat.min_eq_right (by omega)]
      simp only [addP]
      rw [addP_cap h n s, Nat.min_eq_right (by omega), h _ (by omega)]; omega
/-- How many of the first k places may give something. -/
def posN (f : Nat → Int) : Nat → Nat
  | 0 => 0
  | k + 1 => posN f k + (if 0 < f k then 1 else 0)
theorem posN_le (f : Nat → Int) : ∀ k, posN f k ≤ k
  | 0 => by simp [posN]
  | k + 1 => by have := posN_le f k; simp only [posN]; split <;> omega
theorem posN_congr {f g : Nat → Int} : ∀ k, (∀ i, i < k → f i = g i) → posN f k = posN g k
  | 0, _ => rfl
  | k + 1, h => by simp only [posN]; rw [h k (by omega), posN_congr k (fun i hi => h i (by omega))]
theorem posN_upd {f : Nat → Int} {p : Nat} (hp : 0 < f p) : ∀ k, p < k → posN f k = posN (updI f p 0) k + 1
  | k + 1, h => by
    simp only [posN]
    by_cases e : p = k
    · subst e
      rw [updI_at, if_pos hp, if_neg (by omega), posN_congr (g := updI f p 0) p (fun i hi => (updI_ne f 0 (by omega)).symm)]
    · rw [posN_upd hp k (by omega), updI_ne f 0 (fun h => e h.symm)]; omega
theorem posN_zero {f : Nat → Int} : ∀ k, (∀ i, i < k → ¬ 0 < f i) → posN f k = 0
  | 0, _ => rfl
  | k + 1, h => by simp only [posN]; rw [posN_zero k (fun i hi => h i (by omega)), if_neg (h k (by omega))]
/-- The room of a place. -/
def rmN (f : Nat → Int) (i : Nat) : Nat := (f i).toNat
def cntZ (f : Nat → Int) (s : Int) : Int := waysZ (rmN f) 6 s
theorem cntZ_peel {f : Nat → Int} {p : Nat} (hp : p < 6) (s : Nat) : cntZ f (s : Int) = sumG (cntZ (updI f p 0)) (s : Int) (min (f p).toNat s + 1) := by
  unfold cntZ
  rw [waysZ_peel (rmN f) 6 hp, sumG_addP, show waysZ (updN (rmN f) p 0) 6 = waysZ (rmN (updI f p 0)) 6 from waysZ_congr 6 (fun i _ => by
    unfold updN rmN updI
    split <;> rfl)]
  exact addP_cap (waysZ_neg _ 6) _ s
theorem addP_fr_zero {F : Int → Int} : addP 0 F = F := rfl
theorem waysZ_none {fr : Nat → Nat} : ∀ k s, (∀ i, i < k → fr i = 0) → waysZ fr k s = if s = 0 then 1 else 0
  | 0, _, _ => rfl
  | k + 1, s, h => by rw [waysZ_succ, h k (by omega)]; exact waysZ_none k s (fun i hi => h i (by omega))
theorem cntZ_none {f : Nat → Int} (h : ∀ i, i < 6 → ¬ 0 < f i) (s : Int) : cntZ f s = if s = 0 then 1 else 0 :=
  waysZ_none 6 s (fun i hi => by have := h i hi; unfold rmN; omega)
theorem addP_range {F : Int → Int} {M : Int} (h : ∀ x, 0 ≤ F x ∧ F x ≤ M) : ∀ n s, 0 ≤ addP n F s ∧ addP n F s ≤ (n + 1) * M
  | 0, s => by have := h s; simp only [addP]; omega
  | n + 1, s => by
    have h1 := addP_range h n s
    have h2 := h (s - ((n : Int) + 1))
    have h3 : (((n + 1 : Nat) : Int) + 1) * M = ((n : Int) + 1) * M + M := by rw [Int.natCast_add, Int.add_mul]; simp
    simp only [addP]
    omega
theorem waysZ_range {fr : Nat → Nat} : ∀ k s, (∀ i, i < k → fr i ≤ 60) → 0 ≤ waysZ fr k s ∧ waysZ fr k s ≤ 61 ^ k
  | 0, s, _ => by simp only [waysZ]; split <;> simp
  | k + 1, s, h => by
    have hM : (0 : Int) ≤ 61 ^ k := Int.pow_nonneg (by omega)
    have h1 := addP_range (F := waysZ fr k) (M := 61 ^ k) (fun x => waysZ_range k x (fun i hi => h i (by omega))) (fr k) s
    have h2 := h k (by omega)
    have h3 : ((fr k : Int) + 1) * 61 ^ k ≤ 61 * 61 ^ k := Int.mul_le_mul_of_nonneg_right (by omega) hM
    simp only [waysZ]
    rw [Int.pow_succ]
    omega
theorem cntZ_range {f : Nat → Int} (h : ∀ i, i < 6 → 0 ≤ f i ∧ f i ≤ 60) (s : Int) : 0 ≤ cntZ f s ∧ cntZ f s ≤ 51520374361 := by
  have := waysZ_range (fr := rmN f) 6 s (fun i hi => by have := h i hi; unfold rmN; omega)
  unfold cntZ
  omega
theorem sumG_range {F : Int → Int} (h : ∀ x, 0 ≤ F x ∧ F x ≤ 51520374361) (s : Int) : ∀ n : Nat, 0 ≤ sumG F s n ∧ sumG F s n ≤ 51520374361 * n
  | 0 => by simp [sumG]
  | n + 1 => by
    have h1 := sumG_range h s n
    have h2 := h (s - (n : Int))
    simp only [sumG]; omega
end Yx
end Go.Proofs.Ytfnlkadcidfhoaa
