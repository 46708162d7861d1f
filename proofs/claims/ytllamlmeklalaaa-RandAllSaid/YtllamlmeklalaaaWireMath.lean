/- Layer 2: the bytes of numbers and lists, and what bytes tell: plain facts, without the program. -/
import Derived.WalkKit
import Derived.Laws.BytesArg
import Derived.Lib.BitFns
namespace Go.Proofs.Ytllamlmeklalaaa
namespace Wx
open Go.RowKit

/-- What stands for a number. -/
def stn (n : Int) : Nat := if 0 ≤ n then (2 * n).toNat else (-2 * n - 1).toNat
/-- The number for which one stands. -/
def unf (x : Nat) : Int := if x % 2 = 0 then ((x / 2 : Nat) : Int) else -((x / 2 : Nat) : Int) - 1
def i64B (n : Int) : Prop := -9223372036854775808 ≤ n ∧ n ≤ 9223372036854775807
theorem stn_lt {n : Int} (h : i64B n) : stn n < 18446744073709551616 := by
  unfold i64B at h; unfold stn; split <;> omega
theorem unf_stn (n : Int) : unf (stn n) = n := by
  unfold unf stn; split <;> split <;> omega
theorem stn_unf (x : Nat) : stn (unf x) = x := by
  unfold unf stn; split <;> split <;> omega
theorem unf_i64 {x : Nat} (h : x < 18446744073709551616) : i64B (unf x) := by
  unfold i64B unf; split <;> omega

/-- A number's bytes, with so many behind the first at most. -/
def en : Nat → Nat → List Int
  | 0, x => [(x : Int)]
  | f + 1, x => if x < 128 then [(x : Int)] else ((x % 128 + 128 : Nat) : Int) :: en f (x / 128)
def bts (n : Int) : List Int := en 9 (stn n)
def lst (l : List Int) : List Int := bts l.length ++ l.flatMap bts

def byB (l : List Int) : Prop := ∀ b ∈ l, 0 ≤ b ∧ b < 256
theorem byB_nil : byB [] := by intro b h; cases h
theorem byB_append {a b : List Int} (ha : byB a) (hb : byB b) : byB (a ++ b) := by
  intro x hx; rcases List.mem_append.1 hx with h | h
  · exact ha x h
  · exact hb x h
theorem byB_cons {x : Int} {b : List Int} (h0 : 0 ≤ x) (h1 : x < 256) (hb : byB b) : byB (x :: b) := by
  intro y hy; rcases List.mem_cons.1 hy with h | h
  · subst h; exact ⟨h0, h1⟩
  · exact hb y h
theorem byB_drop {a : List Int} (k : Nat) (h : byB a) : byB (a.drop k) := fun x hx => h x (List.mem_of_mem_drop hx)
theorem byB_take {a : List Int} (k : Nat) (h : byB a) : byB (a.take k) := fun x hx => h x (List.mem_of_mem_take hx)

theorem en_byB : ∀ (f x : Nat), x < 128 ^ (f + 1) → byB (en f x)
  | 0, x, h => by
    intro b hb; simp [en] at hb; subst hb; omega
  | f + 1, x, h => by
    simp only [en]; split
    · intro b hb; simp at hb; subst hb; omega
    · refine byB_cons (by omega) (by omega) (en_byB f _ ?_)
      rw [Nat.pow_succ] at h; omega
theorem pow10 : (128 : Nat) ^ (9 + 1) = 1180591620717411303424 := by decide
theorem bts_byB {n : Int} (h : i64B n) : byB (bts n) := by
  have := stn_lt h
  refine en_byB 9 _ ?_; rw [pow10]; omega
theorem flat_byB {l : List Int} (h : ∀ n ∈ l, i64B n) : byB (l.flatMap bts) := by
  intro b hb
  obtain ⟨n, hn, hb⟩ := List.mem_flatMap.1 hb
  exact bts_byB (h n hn) b hb
theorem en_len : ∀ (f x : Nat), 1 ≤ (en f x).length ∧ (en f x).length ≤ f + 1
  | 0, x => by simp [en]
  | f + 1, x => by
    have := en_len f (x / 128)
    simp only [en]; split <;> simp <;> omega
theorem bts_len (n : Int) : 1 ≤ (bts n).length ∧ (bts n).length ≤ 10 := en_len 9 _
theorem flat_len (l : List Int) : (l.flatMap bts).length ≤ 10 * l.length := by
  induction l with
  | nil => simp
  | cons a l ih => have := bts_len a; simp only [List.flatMap_cons, List.length_append, List.length_cons]; omega
theorem lst_len (l : List Int) : (lst l).length ≤ 10 * l.length + 10 := by
  have := flat_len l; have := bts_len (l.length : Int); unfold lst; simp only [List.length_append]; omega
theorem i64B_len {l : List Int} (h : l.length ≤ 9223372036854775807) : i64B (l.length : Int) := by unfold i64B; omega
theorem lst_byB {l : List Int} (h : ∀ n ∈ l, i64B n) (hl : l.length ≤ 9223372036854775807) : byB (lst l) :=
  byB_append (bts_byB (i64B_len hl)) (flat_byB h)

/-- How many bytes a number has, by its bits. -/
theorem en_bits : ∀ (f x : Nat), x < 128 ^ (f + 1) → x < 18446744073709551616 → (en f x).length = (max (Lib.bitLen x) 1 + 6) / 7
  | 0, x, h, _ => by
    have h' : x < 2 ^ 7 := by simpa using h
    have := Lib.bitLen_le x 7 (by omega) h'
    simp [en]; omega
  | f + 1, x, h, h64 => by
    simp only [en]; split
    · rename_i hx
      have := Lib.bitLen_le x 7 (by omega) (show x < 2 ^ 7 by omega)
      simp; omega
    · rename_i hx
      have ih := en_bits f (x / 128) (by rw [Nat.pow_succ] at h; omega) (by omega)
      have hs := Lib.bitLen_shift 7 x (by omega) h64
      rw [show (2 : Nat) ^ 7 = 128 by decide] at hs
      have hp : 1 ≤ Lib.bitLen (x / 128) := by
        rw [Lib.bitLen_half _ (by omega) (by omega)]; omega
      rw [List.length_cons, ih, hs]; omega
theorem bts_bits {n : Int} (h : i64B n) : (bts n).length = (max (Lib.bitLen (stn n)) 1 + 6) / 7 := by
  have := stn_lt h
  exact en_bits 9 _ (by rw [pow10]; omega) this

/-- With which number bytes begin, how many it has, an error's number: from place i on, x told so far. -/
def dec : Nat → Nat → List Int → Int × Nat × Int
  | _, _, [] => (0, 0, 7)
  | i, x, b :: r =>
    if (b = 0 ∧ 0 < i) ∨ (i = 9 ∧ 1 < b) then (0, 0, 2)
    else if b < 128 then (unf (x + 128 ^ i * b.toNat), i + 1, 0)
    else dec (i + 1) (x + 128 ^ i * (b.toNat - 128)) r
def tk (l : List Int) : Int × Nat × Int := dec 0 0 l

theorem dec_drop {l : List Int} {k y : Nat} (h : k < l.length) : dec k y (l.drop k) = dec k y (l[k] :: l.drop (k + 1)) := by
  rw [List.drop_eq_getElem_cons h]
theorem dec_zero {l : List Int} {k y : Nat} (h : k < l.length) (hb : l[k] = 0) (hk : 0 < k) : dec k y (l.drop k) = (0, 0, 2) := by
  rw [dec_drop h, dec, if_pos (Or.inl ⟨hb, hk⟩)]
theorem dec_ten {l : List Int} {y : Nat} (h : 9 < l.length) (hb : 1 < l[9]) : dec 9 y (l.drop 9) = (0, 0, 2) := by
  rw [dec_drop h, dec, if_pos (Or.inr ⟨rfl, hb⟩)]
theorem dec_last {l : List Int} {k y : Nat} (h : k < l.length) (hb : l[k] < 128) (h0 : ¬ (l[k] = 0 ∧ 0 < k)) (h9 : ¬ (k = 9 ∧ 1 < l[k])) :
    dec k y (l.drop k) = (unf (y + 128 ^ k * l[k].toNat), k + 1, 0) := by
  rw [dec_drop h, dec, if_neg (fun h' => h'.elim h0 h9), if_pos hb]
theorem dec_more {l : List Int} {k y : Nat} (h : k < l.length) (hb : 128 ≤ l[k]) (h9 : k < 9) :
    dec k y (l.drop k) = dec (k + 1) (y + 128 ^ k * (l[k].toNat - 128)) (l.drop (k + 1)) := by
  rw [dec_drop h, dec, if_neg (by omega), if_neg (by omega)]

/-- What a result is: an error, or a number of at most ten bytes. -/
theorem dec_range : ∀ (l : List Int) (i x : Nat), byB l → i ≤ 9 → x < 128 ^ i → ∀ n k e, dec i x l = (n, k, e) →
    (n = 0 ∧ k = 0 ∧ (e = 2 ∨ e = 7)) ∨ (e = 0 ∧ i < k ∧ k ≤ i + l.length ∧ k ≤ 10 ∧ ∃ y, y < 18446744073709551616 ∧ n = unf y ∧ en (9 - i) (y / 128 ^ i) = l.take (k - i) ∧ y % 128 ^ i = x)
  | [], i, x, _, _, _ => by
    intro n k e h; simp [dec] at h; omega
  | b :: r, i, x, hb, hi, hx => by
    intro n k e h
    have hb0 := hb b (by simp)
    have hr : byB r := fun y hy => hb y (by simp [hy])
    rw [dec] at h
    by_cases h1 : (b = 0 ∧ 0 < i) ∨ (i = 9 ∧ 1 < b)
    · rw [if_pos h1] at h; simp at h; omega
    · rw [if_neg h1] at h
      obtain ⟨c, rfl⟩ := Int.eq_ofNat_of_zero_le hb0.1
      rw [Int.toNat_natCast] at h
      have hp : 0 < 128 ^ i := Nat.pow_pos (by decide)
      have hdiv : ∀ d, (x + 128 ^ i * d) / 128 ^ i = d := fun d => by
        rw [Nat.add_mul_div_left _ _ hp, Nat.div_eq_of_lt hx, Nat.zero_add]
      have hmod : ∀ d, (x + 128 ^ i * d) % 128 ^ i = x := fun d => by
        rw [Nat.add_mul_mod_self_left, Nat.mod_eq_of_lt hx]
      by_cases h2 : (c : Int) < 128
      · rw [if_pos h2] at h
        simp only [Prod.mk.injEq] at h
        obtain ⟨rfl, rfl, rfl⟩ := h
        right
        refine ⟨rfl, by omega, by simp, by omega, _, ?_, rfl, ?_, hmod c⟩
        · by_cases h9 : i = 9
          · subst h9
            have hc : c ≤ 1 := by omega
            have : 128 ^ 9 * c ≤ 128 ^ 9 * 1 := Nat.mul_le_mul_left _ hc
            rw [show (128 : Nat) ^ 9 = 9223372036854775808 by decide] at this hx ⊢
            omega
          · have h8 : 128 ^ i ≤ 128 ^ 8 := Nat.pow_le_pow_right (by decide) (by omega)
            have : 128 ^ i * c ≤ 128 ^ i * 127 := Nat.mul_le_mul_left _ (by omega)
            rw [show (128 : Nat) ^ 8 = 72057594037927936 by decide] at h8
            omega
        · rw [hdiv, show i + 1 - i = 1 by omega]
          cases hj : 9 - i with
          | zero => simp [en]
          | succ j => rw [en, if_pos (by omega)]; simp
      · rw [if_neg h2] at h
        have hi9 : i < 9 := by
          rcases Nat.lt_or_ge i 9 with h' | h'
          · exact h'
          · exact absurd (Or.inr ⟨by omega, by omega⟩) h1
        have hx' : x + 128 ^ i * (c - 128) < 128 ^ (i + 1) := by
          have : 128 ^ i * (c - 128) ≤ 128 ^ i * 127 := Nat.mul_le_mul_left _ (by omega)
          rw [Nat.pow_succ]; omega
        rcases dec_range r (i + 1) _ hr (by omega) hx' n k e h with h' | ⟨rfl, h3, h4, h5, y, hy, rfl, hen, hym⟩
        · exact Or.inl h'
        · right
          refine ⟨rfl, by omega, by simp; omega, h5, y, hy, rfl, ?_, ?_⟩
          · obtain ⟨j, hj⟩ : ∃ j, k - i = j + 1 := ⟨k - i - 1, by omega⟩
            have hyi : y / 128 ^ i % 128 = c - 128 := by
              have e1 : y % 128 ^ (i + 1) / 128 ^ i = c - 128 := by rw [hym, hdiv]
              rw [Nat.pow_succ, Nat.mod_mul_right_div_self] at e1
              exact e1
            have hyd : y / 128 ^ i / 128 = y / 128 ^ (i + 1) := by rw [Nat.div_div_eq_div_mul, Nat.pow_succ]
            have hnz : ¬ y / 128 ^ i < 128 := by
              intro hlt
              have h0 : y / 128 ^ (i + 1) = 0 := by rw [← hyd]; exact Nat.div_eq_of_lt hlt
              rw [h0] at hen
              -- the last byte would be 0
              have : en (9 - (i + 1)) 0 = [0] := by cases 9 - (i + 1) <;> simp [en]
              rw [this] at hen
              cases r with
              | nil => simp at h4; omega
              | cons d r' =>
                obtain ⟨j', hj'⟩ : ∃ j', k - (i + 1) = j' + 1 := ⟨k - (i + 1) - 1, by omega⟩
                rw [hj', List.take_succ_cons] at hen
                simp at hen
                obtain ⟨hd, _⟩ := hen
                rw [dec, if_pos (Or.inl ⟨hd.symm, by omega⟩)] at h
                simp at h
            rw [hj, List.take_succ_cons, show 9 - i = (9 - (i + 1)) + 1 by omega, en, if_neg hnz, hyi, hyd, hen, show k - (i + 1) = j by omega]
            have ec : ((c - 128 + 128 : Nat) : Int) = (c : Int) := by omega
            rw [ec]
          · have e1 : y % 128 ^ (i + 1) % 128 ^ i = x := by rw [hym, hmod]
            rw [Nat.pow_succ, Nat.mod_mul_right_mod] at e1
            exact e1

/-- A number's bytes tell it, whatever stands behind. -/
theorem dec_en : ∀ (f i x y : Nat) (r : List Int), f + i = 9 → x < 128 ^ i → x + 128 ^ i * y < 18446744073709551616 → (0 < i → 0 < y) →
    dec i x (en f y ++ r) = (unf (x + 128 ^ i * y), i + (en f y).length, 0)
  | 0, i, x, y, r, hi, hx, h, hy => by
    have hi : i = 9 := by omega
    subst hi
    rw [show (128 : Nat) ^ 9 = 9223372036854775808 by decide] at h
    simp only [en, List.singleton_append]
    rw [dec, if_neg (by omega), if_pos (by omega)]
    simp
  | f + 1, i, x, y, r, hi, hx, h, hy => by
    simp only [en]
    split
    · rename_i hlt
      simp only [List.singleton_append]
      rw [dec, if_neg (by omega), if_pos (by omega)]
      simp
    · rename_i hge
      simp only [List.cons_append]
      have hsum : x + 128 ^ i * (y % 128) + 128 ^ (i + 1) * (y / 128) = x + 128 ^ i * y := by
        have := Nat.div_add_mod y 128
        rw [Nat.pow_succ, Nat.add_assoc, Nat.mul_assoc, ← Nat.mul_add]
        congr 2; omega
      rw [dec, if_neg (by omega), if_neg (by omega)]
      rw [show (((y % 128 + 128 : Nat) : Int).toNat - 128) = y % 128 by omega]
      have hp : 0 < 128 ^ i := Nat.pow_pos (by decide)
      rw [dec_en f (i + 1) _ (y / 128) r (by omega) ?_ (by rw [hsum]; exact h) (by omega), hsum, List.length_cons]
      · congr 2; omega
      · have : 128 ^ i * (y % 128) ≤ 128 ^ i * 127 := Nat.mul_le_mul_left _ (by omega)
        rw [Nat.pow_succ]; omega
theorem tk_bts {n : Int} (h : i64B n) (r : List Int) : tk (bts n ++ r) = (n, (bts n).length, 0) := by
  have := dec_en 9 0 0 (stn n) r rfl (by decide) (by simpa using stn_lt h) (by omega)
  unfold tk bts
  rw [this]; simp [unf_stn]
theorem tk_range {l : List Int} (hl : byB l) {n : Int} {k : Nat} {e : Int} (h : tk l = (n, k, e)) :
    (n = 0 ∧ k = 0 ∧ (e = 2 ∨ e = 7)) ∨ (e = 0 ∧ 0 < k ∧ k ≤ l.length ∧ k ≤ 10 ∧ i64B n ∧ bts n = l.take k) := by
  rcases dec_range l 0 0 hl (by omega) (by decide) n k e h with h1 | ⟨h1, h2, h3, h4, y, hy, rfl, hen, _⟩
  · exact Or.inl h1
  · right
    refine ⟨h1, h2, by omega, h4, unf_i64 hy, ?_⟩
    unfold bts
    rw [stn_unf]
    simpa using hen

/-- The next so many numbers: the list so far, the place. -/
def more : Nat → List Int → Nat → List Int → List Int × Nat × Int
  | 0, _, at', acc => (acc, at', 0)
  | m + 1, l, at', acc => if (tk (l.drop at')).2.2 ≠ 0 then ([], 0, (tk (l.drop at')).2.2) else more m l (at' + (tk (l.drop at')).2.1) (acc ++ [(tk (l.drop at')).1])
/-- With which list bytes begin, how many it has, an error's number. -/
def tl (l : List Int) (most : Int) : List Int × Nat × Int :=
  if (tk l).2.2 ≠ 0 then ([], 0, (tk l).2.2) else if (tk l).1 < 0 then ([], 0, 1) else if most < (tk l).1 then ([], 0, 19) else more (tk l).1.toNat l (tk l).2.1 []

theorem more_bad {m : Nat} {l : List Int} {a : Nat} {acc : List Int} {n : Int} {k : Nat} {e : Int} (h : tk (l.drop a) = (n, k, e)) (he : e ≠ 0) : more (m + 1) l a acc = ([], 0, e) := by
  rw [more, h]; simp [he]
theorem more_ok {m : Nat} {l : List Int} {a : Nat} {acc : List Int} {n : Int} {k : Nat} (h : tk (l.drop a) = (n, k, 0)) : more (m + 1) l a acc = more m l (a + k) (acc ++ [n]) := by
  rw [more, h]; simp
theorem more_range : ∀ (m : Nat) (l : List Int) (a : Nat) (acc : List Int), byB l → a ≤ l.length → (∀ n ∈ acc, i64B n) → ∀ r k e, more m l a acc = (r, k, e) →
    (r = [] ∧ k = 0 ∧ (e = 2 ∨ e = 7)) ∨ (e = 0 ∧ a ≤ k ∧ k ≤ l.length ∧ ∃ s, r = acc ++ s ∧ s.length = m ∧ (∀ n ∈ s, i64B n) ∧ l.drop a = s.flatMap bts ++ l.drop k)
  | 0, l, a, acc, _, ha, _ => by
    intro r k e h; simp [more] at h
    obtain ⟨rfl, rfl, rfl⟩ := h
    exact Or.inr ⟨rfl, Nat.le_refl _, ha, [], by simp⟩
  | m + 1, l, a, acc, hl, ha, hacc => by
    intro r k e h
    obtain ⟨n, j, e1, ht⟩ : ∃ n j e1, tk (l.drop a) = (n, j, e1) := ⟨_, _, _, rfl⟩
    rcases tk_range (byB_drop a hl) ht with ⟨_, _, h1⟩ | ⟨rfl, h1, h2, h3, h4, h5⟩
    · rw [more_bad ht (by omega)] at h; simp at h
      obtain ⟨rfl, rfl, rfl⟩ := h
      exact Or.inl ⟨rfl, rfl, h1⟩
    · rw [more_ok ht] at h
      rw [List.length_drop] at h2
      rcases more_range m l (a + j) (acc ++ [n]) hl (by omega) (by intro x hx; rcases List.mem_append.1 hx with h' | h'; · exact hacc x h'
                                                                   · simp at h'; subst h'; exact h4) r k e h with h' | ⟨rfl, h6, h7, s, rfl, h8, h9, h10⟩
      · exact Or.inl h'
      · right
        refine ⟨rfl, by omega, h7, n :: s, by simp, by simp [h8], ?_, ?_⟩
        · intro x hx; rcases List.mem_cons.1 hx with h' | h'
          · subst h'; exact h4
          · exact h9 x h'
        · rw [List.flatMap_cons, h5, List.append_assoc, ← h10, ← List.drop_drop, List.take_append_drop]
theorem tl_range {l : List Int} (hl : byB l) (most : Int) {r : List Int} {k : Nat} {e : Int} (h : tl l most = (r, k, e)) :
    (r = [] ∧ k = 0 ∧ (e = 1 ∨ e = 2 ∨ e = 7 ∨ e = 19)) ∨ (e = 0 ∧ k ≤ l.length ∧ (∀ n ∈ r, i64B n) ∧ l = lst r ++ l.drop k) := by
  unfold tl at h
  obtain ⟨n, j, e1, ht⟩ : ∃ n j e1, tk l = (n, j, e1) := ⟨_, _, _, rfl⟩
  rw [ht] at h
  rcases tk_range hl ht with ⟨_, _, h1⟩ | ⟨rfl, h1, h2, h3, h4, h5⟩
  · rw [if_pos (by show e1 ≠ 0; omega)] at h; simp at h
    obtain ⟨rfl, rfl, rfl⟩ := h
    exact Or.inl ⟨rfl, rfl, by omega⟩
  · rw [if_neg (by simp)] at h
    by_cases hn : n < 0
    · rw [if_pos hn] at h; simp at h
      obtain ⟨rfl, rfl, rfl⟩ := h
      exact Or.inl ⟨rfl, rfl, by omega⟩
    · rw [if_neg hn] at h
      by_cases hm : most < n
      · rw [if_pos hm] at h; simp at h
        obtain ⟨rfl, rfl, rfl⟩ := h
        exact Or.inl ⟨rfl, rfl, by omega⟩
      · rw [if_neg hm] at h
        rcases more_range n.toNat l j [] hl h2 (by intro x hx; cases hx) r k e h with ⟨h6, h7, h8⟩ | ⟨rfl, h6, h7, s, rfl, h8, h9, h10⟩
        · exact Or.inl ⟨h6, h7, by omega⟩
        · right
          refine ⟨rfl, h7, by simpa using h9, ?_⟩
          unfold lst
          rw [h8, Int.toNat_of_nonneg (by omega), List.append_assoc, ← h10, h5, List.take_append_drop]

theorem more_flat : ∀ (s : List Int) (l : List Int) (a : Nat) (acc : List Int) (r : List Int), (∀ n ∈ s, i64B n) → l.drop a = s.flatMap bts ++ r →
    more s.length l a acc = (acc ++ s, a + (s.flatMap bts).length, 0)
  | [], l, a, acc, r, _, _ => by simp [more]
  | n :: s, l, a, acc, r, h, hd => by
    rw [List.flatMap_cons, List.append_assoc] at hd
    have ht := tk_bts (h n (by simp)) (s.flatMap bts ++ r)
    rw [← hd] at ht
    rw [List.length_cons, more_ok ht, more_flat s l _ (acc ++ [n]) r (fun x hx => h x (by simp [hx])) ?_]
    · simp [Nat.add_assoc]
    · rw [← List.drop_drop, hd, List.drop_left]
/-- A list's bytes tell it, whatever stands behind. -/
theorem tl_lst {s : List Int} (hs : ∀ n ∈ s, i64B n) (hl : s.length ≤ 9223372036854775807) (r : List Int) (most : Int) (hm : (s.length : Int) ≤ most) :
    tl (lst s ++ r) most = (s, (lst s).length, 0) := by
  unfold tl
  have ht : tk (lst s ++ r) = ((s.length : Int), (bts (s.length : Int)).length, (0 : Int)) := by
    unfold lst; rw [List.append_assoc]; exact tk_bts (i64B_len hl) _
  rw [ht]
  simp only [ne_eq, not_true_eq_false, if_false]
  rw [if_neg (by omega), if_neg (by omega), Int.toNat_natCast, more_flat s _ _ [] r hs]
  · unfold lst; simp
  · unfold lst; rw [List.append_assoc, List.drop_left]
/-- Of the bytes of two lists none begin with the other ones'. -/
theorem lst_apart {a b : List Int} (ha : ∀ n ∈ a, i64B n) (hb : ∀ n ∈ b, i64B n) (hal : a.length ≤ 9223372036854775807) (hbl : b.length ≤ 9223372036854775807) (r : List Int)
    (h : lst a ++ r = lst b) : a = b := by
  have h1 := tl_lst ha hal r (max a.length b.length) (by omega)
  have h2 := tl_lst hb hbl [] (max a.length b.length) (by omega)
  rw [List.append_nil, ← h, h1] at h2
  exact (Prod.mk.inj h2).1
theorem pre_eq {a b : List Int} (ha : ∀ n ∈ a, i64B n) (hb : ∀ n ∈ b, i64B n) (hal : a.length ≤ 9223372036854775807) (hbl : b.length ≤ 9223372036854775807) :
    (lst a).take (min (lst a).length (lst b).length) = (lst b).take (min (lst a).length (lst b).length) ↔ a = b := by
  constructor
  · intro h
    rcases Nat.le_total (lst a).length (lst b).length with hle | hle
    · rw [Nat.min_eq_left hle, List.take_length] at h
      refine lst_apart ha hb hal hbl ((lst b).drop (lst a).length) ?_
      rw [h]; simp [List.length_take, Nat.min_eq_left hle]
    · rw [Nat.min_eq_right hle, List.take_length] at h
      refine (lst_apart hb ha hbl hal ((lst a).drop (lst b).length) ?_).symm
      rw [← h]; simp [List.length_take, Nat.min_eq_left hle]
  · intro h; rw [h]

/-- Bytes as a string. -/
theorem str_inj {a b : List Int} (ha : byB a) (hb : byB b) : strOfNums a = strOfNums b ↔ a = b := by
  constructor
  · intro h
    have h1 : a.map (fun n => UInt8.ofNat n.toNat) = b.map (fun n => UInt8.ofNat n.toNat) := by rw [← strOfNums_data, ← strOfNums_data, h]
    apply List.ext_getElem?
    intro i
    have h2 := congrArg (fun l : List UInt8 => l[i]?) h1
    simp only [List.getElem?_map] at h2
    cases hx : a[i]? with
    | none => cases hy : b[i]? with
      | none => rfl
      | some y => simp [hx, hy] at h2
    | some x => cases hy : b[i]? with
      | none => simp [hx, hy] at h2
      | some y =>
        simp only [hx, hy, Option.map_some, Option.some.injEq] at h2
        have bx := ha x (List.mem_of_getElem? hx)
        have b_y := hb y (List.mem_of_getElem? hy)
        have h3 := congrArg UInt8.toNat h2
        simp only [UInt8.toNat_ofNat'] at h3
        congr 1; omega
  · intro h; rw [h]
theorem str_append (a b : List Int) : strOfNums a ++ strOfNums b = strOfNums (a ++ b) := by
  apply ByteArray.ext
  rw [ByteArray.data_append]
  unfold strOfNums
  simp
end Wx
end Go.Proofs.Ytllamlmeklalaaa
