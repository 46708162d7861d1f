/- Layer 4: costs and their texts, as lists of bytes. -/
import Derived.Lib.ItoaNum
import Derived.Lib.Repeat
import Derived.Lib.Bytealg
import Derived.Test.YtplfblccaeligaaDoorArr
namespace Go.Proofs.YtplfblccaeligaaDoor
namespace Mx
/-- A colour's letter. -/
def letN : Nat → UInt8
  | 0 => 87
  | 1 => 85
  | 2 => 66
  | 3 => 82
  | _ => 71
def letsB : List UInt8 := [87, 85, 66, 82, 71]
def GoodC (f : Nat → Int) : Prop := ∀ i, i < 6 → 0 ≤ f i ∧ f i ≤ 1000
def Few (f : Nat → Int) : Prop := ∀ i, i < 5 → f i ≤ 20
/-- The letters of the first k colours. -/
def lets (f : Nat → Int) : Nat → List UInt8
  | 0 => []
  | k + 1 => lets f k ++ List.replicate (f k).toNat (letN k)
def figs (f : Nat → Int) : List UInt8 := if f 5 ≠ 0 ∨ lets f 5 = [] then Lib.decDigits (f 5).toNat else []
def textL (f : Nat → Int) : List UInt8 := figs f ++ lets f 5
/-- s is f's text, and no letter more than 20 times. -/
def IsText (f : Nat → Int) (s : List UInt8) : Prop := GoodC f ∧ Few f ∧ s = textL f
theorem lets_congr {f g : Nat → Int} : ∀ k, (∀ i, i < k → f i = g i) → lets f k = lets g k
  | 0, _ => rfl
  | k + 1, h => by simp only [lets]; rw [lets_congr k (fun i hi => h i (by omega)), h k (by omega)]
theorem textL_congr {f g : Nat → Int} (h : ∀ i, i < 6 → f i = g i) : textL f = textL g := by
  unfold textL figs
  rw [lets_congr 5 (fun i hi => h i (by omega)), h 5 (by omega)]
theorem goodC_congr {f g : Nat → Int} (h : ∀ i, i < 6 → f i = g i) (hf : GoodC f) : GoodC g := fun i hi => by rw [← h i hi]; exact hf i hi
theorem few_congr {f g : Nat → Int} (h : ∀ i, i < 6 → f i = g i) (hf : Few f) : Few g := fun i hi => by rw [← h i (by omega)]; exact hf i hi
theorem isText_congr {f g : Nat → Int} {s : List UInt8} (h : ∀ i, i < 6 → f i = g i) (hf : IsText f s) : IsText g s := ⟨goodC_congr h hf.1, few_congr h hf.2.1, by rw [hf.2.2]; exact textL_congr h⟩
/-- The place of a letter, or -1. -/
def col (r : Int) : Int := if 0 ≤ r ∧ r < 128 then Lib.indexByte letsB r.toNat.toUInt8 else -1
theorem col_range (r : Int) : -1 ≤ col r ∧ col r < 5 := by
  unfold col
  split
  · rename_i h
    have hh : ∀ n : Fin 128, -1 ≤ Lib.indexByte letsB n.1.toUInt8 ∧ Lib.indexByte letsB n.1.toUInt8 < 5 := by decide +kernel
    exact hh ⟨r.toNat, by omega⟩
  · omega
theorem col_let : ∀ k, k < 5 → col (((letN k).toNat : Nat) : Int) = k := by
  intro k hk
  match k, hk with
  | 0, _ | 1, _ | 2, _ | 3, _ | 4, _ => decide
theorem let_range : ∀ k, 57 < (letN k).toNat ∧ (letN k).toNat < 128
  | 0 | 1 | 2 | 3 => by decide
  | _ + 4 => by simp [letN]
/-- A cost with one rune more. -/
def rd (c : Nat → Int) (r : Int) : Option (Nat → Int) :=
  if 48 ≤ r ∧ r ≤ 57 then (if 10 * c 5 + (r - 48) ≤ 1000 then some (updI c 5 (10 * c 5 + (r - 48))) else none)
  else if 0 ≤ col r then (if c (col r).toNat + 1 ≤ 1000 then some (updI c (col r).toNat (c (col r).toNat + 1)) else none) else none
theorem rd_far {c : Nat → Int} {r : Int} (h : 128 ≤ r) : rd c r = none := by
  unfold rd col
  rw [if_neg (by omega), if_neg (by omega : ¬ (0 ≤ r ∧ r < 128)), if_neg (by omega)]
theorem updI_upd (c : Nat → Int) (k : Nat) (x y : Int) : updI (updI c k x) k y = updI c k y := by
  funext i; unfold updI; split <;> rfl
theorem updI_self (c : Nat → Int) (k : Nat) : updI c k (c k) = c := by
  funext i; unfold updI; split
  · rename_i h; rw [h]
  · rfl
theorem updI_at (c : Nat → Int) (k : Nat) (x : Int) : updI c k x k = x := by simp [updI]
theorem updI_ne (c : Nat → Int) {k i : Nat} (x : Int) (h : i ≠ k) : updI c k x i = c i := by simp [updI, h]
theorem rd_good {c d : Nat → Int} {r : Int} (hc : GoodC c) (h : rd c r = some d) : GoodC d := by
  have hr := col_range r
  unfold rd at h
  split at h
  · split at h
    · rename_i h1 h2
      simp only [Option.some.injEq] at h
      subst h
      intro i hi
      have := hc i hi; have := hc 5 (by omega)
      unfold updI; split <;> omega
    · cases h
  · split at h
    · split at h
      · simp only [Option.some.injEq] at h
        subst h
        intro i hi
        have := hc i hi; have := hc (col r).toNat (by omega)
        unfold updI; split <;> omega
      · cases h
    · cases h
def rdAll (c : Nat → Int) : List UInt8 → Option (Nat → Int)
  | [] => some c
  | b :: l => (rd c (b.toNat : Int)).bind fun d => rdAll d l
theorem rdAll_append (c : Nat → Int) (a b : List UInt8) : rdAll c (a ++ b) = (rdAll c a).bind fun d => rdAll d b := by
  induction a generalizing c with
  | nil => rfl
  | cons x a ih =>
    simp only [List.cons_append, rdAll]
    cases rd c (x.toNat : Int) with
    | none => rfl
    | some d => exact ih d
theorem rdAll_good {l : List UInt8} : ∀ {c d : Nat → Int}, GoodC c → rdAll c l = some d → GoodC d := by
  induction l with
  | nil => intro c d hc h; simp only [rdAll, Option.some.injEq] at h; subst h; exact hc
  | cons x l ih =>
    intro c d hc h
    simp only [rdAll, Option.bind_eq_some_iff] at h
    obtain ⟨e, h1, h2⟩ := h
    exact ih (rd_good hc h1) h2
theorem rd_digit {c : Nat → Int} {x : Nat} (hx : x < 10) (h : 10 * c 5 + x ≤ 1000) : rd c (((48 + x : Nat)) : Int) = some (updI c 5 (10 * c 5 + x)) := by
  unfold rd
  rw [if_pos (by omega), if_pos (by omega)]
  congr 2; omega
theorem digit_byte {x : Nat} (hx : x < 10) : (UInt8.ofNat (48 + x)).toNat = 48 + x := by
  rw [UInt8.toNat_ofNat']; omega
theorem rdAll_digits (c : Nat → Int) (h5 : c 5 = 0) : ∀ n : Nat, n ≤ 1000 → rdAll c (Lib.decDigits n) = some (updI c 5 n) := by
  intro n
  induction n using Nat.strongRecOn with
  | _ n ih =>
    intro hn
    rw [Lib.decDigits]
    split
    · rename_i h
      simp only [rdAll, digit_byte h]
      rw [rd_digit h (by omega)]
      simp [h5]
    · rename_i h
      rw [rdAll_append, ih (n / 10) (by omega) (by omega)]
      simp only [Option.bind_some, rdAll, digit_byte (Nat.mod_lt n (by omega : 0 < 10))]
      rw [rd_digit (Nat.mod_lt n (by omega : 0 < 10)) (by rw [updI_at]; omega)]
      simp only [Option.bind_some, updI_at, updI_upd]
      congr 2; omega
theorem rd_let {c : Nat → Int} {k : Nat} (hk : k < 5) (h : c k + 1 ≤ 1000) : rd c (((letN k).toNat : Nat) : Int) = some (updI c k (c k + 1)) := by
  have h1 := let_range k
  unfold rd
  rw [if_neg (by omega), col_let k hk, if_pos (by omega)]
  simp only [Int.toNat_natCast]
  rw [if_pos h]
theorem rdAll_lets1 {k : Nat} (hk : k < 5) : ∀ (m : Nat) (c : Nat → Int), c k + m ≤ 1000 → rdAll c (List.replicate m (letN k)) = some (updI c k (c k + m))
  | 0, c, _ => by simp [rdAll, updI_self]
  | m + 1, c, h => by
    simp only [List.replicate_succ, rdAll]
    rw [rd_let hk (by omega)]
    simp only [Option.bind_some]
    rw [rdAll_lets1 hk m _ (by rw [updI_at]; omega), updI_at, updI_upd]
    congr 2; omega
theorem rdAll_lets {f c : Nat → Int} (hf : GoodC f) : ∀ k, k ≤ 5 → (∀ i, i < 5 → c i = 0) → rdAll c (lets f k) = some (fun i => if i < k then f i else c i)
  | 0, _, _ => by simp [lets, rdAll]
  | k + 1, hk, hc => by
    have h1 := hf k (by omega)
    simp only [lets]
    rw [rdAll_append, rdAll_lets hf k (by omega) hc]
    simp only [Option.bind_some]
    rw [rdAll_lets1 (by omega) _ _ (by simp only [Nat.lt_irrefl, if_false]; rw [hc k (by omega)]; omega)]
    congr 1
    funext i
    unfold updI
    simp only [Nat.lt_irrefl, if_false, hc k (by omega)]
    by_cases e : i = k
    · subst e; rw [if_pos rfl, if_pos (by omega)]; omega
    · rw [if_neg e]
      by_cases e2 : i < k
      · rw [if_pos e2, if_pos (by omega)]
      · rw [if_neg e2, if_neg (by omega)]
def zeroC : Nat → Int := fun _ => 0
theorem zero_good : GoodC zeroC := fun _ _ => by simp [zeroC]
/-- A right text reads as what it is the text of. -/
theorem rdAll_text {f : Nat → Int} (hf : GoodC f) : ∃ g, rdAll zeroC (textL f) = some g ∧ ∀ i, i < 6 → g i = f i := by
  have h5 := hf 5 (by omega)
  unfold textL figs
  split
  · refine ⟨_, by rw [rdAll_append, rdAll_digits _ rfl _ (by omega)]; exact rdAll_lets hf 5 (by omega) (fun i hi => by rw [updI_ne _ _ (by omega)]; rfl), ?_⟩
    intro i hi
    by_cases e : i < 5
    · simp [e]
    · obtain rfl : i = 5 := by omega
      simp [updI_at]; omega
  · rename_i h
    have h0 : f 5 = 0 := by
      by_cases e : f 5 = 0
      · exact e
      · exact absurd (.inl e) h
    refine ⟨_, by rw [List.nil_append]; exact rdAll_lets hf 5 (by omega) (fun i hi => rfl), ?_⟩
    intro i hi
    by_cases e : i < 5
    · simp [e]
    · obtain rfl : i = 5 := by omega
      simp [zeroC, h0]
theorem text_reads {f : Nat → Int} {s : List UInt8} (h : IsText f s) : ∃ g, rdAll zeroC s = some g ∧ ∀ i, i < 6 → g i = f i := by
  rw [h.2.2]; exact rdAll_text h.1
theorem text_one {f g : Nat → Int} {s : List UInt8} (h : IsText f s) (h' : IsText g s) : ∀ i, i < 6 → f i = g i := by
  obtain ⟨a, h1, h2⟩ := text_reads h
  obtain ⟨b, h3, h4⟩ := text_reads h'
  rw [h1, Option.some.injEq] at h3
  subst h3
  intro i hi
  rw [← h2 i hi, h4 i hi]
/-- What does not read, is no text. -/
theorem none_no {s : List UInt8} (h : rdAll zeroC s = none) : ¬ ∃ f, IsText f s := fun ⟨f, hf⟩ => by
  obtain ⟨g, h1, _⟩ := text_reads hf
  rw [h] at h1; cases h1
theorem rdAll_take {s : List UInt8} {i : Nat} {c : Nat → Int} {b : UInt8} (h : rdAll zeroC (s.take i) = some c) (hb : s[i]? = some b) : rdAll zeroC (s.take (i + 1)) = rd c (b.toNat : Int) := by
  have e : s.take (i + 1) = s.take i ++ [b] := by rw [List.take_add_one, hb]; rfl
  rw [e, rdAll_append, h]
  simp only [Option.bind_some, rdAll]
  cases rd c (b.toNat : Int) <;> rfl
theorem take_none {s : List UInt8} {i : Nat} (h : rdAll zeroC (s.take i) = none) : rdAll zeroC s = none := by
  have e : s = s.take i ++ s.drop i := (List.take_append_drop i s).symm
  rw [e, rdAll_append, h]; rfl
end Mx
end Go.Proofs.YtplfblccaeligaaDoor
