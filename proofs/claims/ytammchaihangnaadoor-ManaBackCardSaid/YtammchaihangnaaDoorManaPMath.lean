/- Layer 4: what the reference's Parse finds: the figures, then the letters in their order. -/
import Derived.Test.YtammchaihangnaaDoorManaBase
namespace Go.Proofs.YtammchaihangnaaDoor
namespace Mx
def Dig (b : UInt8) : Prop := 48 ≤ b.toNat ∧ b.toNat ≤ 57
def AllDig (l : List UInt8) : Prop := ∀ b ∈ l, Dig b
def capV : List UInt8 → Int := List.foldl (fun v b => if 2000 < v * 10 + ((b.toNat : Int) - 48) then 2000 else v * 10 + ((b.toNat : Int) - 48)) 0
theorem capV_snoc (l : List UInt8) (b : UInt8) : capV (l ++ [b]) = if 2000 < capV l * 10 + ((b.toNat : Int) - 48) then 2000 else capV l * 10 + ((b.toNat : Int) - 48) := by
  unfold capV; rw [List.foldl_append]; rfl
theorem head_app {l l' : List UInt8} (h : l ≠ []) : (l ++ l').head? = l.head? := by
  cases l with
  | nil => exact absurd rfl h
  | cons x l => rfl
theorem snoc_ind {p : List UInt8 → Prop} (h0 : p []) (h1 : ∀ l b, p l → p (l ++ [b])) (l : List UInt8) : p l := by
  have h : ∀ r : List UInt8, p r.reverse := by
    intro r
    induction r with
    | nil => exact h0
    | cons b r ih => rw [List.reverse_cons]; exact h1 _ _ ih
  have := h l.reverse
  rwa [List.reverse_reverse] at this
theorem capV_range (l : List UInt8) (h : AllDig l) : 0 ≤ capV l ∧ capV l ≤ 2000 := by
  induction l using snoc_ind with
  | h0 => simp [capV]
  | h1 l b ih =>
    have ih := ih (fun x hx => h x (by simp [hx]))
    have hb := h b (by simp)
    rw [capV_snoc]
    unfold Dig at hb
    split <;> omega
theorem dec_dig : ∀ n : Nat, AllDig (Lib.decDigits n) := by
  intro n
  induction n using Nat.strongRecOn with
  | _ n ih =>
    rw [Lib.decDigits]
    split
    · rename_i h
      intro b hb
      simp only [List.mem_cons, List.not_mem_nil, or_false] at hb
      subst hb
      unfold Dig; rw [digit_byte h]; omega
    · intro b hb
      simp only [List.mem_append, List.mem_cons, List.not_mem_nil, or_false] at hb
      rcases hb with hb | hb
      · exact ih _ (by omega) b hb
      · subst hb
        unfold Dig; rw [digit_byte (Nat.mod_lt n (by omega : 0 < 10))]; omega
theorem capV_dec : ∀ n : Nat, n ≤ 1000 → capV (Lib.decDigits n) = n := by
  intro n
  induction n using Nat.strongRecOn with
  | _ n ih =>
    intro hn
    rw [Lib.decDigits]
    split
    · rename_i h
      have h1 := digit_byte h
      simp only [capV, List.foldl_cons, List.foldl_nil, h1]
      rw [if_neg (by omega)]; omega
    · rename_i h
      have h1 := digit_byte (Nat.mod_lt n (by omega : 0 < 10))
      rw [capV_snoc, ih _ (by omega) (by omega), h1, if_neg (by omega)]
      omega
theorem dec_ne (n : Nat) : Lib.decDigits n ≠ [] := by
  rw [Lib.decDigits]; split <;> simp
theorem dec_head : ∀ n : Nat, n ≠ 0 → (Lib.decDigits n).head? ≠ some 48 := by
  intro n
  induction n using Nat.strongRecOn with
  | _ n ih =>
    intro hn
    rw [Lib.decDigits]
    split
    · rename_i h
      intro e
      simp only [List.head?_cons, Option.some.injEq] at e
      have := congrArg UInt8.toNat e
      rw [digit_byte h] at this
      simp at this; omega
    · rename_i h
      have h1 := ih (n / 10) (by omega) (by omega)
      intro e
      rw [head_app (dec_ne _)] at e
      exact h1 e
theorem dec_zero : Lib.decDigits 0 = [48] := by rw [Lib.decDigits]; rfl
/-- A row of figures without a zero ahead is the number's numeral. -/
theorem dec_of : ∀ l : List UInt8, AllDig l → l ≠ [] → capV l ≤ 1000 → (l.head? ≠ some 48 ∨ l = [48]) → l = Lib.decDigits (capV l).toNat := by
  intro l
  induction l using snoc_ind with
  | h0 => intro _ h; exact absurd rfl h
  | h1 l b ih =>
    intro hd _ hc hh
    have hb := hd b (by simp)
    have hdl : AllDig l := fun x hx => hd x (by simp [hx])
    have hr := capV_range l hdl
    unfold Dig at hb
    rw [capV_snoc] at hc ⊢
    split at hc
    · omega
    · rename_i hle
      rw [if_neg hle]
      by_cases hl : l = []
      · subst hl
        have e0 : capV [] = 0 := rfl
        rw [e0] at hc ⊢
        have h1 : ((0 : Int) * 10 + ((b.toNat : Int) - 48)).toNat = b.toNat - 48 := by omega
        rw [h1, Lib.decDigits, dif_pos (by omega)]
        simp only [List.nil_append]
        congr 1
        apply UInt8.toNat_inj.1
        rw [digit_byte (by omega)]; omega
      · have hne : l.head? ≠ some 48 := by
          rcases hh with h | h
          · rwa [head_app hl] at h
          · have := congrArg List.length h
            simp only [List.length_append, List.length_cons, List.length_nil] at this
            exact absurd (List.eq_nil_of_length_eq_zero (by omega)) hl
        have e := ih hdl hl (by omega) (.inl hne)
        have hv : 1 ≤ (capV l).toNat := by
          rcases Nat.eq_zero_or_pos (capV l).toNat with h | h
          · rw [h, dec_zero] at e
            rw [e] at hne
            simp at hne
          · exact h
        rw [Lib.decDigits, dif_neg (by omega)]
        have e1 : (capV l * 10 + ((b.toNat : Int) - 48)).toNat / 10 = (capV l).toNat := by omega
        have e2 : (capV l * 10 + ((b.toNat : Int) - 48)).toNat % 10 = b.toNat - 48 := by omega
        rw [e1, e2, ← e]
        congr 2
        apply UInt8.toNat_inj.1
        rw [digit_byte (by omega)]; omega

/-- How many b's stand ahead, and what follows. -/
def eat (b : UInt8) : List UInt8 → Nat × List UInt8
  | [] => (0, [])
  | x :: l => if x = b then ((eat b l).1 + 1, (eat b l).2) else (0, x :: l)
theorem eat_is (b : UInt8) : ∀ l, l = List.replicate (eat b l).1 b ++ (eat b l).2
  | [] => rfl
  | x :: l => by
    unfold eat
    split
    · rename_i h
      subst h
      simp only [List.replicate_succ, List.cons_append]
      rw [← eat_is x l]
    · rfl
theorem eat_len (b : UInt8) (l : List UInt8) : (eat b l).1 + (eat b l).2.length = l.length := by
  have := congrArg List.length (eat_is b l)
  simp only [List.length_append, List.length_replicate] at this
  omega
theorem eat_rep {b : UInt8} {t : List UInt8} (ht : t.head? ≠ some b) : ∀ m, eat b (List.replicate m b ++ t) = (m, t)
  | 0 => by
    cases t with
    | nil => rfl
    | cons x t =>
      have : x ≠ b := fun e => ht (by rw [e]; rfl)
      simp [eat, this]
  | m + 1 => by
    simp only [List.replicate_succ, List.cons_append, eat, if_true]
    rw [eat_rep ht m]
def restN (r : List UInt8) : Nat → List UInt8
  | 0 => r
  | k + 1 => (eat (letN k) (restN r k)).2
def cntN (r : List UInt8) (k : Nat) : Nat := (eat (letN k) (restN r k)).1
theorem rest_is (r : List UInt8) : ∀ k, r = lets (fun i => (cntN r i : Int)) k ++ restN r k
  | 0 => rfl
  | k + 1 => by
    have h := rest_is r k
    have e := eat_is (letN k) (restN r k)
    simp only [lets, restN, Int.toNat_natCast, List.append_assoc]
    unfold cntN
    rw [← e]
    exact h
/-- The letters from colour k on. -/
def from_ (f : Nat → Int) : Nat → Nat → List UInt8
  | _, 0 => []
  | k, n + 1 => List.replicate (f k).toNat (letN k) ++ from_ f (k + 1) n
theorem lets_from (f : Nat → Int) : lets f 5 = from_ f 0 5 := by
  simp only [lets, from_, List.nil_append, List.append_nil, List.append_assoc]
theorem let_inj : ∀ i, i < 5 → ∀ j, j < 5 → letN i = letN j → i = j := by decide
theorem from_head (f : Nat → Int) : ∀ n k i, k + n ≤ 5 → i < k → (from_ f k n).head? ≠ some (letN i)
  | 0, k, i, _, _ => by simp [from_]
  | n + 1, k, i, hk, hi => by
    simp only [from_]
    cases hm : (f k).toNat with
    | zero => simp only [List.replicate_zero, List.nil_append]; exact from_head f n (k + 1) i (by omega) (by omega)
    | succ m =>
      simp only [List.replicate_succ, List.cons_append, List.head?_cons]
      intro e
      have := let_inj k (by omega) i (by omega) (by simpa using e)
      omega
theorem rest_from {f : Nat → Int} : ∀ k, k ≤ 5 → restN (from_ f 0 5) k = from_ f k (5 - k)
  | 0, _ => rfl
  | k + 1, hk => by
    have ih := rest_from (f := f) k (by omega)
    simp only [restN]
    rw [ih, show 5 - k = (5 - (k + 1)) + 1 by omega]
    simp only [from_]
    rw [eat_rep (from_head f _ (k + 1) k (by omega) (by omega))]
theorem cnt_from {f : Nat → Int} {k : Nat} (hk : k < 5) : cntN (from_ f 0 5) k = (f k).toNat := by
  unfold cntN
  rw [rest_from k (by omega), show 5 - k = (5 - (k + 1)) + 1 by omega]
  simp only [from_]
  rw [eat_rep (from_head f _ (k + 1) k (by omega) (by omega))]
theorem lets_head {f : Nat → Int} {b : UInt8} (h : (lets f 5).head? = some b) : ¬ Dig b := by
  have hm : b ∈ lets f 5 := List.mem_of_mem_head? h
  have hh : ∀ k, b ∈ lets f k → ∃ i, b = letN i := by
    intro k
    induction k with
    | zero => intro h; simp [lets] at h
    | succ k ih =>
      intro h
      simp only [lets, List.mem_append] at h
      rcases h with h | h
      · exact ih h
      · exact ⟨k, (List.mem_replicate.1 h).2⟩
  obtain ⟨i, rfl⟩ := hh 5 hm
  have := let_range i
  unfold Dig; omega
/-- A row of figures ahead, as long as may be: there is but one. -/
theorem dig_split {s D E : List UInt8} {d : Nat} (hs : s = D ++ E) (hD : AllDig D) (hE : ∀ b, E.head? = some b → ¬ Dig b) (ht : AllDig (s.take d)) (hd : d ≤ s.length) (hn : ∀ b, s[d]? = some b → ¬ Dig b) : d = D.length := by
  rcases Nat.lt_trichotomy d D.length with h | h | h
  · have : s[d]? = some D[d] := by rw [hs, List.getElem?_append_left h, List.getElem?_eq_getElem h]
    exact absurd (hD _ (List.getElem_mem h)) (hn _ this)
  · exact h
  · have hlt : D.length < s.length := by omega
    have hE0 : 0 < E.length := by
      have := congrArg List.length hs
      simp only [List.length_append] at this
      omega
    obtain ⟨b, hb⟩ : ∃ b, E.head? = some b := by
      cases E with
      | nil => simp at hE0
      | cons b E => exact ⟨b, rfl⟩
    have h1 : s[D.length]? = some b := by
      rw [hs, List.getElem?_append_right (Nat.le_refl _), Nat.sub_self]
      rwa [List.head?_eq_getElem?] at hb
    have h2 : (s.take d)[D.length]? = some b := by rw [List.getElem?_take, if_pos h, h1]
    exact absurd (ht b (List.mem_of_getElem? h2)) (hE b hb)
theorem figs_dig (f : Nat → Int) : AllDig (figs f) := by
  unfold figs; split
  · exact dec_dig _
  · intro b hb; cases hb
/-- What the reference finds in a right text. -/
theorem text_split {f : Nat → Int} {s : List UInt8} (h : IsText f s) {d : Nat} (ht : AllDig (s.take d)) (hd : d ≤ s.length) (hn : ∀ b, s[d]? = some b → ¬ Dig b) : s.take d = figs f ∧ s.drop d = lets f 5 := by
  have hs := h.2.2
  have e := dig_split (D := figs f) (E := lets f 5) hs (figs_dig f) (fun b => lets_head) ht hd hn
  subst e
  rw [hs]
  unfold textL
  exact ⟨by simp, by simp⟩
def Bad (s : List UInt8) (d : Nat) (v : Int) : Prop := (1 < d ∧ s[0]? = some 48) ∨ 1000 < v ∨ (d = 1 ∧ s[0]? = some 48 ∧ 1 < s.length) ∨ s.length = 0
theorem text_not_bad {f : Nat → Int} {s : List UInt8} (h : IsText f s) {d : Nat} (ht : AllDig (s.take d)) (hd : d ≤ s.length) (hn : ∀ b, s[d]? = some b → ¬ Dig b) : ¬ Bad s d (capV (s.take d)) := by
  obtain ⟨e1, e2⟩ := text_split h ht hd hn
  obtain ⟨hg, _, _⟩ := h
  have h5 := hg 5 (by omega)
  have hsp : s = s.take d ++ s.drop d := (List.take_append_drop d s).symm
  have hl : (s.take d).length = d := by rw [List.length_take]; omega
  have h0 : 0 < d → s[0]? = (s.take d).head? := fun hp => by rw [List.head?_eq_getElem?, List.getElem?_take, if_pos hp]
  have hsl : s.length = (s.take d).length + (s.drop d).length := by simp; omega
  rw [e1] at hl h0 hsl ⊢
  rw [e2] at hsl
  unfold figs at hl h0 hsl ⊢
  split at hl
  · rename_i hc
    rw [if_pos hc] at h0 hsl ⊢
    rw [capV_dec _ (by omega)]
    have hd1 : 0 < d := by
      rcases Nat.eq_zero_or_pos d with h | h
      · exact absurd (List.eq_nil_of_length_eq_zero (hl.trans h)) (dec_ne _)
      · exact h
    rw [← hl] at hd1
    unfold Bad
    rw [← hl]
    have h0 := h0 (by omega)
    by_cases hz : f 5 = 0
    · rw [hz] at h0 hsl ⊢
      have hln : lets f 5 = [] := by
        rcases hc with h | h
        · exact absurd hz h
        · exact h
      simp only [Int.toNat_zero, dec_zero, List.length_cons, List.length_nil, hln] at hsl ⊢
      omega
    · have := dec_head (f 5).toNat (by omega)
      rw [h0]
      rintro (⟨_, h⟩ | h | ⟨_, h, _⟩ | h)
      · exact this h
      · omega
      · exact this h
      · omega
  · rename_i hc
    rw [if_neg hc] at hsl ⊢
    have hd0 : d = 0 := by simpa using hl.symm
    subst hd0
    have hln : lets f 5 ≠ [] := fun h => hc (.inr h)
    have : 0 < (lets f 5).length := List.length_pos_iff.2 hln
    have hcv : capV [] = 0 := rfl
    unfold Bad
    rw [hcv]
    simp only [List.length_nil] at hsl
    omega
/-- The cost that the reference finds. -/
def foundC (r : List UInt8) (v : Int) : Nat → Int := fun i => if i < 5 then (cntN r i : Int) else v
theorem found_text {s : List UInt8} {d : Nat} (ht : AllDig (s.take d)) (hd : d ≤ s.length) (hb : ¬ Bad s d (capV (s.take d))) (hr : restN (s.drop d) 5 = []) (hc : ∀ i, i < 5 → cntN (s.drop d) i ≤ 20) :
    IsText (foundC (s.drop d) (capV (s.take d))) s := by
  have hv := capV_range _ ht
  have hl : (s.take d).length = d := by rw [List.length_take]; omega
  have hv1 : capV (s.take d) ≤ 1000 := by
    unfold Bad at hb
    omega
  have hlet : lets (foundC (s.drop d) (capV (s.take d))) 5 = s.drop d := by
    have h := rest_is (s.drop d) 5
    rw [hr, List.append_nil] at h
    rw [lets_congr (g := fun i => (cntN (s.drop d) i : Int)) 5 (fun i hi => by simp [foundC, hi])]
    exact h.symm
  refine ⟨fun i hi => ?_, fun i hi => ?_, ?_⟩
  · unfold foundC
    split
    · rename_i h
      have := hc i h; omega
    · omega
  · have := hc i hi
    simp only [foundC, hi, if_true]; omega
  · unfold textL figs
    rw [hlet]
    have h5 : foundC (s.drop d) (capV (s.take d)) 5 = capV (s.take d) := by simp [foundC]
    rw [h5]
    have hsp : s.take d ++ s.drop d = s := List.take_append_drop d s
    have h0 : 0 < d → s[0]? = (s.take d).head? := fun hp => by rw [List.head?_eq_getElem?, List.getElem?_take, if_pos hp]
    by_cases hd0 : d = 0
    · subst hd0
      have e0 : capV (s.take 0) = 0 := by rw [List.take_zero]; rfl
      rw [e0, if_neg]
      · simp
      · rintro (h | h)
        · exact h rfl
        · rw [List.drop_zero] at h
          exact hb (.inr (.inr (.inr (by rw [h]; rfl))))
    · have hne : s.take d ≠ [] := fun h => by rw [h] at hl; simp at hl; omega
      have h0 := h0 (by omega)
      have hh : (s.take d).head? ≠ some 48 ∨ s.take d = [48] := by
        by_cases e : (s.take d).head? = some 48
        · right
          unfold Bad at hb
          rw [h0] at hb
          have hd1 : d = 1 := by
            rcases Nat.lt_or_ge 1 d with h | h
            · exact absurd (.inl ⟨h, e⟩) hb
            · omega
          cases ht2 : s.take d with
          | nil => exact absurd ht2 hne
          | cons x l =>
            rw [ht2] at e hl
            simp only [List.head?_cons, Option.some.injEq] at e
            have : l = [] := List.eq_nil_of_length_eq_zero (by simp only [List.length_cons] at hl; omega)
            rw [e, this]
        · exact .inl e
      have e := dec_of _ ht hne hv1 hh
      by_cases hz : capV (s.take d) = 0
      · rw [hz] at e ⊢
        have e48 : s.take d = [48] := by rw [e]; exact dec_zero
        have hdr : s.drop d = [] := by
          apply List.eq_nil_of_length_eq_zero
          rw [List.length_drop]
          rw [e48] at hl h0
          simp only [List.length_cons, List.length_nil] at hl
          have hx : ¬ (d = 1 ∧ s[0]? = some 48 ∧ 1 < s.length) := fun h => hb (.inr (.inr (.inl h)))
          have : ¬ 1 < s.length := fun h => hx ⟨by omega, h0, h⟩
          omega
        rw [if_pos (.inr hdr), ← e]
        exact hsp.symm
      · rw [if_pos (.inl hz), ← e]
        exact hsp.symm
theorem text_found {f : Nat → Int} {s : List UInt8} (h : IsText f s) {d : Nat} (ht : AllDig (s.take d)) (hd : d ≤ s.length) (hn : ∀ b, s[d]? = some b → ¬ Dig b) : restN (s.drop d) 5 = [] ∧ ∀ i, i < 5 → cntN (s.drop d) i ≤ 20 := by
  obtain ⟨_, e2⟩ := text_split h ht hd hn
  rw [e2, lets_from]
  refine ⟨rest_from 5 (by omega), fun i hi => ?_⟩
  rw [cnt_from hi]
  have := h.2.1 i hi
  omega
end Mx
end Go.Proofs.YtammchaihangnaaDoor
