/- Layer 6: which effect bytes tell. -/
import Derived.Test.YtjijnapphbeahaaTreeCheck
import Derived.Test.YtjijnapphbeahaaTreeBytes
namespace Go.Proofs.Ytjijnapphbeahaa
open Go.RowKit Ex Wx
namespace Ex
/-- So many numbers, one after another: the numbers, how many bytes, an error's number. -/
def rdN (l : List Int) : Nat → List Int × Nat × Int
  | 0 => ([], 0, 0)
  | n + 1 =>
    if (rdN l n).2.2 ≠ 0 then ([], 0, (rdN l n).2.2)
    else if (tk (l.drop (rdN l n).2.1)).2.2 ≠ 0 then ([], 0, (tk (l.drop (rdN l n).2.1)).2.2)
    else ((rdN l n).1 ++ [(tk (l.drop (rdN l n).2.1)).1], (rdN l n).2.1 + (tk (l.drop (rdN l n).2.1)).2.1, 0)
/-- So many effects. -/
def tkS (g : List Int → ET × Nat × Int) (l : List Int) : Nat → List ET × Nat × Int
  | 0 => ([], 0, 0)
  | n + 1 =>
    if (tkS g l n).2.2 ≠ 0 then ([], 0, (tkS g l n).2.2)
    else if (g (l.drop (tkS g l n).2.1)).2.2 ≠ 0 then ([], 0, (g (l.drop (tkS g l n).2.1)).2.2)
    else ((tkS g l n).1 ++ [(g (l.drop (tkS g l n).2.1)).1], (tkS g l n).2.1 + (g (l.drop (tkS g l n).2.1)).2.1, 0)
def zT : ET := .node 0 0 0 0 []
/-- The effect with which bytes begin, at most f deep. -/
def tkT : Nat → List Int → ET × Nat × Int
  | 0, _ => (zT, 0, 3)
  | f + 1, l =>
    if (rdN l 5).2.2 ≠ 0 then (zT, 0, (rdN l 5).2.2)
    else if (rdN l 5).1.getD 4 0 < 0 then (zT, 0, 1)
    else if 8 < (rdN l 5).1.getD 4 0 then (zT, 0, 19)
    else if (tkS (tkT f) (l.drop (rdN l 5).2.1) ((rdN l 5).1.getD 4 0).toNat).2.2 ≠ 0 then (zT, 0, (tkS (tkT f) (l.drop (rdN l 5).2.1) ((rdN l 5).1.getD 4 0).toNat).2.2)
    else (.node ((rdN l 5).1.getD 0 0) ((rdN l 5).1.getD 1 0) ((rdN l 5).1.getD 2 0) ((rdN l 5).1.getD 3 0) (tkS (tkT f) (l.drop (rdN l 5).2.1) ((rdN l 5).1.getD 4 0).toNat).1,
      (rdN l 5).2.1 + (tkS (tkT f) (l.drop (rdN l 5).2.1) ((rdN l 5).1.getD 4 0).toNat).2.1, 0)
/-- Numbers' bytes, one after another. -/
def btsL : List Int → List Int
  | [] => []
  | x :: l => bts x ++ btsL l
theorem btsL_take : ∀ (l : List Int) (i : Nat) (x : Int), l[i]? = some x → btsL (l.take (i + 1)) = btsL (l.take i) ++ bts x ∧ ∃ r, btsL l = btsL (l.take i) ++ (bts x ++ r)
  | [], i, x, h => by simp at h
  | y :: l, 0, x, h => by simp at h; subst h; exact ⟨by simp [btsL], btsL l, by simp [btsL]⟩
  | y :: l, i + 1, x, h => by
    obtain ⟨h1, r, h2⟩ := btsL_take l i x (by simpa using h)
    exact ⟨by simp only [List.take_succ_cons, btsL, h1, List.append_assoc], r, by simp only [List.take_succ_cons, btsL, h2, List.append_assoc]⟩
theorem rdN_back (xs : List Int) (hx : ∀ x ∈ xs, i64B x) (r : List Int) : ∀ k, k ≤ xs.length → rdN (btsL xs ++ r) k = (xs.take k, (btsL (xs.take k)).length, 0)
  | 0, _ => by simp [rdN, btsL]
  | k + 1, hk => by
    have ih := rdN_back xs hx r k (by omega)
    have hlt : k < xs.length := by omega
    obtain ⟨h1, r2, h2⟩ := btsL_take xs k xs[k] (List.getElem?_eq_getElem hlt)
    have hd : (btsL xs ++ r).drop (btsL (xs.take k)).length = bts xs[k] ++ (r2 ++ r) := by
      rw [h2, List.append_assoc, List.drop_left, List.append_assoc]
    have ht := tk_bts (hx _ (List.getElem_mem hlt)) (r2 ++ r)
    simp only [rdN, ih, hd, ht]
    simp only [ne_eq, not_true_eq_false, if_false]
    rw [h1, List.length_append, List.take_succ_eq_append_getElem hlt]
theorem btL_split : ∀ (l : List ET) (k : Nat), btL l = btL (l.take k) ++ btL (l.drop k)
  | [], k => by simp [btL]
  | x :: l, 0 => by simp [btL]
  | x :: l, k + 1 => by simp only [List.take_succ_cons, List.drop_succ_cons, btL, btL_split l k, List.append_assoc]
theorem chkL_all {tg : Int} {dp : Nat} : ∀ (l : List ET), chkL l tg dp = 0 → ∀ (i : Nat) (t : ET), l[i]? = some t → chkT t tg dp = 0
  | [], _, i, t, h => by simp at h
  | x :: l, h, 0, t, hi => by
    simp at hi; subst hi
    simp only [chkL] at h
    by_cases e : chkT x tg dp = 0
    · exact e
    · rw [if_pos e] at h; exact absurd h e
  | x :: l, h, i + 1, t, hi => by
    simp only [chkL] at h
    by_cases e : chkT x tg dp = 0
    · rw [if_neg (by simpa using e)] at h
      exact chkL_all l h i t (by simpa using hi)
    · rw [if_pos e] at h; exact absurd h e
theorem tkS_back (g : List Int → ET × Nat × Int) (l : List ET) (hg : ∀ (i : Nat) (t : ET), l[i]? = some t → ∀ r, g (btT t ++ r) = (t, (btT t).length, 0)) (r : List Int) : ∀ k, k ≤ l.length → tkS g (btL l ++ r) k = (l.take k, (btL (l.take k)).length, 0)
  | 0, _ => by simp [tkS, btL]
  | k + 1, hk => by
    have ih := tkS_back g l hg r k (by omega)
    have hlt : k < l.length := by omega
    have ht := List.getElem?_eq_getElem hlt
    have h1 := btL_take l k l[k] ht
    obtain ⟨r2, h2⟩ : ∃ r2, btL l = btL (l.take k) ++ (btT l[k] ++ r2) := ⟨btL (l.drop (k + 1)), by
      rw [← List.append_assoc, ← h1]
      exact btL_split l (k + 1)⟩
    have hd : (btL l ++ r).drop (btL (l.take k)).length = btT l[k] ++ (r2 ++ r) := by
      rw [h2, List.append_assoc, List.drop_left, List.append_assoc]
    have hgt := hg k _ ht (r2 ++ r)
    simp only [tkS, ih, hd, hgt]
    simp only [ne_eq, not_true_eq_false, if_false]
    rw [h1, List.length_append, List.take_succ_eq_append_getElem hlt]
/-- Small enough to be told. -/
def okT : Nat → ET → Prop
  | 0, _ => False
  | f + 1, .node op n m who l => i64B op ∧ i64B n ∧ i64B m ∧ i64B who ∧ l.length ≤ 8 ∧ ∀ (i : Nat) (t : ET), l[i]? = some t → okT f t
theorem tkT_back : ∀ (f : Nat) (t : ET), okT f t → ∀ r, tkT f (btT t ++ r) = (t, (btT t).length, 0)
  | 0, _, h, _ => absurd h id
  | f + 1, .node op n m who l, h, r => by
    obtain ⟨i1, i2, i3, i4, hl, hx⟩ := h
    have hh : hdT op n m who l.length = btsL [op, n, m, who, (l.length : Int)] := by simp [hdT, btsL]
    have hr := rdN_back [op, n, m, who, (l.length : Int)] (by
      intro x hx
      simp at hx
      rcases hx with rfl | rfl | rfl | rfl | rfl
      · exact i1
      · exact i2
      · exact i3
      · exact i4
      · exact ⟨by omega, by omega⟩) (btL l ++ r) 5 (Nat.le_refl _)
    rw [show [op, n, m, who, (l.length : Int)].take 5 = [op, n, m, who, (l.length : Int)] from rfl] at hr
    have hs := tkS_back (tkT f) l (fun i t hi r => tkT_back f t (hx i t hi) r) r l.length (Nat.le_refl _)
    rw [List.take_length] at hs
    have hb : btT (.node op n m who l) ++ r = btsL [op, n, m, who, (l.length : Int)] ++ (btL l ++ r) := by
      simp only [btT]; rw [hh, List.append_assoc]
    rw [hb]
    simp only [tkT, hr, List.drop_left]
    simp only [List.getD_cons_succ, List.getD_cons_zero, Int.toNat_natCast, hs]
    simp only [ne_eq, not_true_eq_false, if_false]
    rw [if_neg (by omega), if_neg (by omega)]
    simp only [btT, hh, List.length_append]
/-- A right effect is small enough. -/
theorem ok_of_chk : ∀ (f : Nat) (t : ET) (tg : Int) (dp : Nat), chkT t tg dp = 0 → f + dp = 9 → okT f t
  | 0, .node op n m who l, tg, dp, h, hf => by
    exfalso
    simp only [chkT] at h
    split at h
    · omega
    · rw [if_pos (by omega)] at h; omega
  | f + 1, .node op n m who l, tg, dp, h, hf => by
    simp only [chkT] at h
    by_cases h1 : 0 ≤ op ∧ op ≤ 25
    · rw [if_neg (not_not_intro h1), if_neg (by omega)] at h
      by_cases h2 : RangesC op n m who
      · rw [if_neg (not_not_intro h2)] at h
        by_cases h3 : FitsC op who tg
        · rw [if_neg (not_not_intro h3)] at h
          by_cases h4 : FormC op l
          · rw [if_neg (not_not_intro h4)] at h
            have hlen : l.length ≤ 8 := by
              unfold FormC at h4
              split at h4
              · omega
              · split at h4
                · omega
                · split at h4 <;> omega
            obtain ⟨hw, hnm⟩ := h2
            have hN : (-99 ≤ n ∧ n ≤ 255) ∧ (-99 ≤ m ∧ m ≤ 255) := by
              split at hnm
              · omega
              · unfold nMost mLeast mMost at hnm
                repeat' split at hnm
                all_goals omega
            have hsub : ∃ tg', chkL l tg' (dp + 1) = 0 := by
              split at h
              · split at h
                · rename_i hne; exact absurd h hne
                · rename_i hne; exact ⟨1, by simpa using hne⟩
              · exact ⟨tg, h⟩
            obtain ⟨tg', hs⟩ := hsub
            refine ⟨⟨by omega, by omega⟩, ⟨by omega, by omega⟩, ⟨by omega, by omega⟩, ⟨by omega, by omega⟩, hlen, fun i t hi => ok_of_chk f t tg' (dp + 1) (chkL_all l hs i t hi) (by omega)⟩
          · rw [if_pos h4] at h; omega
        · rw [if_pos h3] at h; omega
      · rw [if_pos h2] at h; omega
    · rw [if_pos h1] at h; omega
end Ex
end Go.Proofs.Ytjijnapphbeahaa
