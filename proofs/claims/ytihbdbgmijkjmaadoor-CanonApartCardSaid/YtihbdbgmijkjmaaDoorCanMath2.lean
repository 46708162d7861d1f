/- Layer 11: bytes tell their state, and what is read has just those bytes: plain facts. -/
import Derived.Test.YtihbdbgmijkjmaaDoorCanMath
namespace Go.Proofs.YtihbdbgmijkjmaaDoor
open Go.RowKit Ex Px Wx
theorem chk_ranges {s : StT} (h : chkS s = 0) : s.objs.length ≤ 400 ∧ rangesB s = true ∧ zonesB s = true ∧ s.objs.all formedB = true := by
  unfold chkS at h
  split at h
  · cases h
  · rename_i h1
    split at h
    · cases h
    · rename_i h2
      split at h
      · cases h
      · rename_i h3
        split at h
        · cases h
        · rename_i h4
          exact ⟨by omega, by simpa using h2, by simpa using h3, by simpa using h4⟩
theorem inR_iff {n a b : Int} : inR n a b = true ↔ a ≤ n ∧ n ≤ b := by simp [inR]
theorem fit_of {o : Nat → Int} {n : Int} (h : objectB o n = true) : Fit o 9 := by
  simp only [objectB, Bool.and_eq_true, inR_iff] at h
  rw [fit_lit]
  omega
theorem fit_objs {s : StT} (h : chkS s = 0) : ∀ o ∈ s.objs, Fit o 9 := fun o ho => by
  have h1 := (chk_ranges h).2.1
  simp only [rangesB, Bool.and_eq_true] at h1
  exact fit_of (List.all_eq_true.1 h1.1.1.1 o ho)
/-- What bytes say that are a state's. -/
structure Told (l : List Int) (s : StT) : Prop where
  chk : chkS s = 0
  bytes : bytesS s = l
  o : ∀ o ∈ s.objs, ∀ i, i < 18 → i64B (o i)
  l : ∀ z, z < 11 → ∀ n ∈ s.lists z, i64B n
  p : ∀ i, i < 18 → i64B (s.pl i)
  g : ∀ i, i < 7 → i64B (s.gm i)
theorem range_get {r : List Int} {f : Nat → Int} {n : Nat} (hl : r.length = n) (h : ∀ i, i < n → f i = r.getD i 0) : (List.range n).map f = r := by
  refine List.ext_getElem (by simp [hl]) fun i h1 h2 => ?_
  rw [List.getElem_map, List.getElem_range, h i (by omega), List.getD_eq_getElem?_getD, List.getElem?_eq_getElem h2, Option.getD_some]
theorem numsP_of {r : List Int} (hl : r.length = 25) : numsP (fun i => r.getD i 0) (fun i => r.getD (18 + i) 0) = r := by
  have h1 : (List.range 18).map (fun i => r.getD i 0) = r.take 18 := range_get (by rw [List.length_take]; omega) fun i hi => by
    simp only [List.getD_eq_getElem?_getD, List.getElem?_take]; rw [if_pos hi]
  have h2 : (List.range 7).map (fun i => r.getD (18 + i) 0) = r.drop 18 := range_get (by rw [List.length_drop]; omega) fun i hi => by
    simp only [List.getD_eq_getElem?_getD, List.getElem?_drop]
  rw [numsP, h1, h2, List.take_append_drop]
theorem parse3_ok {os : List (Nat → Int)} {L : Nat → List Int} {l : List Int} (hl : byB l) {s : StT} (h : parse3 os L l = (s, 0)) :
    chkS s = 0 ∧ s.objs = os ∧ s.lists = L ∧ (numsP s.pl s.gm).flatMap bts = l ∧ (∀ i, i < 18 → i64B (s.pl i)) ∧ (∀ i, i < 7 → i64B (s.gm i)) := by
  obtain ⟨x, k, e, hm⟩ : ∃ x k e, more 25 l 0 [] = (x, k, e) := ⟨_, _, _, rfl⟩
  rw [parse3, hm] at h
  simp only at h
  rcases more_range 25 l 0 [] hl (Nat.zero_le _) (fun n hn => by cases hn) x k e hm with ⟨_, _, h6⟩ | ⟨rfl, _, h7, s', hs, h8, h9, h10⟩
  · rw [if_pos (by omega)] at h
    simp only [Prod.mk.injEq] at h
    omega
  rw [if_neg (by omega)] at h
  by_cases hk : k < l.length
  · rw [if_pos hk] at h
    simp only [Prod.mk.injEq] at h
    exact absurd h.2 (by decide)
  rw [if_neg hk] at h
  rw [List.nil_append] at hs
  subst hs
  by_cases hc : chkS (mkS os L x) ≠ 0
  · rw [if_pos hc] at h
    simp only [Prod.mk.injEq] at h
    exact absurd h.2 hc
  rw [if_neg hc] at h
  simp only [Prod.mk.injEq, and_true] at h
  subst h
  refine ⟨by simpa using hc, rfl, rfl, ?_, fun i hi => ?_, fun i hi => ?_⟩
  · show (numsP (fun i => x.getD i 0) (fun i => x.getD (18 + i) 0)).flatMap bts = l
    rw [numsP_of h8]
    have : k = l.length := by omega
    rw [this, List.drop_zero, List.drop_length, List.append_nil] at h10
    exact h10.symm
  · show i64B (x.getD i 0)
    rw [List.getD_eq_getElem?_getD, List.getElem?_eq_getElem (by omega), Option.getD_some]
    exact h9 _ (List.getElem_mem _)
  · show i64B (x.getD (18 + i) 0)
    rw [List.getD_eq_getElem?_getD, List.getElem?_eq_getElem (by omega), Option.getD_some]
    exact h9 _ (List.getElem_mem _)
theorem pL_i64 {l : List Int} (hl : byB l) {L : Nat → List Int} {r : List Int} (h : pL 11 0 l (fun _ => []) = (L, r, 0)) : byB r ∧ (∀ z, z < 11 → ∀ n ∈ L z, i64B n) ∧ l = flL L 0 11 ++ r := by
  rcases pL_range 11 0 l _ hl L r 0 h with ⟨_, h0⟩ | ⟨_, h1, _, _, h2, h3⟩
  · exact absurd rfl h0
  · exact ⟨h1, fun z hz => h2 z (by omega) (by omega), h3⟩
theorem parse_ok {l : List Int} (hl : byB l) {s : StT} (h : parseS l = (s, 0)) : Told l s := by
  obtain ⟨n, k, e1, ht⟩ : ∃ n k e1, tk l = (n, k, e1) := ⟨_, _, _, rfl⟩
  rw [parseS, ht] at h
  simp only at h
  rcases tk_range hl ht with ⟨_, _, h1⟩ | ⟨rfl, h1, h2, h3, h4, h5⟩
  · rw [if_pos (by omega)] at h
    simp only [Prod.mk.injEq] at h
    omega
  rw [if_neg (by omega)] at h
  by_cases hn : n < 0
  · rw [if_pos hn] at h
    simp only [Prod.mk.injEq] at h
    exact absurd h.2 (by decide)
  rw [if_neg hn] at h
  by_cases hm : 400 < n
  · rw [if_pos hm] at h
    simp only [Prod.mk.injEq] at h
    exact absurd h.2 (by decide)
  rw [if_neg hm] at h
  obtain ⟨os, r, e, hp⟩ : ∃ os r e, pO n.toNat (l.drop k) [] = (os, r, e) := ⟨_, _, _, rfl⟩
  rw [hp] at h
  simp only at h
  rcases pO_range n.toNat _ [] (byB_drop k hl) os r e hp with ⟨_, _, he⟩ | ⟨rfl, hr, ns, rfl, hnl, hok, hl2⟩
  · rw [if_pos he] at h
    simp only [Prod.mk.injEq] at h
    exact absurd h.2 he
  rw [if_neg (by omega)] at h
  obtain ⟨L, r2, e2, hq⟩ : ∃ L r2 e2, pL 11 0 r (fun _ => []) = (L, r2, e2) := ⟨_, _, _, rfl⟩
  rw [parse2, hq] at h
  simp only at h
  by_cases he2 : e2 ≠ 0
  · rw [if_pos he2] at h
    simp only [Prod.mk.injEq] at h
    exact absurd h.2 he2
  rw [if_neg he2] at h
  obtain rfl : e2 = 0 := by simpa using he2
  obtain ⟨hr2, hL, hl3⟩ := pL_i64 hr hq
  obtain ⟨hc, ho, hls, hb, hp2, hg⟩ := parse3_ok hr2 h
  refine ⟨hc, ?_, by rw [ho]; exact fun o h => (hok o h).2, by rw [hls]; exact hL, hp2, hg⟩
  rw [bytesS, ho, hls, hb, ← hl3, ← hl2, hnl, Int.toNat_of_nonneg (by omega), h5, List.take_append_drop]
theorem parse_err {l : List Int} {s : StT} {e : Int} (he : e ≠ 0) (h : parseS l = (s, e)) : s = sT0 := by
  unfold parseS parse2 parse3 at h
  repeat' split at h
  all_goals simp only [Prod.mk.injEq] at h
  all_goals first | exact h.1.symm | exact absurd h.2.symm he
end Go.Proofs.YtihbdbgmijkjmaaDoor
