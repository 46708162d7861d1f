/- Layer 11: a state's numbers and bytes, and what bytes tell: plain facts. -/
import Derived.Test.YtihbdbgmijkjmaaDoorStRef5
import Derived.Test.YtihbdbgmijkjmaaDoorStSame
import Derived.Test.YtihbdbgmijkjmaaDoorStC1
import Derived.Test.YtihbdbgmijkjmaaDoorPackSpec
import Derived.Test.YtihbdbgmijkjmaaDoorWireMath
namespace Go.Proofs.YtihbdbgmijkjmaaDoor
open Go.RowKit Ex Px Wx
/-- An object's ten numbers; a state's. -/
def numsO (o : Nat → Int) : List Int := sumH o 9 :: restL o
def btsO (o : Nat → Int) : List Int := (numsO o).flatMap bts
def flL (L : Nat → List Int) : Nat → Nat → List Int
  | _, 0 => []
  | z, m + 1 => lst (L z) ++ flL L (z + 1) m
def numsP (p g : Nat → Int) : List Int := (List.range 18).map p ++ (List.range 7).map g
def bytesS (s : StT) : List Int := bts s.objs.length ++ (s.objs.flatMap btsO ++ (flL s.lists 0 11 ++ (numsP s.pl s.gm).flatMap bts))
/-- The next so many objects; lists. -/
def pO : Nat → List Int → List (Nat → Int) → List (Nat → Int) × List Int × Int
  | 0, l, acc => (acc, l, 0)
  | m + 1, l, acc =>
    if (tk l).2.2 ≠ 0 then ([], [], (tk l).2.2)
    else if (tk l).1 < 0 ∨ 4294967295 < (tk l).1 then ([], [], 1)
    else if (more 9 (l.drop (tk l).2.1) 0 []).2.2 ≠ 0 then ([], [], (more 9 (l.drop (tk l).2.1) 0 []).2.2)
    else if 2097152 ≤ (tk l).1 then ([], [], 2)
    else pO m ((l.drop (tk l).2.1).drop (more 9 (l.drop (tk l).2.1) 0 []).2.1) (acc ++ [objF (tk l).1 fun i => (more 9 (l.drop (tk l).2.1) 0 []).1.getD i 0])
def pL : Nat → Nat → List Int → (Nat → List Int) → (Nat → List Int) × List Int × Int
  | 0, _, l, L => (L, l, 0)
  | m + 1, z, l, L =>
    if (tl l 400).2.2 ≠ 0 then (fun _ => [], [], (tl l 400).2.2)
    else pL m (z + 1) (l.drop (tl l 400).2.1) (fun i => if i = z then (tl l 400).1 else L i)
/-- The state of objects, lists and 25 numbers. -/
def mkS (os : List (Nat → Int)) (L : Nat → List Int) (r : List Int) : StT := ⟨os, L, fun i => r.getD i 0, fun i => r.getD (18 + i) 0⟩
/-- With which state bytes begin; an error's number. -/
def parse3 (os : List (Nat → Int)) (L : Nat → List Int) (l : List Int) : StT × Int :=
  if (more 25 l 0 []).2.2 ≠ 0 then (sT0, (more 25 l 0 []).2.2)
  else if (more 25 l 0 []).2.1 < l.length then (sT0, 3)
  else if chkS (mkS os L (more 25 l 0 []).1) ≠ 0 then (sT0, chkS (mkS os L (more 25 l 0 []).1))
  else (mkS os L (more 25 l 0 []).1, 0)
def parse2 (os : List (Nat → Int)) (l : List Int) : StT × Int :=
  if (pL 11 0 l fun _ => []).2.2 ≠ 0 then (sT0, (pL 11 0 l fun _ => []).2.2) else parse3 os (pL 11 0 l fun _ => []).1 (pL 11 0 l fun _ => []).2.1
def parseS (l : List Int) : StT × Int :=
  if (tk l).2.2 ≠ 0 then (sT0, (tk l).2.2)
  else if (tk l).1 < 0 then (sT0, 1)
  else if 400 < (tk l).1 then (sT0, 5)
  else if (pO (tk l).1.toNat (l.drop (tk l).2.1) []).2.2 ≠ 0 then (sT0, (pO (tk l).1.toNat (l.drop (tk l).2.1) []).2.2)
  else parse2 (pO (tk l).1.toNat (l.drop (tk l).2.1) []).1 (pO (tk l).1.toNat (l.drop (tk l).2.1) []).2.1
/-- Objects that a head tells, of numbers. -/
def OkO (o : Nat → Int) : Prop := Fit o 9 ∧ ∀ i, i < 18 → i64B (o i)
theorem restL_len (o : Nat → Int) : (restL o).length = 9 := rfl
theorem restL_of {o : Nat → Int} {r : List Int} (hl : r.length = 9) (h : ∀ i, i < 9 → restF o i = r.getD i 0) : restL o = r := by
  refine List.ext_getElem (by rw [restL_len, hl]) fun i h1 h2 => ?_
  have := h i (by rw [← hl]; exact h2)
  simp only [restF, List.getD_eq_getElem?_getD, List.getElem?_eq_getElem h1, List.getElem?_eq_getElem h2, Option.getD_some] at this
  exact this
theorem restL_i64 {o : Nat → Int} (h : ∀ i, i < 18 → i64B (o i)) : ∀ n ∈ restL o, i64B n := by
  intro n hn
  simp only [restL, List.mem_cons, List.not_mem_nil, or_false] at hn
  rcases hn with rfl | rfl | rfl | rfl | rfl | rfl | rfl | rfl | rfl
  all_goals exact h _ (by omega)
theorem head_in {o : Nat → Int} (h : Fit o 9) : 0 ≤ sumH o 9 ∧ sumH o 9 < 2097152 := by
  have h1 := sumH_range 9 (by omega) h
  have h2 := wN_pos 9 (by omega)
  have h3 : wN 9 = 2097152 := by decide
  omega
theorem objF_i64 {x : Int} (_ : 0 ≤ x) (_ : x < 2097152) {r : Nat → Int} (hr : ∀ i, i < 9 → i64B (r i)) : ∀ i, i < 18 → i64B (objF x r i) := by
  refine all18 (all9 ?_ ?_ ?_ ?_ ?_ ?_ ?_ ?_ ?_) (all9 ?_ ?_ ?_ ?_ ?_ ?_ ?_ ?_ ?_)
  all_goals simp only [objF, objL, List.getD_cons_succ, List.getD_cons_zero, Nat.reduceAdd]
  all_goals first | exact hr _ (by omega) | (unfold i64B; omega)
theorem pO_range : ∀ (m : Nat) (l : List Int) (acc : List (Nat → Int)), byB l → ∀ os r e, pO m l acc = (os, r, e) →
    (os = [] ∧ r = [] ∧ e ≠ 0) ∨ (e = 0 ∧ byB r ∧ ∃ ns, os = acc ++ ns ∧ ns.length = m ∧ (∀ o ∈ ns, OkO o) ∧ l = ns.flatMap btsO ++ r)
  | 0, l, acc, hl => by
    intro os r e h
    simp only [pO, Prod.mk.injEq] at h
    obtain ⟨rfl, rfl, rfl⟩ := h
    exact .inr ⟨rfl, hl, [], by simp⟩
  | m + 1, l, acc, hl => by
    intro os r e h
    obtain ⟨n, k, e1, ht⟩ : ∃ n k e1, tk l = (n, k, e1) := ⟨_, _, _, rfl⟩
    obtain ⟨x, k2, e2, hm⟩ : ∃ x k2 e2, more 9 (l.drop k) 0 [] = (x, k2, e2) := ⟨_, _, _, rfl⟩
    rw [pO, ht] at h
    simp only at h
    rw [hm] at h
    simp only at h
    rcases tk_range hl ht with ⟨_, _, h1⟩ | ⟨rfl, h1, h2, h3, h4, h5⟩
    · rw [if_pos (by omega)] at h
      simp only [Prod.mk.injEq] at h
      exact .inl ⟨h.1.symm, h.2.1.symm, by omega⟩
    rw [if_neg (by omega)] at h
    by_cases hr : n < 0 ∨ 4294967295 < n
    · rw [if_pos hr] at h
      simp only [Prod.mk.injEq] at h
      exact .inl ⟨h.1.symm, h.2.1.symm, by omega⟩
    rw [if_neg hr] at h
    rcases more_range 9 (l.drop k) 0 [] (byB_drop k hl) (Nat.zero_le _) (fun n hn => by cases hn) x k2 e2 hm with ⟨_, _, h6⟩ | ⟨rfl, _, h7, s, hs, h8, h9, h10⟩
    · rw [if_pos (by omega)] at h
      simp only [Prod.mk.injEq] at h
      exact .inl ⟨h.1.symm, h.2.1.symm, by omega⟩
    rw [if_neg (by omega)] at h
    by_cases hb : 2097152 ≤ n
    · rw [if_pos hb] at h
      simp only [Prod.mk.injEq] at h
      exact .inl ⟨h.1.symm, h.2.1.symm, by omega⟩
    rw [if_neg hb] at h
    rw [List.nil_append] at hs
    subst hs
    rcases pO_range m _ _ (byB_drop k2 (byB_drop k hl)) os r e h with h' | ⟨rfl, hr2, ns, rfl, hn, hok, hl2⟩
    · exact .inl h'
    · obtain ⟨hf, hsum, hrest⟩ := head_back (x := n) (by omega) (by omega) (fun i => x.getD i 0)
      refine .inr ⟨rfl, hr2, objF n (fun i => x.getD i 0) :: ns, by simp, by simp [hn], ?_, ?_⟩
      · intro o ho
        rcases List.mem_cons.1 ho with rfl | ho
        · refine ⟨hf, objF_i64 (by omega) (by omega) fun i hi => ?_⟩
          rw [List.getD_eq_getElem?_getD, List.getElem?_eq_getElem (by omega), Option.getD_some]
          exact h9 _ (List.getElem_mem _)
        · exact hok o ho
      · rw [List.flatMap_cons, List.append_assoc, ← hl2, btsO, numsO, List.flatMap_cons, hsum, restL_of h8 hrest, h5, List.append_assoc]
        have h10' : l.drop k = x.flatMap bts ++ (l.drop k).drop k2 := by simpa using h10
        rw [← h10', List.take_append_drop]
theorem pL_range : ∀ (m z : Nat) (l : List Int) (L : Nat → List Int), byB l → ∀ L' r e, pL m z l L = (L', r, e) →
    (r = [] ∧ e ≠ 0) ∨ (e = 0 ∧ byB r ∧ (∀ i, i < z → L' i = L i) ∧ (∀ i, z + m ≤ i → L' i = L i) ∧ (∀ i, z ≤ i → i < z + m → ∀ n ∈ L' i, i64B n) ∧ l = flL L' z m ++ r)
  | 0, z, l, L, hl => by
    intro L' r e h
    simp only [pL, Prod.mk.injEq] at h
    obtain ⟨rfl, rfl, rfl⟩ := h
    exact .inr ⟨rfl, hl, fun _ _ => rfl, fun _ _ => rfl, fun i h1 h2 => absurd h2 (by omega), by simp [flL]⟩
  | m + 1, z, l, L, hl => by
    intro L' r e h
    obtain ⟨x, k, e1, ht⟩ : ∃ x k e1, tl l 400 = (x, k, e1) := ⟨_, _, _, rfl⟩
    rw [pL, ht] at h
    simp only at h
    rcases tl_range hl 400 ht with ⟨_, _, h1⟩ | ⟨rfl, h2, h3, h4⟩
    · rw [if_pos (by omega)] at h
      simp only [Prod.mk.injEq] at h
      exact .inl ⟨h.2.1.symm, by omega⟩
    rw [if_neg (by omega)] at h
    rcases pL_range m (z + 1) _ _ (byB_drop k hl) L' r e h with h' | ⟨rfl, hr, ha, hb, hc, hd⟩
    · exact .inl h'
    · have hz : L' z = x := by rw [ha z (by omega)]; simp
      refine .inr ⟨rfl, hr, fun i hi => ?_, fun i hi => ?_, fun i h5 h6 => ?_, ?_⟩
      · rw [ha i (by omega), if_neg (by omega)]
      · rw [hb i (by omega), if_neg (by omega)]
      · by_cases e : i = z
        · subst e; rw [hz]; exact h3
        · exact hc i (by omega) (by omega)
      · rw [flL, hz, List.append_assoc, ← hd]; exact h4
end Go.Proofs.YtihbdbgmijkjmaaDoor
