/- Layer 14: the document's journal, a list of parts, and the journal that it is. Plain facts. -/
import Derived.Test.YtncmfkmgaghklaaJnMath
namespace Go.Proofs.Ytncmfkmgaghklaa
open Go.RowKit Ex
set_option maxRecDepth 100000
namespace Ex
/-- The document's journal: what stands ahead of all checkpoints; checkpoints, each with what stands behind it; the last number. -/
structure PT where
  f : List EvT
  r : List (Int × List EvT)
  last : Int
end Ex
open Ex
def flat (r : List (Int × List EvT)) : List EvT := r.flatMap Prod.snd
theorem flat_app (a b : List (Int × List EvT)) : flat (a ++ b) = flat a ++ flat b := List.flatMap_append ..
theorem flat_cons (p : Int × List EvT) (r : List (Int × List EvT)) : flat (p :: r) = p.2 ++ flat r := List.flatMap_cons
def marksOf : Nat → List (Int × List EvT) → List (Int × Nat)
  | _, [] => []
  | n, p :: r => (p.1, n) :: marksOf (n + p.2.length) r
def evP (P : PT) : List EvT := P.f ++ flat P.r
def toJ (P : PT) : JT := ⟨evP P, marksOf P.f.length P.r, P.last⟩
def p0 : PT := ⟨[], [], 0⟩
theorem toJ_0 : toJ p0 = j0 := rfl
theorem marks_app (n : Nat) (a b : List (Int × List EvT)) : marksOf n (a ++ b) = marksOf n a ++ marksOf (n + (flat a).length) b := by
  induction a generalizing n with
  | nil => rfl
  | cons p a ih => simp only [List.cons_append, marksOf]; rw [ih, flat_cons, List.length_append, Nat.add_assoc]
/-- More events behind the last part. -/
def appLast : List (Int × List EvT) → List EvT → List (Int × List EvT)
  | [], _ => []
  | p :: r, l => if r = [] then [(p.1, p.2 ++ l)] else p :: appLast r l
def addP (P : PT) (l : List EvT) : PT := if P.r = [] then ⟨P.f ++ l, [], P.last⟩ else ⟨P.f, appLast P.r l, P.last⟩
theorem appLast_flat {r : List (Int × List EvT)} (h : r ≠ []) (l : List EvT) : flat (appLast r l) = flat r ++ l := by
  induction r with
  | nil => exact absurd rfl h
  | cons p r ih =>
    simp only [appLast]
    by_cases hr : r = []
    · subst hr; simp [flat]
    · rw [if_neg hr, flat_cons, flat_cons, ih hr, List.append_assoc]
theorem appLast_marks (n : Nat) (r : List (Int × List EvT)) (l : List EvT) : marksOf n (appLast r l) = marksOf n r := by
  induction r generalizing n with
  | nil => rfl
  | cons p r ih =>
    simp only [appLast]
    by_cases hr : r = []
    · subst hr; rfl
    · rw [if_neg hr]; simp only [marksOf]; rw [ih]
theorem toJ_add (P : PT) (l : List EvT) : toJ (addP P l) = ⟨(toJ P).ev ++ l, (toJ P).ms, (toJ P).last⟩ := by
  unfold addP
  by_cases hr : P.r = []
  · rw [if_pos hr]; unfold toJ evP; simp [hr, flat, marksOf]
  · rw [if_neg hr]
    unfold toJ evP
    simp only
    rw [appLast_flat hr, appLast_marks, List.append_assoc]
def markP (P : PT) : PT := ⟨P.f, P.r ++ [(P.last + 1, [])], P.last + 1⟩
theorem toJ_mark (P : PT) : toJ (markP P) = markJ (toJ P) := by
  unfold toJ markP markJ evP
  simp only
  rw [flat_app, marks_app, show flat [(P.last + 1, ([] : List EvT))] = [] from rfl, List.append_nil, List.length_append]
  rfl
/-- Which part a live checkpoint's is. -/
def idxP : List (Int × List EvT) → Int → Option Nat
  | [], _ => none
  | p :: r, c => if p.1 = c then some 0 else (idxP r c).map (· + 1)
theorem find_idx (n : Nat) (r : List (Int × List EvT)) (c : Int) : findM (marksOf n r) c = (idxP r c).map fun i => n + (flat (r.take i)).length := by
  induction r generalizing n with
  | nil => rfl
  | cons p r ih =>
    simp only [marksOf, findM, idxP]
    by_cases h : p.1 = c
    · rw [if_pos h, if_pos h]; simp [flat]
    · rw [if_neg h, if_neg h, ih]
      cases idxP r c with
      | none => rfl
      | some i => simp [List.take_succ_cons, flat_cons, Nat.add_assoc]
theorem idx_at {r : List (Int × List EvT)} {c : Int} {i : Nat} (h : idxP r c = some i) : ∃ l, r[i]? = some (c, l) := by
  induction r generalizing i with
  | nil => cases h
  | cons p r ih =>
    simp only [idxP] at h
    by_cases hp : p.1 = c
    · rw [if_pos hp] at h
      injection h with h
      subst h hp
      exact ⟨p.2, rfl⟩
    · rw [if_neg hp] at h
      cases hq : idxP r c with
      | none => rw [hq] at h; cases h
      | some k =>
        rw [hq] at h
        injection h with h
        subst h
        exact ih hq
theorem findJ_P (P : PT) (c : Int) : findJ (toJ P) c = (idxP P.r c).map fun i => P.f.length + (flat (P.r.take i)).length := find_idx _ _ _
theorem live_P (P : PT) (c : Int) : liveJ (toJ P) c = (idxP P.r c).isSome := by
  unfold liveJ
  rw [findJ_P]
  cases idxP P.r c <;> rfl
theorem ev_cut (P : PT) (i : Nat) : evP P = (P.f ++ flat (P.r.take i)) ++ flat (P.r.drop i) := by
  unfold evP
  rw [List.append_assoc, ← flat_app, List.take_append_drop]
theorem span_P {P : PT} {c : Int} {i : Nat} (h : idxP P.r c = some i) : spanJ (toJ P) c = flat (P.r.drop i) := by
  unfold spanJ
  rw [findJ_P, h]
  show (evP P).drop (P.f.length + (flat (P.r.take i)).length) = _
  rw [ev_cut P i, ← List.length_append, List.drop_left]
/-- Behind a checkpoint stands just that list. -/
def backP (P : PT) (c : Int) (i : Nat) (l : List EvT) : PT := ⟨P.f, P.r.take i ++ [(c, l)], P.last⟩
theorem cut_marks (n : Nat) {r : List (Int × List EvT)} {c : Int} {i : Nat} (h : idxP r c = some i) (l : List EvT) : marksOf n (r.take i ++ [(c, l)]) = cutM (marksOf n r) c := by
  induction r generalizing i n with
  | nil => cases h
  | cons p r ih =>
    simp only [idxP] at h
    by_cases hp : p.1 = c
    · rw [if_pos hp] at h
      injection h with h
      subst h
      simp only [marksOf, cutM]
      rw [if_pos hp]
      simp [marksOf, hp]
    · rw [if_neg hp] at h
      cases hq : idxP r c with
      | none => rw [hq] at h; cases h
      | some k =>
        rw [hq] at h
        injection h with h
        subst h
        simp only [List.take_succ_cons, List.cons_append, marksOf, cutM]
        rw [if_neg hp, ih _ hq]
theorem toJ_back {P : PT} {c : Int} {i : Nat} (h : idxP P.r c = some i) (l : List EvT) : toJ (backP P c i l) = ⟨(evP P).take (P.f.length + (flat (P.r.take i)).length) ++ l, cutM (toJ P).ms c, P.last⟩ := by
  unfold toJ backP
  simp only
  rw [cut_marks _ h]
  congr 1
  show P.f ++ flat (P.r.take i ++ [(c, l)]) = _
  rw [ev_cut P i, ← List.length_append, List.take_left, flat_app, ← List.append_assoc]
  simp [flat]
theorem back_P {P : PT} {c : Int} {i : Nat} (h : idxP P.r c = some i) : toJ (backP P c i []) = backJ (toJ P) c := by
  rw [toJ_back h]
  unfold backJ
  rw [findJ_P, h, List.append_nil]
  rfl
theorem fold_P {P : PT} {c : Int} {i : Nat} (h : idxP P.r c = some i) : toJ (backP P c i (netL (flat (P.r.drop i)))) = foldJ (toJ P) c := by
  rw [toJ_back h]
  unfold foldJ
  rw [findJ_P, h]
  have hd : (evP P).drop (P.f.length + (flat (P.r.take i)).length) = flat (P.r.drop i) := by rw [ev_cut P i, ← List.length_append, List.drop_left]
  show _ = JT.mk ((evP P).take (P.f.length + (flat (P.r.take i)).length) ++ netL ((evP P).drop (P.f.length + (flat (P.r.take i)).length))) _ _
  rw [hd]
  rfl
theorem nums_P (P : PT) : numsJ (toJ P) = P.r.map Prod.fst := by
  have : ∀ (n : Nat) (r : List (Int × List EvT)), (marksOf n r).map Prod.fst = r.map Prod.fst := by
    intro n r
    induction r generalizing n with
    | nil => rfl
    | cons p r ih => simp [marksOf, ih]
  exact this _ _
end Go.Proofs.Ytncmfkmgaghklaa
