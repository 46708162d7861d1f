/- Layer 6: which effects are right: the reference's check. -/
import Derived.Test.YtmdfgkfimlmmnaaDoorTreeFits
namespace Go.Proofs.YtmdfgkfimlmmnaaDoor
open Go.RowKit Ex
namespace Ex
def headOp : List ET → Int
  | [] => 0
  | t :: _ => t.op
def headWho : List ET → Int
  | [] => 0
  | t :: _ => t.who
/-- It has as many within as it may, and such ones. -/
def FormC (op : Int) (l : List ET) : Prop :=
  if op = 20 then l.length = 1 ∧ (headOp l = 1 ∨ ObjC (headOp l))
  else if op = 21 then 1 ≤ l.length ∧ l.length ≤ 8
  else if op = 22 then 1 ≤ l.length ∧ l.length ≤ 2
  else l.length = 0
instance (op : Int) (l : List ET) : Decidable (FormC op l) := by unfold FormC; infer_instance
mutual
/-- The number of what is wrong with it, where it stands so deep. -/
def chkT : ET → Int → Nat → Int
  | .node op n m who l, tg, dp =>
    if ¬ (0 ≤ op ∧ op ≤ 25) then 6
    else if 8 < dp then 3
    else if ¬ RangesC op n m who then 1
    else if ¬ FitsC op who tg then 11
    else if ¬ FormC op l then 2
    else if op = 20 then (if chkL l 1 (dp + 1) ≠ 0 then chkL l 1 (dp + 1) else if headWho l ≠ 2 then 11 else 0)
    else chkL l tg (dp + 1)
def chkL : List ET → Int → Nat → Int
  | [], _, _ => 0
  | t :: l, tg, dp => if chkT t tg dp ≠ 0 then chkT t tg dp else chkL l tg dp
end
theorem chkL_take {tg : Int} {dp : Nat} : ∀ (l : List ET) (k : Nat) (t : ET), chkL (l.take k) tg dp = 0 → l[k]? = some t → chkL (l.take (k + 1)) tg dp = chkT t tg dp
  | [], k, t, _, h => by simp at h
  | x :: l, 0, t, _, h => by
    simp at h; subst h
    simp only [List.take_succ_cons, List.take_zero, chkL]
    by_cases e : chkT x tg dp = 0
    · rw [if_neg (by simpa using e), e]
    · rw [if_pos e]
  | x :: l, k + 1, t, h0, h => by
    simp only [List.take_succ_cons, chkL] at h0 ⊢
    by_cases e : chkT x tg dp = 0
    · rw [if_neg (by simpa using e)] at h0
      rw [if_neg (by simpa using e)]
      exact chkL_take l k t h0 (by simpa using h)
    · rw [if_pos e] at h0; exact absurd h0 e
theorem chkL_stop {tg : Int} {dp : Nat} : ∀ (l : List ET) (k : Nat) (t : ET), chkL (l.take k) tg dp = 0 → l[k]? = some t → chkT t tg dp ≠ 0 → chkL l tg dp = chkT t tg dp
  | [], k, t, _, h, _ => by simp at h
  | x :: l, 0, t, _, h, hn => by
    simp at h; subst h
    simp only [chkL]; rw [if_pos hn]
  | x :: l, k + 1, t, h0, h, hn => by
    simp only [List.take_succ_cons, chkL] at h0 ⊢
    by_cases e : chkT x tg dp = 0
    · rw [if_neg (by simpa using e)] at h0
      rw [if_neg (by simpa using e)]
      exact chkL_stop l k t h0 (by simpa using h) hn
    · rw [if_pos e] at h0; exact absurd h0 e
mutual
theorem chkT_range : ∀ (t : ET) (tg : Int) (dp : Nat), 0 ≤ chkT t tg dp ∧ chkT t tg dp ≤ 11
  | .node op n m who l, tg, dp => by
    have h1 := chkL_range l 1 (dp + 1)
    have h2 := chkL_range l tg (dp + 1)
    simp only [chkT]
    repeat' split
    all_goals omega
theorem chkL_range : ∀ (l : List ET) (tg : Int) (dp : Nat), 0 ≤ chkL l tg dp ∧ chkL l tg dp ≤ 11
  | [], _, _ => by simp [chkL]
  | t :: l, tg, dp => by
    have h1 := chkT_range t tg dp
    have h2 := chkL_range l tg dp
    simp only [chkL]
    split <;> omega
end
end Ex
end Go.Proofs.YtmdfgkfimlmmnaaDoor
