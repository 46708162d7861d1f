/- Layer 7: which cards are right. -/
import Derived.Test.YtmdfgkfimlmmnaaDoorCardUses
import Derived.Test.YtmdfgkfimlmmnaaDoorTreeTop
namespace Go.Proofs.YtmdfgkfimlmmnaaDoor
open Go.RowKit Ex Mx
namespace Ex
instance (f : Nat → Int) : Decidable (GoodC f) := by unfold GoodC; infer_instance
instance (f : Nat → Int) (b : Bool) : Decidable (CostC f b) := by unfold CostC; infer_instance
def KindC (c : CardT) : Prop := (0 ≤ c.kind ∧ c.kind ≤ 3) ∧ (0 ≤ c.colour ∧ c.colour ≤ 5)
instance (c : CardT) : Decidable (KindC c) := by unfold KindC; infer_instance
def BodyC (c : CardT) : Prop := if c.kind = 1 then (0 ≤ c.power ∧ c.power ≤ 99) ∧ (1 ≤ c.tough ∧ c.tough ≤ 99) ∧ (0 ≤ c.says ∧ c.says ≤ 255) else c.power = 0 ∧ c.tough = 0 ∧ c.says = 0
instance (c : CardT) : Decidable (BodyC c) := by unfold BodyC; infer_instance
def ShapeC (c : CardT) : Prop := (c.fast = true → c.kind = 2 ∨ c.kind = 1) ∧ (if c.kind = 2 then (usesL c.abs 0).length = 1 ∧ c.abs.length = 1 else (usesL c.abs 0).length = 0 ∧ c.abs.length ≤ 4)
instance (c : CardT) : Decidable (ShapeC c) := by unfold ShapeC; infer_instance
def TapC (a : AbT) : Prop := (a.when_ = 6 → a.tap = true) ∧ (a.when_ ≠ 6 → a.when_ ≠ 1 → a.tap = false)
instance (a : AbT) : Decidable (TapC a) := by unfold TapC; infer_instance
def TargC (a : AbT) : Prop := (0 ≤ a.target ∧ a.target ≤ 5) ∧ (a.target = 0 ∨ a.when_ = 0 ∨ a.when_ = 1)
instance (a : AbT) : Decidable (TargC a) := by unfold TargC; infer_instance
def MtC (a : AbT) : Prop := a.when_ = 6 → a.do_.op = 15 ∧ a.do_.who = 0
instance (a : AbT) : Decidable (MtC a) := by unfold MtC; infer_instance
def StC (a : AbT) : Prop := a.when_ = 5 → a.do_.op = 20 ∧ (headOp a.do_.subs = 10 ∨ headOp a.do_.subs = 23 ∨ headOp a.do_.subs = 24 ∨ headOp a.do_.subs = 25)
instance (a : AbT) : Decidable (StC a) := by unfold StC; infer_instance
/-- The number of what is wrong with an ability. -/
def chkA (a : AbT) : Int :=
  if ¬ (0 ≤ a.when_ ∧ a.when_ ≤ 6) then 6
  else if ¬ CostC a.cost (a.when_ != 1) then 10
  else if ¬ TapC a then 2
  else if ¬ TargC a then 11
  else if chkTop a.do_ a.target ≠ 0 then chkTop a.do_ a.target
  else if ¬ MtC a then 2
  else if ¬ StC a then 2
  else 0
def chkAs : List AbT → Int
  | [] => 0
  | a :: l => if chkA a ≠ 0 then chkA a else chkAs l
/-- The number of what is wrong with a card. -/
def chkC (c : CardT) : Int :=
  if ¬ KindC c then 6
  else if ¬ CostC c.cost (c.kind == 0) then 10
  else if ¬ BodyC c then 1
  else if ¬ ShapeC c then 2
  else chkAs c.abs
theorem chkAs_take : ∀ (l : List AbT) (k : Nat) (a : AbT), chkAs (l.take k) = 0 → l[k]? = some a → chkAs (l.take (k + 1)) = chkA a
  | [], k, a, _, h => by simp at h
  | x :: l, 0, a, _, h => by
    simp at h; subst h
    simp only [List.take_succ_cons, List.take_zero, chkAs]
    by_cases e : chkA x = 0
    · rw [if_neg (by simpa using e), e]
    · rw [if_pos e]
  | x :: l, k + 1, a, h0, h => by
    simp only [List.take_succ_cons, chkAs] at h0 ⊢
    by_cases e : chkA x = 0
    · rw [if_neg (by simpa using e)] at h0
      rw [if_neg (by simpa using e)]
      exact chkAs_take l k a h0 (by simpa using h)
    · rw [if_pos e] at h0; exact absurd h0 e
theorem chkAs_stop : ∀ (l : List AbT) (k : Nat) (a : AbT), chkAs (l.take k) = 0 → l[k]? = some a → chkA a ≠ 0 → chkAs l = chkA a
  | [], k, a, _, h, _ => by simp at h
  | x :: l, 0, a, _, h, hn => by
    simp at h; subst h
    simp only [chkAs]; rw [if_pos hn]
  | x :: l, k + 1, a, h0, h, hn => by
    simp only [List.take_succ_cons, chkAs] at h0 ⊢
    by_cases e : chkA x = 0
    · rw [if_neg (by simpa using e)] at h0
      rw [if_neg (by simpa using e)]
      exact chkAs_stop l k a h0 (by simpa using h) hn
    · rw [if_pos e] at h0; exact absurd h0 e
theorem chkAs_all : ∀ (l : List AbT), chkAs l = 0 → ∀ (i : Nat) (a : AbT), l[i]? = some a → chkA a = 0
  | [], _, i, a, h => by simp at h
  | x :: l, h, 0, a, hi => by
    simp at hi; subst hi
    simp only [chkAs] at h
    by_cases e : chkA x = 0
    · exact e
    · rw [if_pos e] at h; exact absurd h e
  | x :: l, h, i + 1, a, hi => by
    simp only [chkAs] at h
    by_cases e : chkA x = 0
    · rw [if_neg (by simpa using e)] at h
      exact chkAs_all l h i a (by simpa using hi)
    · rw [if_pos e] at h; exact absurd h e
/-- A right All has one within. -/
theorem chk_all {t : ET} {tg : Int} (h : chkTop t tg = 0) (ho : t.op = 20) : ∃ x, t.subs = [x] := by
  cases t with
  | node op n m who l =>
    have ho : op = 20 := ho
    subst ho
    unfold chkTop at h
    split at h
    · omega
    · simp only [chkT] at h
      rw [if_neg (by omega), if_neg (by omega)] at h
      split at h
      · omega
      · split at h
        · omega
        · split at h
          · omega
          · rename_i hf
            have hf : FormC 20 l := by
              by_cases q : FormC 20 l
              · exact q
              · exact absurd q hf
            unfold FormC at hf
            rw [if_pos rfl] at hf
            match l, hf.1 with
            | [x], _ => exact ⟨x, rfl⟩
end Ex
end Go.Proofs.YtmdfgkfimlmmnaaDoor
