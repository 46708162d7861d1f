/- Layer 6: which numbers and whom an effect is about: the reference's ranges, fits, objects. -/
import Derived.Test.YtmdfgkfimlmmnaaDoorTreeBase
namespace Go.Proofs.YtmdfgkfimlmmnaaDoor
open Go.RowKit Ex
namespace Ex
def ObjC (op : Int) : Prop := (6 ≤ op ∧ op ≤ 8) ∨ (10 ≤ op ∧ op ≤ 13) ∨ (23 ≤ op ∧ op ≤ 25)
instance (op : Int) : Decidable (ObjC op) := by unfold ObjC; infer_instance
def nMost (op : Int) : Int := if op = 20 then 3 else if op = 22 then 2 else if op = 23 ∨ op = 25 then 255 else 99
def mLeast (op : Int) : Int := if op = 14 then 112 else 0
def mMost (op : Int) : Int := if op = 15 then 5 else if op = 14 then 119 else 99
/-- The numbers are as they may be. -/
def RangesC (op n m who : Int) : Prop := (0 ≤ who ∧ who ≤ 4) ∧ (if op = 10 ∨ op = 24 then (-99 ≤ n ∧ n ≤ 99) ∧ (-99 ≤ m ∧ m ≤ 99) else (0 ≤ n ∧ n ≤ nMost op) ∧ (mLeast op ≤ m ∧ m ≤ mMost op))
instance (op n m who : Int) : Decidable (RangesC op n m who) := by unfold RangesC; infer_instance
/-- Whom it is about fits. -/
def FitsC (op who tg : Int) : Prop :=
  if op = 0 ∨ (20 ≤ op ∧ op ≤ 22) then who = 0
  else if op = 1 then who = 0 ∨ who = 1 ∨ who = 4 ∨ (who = 2 ∧ 1 ≤ tg ∧ tg ≤ 3)
  else if op = 9 then who = 2 ∧ tg = 4
  else if ObjC op then who = 3 ∨ (who = 2 ∧ (tg = 1 ∨ tg = 5))
  else who = 0 ∨ who = 1 ∨ who = 4 ∨ (who = 2 ∧ tg = 2)
instance (op who tg : Int) : Decidable (FitsC op who tg) := by unfold FitsC; infer_instance
end Ex
end Go.Proofs.YtmdfgkfimlmmnaaDoor
