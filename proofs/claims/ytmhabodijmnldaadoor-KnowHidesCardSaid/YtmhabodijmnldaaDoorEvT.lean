/- Layer 12: events as plain data. -/
import Derived.Test.YtmhabodijmnldaaDoorGen
import Derived.Test.YtmhabodijmnldaaDoorArr
import Derived.IntWalk
import Derived.Deep.Cut
import Derived.Deep.QuietTactic
import Derived.BigQuiet
import Derived.Lib.Hide
import Derived.WalkLawsBesides
import Derived.WalkSpells
namespace Go.Proofs.YtmhabodijmnldaaDoor
open Go.RowKit
namespace Ex
/-- An event: its kind, A to E. -/
structure EvT where
  k : Int
  a : Int
  b : Int
  c : Int
  d : Int
  e : Int
end Ex
open Ex
def evV (e : EvT) : Value := .agg #[.int .i64 e.k, .int .i64 e.a, .int .i64 e.b, .int .i64 e.c, .int .i64 e.d, .int .i64 e.e]
def rngE (e : EvT) : Prop := e.d ≤ 1073741824 ∧ -1073741824 ≤ e.d
instance (e : EvT) : Decidable (rngE e) := by unfold rngE; infer_instance
/-- An error's number. -/
def chkE (e : EvT) : Int :=
  if e.k = 0 ∨ e.k = 5 then (if e.d = 0 ∧ e.e = 0 then (if 0 ≤ e.a ∧ e.a ≤ 119 ∧ 0 ≤ e.b ∧ e.b ≤ 1 ∧ 0 ≤ e.c ∧ e.c ≤ 2 then 0 else 1) else 2)
  else if e.k = 1 then (if 0 ≤ e.a ∧ 0 ≤ e.b ∧ e.b ≤ 10 ∧ 0 ≤ e.c ∧ 0 ≤ e.d ∧ e.d ≤ 10 ∧ 0 ≤ e.e then 0 else 1)
  else if e.k = 2 then (if e.e = 0 then (if 0 ≤ e.a ∧ 0 ≤ e.b ∧ e.b ≤ 17 ∧ (e.b < 3 ∨ 3 < e.b) ∧ rngE e then 0 else 1) else 2)
  else if e.k = 3 then (if e.e = 0 then (if 0 ≤ e.a ∧ e.a ≤ 1 ∧ 0 ≤ e.b ∧ e.b ≤ 8 ∧ rngE e then 0 else 1) else 2)
  else if e.k = 4 then (if e.e = 0 ∧ e.a = 0 then (if 0 ≤ e.b ∧ e.b ≤ 6 ∧ rngE e then 0 else 1) else 2)
  else 6
/-- Undone. -/
def invE (e : EvT) : EvT :=
  if e.k = 0 then { e with k := 5 } else if e.k = 5 then { e with k := 0 } else if e.k = 1 then ⟨1, e.a, e.d, e.e, e.b, e.c⟩
  else if e.k = 2 ∨ e.k = 3 ∨ e.k = 4 then ⟨e.k, e.a, e.b, e.d, e.c, e.e⟩ else e
theorem inv_inv (e : EvT) : invE (invE e) = e := by
  obtain ⟨k, a, b, c, d, f⟩ := e
  unfold invE
  by_cases h0 : k = 0
  · subst h0; simp
  by_cases h5 : k = 5
  · subst h5; simp
  by_cases h1 : k = 1
  · subst h1; simp
  by_cases h2 : k = 2 ∨ k = 3 ∨ k = 4
  · simp [h0, h5, h1, h2]
  · simp [h0, h5, h1, h2]
/-- What may be is of a kind; its numbers. -/
theorem chkE_kind {e : EvT} (h : chkE e = 0) :
    (e.k = 0 ∧ e.d = 0 ∧ e.e = 0 ∧ 0 ≤ e.a ∧ e.a ≤ 119 ∧ 0 ≤ e.b ∧ e.b ≤ 1 ∧ 0 ≤ e.c ∧ e.c ≤ 2) ∨ (e.k = 5 ∧ e.d = 0 ∧ e.e = 0 ∧ 0 ≤ e.a ∧ e.a ≤ 119 ∧ 0 ≤ e.b ∧ e.b ≤ 1 ∧ 0 ≤ e.c ∧ e.c ≤ 2) ∨
    (e.k = 1 ∧ 0 ≤ e.a ∧ 0 ≤ e.b ∧ e.b ≤ 10 ∧ 0 ≤ e.c ∧ 0 ≤ e.d ∧ e.d ≤ 10 ∧ 0 ≤ e.e) ∨ (e.k = 2 ∧ e.e = 0 ∧ 0 ≤ e.a ∧ 0 ≤ e.b ∧ e.b ≤ 17 ∧ (e.b < 3 ∨ 3 < e.b) ∧ rngE e) ∨
    (e.k = 3 ∧ e.e = 0 ∧ 0 ≤ e.a ∧ e.a ≤ 1 ∧ 0 ≤ e.b ∧ e.b ≤ 8 ∧ rngE e) ∨ (e.k = 4 ∧ e.e = 0 ∧ e.a = 0 ∧ 0 ≤ e.b ∧ e.b ≤ 6 ∧ rngE e) := by
  unfold chkE rngE at h
  unfold rngE
  (repeat' split at h) <;> omega
theorem ck0 (a b c d f : Int) : chkE ⟨0, a, b, c, d, f⟩ = if d = 0 ∧ f = 0 then (if 0 ≤ a ∧ a ≤ 119 ∧ 0 ≤ b ∧ b ≤ 1 ∧ 0 ≤ c ∧ c ≤ 2 then 0 else 1) else 2 := rfl
theorem ck5 (a b c d f : Int) : chkE ⟨5, a, b, c, d, f⟩ = if d = 0 ∧ f = 0 then (if 0 ≤ a ∧ a ≤ 119 ∧ 0 ≤ b ∧ b ≤ 1 ∧ 0 ≤ c ∧ c ≤ 2 then 0 else 1) else 2 := rfl
theorem ck1 (a b c d f : Int) : chkE ⟨1, a, b, c, d, f⟩ = if 0 ≤ a ∧ 0 ≤ b ∧ b ≤ 10 ∧ 0 ≤ c ∧ 0 ≤ d ∧ d ≤ 10 ∧ 0 ≤ f then 0 else 1 := rfl
theorem ck2 (a b c d f : Int) : chkE ⟨2, a, b, c, d, f⟩ = if f = 0 then (if 0 ≤ a ∧ 0 ≤ b ∧ b ≤ 17 ∧ (b < 3 ∨ 3 < b) ∧ d ≤ 1073741824 ∧ -1073741824 ≤ d then 0 else 1) else 2 := rfl
theorem ck3 (a b c d f : Int) : chkE ⟨3, a, b, c, d, f⟩ = if f = 0 then (if 0 ≤ a ∧ a ≤ 1 ∧ 0 ≤ b ∧ b ≤ 8 ∧ d ≤ 1073741824 ∧ -1073741824 ≤ d then 0 else 1) else 2 := rfl
theorem ck4 (a b c d f : Int) : chkE ⟨4, a, b, c, d, f⟩ = if f = 0 ∧ a = 0 then (if 0 ≤ b ∧ b ≤ 6 ∧ d ≤ 1073741824 ∧ -1073741824 ≤ d then 0 else 1) else 2 := rfl
theorem ckN (k a b c d f : Int) (h : k < 0 ∨ 5 < k) : chkE ⟨k, a, b, c, d, f⟩ = 6 := by
  unfold chkE; dsimp only
  rw [if_neg (by omega), if_neg (by omega), if_neg (by omega), if_neg (by omega), if_neg (by omega)]
/-- An event's numbers. -/
structure EvI (e : EvT) : Prop where
  k : N64 e.k
  a : N64 e.a
  b : N64 e.b
  c : N64 e.c
  d : N64 e.d
  e : N64 e.e
end Go.Proofs.YtmhabodijmnldaaDoor
