/- Layer 15: who knows an object, as plain data. -/
import Derived.Test.YtmhabodijmnldaaDoorEvT
namespace Go.Proofs.YtmhabodijmnldaaDoor
open Go.RowKit Ex
set_option maxRecDepth 100000
/-- Is a number's bit p 1 (of two's complement, p = 0 or 1)? -/
def bitK (x p : Int) : Bool := (decide (p = 0) && decide (x % 2 = 1)) || (decide (p = 1) && decide (x / 2 % 2 = 1))
theorem bit0 (x : Int) : bitK x 0 = decide (x % 2 = 1) := by unfold bitK; simp
theorem bit1 (x : Int) : bitK x 1 = decide (x / 2 % 2 = 1) := by unfold bitK; simp
theorem bitN {x p : Int} (h0 : p ≠ 0) (h1 : p ≠ 1) : bitK x p = false := by unfold bitK; simp [h0, h1]
/-- Who knows what stands in a list. -/
def zoneK (z : Int) : Int := if z = 2 then 1 else if z = 3 then 2 else if 4 ≤ z ∧ z ≤ 10 then 3 else 0
/-- One player more, or less. -/
def chg1 (x ps : Int) (is : Bool) (p : Int) : Int := if bitK ps p = true ∧ bitK x p ≠ is then (if is = true then x + (p + 1) else x - (p + 1)) else x
def chgK (x ps : Int) (is : Bool) : Int := chg1 (chg1 x ps is 0) ps is 1
/-- A player more knows by b than by a. -/
def moreK (a b : Int) : Bool := (bitK b 0 && !bitK a 0) || (bitK b 1 && !bitK a 1)
def gainsE (e : EvT) : Bool := decide (e.k = 2) && decide (e.b = 17) && moreK e.c e.d
def losesE (e : EvT) : Bool := decide (e.k = 2) && decide (e.b = 17) && moreK e.d e.c
theorem chg1_64 {x ps p : Int} {is : Bool} (hx : N64 x) (hp : p = 0 ∨ p = 1) : N64 (chg1 x ps is p) := by
  unfold chg1
  obtain ⟨h0, h1⟩ := hx
  by_cases h : bitK ps p = true ∧ bitK x p ≠ is
  · rw [if_pos h]
    cases is with
    | true =>
      have hb : bitK x p = false := by simpa using h.2
      rw [if_pos rfl]
      rcases hp with rfl | rfl
      · rw [bit0, decide_eq_false_iff_not] at hb; exact ⟨by omega, by omega⟩
      · rw [bit1, decide_eq_false_iff_not] at hb; exact ⟨by omega, by omega⟩
    | false =>
      have hb : bitK x p = true := by simpa using h.2
      rw [if_neg (by simp)]
      rcases hp with rfl | rfl
      · rw [bit0, decide_eq_true_iff] at hb; exact ⟨by omega, by omega⟩
      · rw [bit1, decide_eq_true_iff] at hb; exact ⟨by omega, by omega⟩
  · rw [if_neg h]; exact ⟨h0, h1⟩
theorem chg_64 {x ps : Int} {is : Bool} (hx : N64 x) : N64 (chgK x ps is) := chg1_64 (chg1_64 hx (.inl rfl)) (.inr rfl)
/-- A number as a set of 64 bits. -/
theorem wrap_bits (x : Int) : ∃ u : Nat, IntKind.u64.wrap x = (u : Int) ∧ u < 18446744073709551616 ∧ ((u : Int) % 2 = x % 2) ∧ ((u : Int) / 2 % 2 = x / 2 % 2) := by
  have h : IntKind.u64.wrap x = x % 18446744073709551616 := by simp only [IntKind.wrap, IntKind.bits, IntKind.signed]; simp
  refine ⟨(x % 18446744073709551616).toNat, by rw [h]; omega, by omega, by omega, by omega⟩
theorem u64_small {y : Int} (h0 : 0 ≤ y) (h1 : y < 18446744073709551616) : IntKind.u64.wrap y = y := by
  have h : IntKind.u64.wrap y = y % 18446744073709551616 := by simp only [IntKind.wrap, IntKind.bits, IntKind.signed]; simp
  rw [h]; omega
/-- The event by which players know an object, or don't. -/
def showE (os : List (Nat → Int)) (id ps : Int) (is : Bool) : List EvT := if id < 0 ∨ (os.length : Int) ≤ id then [] else
  if chgK ((os.getD id.toNat fun _ => 0) 17) ps is = (os.getD id.toNat fun _ => 0) 17 then [] else [⟨2, id, 17, (os.getD id.toNat fun _ => 0) 17, chgK ((os.getD id.toNat fun _ => 0) 17) ps is, 0⟩]
/-- The numbers of the objects that a player knows, from k on. -/
def knownK (p : Int) : Nat → List (Nat → Int) → List Int
  | _, [] => []
  | k, o :: r => (if bitK (o 17) p = true then [(k : Int)] else []) ++ knownK p (k + 1) r
theorem known_snoc (p : Int) : ∀ (l : List (Nat → Int)) (k : Nat) (o : Nat → Int), knownK p k (l ++ [o]) = knownK p k l ++ (if bitK (o 17) p = true then [((k + l.length : Nat) : Int)] else [])
  | [], k, o => by simp [knownK]
  | x :: l, k, o => by
    simp only [List.cons_append, knownK]
    rw [known_snoc p l (k + 1) o, List.append_assoc, List.length_cons, show k + 1 + l.length = k + (l.length + 1) by omega]
theorem known_len (p : Int) : ∀ (l : List (Nat → Int)) (k : Nat), (knownK p k l).length ≤ l.length
  | [], _ => Nat.le_refl _
  | x :: l, k => by
    have := known_len p l (k + 1)
    simp only [knownK, List.length_append, List.length_cons]
    split <;> simp <;> omega
/-- A state as a player sees it. -/
def seeO (p : Int) (o : Nat → Int) : Nat → Int := if bitK (o 17) p = true then o else fun i => if i = 1 ∨ i = 2 ∨ i = 3 then o i else 0
end Go.Proofs.YtmhabodijmnldaaDoor
