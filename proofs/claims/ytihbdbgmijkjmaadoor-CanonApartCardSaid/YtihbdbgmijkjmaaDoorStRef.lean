/- Layer 10: the reference's Check, and the law package's Long. -/
import Derived.Test.YtihbdbgmijkjmaaDoorStArg
import Derived.Test.YtihbdbgmijkjmaaDoorIs
namespace Go.Proofs.YtihbdbgmijkjmaaDoor
open Go.RowKit Ex
set_option maxRecDepth 100000
/-- A number from one to another one. -/
def inR (n a b : Int) : Bool := decide (a ≤ n) && decide (n ≤ b)
theorem in_any (n a b : Int) (w : World) : Calls Tryd.prog 52 #[.int .i64 n, .int .i64 a, .int .i64 b] w fun e w' => e = .returned (.bool (inR n a b)) ∧ w = w' := by
  go_enter Tryd.func52, Tryd.ntmps52
  go_wp2_with fail
  all_goals (go_ret; refine ⟨?_, rfl⟩; simp [inR, *] <;> omega)
attribute [local go_sem] arr_get
/-- The fourth point, of one object. -/
def zeroB (o : Nat → Int) : Bool := o 4 == 0 && o 5 == 0 && o 6 == 0 && o 7 == 0 && o 8 == 0 && o 9 == 0 && o 10 == 0 && o 11 == 0 && o 12 == 0
def formedB (o : Nat → Int) : Bool := (o 3 == 8 || zeroB o) && (!decide (o 3 < 8) || o 2 == o 1) && (o 3 == 9 || o 16 == 0)
set_option maxHeartbeats 0 in
theorem formed_any (o : Nat → Int) (w : World) : Calls Tryd.prog 36 #[.agg (arr .i64 18 o)] w fun e w' => e = .returned (.bool (formedB o)) ∧ Below w.heap.size w w' := by
  go_enter Tryd.func36, Tryd.ntmps36
  by_cases e3 : o 3 = 8
  · go_wp2_with fail
    go_ret
    exact ⟨by simp [formedB, zeroB, *], (Below.refl _ _).alloc (Nat.le_refl _) _⟩
  have f3 : (o 3 == 8) = false := by simpa using e3
  have g3 : (o 3 != 8) = true := by simp [bne, f3]
  by_cases e4 : o 4 = 0
  case neg =>
    have f4 : (o 4 == 0) = false := by simpa using e4
    have g4 : (o 4 != 0) = true := by simp [bne, f4]
    go_wp2_with fail
    go_ret
    exact ⟨by simp [formedB, zeroB, *], (Below.refl _ _).alloc (Nat.le_refl _) _⟩
  by_cases e5 : o 5 = 0
  case neg =>
    have f5 : (o 5 == 0) = false := by simpa using e5
    have g5 : (o 5 != 0) = true := by simp [bne, f5]
    go_wp2_with fail
    go_ret
    exact ⟨by simp [formedB, zeroB, *], (Below.refl _ _).alloc (Nat.le_refl _) _⟩
  by_cases e6 : o 6 = 0
  case neg =>
    have f6 : (o 6 == 0) = false := by simpa using e6
    have g6 : (o 6 != 0) = true := by simp [bne, f6]
    go_wp2_with fail
    go_ret
    exact ⟨by simp [formedB, zeroB, *], (Below.refl _ _).alloc (Nat.le_refl _) _⟩
  by_cases e7 : o 7 = 0
  case neg =>
    have f7 : (o 7 == 0) = false := by simpa using e7
    have g7 : (o 7 != 0) = true := by simp [bne, f7]
    go_wp2_with fail
    go_ret
    exact ⟨by simp [formedB, zeroB, *], (Below.refl _ _).alloc (Nat.le_refl _) _⟩
  by_cases e8 : o 8 = 0
  case neg =>
    have f8 : (o 8 == 0) = false := by simpa using e8
    have g8 : (o 8 != 0) = true := by simp [bne, f8]
    go_wp2_with fail
    go_ret
    exact ⟨by simp [formedB, zeroB, *], (Below.refl _ _).alloc (Nat.le_refl _) _⟩
  by_cases e9 : o 9 = 0
  case neg =>
    have f9 : (o 9 == 0) = false := by simpa using e9
    have g9 : (o 9 != 0) = true := by simp [bne, f9]
    go_wp2_with fail
    go_ret
    exact ⟨by simp [formedB, zeroB, *], (Below.refl _ _).alloc (Nat.le_refl _) _⟩
  by_cases e10 : o 10 = 0
  case neg =>
    have f10 : (o 10 == 0) = false := by simpa using e10
    have g10 : (o 10 != 0) = true := by simp [bne, f10]
    go_wp2_with fail
    go_ret
    exact ⟨by simp [formedB, zeroB, *], (Below.refl _ _).alloc (Nat.le_refl _) _⟩
  by_cases e11 : o 11 = 0
  case neg =>
    have f11 : (o 11 == 0) = false := by simpa using e11
    have g11 : (o 11 != 0) = true := by simp [bne, f11]
    go_wp2_with fail
    go_ret
    exact ⟨by simp [formedB, zeroB, *], (Below.refl _ _).alloc (Nat.le_refl _) _⟩
  by_cases e12 : o 12 = 0
  case neg =>
    have f12 : (o 12 == 0) = false := by simpa using e12
    have g12 : (o 12 != 0) = true := by simp [bne, f12]
    go_wp2_with fail
    go_ret
    exact ⟨by simp [formedB, zeroB, *], (Below.refl _ _).alloc (Nat.le_refl _) _⟩
  by_cases l8 : o 3 < 8
  · have d8 : decide (o 3 < 8) = true := decide_eq_true l8
    have f9 : (o 3 == 9) = false := by simp; omega
    have g9 : (o 3 != 9) = true := by simp [bne, f9]
    by_cases e21 : o 2 = o 1
    · have f21 : (o 2 == o 1) = true := by simpa using e21
      go_wp2_with fail
      go_ret
      exact ⟨by simp [formedB, zeroB, *], (Below.refl _ _).alloc (Nat.le_refl _) _⟩
    · have f21 : (o 2 == o 1) = false := by simpa using e21
      go_wp2_with fail
      go_ret
      exact ⟨by simp [formedB, zeroB, *], (Below.refl _ _).alloc (Nat.le_refl _) _⟩
  · have d8 : decide (o 3 < 8) = false := decide_eq_false l8
    by_cases e9 : o 3 = 9
    · have f9 : (o 3 == 9) = true := by simpa using e9
      go_wp2_with fail
      go_ret
      exact ⟨by simp [formedB, zeroB, *], (Below.refl _ _).alloc (Nat.le_refl _) _⟩
    · have f9 : (o 3 == 9) = false := by simpa using e9
      go_wp2_with fail
      go_ret
      exact ⟨by simp [formedB, zeroB, *], (Below.refl _ _).alloc (Nat.le_refl _) _⟩
end Go.Proofs.YtihbdbgmijkjmaaDoor
