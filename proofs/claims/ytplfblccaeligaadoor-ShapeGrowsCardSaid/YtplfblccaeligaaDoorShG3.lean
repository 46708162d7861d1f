/- Layer 10: the reference's Check, and the law package's Long. Layer 10: the reference's object. Layer 10: an object within, loaded whole; a state's box. Layer 10: the reference's ranges. Layer 10: the reference's zones. Layer 10: the reference's Check. Layer 10: what a right state's parts are. -/
import Derived.Test.YtplfblccaeligaaDoorStArg
import Derived.Test.YtplfblccaeligaaDoorShG2
import Derived.Test.YtplfblccaeligaaDoorSt
import Derived.IntWalk
import Derived.Deep.Cut
import Derived.Deep.QuietTactic
import Derived.BigQuiet
import Derived.Lib.Hide
import Derived.WalkLawsBesides
import Derived.WalkSpells
import Derived.WalkMore
namespace Go.Proofs.YtplfblccaeligaaDoor
open Go.RowKit Ex
set_option maxRecDepth 100000
/-- A number from one to another one. -/
def inR (n a b : Int) : Bool := decide (a ≤ n) && decide (n ≤ b)
theorem in_any (n a b : Int) (w : World) : Calls Tryd.prog 42 #[.int .i64 n, .int .i64 a, .int .i64 b] w fun e w' => e = .returned (.bool (inR n a b)) ∧ w = w' := by
  go_enter Tryd.func42, Tryd.ntmps42
  go_wp2_with fail
  all_goals (go_ret; refine ⟨?_, rfl⟩; simp [inR, *] <;> omega)
attribute [local go_sem] arr_get
/-- The fourth point, of one object. -/
def zeroB (o : Nat → Int) : Bool := o 4 == 0 && o 5 == 0 && o 6 == 0 && o 7 == 0 && o 8 == 0 && o 9 == 0 && o 10 == 0 && o 11 == 0 && o 12 == 0
def formedB (o : Nat → Int) : Bool := (o 3 == 8 || zeroB o) && (!decide (o 3 < 8) || o 2 == o 1) && (o 3 == 9 || o 16 == 0)
set_option maxHeartbeats 0 in
theorem formed_any (o : Nat → Int) (w : World) : Calls Tryd.prog 26 #[.agg (arr .i64 18 o)] w fun e w' => e = .returned (.bool (formedB o)) ∧ Below w.heap.size w w' := by
  go_enter Tryd.func26, Tryd.ntmps26
  by_cases e3 : o 3 = 8
  · go_wp2_with fail
    go_ret
    exact ⟨by simp [formedB, zeroB, *], (Below.refl _ _).alloc (Nat.le_refl _) _⟩
  have f3 : (o 3 == 8) = false := by simpa using e3
  have g3 : (o 3 != 8) = true := by simp [bne, f3]
  by_cases e4 : o 4 = 0
  case neg =>
    have f4 : (o 4 == 0) = false := by simpa using e4
    have g4 : (o 4 != 0) = true := by simp [bne, f4]
    go_wp2_with fail
    go_ret
    exact ⟨by simp [formedB, zeroB, *], (Below.refl _ _).alloc (Nat.le_refl _) _⟩
  by_cases e5 : o 5 = 0
  case neg =>
    have f5 : (o 5 == 0) = false := by simpa using e5
    have g5 : (o 5 != 0) = true := by simp [bne, f5]
    go_wp2_with fail
    go_ret
    exact ⟨by simp [formedB, zeroB, *], (Below.refl _ _).alloc (Nat.le_refl _) _⟩
  by_cases e6 : o 6 = 0
  case neg =>
    have f6 : (o 6 == 0) = false := by simpa using e6
    have g6 : (o 6 != 0) = true := by simp [bne, f6]
    go_wp2_with fail
    go_ret
    exact ⟨by simp [formedB, zeroB, *], (Below.refl _ _).alloc (Nat.le_refl _) _⟩
  by_cases e7 : o 7 = 0
  case neg =>
    have f7 : (o 7 == 0) = false := by simpa using e7
    have g7 : (o 7 != 0) = true := by simp [bne, f7]
    go_wp2_with fail
    go_ret
    exact ⟨by simp [formedB, zeroB, *], (Below.refl _ _).alloc (Nat.le_refl _) _⟩
  by_cases e8 : o 8 = 0
  case neg =>
    have f8 : (o 8 == 0) = false := by simpa using e8
    have g8 : (o 8 != 0) = true := by simp [bne, f8]
    go_wp2_with fail
    go_ret
    exact ⟨by simp [formedB, zeroB, *], (Below.refl _ _).alloc (Nat.le_refl _) _⟩
  by_cases e9 : o 9 = 0
  case neg =>
    have f9 : (o 9 == 0) = false := by simpa using e9
    have g9 : (o 9 != 0) = true := by simp [bne, f9]
    go_wp2_with fail
    go_ret
    exact ⟨by simp [formedB, zeroB, *], (Below.refl _ _).alloc (Nat.le_refl _) _⟩
  by_cases e10 : o 10 = 0
  case neg =>
    have f10 : (o 10 == 0) = false := by simpa using e10
    have g10 : (o 10 != 0) = true := by simp [bne, f10]
    go_wp2_with fail
    go_ret
    exact ⟨by simp [formedB, zeroB, *], (Below.refl _ _).alloc (Nat.le_refl _) _⟩
  by_cases e11 : o 11 = 0
  case neg =>
    have f11 : (o 11 == 0) = false := by simpa using e11
    have g11 : (o 11 != 0) = true := by simp [bne, f11]
    go_wp2_with fail
    go_ret
    exact ⟨by simp [formedB, zeroB, *], (Below.refl _ _).alloc (Nat.le_refl _) _⟩
  by_cases e12 : o 12 = 0
  case neg =>
    have f12 : (o 12 == 0) = false := by simpa using e12
    have g12 : (o 12 != 0) = true := by simp [bne, f12]
    go_wp2_with fail
    go_ret
    exact ⟨by simp [formedB, zeroB, *], (Below.refl _ _).alloc (Nat.le_refl _) _⟩
  by_cases l8 : o 3 < 8
  · have d8 : decide (o 3 < 8) = true := decide_eq_true l8
    have f9 : (o 3 == 9) = false := by simp; omega
    have g9 : (o 3 != 9) = true := by simp [bne, f9]
    by_cases e21 : o 2 = o 1
    · have f21 : (o 2 == o 1) = true := by simpa using e21
      go_wp2_with fail
      go_ret
      exact ⟨by simp [formedB, zeroB, *], (Below.refl _ _).alloc (Nat.le_refl _) _⟩
    · have f21 : (o 2 == o 1) = false := by simpa using e21
      go_wp2_with fail
      go_ret
      exact ⟨by simp [formedB, zeroB, *], (Below.refl _ _).alloc (Nat.le_refl _) _⟩
  · have d8 : decide (o 3 < 8) = false := decide_eq_false l8
    by_cases e9 : o 3 = 9
    · have f9 : (o 3 == 9) = true := by simpa using e9
      go_wp2_with fail
      go_ret
      exact ⟨by simp [formedB, zeroB, *], (Below.refl _ _).alloc (Nat.le_refl _) _⟩
    · have f9 : (o 3 == 9) = false := by simpa using e9
      go_wp2_with fail
      go_ret
      exact ⟨by simp [formedB, zeroB, *], (Below.refl _ _).alloc (Nat.le_refl _) _⟩
end Go.Proofs.YtplfblccaeligaaDoor
namespace Go.Proofs.YtplfblccaeligaaDoor
open Go.RowKit Ex
set_option maxRecDepth 100000
attribute [local go_sem] arr_get
/-- An object's numbers, in a state of n objects. -/
def objectB (o : Nat → Int) (n : Int) : Bool :=
  inR (o 0) 0 119 && inR (o 1) 0 1 && inR (o 2) 0 1 && inR (o 3) 0 10 && inR (o 4) 0 1 && inR (o 5) 0 1 && inR (o 11) 0 1 && inR (o 13) 0 2 && inR (o 17) 0 3 && inR (o 10) 0 255 && inR (o 14) 0 3 &&
  inR (o 6) 0 1073741824 && inR (o 7) 0 1073741824 && inR (o 8) (-1073741824) 1073741824 && inR (o 9) (-1073741824) 1073741824 && inR (o 12) 0 n && inR (o 15) 0 n && inR (o 16) (-2) n
set_option maxHeartbeats 0 in
theorem st_object_any (o : Nat → Int) (n : Int) (w : World) : Calls Tryd.prog 41 #[.agg (arr .i64 18 o), .int .i64 n] w fun e w' => e = .returned (.bool (objectB o n)) ∧ Below w.heap.size w w' := by
  go_enter Tryd.func41, Tryd.ntmps41
  by_cases h0 : inR (o 0) 0 119 = true
  case neg =>
    have f0 : inR (o 0) 0 119 = false := by simpa using h0
    go_wp2_with fail
    refine (in_any _ _ _ _).mono ?_
    rintro e w2 ⟨rfl, rfl⟩
    go_wp2_with fail
    go_ret
    exact ⟨congrArg (fun b => Ending.returned (Value.bool b)) (by simp only [objectB, f0, Bool.false_and] : false = objectB o n), (Below.refl _ _).alloc (Nat.le_refl _) _⟩
  by_cases h1 : inR (o 1) 0 1 = true
  case neg =>
    have f1 : inR (o 1) 0 1 = false := by simpa using h1
    go_wp2_with fail
    refine (in_any _ _ _ _).mono ?_
    rintro e w2 ⟨rfl, rfl⟩
    go_wp2_with fail
    refine (in_any _ _ _ _).mono ?_
    rintro e w2 ⟨rfl, rfl⟩
    go_wp2_with fail
    go_ret
    exact ⟨congrArg (fun b => Ending.returned (Value.bool b)) (by simp only [objectB, f1, Bool.false_and, Bool.and_false] : false = objectB o n), (Below.refl _ _).alloc (Nat.le_refl _) _⟩
  by_cases h2 : inR (o 2) 0 1 = true
  case neg =>
    have f2 : inR (o 2) 0 1 = false := by simpa using h2
    go_wp2_with fail
    refine (in_any _ _ _ _).mono ?_
    rintro e w2 ⟨rfl, rfl⟩
    go_wp2_with fail
    refine (in_any _ _ _ _).mono ?_
    rintro e w2 ⟨rfl, rfl⟩
    go_wp2_with fail
    refine (in_any _ _ _ _).mono ?_
    rintro e w2 ⟨rfl, rfl⟩
    go_wp2_with fail
    go_ret
    exact ⟨congrArg (fun b => Ending.returned (Value.bool b)) (by simp only [objectB, f2, Bool.false_and, Bool.and_false] : false = objectB o n), (Below.refl _ _).alloc (Nat.le_refl _) _⟩
  by_cases h3 : inR (o 3) 0 10 = true
  case neg =>
    have f3 : inR (o 3) 0 10 = false := by simpa using h3
    go_wp2_with fail
    refine (in_any _ _ _ _).mono ?_
    rintro e w2 ⟨rfl, rfl⟩
    go_wp2_with fail
    refine (in_any _ _ _ _).mono ?_
    rintro e w2 ⟨rfl, rfl⟩
    go_wp2_with fail
    refine (in_any _ _ _ _).mono ?_
    rintro e w2 ⟨rfl, rfl⟩
    go_wp2_with fail
    refine (in_any _ _ _ _).mono ?_
    rintro e w2 ⟨rfl, rfl⟩
    go_wp2_with fail
    go_ret
    exact ⟨congrArg (fun b => Ending.returned (Value.bool b)) (by simp only [objectB, f3, Bool.false_and, Bool.and_false] : false = objectB o n), (Below.refl _ _).alloc (Nat.le_refl _) _⟩
  by_cases h4 : inR (o 4) 0 1 = true
  case neg =>
    have f4 : inR (o 4) 0 1 = false := by simpa using h4
    go_wp2_with fail
    refine (in_any _ _ _ _).mono ?_
    rintro e w2 ⟨rfl, rfl⟩
    go_wp2_with fail
    refine (in_any _ _ _ _).mono ?_
    rintro e w2 ⟨rfl, rfl⟩
    go_wp2_with fail
    refine (in_any _ _ _ _).mono ?_
    rintro e w2 ⟨rfl, rfl⟩
    go_wp2_with fail
    refine (in_any _ _ _ _).mono ?_
    rintro e w2 ⟨rfl, rfl⟩
    go_wp2_with fail
    refine (in_any _ _ _ _).mono ?_
    rintro e w2 ⟨rfl, rfl⟩
    go_wp2_with fail
    go_ret
    exact ⟨congrArg (fun b => Ending.returned (Value.bool b)) (by simp only [objectB, f4, Bool.false_and, Bool.and_false] : false = objectB o n), (Below.refl _ _).alloc (Nat.le_refl _) _⟩
  by_cases h5 : inR (o 5) 0 1 = true
  case neg =>
    have f5 : inR (o 5) 0 1 = false := by simpa using h5
    go_wp2_with fail
    refine (in_any _ _ _ _).mono ?_
    rintro e w2 ⟨rfl, rfl⟩
    go_wp2_with fail
    refine (in_any _ _ _ _).mono ?_
    rintro e w2 ⟨rfl, rfl⟩
    go_wp2_with fail
    refine (in_any _ _ _ _).mono ?_
    rintro e w2 ⟨rfl, rfl⟩
    go_wp2_with fail
    refine (in_any _ _ _ _).mono ?_
    rintro e w2 ⟨rfl, rfl⟩
    go_wp2_with fail
    refine (in_any _ _ _ _).mono ?_
    rintro e w2 ⟨rfl, rfl⟩
    go_wp2_with fail
    refine (in_any _ _ _ _).mono ?_
    rintro e w2 ⟨rfl, rfl⟩
    go_wp2_with fail
    go_ret
    exact ⟨congrArg (fun b => Ending.returned (Value.bool b)) (by simp only [objectB, f5, Bool.false_and, Bool.and_false] : false = objectB o n), (Below.refl _ _).alloc (Nat.le_refl _) _⟩
  by_cases h11 : inR (o 11) 0 1 = true
  case neg =>
    have f11 : inR (o 11) 0 1 = false := by simpa using h11
    go_wp2_with fail
    refine (in_any _ _ _ _).mono ?_
    rintro e w2 ⟨rfl, rfl⟩
    go_wp2_with fail
    refine (in_any _ _ _ _).mono ?_
    rintro e w2 ⟨rfl, rfl⟩
    go_wp2_with fail
    refine (in_any _ _ _ _).mono ?_
    rintro e w2 ⟨rfl, rfl⟩
    go_wp2_with fail
    refine (in_any _ _ _ _).mono ?_
    rintro e w2 ⟨rfl, rfl⟩
    go_wp2_with fail
    refine (in_any _ _ _ _).mono ?_
    rintro e w2 ⟨rfl, rfl⟩
    go_wp2_with fail
    refine (in_any _ _ _ _).mono ?_
    rintro e w2 ⟨rfl, rfl⟩
    go_wp2_with fail
    refine (in_any _ _ _ _).mono ?_
    rintro e w2 ⟨rfl, rfl⟩
    go_wp2_with fail
    go_ret
    exact ⟨congrArg (fun b => Ending.returned (Value.bool b)) (by simp only [objectB, f11, Bool.false_and, Bool.and_false] : false = objectB o n), (Below.refl _ _).alloc (Nat.le_refl _) _⟩
  by_cases h13 : inR (o 13) 0 2 = true
  case neg =>
    have f13 : inR (o 13) 0 2 = false := by simpa using h13
    go_wp2_with fail
    refine (in_any _ _ _ _).mono ?_
    rintro e w2 ⟨rfl, rfl⟩
    go_wp2_with fail
    refine (in_any _ _ _ _).mono ?_
    rintro e w2 ⟨rfl, rfl⟩
    go_wp2_with fail
    refine (in_any _ _ _ _).mono ?_
    rintro e w2 ⟨rfl, rfl⟩
    go_wp2_with fail
    refine (in_any _ _ _ _).mono ?_
    rintro e w2 ⟨rfl, rfl⟩
    go_wp2_with fail
    refine (in_any _ _ _ _).mono ?_
    rintro e w2 ⟨rfl, rfl⟩
    go_wp2_with fail
    refine (in_any _ _ _ _).mono ?_
    rintro e w2 ⟨rfl, rfl⟩
    go_wp2_with fail
    refine (in_any _ _ _ _).mono ?_
    rintro e w2 ⟨rfl, rfl⟩
    go_wp2_with fail
    refine (in_any _ _ _ _).mono ?_
    rintro e w2 ⟨rfl, rfl⟩
    go_wp2_with fail
    go_ret
    exact ⟨congrArg (fun b => Ending.returned (Value.bool b)) (by simp only [objectB, f13, Bool.false_and, Bool.and_false] : false = objectB o n), (Below.refl _ _).alloc (Nat.le_refl _) _⟩
  by_cases h17 : inR (o 17) 0 3 = true
  case neg =>
    have f17 : inR (o 17) 0 3 = false := by simpa using h17
    go_wp2_with fail
    refine (in_any _ _ _ _).mono ?_
    rintro e w2 ⟨rfl, rfl⟩
    go_wp2_with fail
    refine (in_any _ _ _ _).mono ?_
    rintro e w2 ⟨rfl, rfl⟩
    go_wp2_with fail
    refine (in_any _ _ _ _).mono ?_
    rintro e w2 ⟨rfl, rfl⟩
    go_wp2_with fail
    refine (in_any _ _ _ _).mono ?_
    rintro e w2 ⟨rfl, rfl⟩
    go_wp2_with fail
    refine (in_any _ _ _ _).mono ?_
    rintro e w2 ⟨rfl, rfl⟩
    go_wp2_with fail
    refine (in_any _ _ _ _).mono ?_
    rintro e w2 ⟨rfl, rfl⟩
    go_wp2_with fail
    refine (in_any _ _ _ _).mono ?_
    rintro e w2 ⟨rfl, rfl⟩
    go_wp2_with fail
    refine (in_any _ _ _ _).mono ?_
    rintro e w2 ⟨rfl, rfl⟩
    go_wp2_with fail
    refine (in_any _ _ _ _).mono ?_
    rintro e w2 ⟨rfl, rfl⟩
    go_wp2_with fail
    go_ret
    exact ⟨congrArg (fun b => Ending.returned (Value.bool b)) (by simp only [objectB, f17, Bool.false_and, Bool.and_false] : false = objectB o n), (Below.refl _ _).alloc (Nat.le_refl _) _⟩
  by_cases h10 : inR (o 10) 0 255 = true
  case neg =>
    have f10 : inR (o 10) 0 255 = false := by simpa using h10
    go_wp2_with fail
    refine (in_any _ _ _ _).mono ?_
    rintro e w2 ⟨rfl, rfl⟩
    go_wp2_with fail
    refine (in_any _ _ _ _).mono ?_
    rintro e w2 ⟨rfl, rfl⟩
    go_wp2_with fail
    refine (in_any _ _ _ _).mono ?_
    rintro e w2 ⟨rfl, rfl⟩
    go_wp2_with fail
    refine (in_any _ _ _ _).mono ?_
    rintro e w2 ⟨rfl, rfl⟩
    go_wp2_with fail
    refine (in_any _ _ _ _).mono ?_
    rintro e w2 ⟨rfl, rfl⟩
    go_wp2_with fail
    refine (in_any _ _ _ _).mono ?_
    rintro e w2 ⟨rfl, rfl⟩
    go_wp2_with fail
    refine (in_any _ _ _ _).mono ?_
    rintro e w2 ⟨rfl, rfl⟩
    go_wp2_with fail
    refine (in_any _ _ _ _).mono ?_
    rintro e w2 ⟨rfl, rfl⟩
    go_wp2_with fail
    refine (in_any _ _ _ _).mono ?_
    rintro e w2 ⟨rfl, rfl⟩
    go_wp2_with fail
    refine (in_any _ _ _ _).mono ?_
    rintro e w2 ⟨rfl, rfl⟩
    go_wp2_with fail
    go_ret
    exact ⟨congrArg (fun b => Ending.returned (Value.bool b)) (by simp only [objectB, f10, Bool.false_and, Bool.and_false] : false = objectB o n), (Below.refl _ _).alloc (Nat.le_refl _) _⟩
  by_cases h14 : inR (o 14) 0 3 = true
  case neg =>
    have f14 : inR (o 14) 0 3 = false := by simpa using h14
    go_wp2_with fail
    refine (in_any _ _ _ _).mono ?_
    rintro e w2 ⟨rfl, rfl⟩
    go_wp2_with fail
    refine (in_any _ _ _ _).mono ?_
    rintro e w2 ⟨rfl, rfl⟩
    go_wp2_with fail
    refine (in_any _ _ _ _).mono ?_
    rintro e w2 ⟨rfl, rfl⟩
    go_wp2_with fail
    refine (in_any _ _ _ _).mono ?_
    rintro e w2 ⟨rfl, rfl⟩
    go_wp2_with fail
    refine (in_any _ _ _ _).mono ?_
    rintro e w2 ⟨rfl, rfl⟩
    go_wp2_with fail
    refine (in_any _ _ _ _).mono ?_
    rintro e w2 ⟨rfl, rfl⟩
    go_wp2_with fail
    refine (in_any _ _ _ _).mono ?_
    rintro e w2 ⟨rfl, rfl⟩
    go_wp2_with fail
    refine (in_any _ _ _ _).mono ?_
    rintro e w2 ⟨rfl, rfl⟩
    go_wp2_with fail
    refine (in_any _ _ _ _).mono ?_
    rintro e w2 ⟨rfl, rfl⟩
    go_wp2_with fail
    refine (in_any _ _ _ _).mono ?_
    rintro e w2 ⟨rfl, rfl⟩
    go_wp2_with fail
    refine (in_any _ _ _ _).mono ?_
    rintro e w2 ⟨rfl, rfl⟩
    go_wp2_with fail
    go_ret
    exact ⟨congrArg (fun b => Ending.returned (Value.bool b)) (by simp only [objectB, f14, Bool.false_and, Bool.and_false] : false = objectB o n), (Below.refl _ _).alloc (Nat.le_refl _) _⟩
  by_cases h6 : inR (o 6) 0 1073741824 = true
  case neg =>
    have f6 : inR (o 6) 0 1073741824 = false := by simpa using h6
    go_wp2_with fail
    refine (in_any _ _ _ _).mono ?_
    rintro e w2 ⟨rfl, rfl⟩
    go_wp2_with fail
    refine (in_any _ _ _ _).mono ?_
    rintro e w2 ⟨rfl, rfl⟩
    go_wp2_with fail
    refine (in_any _ _ _ _).mono ?_
    rintro e w2 ⟨rfl, rfl⟩
    go_wp2_with fail
    refine (in_any _ _ _ _).mono ?_
    rintro e w2 ⟨rfl, rfl⟩
    go_wp2_with fail
    refine (in_any _ _ _ _).mono ?_
    rintro e w2 ⟨rfl, rfl⟩
    go_wp2_with fail
    refine (in_any _ _ _ _).mono ?_
    rintro e w2 ⟨rfl, rfl⟩
    go_wp2_with fail
    refine (in_any _ _ _ _).mono ?_
    rintro e w2 ⟨rfl, rfl⟩
    go_wp2_with fail
    refine (in_any _ _ _ _).mono ?_
    rintro e w2 ⟨rfl, rfl⟩
    go_wp2_with fail
    refine (in_any _ _ _ _).mono ?_
    rintro e w2 ⟨rfl, rfl⟩
    go_wp2_with fail
    refine (in_any _ _ _ _).mono ?_
    rintro e w2 ⟨rfl, rfl⟩
    go_wp2_with fail
    refine (in_any _ _ _ _).mono ?_
    rintro e w2 ⟨rfl, rfl⟩
    go_wp2_with fail
    refine (in_any _ _ _ _).mono ?_
    rintro e w2 ⟨rfl, rfl⟩
    go_wp2_with fail
    go_ret
    exact ⟨congrArg (fun b => Ending.returned (Value.bool b)) (by simp only [objectB, f6, Bool.false_and, Bool.and_false] : false = objectB o n), (Below.refl _ _).alloc (Nat.le_refl _) _⟩
  by_cases h7 : inR (o 7) 0 1073741824 = true
  case neg =>
    have f7 : inR (o 7) 0 1073741824 = false := by simpa using h7
    go_wp2_with fail
    refine (in_any _ _ _ _).mono ?_
    rintro e w2 ⟨rfl, rfl⟩
    go_wp2_with fail
    refine (in_any _ _ _ _).mono ?_
    rintro e w2 ⟨rfl, rfl⟩
    go_wp2_with fail
    refine (in_any _ _ _ _).mono ?_
    rintro e w2 ⟨rfl, rfl⟩
    go_wp2_with fail
    refine (in_any _ _ _ _).mono ?_
    rintro e w2 ⟨rfl, rfl⟩
    go_wp2_with fail
    refine (in_any _ _ _ _).mono ?_
    rintro e w2 ⟨rfl, rfl⟩
    go_wp2_with fail
    refine (in_any _ _ _ _).mono ?_
    rintro e w2 ⟨rfl, rfl⟩
    go_wp2_with fail
    refine (in_any _ _ _ _).mono ?_
    rintro e w2 ⟨rfl, rfl⟩
    go_wp2_with fail
    refine (in_any _ _ _ _).mono ?_
    rintro e w2 ⟨rfl, rfl⟩
    go_wp2_with fail
    refine (in_any _ _ _ _).mono ?_
    rintro e w2 ⟨rfl, rfl⟩
    go_wp2_with fail
    refine (in_any _ _ _ _).mono ?_
    rintro e w2 ⟨rfl, rfl⟩
    go_wp2_with fail
    refine (in_any _ _ _ _).mono ?_
    rintro e w2 ⟨rfl, rfl⟩
    go_wp2_with fail
    refine (in_any _ _ _ _).mono ?_
    rintro e w2 ⟨rfl, rfl⟩
    go_wp2_with fail
    refine (in_any _ _ _ _).mono ?_
    rintro e w2 ⟨rfl, rfl⟩
    go_wp2_with fail
    go_ret
    exact ⟨congrArg (fun b => Ending.returned (Value.bool b)) (by simp only [objectB, f7, Bool.false_and, Bool.and_false] : false = objectB o n), (Below.refl _ _).alloc (Nat.le_refl _) _⟩
  by_cases h8 : inR (o 8) (-1073741824) 1073741824 = true
  case neg =>
    have f8 : inR (o 8) (-1073741824) 1073741824 = false := by simpa using h8
    go_wp2_with fail
    refine (in_any _ _ _ _).mono ?_
    rintro e w2 ⟨rfl, rfl⟩
    go_wp2_with fail
    refine (in_any _ _ _ _).mono ?_
    rintro e w2 ⟨rfl, rfl⟩
    go_wp2_with fail
    refine (in_any _ _ _ _).mono ?_
    rintro e w2 ⟨rfl, rfl⟩
    go_wp2_with fail
    refine (in_any _ _ _ _).mono ?_
    rintro e w2 ⟨rfl, rfl⟩
    go_wp2_with fail
    refine (in_any _ _ _ _).mono ?_
    rintro e w2 ⟨rfl, rfl⟩
    go_wp2_with fail
    refine (in_any _ _ _ _).mono ?_
    rintro e w2 ⟨rfl, rfl⟩
    go_wp2_with fail
    refine (in_any _ _ _ _).mono ?_
    rintro e w2 ⟨rfl, rfl⟩
    go_wp2_with fail
    refine (in_any _ _ _ _).mono ?_
    rintro e w2 ⟨rfl, rfl⟩
    go_wp2_with fail
    refine (in_any _ _ _ _).mono ?_
    rintro e w2 ⟨rfl, rfl⟩
    go_wp2_with fail
    refine (in_any _ _ _ _).mono ?_
    rintro e w2 ⟨rfl, rfl⟩
    go_wp2_with fail
    refine (in_any _ _ _ _).mono ?_
    rintro e w2 ⟨rfl, rfl⟩
    go_wp2_with fail
    refine (in_any _ _ _ _).mono ?_
    rintro e w2 ⟨rfl, rfl⟩
    go_wp2_with fail
    refine (in_any _ _ _ _).mono ?_
    rintro e w2 ⟨rfl, rfl⟩
    go_wp2_with fail
    refine (in_any _ _ _ _).mono ?_
    rintro e w2 ⟨rfl, rfl⟩
    go_wp2_with fail
    go_ret
    exact ⟨congrArg (fun b => Ending.returned (Value.bool b)) (by simp only [objectB, f8, Bool.false_and, Bool.and_false] : false = objectB o n), (Below.refl _ _).alloc (Nat.le_refl _) _⟩
  by_cases h9 : inR (o 9) (-1073741824) 1073741824 = true
  case neg =>
    have f9 : inR (o 9) (-1073741824) 1073741824 = false := by simpa using h9
    go_wp2_with fail
    refine (in_any _ _ _ _).mono ?_
    rintro e w2 ⟨rfl, rfl⟩
    go_wp2_with fail
    refine (in_any _ _ _ _).mono ?_
    rintro e w2 ⟨rfl, rfl⟩
    go_wp2_with fail
    refine (in_any _ _ _ _).mono ?_
    rintro e w2 ⟨rfl, rfl⟩
    go_wp2_with fail
    refine (in_any _ _ _ _).mono ?_
    rintro e w2 ⟨rfl, rfl⟩
    go_wp2_with fail
    refine (in_any _ _ _ _).mono ?_
    rintro e w2 ⟨rfl, rfl⟩
    go_wp2_with fail
    refine (in_any _ _ _ _).mono ?_
    rintro e w2 ⟨rfl, rfl⟩
    go_wp2_with fail
    refine (in_any _ _ _ _).mono ?_
    rintro e w2 ⟨rfl, rfl⟩
    go_wp2_with fail
    refine (in_any _ _ _ _).mono ?_
    rintro e w2 ⟨rfl, rfl⟩
    go_wp2_with fail
    refine (in_any _ _ _ _).mono ?_
    rintro e w2 ⟨rfl, rfl⟩
    go_wp2_with fail
    refine (in_any _ _ _ _).mono ?_
    rintro e w2 ⟨rfl, rfl⟩
    go_wp2_with fail
    refine (in_any _ _ _ _).mono ?_
    rintro e w2 ⟨rfl, rfl⟩
    go_wp2_with fail
    refine (in_any _ _ _ _).mono ?_
    rintro e w2 ⟨rfl, rfl⟩
    go_wp2_with fail
    refine (in_any _ _ _ _).mono ?_
    rintro e w2 ⟨rfl, rfl⟩
    go_wp2_with fail
    refine (in_any _ _ _ _).mono ?_
    rintro e w2 ⟨rfl, rfl⟩
    go_wp2_with fail
    refine (in_any _ _ _ _).mono ?_
    rintro e w2 ⟨rfl, rfl⟩
    go_wp2_with fail
    go_ret
    exact ⟨congrArg (fun b => Ending.returned (Value.bool b)) (by simp only [objectB, f9, Bool.false_and, Bool.and_false] : false = objectB o n), (Below.refl _ _).alloc (Nat.le_refl _) _⟩
  by_cases h12 : inR (o 12) 0 n = true
  case neg =>
    have f12 : inR (o 12) 0 n = false := by simpa using h12
    go_wp2_with fail
    refine (in_any _ _ _ _).mono ?_
    rintro e w2 ⟨rfl, rfl⟩
    go_wp2_with fail
    refine (in_any _ _ _ _).mono ?_
    rintro e w2 ⟨rfl, rfl⟩
    go_wp2_with fail
    refine (in_any _ _ _ _).mono ?_
    rintro e w2 ⟨rfl, rfl⟩
    go_wp2_with fail
    refine (in_any _ _ _ _).mono ?_
    rintro e w2 ⟨rfl, rfl⟩
    go_wp2_with fail
    refine (in_any _ _ _ _).mono ?_
    rintro e w2 ⟨rfl, rfl⟩
    go_wp2_with fail
    refine (in_any _ _ _ _).mono ?_
    rintro e w2 ⟨rfl, rfl⟩
    go_wp2_with fail
    refine (in_any _ _ _ _).mono ?_
    rintro e w2 ⟨rfl, rfl⟩
    go_wp2_with fail
    refine (in_any _ _ _ _).mono ?_
    rintro e w2 ⟨rfl, rfl⟩
    go_wp2_with fail
    refine (in_any _ _ _ _).mono ?_
    rintro e w2 ⟨rfl, rfl⟩
    go_wp2_with fail
    refine (in_any _ _ _ _).mono ?_
    rintro e w2 ⟨rfl, rfl⟩
    go_wp2_with fail
    refine (in_any _ _ _ _).mono ?_
    rintro e w2 ⟨rfl, rfl⟩
    go_wp2_with fail
    refine (in_any _ _ _ _).mono ?_
    rintro e w2 ⟨rfl, rfl⟩
    go_wp2_with fail
    refine (in_any _ _ _ _).mono ?_
    rintro e w2 ⟨rfl, rfl⟩
    go_wp2_with fail
    refine (in_any _ _ _ _).mono ?_
    rintro e w2 ⟨rfl, rfl⟩
    go_wp2_with fail
    refine (in_any _ _ _ _).mono ?_
    rintro e w2 ⟨rfl, rfl⟩
    go_wp2_with fail
    refine (in_any _ _ _ _).mono ?_
    rintro e w2 ⟨rfl, rfl⟩
    go_wp2_with fail
    go_ret
    exact ⟨congrArg (fun b => Ending.returned (Value.bool b)) (by simp only [objectB, f12, Bool.false_and, Bool.and_false] : false = objectB o n), (Below.refl _ _).alloc (Nat.le_refl _) _⟩
  by_cases h15 : inR (o 15) 0 n = true
  case neg =>
    have f15 : inR (o 15) 0 n = false := by simpa using h15
    go_wp2_with fail
    refine (in_any _ _ _ _).mono ?_
    rintro e w2 ⟨rfl, rfl⟩
    go_wp2_with fail
    refine (in_any _ _ _ _).mono ?_
    rintro e w2 ⟨rfl, rfl⟩
    go_wp2_with fail
    refine (in_any _ _ _ _).mono ?_
    rintro e w2 ⟨rfl, rfl⟩
    go_wp2_with fail
    refine (in_any _ _ _ _).mono ?_
    rintro e w2 ⟨rfl, rfl⟩
    go_wp2_with fail
    refine (in_any _ _ _ _).mono ?_
    rintro e w2 ⟨rfl, rfl⟩
    go_wp2_with fail
    refine (in_any _ _ _ _).mono ?_
    rintro e w2 ⟨rfl, rfl⟩
    go_wp2_with fail
    refine (in_any _ _ _ _).mono ?_
    rintro e w2 ⟨rfl, rfl⟩
    go_wp2_with fail
    refine (in_any _ _ _ _).mono ?_
    rintro e w2 ⟨rfl, rfl⟩
    go_wp2_with fail
    refine (in_any _ _ _ _).mono ?_
    rintro e w2 ⟨rfl, rfl⟩
    go_wp2_with fail
    refine (in_any _ _ _ _).mono ?_
    rintro e w2 ⟨rfl, rfl⟩
    go_wp2_with fail
    refine (in_any _ _ _ _).mono ?_
    rintro e w2 ⟨rfl, rfl⟩
    go_wp2_with fail
    refine (in_any _ _ _ _).mono ?_
    rintro e w2 ⟨rfl, rfl⟩
    go_wp2_with fail
    refine (in_any _ _ _ _).mono ?_
    rintro e w2 ⟨rfl, rfl⟩
    go_wp2_with fail
    refine (in_any _ _ _ _).mono ?_
    rintro e w2 ⟨rfl, rfl⟩
    go_wp2_with fail
    refine (in_any _ _ _ _).mono ?_
    rintro e w2 ⟨rfl, rfl⟩
    go_wp2_with fail
    refine (in_any _ _ _ _).mono ?_
    rintro e w2 ⟨rfl, rfl⟩
    go_wp2_with fail
    refine (in_any _ _ _ _).mono ?_
    rintro e w2 ⟨rfl, rfl⟩
    go_wp2_with fail
    go_ret
    exact ⟨congrArg (fun b => Ending.returned (Value.bool b)) (by simp only [objectB, f15, Bool.false_and, Bool.and_false] : false = objectB o n), (Below.refl _ _).alloc (Nat.le_refl _) _⟩
  by_cases h16 : inR (o 16) (-2) n = true
  case neg =>
    have f16 : inR (o 16) (-2) n = false := by simpa using h16
    go_wp2_with fail
    refine (in_any _ _ _ _).mono ?_
    rintro e w2 ⟨rfl, rfl⟩
    go_wp2_with fail
    refine (in_any _ _ _ _).mono ?_
    rintro e w2 ⟨rfl, rfl⟩
    go_wp2_with fail
    refine (in_any _ _ _ _).mono ?_
    rintro e w2 ⟨rfl, rfl⟩
    go_wp2_with fail
    refine (in_any _ _ _ _).mono ?_
    rintro e w2 ⟨rfl, rfl⟩
    go_wp2_with fail
    refine (in_any _ _ _ _).mono ?_
    rintro e w2 ⟨rfl, rfl⟩
    go_wp2_with fail
    refine (in_any _ _ _ _).mono ?_
    rintro e w2 ⟨rfl, rfl⟩
    go_wp2_with fail
    refine (in_any _ _ _ _).mono ?_
    rintro e w2 ⟨rfl, rfl⟩
    go_wp2_with fail
    refine (in_any _ _ _ _).mono ?_
    rintro e w2 ⟨rfl, rfl⟩
    go_wp2_with fail
    refine (in_any _ _ _ _).mono ?_
    rintro e w2 ⟨rfl, rfl⟩
    go_wp2_with fail
    refine (in_any _ _ _ _).mono ?_
    rintro e w2 ⟨rfl, rfl⟩
    go_wp2_with fail
    refine (in_any _ _ _ _).mono ?_
    rintro e w2 ⟨rfl, rfl⟩
    go_wp2_with fail
    refine (in_any _ _ _ _).mono ?_
    rintro e w2 ⟨rfl, rfl⟩
    go_wp2_with fail
    refine (in_any _ _ _ _).mono ?_
    rintro e w2 ⟨rfl, rfl⟩
    go_wp2_with fail
    refine (in_any _ _ _ _).mono ?_
    rintro e w2 ⟨rfl, rfl⟩
    go_wp2_with fail
    refine (in_any _ _ _ _).mono ?_
    rintro e w2 ⟨rfl, rfl⟩
    go_wp2_with fail
    refine (in_any _ _ _ _).mono ?_
    rintro e w2 ⟨rfl, rfl⟩
    go_wp2_with fail
    refine (in_any _ _ _ _).mono ?_
    rintro e w2 ⟨rfl, rfl⟩
    go_wp2_with fail
    refine (in_any _ _ _ _).mono ?_
    rintro e w2 ⟨rfl, rfl⟩
    go_wp2_with fail
    go_ret
    exact ⟨congrArg (fun b => Ending.returned (Value.bool b)) (by simp only [objectB, f16, Bool.and_false] : false = objectB o n), (Below.refl _ _).alloc (Nat.le_refl _) _⟩
  go_wp2_with fail
  refine (in_any _ _ _ _).mono ?_
  rintro e w2 ⟨rfl, rfl⟩
  go_wp2_with fail
  refine (in_any _ _ _ _).mono ?_
  rintro e w2 ⟨rfl, rfl⟩
  go_wp2_with fail
  refine (in_any _ _ _ _).mono ?_
  rintro e w2 ⟨rfl, rfl⟩
  go_wp2_with fail
  refine (in_any _ _ _ _).mono ?_
  rintro e w2 ⟨rfl, rfl⟩
  go_wp2_with fail
  refine (in_any _ _ _ _).mono ?_
  rintro e w2 ⟨rfl, rfl⟩
  go_wp2_with fail
  refine (in_any _ _ _ _).mono ?_
  rintro e w2 ⟨rfl, rfl⟩
  go_wp2_with fail
  refine (in_any _ _ _ _).mono ?_
  rintro e w2 ⟨rfl, rfl⟩
  go_wp2_with fail
  refine (in_any _ _ _ _).mono ?_
  rintro e w2 ⟨rfl, rfl⟩
  go_wp2_with fail
  refine (in_any _ _ _ _).mono ?_
  rintro e w2 ⟨rfl, rfl⟩
  go_wp2_with fail
  refine (in_any _ _ _ _).mono ?_
  rintro e w2 ⟨rfl, rfl⟩
  go_wp2_with fail
  refine (in_any _ _ _ _).mono ?_
  rintro e w2 ⟨rfl, rfl⟩
  go_wp2_with fail
  refine (in_any _ _ _ _).mono ?_
  rintro e w2 ⟨rfl, rfl⟩
  go_wp2_with fail
  refine (in_any _ _ _ _).mono ?_
  rintro e w2 ⟨rfl, rfl⟩
  go_wp2_with fail
  refine (in_any _ _ _ _).mono ?_
  rintro e w2 ⟨rfl, rfl⟩
  go_wp2_with fail
  refine (in_any _ _ _ _).mono ?_
  rintro e w2 ⟨rfl, rfl⟩
  go_wp2_with fail
  refine (in_any _ _ _ _).mono ?_
  rintro e w2 ⟨rfl, rfl⟩
  go_wp2_with fail
  refine (in_any _ _ _ _).mono ?_
  rintro e w2 ⟨rfl, rfl⟩
  go_wp2_with fail
  refine (in_any _ _ _ _).mono ?_
  rintro e w2 ⟨rfl, rfl⟩
  go_wp2_with fail
  go_ret
  exact ⟨congrArg (fun b => Ending.returned (Value.bool b)) (by simp only [objectB, h0, h1, h2, h3, h4, h5, h11, h13, h17, h10, h14, h6, h7, h8, h9, h12, h15, h16, Bool.true_and] : true = objectB o n), (Below.refl _ _).alloc (Nat.le_refl _) _⟩
end Go.Proofs.YtplfblccaeligaaDoor
namespace Go.Proofs.YtplfblccaeligaaDoor
open Go.RowKit Ex
set_option maxRecDepth 100000
theorem st_zero18 : #[Value.int .i64 0, Value.int .i64 0, Value.int .i64 0, Value.int .i64 0, Value.int .i64 0, Value.int .i64 0, Value.int .i64 0, Value.int .i64 0, Value.int .i64 0, Value.int .i64 0, Value.int .i64 0, Value.int .i64 0, Value.int .i64 0, Value.int .i64 0, Value.int .i64 0, Value.int .i64 0, Value.int .i64 0, Value.int .i64 0] = arr .i64 18 (fun _ => 0) := (arr_zero .i64 18).symm
theorem load_obj {ops : Array Oper} {rest : List Oper} {op : Oper} {a : Act} {w : World} {Q : Exit → Act → World → Prop} (hgd : op.guard = none) (x : Operand) (ho : op.op = .load 37 x)
    (b o : Nat) (hx : a.eval x = .pointer (some ⟨b, o, none⟩)) (f : Nat → Int) (h : w.rangeAt b o (arr .i64 18 f).toList)
    (hK : wpList Tryd.prog ops Q rest (a.put op.dst (.agg (arr .i64 18 f))) w) : wpList Tryd.prog ops Q (op :: rest) a w := by
  refine wpList_load_mid hgd 37 x ho b o hx (arr .i64 18 f).toList _ h Tryd.underlying37 rfl (by rw [Array.length_toList, arr_size]; exact st_size18) ?_
  rw [Array.toArray_toList]
  exact hK
theorem RdO.at_ {B : Nat} {w : World} {A : Option Addr} {l : List (Nat → Int)} (h : RdO B w A l) {i : Nat} (hi : i < l.length) : ∃ b off, A = some ⟨b, off, none⟩ ∧ b < B ∧ w.rangeAt b (off + i * 18) (arr .i64 18 l[i]).toList :=
  h i _ (List.getElem?_eq_getElem hi)
/-- Block g is an object's box. -/
def ObAt (w : World) (g : Nat) (f : Nat → Int) : Prop := w.heap[g]? = some (.cells (arr .i64 18 f) 37 (0, 0))
theorem ob_box (wr : World) (f : Nat → Int) : ∃ w3, w3 = (wr.alloc (.cells (arr .i64 18 fun _ => 0) 37)).setRow wr.heap.size (arr .i64 18 f) ∧ ObAt w3 wr.heap.size f ∧ Below wr.heap.size wr w3 := by
  refine ⟨_, rfl, ?_, below_setRow ((Below.refl _ _).alloc (Nat.le_refl _) _) _ _ (Nat.le_refl _)⟩
  unfold ObAt
  exact setRow_heap _ _ _ _ _ _ (heap_alloc_new _ _)
theorem arr_box (n : Nat) (t : TypeId) (wr : World) (f : Nat → Int) : ∃ w3, w3 = (wr.alloc (.cells (arr .i64 n fun _ => 0) t)).setRow wr.heap.size (arr .i64 n f) ∧ ArrAt .i64 n t w3 wr.heap.size f ∧ Below wr.heap.size wr w3 := by
  refine ⟨_, rfl, ?_, below_setRow ((Below.refl _ _).alloc (Nat.le_refl _) _) _ _ (Nat.le_refl _)⟩
  unfold ArrAt
  exact setRow_heap _ _ _ _ _ _ (heap_alloc_new _ _)
theorem st_zero9 : #[Value.int .i64 0, Value.int .i64 0, Value.int .i64 0, Value.int .i64 0, Value.int .i64 0, Value.int .i64 0, Value.int .i64 0, Value.int .i64 0, Value.int .i64 0] = arr .i64 9 (fun _ => 0) := (arr_zero .i64 9).symm
theorem zero7 : #[Value.int .i64 0, Value.int .i64 0, Value.int .i64 0, Value.int .i64 0, Value.int .i64 0, Value.int .i64 0, Value.int .i64 0] = arr .i64 7 (fun _ => 0) := (arr_zero .i64 7).symm
theorem st_size9 : (Tryd.prog.info? 25).map (·.size) = some 9 := by kernel_rfl
theorem st_size7 : (Tryd.prog.info? 27).map (·.size) = some 7 := by kernel_rfl
theorem load_nine {ops : Array Oper} {rest : List Oper} {op : Oper} {a : Act} {w : World} {Q : Exit → Act → World → Prop} (hgd : op.guard = none) (x : Operand) (ho : op.op = .load 25 x)
    (b o : Nat) (hx : a.eval x = .pointer (some ⟨b, o, none⟩)) (f : Nat → Int) (h : w.rangeAt b o (arr .i64 9 f).toList)
    (hK : wpList Tryd.prog ops Q rest (a.put op.dst (.agg (arr .i64 9 f))) w) : wpList Tryd.prog ops Q (op :: rest) a w := by
  refine wpList_load_mid hgd 25 x ho b o hx (arr .i64 9 f).toList _ h Tryd.underlying25 rfl (by rw [Array.length_toList, arr_size]; exact st_size9) ?_
  rw [Array.toArray_toList]
  exact hK
theorem load_seven {ops : Array Oper} {rest : List Oper} {op : Oper} {a : Act} {w : World} {Q : Exit → Act → World → Prop} (hgd : op.guard = none) (x : Operand) (ho : op.op = .load 27 x)
    (b o : Nat) (hx : a.eval x = .pointer (some ⟨b, o, none⟩)) (f : Nat → Int) (h : w.rangeAt b o (arr .i64 7 f).toList)
    (hK : wpList Tryd.prog ops Q rest (a.put op.dst (.agg (arr .i64 7 f))) w) : wpList Tryd.prog ops Q (op :: rest) a w := by
  refine wpList_load_mid hgd 27 x ho b o hx (arr .i64 7 f).toList _ h Tryd.underlying27 rfl (by rw [Array.length_toList, arr_size]; exact st_size7) ?_
  rw [Array.toArray_toList]
  exact hK
theorem StAt.pl {w : World} {g : Nat} {O : SlT} {L : Nat → SlT} {p q : Nat → Int} (h : StAt w g (stC O L p q)) {j : Nat} (hj : j < 2) : w.rangeAt g (12 + j * 9) (arr .i64 9 fun i => p (j * 9 + i)).toList := fun i v hv => by
  have hi : i < 9 := by have := (List.getElem?_eq_some_iff.1 hv).1; rw [Array.length_toList, arr_size] at this; exact this
  rw [Array.getElem?_toList, arr_get .i64 9 _ hi] at hv
  rw [h.cell, show 12 + j * 9 + i = 12 + (j * 9 + i) by omega, stC_pl _ _ _ _ (by omega)]
  exact hv
theorem StAt.gm {w : World} {g : Nat} {O : SlT} {L : Nat → SlT} {p q : Nat → Int} (h : StAt w g (stC O L p q)) : w.rangeAt g 30 (arr .i64 7 q).toList := fun i v hv => by
  have hi : i < 7 := by have := (List.getElem?_eq_some_iff.1 hv).1; rw [Array.length_toList, arr_size] at this; exact this
  rw [Array.getElem?_toList, arr_get .i64 7 _ hi] at hv
  rw [h.cell, stC_gm _ _ _ _ hi]
  exact hv
theorem ReadsS.at_list {B : Nat} {w : World} {cs : Array Value} {s : StT} {O : SlT} {L : Nat → SlT} (h : ReadsS B w cs s O L) {z : Nat} (hz : z < 11) :
    ∃ A n c, cs[1 + z]? = some (.slice A n c) ∧ n ≤ c ∧ Nums .i64 w B A n (s.lists z) :=
  ⟨(L z).A, (L z).n, (L z).c, by rw [h.cs]; exact stC_list _ _ _ _ hz, h.lc z hz, h.l z hz⟩
end Go.Proofs.YtplfblccaeligaaDoor
namespace Go.Proofs.YtplfblccaeligaaDoor
open Go.ChangeShapes Go.WideShapes Go.RowKit Ex
set_option maxRecDepth 100000
attribute [local go_sem] arr_get
def playB (p : Nat → Int) : Bool := inR (p 0) (-1073741824) 1073741824 && inR (p 7) 0 1 && inR (p 8) 0 1 && (List.range 6).all fun k => inR (p (k + 1)) 0 1000
def gameB (g : Nat → Int) : Bool := inR (g 0) 0 1073741824 && inR (g 1) 0 1 && inR (g 2) 0 7 && inR (g 3) 0 1 && inR (g 4) 0 1 && inR (g 5) 0 4096 && inR (g 6) 0 3
def plB (s : StT) (j : Nat) : Bool := playB fun i => s.pl (j * 9 + i)
def rangesB (s : StT) : Bool := (s.objs.all fun o => objectB o s.objs.length) && plB s 0 && plB s 1 && gameB s.gm
def PlK (p : Nat → Int) (k : Nat) : Prop := ∀ m, m + 1 < k → inR (p (m + 1)) 0 1000 = true
def GoodP (s : StT) (j : Nat) : Prop := ∀ m, m < j → plB s m = true
theorem playB_first {p : Nat → Int} (h : inR (p 0) (-1073741824) 1073741824 = false ∨ inR (p 7) 0 1 = false ∨ inR (p 8) 0 1 = false) : playB p = false := by
  rcases h with h | h | h <;> simp [playB, h]
theorem playB_mid {p : Nat → Int} {k : Nat} (hk : k < 6) (h : inR (p (k + 1)) 0 1000 = false) : playB p = false := by
  have : ((List.range 6).all fun k => inR (p (k + 1)) 0 1000) = false := by
    rw [Bool.eq_false_iff]; intro h2
    rw [List.all_eq_true] at h2
    have := h2 k (List.mem_range.2 hk)
    rw [h] at this; cases this
  unfold playB
  rw [this, Bool.and_false]
theorem playB_good {p : Nat → Int} (h0 : inR (p 0) (-1073741824) 1073741824 = true) (h7 : inR (p 7) 0 1 = true) (h8 : inR (p 8) 0 1 = true) (h : PlK p 7) : playB p = true := by
  have : ((List.range 6).all fun k => inR (p (k + 1)) 0 1000) = true := by
    rw [List.all_eq_true]
    intro k hk
    exact h k (by have := List.mem_range.1 hk; omega)
  simp only [playB, h0, h7, h8, this, Bool.and_true]
theorem rangesB_pl {s : StT} {j : Nat} (hj : j < 2) (h : plB s j = false) : rangesB s = false := by
  match j, hj with
  | 0, _ => simp [rangesB, h]
  | 1, _ => simp [rangesB, h]
theorem rangesB_obj {s : StT} {k : Nat} (hk : k < s.objs.length) (h : objectB s.objs[k] s.objs.length = false) : rangesB s = false := by
  have : (s.objs.all fun o => objectB o s.objs.length) = false := by
    rw [Bool.eq_false_iff]; intro h2
    rw [List.all_eq_true] at h2
    have := h2 _ (List.getElem_mem hk)
    rw [h] at this; cases this
  simp [rangesB, this]
def GoodO (s : StT) (k : Nat) : Prop := ∀ j (hj : j < s.objs.length), j < k → objectB s.objs[j] s.objs.length = true
theorem objs_all {s : StT} (h : ∀ j (hj : j < s.objs.length), objectB s.objs[j] s.objs.length = true) : (s.objs.all fun o => objectB o s.objs.length) = true := by
  rw [List.all_eq_true]
  intro o ho
  obtain ⟨i, hi, rfl⟩ := List.getElem_of_mem ho
  exact h i hi
set_option maxHeartbeats 0 in
theorem ranges_any (s : StT) (O : SlT) (L : Nat → SlT) (cs : Array Value) (w : World) (B : Nat) (h : ReadsS B w cs s O L) (hB : B ≤ w.heap.size) (hn : s.objs.length ≤ 1000000) :
    Calls Tryd.prog 24 #[.agg cs] w fun e w' => e = .returned (.bool (rangesB s)) ∧ Below w.heap.size w w' := by
  go_enter Tryd.func24, Tryd.ntmps24
  have hcs := h.cs
  have c0 : cs[0]? = some (.slice O.A O.n O.c) := by rw [hcs]; exact stC_objs _ _ _ _
  have hOn := h.on
  have hOc := h.oc
  have hO := h.o
  have H := Lib.hid h
  clear h
  obtain ⟨A, n, c⟩ := O
  simp only at c0 hOn hOc hO
  clear hcs
  subst hOn
  go_upto_region 2 with fail
  have hs0 : StAt (w.alloc (.cells cs 29)) w.heap.size cs := StAt.new _ _
  have hb0 : Below w.heap.size w (w.alloc (.cells cs 29)) := (Below.refl _ _).alloc (Nat.le_refl _) _
  go_loopw [12] (fun i wr => ∃ k : Nat, i = .int .i64 ((k : Nat) : Int) ∧ k ≤ s.objs.length ∧ GoodO s k ∧ Below w.heap.size w wr ∧ StAt wr w.heap.size cs) (fun i _ => s.objs.length - (intOf i).toNat)
  case atStart => exact ⟨0, rfl, by omega, fun j hj hk => absurd hk (by omega), hb0, hs0⟩
  case round =>
    obtain ⟨k, rfl, hk, hgood, hbr, hsr⟩ := hrel
    have c0 := (hsr.cell 0).trans c0
    by_cases hlt : k < s.objs.length
    · obtain ⟨b, off, rfl, hbB, hra⟩ := hO.at_ (show k < s.objs.length by omega)
      have hra := range_below hbr (by omega) hra
      obtain ⟨x, hx⟩ : ∃ x, x = s.objs[k]'(by omega) := ⟨_, rfl⟩
      rw [← hx] at hra
      have HX := Lib.hid hx
      clear hx
      have hz := st_zero18
      have hnew : (wr.alloc (.cells (arr .i64 18 fun _ => 0) 37)).heap[wr.heap.size]? = some (.cells (arr .i64 18 fun _ => 0) 37 (0, 0)) := heap_alloc_new _ _
      have hsx : (Tryd.prog.info? 37).map (·.size) = some (arr .i64 18 x).size := by rw [arr_size]; exact st_size18
      go_upto_region 4 with (first
        | (refine load_obj rfl (.tmp 14) rfl b (off + k * 18) rfl x hra ?_)
        | (refine wpList_store_row rfl 37 (.tmp 4) (.tmp 15) rfl wr.heap.size _ rfl rfl 37 (arr .i64 18 fun _ => 0) hnew hsx (by rw [arr_size, arr_size]) (arr_one .i64 18 x) ?_))
      obtain ⟨wn, hwn, hEn, hbn⟩ := ob_box wr x
      rw [← hwn]
      have hbrn := keepB hbn hbr
      have hsn := hsr.keep hbn
      have c0n : wn.cell? ⟨w.heap.size, 0, none⟩ = some (.slice (some ⟨b, off, none⟩) s.objs.length c) := (hbn.cell hsr.lt).trans c0
      clear hwn hnew hra hz c0
      go_upto_region 5 with (refine wpList_load_row rfl 37 (.tmp 4) rfl wr.heap.size rfl 37 _ (0, 0) _ hEn Tryd.underlying37 rfl hsx ?_)
      refine (st_object_any x _ wn).mono ?_
      rintro e w4 ⟨rfl, hb4⟩
      have hbr4 := keepB hb4 hbrn
      have hs4 := hsn.keep hb4
      clear c0n hEn hbn hbrn hsn hsr hbr
      by_cases hq : objectB x s.objs.length = true
      · have hgood2 : GoodO s (k + 1) := fun j hj hjk => by
          by_cases e : j = k
          · subst e; rw [← HX.out]; exact hq
          · exact hgood j hj (by omega)
        go_wp2_with fail
        go_roundw
        case rel => exact ⟨k + 1, by go_num, by omega, hgood2, hbr4, hs4⟩
        case measure => simp [intOf]; omega
      · have hq : objectB x s.objs.length = false := by simpa using hq
        have hf : rangesB s = false := rangesB_obj (by omega) (HX.out ▸ hq)
        go_wp2_with fail
        go_ret
        exact ⟨congrArg (fun b => Ending.returned (Value.bool b)) hf.symm, hbr4⟩
    · obtain rfl : k = s.objs.length := by omega
      have hobj := objs_all fun j hj => hgood j hj hj
      have hq0 : GoodP s 0 := fun m hm => absurd hm (by omega)
      go_upto_region 8 with fail
      go_loopw [5] (fun i wr2 => ∃ j : Nat, i = .int .i64 ((j : Nat) : Int) ∧ j ≤ 2 ∧ GoodP s j ∧ Below w.heap.size w wr2 ∧ StAt wr2 w.heap.size cs) (fun i _ => 2 - (intOf i).toNat)
      case atStart => exact ⟨0, rfl, by omega, hq0, hbr, hsr⟩
      case round =>
        clear c0 hsr hbr
        obtain ⟨j, rfl, hj, hgp, hbr, hsr⟩ := hrel
        by_cases hlt : j < 2
        · have hd2 : decide ((j : Int) < 2) = true := by simp; omega
          obtain ⟨p, hp⟩ : ∃ p : Nat → Int, p = fun i => s.pl (j * 9 + i) := ⟨_, rfl⟩
          have hra := hsr
          rw [H.out.cs] at hra
          have hra := hra.pl hlt
          rw [← hp] at hra
          have HP := Lib.hid hp
          clear hp
          have hz := st_zero9
          have hnew : (wr.alloc (.cells (arr .i64 9 fun _ => 0) 25)).heap[wr.heap.size]? = some (.cells (arr .i64 9 fun _ => 0) 25 (0, 0)) := heap_alloc_new _ _
          have hsx : (Tryd.prog.info? 25).map (·.size) = some (arr .i64 9 p).size := by rw [arr_size]; exact st_size9
          go_upto_region 11 with (first
            | (refine load_nine rfl (.tmp 29) rfl w.heap.size (12 + j * 9) rfl p hra ?_)
            | (refine wpList_store_row rfl 25 (.tmp 6) (.tmp 30) rfl wr.heap.size _ rfl rfl 25 (arr .i64 9 fun _ => 0) hnew hsx (by rw [arr_size, arr_size]) (arr_one .i64 9 p) ?_))
          obtain ⟨wn, hwn, hEn, hbn⟩ := arr_box 9 25 wr p
          rw [← hwn]
          have hbrn := keepB hbn hbr
          have hsn := hsr.keep hbn
          have p0 := hEn.cell (i := 0) (by omega)
          have p7 := hEn.cell (i := 7) (by omega)
          have p8 := hEn.cell (i := 8) (by omega)
          clear hwn hnew hra hz hsx
          by_cases h0 : inR (p 0) (-1073741824) 1073741824 = true
          case neg =>
            have f0 : inR (p 0) (-1073741824) 1073741824 = false := by simpa using h0
            go_wp2_with fail
            refine (in_any _ _ _ _).mono ?_
            rintro e w9 ⟨rfl, rfl⟩
            have hf : rangesB s = false := rangesB_pl hlt (by unfold plB; rw [← HP.out]; exact playB_first (.inl f0))
            go_wp2_with fail
            go_ret
            exact ⟨congrArg (fun b => Ending.returned (Value.bool b)) hf.symm, hbrn⟩
          by_cases h7 : inR (p 7) 0 1 = true
          case neg =>
            have f7 : inR (p 7) 0 1 = false := by simpa using h7
            go_wp2_with fail
            refine (in_any _ _ _ _).mono ?_
            rintro e w9 ⟨rfl, rfl⟩
            go_wp2_with fail
            refine (in_any _ _ _ _).mono ?_
            rintro e w9 ⟨rfl, rfl⟩
            have hf : rangesB s = false := rangesB_pl hlt (by unfold plB; rw [← HP.out]; exact playB_first (.inr (.inl f7)))
            go_wp2_with fail
            go_ret
            exact ⟨congrArg (fun b => Ending.returned (Value.bool b)) hf.symm, hbrn⟩
          by_cases h8 : inR (p 8) 0 1 = true
          case neg =>
            have f8 : inR (p 8) 0 1 = false := by simpa using h8
            go_wp2_with fail
            refine (in_any _ _ _ _).mono ?_
            rintro e w9 ⟨rfl, rfl⟩
            go_wp2_with fail
            refine (in_any _ _ _ _).mono ?_
            rintro e w9 ⟨rfl, rfl⟩
            go_wp2_with fail
            refine (in_any _ _ _ _).mono ?_
            rintro e w9 ⟨rfl, rfl⟩
            have hf : rangesB s = false := rangesB_pl hlt (by unfold plB; rw [← HP.out]; exact playB_first (.inr (.inr f8)))
            go_wp2_with fail
            go_ret
            exact ⟨congrArg (fun b => Ending.returned (Value.bool b)) hf.symm, hbrn⟩
          go_wp2_with fail
          refine (in_any _ _ _ _).mono ?_
          rintro e w9 ⟨rfl, rfl⟩
          go_wp2_with fail
          refine (in_any _ _ _ _).mono ?_
          rintro e w9 ⟨rfl, rfl⟩
          go_wp2_with fail
          refine (in_any _ _ _ _).mono ?_
          rintro e w9 ⟨rfl, rfl⟩
          clear p0 p7 p8
          obtain ⟨g, hg⟩ : ∃ g, g = wr.heap.size := ⟨_, rfl⟩
          rw [← hg] at hEn ⊢
          clear hg
          go_upto_region 14 with fail
          have hk0 : PlK p 1 := fun m hm => absurd hm (by omega)
          go_loopw [7] (fun i wq => ∃ k : Nat, i = .int .i64 ((k + 1 : Nat) : Int) ∧ k ≤ 6 ∧ PlK p (k + 1) ∧ Below w.heap.size w wq ∧ StAt wq w.heap.size cs ∧ ArrAt .i64 9 25 wq g p) (fun i _ => 7 - (intOf i).toNat)
          case atStart => exact ⟨0, rfl, by omega, hk0, hbrn, hsn, hEn⟩
          case round =>
            clear hEn hsn hbrn hsr hbr
            obtain ⟨k, rfl, hk, hgk, hbr, hsr, hE⟩ := hrel
            by_cases hk6 : k < 6
            · have hd : decide (((k + 1 : Nat) : Int) ≤ 6) = true := by simp; omega
              have pk := hE.cell (i := k + 1) (by omega)
              by_cases hq : inR (p (k + 1)) 0 1000 = true
              case neg =>
                have fq : inR (p (k + 1)) 0 1000 = false := by simpa using hq
                go_wp2_with fail
                refine (in_any _ _ _ _).mono ?_
                rintro e w9 ⟨rfl, rfl⟩
                have hf : rangesB s = false := rangesB_pl hlt (by unfold plB; rw [← HP.out]; exact playB_mid hk6 fq)
                go_wp2_with fail
                go_ret
                exact ⟨congrArg (fun b => Ending.returned (Value.bool b)) hf.symm, hbr⟩
              have hgk2 : PlK p (k + 1 + 1) := fun m hm => by
                by_cases e : m = k
                · subst e; exact hq
                · exact hgk m (by omega)
              go_wp2_with fail
              refine (in_any _ _ _ _).mono ?_
              rintro e w9 ⟨rfl, rfl⟩
              go_wp2_with fail
              go_roundw
              case rel => exact ⟨k + 1, by go_num, by omega, hgk2, hbr, hsr, hE⟩
              case measure => simp [intOf]; omega
            · obtain rfl : k = 6 := by omega
              have hplj : plB s j = true := by unfold plB; rw [← HP.out]; exact playB_good h0 h7 h8 hgk
              have hgp2 : GoodP s (j + 1) := fun m hm => by
                by_cases e : m = j
                · subst e; exact hplj
                · exact hgp m (by omega)
              go_wp2_with fail
              go_roundw
              case rel => exact ⟨j + 1, by go_num, by omega, hgp2, hbr, hsr⟩
              case measure => simp [intOf]; omega
        · obtain rfl : j = 2 := by omega
          have hp0 := hgp 0 (by omega)
          have hp1 := hgp 1 (by omega)
          obtain ⟨q, hq⟩ : ∃ q : Nat → Int, q = s.gm := ⟨_, rfl⟩
          have hra := hsr
          rw [H.out.cs] at hra
          have hra := hra.gm
          rw [← hq] at hra
          have HQ : rangesB s = gameB q := by rw [hq]; simp only [rangesB, hobj, hp0, hp1, Bool.true_and]
          have HQ := Lib.hid HQ
          clear hq hp0 hp1 hgp hobj
          have hz := zero7
          have hnew : (wr.alloc (.cells (arr .i64 7 fun _ => 0) 27)).heap[wr.heap.size]? = some (.cells (arr .i64 7 fun _ => 0) 27 (0, 0)) := heap_alloc_new _ _
          have hsx : (Tryd.prog.info? 27).map (·.size) = some (arr .i64 7 q).size := by rw [arr_size]; exact st_size7
          go_upto_region 19 with (first
            | (refine load_seven rfl (.tmp 56) rfl w.heap.size 30 rfl q hra ?_)
            | (refine wpList_store_row rfl 27 (.tmp 8) (.tmp 57) rfl wr.heap.size _ rfl rfl 27 (arr .i64 7 fun _ => 0) hnew hsx (by rw [arr_size, arr_size]) (arr_one .i64 7 q) ?_))
          obtain ⟨wn, hwn, hEn, hbn⟩ := arr_box 7 27 wr q
          rw [← hwn]
          have hbrn := keepB hbn hbr
          have q0 := hEn.cell (i := 0) (by omega)
          have q1 := hEn.cell (i := 1) (by omega)
          have q2 := hEn.cell (i := 2) (by omega)
          have q3 := hEn.cell (i := 3) (by omega)
          have q4 := hEn.cell (i := 4) (by omega)
          have q5 := hEn.cell (i := 5) (by omega)
          have q6 := hEn.cell (i := 6) (by omega)
          clear hwn hnew hra hz hsx hsr hbr
          by_cases h0 : inR (q 0) 0 1073741824 = true
          case neg =>
            have f0 : inR (q 0) 0 1073741824 = false := by simpa using h0
            go_wp2_with fail
            refine (in_any _ _ _ _).mono ?_
            rintro e w9 ⟨rfl, rfl⟩
            go_wp2_with fail
            go_ret
            exact ⟨congrArg (fun b => Ending.returned (Value.bool b)) (by rw [HQ.out]; simp only [gameB, f0, Bool.false_and] : false = rangesB s), hbrn⟩
          by_cases h1 : inR (q 1) 0 1 = true
          case neg =>
            have f1 : inR (q 1) 0 1 = false := by simpa using h1
            go_wp2_with fail
            refine (in_any _ _ _ _).mono ?_
            rintro e w9 ⟨rfl, rfl⟩
            go_wp2_with fail
            refine (in_any _ _ _ _).mono ?_
            rintro e w9 ⟨rfl, rfl⟩
            go_wp2_with fail
            go_ret
            exact ⟨congrArg (fun b => Ending.returned (Value.bool b)) (by rw [HQ.out]; simp only [gameB, f1, Bool.false_and, Bool.and_false] : false = rangesB s), hbrn⟩
          by_cases h2 : inR (q 2) 0 7 = true
          case neg =>
            have f2 : inR (q 2) 0 7 = false := by simpa using h2
            go_wp2_with fail
            refine (in_any _ _ _ _).mono ?_
            rintro e w9 ⟨rfl, rfl⟩
            go_wp2_with fail
            refine (in_any _ _ _ _).mono ?_
            rintro e w9 ⟨rfl, rfl⟩
            go_wp2_with fail
            refine (in_any _ _ _ _).mono ?_
            rintro e w9 ⟨rfl, rfl⟩
            go_wp2_with fail
            go_ret
            exact ⟨congrArg (fun b => Ending.returned (Value.bool b)) (by rw [HQ.out]; simp only [gameB, f2, Bool.false_and, Bool.and_false] : false = rangesB s), hbrn⟩
          by_cases h3 : inR (q 3) 0 1 = true
          case neg =>
            have f3 : inR (q 3) 0 1 = false := by simpa using h3
            go_wp2_with fail
            refine (in_any _ _ _ _).mono ?_
            rintro e w9 ⟨rfl, rfl⟩
            go_wp2_with fail
            refine (in_any _ _ _ _).mono ?_
            rintro e w9 ⟨rfl, rfl⟩
            go_wp2_with fail
            refine (in_any _ _ _ _).mono ?_
            rintro e w9 ⟨rfl, rfl⟩
            go_wp2_with fail
            refine (in_any _ _ _ _).mono ?_
            rintro e w9 ⟨rfl, rfl⟩
            go_wp2_with fail
            go_ret
            exact ⟨congrArg (fun b => Ending.returned (Value.bool b)) (by rw [HQ.out]; simp only [gameB, f3, Bool.false_and, Bool.and_false] : false = rangesB s), hbrn⟩
          by_cases h4 : inR (q 4) 0 1 = true
          case neg =>
            have f4 : inR (q 4) 0 1 = false := by simpa using h4
            go_wp2_with fail
            refine (in_any _ _ _ _).mono ?_
            rintro e w9 ⟨rfl, rfl⟩
            go_wp2_with fail
            refine (in_any _ _ _ _).mono ?_
            rintro e w9 ⟨rfl, rfl⟩
            go_wp2_with fail
            refine (in_any _ _ _ _).mono ?_
            rintro e w9 ⟨rfl, rfl⟩
            go_wp2_with fail
            refine (in_any _ _ _ _).mono ?_
            rintro e w9 ⟨rfl, rfl⟩
            go_wp2_with fail
            refine (in_any _ _ _ _).mono ?_
            rintro e w9 ⟨rfl, rfl⟩
            go_wp2_with fail
            go_ret
            exact ⟨congrArg (fun b => Ending.returned (Value.bool b)) (by rw [HQ.out]; simp only [gameB, f4, Bool.false_and, Bool.and_false] : false = rangesB s), hbrn⟩
          by_cases h5 : inR (q 5) 0 4096 = true
          case neg =>
            have f5 : inR (q 5) 0 4096 = false := by simpa using h5
            go_wp2_with fail
            refine (in_any _ _ _ _).mono ?_
            rintro e w9 ⟨rfl, rfl⟩
            go_wp2_with fail
            refine (in_any _ _ _ _).mono ?_
            rintro e w9 ⟨rfl, rfl⟩
            go_wp2_with fail
            refine (in_any _ _ _ _).mono ?_
            rintro e w9 ⟨rfl, rfl⟩
            go_wp2_with fail
            refine (in_any _ _ _ _).mono ?_
            rintro e w9 ⟨rfl, rfl⟩
            go_wp2_with fail
            refine (in_any _ _ _ _).mono ?_
            rintro e w9 ⟨rfl, rfl⟩
            go_wp2_with fail
            refine (in_any _ _ _ _).mono ?_
            rintro e w9 ⟨rfl, rfl⟩
            go_wp2_with fail
            go_ret
            exact ⟨congrArg (fun b => Ending.returned (Value.bool b)) (by rw [HQ.out]; simp only [gameB, f5, Bool.false_and, Bool.and_false] : false = rangesB s), hbrn⟩
          by_cases h6 : inR (q 6) 0 3 = true
          case neg =>
            have f6 : inR (q 6) 0 3 = false := by simpa using h6
            go_wp2_with fail
            refine (in_any _ _ _ _).mono ?_
            rintro e w9 ⟨rfl, rfl⟩
            go_wp2_with fail
            refine (in_any _ _ _ _).mono ?_
            rintro e w9 ⟨rfl, rfl⟩
            go_wp2_with fail
            refine (in_any _ _ _ _).mono ?_
            rintro e w9 ⟨rfl, rfl⟩
            go_wp2_with fail
            refine (in_any _ _ _ _).mono ?_
            rintro e w9 ⟨rfl, rfl⟩
            go_wp2_with fail
            refine (in_any _ _ _ _).mono ?_
            rintro e w9 ⟨rfl, rfl⟩
            go_wp2_with fail
            refine (in_any _ _ _ _).mono ?_
            rintro e w9 ⟨rfl, rfl⟩
            go_wp2_with fail
            refine (in_any _ _ _ _).mono ?_
            rintro e w9 ⟨rfl, rfl⟩
            go_wp2_with fail
            go_ret
            exact ⟨congrArg (fun b => Ending.returned (Value.bool b)) (by rw [HQ.out]; simp only [gameB, f6, Bool.and_false] : false = rangesB s), hbrn⟩
          go_wp2_with fail
          refine (in_any _ _ _ _).mono ?_
          rintro e w9 ⟨rfl, rfl⟩
          go_wp2_with fail
          refine (in_any _ _ _ _).mono ?_
          rintro e w9 ⟨rfl, rfl⟩
          go_wp2_with fail
          refine (in_any _ _ _ _).mono ?_
          rintro e w9 ⟨rfl, rfl⟩
          go_wp2_with fail
          refine (in_any _ _ _ _).mono ?_
          rintro e w9 ⟨rfl, rfl⟩
          go_wp2_with fail
          refine (in_any _ _ _ _).mono ?_
          rintro e w9 ⟨rfl, rfl⟩
          go_wp2_with fail
          refine (in_any _ _ _ _).mono ?_
          rintro e w9 ⟨rfl, rfl⟩
          go_wp2_with fail
          refine (in_any _ _ _ _).mono ?_
          rintro e w9 ⟨rfl, rfl⟩
          go_wp2_with fail
          go_ret
          exact ⟨congrArg (fun b => Ending.returned (Value.bool b)) (by rw [HQ.out]; simp only [gameB, h0, h1, h2, h3, h4, h5, h6, Bool.true_and] : true = rangesB s), hbrn⟩
end Go.Proofs.YtplfblccaeligaaDoor
namespace Go.Proofs.YtplfblccaeligaaDoor
open Go.RowKit Ex
set_option maxRecDepth 100000
attribute [local go_sem] arr_get
/-- Every id in the lists is an object's. -/
def idsB (n : Nat) (l : List Int) : Bool := l.all fun x => decide (0 ≤ x) && decide (x < n)
def listsB (s : StT) : Bool := (List.range 11).all fun z => idsB s.objs.length (s.lists z)
/-- No list but the object's own holds it. -/
def apartB (s : StT) (id : Nat) (own : Int) : Bool := (List.range 11).all fun z => (z : Int) == own || !(s.lists z).contains (id : Int)
def timesN (s : StT) (id z : Nat) : Nat := ((List.range z).map fun y => (s.lists y).count (id : Int)).sum
def wrongO (o : Nat → Int) : Bool := decide (o 3 < 8) && (o 1 != (o 3).tmod 2 || o 13 != 0) || o 3 == 8 && o 13 == 2
def zoneO (s : StT) (id : Nat) (o : Nat → Int) : Bool := apartB s id (o 3) && timesN s id 11 == 1 && !wrongO o
def zonesB (s : StT) : Bool := listsB s && (List.range s.objs.length).all fun i => zoneO s i (s.objs.getD i fun _ => 0)
def GoodL (s : StT) (z : Nat) : Prop := ∀ y, y < z → idsB s.objs.length (s.lists y) = true
def GoodI (n : Nat) (l : List Int) (k : Nat) : Prop := ∀ m (hm : m < l.length), m < k → (decide (0 ≤ l[m]) && decide (l[m] < n)) = true
theorem idsB_bad {n : Nat} {l : List Int} {k : Nat} (hk : k < l.length) (h : l[k] < 0 ∨ (n : Int) ≤ l[k]) : idsB n l = false := by
  rw [Bool.eq_false_iff]; intro h2
  unfold idsB at h2
  rw [List.all_eq_true] at h2
  have := h2 _ (List.getElem_mem hk)
  simp at this
  omega
theorem idsB_good {n : Nat} {l : List Int} (h : GoodI n l l.length) : idsB n l = true := by
  unfold idsB
  rw [List.all_eq_true]
  intro x hx
  obtain ⟨i, hi, rfl⟩ := List.getElem_of_mem hx
  exact h i hi hi
theorem zonesB_list {s : StT} {z : Nat} (hz : z < 11) (h : idsB s.objs.length (s.lists z) = false) : zonesB s = false := by
  have : listsB s = false := by
    rw [Bool.eq_false_iff]; intro h2
    unfold listsB at h2
    rw [List.all_eq_true] at h2
    have := h2 z (List.mem_range.2 hz)
    rw [h] at this; cases this
  simp [zonesB, this]
theorem listsB_good {s : StT} (h : GoodL s 11) : listsB s = true := by
  unfold listsB
  rw [List.all_eq_true]
  intro z hz
  exact h z (List.mem_range.1 hz)
def GoodZ (s : StT) (id : Nat) (own : Int) (z : Nat) : Prop := ∀ y, y < z → (y : Int) = own ∨ (id : Int) ∉ s.lists y
def GoodX (l : List Int) (id : Nat) (same : Prop) (k : Nat) : Prop := ∀ m (hm : m < l.length), m < k → same ∨ l[m] ≠ (id : Int)
def GoodN (s : StT) (id : Nat) : Prop := ∀ m (hm : m < s.objs.length), m < id → zoneO s m s.objs[m] = true
theorem GoodZ.next {s : StT} {id z : Nat} {own : Int} (h : GoodZ s id own z) (hx : GoodX (s.lists z) id ((z : Int) = own) (s.lists z).length) : GoodZ s id own (z + 1) := fun y hy => by
  by_cases e : y = z
  · subst e
    by_cases e2 : (y : Int) = own
    · exact .inl e2
    · refine .inr fun hm => ?_
      obtain ⟨m, hm2, he⟩ := List.getElem_of_mem hm
      rcases hx m hm2 hm2 with h3 | h3
      · exact e2 h3
      · exact h3 he
  · exact h y (by omega)
theorem apartB_good {s : StT} {id : Nat} {own : Int} (h : GoodZ s id own 11) : apartB s id own = true := by
  unfold apartB
  rw [List.all_eq_true]
  intro z hz
  rcases h z (List.mem_range.1 hz) with e | e
  · simp [e]
  · simp [e]
theorem apartB_bad {s : StT} {id : Nat} {own : Int} {z : Nat} (hz : z < 11) (h : (z : Int) ≠ own) (hm : (id : Int) ∈ s.lists z) : apartB s id own = false := by
  rw [Bool.eq_false_iff]; intro h2
  unfold apartB at h2
  rw [List.all_eq_true] at h2
  have := h2 z (List.mem_range.2 hz)
  simp [h, hm] at this
theorem timesN_succ (s : StT) (id z : Nat) : timesN s id (z + 1) = timesN s id z + (s.lists z).count (id : Int) := by
  unfold timesN
  rw [List.range_succ, List.map_append, List.sum_append]
  simp
theorem timesN_le {s : StT} (id : Nat) (h : ∀ z < 11, (s.lists z).length ≤ 1000000) : ∀ z, z ≤ 11 → timesN s id z ≤ z * 1000000
  | 0, _ => by simp [timesN]
  | z + 1, hz => by
    have h1 := timesN_le id h z (by omega)
    have h2 := h z (by omega)
    have h3 := List.count_le_length (a := (id : Int)) (l := s.lists z)
    rw [timesN_succ]
    omega
theorem st_count_step {l : List Int} {k : Nat} (hk : k < l.length) (x : Int) : (l.take (k + 1)).count x = (l.take k).count x + if l[k] = x then 1 else 0 := by
  rw [List.take_succ_eq_append_getElem hk, List.count_append, List.count_singleton]
  by_cases e : l[k] = x <;> simp [e]
theorem zonesB_obj {s : StT} {id : Nat} (hid : id < s.objs.length) (h : zoneO s id s.objs[id] = false) : zonesB s = false := by
  have : ((List.range s.objs.length).all fun i => zoneO s i (s.objs.getD i fun _ => 0)) = false := by
    rw [Bool.eq_false_iff]; intro h2
    rw [List.all_eq_true] at h2
    have := h2 id (List.mem_range.2 hid)
    rw [List.getD_eq_getElem?_getD, List.getElem?_eq_getElem hid, Option.getD_some, h] at this
    cases this
  rw [zonesB, this, Bool.and_false]
theorem zonesB_good {s : StT} (hl : listsB s = true) (h : GoodN s s.objs.length) : zonesB s = true := by
  rw [zonesB, hl, Bool.true_and, List.all_eq_true]
  intro i hi
  have hi := List.mem_range.1 hi
  rw [List.getD_eq_getElem?_getD, List.getElem?_eq_getElem hi, Option.getD_some]
  exact h i hi hi
set_option maxRecDepth 100000 in
set_option maxHeartbeats 0 in
theorem zones_any (s : StT) (O : SlT) (L : Nat → SlT) (cs : Array Value) (w : World) (B : Nat) (h : ReadsS B w cs s O L) (hB : B ≤ w.heap.size) (hn : s.objs.length ≤ 1000000) (hll : ∀ z < 11, (s.lists z).length ≤ 1000000) :
    Calls Tryd.prog 25 #[.agg cs] w fun e w' => e = .returned (.bool (zonesB s)) ∧ Below w.heap.size w w' := by
  go_enter Tryd.func25, Tryd.ntmps25
  have hcs := h.cs
  have c0 : cs[0]? = some (.slice O.A O.n O.c) := by rw [hcs]; exact stC_objs _ _ _ _
  have hOn := h.on
  have hOc := h.oc
  have hO := h.o
  have H := Lib.hid h
  clear h
  obtain ⟨A, n, c⟩ := O
  simp only at c0 hOn hOc hO
  clear hcs
  subst hOn
  go_upto_region 2 with fail
  have hs0 : StAt (w.alloc (.cells cs 29)) w.heap.size cs := StAt.new _ _
  have hb0 : Below w.heap.size w (w.alloc (.cells cs 29)) := (Below.refl _ _).alloc (Nat.le_refl _) _
  have hg0 : GoodL s 0 := fun y hy => absurd hy (by omega)
  go_loopw [3] (fun i wr => ∃ z : Nat, i = .int .i64 ((z : Nat) : Int) ∧ z ≤ 11 ∧ GoodL s z ∧ Below w.heap.size w wr ∧ StAt wr w.heap.size cs) (fun i _ => 11 - (intOf i).toNat)
  case atStart => exact ⟨0, rfl, by omega, hg0, hb0, hs0⟩
  case round =>
    clear hb0 hs0 hg0
    obtain ⟨z, rfl, hz, hgz, hbr, hsr⟩ := hrel
    have c0 := (hsr.cell 0).trans c0
    by_cases hlt : z < 11
    · have hd : decide ((z : Int) < 11) = true := by simp; omega
      obtain ⟨A2, n2, c2, hc2, hnc2, hN⟩ := H.out.at_list hlt
      have hc2 := (hsr.cell (1 + z)).trans hc2
      have hln := hN.len
      have hnm : n2 ≤ 1000000 := hln ▸ hll z hlt
      obtain ⟨l, hl⟩ : ∃ l, l = s.lists z := ⟨_, rfl⟩
      rw [← hl] at hN hln
      have HL := Lib.hid hl
      have HN := Lib.hid hN
      clear hl hN
      go_upto_region 5 with fail
      have hi0 : GoodI s.objs.length l 0 := fun m hm hk => absurd hk (by omega)
      go_loopw [21] (fun i wq => ∃ k : Nat, i = .int .i64 ((k : Nat) : Int) ∧ k ≤ n2 ∧ GoodI s.objs.length l k ∧ Below w.heap.size w wq ∧ StAt wq w.heap.size cs) (fun i _ => n2 - (intOf i).toNat)
      case atStart => exact ⟨0, rfl, by omega, hi0, hbr, hsr⟩
      case round =>
        clear hbr hsr hi0 c0 hc2
        obtain ⟨k, rfl, hk, hgi, hbr, hsr⟩ := hrel
        have c0 := (hsr.cell 0).trans (by assumption : cs[0]? = some (.slice A s.objs.length c))
        by_cases hkn : k < n2
        · obtain ⟨a, rfl, hab, hca⟩ := HN.out.at_ (show k < l.length by omega)
          have hca := (hbr.cell (by rw [addr_block]; omega)).trans hca
          have hkl : k < l.length := by omega
          obtain ⟨y, hy⟩ : ∃ y, y = l[k] := ⟨_, rfl⟩
          rw [← hy] at hca
          have HY := Lib.hid hy
          clear hy hc2
          by_cases hy0 : y < 0
          · have d0 : decide (y < 0) = true := decide_eq_true hy0
            have hf := Lib.hid (show zonesB s = false from zonesB_list hlt (by rw [← HL.out]; exact idsB_bad hkl (.inl (HY.out ▸ hy0))))
            go_wp2_with fail
            go_ret
            exact ⟨congrArg (fun b => Ending.returned (Value.bool b)) hf.out.symm, hbr⟩
          have d0 : decide (y < 0) = false := decide_eq_false hy0
          by_cases hyn : (s.objs.length : Int) ≤ y
          · have d1 : decide ((s.objs.length : Int) ≤ y) = true := decide_eq_true hyn
            have hf := Lib.hid (show zonesB s = false from zonesB_list hlt (by rw [← HL.out]; exact idsB_bad hkl (.inr (HY.out ▸ hyn))))
            go_wp2_with fail
            go_ret
            exact ⟨congrArg (fun b => Ending.returned (Value.bool b)) hf.out.symm, hbr⟩
          have d1 : decide ((s.objs.length : Int) ≤ y) = false := decide_eq_false hyn
          have hgi2 : GoodI s.objs.length l (k + 1) := fun m hm hmk => by
            by_cases e : m = k
            · subst e
              rw [← HY.out]
              simp; omega
            · exact hgi m hm (by omega)
          go_wp2_with fail
          go_roundw
          case rel => exact ⟨k + 1, by go_num, by omega, hgi2, hbr, hsr⟩
          case measure => simp [intOf]; omega
        · obtain rfl : k = n2 := by omega
          have hgz2 : GoodL s (z + 1) := fun m hm => by
            by_cases e : m = z
            · subst e; rw [← HL.out]; rw [← hln] at hgi; exact idsB_good hgi
            · exact hgz m (by omega)
          go_wp2_with fail
          go_roundw
          case rel => exact ⟨z + 1, by go_num, by omega, hgz2, hbr, hsr⟩
          case measure => simp [intOf]; omega
    · obtain rfl : z = 11 := by omega
      have hlists := listsB_good hgz
      clear hgz
      go_upto_region 11 with fail
      have hg0 : GoodN s 0 := fun m hm hk => absurd hk (by omega)
      rw [show ((11 : Nat) : Int) = 11 from rfl]
      go_loopw [38] (fun i wr => ∃ k : Nat, i = .int .i64 ((k : Nat) : Int) ∧ k ≤ s.objs.length ∧ GoodN s k ∧ Below w.heap.size w wr ∧ StAt wr w.heap.size cs) (fun i _ => s.objs.length - (intOf i).toNat)
      case atStart => exact ⟨0, rfl, by omega, hg0, hbr, hsr⟩
      case round =>
        clear hbr hsr hg0 c0
        obtain ⟨id, rfl, hk, hgn, hbr, hsr⟩ := hrel
        by_cases hid : id < s.objs.length
        · obtain ⟨b, off, rfl, hbB, hra⟩ := hO.at_ hid
          have hra := range_below hbr (by omega) hra
          obtain ⟨x, hx⟩ : ∃ x, x = s.objs[id] := ⟨_, rfl⟩
          rw [← hx] at hra
          have HX := Lib.hid hx
          clear hx
          have hz := st_zero18
          have hnew : (wr.alloc (.cells (arr .i64 18 fun _ => 0) 37)).heap[wr.heap.size]? = some (.cells (arr .i64 18 fun _ => 0) 37 (0, 0)) := heap_alloc_new _ _
          have hsx : (Tryd.prog.info? 37).map (·.size) = some (arr .i64 18 x).size := by rw [arr_size]; exact st_size18
          go_upto_region 13 with (first
            | (refine load_obj rfl (.tmp 41) rfl b (off + id * 18) rfl x hra ?_)
            | (refine wpList_store_row rfl 37 (.tmp 7) (.tmp 42) rfl wr.heap.size _ rfl rfl 37 (arr .i64 18 fun _ => 0) hnew hsx (by rw [arr_size, arr_size]) (arr_one .i64 18 x) ?_))
          obtain ⟨wn, hwn, hEn, hbn⟩ := ob_box wr x
          rw [← hwn]
          have hbrn := keepB hbn hbr
          have hsn := hsr.keep hbn
          obtain ⟨g, hg⟩ : ∃ g, g = wr.heap.size := ⟨_, rfl⟩
          rw [← hg] at hEn ⊢
          clear hwn hnew hra hz hsx hg hbr hsr
          go_upto_region 15 with fail
          have hz0 : GoodZ s id (x 3) 0 := fun y hy => absurd hy (by omega)
          go_loopw [8, 9] (fun t i wr => ∃ z : Nat, i = .int .i64 ((z : Nat) : Int) ∧ z ≤ 11 ∧ t = .int .i64 ((timesN s id z : Nat) : Int) ∧ GoodZ s id (x 3) z ∧ Below w.heap.size w wr ∧ StAt wr w.heap.size cs ∧ ObAt wr g x) (fun _ i _ => 11 - (intOf i).toNat)
          case atStart => exact ⟨0, rfl, by omega, rfl, hz0, hbrn, hsn, hEn⟩
          case round =>
            clear hbrn hsn hEn hz0 hbn
            obtain ⟨z, rfl, hz, rfl, hgz, hbr, hsr, hE⟩ := hrel
            by_cases hlt : z < 11
            · have hd : decide ((z : Int) < 11) = true := by simp; omega
              obtain ⟨A2, n2, c2, hc2, hnc2, hN⟩ := H.out.at_list hlt
              have hc2 := (hsr.cell (1 + z)).trans hc2
              have hln := hN.len
              have hnm : n2 ≤ 1000000 := hln ▸ hll z hlt
              have hts := timesN_le id hll z (by omega)
              have hts2 := Lib.hid (timesN_succ s id z)
              obtain ⟨T, hT⟩ : ∃ T, T = timesN s id z := ⟨_, rfl⟩
              rw [← hT] at hts hts2 ⊢
              have HT := Lib.hid hT
              have hTm : T ≤ 11000000 := by omega
              obtain ⟨l, hl⟩ : ∃ l, l = s.lists z := ⟨_, rfl⟩
              rw [← hl] at hN hln hts2
              have HL := Lib.hid hl
              have HN := Lib.hid hN
              clear hl hN hT hts
              have x3 : wr.cell? ⟨g, 3, none⟩ = some (.int .i64 (x 3)) := by
                have h := cell_of_row wr g 3 _ _ _ hE
                rw [arr_get .i64 18 x (show 3 < 18 by omega)] at h
                exact h
              go_upto_region 18 with fail
              have hi0 : GoodX l id ((z : Int) = x 3) 0 := fun m hm hk => absurd hk (by omega)
              go_loopw [8, 52] (fun t i wq => ∃ k : Nat, i = .int .i64 ((k : Nat) : Int) ∧ k ≤ n2 ∧ t = .int .i64 ((T + (l.take k).count (id : Int) : Nat) : Int) ∧ GoodX l id ((z : Int) = x 3) k ∧ Below w.heap.size w wq ∧ StAt wq w.heap.size cs ∧ ObAt wq g x) (fun _ i _ => n2 - (intOf i).toNat)
              case atStart => exact ⟨0, rfl, by omega, by simp, hi0, hbr, hsr, hE⟩
              case round =>
                clear hbr hsr hi0 hc2 hE x3
                obtain ⟨k, rfl, hk, rfl, hgi, hbr, hsr, hE⟩ := hrel
                have x3 : wr.cell? ⟨g, 3, none⟩ = some (.int .i64 (x 3)) := by
                  have h := cell_of_row wr g 3 _ _ _ hE
                  rw [arr_get .i64 18 x (show 3 < 18 by omega)] at h
                  exact h
                by_cases hkn : k < n2
                · obtain ⟨a, rfl, hab, hca⟩ := HN.out.at_ (show k < l.length by omega)
                  have hca := (hbr.cell (by rw [addr_block]; omega)).trans hca
                  have hkl : k < l.length := by omega
                  have hcs := st_count_step hkl (id : Int)
                  have hct : (l.take k).count (id : Int) ≤ 1000000 := by
                    have h1 := List.count_le_length (a := (id : Int)) (l := l.take k)
                    rw [List.length_take] at h1
                    omega
                  obtain ⟨C, hC⟩ : ∃ C, C = (l.take k).count (id : Int) := ⟨_, rfl⟩
                  rw [← hC] at hcs hct ⊢
                  obtain ⟨y, hy⟩ : ∃ y, y = l[k] := ⟨_, rfl⟩
                  rw [← hy] at hca hcs
                  have HY := Lib.hid hy
                  have HCS := Lib.hid hcs
                  clear hy hC hcs
                  by_cases ey : y = (id : Int)
                  · have d0 : (y == (id : Int)) = true := by simpa using ey
                    by_cases ez : (z : Int) = x 3
                    · have d1 : ((z : Int) != x 3) = false := by simp [ez]
                      have hgi2 : GoodX l id ((z : Int) = x 3) (k + 1) := fun m hm hmk => .inl ez
                      go_wp2_with fail
                      go_roundw
                      case rel => exact ⟨k + 1, by go_num, by omega, by rw [HCS.out, if_pos ey]; go_num, hgi2, hbr, hsr, hE⟩
                      case measure => simp [intOf]; omega
                    · have d1 : ((z : Int) != x 3) = true := by simpa using ez
                      have hf := Lib.hid (show zonesB s = false from zonesB_obj hid (by
                        rw [← HX.out, zoneO, apartB_bad hlt ez (by rw [← HL.out, ← ey, HY.out]; exact List.getElem_mem hkl)]
                        simp))
                      go_wp2_with fail
                      go_ret
                      exact ⟨congrArg (fun b => Ending.returned (Value.bool b)) hf.out.symm, hbr⟩
                  · have d0 : (y == (id : Int)) = false := by simpa using ey
                    have hgi2 : GoodX l id ((z : Int) = x 3) (k + 1) := fun m hm hmk => by
                      by_cases e : m = k
                      · subst e; exact .inr (by rw [← HY.out]; exact ey)
                      · exact hgi m hm (by omega)
                    go_wp2_with fail
                    go_roundw
                    case rel => exact ⟨k + 1, by go_num, by omega, by rw [HCS.out, if_neg ey]; go_num, hgi2, hbr, hsr, hE⟩
                    case measure => simp [intOf]; omega
                · obtain rfl : k = n2 := by omega
                  rw [← hln] at hgi
                  have hgz2 := hgz.next (by rw [← HL.out]; exact hgi)
                  have ht : timesN s id (z + 1) = T + (l.take k).count (id : Int) := by rw [hts2.out, ← hln, List.take_length]
                  rw [← ht]
                  have Ht := Lib.hid ht
                  clear ht
                  go_wp2_with fail
                  go_roundw
                  case rel => exact ⟨z + 1, by go_num, by omega, rfl, hgz2, hbr, hsr, hE⟩
                  case measure => simp [intOf]; omega
            · obtain rfl : z = 11 := by omega
              have hap := apartB_good hgz
              have xs : ∀ i < 18, wr.cell? ⟨g, i, none⟩ = some (.int .i64 (x i)) := fun i hi => by
                have h := cell_of_row wr g i _ _ _ hE
                rw [arr_get .i64 18 x hi] at h
                exact h
              have x1 := xs 1 (by omega)
              have x3 := xs 3 (by omega)
              have x13 := xs 13 (by omega)
              have hts := timesN_le id hll 11 (by omega)
              obtain ⟨T, hT⟩ : ∃ T, T = timesN s id 11 := ⟨_, rfl⟩
              rw [← hT] at hts ⊢
              have HT := Lib.hid hT
              clear hT xs hgz
              by_cases e1 : T = 1
              case neg =>
                have g1 : ((T : Int) != 1) = true := by simp; omega
                have hf := Lib.hid (show zonesB s = false from zonesB_obj hid (by
                  rw [← HX.out, zoneO, ← HT.out, show (T == 1) = false by simpa using e1]
                  simp))
                go_wp2_with fail
                go_ret
                exact ⟨congrArg (fun b => Ending.returned (Value.bool b)) hf.out.symm, hbr⟩
              have HT1 := Lib.hid (show (timesN s id 11 == 1) = true by rw [← HT.out, e1]; rfl)
              subst e1
              by_cases l8 : x 3 < 8
              · have d8 : decide (x 3 < 8) = true := decide_eq_true l8
                have f3 : (x 3 == 8) = false := by simp; omega
                by_cases em : x 1 = (x 3).tmod 2
                · have f1 : (x 1 != (x 3).tmod 2) = false := by simp [em]
                  by_cases e13 : x 13 = 0
                  · have f13 : (x 13 != 0) = false := by simp [e13]
                    have hgn2 : GoodN s (id + 1) := fun m hm hmk => by
                      by_cases e : m = id
                      · subst e; rw [← HX.out, zoneO, hap, HT1.out, show wrongO x = false by simp [wrongO, d8, f3, f1, f13]]; rfl
                      · exact hgn m hm (by omega)
                    go_wp2_with fail
                    go_roundw
                    case rel => exact ⟨id + 1, by go_num, by omega, hgn2, hbr, hsr⟩
                    case measure => simp [intOf]; omega
                  · have f13 : (x 13 != 0) = true := by simpa using e13
                    have hf := Lib.hid (show zonesB s = false from zonesB_obj hid (by rw [← HX.out, zoneO, show wrongO x = true by simp [wrongO, d8, f3, f1, f13], Bool.not_true, Bool.and_false]))
                    go_wp2_with fail
                    go_ret
                    exact ⟨congrArg (fun b => Ending.returned (Value.bool b)) hf.out.symm, hbr⟩
                · have f1 : (x 1 != (x 3).tmod 2) = true := by simpa using em
                  have hf := Lib.hid (show zonesB s = false from zonesB_obj hid (by rw [← HX.out, zoneO, show wrongO x = true by simp [wrongO, d8, f3, f1], Bool.not_true, Bool.and_false]))
                  go_wp2_with fail
                  go_ret
                  exact ⟨congrArg (fun b => Ending.returned (Value.bool b)) hf.out.symm, hbr⟩
              · have d8 : decide (x 3 < 8) = false := decide_eq_false l8
                by_cases e3 : x 3 = 8
                · have f3 : (x 3 == 8) = true := by simpa using e3
                  by_cases e13 : x 13 = 2
                  · have f13 : (x 13 == 2) = true := by simpa using e13
                    have hf := Lib.hid (show zonesB s = false from zonesB_obj hid (by rw [← HX.out, zoneO, show wrongO x = true by simp [wrongO, d8, f3, f13], Bool.not_true, Bool.and_false]))
                    go_wp2_with fail
                    go_ret
                    exact ⟨congrArg (fun b => Ending.returned (Value.bool b)) hf.out.symm, hbr⟩
                  · have f13 : (x 13 == 2) = false := by simpa using e13
                    have hgn2 : GoodN s (id + 1) := fun m hm hmk => by
                      by_cases e : m = id
                      · subst e; rw [← HX.out, zoneO, hap, HT1.out, show wrongO x = false by simp [wrongO, d8, f3, f13]]; rfl
                      · exact hgn m hm (by omega)
                    go_wp2_with fail
                    go_roundw
                    case rel => exact ⟨id + 1, by go_num, by omega, hgn2, hbr, hsr⟩
                    case measure => simp [intOf]; omega
                · have f3 : (x 3 == 8) = false := by simpa using e3
                  have hgn2 : GoodN s (id + 1) := fun m hm hmk => by
                    by_cases e : m = id
                    · subst e; rw [← HX.out, zoneO, hap, HT1.out, show wrongO x = false by simp [wrongO, d8, f3]]; rfl
                    · exact hgn m hm (by omega)
                  go_wp2_with fail
                  go_roundw
                  case rel => exact ⟨id + 1, by go_num, by omega, hgn2, hbr, hsr⟩
                  case measure => simp [intOf]; omega
        · obtain rfl : id = s.objs.length := by omega
          have hf := Lib.hid (zonesB_good hlists hgn)
          go_wp2_with fail
          go_ret
          exact ⟨congrArg (fun b => Ending.returned (Value.bool b)) hf.out.symm, hbr⟩
end Go.Proofs.YtplfblccaeligaaDoor
namespace Go.Proofs.YtplfblccaeligaaDoor
open Go.RowKit Ex
set_option maxRecDepth 100000
attribute [local go_sem] arr_get
/-- The number of what is wrong. -/
def chkS (s : StT) : Int := if 400 < s.objs.length then 5 else if rangesB s = false then 1 else if zonesB s = false then 12 else if (s.objs.all formedB) = false then 2 else 0
def GoodF (s : StT) (k : Nat) : Prop := ∀ j (hj : j < s.objs.length), j < k → formedB s.objs[j] = true
theorem form_bad {s : StT} {k : Nat} (hk : k < s.objs.length) (h : formedB s.objs[k] = false) : (s.objs.all formedB) = false := by
  rw [Bool.eq_false_iff]; intro h2
  rw [List.all_eq_true] at h2
  have := h2 _ (List.getElem_mem hk)
  rw [h] at this; cases this
theorem form_good {s : StT} (h : GoodF s s.objs.length) : (s.objs.all formedB) = true := by
  rw [List.all_eq_true]
  intro o ho
  obtain ⟨i, hi, rfl⟩ := List.getElem_of_mem ho
  exact h i hi hi
set_option maxRecDepth 100000 in
set_option maxHeartbeats 0 in
theorem st_checkRef_any (s : StT) (O : SlT) (L : Nat → SlT) (cs : Array Value) (w : World) (B : Nat) (h : ReadsS B w cs s O L) (hB : B ≤ w.heap.size) (hn : s.objs.length ≤ 1000000) (hll : ∀ z < 11, (s.lists z).length ≤ 1000000) :
    Calls Tryd.prog 9 #[.agg cs] w fun e w' => e = .returned (.int .i64 (chkS s)) ∧ Below w.heap.size w w' := by
  go_enter Tryd.func9, Tryd.ntmps9
  have hcs := h.cs
  have c0 : cs[0]? = some (.slice O.A O.n O.c) := by rw [hcs]; exact stC_objs _ _ _ _
  have hOn := h.on
  have hOc := h.oc
  have hO := h.o
  have hsz : (Tryd.prog.info? 29).map (·.size) = some cs.size := by rw [h.size]; exact size37
  have H := Lib.hid h
  clear h
  obtain ⟨A, n, c⟩ := O
  simp only at c0 hOn hOc hO
  clear hcs
  subst hOn
  go_upto_region 1 with fail
  have hs0 : StAt (w.alloc (.cells cs 29)) w.heap.size cs := StAt.new _ _
  have hb0 : Below w.heap.size w (w.alloc (.cells cs 29)) := (Below.refl _ _).alloc (Nat.le_refl _) _
  obtain ⟨w1, hw1⟩ : ∃ w1, w1 = w.alloc (.cells cs 29) := ⟨_, rfl⟩
  rw [← hw1] at hs0 hb0 ⊢
  clear hw1
  have c1 := (hs0.cell 0).trans c0
  by_cases h4 : 400 < s.objs.length
  · have d4 : decide ((400 : Int) < (s.objs.length : Int)) = true := by simp; omega
    have hf := Lib.hid (show chkS s = 5 by simp [chkS, h4])
    go_wp2_with fail
    go_ret
    exact ⟨congrArg (fun b => Ending.returned (Value.int .i64 b)) hf.out.symm, hb0⟩
  have d4 : decide ((400 : Int) < (s.objs.length : Int)) = false := by simp; omega
  go_wp2_with (refine wpList_load_row rfl 29 (.tmp 1) rfl w.heap.size rfl 29 _ (0, 0) _ hs0 Tryd.underlying29 rfl hsz ?_)
  refine (ranges_any s _ L cs w1 _ ((H.out.more hB).below hb0) hb0.size hn).mono ?_
  rintro e w2 ⟨rfl, hb2⟩
  have hb := keepB hb2 hb0
  have hs2 := hs0.keep hb2
  clear c1
  by_cases hr : rangesB s = true
  case neg =>
    have fr : rangesB s = false := by simpa using hr
    have hf := Lib.hid (show chkS s = 1 by simp [chkS, h4, fr])
    go_wp2_with fail
    go_ret
    exact ⟨congrArg (fun b => Ending.returned (Value.int .i64 b)) hf.out.symm, hb⟩
  go_wp2_with (refine wpList_load_row rfl 29 (.tmp 1) rfl w.heap.size rfl 29 _ (0, 0) _ hs2 Tryd.underlying29 rfl hsz ?_)
  refine (zones_any s _ L cs w2 _ ((H.out.more hB).below hb) hb.size hn hll).mono ?_
  rintro e w3 ⟨rfl, hb3⟩
  have hbb := keepB hb3 hb
  have hs3 := hs2.keep hb3
  clear hb hb2 hs2 hb0 hs0 hb3
  by_cases hq : zonesB s = true
  case neg =>
    have fq : zonesB s = false := by simpa using hq
    have hf := Lib.hid (show chkS s = 12 by simp [chkS, h4, hr, fq])
    go_wp2_with fail
    go_ret
    exact ⟨congrArg (fun b => Ending.returned (Value.int .i64 b)) hf.out.symm, hbb⟩
  have c3 := (hs3.cell 0).trans c0
  go_upto_region 8 with fail
  have hg0 : GoodF s 0 := fun j hj hk => absurd hk (by omega)
  go_loopw [18] (fun i wr => ∃ k : Nat, i = .int .i64 ((k : Nat) : Int) ∧ k ≤ s.objs.length ∧ GoodF s k ∧ Below w.heap.size w wr) (fun i _ => s.objs.length - (intOf i).toNat)
  case atStart => exact ⟨0, rfl, by omega, hg0, hbb⟩
  case round =>
    clear hbb hs3 c3 hg0
    obtain ⟨k, rfl, hk, hgood, hbr⟩ := hrel
    by_cases hlt : k < s.objs.length
    · obtain ⟨b, off, rfl, hbB, hra⟩ := hO.at_ hlt
      have hra := range_below hbr (by omega) hra
      obtain ⟨x, hx⟩ : ∃ x, x = s.objs[k] := ⟨_, rfl⟩
      rw [← hx] at hra
      have HX := Lib.hid hx
      clear hx
      have hz := st_zero18
      have hnew : (wr.alloc (.cells (arr .i64 18 fun _ => 0) 37)).heap[wr.heap.size]? = some (.cells (arr .i64 18 fun _ => 0) 37 (0, 0)) := heap_alloc_new _ _
      have hsx : (Tryd.prog.info? 37).map (·.size) = some (arr .i64 18 x).size := by rw [arr_size]; exact st_size18
      go_upto_region 10 with (first
        | (refine load_obj rfl (.tmp 20) rfl b (off + k * 18) rfl x hra ?_)
        | (refine wpList_store_row rfl 37 (.tmp 4) (.tmp 21) rfl wr.heap.size _ rfl rfl 37 (arr .i64 18 fun _ => 0) hnew hsx (by rw [arr_size, arr_size]) (arr_one .i64 18 x) ?_))
      obtain ⟨wn, hwn, hEn, hbn⟩ := ob_box wr x
      rw [← hwn]
      have hbrn := keepB hbn hbr
      clear hwn hnew hra hz
      go_upto_region 11 with (refine wpList_load_row rfl 37 (.tmp 4) rfl wr.heap.size rfl 37 _ (0, 0) _ hEn Tryd.underlying37 rfl hsx ?_)
      refine (formed_any x wn).mono ?_
      rintro e w4 ⟨rfl, hb4⟩
      have hbr4 := keepB hb4 hbrn
      clear hEn hbn hbrn hbr
      by_cases hy : formedB x = true
      · have hgood2 : GoodF s (k + 1) := fun j hj hjk => by
          by_cases e : j = k
          · subst e; rw [← HX.out]; exact hy
          · exact hgood j hj (by omega)
        go_wp2_with fail
        go_roundw
        case rel => exact ⟨k + 1, by go_num, by omega, hgood2, hbr4⟩
        case measure => simp [intOf]; omega
      · have hy : formedB x = false := by simpa using hy
        have fa := form_bad hlt (HX.out ▸ hy)
        have hf := Lib.hid (show chkS s = 2 by rw [chkS, if_neg h4, hr, hq, fa]; rfl)
        clear fa
        go_wp2_with fail
        go_ret
        exact ⟨congrArg (fun b => Ending.returned (Value.int .i64 b)) hf.out.symm, hbr4⟩
    · obtain rfl : k = s.objs.length := by omega
      have fa := form_good hgood
      have hf := Lib.hid (show chkS s = 0 by rw [chkS, if_neg h4, hr, hq, fa]; rfl)
      clear fa
      go_wp2_with fail
      go_ret
      exact ⟨congrArg (fun b => Ending.returned (Value.int .i64 b)) hf.out.symm, hbr⟩
end Go.Proofs.YtplfblccaeligaaDoor
namespace Go.Proofs.YtplfblccaeligaaDoor
open Go.RowKit Ex
set_option maxRecDepth 100000
theorem right_parts {s : StT} (h : chkS s = 0) : s.objs.length ≤ 400 ∧ rangesB s = true ∧ zonesB s = true ∧ (s.objs.all formedB) = true := by
  unfold chkS at h
  split at h
  · cases h
  split at h
  · cases h
  split at h
  · cases h
  split at h
  · cases h
  rename_i a b c d
  exact ⟨by omega, by simpa using b, by simpa using c, by simpa using d⟩
theorem right_obj {s : StT} (h : chkS s = 0) {k : Nat} {o : Nat → Int} (ho : s.objs[k]? = some o) : objectB o s.objs.length = true := by
  have h1 := (right_parts h).2.1
  unfold rangesB at h1
  simp only [Bool.and_eq_true, List.all_eq_true] at h1
  exact h1.1.1.1 o (List.mem_of_getElem? ho)
theorem right_nums {s : StT} (h : chkS s = 0) {k : Nat} {o : Nat → Int} (ho : s.objs[k]? = some o) : 0 ≤ o 6 ∧ o 6 ≤ 1073741824 ∧ 0 ≤ o 7 ∧ o 7 ≤ 1073741824 ∧ -1073741824 ≤ o 8 ∧ o 8 ≤ 1073741824 ∧ -1073741824 ≤ o 9 ∧ o 9 ≤ 1073741824 ∧ 0 ≤ o 10 ∧ o 10 ≤ 255 := by
  have h1 := right_obj h ho
  unfold objectB at h1
  simp only [Bool.and_eq_true, inR, decide_eq_true_eq] at h1
  omega
theorem right_in {s : StT} (h : chkS s = 0) {z : Nat} (hz : z < 11) {id : Int} (hid : id ∈ s.lists z) : 0 ≤ id ∧ id < (s.objs.length : Int) := by
  have h1 := (right_parts h).2.2.1
  unfold zonesB listsB at h1
  simp only [Bool.and_eq_true, List.all_eq_true, List.mem_range] at h1
  have h2 := h1.1 z hz
  unfold idsB at h2
  simp only [List.all_eq_true, Bool.and_eq_true, decide_eq_true_eq] at h2
  exact h2 id hid
end Go.Proofs.YtplfblccaeligaaDoor
