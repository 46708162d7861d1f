/- Layer 10: the code's isOwned, isList, Side. -/
import Derived.Test.YtmhabodijmnldaaStBase
namespace Go.Proofs.Ytmhabodijmnldaa
open Go.RowKit Ex
set_option maxRecDepth 100000
theorem isOwned_any (z : Int) (w : World) : Calls Try.prog 30 #[.int .i64 z] w fun e w' => e = .returned (.bool (decide (0 ≤ z) && decide (z < 8))) ∧ w = w' := by
  go_enter Try.func30, Try.ntmps30
  go_wp2_with fail
  all_goals (go_ret; refine ⟨?_, rfl⟩; simp [*] <;> omega)
theorem isList_any (z : Int) (w : World) : Calls Try.prog 31 #[.int .i64 z] w fun e w' => e = .returned (.bool (decide (0 ≤ z) && decide (z < 11))) ∧ w = w' := by
  go_enter Try.func31, Try.ntmps31
  go_wp2_with fail
  all_goals (go_ret; refine ⟨?_, rfl⟩; simp [*] <;> omega)
def sideB (z : Int) : Int := if 0 ≤ z ∧ z < 8 then z - z % 2 else if 0 ≤ z ∧ z < 11 then z else 0
def sideP (z : Int) : Int := if 0 ≤ z ∧ z < 8 then z % 2 else 0
def sideO (z : Int) : Bool := decide (0 ≤ z) && decide (z < 8)
theorem side_code (z : Int) (w : World) : Calls Try.prog 24 #[.int .i64 z] w fun e w' => e = .returned (.tuple #[.int .i64 (sideB z), .int .i64 (sideP z), .bool (sideO z)]) ∧ w = w' := by
  by_cases h0 : 0 ≤ z ∧ z < 8
  · have hb : sideB z = z - z % 2 := if_pos h0
    have hp : sideP z = z % 2 := if_pos h0
    have ho : sideO z = true := by simp [sideO, h0]
    have hc := isOwned_any z
    rw [show (decide (0 ≤ z) && decide (z < 8)) = true by simp [h0]] at hc
    rw [hb, hp, ho]
    clear hb hp ho
    go_enter Try.func24, Try.ntmps24
    go_wp2_with fail
    refine (hc w).mono ?_
    rintro e w2 ⟨rfl, rfl⟩
    clear hc
    go_wp2_with fail
    go_ret3
    exact ⟨rfl, rfl⟩
  have hp : sideP z = 0 := if_neg h0
  have ho : sideO z = false := by rw [Bool.eq_false_iff]; intro h; simp [sideO] at h; omega
  have hc := isOwned_any z
  rw [show (decide (0 ≤ z) && decide (z < 8)) = false from ho] at hc
  have hl := isList_any z
  by_cases h1 : 0 ≤ z ∧ z < 11
  · have hb : sideB z = z := by rw [sideB, if_neg h0, if_pos h1]
    rw [show (decide (0 ≤ z) && decide (z < 11)) = true by simp [h1]] at hl
    rw [hb, hp, ho]
    clear hb hp ho
    go_enter Try.func24, Try.ntmps24
    go_wp2_with fail
    refine (hc w).mono ?_
    rintro e w2 ⟨rfl, rfl⟩
    clear hc
    go_wp2_with fail
    refine (hl w).mono ?_
    rintro e w2 ⟨rfl, rfl⟩
    clear hl
    go_wp2_with fail
    go_ret3
    exact ⟨rfl, rfl⟩
  · have hb : sideB z = 0 := by rw [sideB, if_neg h0, if_neg h1]
    rw [show (decide (0 ≤ z) && decide (z < 11)) = false by rw [Bool.eq_false_iff]; intro h; simp at h; omega] at hl
    rw [hb, hp, ho]
    clear hb hp ho
    go_enter Try.func24, Try.ntmps24
    go_wp2_with fail
    refine (hc w).mono ?_
    rintro e w2 ⟨rfl, rfl⟩
    clear hc
    go_wp2_with fail
    refine (hl w).mono ?_
    rintro e w2 ⟨rfl, rfl⟩
    clear hl
    go_wp2_with fail
    go_ret3
    exact ⟨rfl, rfl⟩
end Go.Proofs.Ytmhabodijmnldaa
