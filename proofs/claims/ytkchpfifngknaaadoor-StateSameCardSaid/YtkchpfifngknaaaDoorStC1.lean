/- Layer 10: the code's isOwned, isList, Zone, Side, Top, New, Cards. -/
import Derived.Test.YtkchpfifngknaaaDoorStBase
import Derived.Test.YtkchpfifngknaaaDoorStLong
import Derived.OwnWalk
namespace Go.Proofs.YtkchpfifngknaaaDoor
open Go.RowKit Ex
attribute [local go_sem] arr_get
set_option maxRecDepth 100000
theorem isOwned_any (z : Int) (w : World) : Calls Tryd.prog 31 #[.int .i64 z] w fun e w' => e = .returned (.bool (decide (0 ≤ z) && decide (z < 8))) ∧ w = w' := by
  go_enter Tryd.func31, Tryd.ntmps31
  go_wp2_with fail
  all_goals (go_ret; refine ⟨?_, rfl⟩; simp [*] <;> omega)
theorem isList_any (z : Int) (w : World) : Calls Tryd.prog 32 #[.int .i64 z] w fun e w' => e = .returned (.bool (decide (0 ≤ z) && decide (z < 11))) ∧ w = w' := by
  go_enter Tryd.func32, Tryd.ntmps32
  go_wp2_with fail
  all_goals (go_ret; refine ⟨?_, rfl⟩; simp [*] <;> omega)
/-- A player's list. -/
def zoneV (b p : Int) : Int := if (b = 0 ∨ b = 2 ∨ b = 4 ∨ b = 6) ∧ (p = 0 ∨ p = 1) then b + p else -1
theorem zone_code (b p : Int) (w : World) : Calls Tryd.prog 20 #[.int .i64 b, .int .i64 p] w fun e w' => e = .returned (.int .i64 (zoneV b p)) ∧ w = w' := by
  by_cases h0 : p < 0
  · have d0 : decide (p < 0) = true := decide_eq_true h0
    have hz : zoneV b p = -1 := if_neg (by omega)
    rw [hz]
    clear hz
    go_enter Tryd.func20, Tryd.ntmps20
    go_wp2_with fail
    go_ret
    exact ⟨rfl, rfl⟩
  have d0 : decide (p < 0) = false := decide_eq_false h0
  by_cases h1 : 1 < p
  · have d1 : decide (1 < p) = true := decide_eq_true h1
    have hz : zoneV b p = -1 := if_neg (by omega)
    rw [hz]
    clear hz
    go_enter Tryd.func20, Tryd.ntmps20
    go_wp2_with fail
    go_ret
    exact ⟨rfl, rfl⟩
  have d1 : decide (1 < p) = false := decide_eq_false h1
  by_cases e0 : b = 0
  · subst e0
    obtain rfl | rfl : p = 0 ∨ p = 1 := by omega
    all_goals
      go_enter Tryd.func20, Tryd.ntmps20
      go_wp2_with fail
      go_ret
      exact ⟨rfl, rfl⟩
  by_cases e2 : b = 2
  · subst e2
    obtain rfl | rfl : p = 0 ∨ p = 1 := by omega
    all_goals
      go_enter Tryd.func20, Tryd.ntmps20
      go_wp2_with fail
      go_ret
      exact ⟨rfl, rfl⟩
  by_cases e4 : b = 4
  · subst e4
    obtain rfl | rfl : p = 0 ∨ p = 1 := by omega
    all_goals
      go_enter Tryd.func20, Tryd.ntmps20
      go_wp2_with fail
      go_ret
      exact ⟨rfl, rfl⟩
  by_cases e6 : b = 6
  · subst e6
    obtain rfl | rfl : p = 0 ∨ p = 1 := by omega
    all_goals
      go_enter Tryd.func20, Tryd.ntmps20
      go_wp2_with fail
      go_ret
      exact ⟨rfl, rfl⟩
  have f0 : (b == 0) = false := by simpa using e0
  have f2 : (b == 2) = false := by simpa using e2
  have f4 : (b == 4) = false := by simpa using e4
  have f6 : (b == 6) = false := by simpa using e6
  have hz : zoneV b p = -1 := if_neg (by omega)
  rw [hz]
  clear hz
  go_enter Tryd.func20, Tryd.ntmps20
  go_wp2_with fail
  go_ret
  exact ⟨rfl, rfl⟩
def sideB (z : Int) : Int := if 0 ≤ z ∧ z < 8 then z - z % 2 else if 0 ≤ z ∧ z < 11 then z else 0
def sideP (z : Int) : Int := if 0 ≤ z ∧ z < 8 then z % 2 else 0
def sideO (z : Int) : Bool := decide (0 ≤ z) && decide (z < 8)
theorem side_code (z : Int) (w : World) : Calls Tryd.prog 18 #[.int .i64 z] w fun e w' => e = .returned (.tuple #[.int .i64 (sideB z), .int .i64 (sideP z), .bool (sideO z)]) ∧ w = w' := by
  by_cases h0 : 0 ≤ z ∧ z < 8
  · have hb : sideB z = z - z % 2 := if_pos h0
    have hp : sideP z = z % 2 := if_pos h0
    have ho : sideO z = true := by simp [sideO, h0]
    have hc := isOwned_any z
    rw [show (decide (0 ≤ z) && decide (z < 8)) = true by simp [h0]] at hc
    rw [hb, hp, ho]
    clear hb hp ho
    go_enter Tryd.func18, Tryd.ntmps18
    go_wp2_with fail
    refine (hc w).mono ?_
    rintro e w2 ⟨rfl, rfl⟩
    clear hc
    go_wp2_with fail
    go_ret3
    exact ⟨rfl, rfl⟩
  have hp : sideP z = 0 := if_neg h0
  have ho : sideO z = false := by rw [Bool.eq_false_iff]; intro h; simp [sideO] at h; omega
  have hc := isOwned_any z
  rw [show (decide (0 ≤ z) && decide (z < 8)) = false from ho] at hc
  have hl := isList_any z
  by_cases h1 : 0 ≤ z ∧ z < 11
  · have hb : sideB z = z := by rw [sideB, if_neg h0, if_pos h1]
    rw [show (decide (0 ≤ z) && decide (z < 11)) = true by simp [h1]] at hl
    rw [hb, hp, ho]
    clear hb hp ho
    go_enter Tryd.func18, Tryd.ntmps18
    go_wp2_with fail
    refine (hc w).mono ?_
    rintro e w2 ⟨rfl, rfl⟩
    clear hc
    go_wp2_with fail
    refine (hl w).mono ?_
    rintro e w2 ⟨rfl, rfl⟩
    clear hl
    go_wp2_with fail
    go_ret3
    exact ⟨rfl, rfl⟩
  · have hb : sideB z = 0 := by rw [sideB, if_neg h0, if_neg h1]
    rw [show (decide (0 ≤ z) && decide (z < 11)) = false by rw [Bool.eq_false_iff]; intro h; simp at h; omega] at hl
    rw [hb, hp, ho]
    clear hb hp ho
    go_enter Tryd.func18, Tryd.ntmps18
    go_wp2_with fail
    refine (hc w).mono ?_
    rintro e w2 ⟨rfl, rfl⟩
    clear hc
    go_wp2_with fail
    refine (hl w).mono ?_
    rintro e w2 ⟨rfl, rfl⟩
    clear hl
    go_wp2_with fail
    go_ret3
    exact ⟨rfl, rfl⟩
/-- Nil eleven times, and zeros. -/
def nilS : SlT := ⟨none, 0, 0⟩
def st0 : Array Value := stC nilS (fun _ => nilS) (fun _ => 0) (fun _ => 0)
def sT0 : StT := ⟨[], fun _ => [], fun _ => 0, fun _ => 0⟩
theorem reads_0 (B : Nat) (w : World) : ReadsS B w st0 sT0 nilS (fun _ => nilS) :=
  ⟨rfl, rfl, Nat.le_refl _, by simp [nilS], fun i o hi => by simp [sT0] at hi, fun z _ => Nums.none_, fun z _ => Nat.le_refl _, fun o ho => by simp [sT0] at ho, fun z _ x hx => by simp [sT0] at hx, fun i _ => by simp [N64, sT0], fun i _ => by simp [N64, sT0]⟩
theorem build0 (W : World) : (Instr.build 29 #[]).run Tryd.prog W = .ok (.agg st0) W := by kernel_rfl
theorem st0_is : (Value.slice none 0 0 :: Value.slice none 0 0 :: Value.slice none 0 0 :: Value.slice none 0 0 :: Value.slice none 0 0 :: Value.slice none 0 0 :: Value.slice none 0 0 :: Value.slice none 0 0 :: Value.slice none 0 0 :: Value.slice none 0 0 :: Value.slice none 0 0 :: Value.slice none 0 0 :: Value.int .i64 0 :: Value.int .i64 0 :: Value.int .i64 0 :: Value.int .i64 0 :: Value.int .i64 0 :: Value.int .i64 0 :: Value.int .i64 0 :: Value.int .i64 0 :: Value.int .i64 0 :: Value.int .i64 0 :: Value.int .i64 0 :: Value.int .i64 0 :: Value.int .i64 0 :: Value.int .i64 0 :: Value.int .i64 0 :: Value.int .i64 0 :: Value.int .i64 0 :: Value.int .i64 0 :: Value.int .i64 0 :: Value.int .i64 0 :: Value.int .i64 0 :: Value.int .i64 0 :: Value.int .i64 0 :: Value.int .i64 0 :: Value.int .i64 0 :: []).toArray = st0 := by kernel_rfl
theorem wpList_build0 {ops : Array Oper} {rest : List Oper} {o : Oper} {a : Act} {w : World} {Q : Exit → Act → World → Prop} (hg : o.guard = none) (ho : o.op = .build 29 #[])
    (hK : wpList Tryd.prog ops Q rest (a.put o.dst (.agg st0)) w) : wpList Tryd.prog ops Q (o :: rest) a w := by
  refine wpList_plain hg fun K' hK' => ?_
  unfold Oper.wp
  simp [execOp, ho, build0, Result.andThen]
  exact hK' _ _ hK
theorem new_code (w : World) : Calls Tryd.prog 17 #[] w fun e w' => e = .returned (.agg st0) ∧ Below w.heap.size w w' := by
  go_enter Tryd.func17, Tryd.ntmps17
  go_upto_region 1 with fail
  rw [st0_is]
  have hnew : (w.alloc (.cells st0 29)).heap[w.heap.size]? = some (.cells st0 29 (0, 0)) := heap_alloc_new _ _
  have hsx : (Tryd.prog.info? 29).map (·.size) = some st0.size := by rw [show st0.size = 37 from stC_size _ _ _ _]; exact size37
  go_wp2_with (first
    | (refine wpList_build0 rfl rfl ?_)
    | (refine wpList_store_row rfl 29 (.tmp 0) (.tmp 1) rfl w.heap.size _ rfl rfl 29 st0 hnew hsx rfl (stC_one _ _ _ _) ?_))
  refine bodyPost_ret (v := .agg st0) ?_ rfl ⟨rfl, below_setRow ((Below.refl _ _).alloc (Nat.le_refl _) _) _ _ (Nat.le_refl _)⟩
  exact results_cell_row (ty := 29) (p := 0) (by kernel_rfl) _ _ w.heap.size 29 _ (0, 0) _ rfl (setRow_heap _ _ _ _ _ _ hnew) Tryd.underlying29 rfl hsx
end Go.Proofs.YtkchpfifngknaaaDoor
