/- Layer 10: which two states are the same; comparing players. -/
import Derived.Test.YtmhabodijmnldaaDoorStPl
namespace Go.Proofs.YtmhabodijmnldaaDoor
open Go.RowKit Ex
set_option maxRecDepth 100000
/-- The same objects. -/
def sameOL : List (Nat → Int) → List (Nat → Int) → Bool
  | [], [] => true
  | a :: l, b :: r => sameI 18 a b && sameOL l r
  | _, _ => false
theorem sameOL_iff : ∀ {l r : List (Nat → Int)}, sameOL l r = true ↔ l.length = r.length ∧ ∀ k (h1 : k < l.length) (h2 : k < r.length), sameI 18 l[k] r[k] = true
  | [], [] => by simp [sameOL]
  | [], _ :: _ => by simp [sameOL]
  | _ :: _, [] => by simp [sameOL]
  | a :: l, b :: r => by
    simp only [sameOL, Bool.and_eq_true, List.length_cons, sameOL_iff (l := l) (r := r)]
    constructor
    · rintro ⟨h1, h2, h3⟩
      refine ⟨by omega, fun k hk1 hk2 => ?_⟩
      cases k with
      | zero => exact h1
      | succ k => exact h3 k (by omega) (by omega)
    · rintro ⟨h1, h2⟩
      exact ⟨h2 0 (by omega) (by omega), by omega, fun k hk1 hk2 => h2 (k + 1) (by omega) (by omega)⟩
theorem sameOL_refl (l : List (Nat → Int)) : sameOL l l = true := sameOL_iff.2 ⟨rfl, fun _ _ _ => sameI_refl _ _⟩
theorem sameOL_len {l r : List (Nat → Int)} (h : l.length ≠ r.length) : sameOL l r = false := by
  rw [Bool.eq_false_iff]; intro h2; exact h (sameOL_iff.1 h2).1
theorem sameOL_at {l r : List (Nat → Int)} {k : Nat} (h1 : k < l.length) (h2 : k < r.length) (h : sameI 18 l[k] r[k] = false) : sameOL l r = false := by
  rw [Bool.eq_false_iff]; intro h3; rw [(sameOL_iff.1 h3).2 k h1 h2] at h; cases h
def sameL (a b : StT) : Bool := (List.range 11).all fun z => decide (a.lists z = b.lists z)
theorem sameL_good {a b : StT} (h : ∀ z, z < 11 → a.lists z = b.lists z) : sameL a b = true := by
  unfold sameL; rw [List.all_eq_true]; intro z hz; simpa using h z (List.mem_range.1 hz)
theorem sameL_bad {a b : StT} {z : Nat} (hz : z < 11) (h : a.lists z ≠ b.lists z) : sameL a b = false := by
  rw [Bool.eq_false_iff]; intro h2
  unfold sameL at h2
  rw [List.all_eq_true] at h2
  exact h (by simpa using h2 z (List.mem_range.2 hz))
def sameS (a b : StT) : Bool := sameL a b && sameOL a.objs b.objs && sameI 18 a.pl b.pl && sameI 7 a.gm b.gm
theorem sameS_refl (a : StT) : sameS a a = true := by
  simp only [sameS, sameL_good (fun z _ => rfl), sameOL_refl, sameI_refl, Bool.and_true]
theorem range18' : List.range 18 = [0, 1, 2, 3, 4, 5, 6, 7, 8, 9, 10, 11, 12, 13, 14, 15, 16, 17] := rfl
theorem sameI_two (f g : Nat → Int) : sameI 18 f g = (sameI 9 (fun j => f (0 * 9 + j)) (fun j => g (0 * 9 + j)) && sameI 9 (fun j => f (1 * 9 + j)) (fun j => g (1 * 9 + j))) := by
  rw [Bool.eq_iff_iff, Bool.and_eq_true, sameI_iff, sameI_iff, sameI_iff]
  refine ⟨fun h => ⟨fun i hi => h _ (by omega), fun i hi => h _ (by omega)⟩, fun ⟨h1, h2⟩ i hi => ?_⟩
  by_cases e : i < 9
  · have := h1 i e; simpa using this
  · have := h2 (i - 9) (by omega)
    simpa [show 9 + (i - 9) = i by omega] using this
theorem part_two (f : Nat → Int) (w : World) : (part 25 (arr .i64 18 f) (0 * 9)).run Tryd.prog w = .ok (.agg (arr .i64 9 fun j => f (0 * 9 + j))) w ∧ (part 25 (arr .i64 18 f) (1 * 9)).run Tryd.prog w = .ok (.agg (arr .i64 9 fun j => f (1 * 9 + j))) w := ⟨by kernel_rfl, by kernel_rfl⟩
theorem size_nine (w : World) : (sizeOf 25).run Tryd.prog w = .ok 9 w := by kernel_rfl
theorem run_equalIn_two (w : World) (d : Nat) (f g : Nat → Int) : (Op.equalIn (d + 3) 26 (.agg (arr .i64 18 f)) (.agg (arr .i64 18 g))).run Tryd.prog w = .ok (sameI 18 f g) w := by
  rw [sameI_two, Op.equalIn]
  simp only [Sem.run_bind, run_underlying Tryd.underlying26, Result.andThen_ok, size_nine, Std.Legacy.Range.forIn_eq_forIn_range', Std.Legacy.Range.size, Nat.sub_zero, Nat.add_sub_cancel, Nat.div_one]
  rw [show List.range' 0 2 1 = [0, 1] from rfl]
  have e0 := run_equalIn_arr (P := Tryd.prog) w d 25 3 .i64 9 Tryd.underlying25 Tryd.underlying3 (fun _ => by kernel_rfl) (fun j => f (0 * 9 + j)) (fun j => g (0 * 9 + j))
  have e1 := run_equalIn_arr (P := Tryd.prog) w d 25 3 .i64 9 Tryd.underlying25 Tryd.underlying3 (fun _ => by kernel_rfl) (fun j => f (1 * 9 + j)) (fun j => g (1 * 9 + j))
  have pf0 := (part_two f w).1
  have pg0 := (part_two g w).1
  have pf1 : (part 25 (arr .i64 18 f) 9).run Tryd.prog w = _ := (part_two f w).2
  have pg1 : (part 25 (arr .i64 18 g) 9).run Tryd.prog w = _ := (part_two g w).2
  generalize (fun j => f (0 * 9 + j)) = f0 at *
  generalize (fun j => g (0 * 9 + j)) = g0 at *
  generalize (fun j => f (1 * 9 + j)) = f1 at *
  generalize (fun j => g (1 * 9 + j)) = g1 at *
  simp only [List.forIn_cons, Sem.run_bind, pf0, pg0, e0, Result.andThen_ok]
  cases h0 : sameI 9 f0 g0 <;> cases h1 : sameI 9 f1 g1 <;> simp [pf1, pg1, e1, h1]
theorem eql_two (f g : Nat → Int) (w : World) : (binOp .eql 26 (.agg (arr .i64 18 f)) (.agg (arr .i64 18 g))).run Tryd.prog w = .ok (.bool (sameI 18 f g)) w := by
  simp only [binOp]
  simp [Op.equal, Op.maxDepth, run_equalIn_two w 9997 f g]
theorem neq_two (f g : Nat → Int) (w : World) : (binOp .neq 26 (.agg (arr .i64 18 f)) (.agg (arr .i64 18 g))).run Tryd.prog w = .ok (.bool (!sameI 18 f g)) w := by
  simp only [binOp]
  simp [Op.equal, Op.maxDepth, run_equalIn_two w 9997 f g]
theorem eql_seven (f g : Nat → Int) (w : World) : (binOp .eql 27 (.agg (arr .i64 7 f)) (.agg (arr .i64 7 g))).run Tryd.prog w = .ok (.bool (sameI 7 f g)) w :=
  run_eql_arr w 27 3 .i64 7 Tryd.underlying27 Tryd.underlying3 (fun _ => by kernel_rfl) f g
theorem neq_seven (f g : Nat → Int) (w : World) : (binOp .neq 27 (.agg (arr .i64 7 f)) (.agg (arr .i64 7 g))).run Tryd.prog w = .ok (.bool (!sameI 7 f g)) w :=
  run_neq_arr w 27 3 .i64 7 Tryd.underlying27 Tryd.underlying3 (fun _ => by kernel_rfl) f g
theorem neq_obj (f g : Nat → Int) (w : World) : (binOp .neq 49 (.agg (arr .i64 18 f)) (.agg (arr .i64 18 g))).run Tryd.prog w = .ok (.bool (!sameI 18 f g)) w :=
  run_neq_arr w 49 3 .i64 18 Tryd.underlying49 Tryd.underlying3 (fun _ => by kernel_rfl) f g
end Go.Proofs.YtmhabodijmnldaaDoor
