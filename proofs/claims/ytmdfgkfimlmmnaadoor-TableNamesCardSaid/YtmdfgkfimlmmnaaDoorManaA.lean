/- Layer 4: Good, Total, Letter of the landed code; the reference's Good. -/
import Derived.Test.YtmdfgkfimlmmnaaDoorManaBase
namespace Go.Proofs.YtmdfgkfimlmmnaaDoor
open Go.RowKit Mx
attribute [local go_sem] arr_get
def GRel (w2 : World) (f : Nat → Int) (i : Value) (wr : World) : Prop := ∃ k : Nat, i = .int .i64 ((k : Nat) : Int) ∧ k ≤ 6 ∧ GoodK f k ∧ wr = w2
set_option maxRecDepth 100000 in
theorem good_any (f : Nat → Int) (w : World) (hw : Wide f) : Calls Tryd.prog 53 #[.agg (arr .i64 6 f)] w (GoodPost f w) := by
  have hsz : (Tryd.prog.info? 24).map (·.size) = some (arr .i64 6 f).size := by rw [arr_size]; exact size6
  go_enter Tryd.func53, Tryd.ntmps53
  go_upto_region 1 with fail
  obtain ⟨w1, hw1⟩ : ∃ w1, w1 = w.alloc (.cells (arr .i64 6 f) 24) := ⟨_, rfl⟩
  have ha : ArrAt .i64 6 24 w1 w.heap.size f := by rw [hw1]; exact ArrAt.new w .i64 6 24 f
  have hb1 : Below w.heap.size w w1 := by rw [hw1]; exact (Below.refl _ _).alloc (Nat.le_refl _) _
  rw [← hw1]
  clear hw1
  go_upto_region 2 with (refine wpList_load_row rfl 24 (.tmp 1) rfl w.heap.size rfl 24 _ (0, 0) _ ha Tryd.underlying24 rfl hsz ?_)
  clear hsz ha
  go_loopw [6] (fun i wr => GRel w1 f i wr) (fun i _ => 6 - (intOf i).toNat)
  case atStart => exact ⟨0, rfl, by omega, fun i hi => absurd hi (by omega), rfl⟩
  case round =>
    obtain ⟨k, rfl, hk, hg, rfl⟩ := hrel
    have HG := Lib.hid hg
    clear hg
    by_cases hlt : k < 6
    · have hix := index_cost f k hlt
      obtain ⟨h0, h1⟩ := hw k hlt
      obtain ⟨x, hx⟩ : ∃ x, x = f k := ⟨_, rfl⟩
      rw [← hx] at hix h0 h1
      have HX := Lib.hid hx
      clear hx
      by_cases hin : 0 ≤ x ∧ x ≤ 1000
      · obtain ⟨i0, i1⟩ := hin
        have HN := Lib.hid (HG.out.next (by rw [← HX.out]; exact i0) (by rw [← HX.out]; exact i1))
        go_wp2_with fail
        go_roundw
        case rel => exact ⟨k + 1, by go_num, by omega, HN.out, rfl⟩
        case measure => simp [intOf]; omega
      · have HB := Lib.hid (show ¬ GoodC f from fun h => hin (by rw [HX.out]; exact h k hlt))
        have hb : (decide (x < 0) || decide (1000 < x)) = true := by simp; omega
        go_wp2_with fail
        all_goals go_ret
        all_goals exact ⟨.inr ⟨HB.out, rfl⟩, hb1⟩
    · obtain rfl : k = 6 := by omega
      go_wp2_with fail
      go_ret
      exact ⟨.inl ⟨HG.out, rfl⟩, hb1⟩
def TRel (w2 : World) (f : Nat → Int) (t i : Value) (wr : World) : Prop := ∃ k : Nat, i = .int .i64 ((k : Nat) : Int) ∧ t = .int .i64 (sumW f k) ∧ k ≤ 6 ∧ wr = w2
set_option maxRecDepth 100000 in
theorem total_any (f : Nat → Int) (w : World) (hw : Wide f) : Calls Tryd.prog 54 #[.agg (arr .i64 6 f)] w fun e w' => e = .returned (.int .i64 (sumW f 6)) ∧ Below w.heap.size w w' := by
  have hsz : (Tryd.prog.info? 24).map (·.size) = some (arr .i64 6 f).size := by rw [arr_size]; exact size6
  go_enter Tryd.func54, Tryd.ntmps54
  go_upto_region 2 with fail
  obtain ⟨w1, hw1⟩ : ∃ w1, w1 = w.alloc (.cells (arr .i64 6 f) 24) := ⟨_, rfl⟩
  have ha : ArrAt .i64 6 24 w1 w.heap.size f := by rw [hw1]; exact ArrAt.new w .i64 6 24 f
  have hb1 : Below w.heap.size w w1 := by rw [hw1]; exact (Below.refl _ _).alloc (Nat.le_refl _) _
  rw [← hw1]
  clear hw1
  go_upto_region 3 with (refine wpList_load_row rfl 24 (.tmp 1) rfl w.heap.size rfl 24 _ (0, 0) _ ha Tryd.underlying24 rfl hsz ?_)
  clear hsz ha
  go_loopw [3, 7] (fun t i wr => TRel w1 f t i wr) (fun _ i _ => 6 - (intOf i).toNat)
  case atStart => exact ⟨0, rfl, rfl, by omega, rfl⟩
  case round =>
    obtain ⟨k, rfl, rfl, hk, rfl⟩ := hrel
    by_cases hlt : k < 6
    · have hix := index_cost f k hlt
      obtain ⟨h0, h1⟩ := hw k hlt
      obtain ⟨s0, s1⟩ := sumW_range f k
      obtain ⟨x, hx⟩ : ∃ x, x = f k := ⟨_, rfl⟩
      obtain ⟨s, hs⟩ : ∃ s, s = sumW f k := ⟨_, rfl⟩
      obtain ⟨r, hr⟩ : ∃ r, wrap64 (s + x) = r := ⟨_, rfl⟩
      rw [← hx] at hix h0 h1
      rw [← hs] at s0 s1 ⊢
      have HX := Lib.hid (show r = sumW f (k + 1) from by rw [← hr, hs, hx]; rfl)
      clear hx hs
      go_wp2_with fail
      go_roundw
      case rel => exact ⟨k + 1, by go_num, by rw [← HX.out, hr], by omega, rfl⟩
      case measure => simp [intOf]; omega
    · obtain rfl : k = 6 := by omega
      go_wp2_with fail
      go_ret
      exact ⟨rfl, hb1⟩
end Go.Proofs.YtmdfgkfimlmmnaaDoor
