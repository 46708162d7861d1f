/- Layer 4: Add, of the landed code and of the reference. -/
import Derived.Test.YtfnlkadcidfhoaaManaA
namespace Go.Proofs.Ytfnlkadcidfhoaa
open Go.RowKit Mx
attribute [local go_sem] arr_get
/-- What Add answers: the pool, and an error's number. -/
def AddR (p : Nat → Int) (c n : Int) (g : Nat → Int) (k : Int) : Prop :=
  (¬ GoodC p ∧ g = zeroC ∧ k = 2) ∨ (GoodC p ∧ ¬ (0 ≤ c ∧ c ≤ 5) ∧ g = zeroC ∧ k = 6) ∨
  (GoodC p ∧ (0 ≤ c ∧ c ≤ 5) ∧ ¬ (0 ≤ n ∧ p c.toNat + n ≤ 1000) ∧ g = zeroC ∧ k = 1) ∨
  (GoodC p ∧ (0 ≤ c ∧ c ≤ 5) ∧ (0 ≤ n ∧ p c.toNat + n ≤ 1000) ∧ g = updI p c.toNat (p c.toNat + n) ∧ k = 0)
theorem addR_one {p : Nat → Int} {c n : Int} {g g' : Nat → Int} {k k' : Int} (h : AddR p c n g k) (h' : AddR p c n g' k') : g = g' ∧ k = k' := by
  unfold AddR at h h'
  rcases h with ⟨a1, rfl, rfl⟩ | ⟨a1, a2, rfl, rfl⟩ | ⟨a1, a2, a3, rfl, rfl⟩ | ⟨a1, a2, a3, rfl, rfl⟩ <;>
  rcases h' with ⟨b1, rfl, rfl⟩ | ⟨b1, b2, rfl, rfl⟩ | ⟨b1, b2, b3, rfl, rfl⟩ | ⟨b1, b2, b3, rfl, rfl⟩ <;>
  first | exact ⟨rfl, rfl⟩ | exact absurd a1 b1 | exact absurd b1 a1 | exact absurd a2 b2 | exact absurd b2 a2 | exact absurd a3 b3 | exact absurd b3 a3
def AddPost (p : Nat → Int) (c n : Int) (err : Int → Value) (w : World) (e : Ending) (w' : World) : Prop :=
  ∃ g k, AddR p c n g k ∧ e = .returned (.tuple #[.agg (arr .i64 6 g), err k]) ∧ Below w.heap.size w w'
set_option maxRecDepth 100000 in
set_option maxHeartbeats 1000000 in
theorem add_any (p : Nat → Int) (c n : Int) (w : World) (hw : Wide p) (c0 : -9223372036854775808 ≤ c) (c1 : c ≤ 9223372036854775807) (n0 : -9223372036854775808 ≤ n) (n1 : n ≤ 9223372036854775807) :
    Calls Try.prog 26 #[.agg (arr .i64 6 p), .int .i64 c, .int .i64 n] w (AddPost p c n errV w) := by
  have hsz : (Try.prog.info? 23).map (·.size) = some (arr .i64 6 p).size := by rw [arr_size]; exact size6
  have hsz0 : (Try.prog.info? 23).map (·.size) = some (arr .i64 6 zeroC).size := by rw [arr_size]; exact size6
  have h1c := arr_one .i64 6 zeroC
  have hz := zero6
  go_enter Try.func26, Try.ntmps26
  go_upto_region 1 with fail
  obtain ⟨w1, hw1⟩ : ∃ w1, w1 = (w.alloc (.cells (arr .i64 6 p) 23)).alloc (.cells (arr .i64 6 zeroC) 23) := ⟨_, rfl⟩
  have ha : ArrAt .i64 6 23 w1 w.heap.size p := by rw [hw1]; exact (ArrAt.new w .i64 6 23 p).alloc _
  have hr : ArrAt .i64 6 23 w1 (w.heap.size + 1) zeroC := by
    have h := ArrAt.new (w.alloc (.cells (arr .i64 6 p) 23)) .i64 6 23 zeroC
    rw [hw1]; simpa using h
  have hb1 : Below w.heap.size w w1 := by rw [hw1]; exact ((Below.refl _ _).alloc (Nat.le_refl _) _).alloc (by simp) _
  rw [← hw1]
  clear hw1
  have hgood := fun W => good_any p W hw
  by_cases hg : GoodC p
  · go_wp2_with (refine wpList_load_row rfl 23 (.tmp 3) rfl w.heap.size rfl 23 _ (0, 0) _ ha Try.underlying23 rfl hsz ?_)
    refine (good_yes (hgood _) hg).mono ?_
    rintro e w2 ⟨rfl, hb2⟩
    have HA := Lib.hid (ha.keep hb2)
    have HR := Lib.hid (hr.keep hb2)
    have hbw := keepB hb2 hb1
    clear ha hr hb1 hb2
    by_cases hc : 0 ≤ c ∧ c ≤ 5
    · obtain ⟨k, rfl⟩ := Int.eq_ofNat_of_zero_le hc.1
      have hk : k < 6 := by omega
      have b0 : (0 : Int) ≤ (k : Int) := by omega
      have b1 : (k : Int) < 6 := by omega
      have b2 : ¬ (5 : Int) < (k : Int) := by omega
      have g3 := HA.out.cell hk
      have q2 := HA.out.frozen k
      obtain ⟨x0, x1⟩ := hg k hk
      obtain ⟨x, hx⟩ : ∃ x, x = p k := ⟨_, rfl⟩
      rw [← hx] at g3 x0 x1
      have HX := Lib.hid hx
      clear hx
      by_cases hn : 0 ≤ n ∧ x + n ≤ 1000
      · obtain ⟨m0, m1⟩ := hn
        have d0 : decide (n < 0) = false := by simp; omega
        have d1 : decide (1000 - x < n) = false := by simp; omega
        have H1 := Lib.hid (HA.out.set_ k (x + n))
        have hb3 := hbw.setCell (p := ⟨w.heap.size, k, none⟩) (Nat.le_refl _) (.int .i64 (x + n))
        have HR3 := Lib.hid (HR.out.far (p := ⟨w.heap.size, k, none⟩) (by simp) (.int .i64 (x + n)))
        go_upto_region 8 with fail
        obtain ⟨w3, hw3⟩ : ∃ w3, w3 = w2.setCell ⟨w.heap.size, k, none⟩ (.int .i64 (x + n)) := ⟨_, rfl⟩
        rw [← hw3] at H1 HR3 hb3 ⊢
        clear hw3 g3 q2
        have hsz1 : (Try.prog.info? 23).map (·.size) = some (arr .i64 6 (updI p k (x + n))).size := by rw [arr_size]; exact size6
        have h1d := arr_one .i64 6 (updI p k (x + n))
        go_wp2_with (first
          | (refine wpList_load_row rfl 23 (.tmp 3) rfl w.heap.size rfl 23 _ (0, 0) _ H1.out Try.underlying23 rfl hsz1 ?_)
          | (refine wpList_store_row rfl 23 (.tmp 6) (.tmp 39) rfl (w.heap.size + 1) _ rfl rfl 23 (arr .i64 6 zeroC) HR3.out hsz1 (by rw [arr_size, arr_size]) h1d ?_))
        refine bodyPost_ret (v := .tuple #[.agg (arr .i64 6 (updI p k (x + n))), .nilIface]) ?_ rfl ⟨updI p k (x + n), 0, .inr (.inr (.inr ⟨hg, ⟨by omega, by omega⟩, by rw [Int.toNat_natCast, ← HX.out]; exact ⟨m0, m1⟩, by rw [Int.toNat_natCast, HX.out], rfl⟩)), rfl, below_setRow hb3 _ _ (by omega)⟩
        exact results_cell_tmp (ty := 23) (p := 6) (q := 7) (by kernel_rfl) _ _ (w.heap.size + 1) 23 _ (0, 0) _ rfl (HR3.out.setRow _) Try.underlying23 rfl hsz1
      · have hb : (decide (n < 0) || decide (1000 - x < n)) = true := by simp; omega
        have HB := Lib.hid (show ¬ (0 ≤ n ∧ p ((k : Nat) : Int).toNat + n ≤ 1000) by rw [Int.toNat_natCast, ← HX.out]; exact hn)
        go_wp2_with (refine wpList_store_row rfl 23 (.tmp 6) (.tmp 31) rfl (w.heap.size + 1) _ rfl rfl 23 (arr .i64 6 zeroC) HR.out hsz0 rfl h1c ?_)
        all_goals refine bodyPost_ret (v := .tuple #[.agg (arr .i64 6 zeroC), .iface 41 (.int .i64 1)]) ?_ rfl ⟨zeroC, 1, .inr (.inr (.inl ⟨hg, hc, HB.out, rfl, rfl⟩)), rfl, below_setRow hbw _ _ (by omega)⟩
        all_goals exact results_cell_tmp (ty := 23) (p := 6) (q := 7) (by kernel_rfl) _ _ (w.heap.size + 1) 23 _ (0, 0) _ rfl (HR.out.setRow _) Try.underlying23 rfl hsz0
    · have hb : (decide (c < 0) || decide (5 < c)) = true := by simp; omega
      go_wp2_with (refine wpList_store_row rfl 23 (.tmp 6) (.tmp 19) rfl (w.heap.size + 1) _ rfl rfl 23 (arr .i64 6 zeroC) HR.out hsz0 rfl h1c ?_)
      all_goals refine bodyPost_ret (v := .tuple #[.agg (arr .i64 6 zeroC), .iface 41 (.int .i64 6)]) ?_ rfl ⟨zeroC, 6, .inr (.inl ⟨hg, hc, rfl, rfl⟩), rfl, below_setRow hbw _ _ (by omega)⟩
      all_goals exact results_cell_tmp (ty := 23) (p := 6) (q := 7) (by kernel_rfl) _ _ (w.heap.size + 1) 23 _ (0, 0) _ rfl (HR.out.setRow _) Try.underlying23 rfl hsz0
  · go_wp2_with (refine wpList_load_row rfl 23 (.tmp 3) rfl w.heap.size rfl 23 _ (0, 0) _ ha Try.underlying23 rfl hsz ?_)
    refine (good_no (hgood _) hg).mono ?_
    rintro e w2 ⟨rfl, hb2⟩
    have HR := Lib.hid (hr.keep hb2)
    have hbw := keepB hb2 hb1
    clear ha hr hb1 hb2
    go_wp2_with (refine wpList_store_row rfl 23 (.tmp 6) (.tmp 11) rfl (w.heap.size + 1) _ rfl rfl 23 (arr .i64 6 zeroC) HR.out hsz0 rfl h1c ?_)
    refine bodyPost_ret (v := .tuple #[.agg (arr .i64 6 zeroC), .iface 41 (.int .i64 2)]) ?_ rfl ⟨zeroC, 2, .inl ⟨hg, rfl, rfl⟩, rfl, below_setRow hbw _ _ (by omega)⟩
    exact results_cell_tmp (ty := 23) (p := 6) (q := 7) (by kernel_rfl) _ _ (w.heap.size + 1) 23 _ (0, 0) _ rfl (HR.out.setRow _) Try.underlying23 rfl hsz0
end Go.Proofs.Ytfnlkadcidfhoaa
