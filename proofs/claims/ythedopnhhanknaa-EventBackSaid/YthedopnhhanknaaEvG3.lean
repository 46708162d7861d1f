/- Layer 12: the code's Check and what it asks; Sets. Layer 12: the code's Invert. Layer 9: what list's calls answer, as one statement: the laws' walks take it, the code's walks prove it. Layer 9: the code's has, first, Index. Layer 9: the library's Grow of the nil list, and Concat. Layer 12: the library's Clone, Grow and Concat over lists of objects; Clone over lists of numbers. Layer 12: the library's Grow and Concat over lists of objects. Layer 12: a state in a box, of which something becomes another thing; the code's set, made, put. Layer 12: the code's put. Layer 9: the code's Insert, Remove, Move. -/
import Derived.Test.YthedopnhhanknaaEvG2
import Derived.Test.YthedopnhhanknaaLstRef2
import Derived.Test.YthedopnhhanknaaEvG1
import Derived.Lib.AppendZerosOnto
import Derived.Lib.BufferMore
namespace Go.Proofs.Ythedopnhhanknaa
open Go.RowKit Ex
set_option maxRecDepth 100000
theorem below_any (n k : Int) (w : World) : Calls Try.prog 29 #[.int .i64 n, .int .i64 k] w fun en w' => en = .returned (.bool (decide (0 ≤ n) && decide (n < k))) ∧ w = w' := by
  obtain ⟨q, hq⟩ : ∃ q, q = (decide (0 ≤ n) && decide (n < k)) := ⟨_, rfl⟩
  rw [← hq]
  by_cases h0 : 0 ≤ n
  · have d0 : decide (0 ≤ n) = true := decide_eq_true h0
    rw [d0, Bool.true_and] at hq
    have hd := hq.symm
    clear hq h0
    go_enter Try.func29, Try.ntmps29
    go_wp2_with fail
    go_ret
    exact ⟨rfl, rfl⟩
  · have d0 : decide (0 ≤ n) = false := decide_eq_false h0
    rw [d0, Bool.false_and] at hq
    subst hq
    clear h0
    go_enter Try.func29, Try.ntmps29
    go_wp2_with fail
    go_ret
    exact ⟨rfl, rfl⟩
theorem isNum_any (n : Int) (w : World) : Calls Try.prog 40 #[.int .i64 n] w fun en w' => en = .returned (.bool (decide (-1073741824 ≤ n) && decide (n ≤ 1073741824))) ∧ w = w' := by
  obtain ⟨q, hq⟩ : ∃ q, q = (decide (-1073741824 ≤ n) && decide (n ≤ 1073741824)) := ⟨_, rfl⟩
  rw [← hq]
  by_cases h0 : -1073741824 ≤ n
  · have d0 : decide (-1073741824 ≤ n) = true := decide_eq_true h0
    rw [d0, Bool.true_and] at hq
    have hd := hq.symm
    clear hq h0
    go_enter Try.func40, Try.ntmps40
    go_wp2_with fail
    go_ret
    exact ⟨rfl, rfl⟩
  · have d0 : decide (-1073741824 ≤ n) = false := decide_eq_false h0
    rw [d0, Bool.false_and] at hq
    subst hq
    clear h0
    go_enter Try.func40, Try.ntmps40
    go_wp2_with fail
    go_ret
    exact ⟨rfl, rfl⟩
/-- Whether all that its kind doesn't tell is zero. -/
def frmE (e : EvT) : Bool :=
  if e.k = 1 then true else if e.k = 0 ∨ e.k = 5 then e.d == 0 && e.e == 0 else if e.k = 4 then e.a == 0 && e.e == 0 else e.e == 0
def numE (e : EvT) : Bool :=
  if e.k = 0 ∨ e.k = 5 then (decide (0 ≤ e.a) && decide (e.a < 120)) && (decide (0 ≤ e.b) && decide (e.b < 2)) && (decide (0 ≤ e.c) && decide (e.c < 3))
  else if e.k = 1 then decide (0 ≤ e.a) && (decide (0 ≤ e.b) && decide (e.b < 11)) && decide (0 ≤ e.c) && (decide (0 ≤ e.d) && decide (e.d < 11)) && decide (0 ≤ e.e)
  else if e.k = 2 then decide (0 ≤ e.a) && (decide (0 ≤ e.b) && decide (e.b < 18)) && (e.b != 3) && (decide (-1073741824 ≤ e.d) && decide (e.d ≤ 1073741824))
  else if e.k = 3 then (decide (0 ≤ e.a) && decide (e.a < 2)) && (decide (0 ≤ e.b) && decide (e.b < 9)) && (decide (-1073741824 ≤ e.d) && decide (e.d ≤ 1073741824))
  else (decide (0 ≤ e.b) && decide (e.b < 7)) && (decide (-1073741824 ≤ e.d) && decide (e.d ≤ 1073741824))
theorem chkE_is (e : EvT) : chkE e = if decide (0 ≤ e.k) && decide (e.k < 6) then (if frmE e then (if numE e then 0 else 1) else 2) else 6 := by
  obtain ⟨k, a, b, c, d, f⟩ := e
  by_cases hk : 0 ≤ k ∧ k < 6
  · rw [show (decide (0 ≤ k) && decide (k < 6)) = true by simp [hk], if_pos rfl]
    obtain rfl | rfl | rfl | rfl | rfl | rfl : k = 0 ∨ k = 1 ∨ k = 2 ∨ k = 3 ∨ k = 4 ∨ k = 5 := by omega
    · rw [ck0]; simp [frmE, numE]; (repeat' split) <;> omega
    · rw [ck1]; simp [frmE, numE]; (repeat' split) <;> omega
    · rw [ck2]; simp [frmE, numE]; (repeat' split) <;> omega
    · rw [ck3]; simp [frmE, numE]; (repeat' split) <;> omega
    · rw [ck4]; simp [frmE, numE]; (repeat' split) <;> omega
    · rw [ck5]; simp [frmE, numE]; (repeat' split) <;> omega
  · rw [show (decide (0 ≤ k) && decide (k < 6)) = false by rw [Bool.eq_false_iff]; simp; omega, if_neg (by simp)]
    exact ckN k a b c d f (by omega)
set_option maxHeartbeats 0 in
theorem formFits_any (e : EvT) (w : World) (hk : 0 ≤ e.k ∧ e.k < 6) : Calls Try.prog 30 #[evV e] w fun en w' => en = .returned (.bool (frmE e)) ∧ Below w.heap.size w w' := by
  obtain ⟨k, a, b, c, d, f⟩ := e
  unfold evV
  simp only at hk ⊢
  go_enter Try.func30, Try.ntmps30
  go_upto_region 1 with fail
  obtain ⟨w1, hw1⟩ : ∃ w1, w1 = w.alloc (.cells #[.int .i64 k, .int .i64 a, .int .i64 b, .int .i64 c, .int .i64 d, .int .i64 f] 31) := ⟨_, rfl⟩
  have hrow : w1.heap[w.heap.size]? = some (.cells #[.int .i64 k, .int .i64 a, .int .i64 b, .int .i64 c, .int .i64 d, .int .i64 f] 31 (0, 0)) := by rw [hw1]; exact heap_alloc_new _ _
  have hb1 : Below w.heap.size w w1 := by rw [hw1]; exact (Below.refl _ _).alloc (Nat.le_refl _) _
  rw [← hw1]
  have c0 := cell_of_row w1 w.heap.size 0 _ _ _ hrow
  have c1 := cell_of_row w1 w.heap.size 1 _ _ _ hrow
  have c2 := cell_of_row w1 w.heap.size 2 _ _ _ hrow
  have c3 := cell_of_row w1 w.heap.size 3 _ _ _ hrow
  have c4 := cell_of_row w1 w.heap.size 4 _ _ _ hrow
  have c5 := cell_of_row w1 w.heap.size 5 _ _ _ hrow
  simp at c0 c1 c2 c3 c4 c5
  clear hw1
  clear hrow
  obtain rfl | rfl | rfl | rfl | rfl | rfl : k = 0 ∨ k = 1 ∨ k = 2 ∨ k = 3 ∨ k = 4 ∨ k = 5 := by omega
  all_goals
    go_wp2_with fail
    all_goals (go_ret; refine ⟨?_, hb1⟩; simp [frmE, *])
set_option maxHeartbeats 0 in
theorem numbersFit_any (e : EvT) (w : World) (hk : 0 ≤ e.k ∧ e.k < 6) : Calls Try.prog 31 #[evV e] w fun en w' => en = .returned (.bool (numE e)) ∧ Below w.heap.size w w' := by
  obtain ⟨k, a, b, c, d, f⟩ := e
  unfold evV
  simp only at hk ⊢
  obtain ⟨r, hr⟩ : ∃ r, r = numE ⟨k, a, b, c, d, f⟩ := ⟨_, rfl⟩
  rw [← hr]
  go_enter Try.func31, Try.ntmps31
  go_upto_region 1 with fail
  obtain ⟨w1, hw1⟩ : ∃ w1, w1 = w.alloc (.cells #[.int .i64 k, .int .i64 a, .int .i64 b, .int .i64 c, .int .i64 d, .int .i64 f] 31) := ⟨_, rfl⟩
  have hrow : w1.heap[w.heap.size]? = some (.cells #[.int .i64 k, .int .i64 a, .int .i64 b, .int .i64 c, .int .i64 d, .int .i64 f] 31 (0, 0)) := by rw [hw1]; exact heap_alloc_new _ _
  have hb1 : Below w.heap.size w w1 := by rw [hw1]; exact (Below.refl _ _).alloc (Nat.le_refl _) _
  rw [← hw1]
  have c0 := cell_of_row w1 w.heap.size 0 _ _ _ hrow
  have c1 := cell_of_row w1 w.heap.size 1 _ _ _ hrow
  have c2 := cell_of_row w1 w.heap.size 2 _ _ _ hrow
  have c3 := cell_of_row w1 w.heap.size 3 _ _ _ hrow
  have c4 := cell_of_row w1 w.heap.size 4 _ _ _ hrow
  have c5 := cell_of_row w1 w.heap.size 5 _ _ _ hrow
  simp at c0 c1 c2 c3 c4 c5
  clear hw1
  clear hrow
  obtain rfl | rfl | rfl | rfl | rfl | rfl : k = 0 ∨ k = 1 ∨ k = 2 ∨ k = 3 ∨ k = 4 ∨ k = 5 := by omega
  · have hE : numE ⟨0, a, b, c, d, f⟩ = ((decide (0 ≤ a) && decide (a < 120)) && (decide (0 ≤ b) && decide (b < 2)) && (decide (0 ≤ c) && decide (c < 3))) := rfl
    rw [hE] at hr
    clear hE hk
    have h1 := fun w => below_any a 120 w
    generalize (decide (0 ≤ a) && decide (a < 120)) = q1 at h1 hr
    have h2 := fun w => below_any b 2 w
    generalize (decide (0 ≤ b) && decide (b < 2)) = q2 at h2 hr
    have h3 := fun w => below_any c 3 w
    generalize (decide (0 ≤ c) && decide (c < 3)) = q3 at h3 hr
    cases q1
    · subst hr
      go_wp2_with fail
      refine (h1 _).mono ?_
      rintro en w2 ⟨rfl, rfl⟩
      go_wp2_with fail
      go_ret
      exact ⟨rfl, hb1⟩
    cases q2
    · subst hr
      go_wp2_with fail
      refine (h1 _).mono ?_
      rintro en w2 ⟨rfl, rfl⟩
      go_wp2_with fail
      refine (h2 _).mono ?_
      rintro en w2 ⟨rfl, rfl⟩
      go_wp2_with fail
      go_ret
      exact ⟨rfl, hb1⟩
    subst hr
    go_wp2_with fail
    refine (h1 _).mono ?_
    rintro en w2 ⟨rfl, rfl⟩
    go_wp2_with fail
    refine (h2 _).mono ?_
    rintro en w2 ⟨rfl, rfl⟩
    go_wp2_with fail
    refine (h3 _).mono ?_
    rintro en w2 ⟨rfl, rfl⟩
    go_wp2_with fail
    go_ret
    exact ⟨rfl, hb1⟩
  · have hE : numE ⟨1, a, b, c, d, f⟩ = (decide (0 ≤ a) && (decide (0 ≤ b) && decide (b < 11)) && decide (0 ≤ c) && (decide (0 ≤ d) && decide (d < 11)) && decide (0 ≤ f)) := rfl
    rw [hE] at hr
    clear hE hk
    obtain ⟨q1, hd1⟩ : ∃ q, decide (0 ≤ a) = q := ⟨_, rfl⟩
    rw [hd1] at hr
    have h2 := fun w => below_any b 11 w
    generalize (decide (0 ≤ b) && decide (b < 11)) = q2 at h2 hr
    obtain ⟨q3, hd3⟩ : ∃ q, decide (0 ≤ c) = q := ⟨_, rfl⟩
    rw [hd3] at hr
    have h4 := fun w => below_any d 11 w
    generalize (decide (0 ≤ d) && decide (d < 11)) = q4 at h4 hr
    obtain ⟨q5, hd5⟩ : ∃ q, decide (0 ≤ f) = q := ⟨_, rfl⟩
    rw [hd5] at hr
    cases q1
    · subst hr
      go_wp2_with fail
      go_ret
      exact ⟨rfl, hb1⟩
    cases q2
    · subst hr
      go_wp2_with fail
      refine (h2 _).mono ?_
      rintro en w2 ⟨rfl, rfl⟩
      go_wp2_with fail
      go_ret
      exact ⟨rfl, hb1⟩
    cases q3
    · subst hr
      go_wp2_with fail
      refine (h2 _).mono ?_
      rintro en w2 ⟨rfl, rfl⟩
      go_wp2_with fail
      go_ret
      exact ⟨rfl, hb1⟩
    cases q4
    · subst hr
      go_wp2_with fail
      refine (h2 _).mono ?_
      rintro en w2 ⟨rfl, rfl⟩
      go_wp2_with fail
      refine (h4 _).mono ?_
      rintro en w2 ⟨rfl, rfl⟩
      go_wp2_with fail
      go_ret
      exact ⟨rfl, hb1⟩
    subst hr
    go_wp2_with fail
    refine (h2 _).mono ?_
    rintro en w2 ⟨rfl, rfl⟩
    go_wp2_with fail
    refine (h4 _).mono ?_
    rintro en w2 ⟨rfl, rfl⟩
    go_wp2_with fail
    go_ret
    exact ⟨rfl, hb1⟩
  · have hE : numE ⟨2, a, b, c, d, f⟩ = (decide (0 ≤ a) && (decide (0 ≤ b) && decide (b < 18)) && (b != 3) && (decide (-1073741824 ≤ d) && decide (d ≤ 1073741824))) := rfl
    rw [hE] at hr
    clear hE hk
    obtain ⟨q1, hd1⟩ : ∃ q, decide (0 ≤ a) = q := ⟨_, rfl⟩
    rw [hd1] at hr
    have h2 := fun w => below_any b 18 w
    generalize (decide (0 ≤ b) && decide (b < 18)) = q2 at h2 hr
    obtain ⟨q3, hd3⟩ : ∃ q, (b != 3) = q := ⟨_, rfl⟩
    rw [hd3] at hr
    have h4 := fun w => isNum_any d w
    generalize (decide (-1073741824 ≤ d) && decide (d ≤ 1073741824)) = q4 at h4 hr
    cases q1
    · subst hr
      go_wp2_with fail
      go_ret
      exact ⟨rfl, hb1⟩
    cases q2
    · subst hr
      go_wp2_with fail
      refine (h2 _).mono ?_
      rintro en w2 ⟨rfl, rfl⟩
      go_wp2_with fail
      go_ret
      exact ⟨rfl, hb1⟩
    cases q3
    · subst hr
      go_wp2_with fail
      refine (h2 _).mono ?_
      rintro en w2 ⟨rfl, rfl⟩
      go_wp2_with fail
      go_ret
      exact ⟨rfl, hb1⟩
    subst hr
    go_wp2_with fail
    refine (h2 _).mono ?_
    rintro en w2 ⟨rfl, rfl⟩
    go_wp2_with fail
    refine (h4 _).mono ?_
    rintro en w2 ⟨rfl, rfl⟩
    go_wp2_with fail
    go_ret
    exact ⟨rfl, hb1⟩
  · have hE : numE ⟨3, a, b, c, d, f⟩ = ((decide (0 ≤ a) && decide (a < 2)) && (decide (0 ≤ b) && decide (b < 9)) && (decide (-1073741824 ≤ d) && decide (d ≤ 1073741824))) := rfl
    rw [hE] at hr
    clear hE hk
    have h1 := fun w => below_any a 2 w
    generalize (decide (0 ≤ a) && decide (a < 2)) = q1 at h1 hr
    have h2 := fun w => below_any b 9 w
    generalize (decide (0 ≤ b) && decide (b < 9)) = q2 at h2 hr
    have h3 := fun w => isNum_any d w
    generalize (decide (-1073741824 ≤ d) && decide (d ≤ 1073741824)) = q3 at h3 hr
    cases q1
    · subst hr
      go_wp2_with fail
      refine (h1 _).mono ?_
      rintro en w2 ⟨rfl, rfl⟩
      go_wp2_with fail
      go_ret
      exact ⟨rfl, hb1⟩
    cases q2
    · subst hr
      go_wp2_with fail
      refine (h1 _).mono ?_
      rintro en w2 ⟨rfl, rfl⟩
      go_wp2_with fail
      refine (h2 _).mono ?_
      rintro en w2 ⟨rfl, rfl⟩
      go_wp2_with fail
      go_ret
      exact ⟨rfl, hb1⟩
    subst hr
    go_wp2_with fail
    refine (h1 _).mono ?_
    rintro en w2 ⟨rfl, rfl⟩
    go_wp2_with fail
    refine (h2 _).mono ?_
    rintro en w2 ⟨rfl, rfl⟩
    go_wp2_with fail
    refine (h3 _).mono ?_
    rintro en w2 ⟨rfl, rfl⟩
    go_wp2_with fail
    go_ret
    exact ⟨rfl, hb1⟩
  · have hE : numE ⟨4, a, b, c, d, f⟩ = ((decide (0 ≤ b) && decide (b < 7)) && (decide (-1073741824 ≤ d) && decide (d ≤ 1073741824))) := rfl
    rw [hE] at hr
    clear hE hk
    have h1 := fun w => below_any b 7 w
    generalize (decide (0 ≤ b) && decide (b < 7)) = q1 at h1 hr
    have h2 := fun w => isNum_any d w
    generalize (decide (-1073741824 ≤ d) && decide (d ≤ 1073741824)) = q2 at h2 hr
    cases q1
    · subst hr
      go_wp2_with fail
      refine (h1 _).mono ?_
      rintro en w2 ⟨rfl, rfl⟩
      go_wp2_with fail
      go_ret
      exact ⟨rfl, hb1⟩
    subst hr
    go_wp2_with fail
    refine (h1 _).mono ?_
    rintro en w2 ⟨rfl, rfl⟩
    go_wp2_with fail
    refine (h2 _).mono ?_
    rintro en w2 ⟨rfl, rfl⟩
    go_wp2_with fail
    go_ret
    exact ⟨rfl, hb1⟩
  · have hE : numE ⟨5, a, b, c, d, f⟩ = ((decide (0 ≤ a) && decide (a < 120)) && (decide (0 ≤ b) && decide (b < 2)) && (decide (0 ≤ c) && decide (c < 3))) := rfl
    rw [hE] at hr
    clear hE hk
    have h1 := fun w => below_any a 120 w
    generalize (decide (0 ≤ a) && decide (a < 120)) = q1 at h1 hr
    have h2 := fun w => below_any b 2 w
    generalize (decide (0 ≤ b) && decide (b < 2)) = q2 at h2 hr
    have h3 := fun w => below_any c 3 w
    generalize (decide (0 ≤ c) && decide (c < 3)) = q3 at h3 hr
    cases q1
    · subst hr
      go_wp2_with fail
      refine (h1 _).mono ?_
      rintro en w2 ⟨rfl, rfl⟩
      go_wp2_with fail
      go_ret
      exact ⟨rfl, hb1⟩
    cases q2
    · subst hr
      go_wp2_with fail
      refine (h1 _).mono ?_
      rintro en w2 ⟨rfl, rfl⟩
      go_wp2_with fail
      refine (h2 _).mono ?_
      rintro en w2 ⟨rfl, rfl⟩
      go_wp2_with fail
      go_ret
      exact ⟨rfl, hb1⟩
    subst hr
    go_wp2_with fail
    refine (h1 _).mono ?_
    rintro en w2 ⟨rfl, rfl⟩
    go_wp2_with fail
    refine (h2 _).mono ?_
    rintro en w2 ⟨rfl, rfl⟩
    go_wp2_with fail
    refine (h3 _).mono ?_
    rintro en w2 ⟨rfl, rfl⟩
    go_wp2_with fail
    go_ret
    exact ⟨rfl, hb1⟩
theorem sets_any (e : EvT) (w : World) : Calls Try.prog 20 #[evV e] w fun en w' => en = .returned (.bool (decide (2 ≤ e.k) && decide (e.k ≤ 4))) ∧ Below w.heap.size w w' := by
  obtain ⟨k, a, b, c, d, f⟩ := e
  unfold evV
  simp only
  obtain ⟨r, hr⟩ : ∃ r, r = (decide (2 ≤ k) && decide (k ≤ 4)) := ⟨_, rfl⟩
  rw [← hr]
  go_enter Try.func20, Try.ntmps20
  go_upto_region 1 with fail
  obtain ⟨w1, hw1⟩ : ∃ w1, w1 = w.alloc (.cells #[.int .i64 k, .int .i64 a, .int .i64 b, .int .i64 c, .int .i64 d, .int .i64 f] 31) := ⟨_, rfl⟩
  have hrow : w1.heap[w.heap.size]? = some (.cells #[.int .i64 k, .int .i64 a, .int .i64 b, .int .i64 c, .int .i64 d, .int .i64 f] 31 (0, 0)) := by rw [hw1]; exact heap_alloc_new _ _
  have hb1 : Below w.heap.size w w1 := by rw [hw1]; exact (Below.refl _ _).alloc (Nat.le_refl _) _
  rw [← hw1]
  have c0 := cell_of_row w1 w.heap.size 0 _ _ _ hrow
  have c1 := cell_of_row w1 w.heap.size 1 _ _ _ hrow
  have c2 := cell_of_row w1 w.heap.size 2 _ _ _ hrow
  have c3 := cell_of_row w1 w.heap.size 3 _ _ _ hrow
  have c4 := cell_of_row w1 w.heap.size 4 _ _ _ hrow
  have c5 := cell_of_row w1 w.heap.size 5 _ _ _ hrow
  simp at c0 c1 c2 c3 c4 c5
  clear hw1
  clear hrow
  by_cases k2 : k = 2
  · subst k2
    subst hr
    go_wp2_with fail
    go_ret
    exact ⟨rfl, hb1⟩
  by_cases k3 : k = 3
  · subst k3
    subst hr
    go_wp2_with fail
    go_ret
    exact ⟨rfl, hb1⟩
  have d2 : (k == 2) = false := by simpa using k2
  have d3 : (k == 3) = false := by simpa using k3
  have d4 : (k == 4) = (decide (2 ≤ k) && decide (k ≤ 4)) := by rw [Bool.eq_iff_iff]; simp; omega
  rw [← hr] at d4
  clear hr
  go_wp2_with fail
  go_ret
  exact ⟨rfl, hb1⟩
set_option maxHeartbeats 0 in
theorem check_code (e : EvT) (w : World) : Calls Try.prog 14 #[evV e] w fun en w' => en = .returned (errV (chkE e)) ∧ Below w.heap.size w w' := by
  have hch := chkE_is e
  obtain ⟨r, hr⟩ : ∃ r, r = chkE e := ⟨_, rfl⟩
  rw [← hr] at hch ⊢
  have hf := fun w => formFits_any e w
  have hn := fun w => numbersFit_any e w
  have hbl := fun w => below_any e.k 6 w
  clear hr
  go_enter Try.func14, Try.ntmps14
  go_upto_region 1 with fail
  obtain ⟨w1, hw1⟩ : ∃ w1, w1 = w.alloc (.cells (evC e) 31) := ⟨_, rfl⟩
  have hrow : EvB w1 w.heap.size e := by rw [hw1]; exact heap_alloc_new _ _
  have hb1 : Below w.heap.size w w1 := by rw [hw1]; exact (Below.refl _ _).alloc (Nat.le_refl _) _
  show Code.wp _ _ _ _ (w.alloc (.cells (evC e) 31))
  rw [← hw1]
  have hg1 := hrow.lt
  obtain ⟨g, hg⟩ : ∃ g, g = w.heap.size := ⟨_, rfl⟩
  rw [← hg] at hrow hg1 ⊢
  clear hw1 hg
  have c0 := hrow.cells.1
  have hsE := ev_size e
  obtain ⟨es, hes⟩ : ∃ es, es = evC e := ⟨_, rfl⟩
  rw [show evV e = .agg es by rw [hes]; rfl] at hf hn
  have hrow1 : w1.heap[g]? = some (.cells es 31 (0, 0)) := by rw [hes]; exact hrow
  rw [← hes] at hsE
  have HR := Lib.hid hrow
  clear hes hrow
  by_cases hk : 0 ≤ e.k ∧ e.k < 6
  case neg =>
    have d0 : (decide (0 ≤ e.k) && decide (e.k < 6)) = false := by rw [Bool.eq_false_iff]; simp; omega
    rw [d0] at hbl hch
    rw [if_neg (by simp)] at hch
    subst hch
    clear d0
    go_wp2_with fail
    refine (hbl _).mono ?_
    rintro en w2 ⟨rfl, rfl⟩
    go_wp2_with fail
    go_ret
    exact ⟨rfl, hb1⟩
  have hf := fun w => hf w hk
  have hn := fun w => hn w hk
  have d0 : (decide (0 ≤ e.k) && decide (e.k < 6)) = true := by simp; omega
  rw [d0] at hbl hch
  rw [if_pos rfl] at hch
  clear d0
  generalize frmE e = q1 at hf hch
  generalize numE e = q2 at hn hch
  cases q1
  · rw [if_neg (by simp)] at hch
    subst hch
    go_wp2_with (refine wpList_load_row rfl 31 (.tmp 1) rfl g rfl 31 _ (0, 0) _ hrow1 Try.underlying31 rfl hsE ?_)
    refine (hbl _).mono ?_
    rintro en w2 ⟨rfl, rfl⟩
    go_wp2_with (refine wpList_load_row rfl 31 (.tmp 1) rfl g rfl 31 _ (0, 0) _ hrow1 Try.underlying31 rfl hsE ?_)
    refine (hf _).mono ?_
    rintro en w2 ⟨rfl, hb2⟩
    go_wp2_with fail
    go_ret
    exact ⟨rfl, keepB hb2 hb1⟩
  rw [if_pos rfl] at hch
  go_wp2_with fail
  refine (hbl _).mono ?_
  rintro en w2 ⟨rfl, rfl⟩
  go_wp2_with (refine wpList_load_row rfl 31 (.tmp 1) rfl g rfl 31 _ (0, 0) _ hrow1 Try.underlying31 rfl hsE ?_)
  refine (hf _).mono ?_
  rintro en w2 ⟨rfl, hb2⟩
  have hrow2 := (hb2.block g hg1).trans hrow1
  have hbb := keepB hb2 hb1
  go_wp2_with (refine wpList_load_row rfl 31 (.tmp 1) rfl g rfl 31 _ (0, 0) _ hrow2 Try.underlying31 rfl hsE ?_)
  refine (hn _).mono ?_
  rintro en w3 ⟨rfl, hb3⟩
  have hbc := keepB hb3 hbb
  cases q2
  · rw [if_neg (by simp)] at hch
    subst hch
    go_wp2_with fail
    go_ret
    exact ⟨rfl, hbc⟩
  · rw [if_pos rfl] at hch
    subst hch
    go_wp2_with fail
    go_ret
    exact ⟨rfl, hbc⟩
end Go.Proofs.Ythedopnhhanknaa
namespace Go.Proofs.Ythedopnhhanknaa
open Go.RowKit Ex
set_option maxRecDepth 100000
set_option linter.unusedSimpArgs false in
set_option maxHeartbeats 0 in
theorem inv_code (e : EvT) (w : World) : Calls Try.prog 18 #[evV e] w fun en w' => en = .returned (evV (invE e)) ∧ Below w.heap.size w w' := by
  obtain ⟨r, hr⟩ : ∃ r, r = invE e := ⟨_, rfl⟩
  rw [← hr]
  obtain ⟨k, a, b, c, d, f⟩ := e
  unfold evV
  simp only
  go_enter Try.func18, Try.ntmps18
  go_upto_region 1 with fail
  obtain ⟨w2, hw2⟩ : ∃ w2, w2 = (w.alloc (.cells (evC ⟨k, a, b, c, d, f⟩) 31)).alloc (.cells (evC ev0) 31) := ⟨_, rfl⟩
  have hb1 : Below (w.alloc (.cells (evC ⟨k, a, b, c, d, f⟩) 31)).heap.size (w.alloc (.cells (evC ⟨k, a, b, c, d, f⟩) 31)) w2 := by rw [hw2]; exact (Below.refl _ _).alloc (Nat.le_refl _) _
  have hb0 : Below w.heap.size w (w.alloc (.cells (evC ⟨k, a, b, c, d, f⟩) 31)) := (Below.refl _ _).alloc (Nat.le_refl _) _
  have hE1 : EvB w2 w.heap.size ⟨k, a, b, c, d, f⟩ := EvB.keep (heap_alloc_new _ _) hb1
  have hE2 : EvB w2 (w.heap.size + 1) ev0 := by rw [hw2]; have := heap_alloc_new (w.alloc (.cells (evC ⟨k, a, b, c, d, f⟩) 31)) (.cells (evC ev0) 31); rwa [World.size_alloc] at this
  have hb2 := keepB hb1 hb0
  show Code.wp _ _ _ _ ((w.alloc (.cells (evC ⟨k, a, b, c, d, f⟩) 31)).alloc (.cells (evC ev0) 31))
  rw [← hw2]
  clear hw2 hb1 hb0
  obtain ⟨g1, hg1⟩ : ∃ g, g = w.heap.size := ⟨_, rfl⟩
  obtain ⟨g2, hg2⟩ : ∃ g, g = w.heap.size + 1 := ⟨_, rfl⟩
  rw [← hg1] at hE1
  rw [← hg2] at hE2
  rw [← hg1]
  try rw [show g1 + 1 = g2 by omega]
  have hwg1 : w.heap.size ≤ g1 := by omega
  have hwg2 : w.heap.size ≤ g2 := by omega
  have hne : g2 ≠ g1 := by omega
  clear hg1 hg2
  obtain ⟨c0, c1, c2, c3, c4, c5⟩ := hE1.cells
  simp only at c0 c1 c2 c3 c4 c5
  have f0 := frozen_of_row w2 g1 0 _ _ hE1
  by_cases hk : k = 0
  · subst hk
    have HI := Lib.hid (show r = ⟨5, a, b, c, d, f⟩ from hr)
    clear hr
    go_upto_region 12 with fail
    have hS := hE1.set_ 0 (.int .i64 5) (e' := ⟨5, a, b, c, d, f⟩) rfl
    have hZ := hE2.far hne 0 (.int .i64 5)
    have hbS := hb2.setCell (p := ⟨g1, 0, none⟩) hwg1 (.int .i64 5)
    clear c0 c1 c2 c3 c4 c5 f0
    unfold EvB at hS hZ
    have hsz3 := ev_size (⟨5, a, b, c, d, f⟩)
    have hone3 := evC_one (⟨5, a, b, c, d, f⟩)
    have hs36 : (evC ev0).size = (evC (⟨5, a, b, c, d, f⟩)).size := rfl
    obtain ⟨es, hes⟩ : ∃ es, es = evC (⟨5, a, b, c, d, f⟩) := ⟨_, rfl⟩
    have HEs := Lib.hid hes
    rw [← hes] at hS hsz3 hone3 hs36
    clear hes
    go_wp2_with (first
      | (refine wpList_load_row rfl 31 (.tmp 1) rfl g1 rfl 31 _ (0, 0) _ hS Try.underlying31 rfl hsz3 ?_)
      | (refine wpList_store_row rfl 31 (.tmp 2) (.tmp 35) rfl g2 _ rfl rfl 31 (evC ev0) hZ hsz3 hs36 hone3 ?_))
    refine bodyPost_ret (v := .agg es) ?_ rfl ⟨by rw [HI.out, HEs.out]; rfl, below_setRow hbS _ _ hwg2⟩
    exact results_cellE (ty := 31) (p := 2) (by kernel_rfl) _ _ g2 31 _ (0, 0) _ rfl (setRow_heap _ _ _ _ _ _ hZ) Try.underlying31 rfl hsz3
  by_cases hk5 : k = 5
  · subst hk5
    have HI := Lib.hid (show r = ⟨0, a, b, c, d, f⟩ from hr)
    clear hr
    go_upto_region 12 with fail
    have hS := hE1.set_ 0 (.int .i64 0) (e' := ⟨0, a, b, c, d, f⟩) rfl
    have hZ := hE2.far hne 0 (.int .i64 0)
    have hbS := hb2.setCell (p := ⟨g1, 0, none⟩) hwg1 (.int .i64 0)
    clear c0 c1 c2 c3 c4 c5 f0
    unfold EvB at hS hZ
    have hsz3 := ev_size (⟨0, a, b, c, d, f⟩)
    have hone3 := evC_one (⟨0, a, b, c, d, f⟩)
    have hs36 : (evC ev0).size = (evC (⟨0, a, b, c, d, f⟩)).size := rfl
    obtain ⟨es, hes⟩ : ∃ es, es = evC (⟨0, a, b, c, d, f⟩) := ⟨_, rfl⟩
    have HEs := Lib.hid hes
    rw [← hes] at hS hsz3 hone3 hs36
    clear hes
    go_wp2_with (first
      | (refine wpList_load_row rfl 31 (.tmp 1) rfl g1 rfl 31 _ (0, 0) _ hS Try.underlying31 rfl hsz3 ?_)
      | (refine wpList_store_row rfl 31 (.tmp 2) (.tmp 35) rfl g2 _ rfl rfl 31 (evC ev0) hZ hsz3 hs36 hone3 ?_))
    refine bodyPost_ret (v := .agg es) ?_ rfl ⟨by rw [HI.out, HEs.out]; rfl, below_setRow hbS _ _ hwg2⟩
    exact results_cellE (ty := 31) (p := 2) (by kernel_rfl) _ _ g2 31 _ (0, 0) _ rfl (setRow_heap _ _ _ _ _ _ hZ) Try.underlying31 rfl hsz3
  by_cases hk1 : k = 1
  · subst hk1
    have HI := Lib.hid (show r = ⟨1, a, d, f, b, c⟩ from hr)
    clear hr
    have hA := hE1.set_ 2 (.int .i64 d) (e' := ⟨1, a, d, c, d, f⟩) rfl
    have hB := hA.set_ 3 (.int .i64 f) (e' := ⟨1, a, d, f, d, f⟩) rfl
    have hC := hB.set_ 4 (.int .i64 b) (e' := ⟨1, a, d, f, b, f⟩) rfl
    have f2 := frozen_of_row _ g1 2 _ _ hE1
    have f3 := frozen_of_row _ g1 3 _ _ hA
    have f4 := frozen_of_row _ g1 4 _ _ hB
    have f5 := frozen_of_row _ g1 5 _ _ hC
    have x3 := hA.cells.2.2.2.1
    have x4 := hB.cells.2.2.2.2.1
    have x5 := hC.cells.2.2.2.2.2
    simp only at x3 x4 x5
    go_upto_region 12 with fail
    have hS := hC.set_ 5 (.int .i64 c) (e' := ⟨1, a, d, f, b, c⟩) rfl
    have hZ := (((hE2.far hne 2 (.int .i64 d)).far hne 3 (.int .i64 f)).far hne 4 (.int .i64 b)).far hne 5 (.int .i64 c)
    have hbS := (((hb2.setCell (p := ⟨g1, 2, none⟩) hwg1 (.int .i64 d)).setCell (p := ⟨g1, 3, none⟩) hwg1 (.int .i64 f)).setCell (p := ⟨g1, 4, none⟩) hwg1 (.int .i64 b)).setCell (p := ⟨g1, 5, none⟩) hwg1 (.int .i64 c)
    clear c0 c1 c2 c3 c4 c5 f0 f2 f3 f4 f5 x3 x4 x5 hA hB hC
    unfold EvB at hS hZ
    have hsz3 := ev_size (⟨1, a, d, f, b, c⟩)
    have hone3 := evC_one (⟨1, a, d, f, b, c⟩)
    have hs36 : (evC ev0).size = (evC (⟨1, a, d, f, b, c⟩)).size := rfl
    obtain ⟨es, hes⟩ : ∃ es, es = evC (⟨1, a, d, f, b, c⟩) := ⟨_, rfl⟩
    have HEs := Lib.hid hes
    rw [← hes] at hS hsz3 hone3 hs36
    clear hes
    go_wp2_with (first
      | (refine wpList_load_row rfl 31 (.tmp 1) rfl g1 rfl 31 _ (0, 0) _ hS Try.underlying31 rfl hsz3 ?_)
      | (refine wpList_store_row rfl 31 (.tmp 2) (.tmp 35) rfl g2 _ rfl rfl 31 (evC ev0) hZ hsz3 hs36 hone3 ?_))
    refine bodyPost_ret (v := .agg es) ?_ rfl ⟨by rw [HI.out, HEs.out]; rfl, below_setRow hbS _ _ hwg2⟩
    exact results_cellE (ty := 31) (p := 2) (by kernel_rfl) _ _ g2 31 _ (0, 0) _ rfl (setRow_heap _ _ _ _ _ _ hZ) Try.underlying31 rfl hsz3
  by_cases hs : k = 2 ∨ k = 3 ∨ k = 4
  · have HI := Lib.hid (show r = ⟨k, a, b, d, c, f⟩ from hr.trans (by unfold invE; simp [hk, hk5, hk1, hs]))
    clear hr
    have hA := hE1.set_ 3 (.int .i64 d) (e' := ⟨k, a, b, d, d, f⟩) rfl
    have f3 := frozen_of_row _ g1 3 _ _ hE1
    have f4 := frozen_of_row _ g1 4 _ _ hA
    have x4 := hA.cells.2.2.2.2.1
    simp only at x4
    have hS := hA.set_ 4 (.int .i64 c) (e' := ⟨k, a, b, d, c, f⟩) rfl
    have hZ := (hE2.far hne 3 (.int .i64 d)).far hne 4 (.int .i64 c)
    have hbS := (hb2.setCell (p := ⟨g1, 3, none⟩) hwg1 (.int .i64 d)).setCell (p := ⟨g1, 4, none⟩) hwg1 (.int .i64 c)
    rcases hs with rfl | rfl | rfl
    · go_upto_region 12 with fail
      clear c0 c1 c2 c3 c4 c5 f0 f3 f4 x4 hA
      unfold EvB at hS hZ
      have hsz3 := ev_size (⟨2, a, b, d, c, f⟩)
      have hone3 := evC_one (⟨2, a, b, d, c, f⟩)
      have hs36 : (evC ev0).size = (evC (⟨2, a, b, d, c, f⟩)).size := rfl
      obtain ⟨es, hes⟩ : ∃ es, es = evC (⟨2, a, b, d, c, f⟩) := ⟨_, rfl⟩
      have HEs := Lib.hid hes
      rw [← hes] at hS hsz3 hone3 hs36
      clear hes
      go_wp2_with (first
        | (refine wpList_load_row rfl 31 (.tmp 1) rfl g1 rfl 31 _ (0, 0) _ hS Try.underlying31 rfl hsz3 ?_)
        | (refine wpList_store_row rfl 31 (.tmp 2) (.tmp 35) rfl g2 _ rfl rfl 31 (evC ev0) hZ hsz3 hs36 hone3 ?_))
      refine bodyPost_ret (v := .agg es) ?_ rfl ⟨by rw [HI.out, HEs.out]; rfl, below_setRow hbS _ _ hwg2⟩
      exact results_cellE (ty := 31) (p := 2) (by kernel_rfl) _ _ g2 31 _ (0, 0) _ rfl (setRow_heap _ _ _ _ _ _ hZ) Try.underlying31 rfl hsz3
    · go_upto_region 12 with fail
      clear c0 c1 c2 c3 c4 c5 f0 f3 f4 x4 hA
      unfold EvB at hS hZ
      have hsz3 := ev_size (⟨3, a, b, d, c, f⟩)
      have hone3 := evC_one (⟨3, a, b, d, c, f⟩)
      have hs36 : (evC ev0).size = (evC (⟨3, a, b, d, c, f⟩)).size := rfl
      obtain ⟨es, hes⟩ : ∃ es, es = evC (⟨3, a, b, d, c, f⟩) := ⟨_, rfl⟩
      have HEs := Lib.hid hes
      rw [← hes] at hS hsz3 hone3 hs36
      clear hes
      go_wp2_with (first
        | (refine wpList_load_row rfl 31 (.tmp 1) rfl g1 rfl 31 _ (0, 0) _ hS Try.underlying31 rfl hsz3 ?_)
        | (refine wpList_store_row rfl 31 (.tmp 2) (.tmp 35) rfl g2 _ rfl rfl 31 (evC ev0) hZ hsz3 hs36 hone3 ?_))
      refine bodyPost_ret (v := .agg es) ?_ rfl ⟨by rw [HI.out, HEs.out]; rfl, below_setRow hbS _ _ hwg2⟩
      exact results_cellE (ty := 31) (p := 2) (by kernel_rfl) _ _ g2 31 _ (0, 0) _ rfl (setRow_heap _ _ _ _ _ _ hZ) Try.underlying31 rfl hsz3
    · go_upto_region 12 with fail
      clear c0 c1 c2 c3 c4 c5 f0 f3 f4 x4 hA
      unfold EvB at hS hZ
      have hsz3 := ev_size (⟨4, a, b, d, c, f⟩)
      have hone3 := evC_one (⟨4, a, b, d, c, f⟩)
      have hs36 : (evC ev0).size = (evC (⟨4, a, b, d, c, f⟩)).size := rfl
      obtain ⟨es, hes⟩ : ∃ es, es = evC (⟨4, a, b, d, c, f⟩) := ⟨_, rfl⟩
      have HEs := Lib.hid hes
      rw [← hes] at hS hsz3 hone3 hs36
      clear hes
      go_wp2_with (first
        | (refine wpList_load_row rfl 31 (.tmp 1) rfl g1 rfl 31 _ (0, 0) _ hS Try.underlying31 rfl hsz3 ?_)
        | (refine wpList_store_row rfl 31 (.tmp 2) (.tmp 35) rfl g2 _ rfl rfl 31 (evC ev0) hZ hsz3 hs36 hone3 ?_))
      refine bodyPost_ret (v := .agg es) ?_ rfl ⟨by rw [HI.out, HEs.out]; rfl, below_setRow hbS _ _ hwg2⟩
      exact results_cellE (ty := 31) (p := 2) (by kernel_rfl) _ _ g2 31 _ (0, 0) _ rfl (setRow_heap _ _ _ _ _ _ hZ) Try.underlying31 rfl hsz3
  have HI := Lib.hid (show r = ⟨k, a, b, c, d, f⟩ from hr.trans (by unfold invE; simp [hk, hk5, hk1, hs]))
  have d0 : (k == 0) = false := by simpa using hk
  have d5 : (k == 5) = false := by simpa using hk5
  have d1 : (k == 1) = false := by simpa using hk1
  have d2 : (k == 2) = false := by simp; omega
  have d3 : (k == 3) = false := by simp; omega
  have d4 : (k == 4) = false := by simp; omega
  have hS := hE1
  have hZ := hE2
  have hbS := hb2
  clear hr
  go_upto_region 12 with fail
  clear c0 c1 c2 c3 c4 c5 f0 hk hk5 hk1 hs d0 d1 d2 d3 d4 d5
  unfold EvB at hS hZ
  have hsz3 := ev_size (⟨k, a, b, c, d, f⟩)
  have hone3 := evC_one (⟨k, a, b, c, d, f⟩)
  have hs36 : (evC ev0).size = (evC (⟨k, a, b, c, d, f⟩)).size := rfl
  obtain ⟨es, hes⟩ : ∃ es, es = evC (⟨k, a, b, c, d, f⟩) := ⟨_, rfl⟩
  have HEs := Lib.hid hes
  rw [← hes] at hS hsz3 hone3 hs36
  clear hes
  go_wp2_with (first
    | (refine wpList_load_row rfl 31 (.tmp 1) rfl g1 rfl 31 _ (0, 0) _ hS Try.underlying31 rfl hsz3 ?_)
    | (refine wpList_store_row rfl 31 (.tmp 2) (.tmp 35) rfl g2 _ rfl rfl 31 (evC ev0) hZ hsz3 hs36 hone3 ?_))
  refine bodyPost_ret (v := .agg es) ?_ rfl ⟨by rw [HI.out, HEs.out]; rfl, below_setRow hbS _ _ hwg2⟩
  exact results_cellE (ty := 31) (p := 2) (by kernel_rfl) _ _ g2 31 _ (0, 0) _ rfl (setRow_heap _ _ _ _ _ _ hZ) Try.underlying31 rfl hsz3
end Go.Proofs.Ythedopnhhanknaa
namespace Go.Proofs.Ythedopnhhanknaa
open Go.RowKit Ex
set_option maxRecDepth 100000
/-- A list as it comes in. -/
structure LsIn (w : World) (A : Option Addr) (n c : Nat) (l : List Int) : Prop where
  N : Nums .i64 w w.heap.size A n l
  cap : n ≤ c
  few : n ≤ 1000
  wf : ∀ x ∈ l, -9223372036854775808 ≤ x ∧ x ≤ 9223372036854775807
abbrev I64 (x : Int) : Prop := -9223372036854775808 ≤ x ∧ x ≤ 9223372036854775807
theorem LsIn.grow {w w' : World} {A : Option Addr} {n c : Nat} {l : List Int} (h : LsIn w A n c l) (hb : Below w.heap.size w w') : LsIn w' A n c l := ⟨(h.N.below hb).more hb.size, h.cap, h.few, h.wf⟩
/-- An answer: a list, if there is one; else none, and the error k. -/
def LstR (ok : Prop) (l : List Int) (k : Int) (w : World) (e : Ending) (w' : World) : Prop := Below w.heap.size w w' ∧
  ((ok ∧ ∃ A n c, e = .returned (.tuple #[.slice A n c, .nilIface]) ∧ Mine w' w.heap.size A n c l) ∨ (¬ ok ∧ ∃ A c, e = .returned (.tuple #[.slice A 0 c, errV k])))
def Within (n : Nat) (x : Int) : Prop := 0 ≤ x ∧ x < n
/-- What Remove answers: the list without a place, and what stood there. -/
def RemR (n : Nat) (p : Int) (l : List Int) (w : World) (e : Ending) (w' : World) : Prop := Below w.heap.size w w' ∧
  ((Within n p ∧ ∃ A' n' c', e = .returned (.tuple #[.slice A' n' c', .int .i64 (l.getD p.toNat 0), .nilIface]) ∧ Mine w' w.heap.size A' n' c' (rmL l p.toNat)) ∨ (¬ Within n p ∧ ∃ A' c', e = .returned (.tuple #[.slice A' 0 c', .int .i64 0, errV 1])))
end Go.Proofs.Ythedopnhhanknaa
namespace Go.Proofs.Ythedopnhhanknaa
open Go.RowKit Ex
set_option maxRecDepth 100000
instance (n : Nat) (p : Int) : Decidable (Within n p) := inferInstanceAs (Decidable (_ ∧ _))
theorem has_any (A : Option Addr) (n c : Nat) (p : Int) (w : World) : Calls Try.prog 57 #[.slice A n c, .int .i64 p] w fun e w' => e = .returned (.bool (decide (Within n p))) ∧ w' = w := by
  obtain ⟨q, hq⟩ : ∃ q, q = decide (Within n p) := ⟨_, rfl⟩
  rw [← hq]
  by_cases h0 : 0 ≤ p
  · have d0 : decide (0 ≤ p) = true := decide_eq_true h0
    have d1 : decide (p < (n : Int)) = q := by rw [hq]; unfold Within; simp [h0]
    clear hq h0
    go_enter Try.func57, Try.ntmps57
    go_wp2_with fail
    go_ret
    exact ⟨rfl, rfl⟩
  · have d0 : decide (0 ≤ p) = false := decide_eq_false h0
    obtain rfl : q = false := by rw [hq]; exact decide_eq_false (fun h => h0 h.1)
    clear hq h0
    go_enter Try.func57, Try.ntmps57
    go_wp2_with fail
    go_ret
    exact ⟨rfl, rfl⟩
/-- A block of bools reads as l. -/
def Bools (w : World) (g : Nat) (l : List Bool) : Prop := w.heap[g]? = some (.cells (l.map Value.bool).toArray 4 (0, 0))
theorem Bools.at_ {w : World} {g : Nat} {l : List Bool} (h : Bools w g l) {i : Nat} (hi : i < l.length) : w.cell? ⟨g, i, none⟩ = some (.bool l[i]) := by
  rw [cell_of_row w g i _ _ _ h]; simp [hi]
theorem Bools.set_ {w : World} {g : Nat} {l : List Bool} (h : Bools w g l) (i : Nat) (b : Bool) : Bools (w.setCell ⟨g, i, none⟩ (.bool b)) g (l.set i b) := by
  unfold Bools
  rw [heap_setCell_same w g i _ _ _ h]
  simp [List.map_set]
theorem Bools.keep {w w' : World} {g : Nat} {l : List Bool} (h : Bools w g l) (hb : Below w.heap.size w w') : Bools w' g l := (hb.block g (Array.getElem?_eq_some_iff.1 h).1).trans h
end Go.Proofs.Ythedopnhhanknaa
namespace Go.Proofs.Ythedopnhhanknaa
open Go.RowKit Ex
set_option maxRecDepth 100000
set_option maxHeartbeats 4000000 in
theorem grow_nil (n : Nat) (w : World) (hn : n ≤ 1000000) : Calls Try.prog 55 #[.slice none 0 0, .int .i64 (n : Int)] w fun e w' => ∃ A c, e = .returned (.slice A 0 c) ∧ OB w A 0 c [] w' := by
  obtain ⟨i0, hi, hz0, hz1, hz2⟩ := info_parts info_int
  have h1 : decide ((n : Int) < 0) = false := by simp
  by_cases h0 : n = 0
  · subst h0
    go_enter Try.func55, Try.ntmps55
    go_wp2_with fail
    go_ret
    exact ⟨_, _, rfl, Own.nil _, Below.refl _ _⟩
  · have h2 : decide (0 < (n : Int)) = true := by simp; omega
    have hrz : ∀ ty, (Builtin.append_ #[23, 3] ty #[.slice none 0 0, .int .i64 (n : Int)]).run Try.prog w =
        .ok (.slice (some ⟨w.heap.size, 0, none⟩) n (grownCap w n 0 3)) (w.drew.alloc (.cells (#[] ++ Builtin.zeroCells (Value.int .i64 0).cells n ++ Builtin.zeroCells (Value.int .i64 0).cells (grownCap w n 0 3 - n)) 3)) := fun ty => by
      have h := Lib.run_append_grow_zeros w 23 3 ty 3 i0 (.int .i64 0) .i64 .i64 Try.underlying23 Try.underlying3 hi hz0 none 0 0 [] (run_firstCells_none w.drew i0.size 0 0 0) n (by omega) (by omega) (by omega) (by omega) (by rw [hz2]; omega)
        (by rw [Nat.zero_add]; exact growslice_fits (by omega) (by rw [hz2]; omega))
      rw [Nat.zero_add] at h
      exact h
    have hGn : n ≤ grownCap w n 0 3 := grownCap_ge w _ _ _
    have hGm : grownCap w n 0 3 ≤ maxLen := grownCap_le_maxLen w n 0 3 (by unfold maxLen; omega)
    obtain ⟨G, hG⟩ : ∃ G, G = grownCap w n 0 3 := ⟨_, rfl⟩
    rw [← hG] at hrz hGn hGm
    clear hG
    obtain ⟨cs, hcs⟩ : ∃ cs, cs = (#[] ++ Builtin.zeroCells (Value.int .i64 0).cells n ++ Builtin.zeroCells (Value.int .i64 0).cells (G - n)) := ⟨_, rfl⟩
    rw [← hcs] at hrz
    have hsz : cs.size = G * 1 := by rw [hcs]; simp [Builtin.zeroCells, Value.cells]; omega
    have hfin : OB w (some ⟨w.heap.size, 0, none⟩) 0 G [] (w.drew.alloc (.cells cs 3)) :=
      ⟨⟨rfl, World.ownsRow_made w.drew cs G (Nat.le_refl _) hGm hsz⟩, ((Below.refl _ _).drew).alloc (Nat.le_refl _) _⟩
    clear hcs hsz
    go_enter Try.func55, Try.ntmps55
    go_wp2_with (at_builtin; refine Lib.wpList_append_run _ rfl _ _ _ _ rfl _ _ rfl rfl _ _ (hrz _) ?_)
    go_ret
    exact ⟨_, _, rfl, hfin⟩
/-- A part of what is laid together: a slice, and the list that it reads as. -/
structure Part where
  A : Option Addr
  n : Nat
  c : Nat
  l : List Int
def catP (ps : List Part) : List Int := ps.flatMap Part.l
theorem catP_step {ps : List Part} {k : Nat} {p : Part} (h : ps[k]? = some p) : catP (ps.take (k + 1)) = catP (ps.take k) ++ p.l := by
  unfold catP
  rw [List.take_add_one, h, List.flatMap_append]
  simp
theorem catP_le (ps : List Part) (k : Nat) : (catP (ps.take k)).length ≤ (catP ps).length := by
  have h : catP ps = catP (ps.take k) ++ catP (ps.drop k) := by unfold catP; rw [← List.flatMap_append, List.take_append_drop]
  rw [h, List.length_append]; omega
/-- The row of slices at block g. -/
def Parts (w : World) (g : Nat) (ps : List Part) : Prop := g < w.heap.size ∧ ∀ i p, ps[i]? = some p → w.cell? ⟨g, i, none⟩ = some (.slice p.A p.n p.c) ∧ Nums .i64 w w.heap.size p.A p.n p.l
theorem Parts.keep {w w' : World} {g : Nat} {ps : List Part} (h : Parts w g ps) (hb : Below w.heap.size w w') : Parts w' g ps :=
  ⟨Nat.lt_of_lt_of_le h.1 hb.size, fun i p hi => ⟨(hb.cell h.1).trans (h.2 i p hi).1, ((h.2 i p hi).2.below hb).more hb.size⟩⟩
set_option maxHeartbeats 1000000 in
theorem concat_any (g m c : Nat) (ps : List Part) (w : World) (hP : Parts w g ps) (hm : ps.length = m) (hm8 : m ≤ 1000) (hlen : (catP ps).length ≤ 1000000) :
    Calls Try.prog 43 #[.slice (some ⟨g, 0, none⟩) m c] w (OwnQ (catP ps) w) := by
  have HP := Lib.hid hP
  clear hP
  go_enter Try.func43, Try.ntmps43
  go_upto_region 3 with fail
  go_loopw [3, 11] (fun s i wr => ∃ k : Nat, i = .int .i64 ((k : Nat) : Int) ∧ s = .int .i64 (((catP (ps.take k)).length : Nat) : Int) ∧ k ≤ m ∧ wr = w) (fun _ i _ => m - (intOf i).toNat)
  case atStart => exact ⟨0, rfl, by simp [catP], by omega, rfl⟩
  case round =>
    obtain ⟨k, rfl, rfl, hk, hwr⟩ := hrel
    subst wr
    by_cases hlt : k < m
    · have hd : decide ((k : Int) < (m : Int)) = true := by simp; omega
      obtain ⟨p, hp⟩ : ∃ p, ps[k]? = some p := ⟨_, List.getElem?_eq_getElem (by omega)⟩
      obtain ⟨hc, hN⟩ := HP.out.2 k p hp
      have hst := congrArg List.length (catP_step hp)
      rw [List.length_append, hN.len] at hst
      have hle := catP_le ps (k + 1)
      have hle2 : (catP (ps.take (k + 1))).length ≤ 1000000 := by omega
      obtain ⟨s, hs⟩ : ∃ s, s = (catP (ps.take k)).length := ⟨_, rfl⟩
      obtain ⟨s2, hs2⟩ : ∃ s2, s2 = (catP (ps.take (k + 1))).length := ⟨_, rfl⟩
      obtain ⟨A1, n1, c1, l1⟩ := p
      simp only at hc hst hN
      rw [← hs, ← hs2] at hst
      rw [← hs2] at hle2
      rw [← hs]
      have HS := Lib.hid hs2
      have HT := Lib.hid (show (s : Int) + (n1 : Int) = (s2 : Int) by omega)
      have g0 : (0 : Int) ≤ (k : Int) := by omega
      have g1 : (k : Int) < (m : Int) := by omega
      have e1 : IntKind.i64.wrap ((s : Int) + (n1 : Int)) = (s2 : Int) := by rw [HT.out]; exact i64_in (by omega) (by omega)
      have d1 : decide ((s2 : Int) < 0) = false := by simp
      clear hs hs2 hst hp hN hle
      go_wp2_with fail
      go_roundw
      case rel => exact ⟨k + 1, by go_num, by rw [← HS.out], by omega, by trivial⟩
      case measure => simp [intOf]; omega
    · obtain rfl : k = m := by omega
      have hd : decide ((k : Int) < (k : Int)) = false := by simp
      have hfull : catP (ps.take k) = catP ps := by rw [← hm, List.take_length]
      rw [hfull]
      obtain ⟨s, hs⟩ : ∃ s, s = (catP ps).length := ⟨_, rfl⟩
      rw [← hs] at hlen
      rw [← hs]
      have HS := Lib.hid hs
      clear hs hfull
      have hgn := grow_nil s w hlen
      go_wp2_with fail
      refine hgn.mono ?_
      rintro e w1 ⟨A1, c1, rfl, hO1⟩
      clear hgn
      go_upto_region 11 with fail
      clear hd
      go_loopw [6, 27] (fun o i wx => ∃ (j m2 cc : Nat) (A' : Option Addr), i = .int .i64 ((j : Nat) : Int) ∧ o = .slice A' m2 cc ∧ j ≤ k ∧ OB w A' m2 cc (catP (ps.take j)) wx) (fun _ i _ => k - (intOf i).toNat)
      case atStart => exact ⟨0, 0, _, _, rfl, rfl, by omega, by simpa [catP] using hO1⟩
      case round =>
        obtain ⟨j, m2, cc, A4, rfl, rfl, hj, hO⟩ := hrel
        have HO := Lib.hid hO
        have hO1 := 0
        by_cases hlt2 : j < k
        · have hd : decide ((j : Int) < (k : Int)) = true := by simp; omega
          obtain ⟨p, hp⟩ : ∃ p, ps[j]? = some p := ⟨_, List.getElem?_eq_getElem (by omega)⟩
          have hst := catP_step hp
          have hle := catP_le ps (j + 1)
          obtain ⟨A2, n2, c2, l2⟩ := p
          obtain ⟨hc0, hN0⟩ := HP.out.2 j _ hp
          have hc := (hO.b.cell (show g < w.heap.size from HP.out.1)).trans hc0
          have hN := hN0.below hO.b
          simp only at hc hst hN
          have hlo := hO.own.len
          have hln := hN.len
          have hsum : m2 + n2 ≤ 1000000 := by rw [hst, List.length_append] at hle; have := HS.out; omega
          have HST := Lib.hid hst
          have g0 : (0 : Int) ≤ (j : Int) := by omega
          have g1 : (j : Int) < (k : Int) := by omega
          obtain ⟨i0, hi, hz0, hz1, hz2⟩ := info_parts info_int
          clear hst hp hN0 hc0 hle
          have hbs := hO.b.size
          go_wp2_with (at_builtin; refine wpList_app rfl _ _ _ rfl .i64 w.heap.size 3 i0 _ 8 Try.underlying23 hi hz0 hz1 hz2 rfl A4 m2 cc _ rfl hO.own _ A2 n2 c2 l2 rfl hN (by omega) (by omega) hbs ?_; intro A5 c5 w5 ho5 hg5)
          have hO5 : OB w A5 (m2 + n2) c5 (catP (ps.take (j + 1))) w5 := by rw [HST.out]; exact ⟨ho5, HO.out.own.belowGrown HO.out.b hbs hg5⟩
          go_roundw
          case rel => exact ⟨j + 1, _, _, _, by go_num, rfl, by omega, hO5⟩
          case measure => simp [intOf]; omega
        · obtain rfl : j = k := by omega
          have hd : decide ((j : Int) < (j : Int)) = false := by simp
          have HE := Lib.hid (show catP (ps.take j) = catP ps by rw [← hm, List.take_length])
          go_wp2_with fail
          go_ret
          rw [← HE.out]
          exact ⟨_, _, _, rfl, HO.out.own, HO.out.b⟩
end Go.Proofs.Ythedopnhhanknaa
namespace Go.Proofs.Ythedopnhhanknaa
open Go.RowKit Ex
set_option maxRecDepth 100000
/-- Objects in a block of the call's own. -/
structure OwnO (W : World) (base : Nat) (A : Option Addr) (n c : Nat) (l : List (Nat → Int)) : Prop where
  len : n = l.length
  o : W.ownsRow base 61 18 (.slice A n c) n (flatO l)
theorem OwnO.slO {W : World} {base : Nat} {A : Option Addr} {n c : Nat} {l : List (Nat → Int)} (h : OwnO W base A n c l) : SlO W base ⟨A, n, c⟩ l := by
  obtain ⟨A', c', e, hs⟩ := slO_of_own h.o h.len
  injection e with e1 _ e3
  subst e1 e3
  exact hs
theorem OwnO.below {W W' : World} {base : Nat} {A : Option Addr} {n c : Nat} {l : List (Nat → Int)} (h : OwnO W base A n c l) (hb : Below W.heap.size W W') : OwnO W' base A n c l :=
  ⟨h.len, owns_keep h.o fun j hj => hb.block j (h.o.lt j hj).2⟩
theorem OwnO.low {W : World} {base b : Nat} {A : Option Addr} {n c : Nat} {l : List (Nat → Int)} (h : OwnO W base A n c l) (hb : b ≤ base) : OwnO W b A n c l := by
  refine ⟨h.len, h.o.1, ?_⟩
  rcases h.o.2 with hv | ⟨g, cap, cur, hv, hbs, rest⟩
  · exact .inl hv
  · exact .inr ⟨g, cap, cur, hv, Nat.le_trans hb hbs, rest⟩
theorem OwnO.grown {w W W' : World} {base : Nat} {A : Option Addr} {n c : Nat} {l : List (Nat → Int)} (h : OwnO W base A n c l) (hb : Below base w W) (hbs : base ≤ W.heap.size) (hg : W.grownBy W' (Value.slice A n c).ownBlock) : Below base w W' :=
  hb.grown hg hbs (fun j hj => (h.o.lt j hj).1)
/-- append of any objects to objects of the call's own. -/
theorem wpList_appOG {ops : Array Oper} {rest : List Oper} {o : Oper} {a : Act} {w : World} {Q : Exit → Act → World → Prop} (hgd : o.guard = none) (s x : Operand)
    (ho : o.op = .call { callee := .builtin .append, args := #[s, x], argTypes := #[22, 22] })
    (base : Nat) (A : Option Addr) (n c : Nat) (l : List (Nat → Int)) (hs : a.eval s = .slice A n c) (h : OwnO w base A n c l)
    (B : Nat) (A2 : Option Addr) (m c2 : Nat) (l2 : List (Nat → Int)) (hx : a.eval x = .slice A2 m c2) (hr : RdO B w A2 l2) (hl : m = l2.length) (hn : n + m ≤ 1000000) (hbase : base ≤ w.heap.size)
    (hK : ∀ A' c' w', OwnO w' base A' (n + m) c' (l ++ l2) → w.grownBy w' (Value.slice A n c).ownBlock → wpList Try.prog ops Q rest (a.put o.dst (.slice A' (n + m) c')) w') :
    wpList Try.prog ops Q (o :: rest) a w := by
  obtain ⟨i0, hi, hz0, hz1, hz2⟩ := info_parts info_obj
  rcases A2 with _ | ad
  · have hl0 : l2 = [] := by
      cases l2 with
      | nil => rfl
      | cons y r => obtain ⟨b, off, e, _⟩ := hr 0 y rfl; cases e
    subst hl0
    obtain rfl : m = 0 := hl
    have hrun : (Builtin.append_ #[22, 22] o.type #[.slice A n c, .slice none 0 c2]).run Try.prog w = .ok (.slice A n c) w := by
      rcases h.o.2 with ⟨hv, hn0⟩ | ⟨g, cap, cur, hv, _, _, hnc, _⟩
      · rw [hv]
        simp [Builtin.append_, run_underlying Try.underlying22, sizeOf, typeInfo, hi, Builtin.lenOf, Builtin.firstCells]
      · rw [hv]
        simp [Builtin.append_, run_underlying Try.underlying22, sizeOf, typeInfo, hi, Builtin.lenOf, Builtin.firstCells, hnc, storeCells]
    refine wpList_plain hgd fun K hK' => ?_
    unfold Oper.wp execOp
    simp only [ho, resolve, invoke, builtin, Sem.run_bind, Sem.run_pure, Result.andThen_ok, List.map_toArray, List.map_cons, List.map_nil, hs, hx, hrun]
    exact hK' _ _ (hK A c w (by rw [List.append_nil]; exact h) (World.grownBy.refl w _))
  · refine wpList_append_own_at w hgd s x 22 ho base 61 i0 _ 18 144 Try.underlying22 hi hz0 hz1 hz2 (show (arr .i64 18 fun _ => 0).size = 18 by rw [arr_size]) (by omega) _ n (flatO l) hs h.o ad m c2 (flatO l2) hx (by rw [flatO_len, hl])
      (fun j u hj => ?_) (flatO_one l2) (by unfold maxLen; omega) (by omega) hbase ?_
    · obtain ⟨o, h1, h2⟩ := flatO_of hj
      obtain ⟨b, off, ea, _, hra⟩ := hr _ _ h1
      injection ea with ea
      subst ea
      rw [Addr.add_mid, show off + j = off + j / 18 * 18 + j % 18 by omega]
      exact hra _ _ h2
    · intro v' w' hown hgr _ _
      rw [← show flatO (l ++ l2) = flatO l ++ flatO l2 by simp [flatO]] at hown
      have hform : ∃ A' c', v' = .slice A' (n + m) c' := by
        rcases hown.2 with ⟨rfl, hz⟩ | ⟨g', cap, _, rfl, _⟩
        · exact ⟨none, 0, by rw [hz]⟩
        · exact ⟨_, _, rfl⟩
      obtain ⟨A', c', rfl⟩ := hform
      exact hK A' c' w' ⟨by rw [List.length_append, ← hl, ← h.len], hown⟩ hgr
theorem ownO_empty (w : World) (base : Nat) (hb : base ≤ w.heap.size) : OwnO (w.alloc (.cells #[] 61)) base (some ⟨w.heap.size, 0, none⟩) 0 0 [] := ⟨rfl, obj_empty w base hb⟩
theorem RdO.nil_of {B : Nat} {w : World} {l : List (Nat → Int)} (h : RdO B w none l) : l = [] := by
  cases l with
  | nil => rfl
  | cons y r => obtain ⟨b, off, e, _⟩ := h 0 y rfl; cases e
theorem cloneO_any (A : Option Addr) (n c : Nat) (l : List (Nat → Int)) (w : World) (B : Nat) (hR : RdO B w A l) (hB : B ≤ w.heap.size) (hl : n = l.length) (hn : n ≤ 1000000) :
    Calls Try.prog 45 #[.slice A n c] w fun en w' => ∃ A' c', en = .returned (.slice A' n c') ∧ OwnO w' w.heap.size A' n c' l ∧ Below w.heap.size w w' := by
  cases A with
  | none =>
    obtain rfl := hR.nil_of
    subst hl
    have q := fun W => Go.Lib.run_eql_slice_nil_nil (P := Try.prog) W 0 c (Try.underlying22)
    go_enter Try.func45, Try.ntmps45
    go_wp2_with fail
    go_ret
    exact ⟨none, 0, rfl, ⟨rfl, obj_nil _ _⟩, Below.refl _ _⟩
  | some a0 =>
    have hb1 : Below w.heap.size w (w.alloc (.cells #[] 61)) := (Below.refl _ _).alloc (Nat.le_refl _) _
    have q := fun W => Go.Lib.run_eql_slice_some_nil (P := Try.prog) W a0 n c (Try.underlying22)
    have ho := ownO_empty w w.heap.size (Nat.le_refl _)
    have hR1 := hR.below (hb1.mono hB)
    have HR := Lib.hid hR
    have HL := Lib.hid hl
    clear hR hl
    go_enter Try.func45, Try.ntmps45
    go_upto_region 3 with fail
    go_wp2_with (at_builtin; refine wpList_appOG rfl (.tmp 5) (.tmp 6) rfl w.heap.size (some ⟨w.heap.size, 0, none⟩) 0 0 [] rfl ho B (some a0) n c l rfl hR1 HL.out (by omega) (by simp) ?_; intro A3 c3 w2 hown3 hg3)
    have hb2 := ho.grown hb1 (by simp) hg3
    go_ret
    rw [List.nil_append, Nat.zero_add] at hown3
    exact ⟨A3, c3, by simp, hown3, hb2⟩
theorem cloneI_any (A : Option Addr) (n c : Nat) (l : List Int) (w : World) (B : Nat) (hN : Nums .i64 w B A n l) (hB : B ≤ w.heap.size) (hn : n ≤ 1000000) :
    Calls Try.prog 46 #[.slice A n c] w fun en w' => ∃ A' c', en = .returned (.slice A' n c') ∧ Own .i64 3 w' w.heap.size A' n c' l ∧ Below w.heap.size w w' := by
  obtain ⟨i0, hi, hz0, hz1, hz2⟩ := info_parts st_info_int
  cases A with
  | none =>
    have hln := hN.len
    obtain rfl : l = [] := by
      cases l with
      | nil => rfl
      | cons x r => obtain ⟨a, e, _⟩ := hN.2 0 x (by simp); cases e
    obtain rfl : n = 0 := hln.symm
    have q := fun W => Go.Lib.run_eql_slice_nil_nil (P := Try.prog) W 0 c (Try.underlying23)
    go_enter Try.func46, Try.ntmps46
    go_wp2_with fail
    go_ret
    exact ⟨none, 0, rfl, Own.nil _, Below.refl _ _⟩
  | some a0 =>
    have HN := Lib.hid hN
    clear hN
    have hb1 : Below w.heap.size w (w.alloc (.cells #[] 3)) := (Below.refl _ _).alloc (Nat.le_refl _) _
    have q := fun W => Go.Lib.run_eql_slice_some_nil (P := Try.prog) W a0 n c (Try.underlying23)
    have ho := own_empty (k := .i64) (e := 3) w w.heap.size (Nat.le_refl _)
    go_enter Try.func46, Try.ntmps46
    go_upto_region 3 with fail
    go_wp2_with (at_builtin; refine wpList_app rfl (.tmp 5) (.tmp 6) _ rfl .i64 w.heap.size 3 i0 _ 8 Try.underlying23 hi hz0 hz1 hz2 rfl (some ⟨w.heap.size, 0, none⟩) 0 0 [] rfl ho B (some a0) n c l rfl (HN.out.belowL hb1 hB) (by omega) (by omega) (by simp) ?_; intro A3 c3 w2 hown3 hg3)
    have hb2 := ho.belowGrown hb1 (by simp) hg3
    go_ret
    rw [List.nil_append, Nat.zero_add] at hown3
    exact ⟨A3, c3, by simp, hown3, hb2⟩
end Go.Proofs.Ythedopnhhanknaa
namespace Go.Proofs.Ythedopnhhanknaa
open Go.RowKit Ex
set_option maxRecDepth 100000
structure OBO (w : World) (A : Option Addr) (m c : Nat) (l : List (Nat → Int)) (W : World) : Prop where
  own : OwnO W w.heap.size A m c l
  b : Below w.heap.size w W
theorem zero_size18 (k : Nat) : (Builtin.zeroCells (Value.agg (arr .i64 18 fun _ => 0)).cells k).size = k * 18 := by
  simp [Builtin.zeroCells, Value.cells, arr_size]
set_option maxHeartbeats 4000000 in
theorem growO_nil (n : Nat) (w : World) (hn : n ≤ 1000000) : Calls Try.prog 54 #[.slice none 0 0, .int .i64 (n : Int)] w fun e w' => ∃ A c, e = .returned (.slice A 0 c) ∧ OBO w A 0 c [] w' := by
  obtain ⟨i0, hi, hz0, hz1, hz2⟩ := info_parts info_obj
  have h1 : decide ((n : Int) < 0) = false := by simp
  by_cases h0 : n = 0
  · subst h0
    go_enter Try.func54, Try.ntmps54
    go_wp2_with fail
    go_ret
    exact ⟨_, _, rfl, ⟨rfl, obj_nil _ _⟩, Below.refl _ _⟩
  · have h2 : decide (0 < (n : Int)) = true := by simp; omega
    have hrz : ∀ ty, (Builtin.append_ #[22, 3] ty #[.slice none 0 0, .int .i64 (n : Int)]).run Try.prog w =
        .ok (.slice (some ⟨w.heap.size, 0, none⟩) n (grownCap w n 0 61)) (w.drew.alloc (.cells (#[] ++ Builtin.zeroCells (Value.agg (arr .i64 18 fun _ => 0)).cells n ++ Builtin.zeroCells (Value.agg (arr .i64 18 fun _ => 0)).cells (grownCap w n 0 61 - n)) 61)) := fun ty => by
      have h := Lib.run_append_grow_zeros w 22 3 ty 61 i0 (.agg (arr .i64 18 fun _ => 0)) .i64 .i64 Try.underlying22 Try.underlying3 hi hz0 none 0 0 [] (run_firstCells_none w.drew i0.size 0 0 0) n (by omega) (by omega) (by omega) (by omega) (by rw [hz2]; omega)
        (by rw [Nat.zero_add]; exact growslice_fits (by omega) (by rw [hz2]; omega))
      rw [Nat.zero_add] at h
      exact h
    have hGn : n ≤ grownCap w n 0 61 := grownCap_ge w _ _ _
    have hGm : grownCap w n 0 61 ≤ maxLen := grownCap_le_maxLen w n 0 61 (by unfold maxLen; omega)
    obtain ⟨G, hG⟩ : ∃ G, G = grownCap w n 0 61 := ⟨_, rfl⟩
    rw [← hG] at hrz hGn hGm
    clear hG
    obtain ⟨cs, hcs⟩ : ∃ cs, cs = (#[] ++ Builtin.zeroCells (Value.agg (arr .i64 18 fun _ => 0)).cells n ++ Builtin.zeroCells (Value.agg (arr .i64 18 fun _ => 0)).cells (G - n)) := ⟨_, rfl⟩
    rw [← hcs] at hrz
    have hsz : cs.size = G * 18 := by rw [hcs, Array.size_append, Array.size_append, zero_size18, zero_size18]; simp; omega
    have hfin : OBO w (some ⟨w.heap.size, 0, none⟩) 0 G [] (w.drew.alloc (.cells cs 61)) :=
      ⟨⟨rfl, World.ownsRow_made w.drew cs G (Nat.le_refl _) hGm hsz⟩, ((Below.refl _ _).drew).alloc (Nat.le_refl _) _⟩
    clear hcs hsz
    go_enter Try.func54, Try.ntmps54
    go_wp2_with (at_builtin; refine Lib.wpList_append_run _ rfl _ _ _ _ rfl _ _ rfl rfl _ _ (hrz _) ?_)
    go_ret
    exact ⟨_, _, rfl, hfin⟩
/-- A part of what is laid together: a slice, and the objects that it reads as. -/
structure PartO where
  A : Option Addr
  n : Nat
  c : Nat
  l : List (Nat → Int)
def catO (ps : List PartO) : List (Nat → Int) := ps.flatMap PartO.l
theorem catO_step {ps : List PartO} {k : Nat} {p : PartO} (h : ps[k]? = some p) : catO (ps.take (k + 1)) = catO (ps.take k) ++ p.l := by
  unfold catO
  rw [List.take_add_one, h, List.flatMap_append]
  simp
theorem catO_le (ps : List PartO) (k : Nat) : (catO (ps.take k)).length ≤ (catO ps).length := by
  have h : catO ps = catO (ps.take k) ++ catO (ps.drop k) := by unfold catO; rw [← List.flatMap_append, List.take_append_drop]
  rw [h, List.length_append]; omega
/-- The row of slices at block g. -/
def PartsO (w : World) (g : Nat) (ps : List PartO) : Prop := g < w.heap.size ∧ ∀ i p, ps[i]? = some p → w.cell? ⟨g, i, none⟩ = some (.slice p.A p.n p.c) ∧ RdO w.heap.size w p.A p.l ∧ p.n = p.l.length
theorem parts2O {W : World} {p1 p2 : PartO} (h1 : RdO W.heap.size W p1.A p1.l) (h2 : RdO W.heap.size W p2.A p2.l) (n1 : p1.n = p1.l.length) (n2 : p2.n = p2.l.length) (e : TypeId) :
    PartsO (W.alloc (.cells #[.slice p1.A p1.n p1.c, .slice p2.A p2.n p2.c] e)) W.heap.size [p1, p2] := by
  have hb : Below W.heap.size W (W.alloc (.cells #[.slice p1.A p1.n p1.c, .slice p2.A p2.n p2.c] e)) := (Below.refl _ _).alloc (Nat.le_refl _) _
  refine ⟨by simp, fun i p hi => ⟨?_, ?_⟩⟩
  · rw [cell_of_row _ W.heap.size i _ e (0, 0) (heap_alloc_new _ _)]
    match i, hi with
    | 0, hi => simp at hi; simp [← hi]
    | 1, hi => simp at hi; simp [← hi]
    | k + 2, hi => simp at hi
  · match i, hi with
    | 0, hi => simp at hi; rw [← hi]; exact ⟨(h1.below hb).more hb.size, n1⟩
    | 1, hi => simp at hi; rw [← hi]; exact ⟨(h2.below hb).more hb.size, n2⟩
    | k + 2, hi => simp at hi
set_option maxHeartbeats 1000000 in
theorem concatO_any (g m c : Nat) (ps : List PartO) (w : World) (hP : PartsO w g ps) (hm : ps.length = m) (hm8 : m ≤ 1000) (hlen : (catO ps).length ≤ 1000000) :
    Calls Try.prog 41 #[.slice (some ⟨g, 0, none⟩) m c] w fun en w' => ∃ A n c, en = .returned (.slice A n c) ∧ OwnO w' w.heap.size A n c (catO ps) ∧ Below w.heap.size w w' := by
  have HP := Lib.hid hP
  clear hP
  go_enter Try.func41, Try.ntmps41
  go_upto_region 3 with fail
  go_loopw [3, 11] (fun s i wr => ∃ k : Nat, i = .int .i64 ((k : Nat) : Int) ∧ s = .int .i64 (((catO (ps.take k)).length : Nat) : Int) ∧ k ≤ m ∧ wr = w) (fun _ i _ => m - (intOf i).toNat)
  case atStart => exact ⟨0, rfl, by simp [catO], by omega, rfl⟩
  case round =>
    obtain ⟨k, rfl, rfl, hk, hwr⟩ := hrel
    subst wr
    by_cases hlt : k < m
    · have hd : decide ((k : Int) < (m : Int)) = true := by simp; omega
      obtain ⟨p, hp⟩ : ∃ p, ps[k]? = some p := ⟨_, List.getElem?_eq_getElem (by omega)⟩
      obtain ⟨hc, _, hN⟩ := HP.out.2 k p hp
      have hst := congrArg List.length (catO_step hp)
      rw [List.length_append, ← hN] at hst
      have hle := catO_le ps (k + 1)
      have hle2 : (catO (ps.take (k + 1))).length ≤ 1000000 := by omega
      obtain ⟨s, hs⟩ : ∃ s, s = (catO (ps.take k)).length := ⟨_, rfl⟩
      obtain ⟨s2, hs2⟩ : ∃ s2, s2 = (catO (ps.take (k + 1))).length := ⟨_, rfl⟩
      obtain ⟨A1, n1, c1, l1⟩ := p
      simp only at hc hst hN
      rw [← hs, ← hs2] at hst
      rw [← hs2] at hle2
      rw [← hs]
      have HS := Lib.hid hs2
      have HT := Lib.hid (show (s : Int) + (n1 : Int) = (s2 : Int) by omega)
      have g0 : (0 : Int) ≤ (k : Int) := by omega
      have g1 : (k : Int) < (m : Int) := by omega
      have e1 : IntKind.i64.wrap ((s : Int) + (n1 : Int)) = (s2 : Int) := by rw [HT.out]; exact i64_in (by omega) (by omega)
      have d1 : decide ((s2 : Int) < 0) = false := by simp
      clear hs hs2 hst hp hN hle
      go_wp2_with fail
      go_roundw
      case rel => exact ⟨k + 1, by go_num, by rw [← HS.out], by omega, by trivial⟩
      case measure => simp [intOf]; omega
    · obtain rfl : k = m := by omega
      have hd : decide ((k : Int) < (k : Int)) = false := by simp
      have hfull : catO (ps.take k) = catO ps := by rw [← hm, List.take_length]
      rw [hfull]
      obtain ⟨s, hs⟩ : ∃ s, s = (catO ps).length := ⟨_, rfl⟩
      rw [← hs] at hlen
      rw [← hs]
      have HS := Lib.hid hs
      clear hs hfull
      have hgn := growO_nil s w hlen
      go_wp2_with fail
      refine hgn.mono ?_
      rintro e w1 ⟨A1, c1, rfl, hO1⟩
      clear hgn
      go_upto_region 11 with fail
      clear hd
      go_loopw [6, 27] (fun o i wx => ∃ (j m2 cc : Nat) (A' : Option Addr), i = .int .i64 ((j : Nat) : Int) ∧ o = .slice A' m2 cc ∧ j ≤ k ∧ Hid (OBO w A' m2 cc (catO (ps.take j)) wx)) (fun _ i _ => k - (intOf i).toNat)
      case atStart => exact ⟨0, 0, _, _, rfl, rfl, by omega, Lib.hid (by simpa [catO] using hO1)⟩
      case round =>
        obtain ⟨j, m2, cc, A4, rfl, rfl, hj, HO⟩ := hrel
        have hO1 := 0
        by_cases hlt2 : j < k
        · have hd : decide ((j : Int) < (k : Int)) = true := by simp; omega
          obtain ⟨p, hp⟩ : ∃ p, ps[j]? = some p := ⟨_, List.getElem?_eq_getElem (by omega)⟩
          have hst := catO_step hp
          have hle := catO_le ps (j + 1)
          obtain ⟨A2, n2, c2, l2⟩ := p
          obtain ⟨hc0, hR0, hN0⟩ := HP.out.2 j _ hp
          have hc := (HO.out.b.cell (show g < w.heap.size from HP.out.1)).trans hc0
          have hR := hR0.below HO.out.b
          simp only at hc hst hR hN0
          have hlo := HO.out.own.len
          have hsum : m2 + n2 ≤ 1000000 := by rw [hst, List.length_append] at hle; have := HS.out; omega
          have HST := Lib.hid hst
          have HN0 := Lib.hid hN0
          have g0 : (0 : Int) ≤ (j : Int) := by omega
          have g1 : (j : Int) < (k : Int) := by omega
          have hbs := HO.out.b.size
          clear hst hp hR0 hc0 hle hN0 hlo
          go_wp2_with (at_builtin; refine wpList_appOG rfl _ _ rfl w.heap.size A4 m2 cc _ rfl HO.out.own _ A2 n2 c2 l2 rfl hR HN0.out hsum hbs ?_; intro A5 c5 w5 ho5 hg5)
          have hO5 := Lib.hid (show OBO w A5 (m2 + n2) c5 (catO (ps.take (j + 1))) w5 by rw [HST.out]; exact ⟨ho5, HO.out.own.grown HO.out.b hbs hg5⟩)
          go_roundw
          case rel => exact ⟨j + 1, _, _, _, by go_num, rfl, by omega, hO5⟩
          case measure => simp [intOf]; omega
        · obtain rfl : j = k := by omega
          have hd : decide ((j : Int) < (j : Int)) = false := by simp
          have HE := Lib.hid (show catO (ps.take j) = catO ps by rw [← hm, List.take_length])
          go_wp2_with fail
          go_ret
          rw [← HE.out]
          exact ⟨_, _, _, rfl, HO.out.own, HO.out.b⟩
end Go.Proofs.Ythedopnhhanknaa
namespace Go.Proofs.Ythedopnhhanknaa
open Go.RowKit Ex
set_option maxRecDepth 100000
section
variable {g base : Nat} {w w' : World}
theorem SlR.stayX {x : SlT} {l : List Int} (h : SlR w base x l) (hg : g < base) (hs : Stay g w w') : SlR w' base x l := by
  refine ⟨⟨h.N.len, fun j u hu => ?_⟩, h.c, h.f.stay fun b h1 h2 => hs.block b h2 (by omega)⟩
  obtain ⟨a, ea, h1, hcell⟩ := h.N.2 j u hu
  obtain ⟨g2, o, cs, t, e, h3, h4⟩ := h.f a ea
  have h5 := (Array.getElem?_eq_some_iff.1 h4).1
  have := hs.size
  exact ⟨a, ea, by omega, (World.cell?_of_block (by rw [addr_block, e]; exact hs.block _ h5 (by simp only; omega))).trans hcell⟩
theorem SlO.stayX {x : SlT} {l : List (Nat → Int)} (h : SlO w base x l) (hg : g < base) (hs : Stay g w w') : SlO w' base x l := by
  refine ⟨fun j o ho => ?_, h.n, h.c, h.m, h.f.stay fun b h1 h2 => hs.block b h2 (by omega)⟩
  obtain ⟨b, off, ea, h1, hra⟩ := h.R j o ho
  obtain ⟨g2, o2, cs, t, e, h3, h4⟩ := h.f _ ea
  injection e with e1 e2
  subst e1
  have := hs.size
  exact ⟨b, off, ea, by omega, fun k u hu => (World.cell?_of_block (hs.block b h1 (by omega))).trans (hra k u hu)⟩
theorem Stay.setO {b i : Nat} (h : Stay g w w') (v : Value) (hb : w.heap.size ≤ b) : Stay g w (w'.setCell ⟨b, i, none⟩ v) :=
  ⟨h.os, h.tape, h.output, by simpa using h.size, fun k hk hn => (heap_setCell_other w' ⟨b, i, none⟩ k v (by simp; omega)).trans (h.block k hk hn)⟩
theorem Stay.then (h : Stay g w w') {w'' : World} (hb : Below w'.heap.size w' w'') : Stay g w w'' := h.trans (Stay.of hb)
end
section
variable {g base : Nat} {w : World} {s : StT} {O : SlT} {L : Nat → SlT}
theorem ReadsX.objs {cs : Array Value} (h : ReadsX g w cs s O L) {O' : SlT} {os : List (Nat → Int)} (ho : SlO w base O' os) (hg : g < base) (hw : ∀ o ∈ os, ∀ i < 18, N64 (o i)) : ReadsX g w (stC O' L s.pl s.gm) ⟨os, s.lists, s.pl, s.gm⟩ O' L := fun w' hs => by
  have h1 := h w' hs
  have h2 := ho.stayX hg hs
  exact ⟨rfl, h2.n, h2.c, h2.m, h2.R, h1.l, h1.lc, hw, h1.lw, h1.pw, h1.gw⟩
theorem ReadsX.list {cs : Array Value} (h : ReadsX g w cs s O L) {z : Nat} {x : SlT} {l : List Int} (hx : SlR w base x l) (hg : g < base) (hw : ∀ n ∈ l, N64 n) : ReadsX g w (stC O (updS L z x) s.pl s.gm) ⟨s.objs, updL s.lists z l, s.pl, s.gm⟩ O (updS L z x) := fun w' hs => by
  have h1 := h w' hs
  have h2 := hx.stayX hg hs
  refine ⟨rfl, h1.on, h1.oc, h1.om, h1.o, fun y hy => ?_, fun y hy => ?_, h1.ow, fun y hy => ?_, h1.pw, h1.gw⟩
  · by_cases e : y = z
    · subst e; simp only [updS, updL, if_pos]; exact h2.N
    · simp only [updS, updL, if_neg e]; exact h1.l y hy
  · by_cases e : y = z
    · subst e; simp only [updS, if_pos]; exact h2.c
    · simp only [updS, if_neg e]; exact h1.lc y hy
  · by_cases e : y = z
    · subst e; simp only [updL, if_pos]; exact hw
    · simp only [updL, if_neg e]; exact h1.lw y hy
theorem ReadsX.nums {cs : Array Value} (h : ReadsX g w cs s O L) {p q : Nat → Int} (hp : ∀ i < 18, N64 (p i)) (hq : ∀ i < 7, N64 (q i)) : ReadsX g w (stC O L p q) ⟨s.objs, s.lists, p, q⟩ O L := fun w' hs => by
  have h1 := h w' hs
  exact ⟨rfl, h1.on, h1.oc, h1.om, h1.o, h1.l, h1.lc, h1.ow, h1.lw, hp, hq⟩
end
/-- What becomes of a state: what is told, if there is no error. -/
def pickS (s : StT) (r : StT × Int) : StT := if r.2 = 0 then r.1 else s
def DP (w : World) (g : Nat) (s : StT) (r : StT × Int) (en : Ending) (w' : World) : Prop :=
  ∃ O L, en = .returned (errV r.2) ∧ StAt w' g (stC O L (pickS s r).pl (pickS s r).gm) ∧ ReadsX g w' (stC O L (pickS s r).pl (pickS s r).gm) (pickS s r) O L ∧ Stay g w w'
theorem DP.no {w w' : World} {g : Nat} {s : StT} {O : SlT} {L : Nat → SlT} {r : StT × Int} (hr : r.2 ≠ 0) (ha : StAt w g (stC O L s.pl s.gm)) (hx : ReadsX g w (stC O L s.pl s.gm) s O L) (hb : Below w.heap.size w w') : DP w g s r (.returned (errV r.2)) w' := by
  have hp : pickS s r = s := if_neg hr
  refine ⟨O, L, rfl, ?_, ?_, Stay.of hb⟩
  · rw [hp]; exact ha.keep hb
  · rw [hp]; exact hx.stay (Stay.of hb)
theorem DP.yes {w w' : World} {g : Nat} {s t : StT} {O : SlT} {L : Nat → SlT} (ha : StAt w' g (stC O L t.pl t.gm)) (hx : ReadsX g w' (stC O L t.pl t.gm) t O L) (hs : Stay g w w') : DP w g s (t, 0) (.returned .nilIface) w' :=
  ⟨O, L, by rw [errV_nil], ha, hx, hs⟩
theorem DP.from {w w1 w' : World} {g : Nat} {s : StT} {r : StT × Int} {en : Ending} (h : DP w1 g s r en w') (hb : Stay g w w1) : DP w g s r en w' := by
  obtain ⟨O, L, h1, h2, h3, h4⟩ := h
  exact ⟨O, L, h1, h2, h3, hb.trans h4⟩
/-- What set answers. -/
def SetP (w : World) (b i : Nat) (x : Int) (e : EvT) (en : Ending) (w' : World) : Prop :=
  ∃ w1, Below w.heap.size w w1 ∧ ((x = e.c ∧ en = .returned .nilIface ∧ w' = w1.setCell ⟨b, i, none⟩ (.int .i64 e.d)) ∨ (x ≠ e.c ∧ en = .returned (errV 20) ∧ w' = w1))
set_option maxHeartbeats 0 in
theorem set_code (b i : Nat) (x : Int) (e : EvT) (w : World) (hc : w.cell? ⟨b, i, none⟩ = some (.int .i64 x)) (hf : w.frozen? ⟨b, i, none⟩ = false) (hb : b < w.heap.size) : Calls Try.prog 36 #[.pointer (some ⟨b, i, none⟩), evV e] w (SetP w b i x e) := by
  obtain ⟨k, a, b2, c, d, f⟩ := e
  unfold evV
  simp only
  go_enter Try.func36, Try.ntmps36
  go_upto_region 1 with fail
  obtain ⟨w1, hw1⟩ : ∃ w1, w1 = w.alloc (.cells #[.int .i64 k, .int .i64 a, .int .i64 b2, .int .i64 c, .int .i64 d, .int .i64 f] 31) := ⟨_, rfl⟩
  have hrow : w1.heap[w.heap.size]? = some (.cells #[.int .i64 k, .int .i64 a, .int .i64 b2, .int .i64 c, .int .i64 d, .int .i64 f] 31 (0, 0)) := by rw [hw1]; exact heap_alloc_new _ _
  have hb1 : Below w.heap.size w w1 := by rw [hw1]; exact (Below.refl _ _).alloc (Nat.le_refl _) _
  have hc1 : w1.cell? ⟨b, i, none⟩ = some (.int .i64 x) := (hb1.cell (by simpa using hb)).trans hc
  have hf1 : w1.frozen? ⟨b, i, none⟩ = false := (World.frozen?_of_block (hb1.block b hb)).trans hf
  rw [← hw1]
  have c3 := cell_of_row w1 w.heap.size 3 _ _ _ hrow
  have c4 := cell_of_row w1 w.heap.size 4 _ _ _ hrow
  simp at c3 c4
  clear hw1 hrow hc hf
  by_cases e : x = c
  · subst e
    go_region
    go_wp2_with fail
    go_ret
    exact ⟨_, hb1.drew, .inl ⟨rfl, rfl, rfl⟩⟩
  · have hd : (x != c) = true := bne_iff_ne.2 e
    have HE := Lib.hid e
    clear e
    go_region
    go_wp2_with fail
    go_ret
    exact ⟨_, hb1.drew, .inr ⟨HE.out, rfl, rfl⟩⟩
theorem build_made (a b c : Int) (W : World) : (Instr.build 61 #[(0, .int .i64 a), (1, .int .i64 b), (2, .int .i64 b), (13, .int .i64 c), (3, .int .i64 10), (17, .int .i64 3)]).run Try.prog W = .ok (.agg (arr .i64 18 (madeO a b c))) W := by kernel_rfl
theorem wpList_buildMade {ops : Array Oper} {rest : List Oper} {o : Oper} {act : Act} {w : World} {Q : Exit → Act → World → Prop} (hg : o.guard = none) (x0 x1 x2 x3 : Operand) (ho : o.op = .build 61 #[(0, x0), (1, x1), (2, x2), (13, x3), (3, .const (.int .i64 10)), (17, .const (.int .i64 3))]) (a b c : Int)
    (h0 : act.eval x0 = .int .i64 a) (h1 : act.eval x1 = .int .i64 b) (h2 : act.eval x2 = .int .i64 b) (h3 : act.eval x3 = .int .i64 c) (hK : wpList Try.prog ops Q rest (act.put o.dst (.agg (arr .i64 18 (madeO a b c)))) w) : wpList Try.prog ops Q (o :: rest) act w := by
  refine wpList_plain hg fun K' hK' => ?_
  have hev : ∀ v, act.eval (.const v) = v := fun _ => rfl
  unfold Oper.wp
  simp [execOp, ho, h0, h1, h2, h3, hev, build_made, Result.andThen]
  exact hK' _ _ hK
set_option maxHeartbeats 0 in
theorem made_code (e : EvT) (w : World) : Calls Try.prog 42 #[evV e] w fun en w' => en = .returned (.agg (arr .i64 18 (madeO e.a e.b e.c))) ∧ Below w.heap.size w w' := by
  obtain ⟨k, a, b, c, d, f⟩ := e
  unfold evV
  simp only
  obtain ⟨o, ho⟩ : ∃ o, o = madeO a b c := ⟨_, rfl⟩
  have HO := Lib.hid ho
  rw [← ho]
  clear ho
  have hz := st_zero18
  go_enter Try.func42, Try.ntmps42
  go_upto_region 1 with fail
  obtain ⟨w1, hw1⟩ : ∃ w1, w1 = w.alloc (.cells #[.int .i64 k, .int .i64 a, .int .i64 b, .int .i64 c, .int .i64 d, .int .i64 f] 31) := ⟨_, rfl⟩
  have hrow : w1.heap[w.heap.size]? = some (.cells #[.int .i64 k, .int .i64 a, .int .i64 b, .int .i64 c, .int .i64 d, .int .i64 f] 31 (0, 0)) := by rw [hw1]; exact heap_alloc_new _ _
  have hb1 : Below w.heap.size w w1 := by rw [hw1]; exact (Below.refl _ _).alloc (Nat.le_refl _) _
  have hz1 : w1.heap.size = w.heap.size + 1 := by rw [hw1]; simp
  rw [← hw1]
  clear hw1
  obtain ⟨w2, hw2⟩ : ∃ w2, w2 = w1.alloc (.cells (arr .i64 18 fun _ => 0) 61) := ⟨_, rfl⟩
  have hb2 : Below w1.heap.size w1 w2 := by rw [hw2]; exact (Below.refl _ _).alloc (Nat.le_refl _) _
  have hz2 : w2.heap[w.heap.size + 1]? = some (.cells (arr .i64 18 fun _ => 0) 61 (0, 0)) := by rw [hw2, ← hz1]; exact heap_alloc_new _ _
  have hrow2 := (hb2.block w.heap.size (by omega)).trans hrow
  have hbw := keepB hb2 hb1
  try rw [hz]
  rw [← hw2]
  clear hw2 hrow hb1 hb2 hz hz1
  have c1 := cell_of_row w2 w.heap.size 1 _ _ _ hrow2
  have c2 := cell_of_row w2 w.heap.size 2 _ _ _ hrow2
  have c3 := cell_of_row w2 w.heap.size 3 _ _ _ hrow2
  simp at c1 c2 c3
  have hso : (Try.prog.info? 61).map (·.size) = some (arr .i64 18 o).size := by rw [arr_size]; exact st_size18
  have hss : (arr .i64 18 fun _ => 0).size = (arr .i64 18 o).size := by rw [arr_size, arr_size]
  have hone := arr_one .i64 18 o
  clear hrow2
  go_wp2_with (first
    | (refine wpList_buildMade rfl _ _ _ _ rfl a b c rfl rfl rfl rfl ?_; rw [← HO.out])
    | (refine wpList_store_row rfl 61 (.tmp 2) (.tmp 11) rfl (w.heap.size + 1) _ rfl rfl 61 _ hz2 hso hss hone ?_))
  refine bodyPost_ret (v := .agg (arr .i64 18 o)) ?_ rfl ⟨rfl, below_setRow hbw _ _ (by omega)⟩
  exact results_cell_row (ty := 61) (p := 2) (by kernel_rfl) _ _ (w.heap.size + 1) 61 _ (0, 0) _ rfl (setRow_heap _ _ _ _ _ _ hz2) Try.underlying61 rfl hso
end Go.Proofs.Ythedopnhhanknaa
namespace Go.Proofs.Ythedopnhhanknaa
open Go.RowKit Ex
set_option maxRecDepth 100000
set_option maxHeartbeats 0 in
theorem put_code (s : StT) (O : SlT) (L : Nat → SlT) (g i j : Nat) (x : Int) (w : World) (ha : StAt w g (stC O L s.pl s.gm)) (hx : ReadsX g w (stC O L s.pl s.gm) s O L) (hi : i < s.objs.length) (hj : j < 18) (hn : s.objs.length ≤ 1000000) (h64 : N64 x) :
    Calls Try.prog 49 #[.pointer (some ⟨g, 0, none⟩), .int .i64 (i : Int), .int .i64 (j : Int), .int .i64 x] w fun en w' => ∃ O', en = .returned (.tuple #[]) ∧ StAt w' g (stC O' L s.pl s.gm) ∧ ReadsX g w' (stC O' L s.pl s.gm) ⟨setO s.objs i j x, s.lists, s.pl, s.gm⟩ O' L ∧ Stay g w w' := by
  have hr := hx.now
  have hOn := hr.on
  have hO := hr.o
  have how := hr.ow
  have hgl := ha.lt
  have c0 := (ha.cell 0).trans (stC_objs _ _ _ _)
  obtain ⟨A, n, c⟩ := O
  simp only at hOn hO
  have hcl := cloneO_any A n c s.objs w _ hO (Nat.le_refl _) hOn (by omega)
  have H64 := Lib.hid h64
  have HX := Lib.hid hx
  have HA := Lib.hid ha
  have HON := Lib.hid hOn
  have HI := Lib.hid hi
  have c0' : w.cell? ⟨g, 0, none⟩ = some (.slice A n c) := c0
  clear hr hO how c0 h64 hx ha hOn hi
  go_enter Try.func49, Try.ntmps49
  go_wp2_with fail
  refine hcl.mono ?_
  rintro en w1 ⟨A1, c1, rfl, ho1, hb1⟩
  clear hcl
  have ha1 := HA.out.keep hb1
  have f1 := frozen_of_row w1 g 0 _ _ ha1
  have k1 := (ha1.cell 0).trans (stC_objs _ _ _ _)
  have k1' : w1.cell? ⟨g, 0, none⟩ = some (.slice A n c) := k1
  clear k1 c0'
  go_upto_region 1 with fail
  obtain ⟨w2, hw2⟩ : ∃ w2, w2 = w1.setCell ⟨g, 0, none⟩ (.slice A1 n c1) := ⟨_, rfl⟩
  have ha2 : StAt w2 g (stC ⟨A1, n, c1⟩ L s.pl s.gm) := by
    unfold StAt
    rw [hw2, heap_setCell_same w1 g 0 _ _ _ ha1, show Value.slice A1 n c1 = (⟨A1, n, c1⟩ : SlT).v from rfl, stC_set_objs]
  have ho2 : OwnO w2 w.heap.size A1 n c1 s.objs := ⟨ho1.len, owns_keep ho1.o fun k hk => by rw [hw2]; exact heap_setCell_other w1 ⟨g, 0, none⟩ k _ (by have := (ho1.o.lt k hk).1; simp; omega)⟩
  have hs2 : Stay g w w2 := by rw [hw2]; exact (Stay.of hb1).set_ 0 _
  rw [← hw2]
  clear hw2 f1 k1' ha1 ho1 hb1
  obtain ⟨g3, hA1, hcell, hfr, hbs, hset⟩ := owns_set ho2.o HI.out hj
  subst hA1
  have k2 : w2.cell? ⟨g, 0, none⟩ = some (.slice (some ⟨g3, 0, none⟩) n c1) := (ha2.cell 0).trans (stC_objs _ _ _ _)
  have g0 : (0 : Int) ≤ (i : Int) := by omega
  have g1 : (i : Int) < (n : Int) := by have h1 := HI.out; have h2 := HON.out; omega
  have g2 : (0 : Int) ≤ (j : Int) := by omega
  have g4 : (j : Int) < 18 := by omega
  have HB := Lib.hid hbs
  have HS := Lib.hid hset
  clear hbs hset ho2
  go_wp2_with fail
  have ho3 : OwnO (w2.setCell ⟨g3, i * 18 + j, none⟩ (.int .i64 x)) w.heap.size (some ⟨g3, 0, none⟩) n c1 (setO s.objs i j x) := ⟨by rw [setO_len]; exact HON.out, HS.out x⟩
  have hne : g ≠ g3 := by have := HB.out; omega
  have hs3 : Stay g w (w2.setCell ⟨g3, i * 18 + j, none⟩ (.int .i64 x)) := hs2.setO _ HB.out
  have hw : ∀ o ∈ setO s.objs i j x, ∀ k < 18, N64 (o k) := (I64S.setO (HX.out.now.i64) HI.out j H64.out).o
  refine bodyPost_end (v := .tuple #[]) (results_none (by kernel_rfl) _ _ _) rfl ⟨⟨some ⟨g3, 0, none⟩, n, c1⟩, rfl, ?_, (HX.out.stay hs3).objs ho3.slO hgl hw, hs3⟩
  exact (heap_setCell_other w2 ⟨g3, i * 18 + j, none⟩ g _ (by simpa using hne)).trans ha2
end Go.Proofs.Ythedopnhhanknaa
namespace Go.Proofs.Ythedopnhhanknaa
open Go.RowKit Ex
set_option maxRecDepth 100000
theorem below_alloc {w : World} (o : Obj) : Below w.heap.size w (w.alloc o) := (Below.refl _ _).alloc (Nat.le_refl _) _
/-- Three slices in a new row. -/
theorem parts3 {W : World} {p1 p2 p3 : Part} (h1 : Nums .i64 W W.heap.size p1.A p1.n p1.l) (h2 : Nums .i64 W W.heap.size p2.A p2.n p2.l) (h3 : Nums .i64 W W.heap.size p3.A p3.n p3.l) (e : TypeId) :
    Parts (W.alloc (.cells #[.slice p1.A p1.n p1.c, .slice p2.A p2.n p2.c, .slice p3.A p3.n p3.c] e)) W.heap.size [p1, p2, p3] := by
  have hb := below_alloc (w := W) (.cells #[.slice p1.A p1.n p1.c, .slice p2.A p2.n p2.c, .slice p3.A p3.n p3.c] e)
  refine ⟨by simp, fun i p hi => ⟨?_, ?_⟩⟩
  · rw [cell_of_row _ W.heap.size i _ e (0, 0) (heap_alloc_new _ _)]
    match i, hi with
    | 0, hi => simp at hi; simp [← hi]
    | 1, hi => simp at hi; simp [← hi]
    | 2, hi => simp at hi; simp [← hi]
    | k + 3, hi => simp at hi
  · match i, hi with
    | 0, hi => simp at hi; rw [← hi]; exact (h1.below hb).more hb.size
    | 1, hi => simp at hi; rw [← hi]; exact (h2.below hb).more hb.size
    | 2, hi => simp at hi; rw [← hi]; exact (h3.below hb).more hb.size
    | k + 3, hi => simp at hi
theorem parts2 {W : World} {p1 p2 : Part} (h1 : Nums .i64 W W.heap.size p1.A p1.n p1.l) (h2 : Nums .i64 W W.heap.size p2.A p2.n p2.l) (e : TypeId) :
    Parts (W.alloc (.cells #[.slice p1.A p1.n p1.c, .slice p2.A p2.n p2.c] e)) W.heap.size [p1, p2] := by
  have hb := below_alloc (w := W) (.cells #[.slice p1.A p1.n p1.c, .slice p2.A p2.n p2.c] e)
  refine ⟨by simp, fun i p hi => ⟨?_, ?_⟩⟩
  · rw [cell_of_row _ W.heap.size i _ e (0, 0) (heap_alloc_new _ _)]
    match i, hi with
    | 0, hi => simp at hi; simp [← hi]
    | 1, hi => simp at hi; simp [← hi]
    | k + 2, hi => simp at hi
  · match i, hi with
    | 0, hi => simp at hi; rw [← hi]; exact (h1.below hb).more hb.size
    | 1, hi => simp at hi; rw [← hi]; exact (h2.below hb).more hb.size
    | k + 2, hi => simp at hi
theorem Mine.base_le {w : World} {base b : Nat} {A : Option Addr} {n c : Nat} {l : List Int} (h : Mine w base A n c l) (hb : b ≤ base) : Mine w b A n c l :=
  ⟨h.1, h.2.1, fun a ha => by
    obtain ⟨g, o, cs, t, e, h1, h2⟩ := h.2.2 a ha
    exact ⟨g, o, cs, t, e, by omega, h2⟩⟩
set_option linter.unusedSimpArgs false in
set_option maxHeartbeats 1000000 in
theorem insert_code (A : Option Addr) (n c : Nat) (l : List Int) (p x : Int) (w : World) (hL : LsIn w A n c l) : Calls Try.prog 48 #[.slice A n c, .int .i64 p, .int .i64 x] w (LstR (Within (n + 1) p) (insL l p.toNat x) 1 w) := by
  by_cases hok : Within (n + 1) p
  · obtain ⟨i, rfl⟩ : ∃ i : Nat, p = (i : Int) := ⟨p.toNat, by unfold Within at hok; omega⟩
    rw [Int.toNat_natCast]
    have hi : i ≤ n := by unfold Within at hok; omega
    have HOk := Lib.hid hok
    have hln := hL.N.len
    have hfew := hL.few
    obtain ⟨A1, hs1, hN1⟩ := cut_to (P := Try.prog) hL.N hL.cap hi 23 (by kernel_rfl) (fun _ => by kernel_rfl)
    obtain ⟨A2, hs2, hN2⟩ := cut_from (P := Try.prog) hL.N hL.cap hi 23 (by kernel_rfl) (fun _ => by kernel_rfl)
    have HN1 := Lib.hid hN1
    have HN2 := Lib.hid hN2
    have d1 : decide ((i : Int) < 0) = false := by simp
    have d2 : decide ((n : Int) < (i : Int)) = false := by simp; omega
    clear hN1 hN2 hok hL
    go_enter Try.func48, Try.ntmps48
    go_upto_region 3 with fail
    refine region_below (by kernel_rfl) (fun hHeld => ?_)
    refine wpAnyH_take (i := 0) (v := ?_) rfl (by kernel_rfl) (by kernel_rfl) (by kernel_rfl) (fun _ _ _ h => h) (Or.inl ⟨by rfl, ?_⟩) hHeld ?_
    rotate_left
    · (intro w hSw; go_simp; (try with_reducible rfl))
    simp only [Act.put, List.getElem_toArray, List.getElem_cons_zero, List.getElem_cons_succ, List.setIfInBounds_toArray, List.set_cons_zero, List.set_cons_succ]
    refine wpAnyH_take (i := 1) (v := ?_) rfl (by kernel_rfl) (by kernel_rfl) (by kernel_rfl) (fun _ _ _ h => h) (Or.inl ⟨by rfl, ?_⟩) hHeld ?_
    rotate_left
    · (intro w hSw; go_simp; (try with_reducible rfl))
    simp only [Act.put, List.getElem_toArray, List.getElem_cons_zero, List.getElem_cons_succ, List.setIfInBounds_toArray, List.set_cons_zero, List.set_cons_succ]
    refine wpAnyH_take (i := 2) (v := ?_) rfl (by kernel_rfl) (by kernel_rfl) (by kernel_rfl) (fun _ _ _ h => h) (Or.inl ⟨by rfl, ?_⟩) hHeld ?_
    rotate_left
    · (intro w hSw; go_simp; (try with_reducible rfl))
    simp only [Act.put, List.getElem_toArray, List.getElem_cons_zero, List.getElem_cons_succ, List.setIfInBounds_toArray, List.set_cons_zero, List.set_cons_succ]
    refine wpAnyH_take (i := 3) (v := ?_) rfl (by kernel_rfl) (by kernel_rfl) (by kernel_rfl) (fun _ _ _ h => h) (Or.inl ⟨by rfl, ?_⟩) hHeld ?_
    rotate_left
    · (intro w hSw; go_simp; (try with_reducible rfl))
    simp only [Act.put, List.getElem_toArray, List.getElem_cons_zero, List.getElem_cons_succ, List.setIfInBounds_toArray, List.set_cons_zero, List.set_cons_succ]
    refine wpAnyH_take (i := 5) (v := ?_) rfl (by kernel_rfl) (by kernel_rfl) (by kernel_rfl) (fun _ _ _ h => h) (Or.inl ⟨by rfl, ?_⟩) hHeld ?_
    rotate_left
    · (intro w hSw; go_simp; (try with_reducible rfl))
    simp only [Act.put, List.getElem_toArray, List.getElem_cons_zero, List.getElem_cons_succ, List.setIfInBounds_toArray, List.set_cons_zero, List.set_cons_succ]
    refine wpAnyH_take (i := 6) (v := ?_) rfl (by kernel_rfl) (by kernel_rfl) (by kernel_rfl) (fun _ _ _ h => h) (Or.inl ⟨by rfl, ?_⟩) hHeld ?_
    rotate_left
    · (intro w hSw; go_simp; (try with_reducible rfl))
    simp only [Act.put, List.getElem_toArray, List.getElem_cons_zero, List.getElem_cons_succ, List.setIfInBounds_toArray, List.set_cons_zero, List.set_cons_succ]
    refine wpAnyH_take (i := 7) (v := ?_) rfl (by kernel_rfl) (by kernel_rfl) (by kernel_rfl) (fun _ _ _ h => h) (Or.inl ⟨by rfl, ?_⟩) hHeld ?_
    rotate_left
    · (intro w hSw; go_simp; (try with_reducible rfl))
    simp only [Act.put, List.getElem_toArray, List.getElem_cons_zero, List.getElem_cons_succ, List.setIfInBounds_toArray, List.set_cons_zero, List.set_cons_succ]
    clear hs1 hs2
    have hb1 := hHeld
    generalize w.drew = W0 at hHeld hb1 ⊢
    refine wpAnyH_ready (rs := [4]) (by kernel_rfl) (by simp) ?_
    refine AllReadyH.cons rfl (fun K hK => ?_) AllReadyH.nil
    simp only [List.getElem_toArray, List.getElem_cons_zero, List.getElem_cons_succ]
    go_simp
    have hB4 := below_alloc (w := W0) (.cells #[.int .i64 x] 3)
    have hone := Nums.one W0 .i64 x 3
    have hg1 : W0.heap.size < (W0.alloc (.cells #[.int .i64 x] 3)).heap.size := by simp
    obtain ⟨g1, hg1e⟩ : ∃ g1, g1 = W0.heap.size := ⟨_, rfl⟩
    rw [← hg1e] at hone hg1
    rw [← hg1e]
    obtain ⟨W1, hW1⟩ : ∃ W1, W1 = W0.alloc (.cells #[.int .i64 x] 3) := ⟨_, rfl⟩
    rw [← hW1] at hone hg1 hB4
    rw [← hW1]
    clear hW1 hg1e
    have hbw := keepB hB4 hHeld
    refine hK.out _ _ hbw (fun _ => ?_)
    clear hK K
    try simp only [Act.put, List.setIfInBounds_toArray, List.set_cons_zero, List.set_cons_succ]
    refine anyH_rebase hbw (fun hHeld => ?_)
    refine wpAnyH_ready (rs := [8]) (by kernel_rfl) (by simp) ?_
    refine AllReadyH.cons rfl (fun K hK => ?_) AllReadyH.nil
    simp only [List.getElem_toArray, List.getElem_cons_zero, List.getElem_cons_succ]
    go_simp
    have hP := parts3 (W := W1) (p1 := ⟨A1, i, c, l.take i⟩) (p2 := ⟨some ⟨g1, 0, none⟩, 1, 1, [x]⟩) (p3 := ⟨A2, n - i, c - i, l.drop i⟩) ((HN1.out.below hbw).more hbw.size) (hone.more (by omega)) ((HN2.out.below hbw).more hbw.size) 23
    have hB8 := below_alloc (w := W1) (.cells #[.slice A1 i c, .slice (some ⟨g1, 0, none⟩) 1 1, .slice A2 (n - i) (c - i)] 23)
    simp only at hP
    obtain ⟨g2, hg2e⟩ : ∃ g2, g2 = W1.heap.size := ⟨_, rfl⟩
    rw [← hg2e] at hP
    rw [← hg2e]
    obtain ⟨W2, hW2⟩ : ∃ W2, W2 = W1.alloc (.cells #[.slice A1 i c, .slice (some ⟨g1, 0, none⟩) 1 1, .slice A2 (n - i) (c - i)] 23) := ⟨_, rfl⟩
    rw [← hW2] at hP hB8
    rw [← hW2]
    clear hW2 hg2e
    refine hK.out _ _ hB8 (fun _ => ?_)
    clear hK K
    try simp only [Act.put, List.setIfInBounds_toArray, List.set_cons_zero, List.set_cons_succ]
    refine anyH_rebase hB8 (fun hHeld => ?_)
    have hcat : catP [⟨A1, i, c, l.take i⟩, ⟨some ⟨g1, 0, none⟩, 1, 1, [x]⟩, ⟨A2, n - i, c - i, l.drop i⟩] = insL l i x := by simp [catP, insL]
    have hcc := concat_any g2 3 3 _ W2 hP rfl (by omega) (by rw [hcat, ins_len _ _ _ (by omega)]; omega)
    rw [hcat] at hcc
    refine wpAnyH_ready (rs := [9]) (by kernel_rfl) (by simp) ?_
    refine AllReadyH.cons rfl (fun K hK => ?_) AllReadyH.nil
    simp only [List.getElem_toArray, List.getElem_cons_zero, List.getElem_cons_succ]
    go_simp
    refine hcc.mono ?_
    rintro e W3 ⟨A3, n3, c3, rfl, ho3, hb3⟩
    clear hcc
    go_wp2_with fail
    have hB3 := keepB hb3 hHeld
    refine hK.out _ _ hB3 (fun _ => ?_)
    clear hK K
    try simp only [Act.put, List.setIfInBounds_toArray, List.set_cons_zero, List.set_cons_succ]
    refine anyH_rebase hB3 (fun hHeld => ?_)
    refine wpAnyH_take (i := 10) (v := ?_) rfl (by kernel_rfl) (by kernel_rfl) (by kernel_rfl) (fun _ _ _ h => h) (Or.inl ⟨by rfl, ?_⟩) hHeld ?_
    rotate_left
    · (intro w hSw; go_simp; (try with_reducible rfl))
    simp only [Act.put, List.getElem_toArray, List.getElem_cons_zero, List.getElem_cons_succ, List.setIfInBounds_toArray, List.set_cons_zero, List.set_cons_succ]
    refine wpAnyH_take (i := 11) (v := ?_) rfl (by kernel_rfl) (by kernel_rfl) (by kernel_rfl) (fun _ _ _ h => h) (Or.inl ⟨by rfl, ?_⟩) hHeld ?_
    rotate_left
    · (intro w hSw; go_simp; (try with_reducible rfl))
    simp only [Act.put, List.getElem_toArray, List.getElem_cons_zero, List.getElem_cons_succ, List.setIfInBounds_toArray, List.set_cons_zero, List.set_cons_succ]
    refine wpAnyH_done (by kernel_rfl) ?_ _
    go_wp2_with fail
    have hbf := keepB hb3 (keepB hB8 hbw)
    exact bodyPost_ret (results_tmp2 rfl _ _ _) rfl ⟨hbf, .inl ⟨HOk.out, _, _, _, rfl, Mine.of_own (ho3.base_le (keepB hB8 hbw).size)⟩⟩
  · have hno : p < 0 ∨ (n : Int) < p := by unfold Within at hok; omega
    have HE := Lib.hid hok
    obtain ⟨l2, hl2⟩ : ∃ l2, l2 = insL l p.toNat x := ⟨_, rfl⟩
    rw [← hl2]
    clear hok hL hl2
    by_cases h0 : p < 0
    · have d1 : decide (p < 0) = true := decide_eq_true h0
      clear h0 hno
      go_enter Try.func48, Try.ntmps48
      go_wp2_with fail
      refine bodyPost_ret (results_tmp2 rfl _ _ _) rfl ⟨Below.refl _ _, .inr ⟨HE.out, _, _, rfl⟩⟩
    · have d1 : decide (p < 0) = false := decide_eq_false h0
      have d2 : decide ((n : Int) < p) = true := decide_eq_true (by omega)
      clear h0 hno
      go_enter Try.func48, Try.ntmps48
      go_wp2_with fail
      refine bodyPost_ret (results_tmp2 rfl _ _ _) rfl ⟨Below.refl _ _, .inr ⟨HE.out, _, _, rfl⟩⟩
set_option linter.unusedSimpArgs false in
set_option maxHeartbeats 1000000 in
theorem remove_code (A : Option Addr) (n c : Nat) (l : List Int) (p : Int) (w : World) (hL : LsIn w A n c l) : Calls Try.prog 47 #[.slice A n c, .int .i64 p] w (RemR n p l w) := by
  have hhas := has_any A n c p w
  by_cases hok : Within n p
  · rw [decide_eq_true hok] at hhas
    obtain ⟨i, rfl⟩ : ∃ i : Nat, p = (i : Int) := ⟨p.toNat, by unfold Within at hok; omega⟩
    have hi : i < n := by unfold Within at hok; omega
    have HOk := Lib.hid hok
    have hln := hL.N.len
    have hfew := hL.few
    obtain ⟨A1, hs1, hN1⟩ := cut_to (P := Try.prog) hL.N hL.cap (show i ≤ n by omega) 23 (by kernel_rfl) (fun _ => by kernel_rfl)
    obtain ⟨j, hj⟩ : ∃ j, j = i + 1 := ⟨_, rfl⟩
    obtain ⟨A2, hs2, hN2⟩ := cut_from (P := Try.prog) hL.N hL.cap (show j ≤ n by omega) 23 (by kernel_rfl) (fun _ => by kernel_rfl)
    obtain ⟨a, rfl, hab, hca⟩ := hL.N.at_ (show i < l.length by omega)
    obtain ⟨v, hv⟩ : ∃ v, v = l.getD i 0 := ⟨_, rfl⟩
    have hvl : l[i]'(by omega) = v := by rw [hv, List.getD_eq_getElem?_getD, List.getElem?_eq_getElem (by omega)]; rfl
    rw [hvl] at hca
    unfold RemR
    rw [Int.toNat_natCast, ← hv]
    have HJ := Lib.hid hj
    have HN1 := Lib.hid hN1
    have HN2 := Lib.hid hN2
    have e1 : IntKind.i64.wrap ((i : Int) + 1) = (j : Int) := by rw [i64_in (by omega) (by omega)]; omega
    have r0 : ∀ W, Below w.heap.size w W → W.cell? (a.add i) = some (.int .i64 v) := fun W hW => (hW.cell (by rw [addr_block]; exact hab)).trans hca
    have g0 : (0 : Int) ≤ (i : Int) := by omega
    have g1 : (i : Int) < (n : Int) := by omega
    clear hN1 hN2 hok hL hvl hca hab hv hj
    go_enter Try.func47, Try.ntmps47
    go_wp2_with fail
    refine hhas.mono ?_
    rintro e w' ⟨rfl, rfl⟩
    clear hhas
    go_upto_region 3 with fail
    refine region_below (by kernel_rfl) (fun hHeld => ?_)
    refine wpAnyH_take (i := 0) (v := ?_) rfl (by kernel_rfl) (by kernel_rfl) (by kernel_rfl) (fun _ _ _ h => h) (Or.inl ⟨by rfl, ?_⟩) hHeld ?_
    rotate_left
    · (intro w hSw; go_simp; (try with_reducible rfl))
    simp only [Act.put, List.getElem_toArray, List.getElem_cons_zero, List.getElem_cons_succ, List.setIfInBounds_toArray, List.set_cons_zero, List.set_cons_succ]
    refine wpAnyH_take (i := 1) (v := ?_) rfl (by kernel_rfl) (by kernel_rfl) (by kernel_rfl) (fun _ _ _ h => h) (Or.inl ⟨by rfl, ?_⟩) hHeld ?_
    rotate_left
    · (intro w hSw; go_simp; (try with_reducible rfl))
    simp only [Act.put, List.getElem_toArray, List.getElem_cons_zero, List.getElem_cons_succ, List.setIfInBounds_toArray, List.set_cons_zero, List.set_cons_succ]
    refine wpAnyH_take (i := 2) (v := ?_) rfl (by kernel_rfl) (by kernel_rfl) (by kernel_rfl) (fun _ _ _ h => h) (Or.inl ⟨by rfl, ?_⟩) hHeld ?_
    rotate_left
    · (intro w hSw; go_simp; (try with_reducible rfl))
    simp only [Act.put, List.getElem_toArray, List.getElem_cons_zero, List.getElem_cons_succ, List.setIfInBounds_toArray, List.set_cons_zero, List.set_cons_succ]
    refine wpAnyH_take (i := 3) (v := ?_) rfl (by kernel_rfl) (by kernel_rfl) (by kernel_rfl) (fun _ _ _ h => h) (Or.inl ⟨by rfl, ?_⟩) hHeld ?_
    rotate_left
    · (intro w hSw; go_simp; (try with_reducible rfl))
    simp only [Act.put, List.getElem_toArray, List.getElem_cons_zero, List.getElem_cons_succ, List.setIfInBounds_toArray, List.set_cons_zero, List.set_cons_succ]
    refine wpAnyH_take (i := 4) (v := ?_) rfl (by kernel_rfl) (by kernel_rfl) (by kernel_rfl) (fun _ _ _ h => h) (Or.inl ⟨by rfl, ?_⟩) hHeld ?_
    rotate_left
    · (intro w hSw; go_simp; (try with_reducible rfl))
    simp only [Act.put, List.getElem_toArray, List.getElem_cons_zero, List.getElem_cons_succ, List.setIfInBounds_toArray, List.set_cons_zero, List.set_cons_succ]
    refine wpAnyH_take (i := 5) (v := ?_) rfl (by kernel_rfl) (by kernel_rfl) (by kernel_rfl) (fun _ _ _ h => h) (Or.inl ⟨by rfl, ?_⟩) hHeld ?_
    rotate_left
    · (intro w hSw; go_simp; (try with_reducible rfl))
    simp only [Act.put, List.getElem_toArray, List.getElem_cons_zero, List.getElem_cons_succ, List.setIfInBounds_toArray, List.set_cons_zero, List.set_cons_succ]
    refine wpAnyH_take (i := 6) (v := ?_) rfl (by kernel_rfl) (by kernel_rfl) (by kernel_rfl) (fun _ _ _ h => h) (Or.inl ⟨by rfl, ?_⟩) hHeld ?_
    rotate_left
    · (intro w hSw; go_simp; (try with_reducible rfl))
    simp only [Act.put, List.getElem_toArray, List.getElem_cons_zero, List.getElem_cons_succ, List.setIfInBounds_toArray, List.set_cons_zero, List.set_cons_succ]
    refine wpAnyH_take (i := 9) (v := ?_) rfl (by kernel_rfl) (by kernel_rfl) (by kernel_rfl) (fun _ _ _ h => h) (Or.inl ⟨by rfl, ?_⟩) hHeld ?_
    rotate_left
    · (intro w hSw; go_simp; (try with_reducible rfl))
    simp only [Act.put, List.getElem_toArray, List.getElem_cons_zero, List.getElem_cons_succ, List.setIfInBounds_toArray, List.set_cons_zero, List.set_cons_succ]
    refine wpAnyH_take (i := 10) (v := ?_) rfl (by kernel_rfl) (by kernel_rfl) (by kernel_rfl) (fun _ _ _ h => h) (Or.inl ⟨by rfl, ?_⟩) hHeld ?_
    rotate_left
    · (intro w hSw; go_simp; (try with_reducible rfl))
    simp only [Act.put, List.getElem_toArray, List.getElem_cons_zero, List.getElem_cons_succ, List.setIfInBounds_toArray, List.set_cons_zero, List.set_cons_succ]
    refine wpAnyH_take (i := 11) (v := ?_) rfl (by kernel_rfl) (by kernel_rfl) (by kernel_rfl) (fun _ _ _ h => h) (Or.inl ⟨by rfl, ?_⟩) hHeld ?_
    rotate_left
    · (intro w hSw; go_simp; (try with_reducible rfl))
    simp only [Act.put, List.getElem_toArray, List.getElem_cons_zero, List.getElem_cons_succ, List.setIfInBounds_toArray, List.set_cons_zero, List.set_cons_succ]
    refine wpAnyH_take (i := 12) (v := ?_) rfl (by kernel_rfl) (by kernel_rfl) (by kernel_rfl) (fun _ _ _ h => h) (Or.inl ⟨by rfl, ?_⟩) hHeld ?_
    rotate_left
    · (intro w hSw; go_simp; (try with_reducible rfl))
    simp only [Act.put, List.getElem_toArray, List.getElem_cons_zero, List.getElem_cons_succ, List.setIfInBounds_toArray, List.set_cons_zero, List.set_cons_succ]
    clear hs1 hs2 r0 g0 g1 e1
    have hb1 := hHeld
    generalize w'.drew = W1 at hHeld hb1 ⊢
    refine wpAnyH_ready (rs := [7]) (by kernel_rfl) (by simp) ?_
    refine AllReadyH.cons rfl (fun K hK => ?_) AllReadyH.nil
    simp only [List.getElem_toArray, List.getElem_cons_zero, List.getElem_cons_succ]
    go_simp
    have hP := parts2 (W := W1) (p1 := ⟨A1, i, c, l.take i⟩) (p2 := ⟨A2, n - j, c - j, l.drop j⟩) ((HN1.out.below hb1).more hb1.size) ((HN2.out.below hb1).more hb1.size) 23
    have hB8 := below_alloc (w := W1) (.cells #[.slice A1 i c, .slice A2 (n - j) (c - j)] 23)
    simp only at hP
    obtain ⟨g2, hg2e⟩ : ∃ g2, g2 = W1.heap.size := ⟨_, rfl⟩
    rw [← hg2e] at hP
    rw [← hg2e]
    obtain ⟨W2, hW2⟩ : ∃ W2, W2 = W1.alloc (.cells #[.slice A1 i c, .slice A2 (n - j) (c - j)] 23) := ⟨_, rfl⟩
    rw [← hW2] at hP hB8
    rw [← hW2]
    clear hW2 hg2e
    have hbw := keepB hB8 hHeld
    refine hK.out _ _ hbw (fun _ => ?_)
    clear hK K
    try simp only [Act.put, List.setIfInBounds_toArray, List.set_cons_zero, List.set_cons_succ]
    refine anyH_rebase hbw (fun hHeld => ?_)
    have hcat : catP [⟨A1, i, c, l.take i⟩, ⟨A2, n - j, c - j, l.drop j⟩] = rmL l i := by rw [HJ.out]; simp [catP, rmL]
    have hcc := concat_any g2 2 2 _ W2 hP rfl (by omega) (by rw [hcat, rm_len _ _ (by omega)]; omega)
    rw [hcat] at hcc
    refine wpAnyH_ready (rs := [8]) (by kernel_rfl) (by simp) ?_
    refine AllReadyH.cons rfl (fun K hK => ?_) AllReadyH.nil
    simp only [List.getElem_toArray, List.getElem_cons_zero, List.getElem_cons_succ]
    go_simp
    refine hcc.mono ?_
    rintro e W3 ⟨A3, n3, c3, rfl, ho3, hb3⟩
    clear hcc
    go_wp2_with fail
    have hB3 := keepB hb3 hHeld
    refine hK.out _ _ hB3 (fun _ => ?_)
    clear hK K
    try simp only [Act.put, List.setIfInBounds_toArray, List.set_cons_zero, List.set_cons_succ]
    refine anyH_rebase hB3 (fun hHeld => ?_)
    refine wpAnyH_take (i := 13) (v := ?_) rfl (by kernel_rfl) (by kernel_rfl) (by kernel_rfl) (fun _ _ _ h => h) (Or.inl ⟨by rfl, ?_⟩) hHeld ?_
    rotate_left
    · (intro w hSw; go_simp; (try with_reducible rfl))
    simp only [Act.put, List.getElem_toArray, List.getElem_cons_zero, List.getElem_cons_succ, List.setIfInBounds_toArray, List.set_cons_zero, List.set_cons_succ]
    refine wpAnyH_take (i := 14) (v := ?_) rfl (by kernel_rfl) (by kernel_rfl) (by kernel_rfl) (fun _ _ _ h => h) (Or.inl ⟨by rfl, ?_⟩) hHeld ?_
    rotate_left
    · (intro w hSw; go_simp; (try with_reducible rfl))
    simp only [Act.put, List.getElem_toArray, List.getElem_cons_zero, List.getElem_cons_succ, List.setIfInBounds_toArray, List.set_cons_zero, List.set_cons_succ]
    refine wpAnyH_take (i := 15) (v := ?_) rfl (by kernel_rfl) (by kernel_rfl) (by kernel_rfl) (fun _ _ _ h => h) (Or.inl ⟨by rfl, ?_⟩) hHeld ?_
    rotate_left
    · (intro w hSw; go_simp; (try with_reducible rfl))
    simp only [Act.put, List.getElem_toArray, List.getElem_cons_zero, List.getElem_cons_succ, List.setIfInBounds_toArray, List.set_cons_zero, List.set_cons_succ]
    refine wpAnyH_done (by kernel_rfl) ?_ _
    go_wp2_with fail
    refine bodyPost_ret (results_tmp3 rfl _ _ _) rfl ?_
    exact ⟨keepB hb3 hbw, .inl ⟨HOk.out, _, _, _, rfl, Mine.of_own (ho3.base_le hbw.size)⟩⟩
  · rw [decide_eq_false hok] at hhas
    have HE := Lib.hid hok
    clear hok hL
    go_enter Try.func47, Try.ntmps47
    go_wp2_with fail
    refine hhas.mono ?_
    rintro e w' ⟨rfl, rfl⟩
    clear hhas
    go_wp2_with fail
    refine bodyPost_ret (results_tmp3 rfl _ _ _) rfl ?_
    exact ⟨Below.refl _ _, .inr ⟨HE.out, _, _, rfl⟩⟩
theorem rm_mem {l : List Int} {i : Nat} {x : Int} (h : x ∈ rmL l i) : x ∈ l := by
  unfold rmL at h
  rcases List.mem_append.1 h with h | h
  · exact List.mem_of_mem_take h
  · exact List.mem_of_mem_drop h
end Go.Proofs.Ythedopnhhanknaa
