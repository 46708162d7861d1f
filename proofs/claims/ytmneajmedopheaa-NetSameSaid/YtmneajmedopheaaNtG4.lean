/- Layer 12: the code's Check and what it asks; Sets. Layer 9: what list's calls answer, as one statement: the laws' walks take it, the code's walks prove it. Layer 9: the code's has, first, Index. Layer 9: the library's Grow of the nil list, and Concat. Layer 12: the library's Clone, Grow and Concat over lists of objects; Clone over lists of numbers. Layer 12: the library's Grow and Concat over lists of objects. Layer 12: a state in a box, of which something becomes another thing; the code's set, made, put. Layer 12: the code's put. Layer 9: the code's Insert, Remove, Move. Layer 12: the code's makeObject. Layer 12: the code's setObject. Layer 10: the code's isList and Top. Layer 12: the code's unmakeObject. Layer 12: the code's moveObject. Layer 12: the code's Do. Layer 12: the code's Copy of a state: each list in a block of its own. -/
import Derived.Test.YtmneajmedopheaaNtG1
import Derived.Test.YtmneajmedopheaaNtG3
import Derived.Test.YtmneajmedopheaaLstRef2
import Derived.Test.YtmneajmedopheaaNtG2
import Derived.Lib.AppendZerosOnto
import Derived.Lib.BufferMore
import Derived.OwnWalk
namespace Go.Proofs.Ytmneajmedopheaa
open Go.RowKit Ex
set_option maxRecDepth 100000
theorem below_any (n k : Int) (w : World) : Calls Try.prog 40 #[.int .i64 n, .int .i64 k] w fun en w' => en = .returned (.bool (decide (0 ≤ n) && decide (n < k))) ∧ w = w' := by
  obtain ⟨q, hq⟩ : ∃ q, q = (decide (0 ≤ n) && decide (n < k)) := ⟨_, rfl⟩
  rw [← hq]
  by_cases h0 : 0 ≤ n
  · have d0 : decide (0 ≤ n) = true := decide_eq_true h0
    rw [d0, Bool.true_and] at hq
    have hd := hq.symm
    clear hq h0
    go_enter Try.func40, Try.ntmps40
    go_wp2_with fail
    go_ret
    exact ⟨rfl, rfl⟩
  · have d0 : decide (0 ≤ n) = false := decide_eq_false h0
    rw [d0, Bool.false_and] at hq
    subst hq
    clear h0
    go_enter Try.func40, Try.ntmps40
    go_wp2_with fail
    go_ret
    exact ⟨rfl, rfl⟩
theorem isNum_any (n : Int) (w : World) : Calls Try.prog 53 #[.int .i64 n] w fun en w' => en = .returned (.bool (decide (-1073741824 ≤ n) && decide (n ≤ 1073741824))) ∧ w = w' := by
  obtain ⟨q, hq⟩ : ∃ q, q = (decide (-1073741824 ≤ n) && decide (n ≤ 1073741824)) := ⟨_, rfl⟩
  rw [← hq]
  by_cases h0 : -1073741824 ≤ n
  · have d0 : decide (-1073741824 ≤ n) = true := decide_eq_true h0
    rw [d0, Bool.true_and] at hq
    have hd := hq.symm
    clear hq h0
    go_enter Try.func53, Try.ntmps53
    go_wp2_with fail
    go_ret
    exact ⟨rfl, rfl⟩
  · have d0 : decide (-1073741824 ≤ n) = false := decide_eq_false h0
    rw [d0, Bool.false_and] at hq
    subst hq
    clear h0
    go_enter Try.func53, Try.ntmps53
    go_wp2_with fail
    go_ret
    exact ⟨rfl, rfl⟩
/-- Whether all that its kind doesn't tell is zero. -/
def frmE (e : EvT) : Bool :=
  if e.k = 1 then true else if e.k = 0 ∨ e.k = 5 then e.d == 0 && e.e == 0 else if e.k = 4 then e.a == 0 && e.e == 0 else e.e == 0
def numE (e : EvT) : Bool :=
  if e.k = 0 ∨ e.k = 5 then (decide (0 ≤ e.a) && decide (e.a < 120)) && (decide (0 ≤ e.b) && decide (e.b < 2)) && (decide (0 ≤ e.c) && decide (e.c < 3))
  else if e.k = 1 then decide (0 ≤ e.a) && (decide (0 ≤ e.b) && decide (e.b < 11)) && decide (0 ≤ e.c) && (decide (0 ≤ e.d) && decide (e.d < 11)) && decide (0 ≤ e.e)
  else if e.k = 2 then decide (0 ≤ e.a) && (decide (0 ≤ e.b) && decide (e.b < 18)) && (e.b != 3) && (decide (-1073741824 ≤ e.d) && decide (e.d ≤ 1073741824))
  else if e.k = 3 then (decide (0 ≤ e.a) && decide (e.a < 2)) && (decide (0 ≤ e.b) && decide (e.b < 9)) && (decide (-1073741824 ≤ e.d) && decide (e.d ≤ 1073741824))
  else (decide (0 ≤ e.b) && decide (e.b < 7)) && (decide (-1073741824 ≤ e.d) && decide (e.d ≤ 1073741824))
theorem chkE_is (e : EvT) : chkE e = if decide (0 ≤ e.k) && decide (e.k < 6) then (if frmE e then (if numE e then 0 else 1) else 2) else 6 := by
  obtain ⟨k, a, b, c, d, f⟩ := e
  by_cases hk : 0 ≤ k ∧ k < 6
  · rw [show (decide (0 ≤ k) && decide (k < 6)) = true by simp [hk], if_pos rfl]
    obtain rfl | rfl | rfl | rfl | rfl | rfl : k = 0 ∨ k = 1 ∨ k = 2 ∨ k = 3 ∨ k = 4 ∨ k = 5 := by omega
    · rw [ck0]; simp [frmE, numE]; (repeat' split) <;> omega
    · rw [ck1]; simp [frmE, numE]; (repeat' split) <;> omega
    · rw [ck2]; simp [frmE, numE]; (repeat' split) <;> omega
    · rw [ck3]; simp [frmE, numE]; (repeat' split) <;> omega
    · rw [ck4]; simp [frmE, numE]; (repeat' split) <;> omega
    · rw [ck5]; simp [frmE, numE]; (repeat' split) <;> omega
  · rw [show (decide (0 ≤ k) && decide (k < 6)) = false by rw [Bool.eq_false_iff]; simp; omega, if_neg (by simp)]
    exact ckN k a b c d f (by omega)
set_option maxHeartbeats 0 in
theorem formFits_any (e : EvT) (w : World) (hk : 0 ≤ e.k ∧ e.k < 6) : Calls Try.prog 41 #[evV e] w fun en w' => en = .returned (.bool (frmE e)) ∧ Below w.heap.size w w' := by
  obtain ⟨k, a, b, c, d, f⟩ := e
  unfold evV
  simp only at hk ⊢
  go_enter Try.func41, Try.ntmps41
  go_upto_region 1 with fail
  obtain ⟨w1, hw1⟩ : ∃ w1, w1 = w.alloc (.cells #[.int .i64 k, .int .i64 a, .int .i64 b, .int .i64 c, .int .i64 d, .int .i64 f] 45) := ⟨_, rfl⟩
  have hrow : w1.heap[w.heap.size]? = some (.cells #[.int .i64 k, .int .i64 a, .int .i64 b, .int .i64 c, .int .i64 d, .int .i64 f] 45 (0, 0)) := by rw [hw1]; exact heap_alloc_new _ _
  have hb1 : Below w.heap.size w w1 := by rw [hw1]; exact (Below.refl _ _).alloc (Nat.le_refl _) _
  rw [← hw1]
  have c0 := cell_of_row w1 w.heap.size 0 _ _ _ hrow
  have c1 := cell_of_row w1 w.heap.size 1 _ _ _ hrow
  have c2 := cell_of_row w1 w.heap.size 2 _ _ _ hrow
  have c3 := cell_of_row w1 w.heap.size 3 _ _ _ hrow
  have c4 := cell_of_row w1 w.heap.size 4 _ _ _ hrow
  have c5 := cell_of_row w1 w.heap.size 5 _ _ _ hrow
  simp at c0 c1 c2 c3 c4 c5
  clear hw1
  clear hrow
  obtain rfl | rfl | rfl | rfl | rfl | rfl : k = 0 ∨ k = 1 ∨ k = 2 ∨ k = 3 ∨ k = 4 ∨ k = 5 := by omega
  all_goals
    go_wp2_with fail
    all_goals (go_ret; refine ⟨?_, hb1⟩; simp [frmE, *])
set_option maxHeartbeats 0 in
theorem numbersFit_any (e : EvT) (w : World) (hk : 0 ≤ e.k ∧ e.k < 6) : Calls Try.prog 42 #[evV e] w fun en w' => en = .returned (.bool (numE e)) ∧ Below w.heap.size w w' := by
  obtain ⟨k, a, b, c, d, f⟩ := e
  unfold evV
  simp only at hk ⊢
  obtain ⟨r, hr⟩ : ∃ r, r = numE ⟨k, a, b, c, d, f⟩ := ⟨_, rfl⟩
  rw [← hr]
  go_enter Try.func42, Try.ntmps42
  go_upto_region 1 with fail
  obtain ⟨w1, hw1⟩ : ∃ w1, w1 = w.alloc (.cells #[.int .i64 k, .int .i64 a, .int .i64 b, .int .i64 c, .int .i64 d, .int .i64 f] 45) := ⟨_, rfl⟩
  have hrow : w1.heap[w.heap.size]? = some (.cells #[.int .i64 k, .int .i64 a, .int .i64 b, .int .i64 c, .int .i64 d, .int .i64 f] 45 (0, 0)) := by rw [hw1]; exact heap_alloc_new _ _
  have hb1 : Below w.heap.size w w1 := by rw [hw1]; exact (Below.refl _ _).alloc (Nat.le_refl _) _
  rw [← hw1]
  have c0 := cell_of_row w1 w.heap.size 0 _ _ _ hrow
  have c1 := cell_of_row w1 w.heap.size 1 _ _ _ hrow
  have c2 := cell_of_row w1 w.heap.size 2 _ _ _ hrow
  have c3 := cell_of_row w1 w.heap.size 3 _ _ _ hrow
  have c4 := cell_of_row w1 w.heap.size 4 _ _ _ hrow
  have c5 := cell_of_row w1 w.heap.size 5 _ _ _ hrow
  simp at c0 c1 c2 c3 c4 c5
  clear hw1
  clear hrow
  obtain rfl | rfl | rfl | rfl | rfl | rfl : k = 0 ∨ k = 1 ∨ k = 2 ∨ k = 3 ∨ k = 4 ∨ k = 5 := by omega
  · have hE : numE ⟨0, a, b, c, d, f⟩ = ((decide (0 ≤ a) && decide (a < 120)) && (decide (0 ≤ b) && decide (b < 2)) && (decide (0 ≤ c) && decide (c < 3))) := rfl
    rw [hE] at hr
    clear hE hk
    have h1 := fun w => below_any a 120 w
    generalize (decide (0 ≤ a) && decide (a < 120)) = q1 at h1 hr
    have h2 := fun w => below_any b 2 w
    generalize (decide (0 ≤ b) && decide (b < 2)) = q2 at h2 hr
    have h3 := fun w => below_any c 3 w
    generalize (decide (0 ≤ c) && decide (c < 3)) = q3 at h3 hr
    cases q1
    · subst hr
      go_wp2_with fail
      refine (h1 _).mono ?_
      rintro en w2 ⟨rfl, rfl⟩
      go_wp2_with fail
      go_ret
      exact ⟨rfl, hb1⟩
    cases q2
    · subst hr
      go_wp2_with fail
      refine (h1 _).mono ?_
      rintro en w2 ⟨rfl, rfl⟩
      go_wp2_with fail
      refine (h2 _).mono ?_
      rintro en w2 ⟨rfl, rfl⟩
      go_wp2_with fail
      go_ret
      exact ⟨rfl, hb1⟩
    subst hr
    go_wp2_with fail
    refine (h1 _).mono ?_
    rintro en w2 ⟨rfl, rfl⟩
    go_wp2_with fail
    refine (h2 _).mono ?_
    rintro en w2 ⟨rfl, rfl⟩
    go_wp2_with fail
    refine (h3 _).mono ?_
    rintro en w2 ⟨rfl, rfl⟩
    go_wp2_with fail
    go_ret
    exact ⟨rfl, hb1⟩
  · have hE : numE ⟨1, a, b, c, d, f⟩ = (decide (0 ≤ a) && (decide (0 ≤ b) && decide (b < 11)) && decide (0 ≤ c) && (decide (0 ≤ d) && decide (d < 11)) && decide (0 ≤ f)) := rfl
    rw [hE] at hr
    clear hE hk
    obtain ⟨q1, hd1⟩ : ∃ q, decide (0 ≤ a) = q := ⟨_, rfl⟩
    rw [hd1] at hr
    have h2 := fun w => below_any b 11 w
    generalize (decide (0 ≤ b) && decide (b < 11)) = q2 at h2 hr
    obtain ⟨q3, hd3⟩ : ∃ q, decide (0 ≤ c) = q := ⟨_, rfl⟩
    rw [hd3] at hr
    have h4 := fun w => below_any d 11 w
    generalize (decide (0 ≤ d) && decide (d < 11)) = q4 at h4 hr
    obtain ⟨q5, hd5⟩ : ∃ q, decide (0 ≤ f) = q := ⟨_, rfl⟩
    rw [hd5] at hr
    cases q1
    · subst hr
      go_wp2_with fail
      go_ret
      exact ⟨rfl, hb1⟩
    cases q2
    · subst hr
      go_wp2_with fail
      refine (h2 _).mono ?_
      rintro en w2 ⟨rfl, rfl⟩
      go_wp2_with fail
      go_ret
      exact ⟨rfl, hb1⟩
    cases q3
    · subst hr
      go_wp2_with fail
      refine (h2 _).mono ?_
      rintro en w2 ⟨rfl, rfl⟩
      go_wp2_with fail
      go_ret
      exact ⟨rfl, hb1⟩
    cases q4
    · subst hr
      go_wp2_with fail
      refine (h2 _).mono ?_
      rintro en w2 ⟨rfl, rfl⟩
      go_wp2_with fail
      refine (h4 _).mono ?_
      rintro en w2 ⟨rfl, rfl⟩
      go_wp2_with fail
      go_ret
      exact ⟨rfl, hb1⟩
    subst hr
    go_wp2_with fail
    refine (h2 _).mono ?_
    rintro en w2 ⟨rfl, rfl⟩
    go_wp2_with fail
    refine (h4 _).mono ?_
    rintro en w2 ⟨rfl, rfl⟩
    go_wp2_with fail
    go_ret
    exact ⟨rfl, hb1⟩
  · have hE : numE ⟨2, a, b, c, d, f⟩ = (decide (0 ≤ a) && (decide (0 ≤ b) && decide (b < 18)) && (b != 3) && (decide (-1073741824 ≤ d) && decide (d ≤ 1073741824))) := rfl
    rw [hE] at hr
    clear hE hk
    obtain ⟨q1, hd1⟩ : ∃ q, decide (0 ≤ a) = q := ⟨_, rfl⟩
    rw [hd1] at hr
    have h2 := fun w => below_any b 18 w
    generalize (decide (0 ≤ b) && decide (b < 18)) = q2 at h2 hr
    obtain ⟨q3, hd3⟩ : ∃ q, (b != 3) = q := ⟨_, rfl⟩
    rw [hd3] at hr
    have h4 := fun w => isNum_any d w
    generalize (decide (-1073741824 ≤ d) && decide (d ≤ 1073741824)) = q4 at h4 hr
    cases q1
    · subst hr
      go_wp2_with fail
      go_ret
      exact ⟨rfl, hb1⟩
    cases q2
    · subst hr
      go_wp2_with fail
      refine (h2 _).mono ?_
      rintro en w2 ⟨rfl, rfl⟩
      go_wp2_with fail
      go_ret
      exact ⟨rfl, hb1⟩
    cases q3
    · subst hr
      go_wp2_with fail
      refine (h2 _).mono ?_
      rintro en w2 ⟨rfl, rfl⟩
      go_wp2_with fail
      go_ret
      exact ⟨rfl, hb1⟩
    subst hr
    go_wp2_with fail
    refine (h2 _).mono ?_
    rintro en w2 ⟨rfl, rfl⟩
    go_wp2_with fail
    refine (h4 _).mono ?_
    rintro en w2 ⟨rfl, rfl⟩
    go_wp2_with fail
    go_ret
    exact ⟨rfl, hb1⟩
  · have hE : numE ⟨3, a, b, c, d, f⟩ = ((decide (0 ≤ a) && decide (a < 2)) && (decide (0 ≤ b) && decide (b < 9)) && (decide (-1073741824 ≤ d) && decide (d ≤ 1073741824))) := rfl
    rw [hE] at hr
    clear hE hk
    have h1 := fun w => below_any a 2 w
    generalize (decide (0 ≤ a) && decide (a < 2)) = q1 at h1 hr
    have h2 := fun w => below_any b 9 w
    generalize (decide (0 ≤ b) && decide (b < 9)) = q2 at h2 hr
    have h3 := fun w => isNum_any d w
    generalize (decide (-1073741824 ≤ d) && decide (d ≤ 1073741824)) = q3 at h3 hr
    cases q1
    · subst hr
      go_wp2_with fail
      refine (h1 _).mono ?_
      rintro en w2 ⟨rfl, rfl⟩
      go_wp2_with fail
      go_ret
      exact ⟨rfl, hb1⟩
    cases q2
    · subst hr
      go_wp2_with fail
      refine (h1 _).mono ?_
      rintro en w2 ⟨rfl, rfl⟩
      go_wp2_with fail
      refine (h2 _).mono ?_
      rintro en w2 ⟨rfl, rfl⟩
      go_wp2_with fail
      go_ret
      exact ⟨rfl, hb1⟩
    subst hr
    go_wp2_with fail
    refine (h1 _).mono ?_
    rintro en w2 ⟨rfl, rfl⟩
    go_wp2_with fail
    refine (h2 _).mono ?_
    rintro en w2 ⟨rfl, rfl⟩
    go_wp2_with fail
    refine (h3 _).mono ?_
    rintro en w2 ⟨rfl, rfl⟩
    go_wp2_with fail
    go_ret
    exact ⟨rfl, hb1⟩
  · have hE : numE ⟨4, a, b, c, d, f⟩ = ((decide (0 ≤ b) && decide (b < 7)) && (decide (-1073741824 ≤ d) && decide (d ≤ 1073741824))) := rfl
    rw [hE] at hr
    clear hE hk
    have h1 := fun w => below_any b 7 w
    generalize (decide (0 ≤ b) && decide (b < 7)) = q1 at h1 hr
    have h2 := fun w => isNum_any d w
    generalize (decide (-1073741824 ≤ d) && decide (d ≤ 1073741824)) = q2 at h2 hr
    cases q1
    · subst hr
      go_wp2_with fail
      refine (h1 _).mono ?_
      rintro en w2 ⟨rfl, rfl⟩
      go_wp2_with fail
      go_ret
      exact ⟨rfl, hb1⟩
    subst hr
    go_wp2_with fail
    refine (h1 _).mono ?_
    rintro en w2 ⟨rfl, rfl⟩
    go_wp2_with fail
    refine (h2 _).mono ?_
    rintro en w2 ⟨rfl, rfl⟩
    go_wp2_with fail
    go_ret
    exact ⟨rfl, hb1⟩
  · have hE : numE ⟨5, a, b, c, d, f⟩ = ((decide (0 ≤ a) && decide (a < 120)) && (decide (0 ≤ b) && decide (b < 2)) && (decide (0 ≤ c) && decide (c < 3))) := rfl
    rw [hE] at hr
    clear hE hk
    have h1 := fun w => below_any a 120 w
    generalize (decide (0 ≤ a) && decide (a < 120)) = q1 at h1 hr
    have h2 := fun w => below_any b 2 w
    generalize (decide (0 ≤ b) && decide (b < 2)) = q2 at h2 hr
    have h3 := fun w => below_any c 3 w
    generalize (decide (0 ≤ c) && decide (c < 3)) = q3 at h3 hr
    cases q1
    · subst hr
      go_wp2_with fail
      refine (h1 _).mono ?_
      rintro en w2 ⟨rfl, rfl⟩
      go_wp2_with fail
      go_ret
      exact ⟨rfl, hb1⟩
    cases q2
    · subst hr
      go_wp2_with fail
      refine (h1 _).mono ?_
      rintro en w2 ⟨rfl, rfl⟩
      go_wp2_with fail
      refine (h2 _).mono ?_
      rintro en w2 ⟨rfl, rfl⟩
      go_wp2_with fail
      go_ret
      exact ⟨rfl, hb1⟩
    subst hr
    go_wp2_with fail
    refine (h1 _).mono ?_
    rintro en w2 ⟨rfl, rfl⟩
    go_wp2_with fail
    refine (h2 _).mono ?_
    rintro en w2 ⟨rfl, rfl⟩
    go_wp2_with fail
    refine (h3 _).mono ?_
    rintro en w2 ⟨rfl, rfl⟩
    go_wp2_with fail
    go_ret
    exact ⟨rfl, hb1⟩
theorem sets_any (e : EvT) (w : World) : Calls Try.prog 36 #[evV e] w fun en w' => en = .returned (.bool (decide (2 ≤ e.k) && decide (e.k ≤ 4))) ∧ Below w.heap.size w w' := by
  obtain ⟨k, a, b, c, d, f⟩ := e
  unfold evV
  simp only
  obtain ⟨r, hr⟩ : ∃ r, r = (decide (2 ≤ k) && decide (k ≤ 4)) := ⟨_, rfl⟩
  rw [← hr]
  go_enter Try.func36, Try.ntmps36
  go_upto_region 1 with fail
  obtain ⟨w1, hw1⟩ : ∃ w1, w1 = w.alloc (.cells #[.int .i64 k, .int .i64 a, .int .i64 b, .int .i64 c, .int .i64 d, .int .i64 f] 45) := ⟨_, rfl⟩
  have hrow : w1.heap[w.heap.size]? = some (.cells #[.int .i64 k, .int .i64 a, .int .i64 b, .int .i64 c, .int .i64 d, .int .i64 f] 45 (0, 0)) := by rw [hw1]; exact heap_alloc_new _ _
  have hb1 : Below w.heap.size w w1 := by rw [hw1]; exact (Below.refl _ _).alloc (Nat.le_refl _) _
  rw [← hw1]
  have c0 := cell_of_row w1 w.heap.size 0 _ _ _ hrow
  have c1 := cell_of_row w1 w.heap.size 1 _ _ _ hrow
  have c2 := cell_of_row w1 w.heap.size 2 _ _ _ hrow
  have c3 := cell_of_row w1 w.heap.size 3 _ _ _ hrow
  have c4 := cell_of_row w1 w.heap.size 4 _ _ _ hrow
  have c5 := cell_of_row w1 w.heap.size 5 _ _ _ hrow
  simp at c0 c1 c2 c3 c4 c5
  clear hw1
  clear hrow
  by_cases k2 : k = 2
  · subst k2
    subst hr
    go_wp2_with fail
    go_ret
    exact ⟨rfl, hb1⟩
  by_cases k3 : k = 3
  · subst k3
    subst hr
    go_wp2_with fail
    go_ret
    exact ⟨rfl, hb1⟩
  have d2 : (k == 2) = false := by simpa using k2
  have d3 : (k == 3) = false := by simpa using k3
  have d4 : (k == 4) = (decide (2 ≤ k) && decide (k ≤ 4)) := by rw [Bool.eq_iff_iff]; simp; omega
  rw [← hr] at d4
  clear hr
  go_wp2_with fail
  go_ret
  exact ⟨rfl, hb1⟩
set_option maxHeartbeats 0 in
theorem check_code (e : EvT) (w : World) : Calls Try.prog 26 #[evV e] w fun en w' => en = .returned (errV (chkE e)) ∧ Below w.heap.size w w' := by
  have hch := chkE_is e
  obtain ⟨r, hr⟩ : ∃ r, r = chkE e := ⟨_, rfl⟩
  rw [← hr] at hch ⊢
  have hf := fun w => formFits_any e w
  have hn := fun w => numbersFit_any e w
  have hbl := fun w => below_any e.k 6 w
  clear hr
  go_enter Try.func26, Try.ntmps26
  go_upto_region 1 with fail
  obtain ⟨w1, hw1⟩ : ∃ w1, w1 = w.alloc (.cells (evC e) 45) := ⟨_, rfl⟩
  have hrow : EvB w1 w.heap.size e := by rw [hw1]; exact heap_alloc_new _ _
  have hb1 : Below w.heap.size w w1 := by rw [hw1]; exact (Below.refl _ _).alloc (Nat.le_refl _) _
  show Code.wp _ _ _ _ (w.alloc (.cells (evC e) 45))
  rw [← hw1]
  have hg1 := hrow.lt
  obtain ⟨g, hg⟩ : ∃ g, g = w.heap.size := ⟨_, rfl⟩
  rw [← hg] at hrow hg1 ⊢
  clear hw1 hg
  have c0 := hrow.cells.1
  have hsE := ev_size e
  obtain ⟨es, hes⟩ : ∃ es, es = evC e := ⟨_, rfl⟩
  rw [show evV e = .agg es by rw [hes]; rfl] at hf hn
  have hrow1 : w1.heap[g]? = some (.cells es 45 (0, 0)) := by rw [hes]; exact hrow
  rw [← hes] at hsE
  have HR := Lib.hid hrow
  clear hes hrow
  by_cases hk : 0 ≤ e.k ∧ e.k < 6
  case neg =>
    have d0 : (decide (0 ≤ e.k) && decide (e.k < 6)) = false := by rw [Bool.eq_false_iff]; simp; omega
    rw [d0] at hbl hch
    rw [if_neg (by simp)] at hch
    subst hch
    clear d0
    go_wp2_with fail
    refine (hbl _).mono ?_
    rintro en w2 ⟨rfl, rfl⟩
    go_wp2_with fail
    go_ret
    exact ⟨rfl, hb1⟩
  have hf := fun w => hf w hk
  have hn := fun w => hn w hk
  have d0 : (decide (0 ≤ e.k) && decide (e.k < 6)) = true := by simp; omega
  rw [d0] at hbl hch
  rw [if_pos rfl] at hch
  clear d0
  generalize frmE e = q1 at hf hch
  generalize numE e = q2 at hn hch
  cases q1
  · rw [if_neg (by simp)] at hch
    subst hch
    go_wp2_with (refine wpList_load_row rfl 45 (.tmp 1) rfl g rfl 45 _ (0, 0) _ hrow1 Try.underlying45 rfl hsE ?_)
    refine (hbl _).mono ?_
    rintro en w2 ⟨rfl, rfl⟩
    go_wp2_with (refine wpList_load_row rfl 45 (.tmp 1) rfl g rfl 45 _ (0, 0) _ hrow1 Try.underlying45 rfl hsE ?_)
    refine (hf _).mono ?_
    rintro en w2 ⟨rfl, hb2⟩
    go_wp2_with fail
    go_ret
    exact ⟨rfl, keepB hb2 hb1⟩
  rw [if_pos rfl] at hch
  go_wp2_with fail
  refine (hbl _).mono ?_
  rintro en w2 ⟨rfl, rfl⟩
  go_wp2_with (refine wpList_load_row rfl 45 (.tmp 1) rfl g rfl 45 _ (0, 0) _ hrow1 Try.underlying45 rfl hsE ?_)
  refine (hf _).mono ?_
  rintro en w2 ⟨rfl, hb2⟩
  have hrow2 := (hb2.block g hg1).trans hrow1
  have hbb := keepB hb2 hb1
  go_wp2_with (refine wpList_load_row rfl 45 (.tmp 1) rfl g rfl 45 _ (0, 0) _ hrow2 Try.underlying45 rfl hsE ?_)
  refine (hn _).mono ?_
  rintro en w3 ⟨rfl, hb3⟩
  have hbc := keepB hb3 hbb
  cases q2
  · rw [if_neg (by simp)] at hch
    subst hch
    go_wp2_with fail
    go_ret
    exact ⟨rfl, hbc⟩
  · rw [if_pos rfl] at hch
    subst hch
    go_wp2_with fail
    go_ret
    exact ⟨rfl, hbc⟩
end Go.Proofs.Ytmneajmedopheaa
namespace Go.Proofs.Ytmneajmedopheaa
open Go.RowKit Ex
set_option maxRecDepth 100000
/-- A list as it comes in. -/
structure LsIn (w : World) (A : Option Addr) (n c : Nat) (l : List Int) : Prop where
  N : Nums .i64 w w.heap.size A n l
  cap : n ≤ c
  few : n ≤ 1000
  wf : ∀ x ∈ l, -9223372036854775808 ≤ x ∧ x ≤ 9223372036854775807
abbrev I64 (x : Int) : Prop := -9223372036854775808 ≤ x ∧ x ≤ 9223372036854775807
theorem LsIn.grow {w w' : World} {A : Option Addr} {n c : Nat} {l : List Int} (h : LsIn w A n c l) (hb : Below w.heap.size w w') : LsIn w' A n c l := ⟨(h.N.below hb).more hb.size, h.cap, h.few, h.wf⟩
/-- An answer: a list, if there is one; else none, and the error k. -/
def LstR (ok : Prop) (l : List Int) (k : Int) (w : World) (e : Ending) (w' : World) : Prop := Below w.heap.size w w' ∧
  ((ok ∧ ∃ A n c, e = .returned (.tuple #[.slice A n c, .nilIface]) ∧ Mine w' w.heap.size A n c l) ∨ (¬ ok ∧ ∃ A c, e = .returned (.tuple #[.slice A 0 c, errV k])))
def Within (n : Nat) (x : Int) : Prop := 0 ≤ x ∧ x < n
/-- What Remove answers: the list without a place, and what stood there. -/
def RemR (n : Nat) (p : Int) (l : List Int) (w : World) (e : Ending) (w' : World) : Prop := Below w.heap.size w w' ∧
  ((Within n p ∧ ∃ A' n' c', e = .returned (.tuple #[.slice A' n' c', .int .i64 (l.getD p.toNat 0), .nilIface]) ∧ Mine w' w.heap.size A' n' c' (rmL l p.toNat)) ∨ (¬ Within n p ∧ ∃ A' c', e = .returned (.tuple #[.slice A' 0 c', .int .i64 0, errV 1])))
end Go.Proofs.Ytmneajmedopheaa
namespace Go.Proofs.Ytmneajmedopheaa
open Go.RowKit Ex
set_option maxRecDepth 100000
instance (n : Nat) (p : Int) : Decidable (Within n p) := inferInstanceAs (Decidable (_ ∧ _))
theorem has_any (A : Option Addr) (n c : Nat) (p : Int) (w : World) : Calls Try.prog 57 #[.slice A n c, .int .i64 p] w fun e w' => e = .returned (.bool (decide (Within n p))) ∧ w' = w := by
  obtain ⟨q, hq⟩ : ∃ q, q = decide (Within n p) := ⟨_, rfl⟩
  rw [← hq]
  by_cases h0 : 0 ≤ p
  · have d0 : decide (0 ≤ p) = true := decide_eq_true h0
    have d1 : decide (p < (n : Int)) = q := by rw [hq]; unfold Within; simp [h0]
    clear hq h0
    go_enter Try.func57, Try.ntmps57
    go_wp2_with fail
    go_ret
    exact ⟨rfl, rfl⟩
  · have d0 : decide (0 ≤ p) = false := decide_eq_false h0
    obtain rfl : q = false := by rw [hq]; exact decide_eq_false (fun h => h0 h.1)
    clear hq h0
    go_enter Try.func57, Try.ntmps57
    go_wp2_with fail
    go_ret
    exact ⟨rfl, rfl⟩
/-- A block of bools reads as l. -/
def Bools (w : World) (g : Nat) (l : List Bool) : Prop := w.heap[g]? = some (.cells (l.map Value.bool).toArray 4 (0, 0))
theorem Bools.at_ {w : World} {g : Nat} {l : List Bool} (h : Bools w g l) {i : Nat} (hi : i < l.length) : w.cell? ⟨g, i, none⟩ = some (.bool l[i]) := by
  rw [cell_of_row w g i _ _ _ h]; simp [hi]
theorem Bools.set_ {w : World} {g : Nat} {l : List Bool} (h : Bools w g l) (i : Nat) (b : Bool) : Bools (w.setCell ⟨g, i, none⟩ (.bool b)) g (l.set i b) := by
  unfold Bools
  rw [heap_setCell_same w g i _ _ _ h]
  simp [List.map_set]
theorem Bools.keep {w w' : World} {g : Nat} {l : List Bool} (h : Bools w g l) (hb : Below w.heap.size w w') : Bools w' g l := (hb.block g (Array.getElem?_eq_some_iff.1 h).1).trans h
end Go.Proofs.Ytmneajmedopheaa
namespace Go.Proofs.Ytmneajmedopheaa
open Go.RowKit Ex
set_option maxRecDepth 100000
set_option maxHeartbeats 4000000 in
theorem grow_nil (n : Nat) (w : World) (hn : n ≤ 1000000) : Calls Try.prog 55 #[.slice none 0 0, .int .i64 (n : Int)] w fun e w' => ∃ A c, e = .returned (.slice A 0 c) ∧ OB w A 0 c [] w' := by
  obtain ⟨i0, hi, hz0, hz1, hz2⟩ := info_parts info_int
  have h1 : decide ((n : Int) < 0) = false := by simp
  by_cases h0 : n = 0
  · subst h0
    go_enter Try.func55, Try.ntmps55
    go_wp2_with fail
    go_ret
    exact ⟨_, _, rfl, Own.nil _, Below.refl _ _⟩
  · have h2 : decide (0 < (n : Int)) = true := by simp; omega
    have hrz : ∀ ty, (Builtin.append_ #[23, 3] ty #[.slice none 0 0, .int .i64 (n : Int)]).run Try.prog w =
        .ok (.slice (some ⟨w.heap.size, 0, none⟩) n (grownCap w n 0 3)) (w.drew.alloc (.cells (#[] ++ Builtin.zeroCells (Value.int .i64 0).cells n ++ Builtin.zeroCells (Value.int .i64 0).cells (grownCap w n 0 3 - n)) 3)) := fun ty => by
      have h := Lib.run_append_grow_zeros w 23 3 ty 3 i0 (.int .i64 0) .i64 .i64 Try.underlying23 Try.underlying3 hi hz0 none 0 0 [] (run_firstCells_none w.drew i0.size 0 0 0) n (by omega) (by omega) (by omega) (by omega) (by rw [hz2]; omega)
        (by rw [Nat.zero_add]; exact growslice_fits (by omega) (by rw [hz2]; omega))
      rw [Nat.zero_add] at h
      exact h
    have hGn : n ≤ grownCap w n 0 3 := grownCap_ge w _ _ _
    have hGm : grownCap w n 0 3 ≤ maxLen := grownCap_le_maxLen w n 0 3 (by unfold maxLen; omega)
    obtain ⟨G, hG⟩ : ∃ G, G = grownCap w n 0 3 := ⟨_, rfl⟩
    rw [← hG] at hrz hGn hGm
    clear hG
    obtain ⟨cs, hcs⟩ : ∃ cs, cs = (#[] ++ Builtin.zeroCells (Value.int .i64 0).cells n ++ Builtin.zeroCells (Value.int .i64 0).cells (G - n)) := ⟨_, rfl⟩
    rw [← hcs] at hrz
    have hsz : cs.size = G * 1 := by rw [hcs]; simp [Builtin.zeroCells, Value.cells]; omega
    have hfin : OB w (some ⟨w.heap.size, 0, none⟩) 0 G [] (w.drew.alloc (.cells cs 3)) :=
      ⟨⟨rfl, World.ownsRow_made w.drew cs G (Nat.le_refl _) hGm hsz⟩, ((Below.refl _ _).drew).alloc (Nat.le_refl _) _⟩
    clear hcs hsz
    go_enter Try.func55, Try.ntmps55
    go_wp2_with (at_builtin; refine Lib.wpList_append_run _ rfl _ _ _ _ rfl _ _ rfl rfl _ _ (hrz _) ?_)
    go_ret
    exact ⟨_, _, rfl, hfin⟩
/-- A part of what is laid together: a slice, and the list that it reads as. -/
structure Part where
  A : Option Addr
  n : Nat
  c : Nat
  l : List Int
def catP (ps : List Part) : List Int := ps.flatMap Part.l
theorem catP_step {ps : List Part} {k : Nat} {p : Part} (h : ps[k]? = some p) : catP (ps.take (k + 1)) = catP (ps.take k) ++ p.l := by
  unfold catP
  rw [List.take_add_one, h, List.flatMap_append]
  simp
theorem catP_le (ps : List Part) (k : Nat) : (catP (ps.take k)).length ≤ (catP ps).length := by
  have h : catP ps = catP (ps.take k) ++ catP (ps.drop k) := by unfold catP; rw [← List.flatMap_append, List.take_append_drop]
  rw [h, List.length_append]; omega
/-- The row of slices at block g. -/
def Parts (w : World) (g : Nat) (ps : List Part) : Prop := g < w.heap.size ∧ ∀ i p, ps[i]? = some p → w.cell? ⟨g, i, none⟩ = some (.slice p.A p.n p.c) ∧ Nums .i64 w w.heap.size p.A p.n p.l
theorem Parts.keep {w w' : World} {g : Nat} {ps : List Part} (h : Parts w g ps) (hb : Below w.heap.size w w') : Parts w' g ps :=
  ⟨Nat.lt_of_lt_of_le h.1 hb.size, fun i p hi => ⟨(hb.cell h.1).trans (h.2 i p hi).1, ((h.2 i p hi).2.below hb).more hb.size⟩⟩
set_option maxHeartbeats 1000000 in
theorem concat_any (g m c : Nat) (ps : List Part) (w : World) (hP : Parts w g ps) (hm : ps.length = m) (hm8 : m ≤ 1000) (hlen : (catP ps).length ≤ 1000000) :
    Calls Try.prog 45 #[.slice (some ⟨g, 0, none⟩) m c] w (OwnQ (catP ps) w) := by
  have HP := Lib.hid hP
  clear hP
  go_enter Try.func45, Try.ntmps45
  go_upto_region 3 with fail
  go_loopw [3, 11] (fun s i wr => ∃ k : Nat, i = .int .i64 ((k : Nat) : Int) ∧ s = .int .i64 (((catP (ps.take k)).length : Nat) : Int) ∧ k ≤ m ∧ wr = w) (fun _ i _ => m - (intOf i).toNat)
  case atStart => exact ⟨0, rfl, by simp [catP], by omega, rfl⟩
  case round =>
    obtain ⟨k, rfl, rfl, hk, hwr⟩ := hrel
    subst wr
    by_cases hlt : k < m
    · have hd : decide ((k : Int) < (m : Int)) = true := by simp; omega
      obtain ⟨p, hp⟩ : ∃ p, ps[k]? = some p := ⟨_, List.getElem?_eq_getElem (by omega)⟩
      obtain ⟨hc, hN⟩ := HP.out.2 k p hp
      have hst := congrArg List.length (catP_step hp)
      rw [List.length_append, hN.len] at hst
      have hle := catP_le ps (k + 1)
      have hle2 : (catP (ps.take (k + 1))).length ≤ 1000000 := by omega
      obtain ⟨s, hs⟩ : ∃ s, s = (catP (ps.take k)).length := ⟨_, rfl⟩
      obtain ⟨s2, hs2⟩ : ∃ s2, s2 = (catP (ps.take (k + 1))).length := ⟨_, rfl⟩
      obtain ⟨A1, n1, c1, l1⟩ := p
      simp only at hc hst hN
      rw [← hs, ← hs2] at hst
      rw [← hs2] at hle2
      rw [← hs]
      have HS := Lib.hid hs2
      have HT := Lib.hid (show (s : Int) + (n1 : Int) = (s2 : Int) by omega)
      have g0 : (0 : Int) ≤ (k : Int) := by omega
      have g1 : (k : Int) < (m : Int) := by omega
      have e1 : IntKind.i64.wrap ((s : Int) + (n1 : Int)) = (s2 : Int) := by rw [HT.out]; exact i64_in (by omega) (by omega)
      have d1 : decide ((s2 : Int) < 0) = false := by simp
      clear hs hs2 hst hp hN hle
      go_wp2_with fail
      go_roundw
      case rel => exact ⟨k + 1, by go_num, by rw [← HS.out], by omega, by trivial⟩
      case measure => simp [intOf]; omega
    · obtain rfl : k = m := by omega
      have hd : decide ((k : Int) < (k : Int)) = false := by simp
      have hfull : catP (ps.take k) = catP ps := by rw [← hm, List.take_length]
      rw [hfull]
      obtain ⟨s, hs⟩ : ∃ s, s = (catP ps).length := ⟨_, rfl⟩
      rw [← hs] at hlen
      rw [← hs]
      have HS := Lib.hid hs
      clear hs hfull
      have hgn := grow_nil s w hlen
      go_wp2_with fail
      refine hgn.mono ?_
      rintro e w1 ⟨A1, c1, rfl, hO1⟩
      clear hgn
      go_upto_region 11 with fail
      clear hd
      go_loopw [6, 27] (fun o i wx => ∃ (j m2 cc : Nat) (A' : Option Addr), i = .int .i64 ((j : Nat) : Int) ∧ o = .slice A' m2 cc ∧ j ≤ k ∧ OB w A' m2 cc (catP (ps.take j)) wx) (fun _ i _ => k - (intOf i).toNat)
      case atStart => exact ⟨0, 0, _, _, rfl, rfl, by omega, by simpa [catP] using hO1⟩
      case round =>
        obtain ⟨j, m2, cc, A4, rfl, rfl, hj, hO⟩ := hrel
        have HO := Lib.hid hO
        have hO1 := 0
        by_cases hlt2 : j < k
        · have hd : decide ((j : Int) < (k : Int)) = true := by simp; omega
          obtain ⟨p, hp⟩ : ∃ p, ps[j]? = some p := ⟨_, List.getElem?_eq_getElem (by omega)⟩
          have hst := catP_step hp
          have hle := catP_le ps (j + 1)
          obtain ⟨A2, n2, c2, l2⟩ := p
          obtain ⟨hc0, hN0⟩ := HP.out.2 j _ hp
          have hc := (hO.b.cell (show g < w.heap.size from HP.out.1)).trans hc0
          have hN := hN0.below hO.b
          simp only at hc hst hN
          have hlo := hO.own.len
          have hln := hN.len
          have hsum : m2 + n2 ≤ 1000000 := by rw [hst, List.length_append] at hle; have := HS.out; omega
          have HST := Lib.hid hst
          have g0 : (0 : Int) ≤ (j : Int) := by omega
          have g1 : (j : Int) < (k : Int) := by omega
          obtain ⟨i0, hi, hz0, hz1, hz2⟩ := info_parts info_int
          clear hst hp hN0 hc0 hle
          have hbs := hO.b.size
          go_wp2_with (at_builtin; refine wpList_app rfl _ _ _ rfl .i64 w.heap.size 3 i0 _ 8 Try.underlying23 hi hz0 hz1 hz2 rfl A4 m2 cc _ rfl hO.own _ A2 n2 c2 l2 rfl hN (by omega) (by omega) hbs ?_; intro A5 c5 w5 ho5 hg5)
          have hO5 : OB w A5 (m2 + n2) c5 (catP (ps.take (j + 1))) w5 := by rw [HST.out]; exact ⟨ho5, HO.out.own.belowGrown HO.out.b hbs hg5⟩
          go_roundw
          case rel => exact ⟨j + 1, _, _, _, by go_num, rfl, by omega, hO5⟩
          case measure => simp [intOf]; omega
        · obtain rfl : j = k := by omega
          have hd : decide ((j : Int) < (j : Int)) = false := by simp
          have HE := Lib.hid (show catP (ps.take j) = catP ps by rw [← hm, List.take_length])
          go_wp2_with fail
          go_ret
          rw [← HE.out]
          exact ⟨_, _, _, rfl, HO.out.own, HO.out.b⟩
end Go.Proofs.Ytmneajmedopheaa
namespace Go.Proofs.Ytmneajmedopheaa
open Go.RowKit Ex
set_option maxRecDepth 100000
/-- Objects in a block of the call's own. -/
structure OwnO (W : World) (base : Nat) (A : Option Addr) (n c : Nat) (l : List (Nat → Int)) : Prop where
  len : n = l.length
  o : W.ownsRow base 52 18 (.slice A n c) n (flatO l)
theorem OwnO.slO {W : World} {base : Nat} {A : Option Addr} {n c : Nat} {l : List (Nat → Int)} (h : OwnO W base A n c l) : SlO W base ⟨A, n, c⟩ l := by
  obtain ⟨A', c', e, hs⟩ := slO_of_own h.o h.len
  injection e with e1 _ e3
  subst e1 e3
  exact hs
theorem OwnO.below {W W' : World} {base : Nat} {A : Option Addr} {n c : Nat} {l : List (Nat → Int)} (h : OwnO W base A n c l) (hb : Below W.heap.size W W') : OwnO W' base A n c l :=
  ⟨h.len, owns_keep h.o fun j hj => hb.block j (h.o.lt j hj).2⟩
theorem OwnO.low {W : World} {base b : Nat} {A : Option Addr} {n c : Nat} {l : List (Nat → Int)} (h : OwnO W base A n c l) (hb : b ≤ base) : OwnO W b A n c l := by
  refine ⟨h.len, h.o.1, ?_⟩
  rcases h.o.2 with hv | ⟨g, cap, cur, hv, hbs, rest⟩
  · exact .inl hv
  · exact .inr ⟨g, cap, cur, hv, Nat.le_trans hb hbs, rest⟩
theorem OwnO.grown {w W W' : World} {base : Nat} {A : Option Addr} {n c : Nat} {l : List (Nat → Int)} (h : OwnO W base A n c l) (hb : Below base w W) (hbs : base ≤ W.heap.size) (hg : W.grownBy W' (Value.slice A n c).ownBlock) : Below base w W' :=
  hb.grown hg hbs (fun j hj => (h.o.lt j hj).1)
/-- append of any objects to objects of the call's own. -/
theorem wpList_appOG {ops : Array Oper} {rest : List Oper} {o : Oper} {a : Act} {w : World} {Q : Exit → Act → World → Prop} (hgd : o.guard = none) (s x : Operand)
    (ho : o.op = .call { callee := .builtin .append, args := #[s, x], argTypes := #[22, 22] })
    (base : Nat) (A : Option Addr) (n c : Nat) (l : List (Nat → Int)) (hs : a.eval s = .slice A n c) (h : OwnO w base A n c l)
    (B : Nat) (A2 : Option Addr) (m c2 : Nat) (l2 : List (Nat → Int)) (hx : a.eval x = .slice A2 m c2) (hr : RdO B w A2 l2) (hl : m = l2.length) (hn : n + m ≤ 1000000) (hbase : base ≤ w.heap.size)
    (hK : ∀ A' c' w', OwnO w' base A' (n + m) c' (l ++ l2) → w.grownBy w' (Value.slice A n c).ownBlock → wpList Try.prog ops Q rest (a.put o.dst (.slice A' (n + m) c')) w') :
    wpList Try.prog ops Q (o :: rest) a w := by
  obtain ⟨i0, hi, hz0, hz1, hz2⟩ := info_parts info_obj
  rcases A2 with _ | ad
  · have hl0 : l2 = [] := by
      cases l2 with
      | nil => rfl
      | cons y r => obtain ⟨b, off, e, _⟩ := hr 0 y rfl; cases e
    subst hl0
    obtain rfl : m = 0 := hl
    have hrun : (Builtin.append_ #[22, 22] o.type #[.slice A n c, .slice none 0 c2]).run Try.prog w = .ok (.slice A n c) w := by
      rcases h.o.2 with ⟨hv, hn0⟩ | ⟨g, cap, cur, hv, _, _, hnc, _⟩
      · rw [hv]
        simp [Builtin.append_, run_underlying Try.underlying22, sizeOf, typeInfo, hi, Builtin.lenOf, Builtin.firstCells]
      · rw [hv]
        simp [Builtin.append_, run_underlying Try.underlying22, sizeOf, typeInfo, hi, Builtin.lenOf, Builtin.firstCells, hnc, storeCells]
    refine wpList_plain hgd fun K hK' => ?_
    unfold Oper.wp execOp
    simp only [ho, resolve, invoke, builtin, Sem.run_bind, Sem.run_pure, Result.andThen_ok, List.map_toArray, List.map_cons, List.map_nil, hs, hx, hrun]
    exact hK' _ _ (hK A c w (by rw [List.append_nil]; exact h) (World.grownBy.refl w _))
  · refine wpList_append_own_at w hgd s x 22 ho base 52 i0 _ 18 144 Try.underlying22 hi hz0 hz1 hz2 (show (arr .i64 18 fun _ => 0).size = 18 by rw [arr_size]) (by omega) _ n (flatO l) hs h.o ad m c2 (flatO l2) hx (by rw [flatO_len, hl])
      (fun j u hj => ?_) (flatO_one l2) (by unfold maxLen; omega) (by omega) hbase ?_
    · obtain ⟨o, h1, h2⟩ := flatO_of hj
      obtain ⟨b, off, ea, _, hra⟩ := hr _ _ h1
      injection ea with ea
      subst ea
      rw [Addr.add_mid, show off + j = off + j / 18 * 18 + j % 18 by omega]
      exact hra _ _ h2
    · intro v' w' hown hgr _ _
      rw [← show flatO (l ++ l2) = flatO l ++ flatO l2 by simp [flatO]] at hown
      have hform : ∃ A' c', v' = .slice A' (n + m) c' := by
        rcases hown.2 with ⟨rfl, hz⟩ | ⟨g', cap, _, rfl, _⟩
        · exact ⟨none, 0, by rw [hz]⟩
        · exact ⟨_, _, rfl⟩
      obtain ⟨A', c', rfl⟩ := hform
      exact hK A' c' w' ⟨by rw [List.length_append, ← hl, ← h.len], hown⟩ hgr
theorem ownO_empty (w : World) (base : Nat) (hb : base ≤ w.heap.size) : OwnO (w.alloc (.cells #[] 52)) base (some ⟨w.heap.size, 0, none⟩) 0 0 [] := ⟨rfl, obj_empty w base hb⟩
theorem RdO.nil_of {B : Nat} {w : World} {l : List (Nat → Int)} (h : RdO B w none l) : l = [] := by
  cases l with
  | nil => rfl
  | cons y r => obtain ⟨b, off, e, _⟩ := h 0 y rfl; cases e
theorem cloneO_any (A : Option Addr) (n c : Nat) (l : List (Nat → Int)) (w : World) (B : Nat) (hR : RdO B w A l) (hB : B ≤ w.heap.size) (hl : n = l.length) (hn : n ≤ 1000000) :
    Calls Try.prog 47 #[.slice A n c] w fun en w' => ∃ A' c', en = .returned (.slice A' n c') ∧ OwnO w' w.heap.size A' n c' l ∧ Below w.heap.size w w' := by
  cases A with
  | none =>
    obtain rfl := hR.nil_of
    subst hl
    have q := fun W => Go.Lib.run_eql_slice_nil_nil (P := Try.prog) W 0 c (Try.underlying22)
    go_enter Try.func47, Try.ntmps47
    go_wp2_with fail
    go_ret
    exact ⟨none, 0, rfl, ⟨rfl, obj_nil _ _⟩, Below.refl _ _⟩
  | some a0 =>
    have hb1 : Below w.heap.size w (w.alloc (.cells #[] 52)) := (Below.refl _ _).alloc (Nat.le_refl _) _
    have q := fun W => Go.Lib.run_eql_slice_some_nil (P := Try.prog) W a0 n c (Try.underlying22)
    have ho := ownO_empty w w.heap.size (Nat.le_refl _)
    have hR1 := hR.below (hb1.mono hB)
    have HR := Lib.hid hR
    have HL := Lib.hid hl
    clear hR hl
    go_enter Try.func47, Try.ntmps47
    go_upto_region 3 with fail
    go_wp2_with (at_builtin; refine wpList_appOG rfl (.tmp 5) (.tmp 6) rfl w.heap.size (some ⟨w.heap.size, 0, none⟩) 0 0 [] rfl ho B (some a0) n c l rfl hR1 HL.out (by omega) (by simp) ?_; intro A3 c3 w2 hown3 hg3)
    have hb2 := ho.grown hb1 (by simp) hg3
    go_ret
    rw [List.nil_append, Nat.zero_add] at hown3
    exact ⟨A3, c3, by simp, hown3, hb2⟩
theorem cloneI_any (A : Option Addr) (n c : Nat) (l : List Int) (w : World) (B : Nat) (hN : Nums .i64 w B A n l) (hB : B ≤ w.heap.size) (hn : n ≤ 1000000) :
    Calls Try.prog 48 #[.slice A n c] w fun en w' => ∃ A' c', en = .returned (.slice A' n c') ∧ Own .i64 3 w' w.heap.size A' n c' l ∧ Below w.heap.size w w' := by
  obtain ⟨i0, hi, hz0, hz1, hz2⟩ := info_parts st_info_int
  cases A with
  | none =>
    have hln := hN.len
    obtain rfl : l = [] := by
      cases l with
      | nil => rfl
      | cons x r => obtain ⟨a, e, _⟩ := hN.2 0 x (by simp); cases e
    obtain rfl : n = 0 := hln.symm
    have q := fun W => Go.Lib.run_eql_slice_nil_nil (P := Try.prog) W 0 c (Try.underlying23)
    go_enter Try.func48, Try.ntmps48
    go_wp2_with fail
    go_ret
    exact ⟨none, 0, rfl, Own.nil _, Below.refl _ _⟩
  | some a0 =>
    have HN := Lib.hid hN
    clear hN
    have hb1 : Below w.heap.size w (w.alloc (.cells #[] 3)) := (Below.refl _ _).alloc (Nat.le_refl _) _
    have q := fun W => Go.Lib.run_eql_slice_some_nil (P := Try.prog) W a0 n c (Try.underlying23)
    have ho := own_empty (k := .i64) (e := 3) w w.heap.size (Nat.le_refl _)
    go_enter Try.func48, Try.ntmps48
    go_upto_region 3 with fail
    go_wp2_with (at_builtin; refine wpList_app rfl (.tmp 5) (.tmp 6) _ rfl .i64 w.heap.size 3 i0 _ 8 Try.underlying23 hi hz0 hz1 hz2 rfl (some ⟨w.heap.size, 0, none⟩) 0 0 [] rfl ho B (some a0) n c l rfl (HN.out.belowL hb1 hB) (by omega) (by omega) (by simp) ?_; intro A3 c3 w2 hown3 hg3)
    have hb2 := ho.belowGrown hb1 (by simp) hg3
    go_ret
    rw [List.nil_append, Nat.zero_add] at hown3
    exact ⟨A3, c3, by simp, hown3, hb2⟩
end Go.Proofs.Ytmneajmedopheaa
namespace Go.Proofs.Ytmneajmedopheaa
open Go.RowKit Ex
set_option maxRecDepth 100000
structure OBO (w : World) (A : Option Addr) (m c : Nat) (l : List (Nat → Int)) (W : World) : Prop where
  own : OwnO W w.heap.size A m c l
  b : Below w.heap.size w W
theorem zero_size18 (k : Nat) : (Builtin.zeroCells (Value.agg (arr .i64 18 fun _ => 0)).cells k).size = k * 18 := by
  simp [Builtin.zeroCells, Value.cells, arr_size]
set_option maxHeartbeats 4000000 in
theorem growO_nil (n : Nat) (w : World) (hn : n ≤ 1000000) : Calls Try.prog 54 #[.slice none 0 0, .int .i64 (n : Int)] w fun e w' => ∃ A c, e = .returned (.slice A 0 c) ∧ OBO w A 0 c [] w' := by
  obtain ⟨i0, hi, hz0, hz1, hz2⟩ := info_parts info_obj
  have h1 : decide ((n : Int) < 0) = false := by simp
  by_cases h0 : n = 0
  · subst h0
    go_enter Try.func54, Try.ntmps54
    go_wp2_with fail
    go_ret
    exact ⟨_, _, rfl, ⟨rfl, obj_nil _ _⟩, Below.refl _ _⟩
  · have h2 : decide (0 < (n : Int)) = true := by simp; omega
    have hrz : ∀ ty, (Builtin.append_ #[22, 3] ty #[.slice none 0 0, .int .i64 (n : Int)]).run Try.prog w =
        .ok (.slice (some ⟨w.heap.size, 0, none⟩) n (grownCap w n 0 52)) (w.drew.alloc (.cells (#[] ++ Builtin.zeroCells (Value.agg (arr .i64 18 fun _ => 0)).cells n ++ Builtin.zeroCells (Value.agg (arr .i64 18 fun _ => 0)).cells (grownCap w n 0 52 - n)) 52)) := fun ty => by
      have h := Lib.run_append_grow_zeros w 22 3 ty 52 i0 (.agg (arr .i64 18 fun _ => 0)) .i64 .i64 Try.underlying22 Try.underlying3 hi hz0 none 0 0 [] (run_firstCells_none w.drew i0.size 0 0 0) n (by omega) (by omega) (by omega) (by omega) (by rw [hz2]; omega)
        (by rw [Nat.zero_add]; exact growslice_fits (by omega) (by rw [hz2]; omega))
      rw [Nat.zero_add] at h
      exact h
    have hGn : n ≤ grownCap w n 0 52 := grownCap_ge w _ _ _
    have hGm : grownCap w n 0 52 ≤ maxLen := grownCap_le_maxLen w n 0 52 (by unfold maxLen; omega)
    obtain ⟨G, hG⟩ : ∃ G, G = grownCap w n 0 52 := ⟨_, rfl⟩
    rw [← hG] at hrz hGn hGm
    clear hG
    obtain ⟨cs, hcs⟩ : ∃ cs, cs = (#[] ++ Builtin.zeroCells (Value.agg (arr .i64 18 fun _ => 0)).cells n ++ Builtin.zeroCells (Value.agg (arr .i64 18 fun _ => 0)).cells (G - n)) := ⟨_, rfl⟩
    rw [← hcs] at hrz
    have hsz : cs.size = G * 18 := by rw [hcs, Array.size_append, Array.size_append, zero_size18, zero_size18]; simp; omega
    have hfin : OBO w (some ⟨w.heap.size, 0, none⟩) 0 G [] (w.drew.alloc (.cells cs 52)) :=
      ⟨⟨rfl, World.ownsRow_made w.drew cs G (Nat.le_refl _) hGm hsz⟩, ((Below.refl _ _).drew).alloc (Nat.le_refl _) _⟩
    clear hcs hsz
    go_enter Try.func54, Try.ntmps54
    go_wp2_with (at_builtin; refine Lib.wpList_append_run _ rfl _ _ _ _ rfl _ _ rfl rfl _ _ (hrz _) ?_)
    go_ret
    exact ⟨_, _, rfl, hfin⟩
/-- A part of what is laid together: a slice, and the objects that it reads as. -/
structure PartO where
  A : Option Addr
  n : Nat
  c : Nat
  l : List (Nat → Int)
def catO (ps : List PartO) : List (Nat → Int) := ps.flatMap PartO.l
theorem catO_step {ps : List PartO} {k : Nat} {p : PartO} (h : ps[k]? = some p) : catO (ps.take (k + 1)) = catO (ps.take k) ++ p.l := by
  unfold catO
  rw [List.take_add_one, h, List.flatMap_append]
  simp
theorem catO_le (ps : List PartO) (k : Nat) : (catO (ps.take k)).length ≤ (catO ps).length := by
  have h : catO ps = catO (ps.take k) ++ catO (ps.drop k) := by unfold catO; rw [← List.flatMap_append, List.take_append_drop]
  rw [h, List.length_append]; omega
/-- The row of slices at block g. -/
def PartsO (w : World) (g : Nat) (ps : List PartO) : Prop := g < w.heap.size ∧ ∀ i p, ps[i]? = some p → w.cell? ⟨g, i, none⟩ = some (.slice p.A p.n p.c) ∧ RdO w.heap.size w p.A p.l ∧ p.n = p.l.length
theorem parts2O {W : World} {p1 p2 : PartO} (h1 : RdO W.heap.size W p1.A p1.l) (h2 : RdO W.heap.size W p2.A p2.l) (n1 : p1.n = p1.l.length) (n2 : p2.n = p2.l.length) (e : TypeId) :
    PartsO (W.alloc (.cells #[.slice p1.A p1.n p1.c, .slice p2.A p2.n p2.c] e)) W.heap.size [p1, p2] := by
  have hb : Below W.heap.size W (W.alloc (.cells #[.slice p1.A p1.n p1.c, .slice p2.A p2.n p2.c] e)) := (Below.refl _ _).alloc (Nat.le_refl _) _
  refine ⟨by simp, fun i p hi => ⟨?_, ?_⟩⟩
  · rw [cell_of_row _ W.heap.size i _ e (0, 0) (heap_alloc_new _ _)]
    match i, hi with
    | 0, hi => simp at hi; simp [← hi]
    | 1, hi => simp at hi; simp [← hi]
    | k + 2, hi => simp at hi
  · match i, hi with
    | 0, hi => simp at hi; rw [← hi]; exact ⟨(h1.below hb).more hb.size, n1⟩
    | 1, hi => simp at hi; rw [← hi]; exact ⟨(h2.below hb).more hb.size, n2⟩
    | k + 2, hi => simp at hi
set_option maxHeartbeats 1000000 in
theorem concatO_any (g m c : Nat) (ps : List PartO) (w : World) (hP : PartsO w g ps) (hm : ps.length = m) (hm8 : m ≤ 1000) (hlen : (catO ps).length ≤ 1000000) :
    Calls Try.prog 43 #[.slice (some ⟨g, 0, none⟩) m c] w fun en w' => ∃ A n c, en = .returned (.slice A n c) ∧ OwnO w' w.heap.size A n c (catO ps) ∧ Below w.heap.size w w' := by
  have HP := Lib.hid hP
  clear hP
  go_enter Try.func43, Try.ntmps43
  go_upto_region 3 with fail
  go_loopw [3, 11] (fun s i wr => ∃ k : Nat, i = .int .i64 ((k : Nat) : Int) ∧ s = .int .i64 (((catO (ps.take k)).length : Nat) : Int) ∧ k ≤ m ∧ wr = w) (fun _ i _ => m - (intOf i).toNat)
  case atStart => exact ⟨0, rfl, by simp [catO], by omega, rfl⟩
  case round =>
    obtain ⟨k, rfl, rfl, hk, hwr⟩ := hrel
    subst wr
    by_cases hlt : k < m
    · have hd : decide ((k : Int) < (m : Int)) = true := by simp; omega
      obtain ⟨p, hp⟩ : ∃ p, ps[k]? = some p := ⟨_, List.getElem?_eq_getElem (by omega)⟩
      obtain ⟨hc, _, hN⟩ := HP.out.2 k p hp
      have hst := congrArg List.length (catO_step hp)
      rw [List.length_append, ← hN] at hst
      have hle := catO_le ps (k + 1)
      have hle2 : (catO (ps.take (k + 1))).length ≤ 1000000 := by omega
      obtain ⟨s, hs⟩ : ∃ s, s = (catO (ps.take k)).length := ⟨_, rfl⟩
      obtain ⟨s2, hs2⟩ : ∃ s2, s2 = (catO (ps.take (k + 1))).length := ⟨_, rfl⟩
      obtain ⟨A1, n1, c1, l1⟩ := p
      simp only at hc hst hN
      rw [← hs, ← hs2] at hst
      rw [← hs2] at hle2
      rw [← hs]
      have HS := Lib.hid hs2
      have HT := Lib.hid (show (s : Int) + (n1 : Int) = (s2 : Int) by omega)
      have g0 : (0 : Int) ≤ (k : Int) := by omega
      have g1 : (k : Int) < (m : Int) := by omega
      have e1 : IntKind.i64.wrap ((s : Int) + (n1 : Int)) = (s2 : Int) := by rw [HT.out]; exact i64_in (by omega) (by omega)
      have d1 : decide ((s2 : Int) < 0) = false := by simp
      clear hs hs2 hst hp hN hle
      go_wp2_with fail
      go_roundw
      case rel => exact ⟨k + 1, by go_num, by rw [← HS.out], by omega, by trivial⟩
      case measure => simp [intOf]; omega
    · obtain rfl : k = m := by omega
      have hd : decide ((k : Int) < (k : Int)) = false := by simp
      have hfull : catO (ps.take k) = catO ps := by rw [← hm, List.take_length]
      rw [hfull]
      obtain ⟨s, hs⟩ : ∃ s, s = (catO ps).length := ⟨_, rfl⟩
      rw [← hs] at hlen
      rw [← hs]
      have HS := Lib.hid hs
      clear hs hfull
      have hgn := growO_nil s w hlen
      go_wp2_with fail
      refine hgn.mono ?_
      rintro e w1 ⟨A1, c1, rfl, hO1⟩
      clear hgn
      go_upto_region 11 with fail
      clear hd
      go_loopw [6, 27] (fun o i wx => ∃ (j m2 cc : Nat) (A' : Option Addr), i = .int .i64 ((j : Nat) : Int) ∧ o = .slice A' m2 cc ∧ j ≤ k ∧ Hid (OBO w A' m2 cc (catO (ps.take j)) wx)) (fun _ i _ => k - (intOf i).toNat)
      case atStart => exact ⟨0, 0, _, _, rfl, rfl, by omega, Lib.hid (by simpa [catO] using hO1)⟩
      case round =>
        obtain ⟨j, m2, cc, A4, rfl, rfl, hj, HO⟩ := hrel
        have hO1 := 0
        by_cases hlt2 : j < k
        · have hd : decide ((j : Int) < (k : Int)) = true := by simp; omega
          obtain ⟨p, hp⟩ : ∃ p, ps[j]? = some p := ⟨_, List.getElem?_eq_getElem (by omega)⟩
          have hst := catO_step hp
          have hle := catO_le ps (j + 1)
          obtain ⟨A2, n2, c2, l2⟩ := p
          obtain ⟨hc0, hR0, hN0⟩ := HP.out.2 j _ hp
          have hc := (HO.out.b.cell (show g < w.heap.size from HP.out.1)).trans hc0
          have hR := hR0.below HO.out.b
          simp only at hc hst hR hN0
          have hlo := HO.out.own.len
          have hsum : m2 + n2 ≤ 1000000 := by rw [hst, List.length_append] at hle; have := HS.out; omega
          have HST := Lib.hid hst
          have HN0 := Lib.hid hN0
          have g0 : (0 : Int) ≤ (j : Int) := by omega
          have g1 : (j : Int) < (k : Int) := by omega
          have hbs := HO.out.b.size
          clear hst hp hR0 hc0 hle hN0 hlo
          go_wp2_with (at_builtin; refine wpList_appOG rfl _ _ rfl w.heap.size A4 m2 cc _ rfl HO.out.own _ A2 n2 c2 l2 rfl hR HN0.out hsum hbs ?_; intro A5 c5 w5 ho5 hg5)
          have hO5 := Lib.hid (show OBO w A5 (m2 + n2) c5 (catO (ps.take (j + 1))) w5 by rw [HST.out]; exact ⟨ho5, HO.out.own.grown HO.out.b hbs hg5⟩)
          go_roundw
          case rel => exact ⟨j + 1, _, _, _, by go_num, rfl, by omega, hO5⟩
          case measure => simp [intOf]; omega
        · obtain rfl : j = k := by omega
          have hd : decide ((j : Int) < (j : Int)) = false := by simp
          have HE := Lib.hid (show catO (ps.take j) = catO ps by rw [← hm, List.take_length])
          go_wp2_with fail
          go_ret
          rw [← HE.out]
          exact ⟨_, _, _, rfl, HO.out.own, HO.out.b⟩
end Go.Proofs.Ytmneajmedopheaa
namespace Go.Proofs.Ytmneajmedopheaa
open Go.RowKit Ex
set_option maxRecDepth 100000
variable {Bx : Nat}
section
variable {g base : Nat} {w w' : World}
theorem SlR.stayX {x : SlT} {l : List Int} (h : SlR w base x l) (hg : g < base) (hs : StayX Bx g w w') : SlR w' base x l := by
  refine ⟨⟨h.N.len, fun j u hu => ?_⟩, h.c, h.f.stay fun b h1 h2 => hs.block b h2 (by omega) (.inr (by omega))⟩
  obtain ⟨a, ea, h1, hcell⟩ := h.N.2 j u hu
  obtain ⟨g2, o, cs, t, e, h3, h4⟩ := h.f a ea
  have h5 := (Array.getElem?_eq_some_iff.1 h4).1
  have := hs.size
  exact ⟨a, ea, by omega, (World.cell?_of_block (by rw [addr_block, e]; exact hs.block _ h5 (by simp only; omega) (.inr (by simp only; omega)))).trans hcell⟩
theorem SlO.stayX {x : SlT} {l : List (Nat → Int)} (h : SlO w base x l) (hg : g < base) (hs : StayX Bx g w w') : SlO w' base x l := by
  refine ⟨fun j o ho => ?_, h.n, h.c, h.m, h.f.stay fun b h1 h2 => hs.block b h2 (by omega) (.inr (by omega))⟩
  obtain ⟨b, off, ea, h1, hra⟩ := h.R j o ho
  obtain ⟨g2, o2, cs, t, e, h3, h4⟩ := h.f _ ea
  injection e with e1 e2
  subst e1
  have := hs.size
  exact ⟨b, off, ea, by omega, fun k u hu => (World.cell?_of_block (hs.block b h1 (by omega) (.inr (by omega)))).trans (hra k u hu)⟩
theorem Stay.setO {b i : Nat} (h : Stay g w w') (v : Value) (hb : w.heap.size ≤ b) : Stay g w (w'.setCell ⟨b, i, none⟩ v) :=
  ⟨h.os, h.tape, h.output, by simpa using h.size, fun k hk hn => (heap_setCell_other w' ⟨b, i, none⟩ k v (by simp; omega)).trans (h.block k hk hn)⟩
theorem Stay.then (h : Stay g w w') {w'' : World} (hb : Below w'.heap.size w' w'') : Stay g w w'' := h.trans (Stay.of hb)
end
section
variable {g base : Nat} {w : World} {s : StT} {O : SlT} {L : Nat → SlT}
theorem ReadsX.objs {cs : Array Value} (h : ReadsX Bx g w cs s O L) {O' : SlT} {os : List (Nat → Int)} (ho : SlO w base O' os) (hg : g < base) (hw : ∀ o ∈ os, ∀ i < 18, N64 (o i)) : ReadsX Bx g w (stC O' L s.pl s.gm) ⟨os, s.lists, s.pl, s.gm⟩ O' L := fun w' hs => by
  have h1 := h w' hs
  have h2 := ho.stayX hg hs
  exact ⟨rfl, h2.n, h2.c, h2.m, h2.R, h1.l, h1.lc, hw, h1.lw, h1.pw, h1.gw⟩
theorem ReadsX.list {cs : Array Value} (h : ReadsX Bx g w cs s O L) {z : Nat} {x : SlT} {l : List Int} (hx : SlR w base x l) (hg : g < base) (hw : ∀ n ∈ l, N64 n) : ReadsX Bx g w (stC O (updS L z x) s.pl s.gm) ⟨s.objs, updL s.lists z l, s.pl, s.gm⟩ O (updS L z x) := fun w' hs => by
  have h1 := h w' hs
  have h2 := hx.stayX hg hs
  refine ⟨rfl, h1.on, h1.oc, h1.om, h1.o, fun y hy => ?_, fun y hy => ?_, h1.ow, fun y hy => ?_, h1.pw, h1.gw⟩
  · by_cases e : y = z
    · subst e; simp only [updS, updL, if_pos]; exact h2.N
    · simp only [updS, updL, if_neg e]; exact h1.l y hy
  · by_cases e : y = z
    · subst e; simp only [updS, if_pos]; exact h2.c
    · simp only [updS, if_neg e]; exact h1.lc y hy
  · by_cases e : y = z
    · subst e; simp only [updL, if_pos]; exact hw
    · simp only [updL, if_neg e]; exact h1.lw y hy
theorem ReadsX.nums {cs : Array Value} (h : ReadsX Bx g w cs s O L) {p q : Nat → Int} (hp : ∀ i < 18, N64 (p i)) (hq : ∀ i < 7, N64 (q i)) : ReadsX Bx g w (stC O L p q) ⟨s.objs, s.lists, p, q⟩ O L := fun w' hs => by
  have h1 := h w' hs
  exact ⟨rfl, h1.on, h1.oc, h1.om, h1.o, h1.l, h1.lc, h1.ow, h1.lw, hp, hq⟩
end
/-- What becomes of a state: what is told, if there is no error. -/
def pickS (s : StT) (r : StT × Int) : StT := if r.2 = 0 then r.1 else s
def DP (Bx : Nat) (w : World) (g : Nat) (s : StT) (r : StT × Int) (en : Ending) (w' : World) : Prop :=
  ∃ O L, en = .returned (errV r.2) ∧ StAt w' g (stC O L (pickS s r).pl (pickS s r).gm) ∧ ReadsX Bx g w' (stC O L (pickS s r).pl (pickS s r).gm) (pickS s r) O L ∧ Stay g w w'
theorem DP.no {w w' : World} {g : Nat} {s : StT} {O : SlT} {L : Nat → SlT} {r : StT × Int} (hr : r.2 ≠ 0) (ha : StAt w g (stC O L s.pl s.gm)) (hx : ReadsX Bx g w (stC O L s.pl s.gm) s O L) (hb : Below w.heap.size w w') : DP Bx w g s r (.returned (errV r.2)) w' := by
  have hp : pickS s r = s := if_neg hr
  refine ⟨O, L, rfl, ?_, ?_, Stay.of hb⟩
  · rw [hp]; exact ha.keep hb
  · rw [hp]; exact hx.stay (Stay.of hb)
theorem DP.yes {w w' : World} {g : Nat} {s t : StT} {O : SlT} {L : Nat → SlT} (ha : StAt w' g (stC O L t.pl t.gm)) (hx : ReadsX Bx g w' (stC O L t.pl t.gm) t O L) (hs : Stay g w w') : DP Bx w g s (t, 0) (.returned .nilIface) w' :=
  ⟨O, L, by rw [errV_nil], ha, hx, hs⟩
theorem DP.from {w w1 w' : World} {g : Nat} {s : StT} {r : StT × Int} {en : Ending} (h : DP Bx w1 g s r en w') (hb : Stay g w w1) : DP Bx w g s r en w' := by
  obtain ⟨O, L, h1, h2, h3, h4⟩ := h
  exact ⟨O, L, h1, h2, h3, hb.trans h4⟩
/-- What set answers. -/
def SetP (w : World) (b i : Nat) (x : Int) (e : EvT) (en : Ending) (w' : World) : Prop :=
  ∃ w1, Below w.heap.size w w1 ∧ ((x = e.c ∧ en = .returned .nilIface ∧ w' = w1.setCell ⟨b, i, none⟩ (.int .i64 e.d)) ∨ (x ≠ e.c ∧ en = .returned (errV 20) ∧ w' = w1))
set_option maxHeartbeats 0 in
theorem set_code (b i : Nat) (x : Int) (e : EvT) (w : World) (hc : w.cell? ⟨b, i, none⟩ = some (.int .i64 x)) (hf : w.frozen? ⟨b, i, none⟩ = false) (hb : b < w.heap.size) : Calls Try.prog 31 #[.pointer (some ⟨b, i, none⟩), evV e] w (SetP w b i x e) := by
  obtain ⟨k, a, b2, c, d, f⟩ := e
  unfold evV
  simp only
  go_enter Try.func31, Try.ntmps31
  go_upto_region 1 with fail
  obtain ⟨w1, hw1⟩ : ∃ w1, w1 = w.alloc (.cells #[.int .i64 k, .int .i64 a, .int .i64 b2, .int .i64 c, .int .i64 d, .int .i64 f] 45) := ⟨_, rfl⟩
  have hrow : w1.heap[w.heap.size]? = some (.cells #[.int .i64 k, .int .i64 a, .int .i64 b2, .int .i64 c, .int .i64 d, .int .i64 f] 45 (0, 0)) := by rw [hw1]; exact heap_alloc_new _ _
  have hb1 : Below w.heap.size w w1 := by rw [hw1]; exact (Below.refl _ _).alloc (Nat.le_refl _) _
  have hc1 : w1.cell? ⟨b, i, none⟩ = some (.int .i64 x) := (hb1.cell (by simpa using hb)).trans hc
  have hf1 : w1.frozen? ⟨b, i, none⟩ = false := (World.frozen?_of_block (hb1.block b hb)).trans hf
  rw [← hw1]
  have c3 := cell_of_row w1 w.heap.size 3 _ _ _ hrow
  have c4 := cell_of_row w1 w.heap.size 4 _ _ _ hrow
  simp at c3 c4
  clear hw1 hrow hc hf
  by_cases e : x = c
  · subst e
    go_region
    go_wp2_with fail
    go_ret
    exact ⟨_, hb1.drew, .inl ⟨rfl, rfl, rfl⟩⟩
  · have hd : (x != c) = true := bne_iff_ne.2 e
    have HE := Lib.hid e
    clear e
    go_region
    go_wp2_with fail
    go_ret
    exact ⟨_, hb1.drew, .inr ⟨HE.out, rfl, rfl⟩⟩
theorem build_made (a b c : Int) (W : World) : (Instr.build 52 #[(0, .int .i64 a), (1, .int .i64 b), (2, .int .i64 b), (13, .int .i64 c), (3, .int .i64 10), (17, .int .i64 3)]).run Try.prog W = .ok (.agg (arr .i64 18 (madeO a b c))) W := by kernel_rfl
theorem wpList_buildMade {ops : Array Oper} {rest : List Oper} {o : Oper} {act : Act} {w : World} {Q : Exit → Act → World → Prop} (hg : o.guard = none) (x0 x1 x2 x3 : Operand) (ho : o.op = .build 52 #[(0, x0), (1, x1), (2, x2), (13, x3), (3, .const (.int .i64 10)), (17, .const (.int .i64 3))]) (a b c : Int)
    (h0 : act.eval x0 = .int .i64 a) (h1 : act.eval x1 = .int .i64 b) (h2 : act.eval x2 = .int .i64 b) (h3 : act.eval x3 = .int .i64 c) (hK : wpList Try.prog ops Q rest (act.put o.dst (.agg (arr .i64 18 (madeO a b c)))) w) : wpList Try.prog ops Q (o :: rest) act w := by
  refine wpList_plain hg fun K' hK' => ?_
  have hev : ∀ v, act.eval (.const v) = v := fun _ => rfl
  unfold Oper.wp
  simp [execOp, ho, h0, h1, h2, h3, hev, build_made, Result.andThen]
  exact hK' _ _ hK
set_option maxHeartbeats 0 in
theorem made_code (e : EvT) (w : World) : Calls Try.prog 44 #[evV e] w fun en w' => en = .returned (.agg (arr .i64 18 (madeO e.a e.b e.c))) ∧ Below w.heap.size w w' := by
  obtain ⟨k, a, b, c, d, f⟩ := e
  unfold evV
  simp only
  obtain ⟨o, ho⟩ : ∃ o, o = madeO a b c := ⟨_, rfl⟩
  have HO := Lib.hid ho
  rw [← ho]
  clear ho
  have hz := st_zero18
  go_enter Try.func44, Try.ntmps44
  go_upto_region 1 with fail
  obtain ⟨w1, hw1⟩ : ∃ w1, w1 = w.alloc (.cells #[.int .i64 k, .int .i64 a, .int .i64 b, .int .i64 c, .int .i64 d, .int .i64 f] 45) := ⟨_, rfl⟩
  have hrow : w1.heap[w.heap.size]? = some (.cells #[.int .i64 k, .int .i64 a, .int .i64 b, .int .i64 c, .int .i64 d, .int .i64 f] 45 (0, 0)) := by rw [hw1]; exact heap_alloc_new _ _
  have hb1 : Below w.heap.size w w1 := by rw [hw1]; exact (Below.refl _ _).alloc (Nat.le_refl _) _
  have hz1 : w1.heap.size = w.heap.size + 1 := by rw [hw1]; simp
  rw [← hw1]
  clear hw1
  obtain ⟨w2, hw2⟩ : ∃ w2, w2 = w1.alloc (.cells (arr .i64 18 fun _ => 0) 52) := ⟨_, rfl⟩
  have hb2 : Below w1.heap.size w1 w2 := by rw [hw2]; exact (Below.refl _ _).alloc (Nat.le_refl _) _
  have hz2 : w2.heap[w.heap.size + 1]? = some (.cells (arr .i64 18 fun _ => 0) 52 (0, 0)) := by rw [hw2, ← hz1]; exact heap_alloc_new _ _
  have hrow2 := (hb2.block w.heap.size (by omega)).trans hrow
  have hbw := keepB hb2 hb1
  try rw [hz]
  rw [← hw2]
  clear hw2 hrow hb1 hb2 hz hz1
  have c1 := cell_of_row w2 w.heap.size 1 _ _ _ hrow2
  have c2 := cell_of_row w2 w.heap.size 2 _ _ _ hrow2
  have c3 := cell_of_row w2 w.heap.size 3 _ _ _ hrow2
  simp at c1 c2 c3
  have hso : (Try.prog.info? 52).map (·.size) = some (arr .i64 18 o).size := by rw [arr_size]; exact st_size18
  have hss : (arr .i64 18 fun _ => 0).size = (arr .i64 18 o).size := by rw [arr_size, arr_size]
  have hone := arr_one .i64 18 o
  clear hrow2
  go_wp2_with (first
    | (refine wpList_buildMade rfl _ _ _ _ rfl a b c rfl rfl rfl rfl ?_; rw [← HO.out])
    | (refine wpList_store_row rfl 52 (.tmp 2) (.tmp 11) rfl (w.heap.size + 1) _ rfl rfl 52 _ hz2 hso hss hone ?_))
  refine bodyPost_ret (v := .agg (arr .i64 18 o)) ?_ rfl ⟨rfl, below_setRow hbw _ _ (by omega)⟩
  exact results_cell_row (ty := 52) (p := 2) (by kernel_rfl) _ _ (w.heap.size + 1) 52 _ (0, 0) _ rfl (setRow_heap _ _ _ _ _ _ hz2) Try.underlying52 rfl hso
end Go.Proofs.Ytmneajmedopheaa
namespace Go.Proofs.Ytmneajmedopheaa
open Go.RowKit Ex
set_option maxRecDepth 100000
variable {Bx : Nat}
set_option maxHeartbeats 0 in
theorem put_code (s : StT) (O : SlT) (L : Nat → SlT) (g i j : Nat) (x : Int) (w : World) (ha : StAt w g (stC O L s.pl s.gm)) (hx : ReadsX Bx g w (stC O L s.pl s.gm) s O L) (hi : i < s.objs.length) (hj : j < 18) (hn : s.objs.length ≤ 1000000) (h64 : N64 x) :
    Calls Try.prog 51 #[.pointer (some ⟨g, 0, none⟩), .int .i64 (i : Int), .int .i64 (j : Int), .int .i64 x] w fun en w' => ∃ O', en = .returned (.tuple #[]) ∧ StAt w' g (stC O' L s.pl s.gm) ∧ ReadsX Bx g w' (stC O' L s.pl s.gm) ⟨setO s.objs i j x, s.lists, s.pl, s.gm⟩ O' L ∧ Stay g w w' := by
  have hr := hx.now
  have hOn := hr.on
  have hO := hr.o
  have how := hr.ow
  have hgl := ha.lt
  have c0 := (ha.cell 0).trans (stC_objs _ _ _ _)
  obtain ⟨A, n, c⟩ := O
  simp only at hOn hO
  have hcl := cloneO_any A n c s.objs w _ hO (Nat.le_refl _) hOn (by omega)
  have H64 := Lib.hid h64
  have HX := Lib.hid hx
  have HA := Lib.hid ha
  have HON := Lib.hid hOn
  have HI := Lib.hid hi
  have c0' : w.cell? ⟨g, 0, none⟩ = some (.slice A n c) := c0
  clear hr hO how c0 h64 hx ha hOn hi
  go_enter Try.func51, Try.ntmps51
  go_wp2_with fail
  refine hcl.mono ?_
  rintro en w1 ⟨A1, c1, rfl, ho1, hb1⟩
  clear hcl
  have ha1 := HA.out.keep hb1
  have f1 := frozen_of_row w1 g 0 _ _ ha1
  have k1 := (ha1.cell 0).trans (stC_objs _ _ _ _)
  have k1' : w1.cell? ⟨g, 0, none⟩ = some (.slice A n c) := k1
  clear k1 c0'
  go_upto_region 1 with fail
  obtain ⟨w2, hw2⟩ : ∃ w2, w2 = w1.setCell ⟨g, 0, none⟩ (.slice A1 n c1) := ⟨_, rfl⟩
  have ha2 : StAt w2 g (stC ⟨A1, n, c1⟩ L s.pl s.gm) := by
    unfold StAt
    rw [hw2, heap_setCell_same w1 g 0 _ _ _ ha1, show Value.slice A1 n c1 = (⟨A1, n, c1⟩ : SlT).v from rfl, stC_set_objs]
  have ho2 : OwnO w2 w.heap.size A1 n c1 s.objs := ⟨ho1.len, owns_keep ho1.o fun k hk => by rw [hw2]; exact heap_setCell_other w1 ⟨g, 0, none⟩ k _ (by have := (ho1.o.lt k hk).1; simp; omega)⟩
  have hs2 : Stay g w w2 := by rw [hw2]; exact (Stay.of hb1).set_ 0 _
  rw [← hw2]
  clear hw2 f1 k1' ha1 ho1 hb1
  obtain ⟨g3, hA1, hcell, hfr, hbs, hset⟩ := owns_set ho2.o HI.out hj
  subst hA1
  have k2 : w2.cell? ⟨g, 0, none⟩ = some (.slice (some ⟨g3, 0, none⟩) n c1) := (ha2.cell 0).trans (stC_objs _ _ _ _)
  have g0 : (0 : Int) ≤ (i : Int) := by omega
  have g1 : (i : Int) < (n : Int) := by have h1 := HI.out; have h2 := HON.out; omega
  have g2 : (0 : Int) ≤ (j : Int) := by omega
  have g4 : (j : Int) < 18 := by omega
  have HB := Lib.hid hbs
  have HS := Lib.hid hset
  clear hbs hset ho2
  go_wp2_with fail
  have ho3 : OwnO (w2.setCell ⟨g3, i * 18 + j, none⟩ (.int .i64 x)) w.heap.size (some ⟨g3, 0, none⟩) n c1 (setO s.objs i j x) := ⟨by rw [setO_len]; exact HON.out, HS.out x⟩
  have hne : g ≠ g3 := by have := HB.out; omega
  have hs3 : Stay g w (w2.setCell ⟨g3, i * 18 + j, none⟩ (.int .i64 x)) := hs2.setO _ HB.out
  have hw : ∀ o ∈ setO s.objs i j x, ∀ k < 18, N64 (o k) := (I64S.setO (HX.out.now.i64) HI.out j H64.out).o
  refine bodyPost_end (v := .tuple #[]) (results_none (by kernel_rfl) _ _ _) rfl ⟨⟨some ⟨g3, 0, none⟩, n, c1⟩, rfl, ?_, (HX.out.stay hs3).objs ho3.slO hgl hw, hs3⟩
  exact (heap_setCell_other w2 ⟨g3, i * 18 + j, none⟩ g _ (by simpa using hne)).trans ha2
end Go.Proofs.Ytmneajmedopheaa
namespace Go.Proofs.Ytmneajmedopheaa
open Go.RowKit Ex
set_option maxRecDepth 100000
theorem below_alloc {w : World} (o : Obj) : Below w.heap.size w (w.alloc o) := (Below.refl _ _).alloc (Nat.le_refl _) _
/-- Three slices in a new row. -/
theorem parts3 {W : World} {p1 p2 p3 : Part} (h1 : Nums .i64 W W.heap.size p1.A p1.n p1.l) (h2 : Nums .i64 W W.heap.size p2.A p2.n p2.l) (h3 : Nums .i64 W W.heap.size p3.A p3.n p3.l) (e : TypeId) :
    Parts (W.alloc (.cells #[.slice p1.A p1.n p1.c, .slice p2.A p2.n p2.c, .slice p3.A p3.n p3.c] e)) W.heap.size [p1, p2, p3] := by
  have hb := below_alloc (w := W) (.cells #[.slice p1.A p1.n p1.c, .slice p2.A p2.n p2.c, .slice p3.A p3.n p3.c] e)
  refine ⟨by simp, fun i p hi => ⟨?_, ?_⟩⟩
  · rw [cell_of_row _ W.heap.size i _ e (0, 0) (heap_alloc_new _ _)]
    match i, hi with
    | 0, hi => simp at hi; simp [← hi]
    | 1, hi => simp at hi; simp [← hi]
    | 2, hi => simp at hi; simp [← hi]
    | k + 3, hi => simp at hi
  · match i, hi with
    | 0, hi => simp at hi; rw [← hi]; exact (h1.below hb).more hb.size
    | 1, hi => simp at hi; rw [← hi]; exact (h2.below hb).more hb.size
    | 2, hi => simp at hi; rw [← hi]; exact (h3.below hb).more hb.size
    | k + 3, hi => simp at hi
theorem parts2 {W : World} {p1 p2 : Part} (h1 : Nums .i64 W W.heap.size p1.A p1.n p1.l) (h2 : Nums .i64 W W.heap.size p2.A p2.n p2.l) (e : TypeId) :
    Parts (W.alloc (.cells #[.slice p1.A p1.n p1.c, .slice p2.A p2.n p2.c] e)) W.heap.size [p1, p2] := by
  have hb := below_alloc (w := W) (.cells #[.slice p1.A p1.n p1.c, .slice p2.A p2.n p2.c] e)
  refine ⟨by simp, fun i p hi => ⟨?_, ?_⟩⟩
  · rw [cell_of_row _ W.heap.size i _ e (0, 0) (heap_alloc_new _ _)]
    match i, hi with
    | 0, hi => simp at hi; simp [← hi]
    | 1, hi => simp at hi; simp [← hi]
    | k + 2, hi => simp at hi
  · match i, hi with
    | 0, hi => simp at hi; rw [← hi]; exact (h1.below hb).more hb.size
    | 1, hi => simp at hi; rw [← hi]; exact (h2.below hb).more hb.size
    | k + 2, hi => simp at hi
theorem Mine.base_le {w : World} {base b : Nat} {A : Option Addr} {n c : Nat} {l : List Int} (h : Mine w base A n c l) (hb : b ≤ base) : Mine w b A n c l :=
  ⟨h.1, h.2.1, fun a ha => by
    obtain ⟨g, o, cs, t, e, h1, h2⟩ := h.2.2 a ha
    exact ⟨g, o, cs, t, e, by omega, h2⟩⟩
set_option linter.unusedSimpArgs false in
set_option maxHeartbeats 1000000 in
theorem insert_code (A : Option Addr) (n c : Nat) (l : List Int) (p x : Int) (w : World) (hL : LsIn w A n c l) : Calls Try.prog 50 #[.slice A n c, .int .i64 p, .int .i64 x] w (LstR (Within (n + 1) p) (insL l p.toNat x) 1 w) := by
  by_cases hok : Within (n + 1) p
  · obtain ⟨i, rfl⟩ : ∃ i : Nat, p = (i : Int) := ⟨p.toNat, by unfold Within at hok; omega⟩
    rw [Int.toNat_natCast]
    have hi : i ≤ n := by unfold Within at hok; omega
    have HOk := Lib.hid hok
    have hln := hL.N.len
    have hfew := hL.few
    obtain ⟨A1, hs1, hN1⟩ := cut_to (P := Try.prog) hL.N hL.cap hi 23 (by kernel_rfl) (fun _ => by kernel_rfl)
    obtain ⟨A2, hs2, hN2⟩ := cut_from (P := Try.prog) hL.N hL.cap hi 23 (by kernel_rfl) (fun _ => by kernel_rfl)
    have HN1 := Lib.hid hN1
    have HN2 := Lib.hid hN2
    have d1 : decide ((i : Int) < 0) = false := by simp
    have d2 : decide ((n : Int) < (i : Int)) = false := by simp; omega
    clear hN1 hN2 hok hL
    go_enter Try.func50, Try.ntmps50
    go_upto_region 3 with fail
    refine region_below (by kernel_rfl) (fun hHeld => ?_)
    refine wpAnyH_take (i := 0) (v := ?_) rfl (by kernel_rfl) (by kernel_rfl) (by kernel_rfl) (fun _ _ _ h => h) (Or.inl ⟨by rfl, ?_⟩) hHeld ?_
    rotate_left
    · (intro w hSw; go_simp; (try with_reducible rfl))
    simp only [Act.put, List.getElem_toArray, List.getElem_cons_zero, List.getElem_cons_succ, List.setIfInBounds_toArray, List.set_cons_zero, List.set_cons_succ]
    refine wpAnyH_take (i := 1) (v := ?_) rfl (by kernel_rfl) (by kernel_rfl) (by kernel_rfl) (fun _ _ _ h => h) (Or.inl ⟨by rfl, ?_⟩) hHeld ?_
    rotate_left
    · (intro w hSw; go_simp; (try with_reducible rfl))
    simp only [Act.put, List.getElem_toArray, List.getElem_cons_zero, List.getElem_cons_succ, List.setIfInBounds_toArray, List.set_cons_zero, List.set_cons_succ]
    refine wpAnyH_take (i := 2) (v := ?_) rfl (by kernel_rfl) (by kernel_rfl) (by kernel_rfl) (fun _ _ _ h => h) (Or.inl ⟨by rfl, ?_⟩) hHeld ?_
    rotate_left
    · (intro w hSw; go_simp; (try with_reducible rfl))
    simp only [Act.put, List.getElem_toArray, List.getElem_cons_zero, List.getElem_cons_succ, List.setIfInBounds_toArray, List.set_cons_zero, List.set_cons_succ]
    refine wpAnyH_take (i := 3) (v := ?_) rfl (by kernel_rfl) (by kernel_rfl) (by kernel_rfl) (fun _ _ _ h => h) (Or.inl ⟨by rfl, ?_⟩) hHeld ?_
    rotate_left
    · (intro w hSw; go_simp; (try with_reducible rfl))
    simp only [Act.put, List.getElem_toArray, List.getElem_cons_zero, List.getElem_cons_succ, List.setIfInBounds_toArray, List.set_cons_zero, List.set_cons_succ]
    refine wpAnyH_take (i := 5) (v := ?_) rfl (by kernel_rfl) (by kernel_rfl) (by kernel_rfl) (fun _ _ _ h => h) (Or.inl ⟨by rfl, ?_⟩) hHeld ?_
    rotate_left
    · (intro w hSw; go_simp; (try with_reducible rfl))
    simp only [Act.put, List.getElem_toArray, List.getElem_cons_zero, List.getElem_cons_succ, List.setIfInBounds_toArray, List.set_cons_zero, List.set_cons_succ]
    refine wpAnyH_take (i := 6) (v := ?_) rfl (by kernel_rfl) (by kernel_rfl) (by kernel_rfl) (fun _ _ _ h => h) (Or.inl ⟨by rfl, ?_⟩) hHeld ?_
    rotate_left
    · (intro w hSw; go_simp; (try with_reducible rfl))
    simp only [Act.put, List.getElem_toArray, List.getElem_cons_zero, List.getElem_cons_succ, List.setIfInBounds_toArray, List.set_cons_zero, List.set_cons_succ]
    refine wpAnyH_take (i := 7) (v := ?_) rfl (by kernel_rfl) (by kernel_rfl) (by kernel_rfl) (fun _ _ _ h => h) (Or.inl ⟨by rfl, ?_⟩) hHeld ?_
    rotate_left
    · (intro w hSw; go_simp; (try with_reducible rfl))
    simp only [Act.put, List.getElem_toArray, List.getElem_cons_zero, List.getElem_cons_succ, List.setIfInBounds_toArray, List.set_cons_zero, List.set_cons_succ]
    clear hs1 hs2
    have hb1 := hHeld
    generalize w.drew = W0 at hHeld hb1 ⊢
    refine wpAnyH_ready (rs := [4]) (by kernel_rfl) (by simp) ?_
    refine AllReadyH.cons rfl (fun K hK => ?_) AllReadyH.nil
    simp only [List.getElem_toArray, List.getElem_cons_zero, List.getElem_cons_succ]
    go_simp
    have hB4 := below_alloc (w := W0) (.cells #[.int .i64 x] 3)
    have hone := Nums.one W0 .i64 x 3
    have hg1 : W0.heap.size < (W0.alloc (.cells #[.int .i64 x] 3)).heap.size := by simp
    obtain ⟨g1, hg1e⟩ : ∃ g1, g1 = W0.heap.size := ⟨_, rfl⟩
    rw [← hg1e] at hone hg1
    rw [← hg1e]
    obtain ⟨W1, hW1⟩ : ∃ W1, W1 = W0.alloc (.cells #[.int .i64 x] 3) := ⟨_, rfl⟩
    rw [← hW1] at hone hg1 hB4
    rw [← hW1]
    clear hW1 hg1e
    have hbw := keepB hB4 hHeld
    refine hK.out _ _ hbw (fun _ => ?_)
    clear hK K
    try simp only [Act.put, List.setIfInBounds_toArray, List.set_cons_zero, List.set_cons_succ]
    refine anyH_rebase hbw (fun hHeld => ?_)
    refine wpAnyH_ready (rs := [8]) (by kernel_rfl) (by simp) ?_
    refine AllReadyH.cons rfl (fun K hK => ?_) AllReadyH.nil
    simp only [List.getElem_toArray, List.getElem_cons_zero, List.getElem_cons_succ]
    go_simp
    have hP := parts3 (W := W1) (p1 := ⟨A1, i, c, l.take i⟩) (p2 := ⟨some ⟨g1, 0, none⟩, 1, 1, [x]⟩) (p3 := ⟨A2, n - i, c - i, l.drop i⟩) ((HN1.out.below hbw).more hbw.size) (hone.more (by omega)) ((HN2.out.below hbw).more hbw.size) 23
    have hB8 := below_alloc (w := W1) (.cells #[.slice A1 i c, .slice (some ⟨g1, 0, none⟩) 1 1, .slice A2 (n - i) (c - i)] 23)
    simp only at hP
    obtain ⟨g2, hg2e⟩ : ∃ g2, g2 = W1.heap.size := ⟨_, rfl⟩
    rw [← hg2e] at hP
    rw [← hg2e]
    obtain ⟨W2, hW2⟩ : ∃ W2, W2 = W1.alloc (.cells #[.slice A1 i c, .slice (some ⟨g1, 0, none⟩) 1 1, .slice A2 (n - i) (c - i)] 23) := ⟨_, rfl⟩
    rw [← hW2] at hP hB8
    rw [← hW2]
    clear hW2 hg2e
    refine hK.out _ _ hB8 (fun _ => ?_)
    clear hK K
    try simp only [Act.put, List.setIfInBounds_toArray, List.set_cons_zero, List.set_cons_succ]
    refine anyH_rebase hB8 (fun hHeld => ?_)
    have hcat : catP [⟨A1, i, c, l.take i⟩, ⟨some ⟨g1, 0, none⟩, 1, 1, [x]⟩, ⟨A2, n - i, c - i, l.drop i⟩] = insL l i x := by simp [catP, insL]
    have hcc := concat_any g2 3 3 _ W2 hP rfl (by omega) (by rw [hcat, ins_len _ _ _ (by omega)]; omega)
    rw [hcat] at hcc
    refine wpAnyH_ready (rs := [9]) (by kernel_rfl) (by simp) ?_
    refine AllReadyH.cons rfl (fun K hK => ?_) AllReadyH.nil
    simp only [List.getElem_toArray, List.getElem_cons_zero, List.getElem_cons_succ]
    go_simp
    refine hcc.mono ?_
    rintro e W3 ⟨A3, n3, c3, rfl, ho3, hb3⟩
    clear hcc
    go_wp2_with fail
    have hB3 := keepB hb3 hHeld
    refine hK.out _ _ hB3 (fun _ => ?_)
    clear hK K
    try simp only [Act.put, List.setIfInBounds_toArray, List.set_cons_zero, List.set_cons_succ]
    refine anyH_rebase hB3 (fun hHeld => ?_)
    refine wpAnyH_take (i := 10) (v := ?_) rfl (by kernel_rfl) (by kernel_rfl) (by kernel_rfl) (fun _ _ _ h => h) (Or.inl ⟨by rfl, ?_⟩) hHeld ?_
    rotate_left
    · (intro w hSw; go_simp; (try with_reducible rfl))
    simp only [Act.put, List.getElem_toArray, List.getElem_cons_zero, List.getElem_cons_succ, List.setIfInBounds_toArray, List.set_cons_zero, List.set_cons_succ]
    refine wpAnyH_take (i := 11) (v := ?_) rfl (by kernel_rfl) (by kernel_rfl) (by kernel_rfl) (fun _ _ _ h => h) (Or.inl ⟨by rfl, ?_⟩) hHeld ?_
    rotate_left
    · (intro w hSw; go_simp; (try with_reducible rfl))
    simp only [Act.put, List.getElem_toArray, List.getElem_cons_zero, List.getElem_cons_succ, List.setIfInBounds_toArray, List.set_cons_zero, List.set_cons_succ]
    refine wpAnyH_done (by kernel_rfl) ?_ _
    go_wp2_with fail
    have hbf := keepB hb3 (keepB hB8 hbw)
    exact bodyPost_ret (results_tmp2 rfl _ _ _) rfl ⟨hbf, .inl ⟨HOk.out, _, _, _, rfl, Mine.of_own (ho3.base_le (keepB hB8 hbw).size)⟩⟩
  · have hno : p < 0 ∨ (n : Int) < p := by unfold Within at hok; omega
    have HE := Lib.hid hok
    obtain ⟨l2, hl2⟩ : ∃ l2, l2 = insL l p.toNat x := ⟨_, rfl⟩
    rw [← hl2]
    clear hok hL hl2
    by_cases h0 : p < 0
    · have d1 : decide (p < 0) = true := decide_eq_true h0
      clear h0 hno
      go_enter Try.func50, Try.ntmps50
      go_wp2_with fail
      refine bodyPost_ret (results_tmp2 rfl _ _ _) rfl ⟨Below.refl _ _, .inr ⟨HE.out, _, _, rfl⟩⟩
    · have d1 : decide (p < 0) = false := decide_eq_false h0
      have d2 : decide ((n : Int) < p) = true := decide_eq_true (by omega)
      clear h0 hno
      go_enter Try.func50, Try.ntmps50
      go_wp2_with fail
      refine bodyPost_ret (results_tmp2 rfl _ _ _) rfl ⟨Below.refl _ _, .inr ⟨HE.out, _, _, rfl⟩⟩
set_option linter.unusedSimpArgs false in
set_option maxHeartbeats 1000000 in
theorem remove_code (A : Option Addr) (n c : Nat) (l : List Int) (p : Int) (w : World) (hL : LsIn w A n c l) : Calls Try.prog 49 #[.slice A n c, .int .i64 p] w (RemR n p l w) := by
  have hhas := has_any A n c p w
  by_cases hok : Within n p
  · rw [decide_eq_true hok] at hhas
    obtain ⟨i, rfl⟩ : ∃ i : Nat, p = (i : Int) := ⟨p.toNat, by unfold Within at hok; omega⟩
    have hi : i < n := by unfold Within at hok; omega
    have HOk := Lib.hid hok
    have hln := hL.N.len
    have hfew := hL.few
    obtain ⟨A1, hs1, hN1⟩ := cut_to (P := Try.prog) hL.N hL.cap (show i ≤ n by omega) 23 (by kernel_rfl) (fun _ => by kernel_rfl)
    obtain ⟨j, hj⟩ : ∃ j, j = i + 1 := ⟨_, rfl⟩
    obtain ⟨A2, hs2, hN2⟩ := cut_from (P := Try.prog) hL.N hL.cap (show j ≤ n by omega) 23 (by kernel_rfl) (fun _ => by kernel_rfl)
    obtain ⟨a, rfl, hab, hca⟩ := hL.N.at_ (show i < l.length by omega)
    obtain ⟨v, hv⟩ : ∃ v, v = l.getD i 0 := ⟨_, rfl⟩
    have hvl : l[i]'(by omega) = v := by rw [hv, List.getD_eq_getElem?_getD, List.getElem?_eq_getElem (by omega)]; rfl
    rw [hvl] at hca
    unfold RemR
    rw [Int.toNat_natCast, ← hv]
    have HJ := Lib.hid hj
    have HN1 := Lib.hid hN1
    have HN2 := Lib.hid hN2
    have e1 : IntKind.i64.wrap ((i : Int) + 1) = (j : Int) := by rw [i64_in (by omega) (by omega)]; omega
    have r0 : ∀ W, Below w.heap.size w W → W.cell? (a.add i) = some (.int .i64 v) := fun W hW => (hW.cell (by rw [addr_block]; exact hab)).trans hca
    have g0 : (0 : Int) ≤ (i : Int) := by omega
    have g1 : (i : Int) < (n : Int) := by omega
    clear hN1 hN2 hok hL hvl hca hab hv hj
    go_enter Try.func49, Try.ntmps49
    go_wp2_with fail
    refine hhas.mono ?_
    rintro e w' ⟨rfl, rfl⟩
    clear hhas
    go_upto_region 3 with fail
    refine region_below (by kernel_rfl) (fun hHeld => ?_)
    refine wpAnyH_take (i := 0) (v := ?_) rfl (by kernel_rfl) (by kernel_rfl) (by kernel_rfl) (fun _ _ _ h => h) (Or.inl ⟨by rfl, ?_⟩) hHeld ?_
    rotate_left
    · (intro w hSw; go_simp; (try with_reducible rfl))
    simp only [Act.put, List.getElem_toArray, List.getElem_cons_zero, List.getElem_cons_succ, List.setIfInBounds_toArray, List.set_cons_zero, List.set_cons_succ]
    refine wpAnyH_take (i := 1) (v := ?_) rfl (by kernel_rfl) (by kernel_rfl) (by kernel_rfl) (fun _ _ _ h => h) (Or.inl ⟨by rfl, ?_⟩) hHeld ?_
    rotate_left
    · (intro w hSw; go_simp; (try with_reducible rfl))
    simp only [Act.put, List.getElem_toArray, List.getElem_cons_zero, List.getElem_cons_succ, List.setIfInBounds_toArray, List.set_cons_zero, List.set_cons_succ]
    refine wpAnyH_take (i := 2) (v := ?_) rfl (by kernel_rfl) (by kernel_rfl) (by kernel_rfl) (fun _ _ _ h => h) (Or.inl ⟨by rfl, ?_⟩) hHeld ?_
    rotate_left
    · (intro w hSw; go_simp; (try with_reducible rfl))
    simp only [Act.put, List.getElem_toArray, List.getElem_cons_zero, List.getElem_cons_succ, List.setIfInBounds_toArray, List.set_cons_zero, List.set_cons_succ]
    refine wpAnyH_take (i := 3) (v := ?_) rfl (by kernel_rfl) (by kernel_rfl) (by kernel_rfl) (fun _ _ _ h => h) (Or.inl ⟨by rfl, ?_⟩) hHeld ?_
    rotate_left
    · (intro w hSw; go_simp; (try with_reducible rfl))
    simp only [Act.put, List.getElem_toArray, List.getElem_cons_zero, List.getElem_cons_succ, List.setIfInBounds_toArray, List.set_cons_zero, List.set_cons_succ]
    refine wpAnyH_take (i := 4) (v := ?_) rfl (by kernel_rfl) (by kernel_rfl) (by kernel_rfl) (fun _ _ _ h => h) (Or.inl ⟨by rfl, ?_⟩) hHeld ?_
    rotate_left
    · (intro w hSw; go_simp; (try with_reducible rfl))
    simp only [Act.put, List.getElem_toArray, List.getElem_cons_zero, List.getElem_cons_succ, List.setIfInBounds_toArray, List.set_cons_zero, List.set_cons_succ]
    refine wpAnyH_take (i := 5) (v := ?_) rfl (by kernel_rfl) (by kernel_rfl) (by kernel_rfl) (fun _ _ _ h => h) (Or.inl ⟨by rfl, ?_⟩) hHeld ?_
    rotate_left
    · (intro w hSw; go_simp; (try with_reducible rfl))
    simp only [Act.put, List.getElem_toArray, List.getElem_cons_zero, List.getElem_cons_succ, List.setIfInBounds_toArray, List.set_cons_zero, List.set_cons_succ]
    refine wpAnyH_take (i := 6) (v := ?_) rfl (by kernel_rfl) (by kernel_rfl) (by kernel_rfl) (fun _ _ _ h => h) (Or.inl ⟨by rfl, ?_⟩) hHeld ?_
    rotate_left
    · (intro w hSw; go_simp; (try with_reducible rfl))
    simp only [Act.put, List.getElem_toArray, List.getElem_cons_zero, List.getElem_cons_succ, List.setIfInBounds_toArray, List.set_cons_zero, List.set_cons_succ]
    refine wpAnyH_take (i := 9) (v := ?_) rfl (by kernel_rfl) (by kernel_rfl) (by kernel_rfl) (fun _ _ _ h => h) (Or.inl ⟨by rfl, ?_⟩) hHeld ?_
    rotate_left
    · (intro w hSw; go_simp; (try with_reducible rfl))
    simp only [Act.put, List.getElem_toArray, List.getElem_cons_zero, List.getElem_cons_succ, List.setIfInBounds_toArray, List.set_cons_zero, List.set_cons_succ]
    refine wpAnyH_take (i := 10) (v := ?_) rfl (by kernel_rfl) (by kernel_rfl) (by kernel_rfl) (fun _ _ _ h => h) (Or.inl ⟨by rfl, ?_⟩) hHeld ?_
    rotate_left
    · (intro w hSw; go_simp; (try with_reducible rfl))
    simp only [Act.put, List.getElem_toArray, List.getElem_cons_zero, List.getElem_cons_succ, List.setIfInBounds_toArray, List.set_cons_zero, List.set_cons_succ]
    refine wpAnyH_take (i := 11) (v := ?_) rfl (by kernel_rfl) (by kernel_rfl) (by kernel_rfl) (fun _ _ _ h => h) (Or.inl ⟨by rfl, ?_⟩) hHeld ?_
    rotate_left
    · (intro w hSw; go_simp; (try with_reducible rfl))
    simp only [Act.put, List.getElem_toArray, List.getElem_cons_zero, List.getElem_cons_succ, List.setIfInBounds_toArray, List.set_cons_zero, List.set_cons_succ]
    refine wpAnyH_take (i := 12) (v := ?_) rfl (by kernel_rfl) (by kernel_rfl) (by kernel_rfl) (fun _ _ _ h => h) (Or.inl ⟨by rfl, ?_⟩) hHeld ?_
    rotate_left
    · (intro w hSw; go_simp; (try with_reducible rfl))
    simp only [Act.put, List.getElem_toArray, List.getElem_cons_zero, List.getElem_cons_succ, List.setIfInBounds_toArray, List.set_cons_zero, List.set_cons_succ]
    clear hs1 hs2 r0 g0 g1 e1
    have hb1 := hHeld
    generalize w'.drew = W1 at hHeld hb1 ⊢
    refine wpAnyH_ready (rs := [7]) (by kernel_rfl) (by simp) ?_
    refine AllReadyH.cons rfl (fun K hK => ?_) AllReadyH.nil
    simp only [List.getElem_toArray, List.getElem_cons_zero, List.getElem_cons_succ]
    go_simp
    have hP := parts2 (W := W1) (p1 := ⟨A1, i, c, l.take i⟩) (p2 := ⟨A2, n - j, c - j, l.drop j⟩) ((HN1.out.below hb1).more hb1.size) ((HN2.out.below hb1).more hb1.size) 23
    have hB8 := below_alloc (w := W1) (.cells #[.slice A1 i c, .slice A2 (n - j) (c - j)] 23)
    simp only at hP
    obtain ⟨g2, hg2e⟩ : ∃ g2, g2 = W1.heap.size := ⟨_, rfl⟩
    rw [← hg2e] at hP
    rw [← hg2e]
    obtain ⟨W2, hW2⟩ : ∃ W2, W2 = W1.alloc (.cells #[.slice A1 i c, .slice A2 (n - j) (c - j)] 23) := ⟨_, rfl⟩
    rw [← hW2] at hP hB8
    rw [← hW2]
    clear hW2 hg2e
    have hbw := keepB hB8 hHeld
    refine hK.out _ _ hbw (fun _ => ?_)
    clear hK K
    try simp only [Act.put, List.setIfInBounds_toArray, List.set_cons_zero, List.set_cons_succ]
    refine anyH_rebase hbw (fun hHeld => ?_)
    have hcat : catP [⟨A1, i, c, l.take i⟩, ⟨A2, n - j, c - j, l.drop j⟩] = rmL l i := by rw [HJ.out]; simp [catP, rmL]
    have hcc := concat_any g2 2 2 _ W2 hP rfl (by omega) (by rw [hcat, rm_len _ _ (by omega)]; omega)
    rw [hcat] at hcc
    refine wpAnyH_ready (rs := [8]) (by kernel_rfl) (by simp) ?_
    refine AllReadyH.cons rfl (fun K hK => ?_) AllReadyH.nil
    simp only [List.getElem_toArray, List.getElem_cons_zero, List.getElem_cons_succ]
    go_simp
    refine hcc.mono ?_
    rintro e W3 ⟨A3, n3, c3, rfl, ho3, hb3⟩
    clear hcc
    go_wp2_with fail
    have hB3 := keepB hb3 hHeld
    refine hK.out _ _ hB3 (fun _ => ?_)
    clear hK K
    try simp only [Act.put, List.setIfInBounds_toArray, List.set_cons_zero, List.set_cons_succ]
    refine anyH_rebase hB3 (fun hHeld => ?_)
    refine wpAnyH_take (i := 13) (v := ?_) rfl (by kernel_rfl) (by kernel_rfl) (by kernel_rfl) (fun _ _ _ h => h) (Or.inl ⟨by rfl, ?_⟩) hHeld ?_
    rotate_left
    · (intro w hSw; go_simp; (try with_reducible rfl))
    simp only [Act.put, List.getElem_toArray, List.getElem_cons_zero, List.getElem_cons_succ, List.setIfInBounds_toArray, List.set_cons_zero, List.set_cons_succ]
    refine wpAnyH_take (i := 14) (v := ?_) rfl (by kernel_rfl) (by kernel_rfl) (by kernel_rfl) (fun _ _ _ h => h) (Or.inl ⟨by rfl, ?_⟩) hHeld ?_
    rotate_left
    · (intro w hSw; go_simp; (try with_reducible rfl))
    simp only [Act.put, List.getElem_toArray, List.getElem_cons_zero, List.getElem_cons_succ, List.setIfInBounds_toArray, List.set_cons_zero, List.set_cons_succ]
    refine wpAnyH_take (i := 15) (v := ?_) rfl (by kernel_rfl) (by kernel_rfl) (by kernel_rfl) (fun _ _ _ h => h) (Or.inl ⟨by rfl, ?_⟩) hHeld ?_
    rotate_left
    · (intro w hSw; go_simp; (try with_reducible rfl))
    simp only [Act.put, List.getElem_toArray, List.getElem_cons_zero, List.getElem_cons_succ, List.setIfInBounds_toArray, List.set_cons_zero, List.set_cons_succ]
    refine wpAnyH_done (by kernel_rfl) ?_ _
    go_wp2_with fail
    refine bodyPost_ret (results_tmp3 rfl _ _ _) rfl ?_
    exact ⟨keepB hb3 hbw, .inl ⟨HOk.out, _, _, _, rfl, Mine.of_own (ho3.base_le hbw.size)⟩⟩
  · rw [decide_eq_false hok] at hhas
    have HE := Lib.hid hok
    clear hok hL
    go_enter Try.func49, Try.ntmps49
    go_wp2_with fail
    refine hhas.mono ?_
    rintro e w' ⟨rfl, rfl⟩
    clear hhas
    go_wp2_with fail
    refine bodyPost_ret (results_tmp3 rfl _ _ _) rfl ?_
    exact ⟨Below.refl _ _, .inr ⟨HE.out, _, _, rfl⟩⟩
theorem rm_mem {l : List Int} {i : Nat} {x : Int} (h : x ∈ rmL l i) : x ∈ l := by
  unfold rmL at h
  rcases List.mem_append.1 h with h | h
  · exact List.mem_of_mem_take h
  · exact List.mem_of_mem_drop h
end Go.Proofs.Ytmneajmedopheaa
namespace Go.Proofs.Ytmneajmedopheaa
open Go.RowKit Ex
set_option maxRecDepth 100000
variable {Bx : Nat}
section
variable {P : Program} {ops : Array Oper} {Q : Exit → Act → World → Prop}
theorem anyH_restay {md : Region.Mode} {g : Nat} {b : World} {fuel : Nat} {listed : Array Bool} {a : Act} {w : World} (hb : Stay g b w)
    (h : Stay g w w → wpAnyH P md ops Q (fun W => Stay g w W) fuel listed a w) : wpAnyH P md ops Q (fun W => Stay g b W) fuel listed a w :=
  anyH_mono (fun _ hW => hb.trans hW) _ _ _ _ (h (Stay.refl g w))
theorem Stay.drew {g : Nat} {w w' : World} (h : Stay g w w') : Stay g w w'.drew := ⟨h.os, h.tape, h.output, h.size, h.block⟩
theorem region_stay (g : Nat) {id : Nat} {a : Act} {w : World} (hm : P.follows .mixedOrders = true)
    (h : Stay g w w.drew → wpAnyH P .any ops Q (fun W => Stay g w W) ops.size (Array.replicate ops.size false) a w.drew) : (Code.region id ops true).wp P Q a w :=
  wp_region_held hm (h (Stay.refl g w).drew)
end
theorem Stay.ev {g ge : Nat} {w w' : World} (h : Stay g w w') (hne : ge ≠ g) {e : EvT} (he : EvB w ge e) : EvB w' ge e := (h.block ge he.lt hne).trans he
theorem yields_ev {ops : Array Oper} {S : World → Prop} {o : Oper} {a : Act} (hg : Region.wanted o (yielded ops a.tmps) = true) (x : Operand) (ho : o.op = .load 45 x) (g : Nat) (hx : a.eval x = .pointer (some ⟨g, 0, none⟩)) (cs : Array Value)
    (hS : ∀ w, S w → w.heap[g]? = some (.cells cs 45 (0, 0))) (hi : (Try.prog.info? 45).map (·.size) = some cs.size) : YieldsIf Try.prog ops S o (.agg cs) a :=
  Or.inl ⟨hg, fun w hw => by
    unfold execOp
    simp only [ho, hx, Instr.loadAt, Instr.sureAddr, Sem.run_bind, Sem.run_pure, Result.andThen_ok, run_loadVar_row w g 45 45 cs (0, 0) _ (hS w hw) Try.underlying45 rfl hi]⟩
theorem wp_buildSliceOf {o : Oper} {a : Act} {w : World} {K : Act → World → Prop} {Q : Exit → Act → World → Prop} (x : Operand) (ho : o.op = .buildSlice 22 1 #[(0, x)]) (f : Nat → Int)
    (hx : a.eval x = .agg (arr .i64 18 f)) (hK : K (a.put o.dst (.slice (some ⟨w.heap.size, 0, none⟩) 1 1)) (w.alloc (.cells (arr .i64 18 f) 52))) : Oper.wp Try.prog o a w K Q := by
  unfold Oper.wp
  simp [execOp, ho, hx, buildSlice_of, Result.andThen]
  exact hK
theorem rdO_one {W : World} {b : Nat} {o : Nat → Int} (h : ObAt W b o) : RdO W.heap.size W (some ⟨b, 0, none⟩) [o] := fun i f hi => by
  match i, hi with
  | 0, hi =>
    simp at hi
    subst hi
    exact ⟨b, 0, rfl, (Array.getElem?_eq_some_iff.1 h).1, fun j v hv => by
      show W.cell? ⟨b, 0 + 0 * 18 + j, none⟩ = _
      rw [show 0 + 0 * 18 + j = j by omega, cell_of_row W b j _ _ _ h, ← Array.getElem?_toList]; exact hv⟩
  | k + 1, hi => simp at hi
/-- The state whose objects were laid anew. -/
structure MidO (w : World) (g : Nat) (s : StT) (O : SlT) (L : Nat → SlT) (os : List (Nat → Int)) (W : World) : Prop where
  a : StAt W g (stC O L s.pl s.gm)
  o : OwnO W w.heap.size O.A O.n O.c os
  s : Stay g w W
theorem make_mid {w W : World} {g : Nat} {s : StT} {O : SlT} {L : Nat → SlT} {A : Option Addr} {n c : Nat} {os : List (Nat → Int)} (ha : StAt W g (stC O L s.pl s.gm)) (hs : Stay g w W) (hg : g < w.heap.size) (ho : OwnO W w.heap.size A n c os) :
    MidO w g s ⟨A, n, c⟩ L os (W.setCell ⟨g, 0, none⟩ (.slice A n c)) := by
  refine ⟨?_, ⟨ho.len, owns_keep ho.o fun k hk => heap_setCell_other W ⟨g, 0, none⟩ k _ (by have := (ho.o.lt k hk).1; simp; omega)⟩, hs.set_ 0 _⟩
  unfold StAt
  rw [heap_setCell_same W g 0 _ _ _ ha, show Value.slice A n c = (⟨A, n, c⟩ : SlT).v from rfl, stC_set_objs]
theorem made_n64 {e : EvT} (h : EvI e) : ∀ i < 18, N64 (madeO e.a e.b e.c i) := fun i _ => by
  have h0 : N64 0 := ⟨by decide, by decide⟩
  have h3 : N64 3 := ⟨by decide, by decide⟩
  have h10 : N64 10 := ⟨by decide, by decide⟩
  unfold madeO
  repeat' split
  · exact h.a
  · exact h.b
  · exact h10
  · exact h.c
  · exact h3
  · exact h0
theorem made_end {w W : World} {g : Nat} {s : StT} {O O' : SlT} {L : Nat → SlT} {os : List (Nat → Int)} {cs : Array Value} (hx : ReadsX Bx g w cs s O L) (hm : MidO w g s O' L os W) (hg : g < w.heap.size) (hw : ∀ o ∈ os, ∀ i < 18, N64 (o i))
    {W9 : World} (hb : Below W.heap.size W W9) {x : SlT} {l : List Int} (hl : SlR W9 w.heap.size x l) (hn : ∀ n ∈ l, N64 n) {r : StT × Int} (hr : r = (⟨os, updL s.lists 10 l, s.pl, s.gm⟩, 0)) :
    DP Bx w g s r (.returned .nilIface) (W9.setCell ⟨g, 11, none⟩ x.v) := by
  subst hr
  have ha9 := hm.a.keep hb
  have hs9 : Stay g w W9 := hm.s.then hb
  have ho9 := hm.o.below hb
  have hx9 := (((hx.stay hs9).objs ho9.slO hg hw).list (z := 10) hl hg hn).stay ((Stay.refl g W9).set_ 11 x.v)
  refine DP.yes (O := O') (L := updS L 10 x) ?_ hx9 (hs9.set_ 11 _)
  unfold StAt
  rw [heap_setCell_same W9 g 11 _ _ _ ha9, show (11 : Nat) = 1 + 10 from rfl, stC_set_list _ _ _ _ _ (by omega)]
set_option linter.unusedSimpArgs false in
set_option maxHeartbeats 0 in
theorem make_code (s : StT) (O : SlT) (L : Nat → SlT) (g : Nat) (e : EvT) (w : World) (ha : StAt w g (stC O L s.pl s.gm)) (hx : ReadsX Bx g w (stC O L s.pl s.gm) s O L) (hn : s.objs.length ≤ 1000) (hll : ∀ z < 11, (s.lists z).length ≤ 1000) (hi : EvI e) :
    Calls Try.prog 27 #[.pointer (some ⟨g, 0, none⟩), evV e] w (DP Bx w g s (ap0 s e)) := by
  have hgl := ha.lt
  obtain ⟨A, n, c⟩ := O
  have c0 : w.cell? ⟨g, 0, none⟩ = some (.slice A n c) := (ha.cell 0).trans (stC_objs _ _ _ _)
  have hOn : n = s.objs.length := hx.now.on
  have HX := Lib.hid hx
  have HA := Lib.hid ha
  have HI := Lib.hid hi
  have HLL := Lib.hid hll
  clear ha hx hi hll
  go_enter Try.func27, Try.ntmps27
  go_upto_region 1 with fail
  obtain ⟨w1, hw1⟩ : ∃ w1, w1 = w.alloc (.cells (evC e) 45) := ⟨_, rfl⟩
  have hrow : EvB w1 w.heap.size e := by rw [hw1]; exact heap_alloc_new _ _
  have hb1 : Below w.heap.size w w1 := by rw [hw1]; exact (Below.refl _ _).alloc (Nat.le_refl _) _
  show Code.wp _ _ _ _ (w.alloc (.cells (evC e) 45))
  rw [← hw1]
  clear hw1
  have hg1 := hrow.lt
  obtain ⟨ge, hge⟩ : ∃ g, g = w.heap.size := ⟨_, rfl⟩
  rw [← hge] at hrow hg1 ⊢
  have hne : ge ≠ g := by omega
  have HGE := Lib.hid hge
  have k0 := (hb1.cell (p := ⟨g, 0, none⟩) (by simpa using hgl)).trans c0
  clear c0 hge
  by_cases hfull : 400 ≤ s.objs.length
  · have hr : ap0 s e = (sT0, 5) := if_pos hfull
    have HR := Lib.hid hr
    have hd : decide (400 ≤ (n : Int)) = true := decide_eq_true (by omega)
    clear hr hOn
    go_wp2_with fail
    go_ret
    rw [HR.out]
    exact DP.no (r := (sT0, 5)) (by decide) HA.out HX.out hb1
  have hr : ap0 s e = (⟨s.objs ++ [madeO e.a e.b e.c], updL s.lists 10 (s.lists 10 ++ [(s.objs.length : Int)]), s.pl, s.gm⟩, 0) := if_neg hfull
  have HR := Lib.hid (show ap0 s e = (⟨s.objs ++ [madeO e.a e.b e.c], updL s.lists 10 (s.lists 10 ++ [(n : Int)]), s.pl, s.gm⟩, 0) by rw [hOn]; exact hr)
  have HF := Lib.hid hfull
  have hd : decide (400 ≤ (n : Int)) = false := decide_eq_false (by omega)
  have HN := Lib.hid hOn
  have HF2 := Lib.hid (show n < 400 by omega)
  clear hr hOn hfull
  go_upto_region 4 with fail
  clear hd k0
  obtain ⟨es, hes⟩ : ∃ es, es = evC e := ⟨_, rfl⟩
  have HES := Lib.hid hes
  clear hes
  have ha1 := HA.out.keep hb1
  have k4 : ∀ W, Stay g w1 W → StAt W g (stC ⟨A, n, c⟩ L s.pl s.gm) → W.cell? ⟨g, 0, none⟩ = some (.slice A n c) := fun W _ h => (h.cell 0).trans (stC_objs _ _ _ _)
  refine region_stay g (by kernel_rfl) (fun hHeld => ?_)
  refine wpAnyH_take (i := 0) (v := ?_) rfl (by kernel_rfl) (by kernel_rfl) (by kernel_rfl) (fun _ _ _ h => h) (Or.inl ⟨by rfl, ?_⟩) hHeld ?_
  rotate_left
  · (intro w hSw; go_simp; (try with_reducible rfl))
  simp only [Act.put, List.getElem_toArray, List.getElem_cons_zero, List.getElem_cons_succ, List.setIfInBounds_toArray, List.set_cons_zero, List.set_cons_succ]
  refine wpAnyH_take (i := 1) (v := ?_) rfl (by kernel_rfl) (by kernel_rfl) (by kernel_rfl) (fun _ _ _ h => h) (Or.inl ⟨by rfl, ?_⟩) hHeld ?_
  rotate_left
  · (intro w hSw; go_simp; (try with_reducible rfl))
  simp only [Act.put, List.getElem_toArray, List.getElem_cons_zero, List.getElem_cons_succ, List.setIfInBounds_toArray, List.set_cons_zero, List.set_cons_succ]
  refine wpAnyH_take (i := 2) (v := ?_) rfl (by kernel_rfl) (by kernel_rfl) (by kernel_rfl) (fun _ _ _ h => h) (Or.inl ⟨by rfl, ?_⟩) hHeld ?_
  rotate_left
  · (intro w hSw; go_simp; (try with_reducible rfl))
  simp only [Act.put, List.getElem_toArray, List.getElem_cons_zero, List.getElem_cons_succ, List.setIfInBounds_toArray, List.set_cons_zero, List.set_cons_succ]
  refine wpAnyH_take (i := 3) (v := ?_) rfl (by kernel_rfl) (by kernel_rfl) (by kernel_rfl) (fun _ _ _ h => h) (Or.inl ⟨by rfl, ?_⟩) hHeld ?_
  rotate_left
  · (intro w hSw; go_simp; (try with_reducible rfl))
  simp only [Act.put, List.getElem_toArray, List.getElem_cons_zero, List.getElem_cons_succ, List.setIfInBounds_toArray, List.set_cons_zero, List.set_cons_succ]
  refine wpAnyH_take (i := 5) (v := .agg es) rfl (by kernel_rfl) (by kernel_rfl) (by kernel_rfl) (fun _ _ _ h => h) (yields_ev (by rfl) (.tmp 3) rfl ge rfl es (fun W hW => by rw [HES.out]; exact hW.ev hne hrow) (by rw [HES.out]; exact ev_size e)) hHeld ?_
  simp only [Act.put, List.getElem_toArray, List.getElem_cons_zero, List.getElem_cons_succ, List.setIfInBounds_toArray, List.set_cons_zero, List.set_cons_succ]
  have ha0 : StAt w1.drew g (stC ⟨A, n, c⟩ L s.pl s.gm) := ha1
  have hb0 : Below w.heap.size w w1.drew := hb1.drew
  have hrow0 : EvB w1.drew ge e := hrow
  have k0 : w1.drew.cell? ⟨g, 0, none⟩ = some (.slice A n c) := (ha0.cell 0).trans (stC_objs _ _ _ _)
  have hmd := fun W => made_code e W
  obtain ⟨o, ho⟩ : ∃ o, o = madeO e.a e.b e.c := ⟨_, rfl⟩
  have HR := Lib.hid (show ap0 s e = (⟨s.objs ++ [o], updL s.lists 10 (s.lists 10 ++ [(n : Int)]), s.pl, s.gm⟩, 0) by rw [ho]; exact HR.out)
  rw [← ho, show evV e = .agg es by rw [HES.out]; rfl] at hmd
  have HO := Lib.hid ho
  have hbo := fun W => buildSlice_of o W
  clear k4 ho ha1
  generalize w1.drew = W0 at hHeld ha0 hb0 hrow0 k0 ⊢
  refine anyH_restay hHeld (fun hHeld => ?_)
  refine wpAnyH_ready (rs := [4, 6]) (by kernel_rfl) (by simp) ?_
  refine AllReadyH.cons rfl (fun K hK => ?_) (AllReadyH.cons rfl (fun K hK => ?_) AllReadyH.nil)
  all_goals simp only [List.getElem_toArray, List.getElem_cons_zero, List.getElem_cons_succ]
  all_goals go_simp
  · skip
    refine hK.out _ _ (Stay.refl _ _) (fun _ => ?_)
    clear hK K
    try simp only [Act.put, List.setIfInBounds_toArray, List.set_cons_zero, List.set_cons_succ]
    refine wpAnyH_ready (rs := [6]) (by kernel_rfl) (by simp) ?_
    refine AllReadyH.cons rfl (fun K hK => ?_) AllReadyH.nil
    simp only [List.getElem_toArray, List.getElem_cons_zero, List.getElem_cons_succ]
    go_simp
    refine (hmd _).mono ?_
    rintro en W1 ⟨rfl, hb6⟩
    go_wp2_with fail
    have hB6 := hHeld.then hb6
    refine hK.out _ _ hB6 (fun _ => ?_)
    clear hK K
    try simp only [Act.put, List.setIfInBounds_toArray, List.set_cons_zero, List.set_cons_succ]
    refine anyH_restay hB6 (fun hHeld => ?_)
    have ha6 := ha0.keep hb6
    have k6 : W1.cell? ⟨g, 0, none⟩ = some (.slice A n c) := (ha6.cell 0).trans (stC_objs _ _ _ _)
    have hw6 := keepB hb6 hb0
    clear ha0 k0 hb0
    refine wpAnyH_ready (rs := [7]) (by kernel_rfl) (by simp) ?_
    refine AllReadyH.cons rfl (fun K hK => ?_) AllReadyH.nil
    simp only [List.getElem_toArray, List.getElem_cons_zero, List.getElem_cons_succ]
    rw [if_pos (by rfl)]
    refine wp_buildSliceOf (.tmp 20) rfl o rfl ?_
    obtain ⟨W2, hW2⟩ : ∃ W2, W2 = W1.alloc (.cells (arr .i64 18 o) 52) := ⟨_, rfl⟩
    have hb7 : Below W1.heap.size W1 W2 := by rw [hW2]; exact (Below.refl _ _).alloc (Nat.le_refl _) _
    have hob : ObAt W2 W1.heap.size o := by rw [hW2]; exact heap_alloc_new _ _
    rw [← hW2]
    have ha7 := ha6.keep hb7
    have hw7 := keepB hb7 hw6
    have k7 : W2.cell? ⟨g, 0, none⟩ = some (.slice A n c) := (ha7.cell 0).trans (stC_objs _ _ _ _)
    clear hW2
    refine hK.out _ _ (Stay.of hb7) (fun _ => ?_)
    clear hK K
    try simp only [Act.put, List.setIfInBounds_toArray, List.set_cons_zero, List.set_cons_succ]
    refine anyH_restay (Stay.of hb7) (fun hHeld => ?_)
    refine wpAnyH_ready (rs := [8]) (by kernel_rfl) (by simp) ?_
    refine AllReadyH.cons rfl (fun K hK => ?_) AllReadyH.nil
    simp only [List.getElem_toArray, List.getElem_cons_zero, List.getElem_cons_succ]
    go_simp
    have hr1 : RdO W2.heap.size W2 A s.objs := (HX.out W2 (Stay.of hw7).x).o
    have hP := parts2O (W := W2) (p1 := ⟨A, n, c, s.objs⟩) (p2 := ⟨some ⟨W1.heap.size, 0, none⟩, 1, 1, [o]⟩) hr1 (rdO_one hob) HN.out rfl 22
    have hb8 : Below W2.heap.size W2 (W2.alloc (.cells #[.slice A n c, .slice (some ⟨W1.heap.size, 0, none⟩) 1 1] 22)) := (Below.refl _ _).alloc (Nat.le_refl _) _
    simp only at hP
    obtain ⟨g8, hg8⟩ : ∃ g8, g8 = W2.heap.size := ⟨_, rfl⟩
    rw [← hg8] at hP ⊢
    obtain ⟨W3, hW3⟩ : ∃ W3, W3 = W2.alloc (.cells #[.slice A n c, .slice (some ⟨W1.heap.size, 0, none⟩) 1 1] 22) := ⟨_, rfl⟩
    rw [← hW3] at hP hb8 ⊢
    clear hW3 hr1 hg8
    have ha8 := ha7.keep hb8
    have hw8 := keepB hb8 hw7
    refine hK.out _ _ (Stay.of hb8) (fun _ => ?_)
    clear hK K
    try simp only [Act.put, List.setIfInBounds_toArray, List.set_cons_zero, List.set_cons_succ]
    refine anyH_restay (Stay.of hb8) (fun hHeld => ?_)
    have hcat : catO [⟨A, n, c, s.objs⟩, ⟨some ⟨W1.heap.size, 0, none⟩, 1, 1, [o]⟩] = s.objs ++ [o] := by simp [catO]
    have hcc := concatO_any g8 2 2 _ W3 hP rfl (by omega) (by rw [hcat]; simp; have := HF.out; omega)
    rw [hcat] at hcc
    clear hcat hP
    refine wpAnyH_ready (rs := [9]) (by kernel_rfl) (by simp) ?_
    refine AllReadyH.cons rfl (fun K hK => ?_) AllReadyH.nil
    simp only [List.getElem_toArray, List.getElem_cons_zero, List.getElem_cons_succ]
    go_simp
    refine hcc.mono ?_
    rintro en W4 ⟨A4, n4, c4, rfl, ho4, hb9⟩
    clear hcc
    go_wp2_with fail
    have hB9 := hHeld.then hb9
    refine hK.out _ _ hB9 (fun _ => ?_)
    clear hK K
    try simp only [Act.put, List.setIfInBounds_toArray, List.set_cons_zero, List.set_cons_succ]
    refine anyH_restay hB9 (fun hHeld => ?_)
    have ha9 := ha8.keep hb9
    have hw9 := keepB hb9 hw8
    have k9 : W4.cell? ⟨g, 0, none⟩ = some (.slice A n c) := (ha9.cell 0).trans (stC_objs _ _ _ _)
    have f9 := frozen_of_row W4 g 0 _ _ ha9
    have ho9 := ho4.low hw8.size
    clear k7 ha7 hw7 hb8 ha8 ho4 hb7 hob
    refine wpAnyH_take (i := 10) (v := ?_) rfl (by kernel_rfl) (by kernel_rfl) (by kernel_rfl) (fun _ _ _ h => h) (Or.inl ⟨by rfl, ?_⟩) hHeld ?_
    rotate_left
    · (intro w hSw; go_simp; (try with_reducible rfl))
    simp only [Act.put, List.getElem_toArray, List.getElem_cons_zero, List.getElem_cons_succ, List.setIfInBounds_toArray, List.set_cons_zero, List.set_cons_succ]
    refine wpAnyH_take (i := 11) (v := ?_) rfl (by kernel_rfl) (by kernel_rfl) (by kernel_rfl) (fun _ _ _ h => h) (Or.inl ⟨by rfl, ?_⟩) hHeld ?_
    rotate_left
    · (intro w hSw; go_simp; (try with_reducible rfl))
    simp only [Act.put, List.getElem_toArray, List.getElem_cons_zero, List.getElem_cons_succ, List.setIfInBounds_toArray, List.set_cons_zero, List.set_cons_succ]
    refine wpAnyH_ready (rs := [12]) (by kernel_rfl) (by simp) ?_
    refine AllReadyH.cons rfl (fun K hK => ?_) AllReadyH.nil
    simp only [List.getElem_toArray, List.getElem_cons_zero, List.getElem_cons_succ]
    go_simp
    refine hK.out _ _ ((Stay.refl g W4).set_ 0 _) (fun _ => ?_)
    clear hK K
    try simp only [Act.put, List.setIfInBounds_toArray, List.set_cons_zero, List.set_cons_succ]
    refine wpAnyH_done (by kernel_rfl) ?_ _
    have HM := Lib.hid (make_mid ha9 (Stay.of hw9) hgl ho9)
    clear ha9 ho9 k9 f9 hB9 hHeld
    obtain ⟨W5, hW5⟩ : ∃ W5, W5 = W4.setCell ⟨g, 0, none⟩ (.slice A4 n4 c4) := ⟨_, rfl⟩
    rw [← hW5] at HM ⊢
    clear hW5
    go_upto_region 5 with fail
    clear hw9 hb9 hw8 hB6 hb6 hw6 ha6 k6 hb1 hrow hmd hbo
    obtain ⟨A5, n5, c5, hL⟩ : ∃ A5 n5 c5, L 10 = ⟨A5, n5, c5⟩ := ⟨_, _, _, rfl⟩
    have HWO := Lib.hid (show ∀ x ∈ s.objs ++ [o], ∀ i < 18, N64 (x i) from fun x hx => by
      rcases List.mem_append.1 hx with h | h
      · exact HX.out.now.ow x h
      · rw [List.mem_singleton.1 h, HO.out]; exact made_n64 HI.out)
    have HWL := Lib.hid (show ∀ x ∈ s.lists 10 ++ [(n : Int)], N64 x from fun x hx => by
      rcases List.mem_append.1 hx with h | h
      · exact HX.out.now.lw 10 (by omega) x h
      · rw [List.mem_singleton.1 h]; have := HF2.out; exact ⟨by omega, by omega⟩)
    have HN5 := Lib.hid (show Nums .i64 W5 W5.heap.size A5 n5 (s.lists 10) from by
      have h := (HX.out W5 HM.out.s.x).l 10 (by omega)
      rw [hL] at h
      exact h)
    have k6 : W5.cell? ⟨g, 11, none⟩ = some (.slice A5 n5 c5) := by
      have h := (HM.out.a.cell 11).trans (stC_list _ L _ _ (show 10 < 11 by omega))
      rw [hL] at h
      exact h
    have hg6 : g < W5.heap.size := HM.out.a.lt
    clear hL
    refine region_stay g (by kernel_rfl) (fun hHeld => ?_)
    refine wpAnyH_take (i := 0) (v := ?_) rfl (by kernel_rfl) (by kernel_rfl) (by kernel_rfl) (fun _ _ _ h => h) (Or.inl ⟨by rfl, ?_⟩) hHeld ?_
    rotate_left
    · (intro w hSw; go_simp; (try with_reducible rfl))
    simp only [Act.put, List.getElem_toArray, List.getElem_cons_zero, List.getElem_cons_succ, List.setIfInBounds_toArray, List.set_cons_zero, List.set_cons_succ]
    refine wpAnyH_take (i := 1) (v := ?_) rfl (by kernel_rfl) (by kernel_rfl) (by kernel_rfl) (fun _ _ _ h => h) (Or.inl ⟨by rfl, ?_⟩) hHeld ?_
    rotate_left
    · (intro w hSw; go_simp; (try with_reducible rfl))
    simp only [Act.put, List.getElem_toArray, List.getElem_cons_zero, List.getElem_cons_succ, List.setIfInBounds_toArray, List.set_cons_zero, List.set_cons_succ]
    refine wpAnyH_take (i := 2) (v := ?_) rfl (by kernel_rfl) (by kernel_rfl) (by kernel_rfl) (fun _ _ _ h => h) (Or.inl ⟨by rfl, ?_⟩) hHeld ?_
    rotate_left
    · (intro w hSw; go_simp; (try with_reducible rfl))
    simp only [Act.put, List.getElem_toArray, List.getElem_cons_zero, List.getElem_cons_succ, List.setIfInBounds_toArray, List.set_cons_zero, List.set_cons_succ]
    refine wpAnyH_take (i := 3) (v := ?_) rfl (by kernel_rfl) (by kernel_rfl) (by kernel_rfl) (fun _ _ _ h => h) (Or.inl ⟨by rfl, ?_⟩) hHeld ?_
    rotate_left
    · (intro w hSw; go_simp; (try with_reducible rfl))
    simp only [Act.put, List.getElem_toArray, List.getElem_cons_zero, List.getElem_cons_succ, List.setIfInBounds_toArray, List.set_cons_zero, List.set_cons_succ]
    refine wpAnyH_take (i := 4) (v := ?_) rfl (by kernel_rfl) (by kernel_rfl) (by kernel_rfl) (fun _ _ _ h => h) (Or.inl ⟨by rfl, ?_⟩) hHeld ?_
    rotate_left
    · (intro w hSw; go_simp; (try with_reducible rfl))
    simp only [Act.put, List.getElem_toArray, List.getElem_cons_zero, List.getElem_cons_succ, List.setIfInBounds_toArray, List.set_cons_zero, List.set_cons_succ]
    refine wpAnyH_take (i := 6) (v := ?_) rfl (by kernel_rfl) (by kernel_rfl) (by kernel_rfl) (fun _ _ _ h => h) (Or.inl ⟨by rfl, ?_⟩) hHeld ?_
    rotate_left
    · (intro w hSw; go_simp; (try with_reducible rfl))
    simp only [Act.put, List.getElem_toArray, List.getElem_cons_zero, List.getElem_cons_succ, List.setIfInBounds_toArray, List.set_cons_zero, List.set_cons_succ]
    refine wpAnyH_take (i := 10) (v := ?_) rfl (by kernel_rfl) (by kernel_rfl) (by kernel_rfl) (fun _ _ _ h => h) (Or.inl ⟨by rfl, ?_⟩) hHeld ?_
    rotate_left
    · (intro w hSw; go_simp; (try with_reducible rfl))
    simp only [Act.put, List.getElem_toArray, List.getElem_cons_zero, List.getElem_cons_succ, List.setIfInBounds_toArray, List.set_cons_zero, List.set_cons_succ]
    refine wpAnyH_take (i := 11) (v := ?_) rfl (by kernel_rfl) (by kernel_rfl) (by kernel_rfl) (fun _ _ _ h => h) (Or.inl ⟨by rfl, ?_⟩) hHeld ?_
    rotate_left
    · (intro w hSw; go_simp; (try with_reducible rfl))
    simp only [Act.put, List.getElem_toArray, List.getElem_cons_zero, List.getElem_cons_succ, List.setIfInBounds_toArray, List.set_cons_zero, List.set_cons_succ]
    have k6 : W5.drew.cell? ⟨g, 11, none⟩ = some (.slice A5 n5 c5) := k6
    have hg6 : g < W5.drew.heap.size := hg6
    have hw6 : Below W5.heap.size W5 W5.drew := (Below.refl _ _).drew
    generalize W5.drew = W6 at hHeld k6 hg6 hw6 ⊢
    refine anyH_restay hHeld (fun hHeld => ?_)
    refine wpAnyH_ready (rs := [5, 7]) (by kernel_rfl) (by simp) ?_
    refine AllReadyH.cons rfl (fun K hK => ?_) (AllReadyH.cons rfl (fun K hK => ?_) AllReadyH.nil)
    all_goals simp only [List.getElem_toArray, List.getElem_cons_zero, List.getElem_cons_succ]
    all_goals go_simp
    · skip
      refine hK.out _ _ (Stay.refl _ _) (fun _ => ?_)
      clear hK K
      try simp only [Act.put, List.setIfInBounds_toArray, List.set_cons_zero, List.set_cons_succ]
      refine wpAnyH_ready (rs := [7]) (by kernel_rfl) (by simp) ?_
      refine AllReadyH.cons rfl (fun K hK => ?_) AllReadyH.nil
      simp only [List.getElem_toArray, List.getElem_cons_zero, List.getElem_cons_succ]
      go_simp
      have hone := Nums.one W6 .i64 (n : Int) 3
      obtain ⟨W7, hW7⟩ : ∃ W7, W7 = W6.alloc (.cells #[.int .i64 (n : Int)] 3) := ⟨_, rfl⟩
      have hb7 : Below W6.heap.size W6 W7 := by rw [hW7]; exact below_alloc _
      have hl7 : W6.heap.size + 1 ≤ W7.heap.size := by rw [hW7]; simp
      rw [← hW7] at hone ⊢
      have hone := hone.more hl7
      obtain ⟨g7, hg7⟩ : ∃ g7, g7 = W6.heap.size := ⟨_, rfl⟩
      rw [← hg7] at hone ⊢
      clear hW7 hl7 hg7
      have hw7 := keepB hb7 hw6
      have k7 : W7.cell? ⟨g, 11, none⟩ = some (.slice A5 n5 c5) := (hb7.cell (by simpa using hg6)).trans k6
      clear k6
      refine hK.out _ _ (Stay.of hb7) (fun _ => ?_)
      clear hK K
      try simp only [Act.put, List.setIfInBounds_toArray, List.set_cons_zero, List.set_cons_succ]
      refine anyH_restay (Stay.of hb7) (fun hHeld => ?_)
      refine wpAnyH_ready (rs := [8]) (by kernel_rfl) (by simp) ?_
      refine AllReadyH.cons rfl (fun K hK => ?_) AllReadyH.nil
      simp only [List.getElem_toArray, List.getElem_cons_zero, List.getElem_cons_succ]
      go_simp
      have hP := parts2 (W := W7) (p1 := ⟨A5, n5, c5, s.lists 10⟩) (p2 := ⟨some ⟨g7, 0, none⟩, 1, 1, [(n : Int)]⟩) ((HN5.out.below hw7).more hw7.size) hone 23
      have hb8 : Below W7.heap.size W7 (W7.alloc (.cells #[.slice A5 n5 c5, .slice (some ⟨g7, 0, none⟩) 1 1] 23)) := below_alloc _
      simp only at hP
      obtain ⟨g8, hg8⟩ : ∃ g8, g8 = W7.heap.size := ⟨_, rfl⟩
      rw [← hg8] at hP ⊢
      obtain ⟨W8, hW8⟩ : ∃ W8, W8 = W7.alloc (.cells #[.slice A5 n5 c5, .slice (some ⟨g7, 0, none⟩) 1 1] 23) := ⟨_, rfl⟩
      rw [← hW8] at hP hb8 ⊢
      clear hW8 hg8
      have hw8 := keepB hb8 hw7
      refine hK.out _ _ (Stay.of hb8) (fun _ => ?_)
      clear hK K
      try simp only [Act.put, List.setIfInBounds_toArray, List.set_cons_zero, List.set_cons_succ]
      refine anyH_restay (Stay.of hb8) (fun hHeld => ?_)
      have hcat : catP [⟨A5, n5, c5, s.lists 10⟩, ⟨some ⟨g7, 0, none⟩, 1, 1, [(n : Int)]⟩] = s.lists 10 ++ [(n : Int)] := by simp [catP]
      have hcc := concat_any g8 2 2 _ W8 hP rfl (by omega) (by rw [hcat]; simp; have := HLL.out 10 (by omega); have := HF2.out; omega)
      rw [hcat] at hcc
      clear hcat hP
      refine wpAnyH_ready (rs := [9]) (by kernel_rfl) (by simp) ?_
      refine AllReadyH.cons rfl (fun K hK => ?_) AllReadyH.nil
      simp only [List.getElem_toArray, List.getElem_cons_zero, List.getElem_cons_succ]
      go_simp
      refine hcc.mono ?_
      rintro en W9 ⟨A9, n9, c9, rfl, ho9, hb9⟩
      clear hcc
      go_wp2_with fail
      have hB9 := hHeld.then hb9
      refine hK.out _ _ hB9 (fun _ => ?_)
      clear hK K
      try simp only [Act.put, List.setIfInBounds_toArray, List.set_cons_zero, List.set_cons_succ]
      refine anyH_restay hB9 (fun hHeld => ?_)
      have hw9 := keepB hb9 hw8
      have ha9 := HM.out.a.keep hw9
      have k9 : W9.cell? ⟨g, 11, none⟩ = some (.slice A5 n5 c5) := (keepB hb9 hb8).cell (p := ⟨g, 11, none⟩) (by have := hb7.size; simp only; omega) |>.trans k7
      have f9 := frozen_of_row W9 g 11 _ _ ha9
      have HFin := Lib.hid (made_end HX.out HM.out hgl HWO.out hw9 ((ho9.base_le (show w.heap.size ≤ W8.heap.size from Nat.le_trans HM.out.s.size hw8.size)).slR) HWL.out HR.out)
      clear k7 hw7 hb8 ho9 hb7 hone ha9 hw8 hw9
      refine wpAnyH_take (i := 12) (v := ?_) rfl (by kernel_rfl) (by kernel_rfl) (by kernel_rfl) (fun _ _ _ h => h) (Or.inl ⟨by rfl, ?_⟩) hHeld ?_
      rotate_left
      · (intro w hSw; go_simp; (try with_reducible rfl))
      simp only [Act.put, List.getElem_toArray, List.getElem_cons_zero, List.getElem_cons_succ, List.setIfInBounds_toArray, List.set_cons_zero, List.set_cons_succ]
      refine wpAnyH_ready (rs := [13]) (by kernel_rfl) (by simp) ?_
      refine AllReadyH.cons rfl (fun K hK => ?_) AllReadyH.nil
      simp only [List.getElem_toArray, List.getElem_cons_zero, List.getElem_cons_succ]
      go_simp
      refine hK.out _ _ ((Stay.refl g W9).set_ 11 _) (fun _ => ?_)
      clear hK K
      try simp only [Act.put, List.setIfInBounds_toArray, List.set_cons_zero, List.set_cons_succ]
      refine wpAnyH_done (by kernel_rfl) ?_ _
      clear k9 f9 hB9 hHeld hb9
      go_wp2_with fail
      go_ret
      exact HFin.out
    · skip
      have hone := Nums.one W6 .i64 (n : Int) 3
      obtain ⟨W7, hW7⟩ : ∃ W7, W7 = W6.alloc (.cells #[.int .i64 (n : Int)] 3) := ⟨_, rfl⟩
      have hb7 : Below W6.heap.size W6 W7 := by rw [hW7]; exact below_alloc _
      have hl7 : W6.heap.size + 1 ≤ W7.heap.size := by rw [hW7]; simp
      rw [← hW7] at hone ⊢
      have hone := hone.more hl7
      obtain ⟨g7, hg7⟩ : ∃ g7, g7 = W6.heap.size := ⟨_, rfl⟩
      rw [← hg7] at hone ⊢
      clear hW7 hl7 hg7
      have hw7 := keepB hb7 hw6
      have k7 : W7.cell? ⟨g, 11, none⟩ = some (.slice A5 n5 c5) := (hb7.cell (by simpa using hg6)).trans k6
      clear k6
      refine hK.out _ _ (Stay.of hb7) (fun _ => ?_)
      clear hK K
      try simp only [Act.put, List.setIfInBounds_toArray, List.set_cons_zero, List.set_cons_succ]
      refine anyH_restay (Stay.of hb7) (fun hHeld => ?_)
      refine wpAnyH_ready (rs := [5]) (by kernel_rfl) (by simp) ?_
      refine AllReadyH.cons rfl (fun K hK => ?_) AllReadyH.nil
      simp only [List.getElem_toArray, List.getElem_cons_zero, List.getElem_cons_succ]
      go_simp
      refine hK.out _ _ (Stay.refl _ _) (fun _ => ?_)
      clear hK K
      try simp only [Act.put, List.setIfInBounds_toArray, List.set_cons_zero, List.set_cons_succ]
      refine wpAnyH_ready (rs := [8]) (by kernel_rfl) (by simp) ?_
      refine AllReadyH.cons rfl (fun K hK => ?_) AllReadyH.nil
      simp only [List.getElem_toArray, List.getElem_cons_zero, List.getElem_cons_succ]
      go_simp
      have hP := parts2 (W := W7) (p1 := ⟨A5, n5, c5, s.lists 10⟩) (p2 := ⟨some ⟨g7, 0, none⟩, 1, 1, [(n : Int)]⟩) ((HN5.out.below hw7).more hw7.size) hone 23
      have hb8 : Below W7.heap.size W7 (W7.alloc (.cells #[.slice A5 n5 c5, .slice (some ⟨g7, 0, none⟩) 1 1] 23)) := below_alloc _
      simp only at hP
      obtain ⟨g8, hg8⟩ : ∃ g8, g8 = W7.heap.size := ⟨_, rfl⟩
      rw [← hg8] at hP ⊢
      obtain ⟨W8, hW8⟩ : ∃ W8, W8 = W7.alloc (.cells #[.slice A5 n5 c5, .slice (some ⟨g7, 0, none⟩) 1 1] 23) := ⟨_, rfl⟩
      rw [← hW8] at hP hb8 ⊢
      clear hW8 hg8
      have hw8 := keepB hb8 hw7
      refine hK.out _ _ (Stay.of hb8) (fun _ => ?_)
      clear hK K
      try simp only [Act.put, List.setIfInBounds_toArray, List.set_cons_zero, List.set_cons_succ]
      refine anyH_restay (Stay.of hb8) (fun hHeld => ?_)
      have hcat : catP [⟨A5, n5, c5, s.lists 10⟩, ⟨some ⟨g7, 0, none⟩, 1, 1, [(n : Int)]⟩] = s.lists 10 ++ [(n : Int)] := by simp [catP]
      have hcc := concat_any g8 2 2 _ W8 hP rfl (by omega) (by rw [hcat]; simp; have := HLL.out 10 (by omega); have := HF2.out; omega)
      rw [hcat] at hcc
      clear hcat hP
      refine wpAnyH_ready (rs := [9]) (by kernel_rfl) (by simp) ?_
      refine AllReadyH.cons rfl (fun K hK => ?_) AllReadyH.nil
      simp only [List.getElem_toArray, List.getElem_cons_zero, List.getElem_cons_succ]
      go_simp
      refine hcc.mono ?_
      rintro en W9 ⟨A9, n9, c9, rfl, ho9, hb9⟩
      clear hcc
      go_wp2_with fail
      have hB9 := hHeld.then hb9
      refine hK.out _ _ hB9 (fun _ => ?_)
      clear hK K
      try simp only [Act.put, List.setIfInBounds_toArray, List.set_cons_zero, List.set_cons_succ]
      refine anyH_restay hB9 (fun hHeld => ?_)
      have hw9 := keepB hb9 hw8
      have ha9 := HM.out.a.keep hw9
      have k9 : W9.cell? ⟨g, 11, none⟩ = some (.slice A5 n5 c5) := (keepB hb9 hb8).cell (p := ⟨g, 11, none⟩) (by have := hb7.size; simp only; omega) |>.trans k7
      have f9 := frozen_of_row W9 g 11 _ _ ha9
      have HFin := Lib.hid (made_end HX.out HM.out hgl HWO.out hw9 ((ho9.base_le (show w.heap.size ≤ W8.heap.size from Nat.le_trans HM.out.s.size hw8.size)).slR) HWL.out HR.out)
      clear k7 hw7 hb8 ho9 hb7 hone ha9 hw8 hw9
      refine wpAnyH_take (i := 12) (v := ?_) rfl (by kernel_rfl) (by kernel_rfl) (by kernel_rfl) (fun _ _ _ h => h) (Or.inl ⟨by rfl, ?_⟩) hHeld ?_
      rotate_left
      · (intro w hSw; go_simp; (try with_reducible rfl))
      simp only [Act.put, List.getElem_toArray, List.getElem_cons_zero, List.getElem_cons_succ, List.setIfInBounds_toArray, List.set_cons_zero, List.set_cons_succ]
      refine wpAnyH_ready (rs := [13]) (by kernel_rfl) (by simp) ?_
      refine AllReadyH.cons rfl (fun K hK => ?_) AllReadyH.nil
      simp only [List.getElem_toArray, List.getElem_cons_zero, List.getElem_cons_succ]
      go_simp
      refine hK.out _ _ ((Stay.refl g W9).set_ 11 _) (fun _ => ?_)
      clear hK K
      try simp only [Act.put, List.setIfInBounds_toArray, List.set_cons_zero, List.set_cons_succ]
      refine wpAnyH_done (by kernel_rfl) ?_ _
      clear k9 f9 hB9 hHeld hb9
      go_wp2_with fail
      go_ret
      exact HFin.out
  · skip
    refine (hmd _).mono ?_
    rintro en W1 ⟨rfl, hb6⟩
    go_wp2_with fail
    have hB6 := hHeld.then hb6
    refine hK.out _ _ hB6 (fun _ => ?_)
    clear hK K
    try simp only [Act.put, List.setIfInBounds_toArray, List.set_cons_zero, List.set_cons_succ]
    refine anyH_restay hB6 (fun hHeld => ?_)
    have ha6 := ha0.keep hb6
    have k6 : W1.cell? ⟨g, 0, none⟩ = some (.slice A n c) := (ha6.cell 0).trans (stC_objs _ _ _ _)
    have hw6 := keepB hb6 hb0
    clear ha0 k0 hb0
    refine wpAnyH_ready (rs := [4, 7]) (by kernel_rfl) (by simp) ?_
    refine AllReadyH.cons rfl (fun K hK => ?_) (AllReadyH.cons rfl (fun K hK => ?_) AllReadyH.nil)
    · simp only [List.getElem_toArray, List.getElem_cons_zero, List.getElem_cons_succ]
      go_simp
      refine hK.out _ _ (Stay.refl _ _) (fun _ => ?_)
      clear hK K
      try simp only [Act.put, List.setIfInBounds_toArray, List.set_cons_zero, List.set_cons_succ]
      refine wpAnyH_ready (rs := [7]) (by kernel_rfl) (by simp) ?_
      refine AllReadyH.cons rfl (fun K hK => ?_) AllReadyH.nil
      simp only [List.getElem_toArray, List.getElem_cons_zero, List.getElem_cons_succ]
      rw [if_pos (by rfl)]
      refine wp_buildSliceOf (.tmp 20) rfl o rfl ?_
      obtain ⟨W2, hW2⟩ : ∃ W2, W2 = W1.alloc (.cells (arr .i64 18 o) 52) := ⟨_, rfl⟩
      have hb7 : Below W1.heap.size W1 W2 := by rw [hW2]; exact (Below.refl _ _).alloc (Nat.le_refl _) _
      have hob : ObAt W2 W1.heap.size o := by rw [hW2]; exact heap_alloc_new _ _
      rw [← hW2]
      have ha7 := ha6.keep hb7
      have hw7 := keepB hb7 hw6
      have k7 : W2.cell? ⟨g, 0, none⟩ = some (.slice A n c) := (ha7.cell 0).trans (stC_objs _ _ _ _)
      clear hW2
      refine hK.out _ _ (Stay.of hb7) (fun _ => ?_)
      clear hK K
      try simp only [Act.put, List.setIfInBounds_toArray, List.set_cons_zero, List.set_cons_succ]
      refine anyH_restay (Stay.of hb7) (fun hHeld => ?_)
      refine wpAnyH_ready (rs := [8]) (by kernel_rfl) (by simp) ?_
      refine AllReadyH.cons rfl (fun K hK => ?_) AllReadyH.nil
      simp only [List.getElem_toArray, List.getElem_cons_zero, List.getElem_cons_succ]
      go_simp
      have hr1 : RdO W2.heap.size W2 A s.objs := (HX.out W2 (Stay.of hw7).x).o
      have hP := parts2O (W := W2) (p1 := ⟨A, n, c, s.objs⟩) (p2 := ⟨some ⟨W1.heap.size, 0, none⟩, 1, 1, [o]⟩) hr1 (rdO_one hob) HN.out rfl 22
      have hb8 : Below W2.heap.size W2 (W2.alloc (.cells #[.slice A n c, .slice (some ⟨W1.heap.size, 0, none⟩) 1 1] 22)) := (Below.refl _ _).alloc (Nat.le_refl _) _
      simp only at hP
      obtain ⟨g8, hg8⟩ : ∃ g8, g8 = W2.heap.size := ⟨_, rfl⟩
      rw [← hg8] at hP ⊢
      obtain ⟨W3, hW3⟩ : ∃ W3, W3 = W2.alloc (.cells #[.slice A n c, .slice (some ⟨W1.heap.size, 0, none⟩) 1 1] 22) := ⟨_, rfl⟩
      rw [← hW3] at hP hb8 ⊢
      clear hW3 hr1 hg8
      have ha8 := ha7.keep hb8
      have hw8 := keepB hb8 hw7
      refine hK.out _ _ (Stay.of hb8) (fun _ => ?_)
      clear hK K
      try simp only [Act.put, List.setIfInBounds_toArray, List.set_cons_zero, List.set_cons_succ]
      refine anyH_restay (Stay.of hb8) (fun hHeld => ?_)
      have hcat : catO [⟨A, n, c, s.objs⟩, ⟨some ⟨W1.heap.size, 0, none⟩, 1, 1, [o]⟩] = s.objs ++ [o] := by simp [catO]
      have hcc := concatO_any g8 2 2 _ W3 hP rfl (by omega) (by rw [hcat]; simp; have := HF.out; omega)
      rw [hcat] at hcc
      clear hcat hP
      refine wpAnyH_ready (rs := [9]) (by kernel_rfl) (by simp) ?_
      refine AllReadyH.cons rfl (fun K hK => ?_) AllReadyH.nil
      simp only [List.getElem_toArray, List.getElem_cons_zero, List.getElem_cons_succ]
      go_simp
      refine hcc.mono ?_
      rintro en W4 ⟨A4, n4, c4, rfl, ho4, hb9⟩
      clear hcc
      go_wp2_with fail
      have hB9 := hHeld.then hb9
      refine hK.out _ _ hB9 (fun _ => ?_)
      clear hK K
      try simp only [Act.put, List.setIfInBounds_toArray, List.set_cons_zero, List.set_cons_succ]
      refine anyH_restay hB9 (fun hHeld => ?_)
      have ha9 := ha8.keep hb9
      have hw9 := keepB hb9 hw8
      have k9 : W4.cell? ⟨g, 0, none⟩ = some (.slice A n c) := (ha9.cell 0).trans (stC_objs _ _ _ _)
      have f9 := frozen_of_row W4 g 0 _ _ ha9
      have ho9 := ho4.low hw8.size
      clear k7 ha7 hw7 hb8 ha8 ho4 hb7 hob
      refine wpAnyH_take (i := 10) (v := ?_) rfl (by kernel_rfl) (by kernel_rfl) (by kernel_rfl) (fun _ _ _ h => h) (Or.inl ⟨by rfl, ?_⟩) hHeld ?_
      rotate_left
      · (intro w hSw; go_simp; (try with_reducible rfl))
      simp only [Act.put, List.getElem_toArray, List.getElem_cons_zero, List.getElem_cons_succ, List.setIfInBounds_toArray, List.set_cons_zero, List.set_cons_succ]
      refine wpAnyH_take (i := 11) (v := ?_) rfl (by kernel_rfl) (by kernel_rfl) (by kernel_rfl) (fun _ _ _ h => h) (Or.inl ⟨by rfl, ?_⟩) hHeld ?_
      rotate_left
      · (intro w hSw; go_simp; (try with_reducible rfl))
      simp only [Act.put, List.getElem_toArray, List.getElem_cons_zero, List.getElem_cons_succ, List.setIfInBounds_toArray, List.set_cons_zero, List.set_cons_succ]
      refine wpAnyH_ready (rs := [12]) (by kernel_rfl) (by simp) ?_
      refine AllReadyH.cons rfl (fun K hK => ?_) AllReadyH.nil
      simp only [List.getElem_toArray, List.getElem_cons_zero, List.getElem_cons_succ]
      go_simp
      refine hK.out _ _ ((Stay.refl g W4).set_ 0 _) (fun _ => ?_)
      clear hK K
      try simp only [Act.put, List.setIfInBounds_toArray, List.set_cons_zero, List.set_cons_succ]
      refine wpAnyH_done (by kernel_rfl) ?_ _
      have HM := Lib.hid (make_mid ha9 (Stay.of hw9) hgl ho9)
      clear ha9 ho9 k9 f9 hB9 hHeld
      obtain ⟨W5, hW5⟩ : ∃ W5, W5 = W4.setCell ⟨g, 0, none⟩ (.slice A4 n4 c4) := ⟨_, rfl⟩
      rw [← hW5] at HM ⊢
      clear hW5
      go_upto_region 5 with fail
      clear hw9 hb9 hw8 hB6 hb6 hw6 ha6 k6 hb1 hrow hmd hbo
      obtain ⟨A5, n5, c5, hL⟩ : ∃ A5 n5 c5, L 10 = ⟨A5, n5, c5⟩ := ⟨_, _, _, rfl⟩
      have HWO := Lib.hid (show ∀ x ∈ s.objs ++ [o], ∀ i < 18, N64 (x i) from fun x hx => by
        rcases List.mem_append.1 hx with h | h
        · exact HX.out.now.ow x h
        · rw [List.mem_singleton.1 h, HO.out]; exact made_n64 HI.out)
      have HWL := Lib.hid (show ∀ x ∈ s.lists 10 ++ [(n : Int)], N64 x from fun x hx => by
        rcases List.mem_append.1 hx with h | h
        · exact HX.out.now.lw 10 (by omega) x h
        · rw [List.mem_singleton.1 h]; have := HF2.out; exact ⟨by omega, by omega⟩)
      have HN5 := Lib.hid (show Nums .i64 W5 W5.heap.size A5 n5 (s.lists 10) from by
        have h := (HX.out W5 HM.out.s.x).l 10 (by omega)
        rw [hL] at h
        exact h)
      have k6 : W5.cell? ⟨g, 11, none⟩ = some (.slice A5 n5 c5) := by
        have h := (HM.out.a.cell 11).trans (stC_list _ L _ _ (show 10 < 11 by omega))
        rw [hL] at h
        exact h
      have hg6 : g < W5.heap.size := HM.out.a.lt
      clear hL
      refine region_stay g (by kernel_rfl) (fun hHeld => ?_)
      refine wpAnyH_take (i := 0) (v := ?_) rfl (by kernel_rfl) (by kernel_rfl) (by kernel_rfl) (fun _ _ _ h => h) (Or.inl ⟨by rfl, ?_⟩) hHeld ?_
      rotate_left
      · (intro w hSw; go_simp; (try with_reducible rfl))
      simp only [Act.put, List.getElem_toArray, List.getElem_cons_zero, List.getElem_cons_succ, List.setIfInBounds_toArray, List.set_cons_zero, List.set_cons_succ]
      refine wpAnyH_take (i := 1) (v := ?_) rfl (by kernel_rfl) (by kernel_rfl) (by kernel_rfl) (fun _ _ _ h => h) (Or.inl ⟨by rfl, ?_⟩) hHeld ?_
      rotate_left
      · (intro w hSw; go_simp; (try with_reducible rfl))
      simp only [Act.put, List.getElem_toArray, List.getElem_cons_zero, List.getElem_cons_succ, List.setIfInBounds_toArray, List.set_cons_zero, List.set_cons_succ]
      refine wpAnyH_take (i := 2) (v := ?_) rfl (by kernel_rfl) (by kernel_rfl) (by kernel_rfl) (fun _ _ _ h => h) (Or.inl ⟨by rfl, ?_⟩) hHeld ?_
      rotate_left
      · (intro w hSw; go_simp; (try with_reducible rfl))
      simp only [Act.put, List.getElem_toArray, List.getElem_cons_zero, List.getElem_cons_succ, List.setIfInBounds_toArray, List.set_cons_zero, List.set_cons_succ]
      refine wpAnyH_take (i := 3) (v := ?_) rfl (by kernel_rfl) (by kernel_rfl) (by kernel_rfl) (fun _ _ _ h => h) (Or.inl ⟨by rfl, ?_⟩) hHeld ?_
      rotate_left
      · (intro w hSw; go_simp; (try with_reducible rfl))
      simp only [Act.put, List.getElem_toArray, List.getElem_cons_zero, List.getElem_cons_succ, List.setIfInBounds_toArray, List.set_cons_zero, List.set_cons_succ]
      refine wpAnyH_take (i := 4) (v := ?_) rfl (by kernel_rfl) (by kernel_rfl) (by kernel_rfl) (fun _ _ _ h => h) (Or.inl ⟨by rfl, ?_⟩) hHeld ?_
      rotate_left
      · (intro w hSw; go_simp; (try with_reducible rfl))
      simp only [Act.put, List.getElem_toArray, List.getElem_cons_zero, List.getElem_cons_succ, List.setIfInBounds_toArray, List.set_cons_zero, List.set_cons_succ]
      refine wpAnyH_take (i := 6) (v := ?_) rfl (by kernel_rfl) (by kernel_rfl) (by kernel_rfl) (fun _ _ _ h => h) (Or.inl ⟨by rfl, ?_⟩) hHeld ?_
      rotate_left
      · (intro w hSw; go_simp; (try with_reducible rfl))
      simp only [Act.put, List.getElem_toArray, List.getElem_cons_zero, List.getElem_cons_succ, List.setIfInBounds_toArray, List.set_cons_zero, List.set_cons_succ]
      refine wpAnyH_take (i := 10) (v := ?_) rfl (by kernel_rfl) (by kernel_rfl) (by kernel_rfl) (fun _ _ _ h => h) (Or.inl ⟨by rfl, ?_⟩) hHeld ?_
      rotate_left
      · (intro w hSw; go_simp; (try with_reducible rfl))
      simp only [Act.put, List.getElem_toArray, List.getElem_cons_zero, List.getElem_cons_succ, List.setIfInBounds_toArray, List.set_cons_zero, List.set_cons_succ]
      refine wpAnyH_take (i := 11) (v := ?_) rfl (by kernel_rfl) (by kernel_rfl) (by kernel_rfl) (fun _ _ _ h => h) (Or.inl ⟨by rfl, ?_⟩) hHeld ?_
      rotate_left
      · (intro w hSw; go_simp; (try with_reducible rfl))
      simp only [Act.put, List.getElem_toArray, List.getElem_cons_zero, List.getElem_cons_succ, List.setIfInBounds_toArray, List.set_cons_zero, List.set_cons_succ]
      have k6 : W5.drew.cell? ⟨g, 11, none⟩ = some (.slice A5 n5 c5) := k6
      have hg6 : g < W5.drew.heap.size := hg6
      have hw6 : Below W5.heap.size W5 W5.drew := (Below.refl _ _).drew
      generalize W5.drew = W6 at hHeld k6 hg6 hw6 ⊢
      refine anyH_restay hHeld (fun hHeld => ?_)
      refine wpAnyH_ready (rs := [5, 7]) (by kernel_rfl) (by simp) ?_
      refine AllReadyH.cons rfl (fun K hK => ?_) (AllReadyH.cons rfl (fun K hK => ?_) AllReadyH.nil)
      all_goals simp only [List.getElem_toArray, List.getElem_cons_zero, List.getElem_cons_succ]
      all_goals go_simp
      · skip
        refine hK.out _ _ (Stay.refl _ _) (fun _ => ?_)
        clear hK K
        try simp only [Act.put, List.setIfInBounds_toArray, List.set_cons_zero, List.set_cons_succ]
        refine wpAnyH_ready (rs := [7]) (by kernel_rfl) (by simp) ?_
        refine AllReadyH.cons rfl (fun K hK => ?_) AllReadyH.nil
        simp only [List.getElem_toArray, List.getElem_cons_zero, List.getElem_cons_succ]
        go_simp
        have hone := Nums.one W6 .i64 (n : Int) 3
        obtain ⟨W7, hW7⟩ : ∃ W7, W7 = W6.alloc (.cells #[.int .i64 (n : Int)] 3) := ⟨_, rfl⟩
        have hb7 : Below W6.heap.size W6 W7 := by rw [hW7]; exact below_alloc _
        have hl7 : W6.heap.size + 1 ≤ W7.heap.size := by rw [hW7]; simp
        rw [← hW7] at hone ⊢
        have hone := hone.more hl7
        obtain ⟨g7, hg7⟩ : ∃ g7, g7 = W6.heap.size := ⟨_, rfl⟩
        rw [← hg7] at hone ⊢
        clear hW7 hl7 hg7
        have hw7 := keepB hb7 hw6
        have k7 : W7.cell? ⟨g, 11, none⟩ = some (.slice A5 n5 c5) := (hb7.cell (by simpa using hg6)).trans k6
        clear k6
        refine hK.out _ _ (Stay.of hb7) (fun _ => ?_)
        clear hK K
        try simp only [Act.put, List.setIfInBounds_toArray, List.set_cons_zero, List.set_cons_succ]
        refine anyH_restay (Stay.of hb7) (fun hHeld => ?_)
        refine wpAnyH_ready (rs := [8]) (by kernel_rfl) (by simp) ?_
        refine AllReadyH.cons rfl (fun K hK => ?_) AllReadyH.nil
        simp only [List.getElem_toArray, List.getElem_cons_zero, List.getElem_cons_succ]
        go_simp
        have hP := parts2 (W := W7) (p1 := ⟨A5, n5, c5, s.lists 10⟩) (p2 := ⟨some ⟨g7, 0, none⟩, 1, 1, [(n : Int)]⟩) ((HN5.out.below hw7).more hw7.size) hone 23
        have hb8 : Below W7.heap.size W7 (W7.alloc (.cells #[.slice A5 n5 c5, .slice (some ⟨g7, 0, none⟩) 1 1] 23)) := below_alloc _
        simp only at hP
        obtain ⟨g8, hg8⟩ : ∃ g8, g8 = W7.heap.size := ⟨_, rfl⟩
        rw [← hg8] at hP ⊢
        obtain ⟨W8, hW8⟩ : ∃ W8, W8 = W7.alloc (.cells #[.slice A5 n5 c5, .slice (some ⟨g7, 0, none⟩) 1 1] 23) := ⟨_, rfl⟩
        rw [← hW8] at hP hb8 ⊢
        clear hW8 hg8
        have hw8 := keepB hb8 hw7
        refine hK.out _ _ (Stay.of hb8) (fun _ => ?_)
        clear hK K
        try simp only [Act.put, List.setIfInBounds_toArray, List.set_cons_zero, List.set_cons_succ]
        refine anyH_restay (Stay.of hb8) (fun hHeld => ?_)
        have hcat : catP [⟨A5, n5, c5, s.lists 10⟩, ⟨some ⟨g7, 0, none⟩, 1, 1, [(n : Int)]⟩] = s.lists 10 ++ [(n : Int)] := by simp [catP]
        have hcc := concat_any g8 2 2 _ W8 hP rfl (by omega) (by rw [hcat]; simp; have := HLL.out 10 (by omega); have := HF2.out; omega)
        rw [hcat] at hcc
        clear hcat hP
        refine wpAnyH_ready (rs := [9]) (by kernel_rfl) (by simp) ?_
        refine AllReadyH.cons rfl (fun K hK => ?_) AllReadyH.nil
        simp only [List.getElem_toArray, List.getElem_cons_zero, List.getElem_cons_succ]
        go_simp
        refine hcc.mono ?_
        rintro en W9 ⟨A9, n9, c9, rfl, ho9, hb9⟩
        clear hcc
        go_wp2_with fail
        have hB9 := hHeld.then hb9
        refine hK.out _ _ hB9 (fun _ => ?_)
        clear hK K
        try simp only [Act.put, List.setIfInBounds_toArray, List.set_cons_zero, List.set_cons_succ]
        refine anyH_restay hB9 (fun hHeld => ?_)
        have hw9 := keepB hb9 hw8
        have ha9 := HM.out.a.keep hw9
        have k9 : W9.cell? ⟨g, 11, none⟩ = some (.slice A5 n5 c5) := (keepB hb9 hb8).cell (p := ⟨g, 11, none⟩) (by have := hb7.size; simp only; omega) |>.trans k7
        have f9 := frozen_of_row W9 g 11 _ _ ha9
        have HFin := Lib.hid (made_end HX.out HM.out hgl HWO.out hw9 ((ho9.base_le (show w.heap.size ≤ W8.heap.size from Nat.le_trans HM.out.s.size hw8.size)).slR) HWL.out HR.out)
        clear k7 hw7 hb8 ho9 hb7 hone ha9 hw8 hw9
        refine wpAnyH_take (i := 12) (v := ?_) rfl (by kernel_rfl) (by kernel_rfl) (by kernel_rfl) (fun _ _ _ h => h) (Or.inl ⟨by rfl, ?_⟩) hHeld ?_
        rotate_left
        · (intro w hSw; go_simp; (try with_reducible rfl))
        simp only [Act.put, List.getElem_toArray, List.getElem_cons_zero, List.getElem_cons_succ, List.setIfInBounds_toArray, List.set_cons_zero, List.set_cons_succ]
        refine wpAnyH_ready (rs := [13]) (by kernel_rfl) (by simp) ?_
        refine AllReadyH.cons rfl (fun K hK => ?_) AllReadyH.nil
        simp only [List.getElem_toArray, List.getElem_cons_zero, List.getElem_cons_succ]
        go_simp
        refine hK.out _ _ ((Stay.refl g W9).set_ 11 _) (fun _ => ?_)
        clear hK K
        try simp only [Act.put, List.setIfInBounds_toArray, List.set_cons_zero, List.set_cons_succ]
        refine wpAnyH_done (by kernel_rfl) ?_ _
        clear k9 f9 hB9 hHeld hb9
        go_wp2_with fail
        go_ret
        exact HFin.out
      · skip
        have hone := Nums.one W6 .i64 (n : Int) 3
        obtain ⟨W7, hW7⟩ : ∃ W7, W7 = W6.alloc (.cells #[.int .i64 (n : Int)] 3) := ⟨_, rfl⟩
        have hb7 : Below W6.heap.size W6 W7 := by rw [hW7]; exact below_alloc _
        have hl7 : W6.heap.size + 1 ≤ W7.heap.size := by rw [hW7]; simp
        rw [← hW7] at hone ⊢
        have hone := hone.more hl7
        obtain ⟨g7, hg7⟩ : ∃ g7, g7 = W6.heap.size := ⟨_, rfl⟩
        rw [← hg7] at hone ⊢
        clear hW7 hl7 hg7
        have hw7 := keepB hb7 hw6
        have k7 : W7.cell? ⟨g, 11, none⟩ = some (.slice A5 n5 c5) := (hb7.cell (by simpa using hg6)).trans k6
        clear k6
        refine hK.out _ _ (Stay.of hb7) (fun _ => ?_)
        clear hK K
        try simp only [Act.put, List.setIfInBounds_toArray, List.set_cons_zero, List.set_cons_succ]
        refine anyH_restay (Stay.of hb7) (fun hHeld => ?_)
        refine wpAnyH_ready (rs := [5]) (by kernel_rfl) (by simp) ?_
        refine AllReadyH.cons rfl (fun K hK => ?_) AllReadyH.nil
        simp only [List.getElem_toArray, List.getElem_cons_zero, List.getElem_cons_succ]
        go_simp
        refine hK.out _ _ (Stay.refl _ _) (fun _ => ?_)
        clear hK K
        try simp only [Act.put, List.setIfInBounds_toArray, List.set_cons_zero, List.set_cons_succ]
        refine wpAnyH_ready (rs := [8]) (by kernel_rfl) (by simp) ?_
        refine AllReadyH.cons rfl (fun K hK => ?_) AllReadyH.nil
        simp only [List.getElem_toArray, List.getElem_cons_zero, List.getElem_cons_succ]
        go_simp
        have hP := parts2 (W := W7) (p1 := ⟨A5, n5, c5, s.lists 10⟩) (p2 := ⟨some ⟨g7, 0, none⟩, 1, 1, [(n : Int)]⟩) ((HN5.out.below hw7).more hw7.size) hone 23
        have hb8 : Below W7.heap.size W7 (W7.alloc (.cells #[.slice A5 n5 c5, .slice (some ⟨g7, 0, none⟩) 1 1] 23)) := below_alloc _
        simp only at hP
        obtain ⟨g8, hg8⟩ : ∃ g8, g8 = W7.heap.size := ⟨_, rfl⟩
        rw [← hg8] at hP ⊢
        obtain ⟨W8, hW8⟩ : ∃ W8, W8 = W7.alloc (.cells #[.slice A5 n5 c5, .slice (some ⟨g7, 0, none⟩) 1 1] 23) := ⟨_, rfl⟩
        rw [← hW8] at hP hb8 ⊢
        clear hW8 hg8
        have hw8 := keepB hb8 hw7
        refine hK.out _ _ (Stay.of hb8) (fun _ => ?_)
        clear hK K
        try simp only [Act.put, List.setIfInBounds_toArray, List.set_cons_zero, List.set_cons_succ]
        refine anyH_restay (Stay.of hb8) (fun hHeld => ?_)
        have hcat : catP [⟨A5, n5, c5, s.lists 10⟩, ⟨some ⟨g7, 0, none⟩, 1, 1, [(n : Int)]⟩] = s.lists 10 ++ [(n : Int)] := by simp [catP]
        have hcc := concat_any g8 2 2 _ W8 hP rfl (by omega) (by rw [hcat]; simp; have := HLL.out 10 (by omega); have := HF2.out; omega)
        rw [hcat] at hcc
        clear hcat hP
        refine wpAnyH_ready (rs := [9]) (by kernel_rfl) (by simp) ?_
        refine AllReadyH.cons rfl (fun K hK => ?_) AllReadyH.nil
        simp only [List.getElem_toArray, List.getElem_cons_zero, List.getElem_cons_succ]
        go_simp
        refine hcc.mono ?_
        rintro en W9 ⟨A9, n9, c9, rfl, ho9, hb9⟩
        clear hcc
        go_wp2_with fail
        have hB9 := hHeld.then hb9
        refine hK.out _ _ hB9 (fun _ => ?_)
        clear hK K
        try simp only [Act.put, List.setIfInBounds_toArray, List.set_cons_zero, List.set_cons_succ]
        refine anyH_restay hB9 (fun hHeld => ?_)
        have hw9 := keepB hb9 hw8
        have ha9 := HM.out.a.keep hw9
        have k9 : W9.cell? ⟨g, 11, none⟩ = some (.slice A5 n5 c5) := (keepB hb9 hb8).cell (p := ⟨g, 11, none⟩) (by have := hb7.size; simp only; omega) |>.trans k7
        have f9 := frozen_of_row W9 g 11 _ _ ha9
        have HFin := Lib.hid (made_end HX.out HM.out hgl HWO.out hw9 ((ho9.base_le (show w.heap.size ≤ W8.heap.size from Nat.le_trans HM.out.s.size hw8.size)).slR) HWL.out HR.out)
        clear k7 hw7 hb8 ho9 hb7 hone ha9 hw8 hw9
        refine wpAnyH_take (i := 12) (v := ?_) rfl (by kernel_rfl) (by kernel_rfl) (by kernel_rfl) (fun _ _ _ h => h) (Or.inl ⟨by rfl, ?_⟩) hHeld ?_
        rotate_left
        · (intro w hSw; go_simp; (try with_reducible rfl))
        simp only [Act.put, List.getElem_toArray, List.getElem_cons_zero, List.getElem_cons_succ, List.setIfInBounds_toArray, List.set_cons_zero, List.set_cons_succ]
        refine wpAnyH_ready (rs := [13]) (by kernel_rfl) (by simp) ?_
        refine AllReadyH.cons rfl (fun K hK => ?_) AllReadyH.nil
        simp only [List.getElem_toArray, List.getElem_cons_zero, List.getElem_cons_succ]
        go_simp
        refine hK.out _ _ ((Stay.refl g W9).set_ 11 _) (fun _ => ?_)
        clear hK K
        try simp only [Act.put, List.setIfInBounds_toArray, List.set_cons_zero, List.set_cons_succ]
        refine wpAnyH_done (by kernel_rfl) ?_ _
        clear k9 f9 hB9 hHeld hb9
        go_wp2_with fail
        go_ret
        exact HFin.out
    · skip
      simp only [List.getElem_toArray, List.getElem_cons_zero, List.getElem_cons_succ]
      rw [if_pos (by rfl)]
      refine wp_buildSliceOf (.tmp 20) rfl o rfl ?_
      obtain ⟨W2, hW2⟩ : ∃ W2, W2 = W1.alloc (.cells (arr .i64 18 o) 52) := ⟨_, rfl⟩
      have hb7 : Below W1.heap.size W1 W2 := by rw [hW2]; exact (Below.refl _ _).alloc (Nat.le_refl _) _
      have hob : ObAt W2 W1.heap.size o := by rw [hW2]; exact heap_alloc_new _ _
      rw [← hW2]
      have ha7 := ha6.keep hb7
      have hw7 := keepB hb7 hw6
      have k7 : W2.cell? ⟨g, 0, none⟩ = some (.slice A n c) := (ha7.cell 0).trans (stC_objs _ _ _ _)
      clear hW2
      refine hK.out _ _ (Stay.of hb7) (fun _ => ?_)
      clear hK K
      try simp only [Act.put, List.setIfInBounds_toArray, List.set_cons_zero, List.set_cons_succ]
      refine anyH_restay (Stay.of hb7) (fun hHeld => ?_)
      refine wpAnyH_ready (rs := [4]) (by kernel_rfl) (by simp) ?_
      refine AllReadyH.cons rfl (fun K hK => ?_) AllReadyH.nil
      simp only [List.getElem_toArray, List.getElem_cons_zero, List.getElem_cons_succ]
      go_simp
      refine hK.out _ _ (Stay.refl _ _) (fun _ => ?_)
      clear hK K
      try simp only [Act.put, List.setIfInBounds_toArray, List.set_cons_zero, List.set_cons_succ]
      refine wpAnyH_ready (rs := [8]) (by kernel_rfl) (by simp) ?_
      refine AllReadyH.cons rfl (fun K hK => ?_) AllReadyH.nil
      simp only [List.getElem_toArray, List.getElem_cons_zero, List.getElem_cons_succ]
      go_simp
      have hr1 : RdO W2.heap.size W2 A s.objs := (HX.out W2 (Stay.of hw7).x).o
      have hP := parts2O (W := W2) (p1 := ⟨A, n, c, s.objs⟩) (p2 := ⟨some ⟨W1.heap.size, 0, none⟩, 1, 1, [o]⟩) hr1 (rdO_one hob) HN.out rfl 22
      have hb8 : Below W2.heap.size W2 (W2.alloc (.cells #[.slice A n c, .slice (some ⟨W1.heap.size, 0, none⟩) 1 1] 22)) := (Below.refl _ _).alloc (Nat.le_refl _) _
      simp only at hP
      obtain ⟨g8, hg8⟩ : ∃ g8, g8 = W2.heap.size := ⟨_, rfl⟩
      rw [← hg8] at hP ⊢
      obtain ⟨W3, hW3⟩ : ∃ W3, W3 = W2.alloc (.cells #[.slice A n c, .slice (some ⟨W1.heap.size, 0, none⟩) 1 1] 22) := ⟨_, rfl⟩
      rw [← hW3] at hP hb8 ⊢
      clear hW3 hr1 hg8
      have ha8 := ha7.keep hb8
      have hw8 := keepB hb8 hw7
      refine hK.out _ _ (Stay.of hb8) (fun _ => ?_)
      clear hK K
      try simp only [Act.put, List.setIfInBounds_toArray, List.set_cons_zero, List.set_cons_succ]
      refine anyH_restay (Stay.of hb8) (fun hHeld => ?_)
      have hcat : catO [⟨A, n, c, s.objs⟩, ⟨some ⟨W1.heap.size, 0, none⟩, 1, 1, [o]⟩] = s.objs ++ [o] := by simp [catO]
      have hcc := concatO_any g8 2 2 _ W3 hP rfl (by omega) (by rw [hcat]; simp; have := HF.out; omega)
      rw [hcat] at hcc
      clear hcat hP
      refine wpAnyH_ready (rs := [9]) (by kernel_rfl) (by simp) ?_
      refine AllReadyH.cons rfl (fun K hK => ?_) AllReadyH.nil
      simp only [List.getElem_toArray, List.getElem_cons_zero, List.getElem_cons_succ]
      go_simp
      refine hcc.mono ?_
      rintro en W4 ⟨A4, n4, c4, rfl, ho4, hb9⟩
      clear hcc
      go_wp2_with fail
      have hB9 := hHeld.then hb9
      refine hK.out _ _ hB9 (fun _ => ?_)
      clear hK K
      try simp only [Act.put, List.setIfInBounds_toArray, List.set_cons_zero, List.set_cons_succ]
      refine anyH_restay hB9 (fun hHeld => ?_)
      have ha9 := ha8.keep hb9
      have hw9 := keepB hb9 hw8
      have k9 : W4.cell? ⟨g, 0, none⟩ = some (.slice A n c) := (ha9.cell 0).trans (stC_objs _ _ _ _)
      have f9 := frozen_of_row W4 g 0 _ _ ha9
      have ho9 := ho4.low hw8.size
      clear k7 ha7 hw7 hb8 ha8 ho4 hb7 hob
      refine wpAnyH_take (i := 10) (v := ?_) rfl (by kernel_rfl) (by kernel_rfl) (by kernel_rfl) (fun _ _ _ h => h) (Or.inl ⟨by rfl, ?_⟩) hHeld ?_
      rotate_left
      · (intro w hSw; go_simp; (try with_reducible rfl))
      simp only [Act.put, List.getElem_toArray, List.getElem_cons_zero, List.getElem_cons_succ, List.setIfInBounds_toArray, List.set_cons_zero, List.set_cons_succ]
      refine wpAnyH_take (i := 11) (v := ?_) rfl (by kernel_rfl) (by kernel_rfl) (by kernel_rfl) (fun _ _ _ h => h) (Or.inl ⟨by rfl, ?_⟩) hHeld ?_
      rotate_left
      · (intro w hSw; go_simp; (try with_reducible rfl))
      simp only [Act.put, List.getElem_toArray, List.getElem_cons_zero, List.getElem_cons_succ, List.setIfInBounds_toArray, List.set_cons_zero, List.set_cons_succ]
      refine wpAnyH_ready (rs := [12]) (by kernel_rfl) (by simp) ?_
      refine AllReadyH.cons rfl (fun K hK => ?_) AllReadyH.nil
      simp only [List.getElem_toArray, List.getElem_cons_zero, List.getElem_cons_succ]
      go_simp
      refine hK.out _ _ ((Stay.refl g W4).set_ 0 _) (fun _ => ?_)
      clear hK K
      try simp only [Act.put, List.setIfInBounds_toArray, List.set_cons_zero, List.set_cons_succ]
      refine wpAnyH_done (by kernel_rfl) ?_ _
      have HM := Lib.hid (make_mid ha9 (Stay.of hw9) hgl ho9)
      clear ha9 ho9 k9 f9 hB9 hHeld
      obtain ⟨W5, hW5⟩ : ∃ W5, W5 = W4.setCell ⟨g, 0, none⟩ (.slice A4 n4 c4) := ⟨_, rfl⟩
      rw [← hW5] at HM ⊢
      clear hW5
      go_upto_region 5 with fail
      clear hw9 hb9 hw8 hB6 hb6 hw6 ha6 k6 hb1 hrow hmd hbo
      obtain ⟨A5, n5, c5, hL⟩ : ∃ A5 n5 c5, L 10 = ⟨A5, n5, c5⟩ := ⟨_, _, _, rfl⟩
      have HWO := Lib.hid (show ∀ x ∈ s.objs ++ [o], ∀ i < 18, N64 (x i) from fun x hx => by
        rcases List.mem_append.1 hx with h | h
        · exact HX.out.now.ow x h
        · rw [List.mem_singleton.1 h, HO.out]; exact made_n64 HI.out)
      have HWL := Lib.hid (show ∀ x ∈ s.lists 10 ++ [(n : Int)], N64 x from fun x hx => by
        rcases List.mem_append.1 hx with h | h
        · exact HX.out.now.lw 10 (by omega) x h
        · rw [List.mem_singleton.1 h]; have := HF2.out; exact ⟨by omega, by omega⟩)
      have HN5 := Lib.hid (show Nums .i64 W5 W5.heap.size A5 n5 (s.lists 10) from by
        have h := (HX.out W5 HM.out.s.x).l 10 (by omega)
        rw [hL] at h
        exact h)
      have k6 : W5.cell? ⟨g, 11, none⟩ = some (.slice A5 n5 c5) := by
        have h := (HM.out.a.cell 11).trans (stC_list _ L _ _ (show 10 < 11 by omega))
        rw [hL] at h
        exact h
      have hg6 : g < W5.heap.size := HM.out.a.lt
      clear hL
      refine region_stay g (by kernel_rfl) (fun hHeld => ?_)
      refine wpAnyH_take (i := 0) (v := ?_) rfl (by kernel_rfl) (by kernel_rfl) (by kernel_rfl) (fun _ _ _ h => h) (Or.inl ⟨by rfl, ?_⟩) hHeld ?_
      rotate_left
      · (intro w hSw; go_simp; (try with_reducible rfl))
      simp only [Act.put, List.getElem_toArray, List.getElem_cons_zero, List.getElem_cons_succ, List.setIfInBounds_toArray, List.set_cons_zero, List.set_cons_succ]
      refine wpAnyH_take (i := 1) (v := ?_) rfl (by kernel_rfl) (by kernel_rfl) (by kernel_rfl) (fun _ _ _ h => h) (Or.inl ⟨by rfl, ?_⟩) hHeld ?_
      rotate_left
      · (intro w hSw; go_simp; (try with_reducible rfl))
      simp only [Act.put, List.getElem_toArray, List.getElem_cons_zero, List.getElem_cons_succ, List.setIfInBounds_toArray, List.set_cons_zero, List.set_cons_succ]
      refine wpAnyH_take (i := 2) (v := ?_) rfl (by kernel_rfl) (by kernel_rfl) (by kernel_rfl) (fun _ _ _ h => h) (Or.inl ⟨by rfl, ?_⟩) hHeld ?_
      rotate_left
      · (intro w hSw; go_simp; (try with_reducible rfl))
      simp only [Act.put, List.getElem_toArray, List.getElem_cons_zero, List.getElem_cons_succ, List.setIfInBounds_toArray, List.set_cons_zero, List.set_cons_succ]
      refine wpAnyH_take (i := 3) (v := ?_) rfl (by kernel_rfl) (by kernel_rfl) (by kernel_rfl) (fun _ _ _ h => h) (Or.inl ⟨by rfl, ?_⟩) hHeld ?_
      rotate_left
      · (intro w hSw; go_simp; (try with_reducible rfl))
      simp only [Act.put, List.getElem_toArray, List.getElem_cons_zero, List.getElem_cons_succ, List.setIfInBounds_toArray, List.set_cons_zero, List.set_cons_succ]
      refine wpAnyH_take (i := 4) (v := ?_) rfl (by kernel_rfl) (by kernel_rfl) (by kernel_rfl) (fun _ _ _ h => h) (Or.inl ⟨by rfl, ?_⟩) hHeld ?_
      rotate_left
      · (intro w hSw; go_simp; (try with_reducible rfl))
      simp only [Act.put, List.getElem_toArray, List.getElem_cons_zero, List.getElem_cons_succ, List.setIfInBounds_toArray, List.set_cons_zero, List.set_cons_succ]
      refine wpAnyH_take (i := 6) (v := ?_) rfl (by kernel_rfl) (by kernel_rfl) (by kernel_rfl) (fun _ _ _ h => h) (Or.inl ⟨by rfl, ?_⟩) hHeld ?_
      rotate_left
      · (intro w hSw; go_simp; (try with_reducible rfl))
      simp only [Act.put, List.getElem_toArray, List.getElem_cons_zero, List.getElem_cons_succ, List.setIfInBounds_toArray, List.set_cons_zero, List.set_cons_succ]
      refine wpAnyH_take (i := 10) (v := ?_) rfl (by kernel_rfl) (by kernel_rfl) (by kernel_rfl) (fun _ _ _ h => h) (Or.inl ⟨by rfl, ?_⟩) hHeld ?_
      rotate_left
      · (intro w hSw; go_simp; (try with_reducible rfl))
      simp only [Act.put, List.getElem_toArray, List.getElem_cons_zero, List.getElem_cons_succ, List.setIfInBounds_toArray, List.set_cons_zero, List.set_cons_succ]
      refine wpAnyH_take (i := 11) (v := ?_) rfl (by kernel_rfl) (by kernel_rfl) (by kernel_rfl) (fun _ _ _ h => h) (Or.inl ⟨by rfl, ?_⟩) hHeld ?_
      rotate_left
      · (intro w hSw; go_simp; (try with_reducible rfl))
      simp only [Act.put, List.getElem_toArray, List.getElem_cons_zero, List.getElem_cons_succ, List.setIfInBounds_toArray, List.set_cons_zero, List.set_cons_succ]
      have k6 : W5.drew.cell? ⟨g, 11, none⟩ = some (.slice A5 n5 c5) := k6
      have hg6 : g < W5.drew.heap.size := hg6
      have hw6 : Below W5.heap.size W5 W5.drew := (Below.refl _ _).drew
      generalize W5.drew = W6 at hHeld k6 hg6 hw6 ⊢
      refine anyH_restay hHeld (fun hHeld => ?_)
      refine wpAnyH_ready (rs := [5, 7]) (by kernel_rfl) (by simp) ?_
      refine AllReadyH.cons rfl (fun K hK => ?_) (AllReadyH.cons rfl (fun K hK => ?_) AllReadyH.nil)
      all_goals simp only [List.getElem_toArray, List.getElem_cons_zero, List.getElem_cons_succ]
      all_goals go_simp
      · skip
        refine hK.out _ _ (Stay.refl _ _) (fun _ => ?_)
        clear hK K
        try simp only [Act.put, List.setIfInBounds_toArray, List.set_cons_zero, List.set_cons_succ]
        refine wpAnyH_ready (rs := [7]) (by kernel_rfl) (by simp) ?_
        refine AllReadyH.cons rfl (fun K hK => ?_) AllReadyH.nil
        simp only [List.getElem_toArray, List.getElem_cons_zero, List.getElem_cons_succ]
        go_simp
        have hone := Nums.one W6 .i64 (n : Int) 3
        obtain ⟨W7, hW7⟩ : ∃ W7, W7 = W6.alloc (.cells #[.int .i64 (n : Int)] 3) := ⟨_, rfl⟩
        have hb7 : Below W6.heap.size W6 W7 := by rw [hW7]; exact below_alloc _
        have hl7 : W6.heap.size + 1 ≤ W7.heap.size := by rw [hW7]; simp
        rw [← hW7] at hone ⊢
        have hone := hone.more hl7
        obtain ⟨g7, hg7⟩ : ∃ g7, g7 = W6.heap.size := ⟨_, rfl⟩
        rw [← hg7] at hone ⊢
        clear hW7 hl7 hg7
        have hw7 := keepB hb7 hw6
        have k7 : W7.cell? ⟨g, 11, none⟩ = some (.slice A5 n5 c5) := (hb7.cell (by simpa using hg6)).trans k6
        clear k6
        refine hK.out _ _ (Stay.of hb7) (fun _ => ?_)
        clear hK K
        try simp only [Act.put, List.setIfInBounds_toArray, List.set_cons_zero, List.set_cons_succ]
        refine anyH_restay (Stay.of hb7) (fun hHeld => ?_)
        refine wpAnyH_ready (rs := [8]) (by kernel_rfl) (by simp) ?_
        refine AllReadyH.cons rfl (fun K hK => ?_) AllReadyH.nil
        simp only [List.getElem_toArray, List.getElem_cons_zero, List.getElem_cons_succ]
        go_simp
        have hP := parts2 (W := W7) (p1 := ⟨A5, n5, c5, s.lists 10⟩) (p2 := ⟨some ⟨g7, 0, none⟩, 1, 1, [(n : Int)]⟩) ((HN5.out.below hw7).more hw7.size) hone 23
        have hb8 : Below W7.heap.size W7 (W7.alloc (.cells #[.slice A5 n5 c5, .slice (some ⟨g7, 0, none⟩) 1 1] 23)) := below_alloc _
        simp only at hP
        obtain ⟨g8, hg8⟩ : ∃ g8, g8 = W7.heap.size := ⟨_, rfl⟩
        rw [← hg8] at hP ⊢
        obtain ⟨W8, hW8⟩ : ∃ W8, W8 = W7.alloc (.cells #[.slice A5 n5 c5, .slice (some ⟨g7, 0, none⟩) 1 1] 23) := ⟨_, rfl⟩
        rw [← hW8] at hP hb8 ⊢
        clear hW8 hg8
        have hw8 := keepB hb8 hw7
        refine hK.out _ _ (Stay.of hb8) (fun _ => ?_)
        clear hK K
        try simp only [Act.put, List.setIfInBounds_toArray, List.set_cons_zero, List.set_cons_succ]
        refine anyH_restay (Stay.of hb8) (fun hHeld => ?_)
        have hcat : catP [⟨A5, n5, c5, s.lists 10⟩, ⟨some ⟨g7, 0, none⟩, 1, 1, [(n : Int)]⟩] = s.lists 10 ++ [(n : Int)] := by simp [catP]
        have hcc := concat_any g8 2 2 _ W8 hP rfl (by omega) (by rw [hcat]; simp; have := HLL.out 10 (by omega); have := HF2.out; omega)
        rw [hcat] at hcc
        clear hcat hP
        refine wpAnyH_ready (rs := [9]) (by kernel_rfl) (by simp) ?_
        refine AllReadyH.cons rfl (fun K hK => ?_) AllReadyH.nil
        simp only [List.getElem_toArray, List.getElem_cons_zero, List.getElem_cons_succ]
        go_simp
        refine hcc.mono ?_
        rintro en W9 ⟨A9, n9, c9, rfl, ho9, hb9⟩
        clear hcc
        go_wp2_with fail
        have hB9 := hHeld.then hb9
        refine hK.out _ _ hB9 (fun _ => ?_)
        clear hK K
        try simp only [Act.put, List.setIfInBounds_toArray, List.set_cons_zero, List.set_cons_succ]
        refine anyH_restay hB9 (fun hHeld => ?_)
        have hw9 := keepB hb9 hw8
        have ha9 := HM.out.a.keep hw9
        have k9 : W9.cell? ⟨g, 11, none⟩ = some (.slice A5 n5 c5) := (keepB hb9 hb8).cell (p := ⟨g, 11, none⟩) (by have := hb7.size; simp only; omega) |>.trans k7
        have f9 := frozen_of_row W9 g 11 _ _ ha9
        have HFin := Lib.hid (made_end HX.out HM.out hgl HWO.out hw9 ((ho9.base_le (show w.heap.size ≤ W8.heap.size from Nat.le_trans HM.out.s.size hw8.size)).slR) HWL.out HR.out)
        clear k7 hw7 hb8 ho9 hb7 hone ha9 hw8 hw9
        refine wpAnyH_take (i := 12) (v := ?_) rfl (by kernel_rfl) (by kernel_rfl) (by kernel_rfl) (fun _ _ _ h => h) (Or.inl ⟨by rfl, ?_⟩) hHeld ?_
        rotate_left
        · (intro w hSw; go_simp; (try with_reducible rfl))
        simp only [Act.put, List.getElem_toArray, List.getElem_cons_zero, List.getElem_cons_succ, List.setIfInBounds_toArray, List.set_cons_zero, List.set_cons_succ]
        refine wpAnyH_ready (rs := [13]) (by kernel_rfl) (by simp) ?_
        refine AllReadyH.cons rfl (fun K hK => ?_) AllReadyH.nil
        simp only [List.getElem_toArray, List.getElem_cons_zero, List.getElem_cons_succ]
        go_simp
        refine hK.out _ _ ((Stay.refl g W9).set_ 11 _) (fun _ => ?_)
        clear hK K
        try simp only [Act.put, List.setIfInBounds_toArray, List.set_cons_zero, List.set_cons_succ]
        refine wpAnyH_done (by kernel_rfl) ?_ _
        clear k9 f9 hB9 hHeld hb9
        go_wp2_with fail
        go_ret
        exact HFin.out
      · skip
        have hone := Nums.one W6 .i64 (n : Int) 3
        obtain ⟨W7, hW7⟩ : ∃ W7, W7 = W6.alloc (.cells #[.int .i64 (n : Int)] 3) := ⟨_, rfl⟩
        have hb7 : Below W6.heap.size W6 W7 := by rw [hW7]; exact below_alloc _
        have hl7 : W6.heap.size + 1 ≤ W7.heap.size := by rw [hW7]; simp
        rw [← hW7] at hone ⊢
        have hone := hone.more hl7
        obtain ⟨g7, hg7⟩ : ∃ g7, g7 = W6.heap.size := ⟨_, rfl⟩
        rw [← hg7] at hone ⊢
        clear hW7 hl7 hg7
        have hw7 := keepB hb7 hw6
        have k7 : W7.cell? ⟨g, 11, none⟩ = some (.slice A5 n5 c5) := (hb7.cell (by simpa using hg6)).trans k6
        clear k6
        refine hK.out _ _ (Stay.of hb7) (fun _ => ?_)
        clear hK K
        try simp only [Act.put, List.setIfInBounds_toArray, List.set_cons_zero, List.set_cons_succ]
        refine anyH_restay (Stay.of hb7) (fun hHeld => ?_)
        refine wpAnyH_ready (rs := [5]) (by kernel_rfl) (by simp) ?_
        refine AllReadyH.cons rfl (fun K hK => ?_) AllReadyH.nil
        simp only [List.getElem_toArray, List.getElem_cons_zero, List.getElem_cons_succ]
        go_simp
        refine hK.out _ _ (Stay.refl _ _) (fun _ => ?_)
        clear hK K
        try simp only [Act.put, List.setIfInBounds_toArray, List.set_cons_zero, List.set_cons_succ]
        refine wpAnyH_ready (rs := [8]) (by kernel_rfl) (by simp) ?_
        refine AllReadyH.cons rfl (fun K hK => ?_) AllReadyH.nil
        simp only [List.getElem_toArray, List.getElem_cons_zero, List.getElem_cons_succ]
        go_simp
        have hP := parts2 (W := W7) (p1 := ⟨A5, n5, c5, s.lists 10⟩) (p2 := ⟨some ⟨g7, 0, none⟩, 1, 1, [(n : Int)]⟩) ((HN5.out.below hw7).more hw7.size) hone 23
        have hb8 : Below W7.heap.size W7 (W7.alloc (.cells #[.slice A5 n5 c5, .slice (some ⟨g7, 0, none⟩) 1 1] 23)) := below_alloc _
        simp only at hP
        obtain ⟨g8, hg8⟩ : ∃ g8, g8 = W7.heap.size := ⟨_, rfl⟩
        rw [← hg8] at hP ⊢
        obtain ⟨W8, hW8⟩ : ∃ W8, W8 = W7.alloc (.cells #[.slice A5 n5 c5, .slice (some ⟨g7, 0, none⟩) 1 1] 23) := ⟨_, rfl⟩
        rw [← hW8] at hP hb8 ⊢
        clear hW8 hg8
        have hw8 := keepB hb8 hw7
        refine hK.out _ _ (Stay.of hb8) (fun _ => ?_)
        clear hK K
        try simp only [Act.put, List.setIfInBounds_toArray, List.set_cons_zero, List.set_cons_succ]
        refine anyH_restay (Stay.of hb8) (fun hHeld => ?_)
        have hcat : catP [⟨A5, n5, c5, s.lists 10⟩, ⟨some ⟨g7, 0, none⟩, 1, 1, [(n : Int)]⟩] = s.lists 10 ++ [(n : Int)] := by simp [catP]
        have hcc := concat_any g8 2 2 _ W8 hP rfl (by omega) (by rw [hcat]; simp; have := HLL.out 10 (by omega); have := HF2.out; omega)
        rw [hcat] at hcc
        clear hcat hP
        refine wpAnyH_ready (rs := [9]) (by kernel_rfl) (by simp) ?_
        refine AllReadyH.cons rfl (fun K hK => ?_) AllReadyH.nil
        simp only [List.getElem_toArray, List.getElem_cons_zero, List.getElem_cons_succ]
        go_simp
        refine hcc.mono ?_
        rintro en W9 ⟨A9, n9, c9, rfl, ho9, hb9⟩
        clear hcc
        go_wp2_with fail
        have hB9 := hHeld.then hb9
        refine hK.out _ _ hB9 (fun _ => ?_)
        clear hK K
        try simp only [Act.put, List.setIfInBounds_toArray, List.set_cons_zero, List.set_cons_succ]
        refine anyH_restay hB9 (fun hHeld => ?_)
        have hw9 := keepB hb9 hw8
        have ha9 := HM.out.a.keep hw9
        have k9 : W9.cell? ⟨g, 11, none⟩ = some (.slice A5 n5 c5) := (keepB hb9 hb8).cell (p := ⟨g, 11, none⟩) (by have := hb7.size; simp only; omega) |>.trans k7
        have f9 := frozen_of_row W9 g 11 _ _ ha9
        have HFin := Lib.hid (made_end HX.out HM.out hgl HWO.out hw9 ((ho9.base_le (show w.heap.size ≤ W8.heap.size from Nat.le_trans HM.out.s.size hw8.size)).slR) HWL.out HR.out)
        clear k7 hw7 hb8 ho9 hb7 hone ha9 hw8 hw9
        refine wpAnyH_take (i := 12) (v := ?_) rfl (by kernel_rfl) (by kernel_rfl) (by kernel_rfl) (fun _ _ _ h => h) (Or.inl ⟨by rfl, ?_⟩) hHeld ?_
        rotate_left
        · (intro w hSw; go_simp; (try with_reducible rfl))
        simp only [Act.put, List.getElem_toArray, List.getElem_cons_zero, List.getElem_cons_succ, List.setIfInBounds_toArray, List.set_cons_zero, List.set_cons_succ]
        refine wpAnyH_ready (rs := [13]) (by kernel_rfl) (by simp) ?_
        refine AllReadyH.cons rfl (fun K hK => ?_) AllReadyH.nil
        simp only [List.getElem_toArray, List.getElem_cons_zero, List.getElem_cons_succ]
        go_simp
        refine hK.out _ _ ((Stay.refl g W9).set_ 11 _) (fun _ => ?_)
        clear hK K
        try simp only [Act.put, List.setIfInBounds_toArray, List.set_cons_zero, List.set_cons_succ]
        refine wpAnyH_done (by kernel_rfl) ?_ _
        clear k9 f9 hB9 hHeld hb9
        go_wp2_with fail
        go_ret
        exact HFin.out
end Go.Proofs.Ytmneajmedopheaa
namespace Go.Proofs.Ytmneajmedopheaa
open Go.RowKit Ex
set_option maxRecDepth 100000
variable {Bx : Nat}

theorem obj_cell {B : Nat} {w : World} {A : Option Addr} {l : List (Nat → Int)} (h : RdO B w A l) {i j : Nat} (hi : i < l.length) (hj : j < 18) : ∃ b off, A = some ⟨b, off, none⟩ ∧ b < B ∧ w.cell? ⟨b, off + i * 18 + j, none⟩ = some (.int .i64 ((l.getD i fun _ => 0) j)) := by
  obtain ⟨b, off, e, hb, hr⟩ := h i l[i] (List.getElem?_eq_getElem hi)
  refine ⟨b, off, e, hb, ?_⟩
  rw [getD_in _ hi]
  exact hr j _ (by rw [Array.getElem?_toList, arr_get .i64 18 _ hj])
set_option linter.unusedSimpArgs false in
set_option maxHeartbeats 0 in
theorem seto_code (s : StT) (O : SlT) (L : Nat → SlT) (g : Nat) (e : EvT) (w : World) (ha : StAt w g (stC O L s.pl s.gm)) (hx : ReadsX Bx g w (stC O L s.pl s.gm) s O L) (hn : s.objs.length ≤ 1000) (hi : EvI e) (hea : 0 ≤ e.a) (heb : 0 ≤ e.b ∧ e.b ≤ 17) :
    Calls Try.prog 30 #[.pointer (some ⟨g, 0, none⟩), evV e] w (DP Bx w g s (ap2 s e)) := by
  have hgl := ha.lt
  obtain ⟨A, n, c⟩ := O
  have c0 : w.cell? ⟨g, 0, none⟩ = some (.slice A n c) := (ha.cell 0).trans (stC_objs _ _ _ _)
  have hOn : n = s.objs.length := hx.now.on
  have HX := Lib.hid hx
  have HA := Lib.hid ha
  have HI := Lib.hid hi
  obtain ⟨i, hia⟩ : ∃ i : Nat, e.a = (i : Int) := ⟨e.a.toNat, by omega⟩
  obtain ⟨j, hjb⟩ : ∃ j : Nat, e.b = (j : Int) := ⟨e.b.toNat, by omega⟩
  have hj : j < 18 := by omega
  have HIA := Lib.hid hia
  have HJB := Lib.hid hjb
  clear ha hx hi hea heb
  go_enter Try.func30, Try.ntmps30
  go_upto_region 1 with fail
  obtain ⟨w1, hw1⟩ : ∃ w1, w1 = w.alloc (.cells (evC e) 45) := ⟨_, rfl⟩
  have hrow : EvB w1 w.heap.size e := by rw [hw1]; exact heap_alloc_new _ _
  have hb1 : Below w.heap.size w w1 := by rw [hw1]; exact (Below.refl _ _).alloc (Nat.le_refl _) _
  show Code.wp _ _ _ _ (w.alloc (.cells (evC e) 45))
  rw [← hw1]
  clear hw1
  have hg1 := hrow.lt
  obtain ⟨ge, hge⟩ : ∃ g, g = w.heap.size := ⟨_, rfl⟩
  rw [← hge] at hrow hg1 ⊢
  have hne : ge ≠ g := by omega
  have HGE := Lib.hid hge
  have k0 := (hb1.cell (p := ⟨g, 0, none⟩) (by simpa using hgl)).trans c0
  clear c0 hge
  obtain ⟨q0, q1, q2, q3, q4, q5⟩ := hrow.cells
  rw [hia] at q1
  rw [hjb] at q2
  clear hia hjb
  have hbl := fun W => below_any (i : Int) (n : Int) W
  obtain ⟨q, hq⟩ : ∃ q, q = (decide (0 ≤ (i : Int)) && decide ((i : Int) < (n : Int))) := ⟨_, rfl⟩
  rw [← hq] at hbl
  have HQ := Lib.hid hq
  clear hq
  have k0b : ∀ W, Below w1.heap.size w1 W → W.cell? ⟨g, 0, none⟩ = some (.slice A n c) := fun W hW => (hW.cell (by have := hb1.size; simp only; omega)).trans k0
  have q1b : ∀ W, Below w1.heap.size w1 W → W.cell? ⟨ge, 1, none⟩ = some (.int .i64 (i : Int)) := fun W hW => (hW.cell (by simpa using hg1)).trans q1
  have HN := Lib.hid hOn
  clear hOn
  refine region_below (by kernel_rfl) (fun hHeld => ?_)
  refine wpAnyH_take (i := 0) (v := ?_) rfl (by kernel_rfl) (by kernel_rfl) (by kernel_rfl) (fun _ _ _ h => h) (Or.inl ⟨by rfl, ?_⟩) hHeld ?_
  rotate_left
  · (intro w hSw; go_simp; (try with_reducible rfl))
  simp only [Act.put, List.getElem_toArray, List.getElem_cons_zero, List.getElem_cons_succ, List.setIfInBounds_toArray, List.set_cons_zero, List.set_cons_succ]
  refine wpAnyH_take (i := 1) (v := ?_) rfl (by kernel_rfl) (by kernel_rfl) (by kernel_rfl) (fun _ _ _ h => h) (Or.inl ⟨by rfl, ?_⟩) hHeld ?_
  rotate_left
  · (intro w hSw; go_simp; (try with_reducible rfl))
  simp only [Act.put, List.getElem_toArray, List.getElem_cons_zero, List.getElem_cons_succ, List.setIfInBounds_toArray, List.set_cons_zero, List.set_cons_succ]
  refine wpAnyH_take (i := 2) (v := ?_) rfl (by kernel_rfl) (by kernel_rfl) (by kernel_rfl) (fun _ _ _ h => h) (Or.inl ⟨by rfl, ?_⟩) hHeld ?_
  rotate_left
  · (intro w hSw; go_simp; (try with_reducible rfl))
  simp only [Act.put, List.getElem_toArray, List.getElem_cons_zero, List.getElem_cons_succ, List.setIfInBounds_toArray, List.set_cons_zero, List.set_cons_succ]
  refine wpAnyH_take (i := 3) (v := ?_) rfl (by kernel_rfl) (by kernel_rfl) (by kernel_rfl) (fun _ _ _ h => h) (Or.inl ⟨by rfl, ?_⟩) hHeld ?_
  rotate_left
  · (intro w hSw; go_simp; (try with_reducible rfl))
  simp only [Act.put, List.getElem_toArray, List.getElem_cons_zero, List.getElem_cons_succ, List.setIfInBounds_toArray, List.set_cons_zero, List.set_cons_succ]
  refine wpAnyH_take (i := 4) (v := ?_) rfl (by kernel_rfl) (by kernel_rfl) (by kernel_rfl) (fun _ _ _ h => h) (Or.inl ⟨by rfl, ?_⟩) hHeld ?_
  rotate_left
  · (intro w hSw; go_simp; (try with_reducible rfl))
  simp only [Act.put, List.getElem_toArray, List.getElem_cons_zero, List.getElem_cons_succ, List.setIfInBounds_toArray, List.set_cons_zero, List.set_cons_succ]
  refine wpAnyH_take (i := 5) (v := ?_) rfl (by kernel_rfl) (by kernel_rfl) (by kernel_rfl) (fun _ _ _ h => h) (Or.inl ⟨by rfl, ?_⟩) hHeld ?_
  rotate_left
  · (intro w hSw; go_simp; (try with_reducible rfl))
  simp only [Act.put, List.getElem_toArray, List.getElem_cons_zero, List.getElem_cons_succ, List.setIfInBounds_toArray, List.set_cons_zero, List.set_cons_succ]
  refine wpAnyH_take (i := 6) (v := ?_) rfl (by kernel_rfl) (by kernel_rfl) (by kernel_rfl) (fun _ _ _ h => h) (Or.inl ⟨by rfl, ?_⟩) hHeld ?_
  rotate_left
  · (intro w hSw; go_simp; (try with_reducible rfl))
  simp only [Act.put, List.getElem_toArray, List.getElem_cons_zero, List.getElem_cons_succ, List.setIfInBounds_toArray, List.set_cons_zero, List.set_cons_succ]
  refine wpAnyH_ready (rs := [7]) (by kernel_rfl) (by simp) ?_
  refine AllReadyH.cons rfl (fun K hK => ?_) AllReadyH.nil
  simp only [List.getElem_toArray, List.getElem_cons_zero, List.getElem_cons_succ]
  go_simp
  refine (hbl _).mono ?_
  rintro en W1 ⟨rfl, rfl⟩
  clear hbl
  go_wp2_with fail
  have hB7 := keepB (Below.refl _ _) hHeld
  refine hK.out _ _ hB7 (fun _ => ?_)
  clear hK K
  try simp only [Act.put, List.setIfInBounds_toArray, List.set_cons_zero, List.set_cons_succ]
  refine anyH_rebase hB7 (fun hHeld => ?_)
  refine wpAnyH_take (i := 8) (v := ?_) rfl (by kernel_rfl) (by kernel_rfl) (by kernel_rfl) (fun _ _ _ h => h) (Or.inl ⟨by rfl, ?_⟩) hHeld ?_
  rotate_left
  · (intro w hSw; go_simp; (try with_reducible rfl))
  simp only [Act.put, List.getElem_toArray, List.getElem_cons_zero, List.getElem_cons_succ, List.setIfInBounds_toArray, List.set_cons_zero, List.set_cons_succ]
  refine wpAnyH_done (by kernel_rfl) ?_ _
  clear k0b q1b
  have hbW : Below w.heap.size w w1.drew := hb1.drew
  have hrow : EvB w1.drew ge e := hrow
  have hg1 : ge < w1.drew.heap.size := hg1
  have k0 : w1.drew.cell? ⟨g, 0, none⟩ = some (.slice A n c) := k0
  have q1 : w1.drew.cell? ⟨ge, 1, none⟩ = some (.int .i64 (i : Int)) := q1
  have q2 : w1.drew.cell? ⟨ge, 2, none⟩ = some (.int .i64 (j : Int)) := q2
  clear q0 q3 q4 q5 hB7 hHeld hb1
  generalize w1.drew = W0 at hbW hrow hg1 k0 q1 q2 ⊢
  cases q
  · have HR := Lib.hid (show ap2 s e = (sT0, 4) from by
      have h1 := HQ.out
      have h2 := HN.out
      have h3 := HIA.out
      rw [eq_comm, Bool.and_eq_false_iff] at h1
      simp at h1
      exact if_pos (by omega))
    go_wp2_with fail
    go_ret
    rw [HR.out]
    exact DP.no (r := (sT0, 4)) (by decide) HA.out HX.out hbW
  have hin : i < n := by
    have h1 := HQ.out
    rw [eq_comm, Bool.and_eq_true] at h1
    simp at h1
    omega
  clear HQ
  go_upto_region 3 with fail
  obtain ⟨b, off, hA, hbB, hcell⟩ := obj_cell (HX.out.now.o) (i := i) (j := j) (by have := HN.out; omega) hj
  simp only at hA
  subst hA
  obtain ⟨x, hxx⟩ : ∃ x, x = (s.objs.getD i fun _ => 0) j := ⟨_, rfl⟩
  rw [← hxx] at hcell
  have HXX := Lib.hid hxx
  clear hxx
  have HCell := Lib.hid (fun W (hW : Below W0.heap.size W0 W) => ((keepB hW hbW).cell (p := ⟨b, off + i * 18 + j, none⟩) hbB).trans hcell)
  have r0 : ∀ W, Below W0.heap.size W0 W → W.cell? ⟨b, off + i * 18 + j, none⟩ = some (.int .i64 x) := fun W hW => HCell.out W hW
  have k0b : ∀ W, Below W0.heap.size W0 W → W.cell? ⟨g, 0, none⟩ = some (.slice (some ⟨b, off, none⟩) n c) := fun W hW => (hW.cell (by have := hbW.size; simp only; omega)).trans k0
  have q1b : ∀ W, Below W0.heap.size W0 W → W.cell? ⟨ge, 1, none⟩ = some (.int .i64 (i : Int)) := fun W hW => (hW.cell (by simpa using hg1)).trans q1
  have q2b : ∀ W, Below W0.heap.size W0 W → W.cell? ⟨ge, 2, none⟩ = some (.int .i64 (j : Int)) := fun W hW => (hW.cell (by simpa using hg1)).trans q2
  have g0 : (0 : Int) ≤ (i : Int) := by omega
  have g1 : (i : Int) < (n : Int) := by omega
  have g2 : (0 : Int) ≤ (j : Int) := by omega
  have g3 : (j : Int) < 18 := by omega
  refine region_below (by kernel_rfl) (fun hHeld => ?_)
  refine wpAnyH_take (i := 0) (v := ?_) rfl (by kernel_rfl) (by kernel_rfl) (by kernel_rfl) (fun _ _ _ h => h) (Or.inl ⟨by rfl, ?_⟩) hHeld ?_
  rotate_left
  · (intro w hSw; go_simp; (try with_reducible rfl))
  simp only [Act.put, List.getElem_toArray, List.getElem_cons_zero, List.getElem_cons_succ, List.setIfInBounds_toArray, List.set_cons_zero, List.set_cons_succ]
  refine wpAnyH_take (i := 1) (v := ?_) rfl (by kernel_rfl) (by kernel_rfl) (by kernel_rfl) (fun _ _ _ h => h) (Or.inl ⟨by rfl, ?_⟩) hHeld ?_
  rotate_left
  · (intro w hSw; go_simp; (try with_reducible rfl))
  simp only [Act.put, List.getElem_toArray, List.getElem_cons_zero, List.getElem_cons_succ, List.setIfInBounds_toArray, List.set_cons_zero, List.set_cons_succ]
  refine wpAnyH_take (i := 2) (v := ?_) rfl (by kernel_rfl) (by kernel_rfl) (by kernel_rfl) (fun _ _ _ h => h) (Or.inl ⟨by rfl, ?_⟩) hHeld ?_
  rotate_left
  · (intro w hSw; go_simp; (try with_reducible rfl))
  simp only [Act.put, List.getElem_toArray, List.getElem_cons_zero, List.getElem_cons_succ, List.setIfInBounds_toArray, List.set_cons_zero, List.set_cons_succ]
  refine wpAnyH_take (i := 3) (v := ?_) rfl (by kernel_rfl) (by kernel_rfl) (by kernel_rfl) (fun _ _ _ h => h) (Or.inl ⟨by rfl, ?_⟩) hHeld ?_
  rotate_left
  · (intro w hSw; go_simp; (try with_reducible rfl))
  simp only [Act.put, List.getElem_toArray, List.getElem_cons_zero, List.getElem_cons_succ, List.setIfInBounds_toArray, List.set_cons_zero, List.set_cons_succ]
  refine wpAnyH_take (i := 4) (v := ?_) rfl (by kernel_rfl) (by kernel_rfl) (by kernel_rfl) (fun _ _ _ h => h) (Or.inl ⟨by rfl, ?_⟩) hHeld ?_
  rotate_left
  · (intro w hSw; go_simp; (try with_reducible rfl))
  simp only [Act.put, List.getElem_toArray, List.getElem_cons_zero, List.getElem_cons_succ, List.setIfInBounds_toArray, List.set_cons_zero, List.set_cons_succ]
  refine wpAnyH_take (i := 5) (v := ?_) rfl (by kernel_rfl) (by kernel_rfl) (by kernel_rfl) (fun _ _ _ h => h) (Or.inl ⟨by rfl, ?_⟩) hHeld ?_
  rotate_left
  · (intro w hSw; go_simp; (try with_reducible rfl))
  simp only [Act.put, List.getElem_toArray, List.getElem_cons_zero, List.getElem_cons_succ, List.setIfInBounds_toArray, List.set_cons_zero, List.set_cons_succ]
  refine wpAnyH_take (i := 6) (v := ?_) rfl (by kernel_rfl) (by kernel_rfl) (by kernel_rfl) (fun _ _ _ h => h) (Or.inl ⟨by rfl, ?_⟩) hHeld ?_
  rotate_left
  · (intro w hSw; go_simp; (try with_reducible rfl))
  simp only [Act.put, List.getElem_toArray, List.getElem_cons_zero, List.getElem_cons_succ, List.setIfInBounds_toArray, List.set_cons_zero, List.set_cons_succ]
  refine wpAnyH_take (i := 7) (v := ?_) rfl (by kernel_rfl) (by kernel_rfl) (by kernel_rfl) (fun _ _ _ h => h) (Or.inl ⟨by rfl, ?_⟩) hHeld ?_
  rotate_left
  · (intro w hSw; go_simp; (try with_reducible rfl))
  simp only [Act.put, List.getElem_toArray, List.getElem_cons_zero, List.getElem_cons_succ, List.setIfInBounds_toArray, List.set_cons_zero, List.set_cons_succ]
  refine wpAnyH_take (i := 8) (v := ?_) rfl (by kernel_rfl) (by kernel_rfl) (by kernel_rfl) (fun _ _ _ h => h) (Or.inl ⟨by rfl, ?_⟩) hHeld ?_
  rotate_left
  · (intro w hSw; go_simp; (try with_reducible rfl))
  simp only [Act.put, List.getElem_toArray, List.getElem_cons_zero, List.getElem_cons_succ, List.setIfInBounds_toArray, List.set_cons_zero, List.set_cons_succ]
  refine wpAnyH_take (i := 9) (v := ?_) rfl (by kernel_rfl) (by kernel_rfl) (by kernel_rfl) (fun _ _ _ h => h) (Or.inl ⟨by rfl, ?_⟩) hHeld ?_
  rotate_left
  · (intro w hSw; go_simp; (try with_reducible rfl))
  simp only [Act.put, List.getElem_toArray, List.getElem_cons_zero, List.getElem_cons_succ, List.setIfInBounds_toArray, List.set_cons_zero, List.set_cons_succ]
  refine wpAnyH_take (i := 10) (v := ?_) rfl (by kernel_rfl) (by kernel_rfl) (by kernel_rfl) (fun _ _ _ h => h) (Or.inl ⟨by rfl, ?_⟩) hHeld ?_
  rotate_left
  · (intro w hSw; go_simp; (try with_reducible rfl))
  simp only [Act.put, List.getElem_toArray, List.getElem_cons_zero, List.getElem_cons_succ, List.setIfInBounds_toArray, List.set_cons_zero, List.set_cons_succ]
  clear r0 k0b q1b q2b hcell
  have hB0 := hHeld
  have hg1 : ge < W0.drew.heap.size := hg1
  have hrow : EvB W0.drew ge e := hrow
  generalize W0.drew = W1 at hHeld hB0 hg1 hrow ⊢
  refine wpAnyH_ready (rs := [11]) (by kernel_rfl) (by simp) ?_
  refine AllReadyH.cons rfl (fun K hK => ?_) AllReadyH.nil
  simp only [List.getElem_toArray, List.getElem_cons_zero, List.getElem_cons_succ]
  go_simp
  obtain ⟨W2, hW2⟩ : ∃ W2, W2 = W1.alloc (.cells #[.int .i64 0] 3) := ⟨_, rfl⟩
  obtain ⟨g5, hg5⟩ : ∃ g5, g5 = W1.heap.size := ⟨_, rfl⟩
  have hn5 : W2.heap[g5]? = some (.cells #[.int .i64 0] 3 (0, 0)) := by rw [hW2, hg5]; exact heap_alloc_new _ _
  have hb2 : Below W1.heap.size W1 W2 := by rw [hW2]; exact below_alloc _
  have hW05 : W0.heap.size ≤ g5 := by rw [hg5]; exact hB0.size
  rw [← hW2, ← hg5]
  clear hW2 hg5
  have hB2 := keepB hb2 hB0
  refine hK.out _ _ hB2 (fun _ => ?_)
  clear hK K
  try simp only [Act.put, List.setIfInBounds_toArray, List.set_cons_zero, List.set_cons_succ]
  have c12 := cell_of_row W2 g5 0 _ _ _ hn5
  have f12 := frozen_of_row W2 g5 0 _ _ hn5
  simp at c12
  refine wpAnyH_ready (rs := [12]) (by kernel_rfl) (by simp) ?_
  refine AllReadyH.cons rfl (fun K hK => ?_) AllReadyH.nil
  simp only [List.getElem_toArray, List.getElem_cons_zero, List.getElem_cons_succ]
  go_simp
  have hB3 : Below W0.heap.size W0 (W2.setCell ⟨g5, 0, none⟩ (.int .i64 x)) := hB2.setCell (p := ⟨g5, 0, none⟩) hW05 _
  have hn6 : (W2.setCell ⟨g5, 0, none⟩ (.int .i64 x)).heap[g5]? = some (.cells #[.int .i64 x] 3 (0, 0)) := by rw [heap_setCell_same W2 g5 0 _ _ _ hn5]; rfl
  have hrow3 : EvB (W2.setCell ⟨g5, 0, none⟩ (.int .i64 x)) ge e := EvB.far (hrow.keep hb2) (by have := hB0.size; have := HGE.out; have := hbW.size; omega) 0 _
  refine hK.out _ _ hB3 (fun _ => ?_)
  clear hK K
  try simp only [Act.put, List.setIfInBounds_toArray, List.set_cons_zero, List.set_cons_succ]
  refine wpAnyH_done (by kernel_rfl) ?_ _
  obtain ⟨W3, hW3⟩ : ∃ W3, W3 = W2.setCell ⟨g5, 0, none⟩ (.int .i64 x) := ⟨_, rfl⟩
  rw [← hW3] at hB3 hn6 hrow3 ⊢
  clear hW3 c12 f12 hn5 hB2 hb2 hHeld hB0 hrow
  have hwW := keepB hB3 hbW
  have c13 := cell_of_row W3 g5 0 _ _ _ hn6
  have f13 := frozen_of_row W3 g5 0 _ _ hn6
  have hg53 : g5 < W3.heap.size := (Array.getElem?_eq_some_iff.1 hn6).1
  have hsc := set_code g5 0 x e W3 c13 f13 hg53
  have hsE := ev_size e
  obtain ⟨es, hes⟩ : ∃ es, es = evC e := ⟨_, rfl⟩
  have HES := Lib.hid hes
  rw [show evV e = .agg es by rw [hes]; rfl] at hsc
  have hrow3' : W3.heap[ge]? = some (.cells es 45 (0, 0)) := by rw [hes]; exact hrow3
  rw [← hes] at hsE
  clear hes c13 f13
  go_upto_region 4 with fail
  go_wp2_with (refine wpList_load_row rfl 45 (.tmp 3) rfl ge rfl 45 _ (0, 0) _ hrow3' Try.underlying45 rfl hsE ?_)
  refine hsc.mono ?_
  rintro en W5 ⟨W4, hb4, (⟨hxc, rfl, rfl⟩ | ⟨hxc, rfl, rfl⟩)⟩
  · clear hsc
    have hn7 : W4.heap[g5]? = some (.cells #[.int .i64 x] 3 (0, 0)) := (hb4.block g5 hg53).trans hn6
    have hgW : w.heap.size ≤ g5 := Nat.le_trans hbW.size hW05
    have hb5 : Below w.heap.size w (W4.setCell ⟨g5, 0, none⟩ (.int .i64 e.d)) := (keepB hb4 hwW).setCell (p := ⟨g5, 0, none⟩) hgW _
    have hrow5 : EvB (W4.setCell ⟨g5, 0, none⟩ (.int .i64 e.d)) ge e := (hrow3.keep hb4).far (by have := HGE.out; have := hbW.size; omega) 0 _
    have hn8 : (W4.setCell ⟨g5, 0, none⟩ (.int .i64 e.d)).heap[g5]? = some (.cells #[.int .i64 e.d] 3 (0, 0)) := by rw [heap_setCell_same W4 g5 0 _ _ _ hn7]; rfl
    have k8 := cell_of_row _ g5 0 _ _ _ hn8
    simp only [List.getElem?_toArray, List.getElem?_cons_zero] at k8
    obtain ⟨_, p1, p2, _, _, _⟩ := hrow5.cells
    rw [HIA.out] at p1
    rw [HJB.out] at p2
    have HR := Lib.hid (show ap2 s e = (⟨setO s.objs i j e.d, s.lists, s.pl, s.gm⟩, 0) from by
      have h2 := HN.out
      have h3 := HIA.out
      have h4 := HJB.out
      have h5 := HXX.out
      unfold ap2
      rw [if_neg (by omega), if_neg (by rw [h3, h4, Int.toNat_natCast, Int.toNat_natCast, ← h5]; exact fun h => h hxc), h3, h4, Int.toNat_natCast, Int.toNat_natCast])
    generalize W4.setCell ⟨g5, 0, none⟩ (.int .i64 e.d) = W5 at hb5 hrow5 k8 p1 p2 ⊢
    have hpt := put_code s ⟨some ⟨b, off, none⟩, n, c⟩ L g i j e.d W5 (HA.out.keep hb5) (HX.out.stay (Stay.of hb5)) (by have := HN.out; omega) hj (by omega) HI.out.d
    clear hn7 hn8 hrow5 hrow3 hrow3' hxc
    go_wp2_with fail
    refine hpt.mono ?_
    rintro en W6 ⟨O6, rfl, ha6, hx6, hs6⟩
    clear hpt
    go_wp2_with fail
    go_ret
    rw [HR.out]
    exact DP.yes (O := O6) (L := L) (t := ⟨setO s.objs i j e.d, s.lists, s.pl, s.gm⟩) ha6 hx6 ((Stay.of hb5).trans hs6)
  · clear hsc
    have HR := Lib.hid (show ap2 s e = (sT0, 20) from by
      have h2 := HN.out
      have h3 := HIA.out
      have h4 := HJB.out
      have h5 := HXX.out
      unfold ap2
      rw [if_neg (by omega), if_pos (by rw [h3, h4, Int.toNat_natCast, Int.toNat_natCast, ← h5]; exact hxc)])
    clear hxc
    rw [errV_err (show (20 : Int) ≠ 0 by decide)]
    go_wp2_with fail
    go_ret
    rw [HR.out]
    exact DP.no (r := (sT0, 20)) (by decide) HA.out HX.out (keepB hb4 hwW)
end Go.Proofs.Ytmneajmedopheaa
namespace Go.Proofs.Ytmneajmedopheaa
open Go.RowKit Ex
attribute [local go_sem] arr_get
set_option maxRecDepth 100000
theorem isList_any (z : Int) (w : World) : Calls Try.prog 56 #[.int .i64 z] w fun e w' => e = .returned (.bool (decide (0 ≤ z) && decide (z < 11))) ∧ w = w' := by
  go_enter Try.func56, Try.ntmps56
  go_wp2_with fail
  all_goals (go_ret; refine ⟨?_, rfl⟩; simp [*] <;> omega)
/-- The last number of a list, and whether there is one. -/
def topB (s : StT) (z : Int) : Bool := decide (0 ≤ z) && decide (z < 11) && decide (0 < (s.lists z.toNat).length)
def topX (s : StT) (z : Int) : Int := if topB s z = true then (s.lists z.toNat).getD ((s.lists z.toNat).length - 1) 0 else 0
set_option maxHeartbeats 0 in
theorem top_code (s : StT) (O : SlT) (L : Nat → SlT) (cs : Array Value) (z : Int) (w : World) (B : Nat) (h : ReadsS B w cs s O L) (hB : B ≤ w.heap.size) (hll : ∀ z < 11, (s.lists z).length ≤ 1000000) :
    Calls Try.prog 46 #[.agg cs, .int .i64 z] w fun e w' => e = .returned (.tuple #[.int .i64 (topX s z), .bool (topB s z)]) ∧ Below w.heap.size w w' := by
  have hl := isList_any z
  obtain ⟨q, hq⟩ : ∃ q, q = topX s z := ⟨_, rfl⟩
  obtain ⟨r, hr⟩ : ∃ r, r = topB s z := ⟨_, rfl⟩
  rw [← hq, ← hr]
  have HQ := Lib.hid hq
  have HR := Lib.hid hr
  clear hq hr
  go_enter Try.func46, Try.ntmps46
  have hcs := h.cs
  have c0 : cs[0]? = some (.slice O.A O.n O.c) := by rw [hcs]; exact stC_objs _ _ _ _
  have hOn := h.on
  have hOc := h.oc
  have hO := h.o
  have hsz : (Try.prog.info? 29).map (·.size) = some cs.size := by rw [h.size]; exact size37
  have H := Lib.hid h
  clear h
  obtain ⟨A, n, c⟩ := O
  simp only at c0 hOn hOc hO
  have HC := Lib.hid hcs
  clear hcs
  subst hOn
  go_upto_region 1 with fail
  have hs0 : StAt (w.alloc (.cells cs 29)) w.heap.size cs := StAt.new _ _
  have hb0 : Below w.heap.size w (w.alloc (.cells cs 29)) := (Below.refl _ _).alloc (Nat.le_refl _) _
  obtain ⟨w1, hw1⟩ : ∃ w1, w1 = w.alloc (.cells cs 29) := ⟨_, rfl⟩
  rw [← hw1] at hs0 hb0 ⊢
  clear hw1
  have c1 := (hs0.cell 0).trans c0
  clear c1 c0
  by_cases hz : 0 ≤ z ∧ z < 11
  case neg =>
    have hf : (decide (0 ≤ z) && decide (z < 11)) = false := by rw [Bool.eq_false_iff]; intro h; simp at h; omega
    have hb : topB s z = false := by rw [topB, hf, Bool.false_and]
    have hx : topX s z = 0 := if_neg (by rw [hb]; simp)
    obtain rfl := HQ.out.trans hx
    obtain rfl := HR.out.trans hb
    rw [hf] at hl
    clear hf hz hb hx
    go_wp2_with fail
    refine (hl _).mono ?_
    rintro e w2 ⟨rfl, rfl⟩
    clear hl
    go_wp2_with fail
    go_ret2
    exact ⟨rfl, hb0⟩
  obtain ⟨y, rfl⟩ : ∃ y : Nat, z = (y : Int) := ⟨z.toNat, by omega⟩
  have hy : y < 11 := by omega
  rw [show (decide (0 ≤ (y : Int)) && decide ((y : Int) < 11)) = true by simp; omega] at hl
  obtain ⟨A2, n2, c2, hc2, hnc2, hN⟩ := H.out.at_list hy
  have hc2 := (hs0.cell (1 + y)).trans hc2
  have hln := hN.len
  have hnm : n2 ≤ 1000000 := hln ▸ hll y hy
  have HN := Lib.hid hN
  clear hN hz
  by_cases hn0 : n2 = 0
  · subst hn0
    have hb : topB s y = false := by simp [topB, hln]
    have hx : topX s y = 0 := if_neg (by rw [hb]; simp)
    obtain rfl := HQ.out.trans hx
    obtain rfl := HR.out.trans hb
    clear hb hx
    go_wp2_with fail
    refine (hl _).mono ?_
    rintro e w2 ⟨rfl, rfl⟩
    clear hl
    go_wp2_with fail
    go_ret2
    exact ⟨rfl, hb0⟩
  have hb : topB s y = true := by simp [topB, hln]; omega
  obtain ⟨a, rfl, hab, hca⟩ := HN.out.at_ (i := n2 - 1) (by omega)
  replace hca := (hb0.cell (by rw [addr_block]; omega)).trans hca
  have hx : topX s y = (s.lists y).getD (n2 - 1) 0 := by rw [topX, if_pos hb, Int.toNat_natCast, hln]
  have hg : (s.lists y).getD (n2 - 1) 0 = (s.lists y)[n2 - 1]'(by omega) := by rw [List.getD_eq_getElem?_getD, List.getElem?_eq_getElem (by omega)]; rfl
  rw [← hg, ← hx, ← HQ.out] at hca
  obtain rfl := HR.out.trans hb
  obtain ⟨m, rfl⟩ : ∃ m, n2 = m + 1 := ⟨n2 - 1, by omega⟩
  rw [Nat.add_sub_cancel] at hca
  have d1 : (((m + 1 : Nat) : Int) == 0) = false := by simp; omega
  have d2 : ((m + 1 : Nat) : Int) - 1 = (m : Int) := by omega
  clear hn0 hb hx hg
  go_wp2_with fail
  refine (hl _).mono ?_
  rintro e w2 ⟨rfl, rfl⟩
  clear hl
  go_wp2_with fail
  go_ret2
  exact ⟨rfl, hb0⟩
end Go.Proofs.Ytmneajmedopheaa
namespace Go.Proofs.Ytmneajmedopheaa
open Go.RowKit Ex
set_option maxRecDepth 100000
variable {Bx : Nat}
theorem RdO.take {B : Nat} {w : World} {A : Option Addr} {l : List (Nat → Int)} (h : RdO B w A l) (i : Nat) : RdO B w A (l.take i) := fun j o hj => h j o (by
  rw [List.getElem?_take] at hj
  split at hj
  · exact hj
  · cases hj)
theorem cutO_to {A : Option Addr} {n c i : Nat} (hi : i ≤ n) (hc : n ≤ c) (W : World) : (Instr.slice 22 (.slice A n c) none (some (.int .i64 ((i : Nat) : Int))) none).run Try.prog W = .ok (.slice A i c) W := by
  rw [run_slice_h W 22 A n c (by kernel_rfl) .i64 (i : Int) (by omega) (by omega), show (sizeOf (Try.prog.elem 22)).run Try.prog W = .ok 18 W by kernel_rfl]
  simp only [Result.andThen_ok, sliced, Int.toNat_natCast, Nat.sub_zero, Nat.zero_mul]
  split
  · rfl
  · cases A with
    | none => rfl
    | some a => rfl
/-- An object is taken away: why not. -/
theorem ap5_bad {s : StT} {e : EvT} (h : s.objs.length = 0 ∨ topB s 10 = false ∨ topX s 10 ≠ (s.objs.length : Int) - 1 ∨ sameI 18 (s.objs.getD (s.objs.length - 1) fun _ => 0) (madeO e.a e.b e.c) = false) : ap5 s e = (sT0, 20) := by
  refine if_pos ?_
  have hB : topB s 10 = decide (0 < (s.lists 10).length) := rfl
  rcases h with h | h | h | h
  · exact .inl h
  · rw [hB, decide_eq_false_iff_not] at h
    exact .inr (.inl (by omega))
  · by_cases h0 : (s.lists 10).length = 0
    · exact .inr (.inl h0)
    · refine .inr (.inr (.inl ?_))
      have hb : topB s 10 = true := by rw [hB]; simp; omega
      rw [topX, if_pos hb] at h
      exact h
  · exact .inr (.inr (.inr h))
theorem ap5_good {s : StT} {e : EvT} (h0 : s.objs.length ≠ 0) (h1 : topB s 10 = true) (h2 : topX s 10 = (s.objs.length : Int) - 1) (h3 : sameI 18 (s.objs.getD (s.objs.length - 1) fun _ => 0) (madeO e.a e.b e.c) = true) :
    (s.lists 10).length ≠ 0 ∧ ap5 s e = (⟨s.objs.take (s.objs.length - 1), updL s.lists 10 ((s.lists 10).take ((s.lists 10).length - 1)), s.pl, s.gm⟩, 0) := by
  have hB : topB s 10 = decide (0 < (s.lists 10).length) := rfl
  have h4 := h1
  rw [hB, decide_eq_true_iff] at h4
  refine ⟨by omega, if_neg ?_⟩
  rw [topX, if_pos h1] at h2
  rintro (h | h | h | h)
  · exact h0 h
  · omega
  · exact h h2
  · rw [h] at h3; cases h3
set_option linter.unusedSimpArgs false in
set_option maxHeartbeats 0 in
theorem unmake_code (s : StT) (O : SlT) (L : Nat → SlT) (g : Nat) (e : EvT) (w : World) (ha : StAt w g (stC O L s.pl s.gm)) (hx : ReadsX Bx g w (stC O L s.pl s.gm) s O L) (hn : s.objs.length ≤ 1000) (hll : ∀ z < 11, (s.lists z).length ≤ 1000) (hi : EvI e) :
    Calls Try.prog 28 #[.pointer (some ⟨g, 0, none⟩), evV e] w (DP Bx w g s (ap5 s e)) := by
  have hgl := ha.lt
  obtain ⟨A, n, c⟩ := O
  have c0 : w.cell? ⟨g, 0, none⟩ = some (.slice A n c) := (ha.cell 0).trans (stC_objs _ _ _ _)
  have hOn : n = s.objs.length := hx.now.on
  have HX := Lib.hid hx
  have HA := Lib.hid ha
  have HI := Lib.hid hi
  have HLL := Lib.hid hll
  have HN := Lib.hid hOn
  have hn1 : n ≤ 1000 := by omega
  clear ha hx hi hll hn hOn
  go_enter Try.func28, Try.ntmps28
  go_upto_region 1 with fail
  obtain ⟨w1, hw1⟩ : ∃ w1, w1 = w.alloc (.cells (evC e) 45) := ⟨_, rfl⟩
  have hrow : EvB w1 w.heap.size e := by rw [hw1]; exact heap_alloc_new _ _
  have hb1 : Below w.heap.size w w1 := by rw [hw1]; exact (Below.refl _ _).alloc (Nat.le_refl _) _
  show Code.wp _ _ _ _ (w.alloc (.cells (evC e) 45))
  rw [← hw1]
  clear hw1
  have hg1 := hrow.lt
  obtain ⟨ge, hge⟩ : ∃ g, g = w.heap.size := ⟨_, rfl⟩
  rw [← hge] at hrow hg1 ⊢
  have hne : ge ≠ g := by omega
  have HGE := Lib.hid hge
  have k0 := (hb1.cell (p := ⟨g, 0, none⟩) (by simpa using hgl)).trans c0
  clear c0 hge
  obtain ⟨p, hp⟩ : ∃ p : Int, p = (n : Int) - 1 := ⟨_, rfl⟩
  have ew : IntKind.i64.wrap ((n : Int) - 1) = p := by rw [i64_in (by omega) (by omega), hp]
  have HP := Lib.hid hp
  clear hp
  go_upto_region 2 with fail
  clear ew k0
  have hs1 := HA.out.keep hb1
  have hx1 := (HX.out w1 (Stay.of hb1).x)
  obtain ⟨cs, hcs⟩ : ∃ cs, cs = stC ⟨A, n, c⟩ L s.pl s.gm := ⟨_, rfl⟩
  have hsz : (Try.prog.info? 29).map (·.size) = some cs.size := by rw [hcs, stC_size]; exact size37
  rw [← hcs] at hs1 hx1
  have htop := top_code s _ L cs 10 w1 _ hx1 (Nat.le_refl _) (fun z hz => by have := HLL.out z hz; omega)
  obtain ⟨tx, htx⟩ : ∃ tx, tx = topX s 10 := ⟨_, rfl⟩
  obtain ⟨tb, htb⟩ : ∃ tb, tb = topB s 10 := ⟨_, rfl⟩
  rw [← htx, ← htb] at htop
  have HTX := Lib.hid htx
  have HTB := Lib.hid htb
  clear hx1 htx htb hcs
  unfold StAt at hs1
  go_wp2_with (refine wpList_load_row rfl 29 (.tmp 17) rfl g rfl 29 _ (0, 0) _ hs1 Try.underlying29 rfl hsz ?_)
  refine htop.mono ?_
  rintro en w2 ⟨rfl, hb2⟩
  clear htop hs1 hsz
  have hrow2 := hrow.keep hb2
  have hbw2 := keepB hb2 hb1
  have hg2 := hrow2.lt
  clear hrow hb1 hb2 hg1
  go_upto_region 3 with fail
  have k2 := (hbw2.cell (p := ⟨g, 0, none⟩) (by simpa using hgl)).trans ((HA.out.cell 0).trans (stC_objs ⟨A, n, c⟩ _ _ _))
  simp only [SlT.v] at k2
  by_cases hn0 : n = 0
  · have HR := Lib.hid (show ap5 s e = (sT0, 20) from ap5_bad (.inl (by rw [← HN.out]; exact hn0)))
    have d0 : decide (p < 0) = true := decide_eq_true (by have := HP.out; omega)
    clear hn0
    refine region_below (by kernel_rfl) (fun hHeld => ?_)
    refine wpAnyH_take (i := 0) (v := ?_) rfl (by kernel_rfl) (by kernel_rfl) (by kernel_rfl) (fun _ _ _ h => h) (Or.inl ⟨by rfl, ?_⟩) hHeld ?_
    rotate_left
    · (intro w hSw; go_simp; (try with_reducible rfl))
    simp only [Act.put, List.getElem_toArray, List.getElem_cons_zero, List.getElem_cons_succ, List.setIfInBounds_toArray, List.set_cons_zero, List.set_cons_succ]
    refine wpAnyH_take (i := 1) (v := ?_) rfl (by kernel_rfl) (by kernel_rfl) (by kernel_rfl) (fun _ _ _ h => h) (Or.inl ⟨by rfl, ?_⟩) hHeld ?_
    rotate_left
    · (intro w hSw; go_simp; (try with_reducible rfl))
    simp only [Act.put, List.getElem_toArray, List.getElem_cons_zero, List.getElem_cons_succ, List.setIfInBounds_toArray, List.set_cons_zero, List.set_cons_succ]
    refine wpAnyH_take (i := 2) (v := ?_) rfl (by kernel_rfl) (by kernel_rfl) (by kernel_rfl) (fun _ _ _ h => h) (Or.inl ⟨by rfl, ?_⟩) hHeld ?_
    rotate_left
    · (intro w hSw; go_simp; (try with_reducible rfl))
    simp only [Act.put, List.getElem_toArray, List.getElem_cons_zero, List.getElem_cons_succ, List.setIfInBounds_toArray, List.set_cons_zero, List.set_cons_succ]
    refine wpAnyH_take (i := 3) (v := undef) rfl (by kernel_rfl) (by kernel_rfl) (by kernel_rfl) (fun _ _ _ h => h) (Or.inr ⟨by rfl, rfl⟩) hHeld ?_
    simp only [Act.put, List.getElem_toArray, List.getElem_cons_zero, List.getElem_cons_succ, List.setIfInBounds_toArray, List.set_cons_zero, List.set_cons_succ]
    refine wpAnyH_take (i := 4) (v := undef) rfl (by kernel_rfl) (by kernel_rfl) (by kernel_rfl) (fun _ _ _ h => h) (Or.inr ⟨by rfl, rfl⟩) hHeld ?_
    simp only [Act.put, List.getElem_toArray, List.getElem_cons_zero, List.getElem_cons_succ, List.setIfInBounds_toArray, List.set_cons_zero, List.set_cons_succ]
    refine wpAnyH_take (i := 5) (v := undef) rfl (by kernel_rfl) (by kernel_rfl) (by kernel_rfl) (fun _ _ _ h => h) (Or.inr ⟨by rfl, rfl⟩) hHeld ?_
    simp only [Act.put, List.getElem_toArray, List.getElem_cons_zero, List.getElem_cons_succ, List.setIfInBounds_toArray, List.set_cons_zero, List.set_cons_succ]
    refine wpAnyH_take (i := 6) (v := undef) rfl (by kernel_rfl) (by kernel_rfl) (by kernel_rfl) (fun _ _ _ h => h) (Or.inr ⟨by rfl, rfl⟩) hHeld ?_
    simp only [Act.put, List.getElem_toArray, List.getElem_cons_zero, List.getElem_cons_succ, List.setIfInBounds_toArray, List.set_cons_zero, List.set_cons_succ]
    refine wpAnyH_take (i := 7) (v := undef) rfl (by kernel_rfl) (by kernel_rfl) (by kernel_rfl) (fun _ _ _ h => h) (Or.inr ⟨by rfl, rfl⟩) hHeld ?_
    simp only [Act.put, List.getElem_toArray, List.getElem_cons_zero, List.getElem_cons_succ, List.setIfInBounds_toArray, List.set_cons_zero, List.set_cons_succ]
    refine wpAnyH_take (i := 8) (v := undef) rfl (by kernel_rfl) (by kernel_rfl) (by kernel_rfl) (fun _ _ _ h => h) (Or.inr ⟨by rfl, rfl⟩) hHeld ?_
    simp only [Act.put, List.getElem_toArray, List.getElem_cons_zero, List.getElem_cons_succ, List.setIfInBounds_toArray, List.set_cons_zero, List.set_cons_succ]
    refine wpAnyH_take (i := 9) (v := undef) rfl (by kernel_rfl) (by kernel_rfl) (by kernel_rfl) (fun _ _ _ h => h) (Or.inr ⟨by rfl, rfl⟩) hHeld ?_
    simp only [Act.put, List.getElem_toArray, List.getElem_cons_zero, List.getElem_cons_succ, List.setIfInBounds_toArray, List.set_cons_zero, List.set_cons_succ]
    refine wpAnyH_take (i := 10) (v := undef) rfl (by kernel_rfl) (by kernel_rfl) (by kernel_rfl) (fun _ _ _ h => h) (Or.inr ⟨by rfl, rfl⟩) hHeld ?_
    simp only [Act.put, List.getElem_toArray, List.getElem_cons_zero, List.getElem_cons_succ, List.setIfInBounds_toArray, List.set_cons_zero, List.set_cons_succ]
    refine wpAnyH_take (i := 11) (v := undef) rfl (by kernel_rfl) (by kernel_rfl) (by kernel_rfl) (fun _ _ _ h => h) (Or.inr ⟨by rfl, rfl⟩) hHeld ?_
    simp only [Act.put, List.getElem_toArray, List.getElem_cons_zero, List.getElem_cons_succ, List.setIfInBounds_toArray, List.set_cons_zero, List.set_cons_succ]
    refine wpAnyH_take (i := 12) (v := undef) rfl (by kernel_rfl) (by kernel_rfl) (by kernel_rfl) (fun _ _ _ h => h) (Or.inr ⟨by rfl, rfl⟩) hHeld ?_
    simp only [Act.put, List.getElem_toArray, List.getElem_cons_zero, List.getElem_cons_succ, List.setIfInBounds_toArray, List.set_cons_zero, List.set_cons_succ]
    refine wpAnyH_take (i := 13) (v := ?_) rfl (by kernel_rfl) (by kernel_rfl) (by kernel_rfl) (fun _ _ _ h => h) (Or.inl ⟨by rfl, ?_⟩) hHeld ?_
    rotate_left
    · (intro w hSw; go_simp; (try with_reducible rfl))
    simp only [Act.put, List.getElem_toArray, List.getElem_cons_zero, List.getElem_cons_succ, List.setIfInBounds_toArray, List.set_cons_zero, List.set_cons_succ]
    refine wpAnyH_take (i := 14) (v := ?_) rfl (by kernel_rfl) (by kernel_rfl) (by kernel_rfl) (fun _ _ _ h => h) (Or.inl ⟨by rfl, ?_⟩) hHeld ?_
    rotate_left
    · (intro w hSw; go_simp; (try with_reducible rfl))
    simp only [Act.put, List.getElem_toArray, List.getElem_cons_zero, List.getElem_cons_succ, List.setIfInBounds_toArray, List.set_cons_zero, List.set_cons_succ]
    refine wpAnyH_take (i := 15) (v := undef) rfl (by kernel_rfl) (by kernel_rfl) (by kernel_rfl) (fun _ _ _ h => h) (Or.inr ⟨by rfl, rfl⟩) hHeld ?_
    simp only [Act.put, List.getElem_toArray, List.getElem_cons_zero, List.getElem_cons_succ, List.setIfInBounds_toArray, List.set_cons_zero, List.set_cons_succ]
    refine wpAnyH_take (i := 16) (v := undef) rfl (by kernel_rfl) (by kernel_rfl) (by kernel_rfl) (fun _ _ _ h => h) (Or.inr ⟨by rfl, rfl⟩) hHeld ?_
    simp only [Act.put, List.getElem_toArray, List.getElem_cons_zero, List.getElem_cons_succ, List.setIfInBounds_toArray, List.set_cons_zero, List.set_cons_succ]
    refine wpAnyH_take (i := 17) (v := ?_) rfl (by kernel_rfl) (by kernel_rfl) (by kernel_rfl) (fun _ _ _ h => h) (Or.inl ⟨by rfl, ?_⟩) hHeld ?_
    rotate_left
    · (intro w hSw; go_simp; (try with_reducible rfl))
    simp only [Act.put, List.getElem_toArray, List.getElem_cons_zero, List.getElem_cons_succ, List.setIfInBounds_toArray, List.set_cons_zero, List.set_cons_succ]
    refine wpAnyH_take (i := 18) (v := ?_) rfl (by kernel_rfl) (by kernel_rfl) (by kernel_rfl) (fun _ _ _ h => h) (Or.inl ⟨by rfl, ?_⟩) hHeld ?_
    rotate_left
    · (intro w hSw; go_simp; (try with_reducible rfl))
    simp only [Act.put, List.getElem_toArray, List.getElem_cons_zero, List.getElem_cons_succ, List.setIfInBounds_toArray, List.set_cons_zero, List.set_cons_succ]
    refine wpAnyH_take (i := 19) (v := undef) rfl (by kernel_rfl) (by kernel_rfl) (by kernel_rfl) (fun _ _ _ h => h) (Or.inr ⟨by rfl, rfl⟩) hHeld ?_
    simp only [Act.put, List.getElem_toArray, List.getElem_cons_zero, List.getElem_cons_succ, List.setIfInBounds_toArray, List.set_cons_zero, List.set_cons_succ]
    refine wpAnyH_take (i := 20) (v := undef) rfl (by kernel_rfl) (by kernel_rfl) (by kernel_rfl) (fun _ _ _ h => h) (Or.inr ⟨by rfl, rfl⟩) hHeld ?_
    simp only [Act.put, List.getElem_toArray, List.getElem_cons_zero, List.getElem_cons_succ, List.setIfInBounds_toArray, List.set_cons_zero, List.set_cons_succ]
    refine wpAnyH_take (i := 21) (v := undef) rfl (by kernel_rfl) (by kernel_rfl) (by kernel_rfl) (fun _ _ _ h => h) (Or.inr ⟨by rfl, rfl⟩) hHeld ?_
    simp only [Act.put, List.getElem_toArray, List.getElem_cons_zero, List.getElem_cons_succ, List.setIfInBounds_toArray, List.set_cons_zero, List.set_cons_succ]
    refine wpAnyH_take (i := 22) (v := ?_) rfl (by kernel_rfl) (by kernel_rfl) (by kernel_rfl) (fun _ _ _ h => h) (Or.inl ⟨by rfl, ?_⟩) hHeld ?_
    rotate_left
    · (intro w hSw; go_simp; (try with_reducible rfl))
    simp only [Act.put, List.getElem_toArray, List.getElem_cons_zero, List.getElem_cons_succ, List.setIfInBounds_toArray, List.set_cons_zero, List.set_cons_succ]
    refine wpAnyH_done (by kernel_rfl) ?_ _
    clear hHeld
    go_wp2_with fail
    go_ret
    rw [HR.out]
    exact DP.no (r := (sT0, 20)) (by decide) HA.out HX.out hbw2.drew
  obtain ⟨m, hm⟩ : ∃ m, n = m + 1 := ⟨n - 1, by omega⟩
  have HM := Lib.hid hm
  have hpm : p = (m : Int) := by have := HP.out; omega
  subst hpm
  have d0 : decide ((m : Int) < 0) = false := decide_eq_false (by omega)
  have g0 : (0 : Int) ≤ (m : Int) := by omega
  have g1 : (m : Int) < (n : Int) := by omega
  have hmo : m < s.objs.length := by have := HN.out; omega
  clear hm hn0 HP
  obtain ⟨b, off, hA, hbB, hra⟩ := HX.out.now.o.at_ hmo
  simp only at hA
  subst hA
  obtain ⟨o, ho⟩ : ∃ o, o = s.objs[m] := ⟨_, rfl⟩
  rw [← ho] at hra
  have HO := Lib.hid (show (s.objs.getD (s.objs.length - 1) fun _ => 0) = o by rw [show s.objs.length - 1 = m by have := HN.out; have := HM.out; omega, getD_in _ hmo, ho])
  clear ho
  obtain ⟨es, hes⟩ : ∃ es, es = evC e := ⟨_, rfl⟩
  have HES := Lib.hid hes
  clear hes
  have hmd := fun W => made_code e W
  rw [show evV e = .agg es by rw [HES.out]; rfl] at hmd
  obtain ⟨o2, ho2⟩ : ∃ o2, o2 = madeO e.a e.b e.c := ⟨_, rfl⟩
  rw [← ho2] at hmd
  obtain ⟨ns, hns⟩ : ∃ ns, ns = !sameI 18 o o2 := ⟨_, rfl⟩
  have hneq : ∀ W, (binOp .neq 52 (.agg (arr .i64 18 o)) (.agg (arr .i64 18 o2))).run Try.prog W = .ok (.bool ns) W := fun W => by rw [hns]; exact neq_obj _ _ W
  have HNs := Lib.hid (show ns = !sameI 18 (s.objs.getD (s.objs.length - 1) fun _ => 0) (madeO e.a e.b e.c) by rw [HO.out, ← ho2]; exact hns)
  clear hns ho2 HO
  have HRa := Lib.hid (fun W (hW : Below w2.heap.size w2 W) => range_below (keepB hW hbw2) hbB hra)
  clear hra
  have k2b : ∀ W, Below w2.heap.size w2 W → W.cell? ⟨g, 0, none⟩ = some (.slice (some ⟨b, off, none⟩) n c) := fun W hW => (hW.cell (by have := hbw2.size; simp only; omega)).trans k2
  refine region_below (by kernel_rfl) (fun hHeld => ?_)
  refine wpAnyH_take (i := 0) (v := ?_) rfl (by kernel_rfl) (by kernel_rfl) (by kernel_rfl) (fun _ _ _ h => h) (Or.inl ⟨by rfl, ?_⟩) hHeld ?_
  rotate_left
  · (intro w hSw; go_simp; (try with_reducible rfl))
  simp only [Act.put, List.getElem_toArray, List.getElem_cons_zero, List.getElem_cons_succ, List.setIfInBounds_toArray, List.set_cons_zero, List.set_cons_succ]
  refine wpAnyH_take (i := 1) (v := ?_) rfl (by kernel_rfl) (by kernel_rfl) (by kernel_rfl) (fun _ _ _ h => h) (Or.inl ⟨by rfl, ?_⟩) hHeld ?_
  rotate_left
  · (intro w hSw; go_simp; (try with_reducible rfl))
  simp only [Act.put, List.getElem_toArray, List.getElem_cons_zero, List.getElem_cons_succ, List.setIfInBounds_toArray, List.set_cons_zero, List.set_cons_succ]
  refine wpAnyH_take (i := 2) (v := ?_) rfl (by kernel_rfl) (by kernel_rfl) (by kernel_rfl) (fun _ _ _ h => h) (Or.inl ⟨by rfl, ?_⟩) hHeld ?_
  rotate_left
  · (intro w hSw; go_simp; (try with_reducible rfl))
  simp only [Act.put, List.getElem_toArray, List.getElem_cons_zero, List.getElem_cons_succ, List.setIfInBounds_toArray, List.set_cons_zero, List.set_cons_succ]
  refine wpAnyH_take (i := 3) (v := ?_) rfl (by kernel_rfl) (by kernel_rfl) (by kernel_rfl) (fun _ _ _ h => h) (Or.inl ⟨by rfl, ?_⟩) hHeld ?_
  rotate_left
  · (intro w hSw; go_simp; (try with_reducible rfl))
  simp only [Act.put, List.getElem_toArray, List.getElem_cons_zero, List.getElem_cons_succ, List.setIfInBounds_toArray, List.set_cons_zero, List.set_cons_succ]
  refine wpAnyH_take (i := 4) (v := ?_) rfl (by kernel_rfl) (by kernel_rfl) (by kernel_rfl) (fun _ _ _ h => h) (Or.inl ⟨by rfl, ?_⟩) hHeld ?_
  rotate_left
  · (intro w hSw; go_simp; (try with_reducible rfl))
  simp only [Act.put, List.getElem_toArray, List.getElem_cons_zero, List.getElem_cons_succ, List.setIfInBounds_toArray, List.set_cons_zero, List.set_cons_succ]
  refine wpAnyH_take (i := 5) (v := ?_) rfl (by kernel_rfl) (by kernel_rfl) (by kernel_rfl) (fun _ _ _ h => h) (Or.inl ⟨by rfl, ?_⟩) hHeld ?_
  rotate_left
  · (intro w hSw; go_simp; (try with_reducible rfl))
  simp only [Act.put, List.getElem_toArray, List.getElem_cons_zero, List.getElem_cons_succ, List.setIfInBounds_toArray, List.set_cons_zero, List.set_cons_succ]
  refine wpAnyH_take (i := 6) (v := ?_) rfl (by kernel_rfl) (by kernel_rfl) (by kernel_rfl) (fun _ _ _ h => h) (Or.inl ⟨by rfl, ?_⟩) hHeld ?_
  rotate_left
  · (intro w hSw; go_simp; (try with_reducible rfl))
  simp only [Act.put, List.getElem_toArray, List.getElem_cons_zero, List.getElem_cons_succ, List.setIfInBounds_toArray, List.set_cons_zero, List.set_cons_succ]
  refine wpAnyH_take (i := 7) (v := ?_) rfl (by kernel_rfl) (by kernel_rfl) (by kernel_rfl) (fun _ _ _ h => h) (Or.inl ⟨by rfl, ?_⟩) hHeld ?_
  rotate_left
  · (intro w hSw; go_simp; (try with_reducible rfl))
  simp only [Act.put, List.getElem_toArray, List.getElem_cons_zero, List.getElem_cons_succ, List.setIfInBounds_toArray, List.set_cons_zero, List.set_cons_succ]
  refine wpAnyH_take (i := 8) (v := ?_) rfl (by kernel_rfl) (by kernel_rfl) (by kernel_rfl) (fun _ _ _ h => h) (Or.inl ⟨by rfl, ?_⟩) hHeld ?_
  rotate_left
  · (intro w hSw; go_simp; (try with_reducible rfl))
  simp only [Act.put, List.getElem_toArray, List.getElem_cons_zero, List.getElem_cons_succ, List.setIfInBounds_toArray, List.set_cons_zero, List.set_cons_succ]
  refine wpAnyH_take (i := 9) (v := .agg (arr .i64 18 o)) rfl (by kernel_rfl) (by kernel_rfl) (by kernel_rfl) (fun _ _ _ h => h) (yields_obj (by rfl) (.tmp 30) rfl b (off + m * 18) rfl o (fun W hW => HRa.out W hW)) hHeld ?_
  simp only [Act.put, List.getElem_toArray, List.getElem_cons_zero, List.getElem_cons_succ, List.setIfInBounds_toArray, List.set_cons_zero, List.set_cons_succ]
  refine wpAnyH_take (i := 10) (v := .agg es) rfl (by kernel_rfl) (by kernel_rfl) (by kernel_rfl) (fun _ _ _ h => h) (yields_ev (by rfl) (.tmp 3) rfl ge rfl es (fun W hW => by rw [HES.out]; exact hrow2.keep hW) (by rw [HES.out]; exact ev_size e)) hHeld ?_
  simp only [Act.put, List.getElem_toArray, List.getElem_cons_zero, List.getElem_cons_succ, List.setIfInBounds_toArray, List.set_cons_zero, List.set_cons_succ]
  clear k2b
  refine wpAnyH_ready (rs := [11]) (by kernel_rfl) (by simp) ?_
  refine AllReadyH.cons rfl (fun K hK => ?_) AllReadyH.nil
  simp only [List.getElem_toArray, List.getElem_cons_zero, List.getElem_cons_succ]
  go_simp
  refine (hmd _).mono ?_
  rintro en w3 ⟨rfl, hb3⟩
  clear hmd
  go_wp2_with fail
  have hB3 := keepB hb3 hHeld
  refine hK.out _ _ hB3 (fun _ => ?_)
  clear hK K
  try simp only [Act.put, List.setIfInBounds_toArray, List.set_cons_zero, List.set_cons_succ]
  refine anyH_rebase hB3 (fun hHeld => ?_)
  have hbw3 : Below w.heap.size w w3 := keepB hb3 hbw2.drew
  have hrow3 : EvB w3 ge e := (show EvB w2.drew ge e from hrow2).keep hb3
  clear hrow2 hB3 hb3 hbw2 k2 HRa
  refine wpAnyH_take (i := 12) (v := ?_) rfl (by kernel_rfl) (by kernel_rfl) (by kernel_rfl) (fun _ _ _ h => h) (Or.inl ⟨by rfl, ?_⟩) hHeld ?_
  rotate_left
  · (intro w hSw; go_simp; (try with_reducible rfl))
  simp only [Act.put, List.getElem_toArray, List.getElem_cons_zero, List.getElem_cons_succ, List.setIfInBounds_toArray, List.set_cons_zero, List.set_cons_succ]
  refine wpAnyH_take (i := 13) (v := ?_) rfl (by kernel_rfl) (by kernel_rfl) (by kernel_rfl) (fun _ _ _ h => h) (Or.inl ⟨by rfl, ?_⟩) hHeld ?_
  rotate_left
  · (intro w hSw; go_simp; (try with_reducible rfl))
  simp only [Act.put, List.getElem_toArray, List.getElem_cons_zero, List.getElem_cons_succ, List.setIfInBounds_toArray, List.set_cons_zero, List.set_cons_succ]
  refine wpAnyH_take (i := 14) (v := ?_) rfl (by kernel_rfl) (by kernel_rfl) (by kernel_rfl) (fun _ _ _ h => h) (Or.inl ⟨by rfl, ?_⟩) hHeld ?_
  rotate_left
  · (intro w hSw; go_simp; (try with_reducible rfl))
  simp only [Act.put, List.getElem_toArray, List.getElem_cons_zero, List.getElem_cons_succ, List.setIfInBounds_toArray, List.set_cons_zero, List.set_cons_succ]
  cases ns
  case true =>
    have HR := Lib.hid (show ap5 s e = (sT0, 20) from ap5_bad (.inr (.inr (.inr (by
      have h := HNs.out
      cases h2 : sameI 18 (s.objs.getD (s.objs.length - 1) fun _ => 0) (madeO e.a e.b e.c)
      · rfl
      · rw [h2] at h; cases h)))))
    refine wpAnyH_take (i := 15) (v := undef) rfl (by kernel_rfl) (by kernel_rfl) (by kernel_rfl) (fun _ _ _ h => h) (Or.inr ⟨by rfl, rfl⟩) hHeld ?_
    simp only [Act.put, List.getElem_toArray, List.getElem_cons_zero, List.getElem_cons_succ, List.setIfInBounds_toArray, List.set_cons_zero, List.set_cons_succ]
    refine wpAnyH_take (i := 16) (v := undef) rfl (by kernel_rfl) (by kernel_rfl) (by kernel_rfl) (fun _ _ _ h => h) (Or.inr ⟨by rfl, rfl⟩) hHeld ?_
    simp only [Act.put, List.getElem_toArray, List.getElem_cons_zero, List.getElem_cons_succ, List.setIfInBounds_toArray, List.set_cons_zero, List.set_cons_succ]
    refine wpAnyH_take (i := 17) (v := ?_) rfl (by kernel_rfl) (by kernel_rfl) (by kernel_rfl) (fun _ _ _ h => h) (Or.inl ⟨by rfl, ?_⟩) hHeld ?_
    rotate_left
    · (intro w hSw; go_simp; (try with_reducible rfl))
    simp only [Act.put, List.getElem_toArray, List.getElem_cons_zero, List.getElem_cons_succ, List.setIfInBounds_toArray, List.set_cons_zero, List.set_cons_succ]
    refine wpAnyH_take (i := 18) (v := ?_) rfl (by kernel_rfl) (by kernel_rfl) (by kernel_rfl) (fun _ _ _ h => h) (Or.inl ⟨by rfl, ?_⟩) hHeld ?_
    rotate_left
    · (intro w hSw; go_simp; (try with_reducible rfl))
    simp only [Act.put, List.getElem_toArray, List.getElem_cons_zero, List.getElem_cons_succ, List.setIfInBounds_toArray, List.set_cons_zero, List.set_cons_succ]
    refine wpAnyH_take (i := 19) (v := undef) rfl (by kernel_rfl) (by kernel_rfl) (by kernel_rfl) (fun _ _ _ h => h) (Or.inr ⟨by rfl, rfl⟩) hHeld ?_
    simp only [Act.put, List.getElem_toArray, List.getElem_cons_zero, List.getElem_cons_succ, List.setIfInBounds_toArray, List.set_cons_zero, List.set_cons_succ]
    refine wpAnyH_take (i := 20) (v := undef) rfl (by kernel_rfl) (by kernel_rfl) (by kernel_rfl) (fun _ _ _ h => h) (Or.inr ⟨by rfl, rfl⟩) hHeld ?_
    simp only [Act.put, List.getElem_toArray, List.getElem_cons_zero, List.getElem_cons_succ, List.setIfInBounds_toArray, List.set_cons_zero, List.set_cons_succ]
    refine wpAnyH_take (i := 21) (v := undef) rfl (by kernel_rfl) (by kernel_rfl) (by kernel_rfl) (fun _ _ _ h => h) (Or.inr ⟨by rfl, rfl⟩) hHeld ?_
    simp only [Act.put, List.getElem_toArray, List.getElem_cons_zero, List.getElem_cons_succ, List.setIfInBounds_toArray, List.set_cons_zero, List.set_cons_succ]
    refine wpAnyH_take (i := 22) (v := ?_) rfl (by kernel_rfl) (by kernel_rfl) (by kernel_rfl) (fun _ _ _ h => h) (Or.inl ⟨by rfl, ?_⟩) hHeld ?_
    rotate_left
    · (intro w hSw; go_simp; (try with_reducible rfl))
    simp only [Act.put, List.getElem_toArray, List.getElem_cons_zero, List.getElem_cons_succ, List.setIfInBounds_toArray, List.set_cons_zero, List.set_cons_succ]
    refine wpAnyH_done (by kernel_rfl) ?_ _
    clear hHeld
    go_wp2_with fail
    go_ret
    rw [HR.out]
    exact DP.no (r := (sT0, 20)) (by decide) HA.out HX.out hbw3
  refine wpAnyH_take (i := 15) (v := ?_) rfl (by kernel_rfl) (by kernel_rfl) (by kernel_rfl) (fun _ _ _ h => h) (Or.inl ⟨by rfl, ?_⟩) hHeld ?_
  rotate_left
  · (intro w hSw; go_simp; (try with_reducible rfl))
  simp only [Act.put, List.getElem_toArray, List.getElem_cons_zero, List.getElem_cons_succ, List.setIfInBounds_toArray, List.set_cons_zero, List.set_cons_succ]
  refine wpAnyH_take (i := 16) (v := ?_) rfl (by kernel_rfl) (by kernel_rfl) (by kernel_rfl) (fun _ _ _ h => h) (Or.inl ⟨by rfl, ?_⟩) hHeld ?_
  rotate_left
  · (intro w hSw; go_simp; (try with_reducible rfl))
  simp only [Act.put, List.getElem_toArray, List.getElem_cons_zero, List.getElem_cons_succ, List.setIfInBounds_toArray, List.set_cons_zero, List.set_cons_succ]
  refine wpAnyH_take (i := 17) (v := ?_) rfl (by kernel_rfl) (by kernel_rfl) (by kernel_rfl) (fun _ _ _ h => h) (Or.inl ⟨by rfl, ?_⟩) hHeld ?_
  rotate_left
  · (intro w hSw; go_simp; (try with_reducible rfl))
  simp only [Act.put, List.getElem_toArray, List.getElem_cons_zero, List.getElem_cons_succ, List.setIfInBounds_toArray, List.set_cons_zero, List.set_cons_succ]
  refine wpAnyH_take (i := 18) (v := ?_) rfl (by kernel_rfl) (by kernel_rfl) (by kernel_rfl) (fun _ _ _ h => h) (Or.inl ⟨by rfl, ?_⟩) hHeld ?_
  rotate_left
  · (intro w hSw; go_simp; (try with_reducible rfl))
  simp only [Act.put, List.getElem_toArray, List.getElem_cons_zero, List.getElem_cons_succ, List.setIfInBounds_toArray, List.set_cons_zero, List.set_cons_succ]
  cases tb
  case false =>
    have HR := Lib.hid (show ap5 s e = (sT0, 20) from ap5_bad (.inr (.inl HTB.out.symm)))
    refine wpAnyH_take (i := 19) (v := undef) rfl (by kernel_rfl) (by kernel_rfl) (by kernel_rfl) (fun _ _ _ h => h) (Or.inr ⟨by rfl, rfl⟩) hHeld ?_
    simp only [Act.put, List.getElem_toArray, List.getElem_cons_zero, List.getElem_cons_succ, List.setIfInBounds_toArray, List.set_cons_zero, List.set_cons_succ]
    refine wpAnyH_take (i := 20) (v := undef) rfl (by kernel_rfl) (by kernel_rfl) (by kernel_rfl) (fun _ _ _ h => h) (Or.inr ⟨by rfl, rfl⟩) hHeld ?_
    simp only [Act.put, List.getElem_toArray, List.getElem_cons_zero, List.getElem_cons_succ, List.setIfInBounds_toArray, List.set_cons_zero, List.set_cons_succ]
    refine wpAnyH_take (i := 21) (v := undef) rfl (by kernel_rfl) (by kernel_rfl) (by kernel_rfl) (fun _ _ _ h => h) (Or.inr ⟨by rfl, rfl⟩) hHeld ?_
    simp only [Act.put, List.getElem_toArray, List.getElem_cons_zero, List.getElem_cons_succ, List.setIfInBounds_toArray, List.set_cons_zero, List.set_cons_succ]
    refine wpAnyH_take (i := 22) (v := ?_) rfl (by kernel_rfl) (by kernel_rfl) (by kernel_rfl) (fun _ _ _ h => h) (Or.inl ⟨by rfl, ?_⟩) hHeld ?_
    rotate_left
    · (intro w hSw; go_simp; (try with_reducible rfl))
    simp only [Act.put, List.getElem_toArray, List.getElem_cons_zero, List.getElem_cons_succ, List.setIfInBounds_toArray, List.set_cons_zero, List.set_cons_succ]
    refine wpAnyH_done (by kernel_rfl) ?_ _
    clear hHeld
    go_wp2_with fail
    go_ret
    rw [HR.out]
    exact DP.no (r := (sT0, 20)) (by decide) HA.out HX.out hbw3
  refine wpAnyH_take (i := 19) (v := ?_) rfl (by kernel_rfl) (by kernel_rfl) (by kernel_rfl) (fun _ _ _ h => h) (Or.inl ⟨by rfl, ?_⟩) hHeld ?_
  rotate_left
  · (intro w hSw; go_simp; (try with_reducible rfl))
  simp only [Act.put, List.getElem_toArray, List.getElem_cons_zero, List.getElem_cons_succ, List.setIfInBounds_toArray, List.set_cons_zero, List.set_cons_succ]
  refine wpAnyH_take (i := 20) (v := ?_) rfl (by kernel_rfl) (by kernel_rfl) (by kernel_rfl) (fun _ _ _ h => h) (Or.inl ⟨by rfl, ?_⟩) hHeld ?_
  rotate_left
  · (intro w hSw; go_simp; (try with_reducible rfl))
  simp only [Act.put, List.getElem_toArray, List.getElem_cons_zero, List.getElem_cons_succ, List.setIfInBounds_toArray, List.set_cons_zero, List.set_cons_succ]
  by_cases htm : tx = (m : Int)
  case neg =>
    have HR := Lib.hid (show ap5 s e = (sT0, 20) from ap5_bad (.inr (.inr (.inl (by
      rw [← HTX.out]; have := HN.out; have := HM.out; omega)))))
    have d2 : (tx != (m : Int)) = true := bne_iff_ne.2 htm
    clear htm
    refine wpAnyH_take (i := 21) (v := ?_) rfl (by kernel_rfl) (by kernel_rfl) (by kernel_rfl) (fun _ _ _ h => h) (Or.inl ⟨by rfl, ?_⟩) hHeld ?_
    rotate_left
    · (intro w hSw; go_simp; (try with_reducible rfl))
    simp only [Act.put, List.getElem_toArray, List.getElem_cons_zero, List.getElem_cons_succ, List.setIfInBounds_toArray, List.set_cons_zero, List.set_cons_succ]
    refine wpAnyH_take (i := 22) (v := ?_) rfl (by kernel_rfl) (by kernel_rfl) (by kernel_rfl) (fun _ _ _ h => h) (Or.inl ⟨by rfl, ?_⟩) hHeld ?_
    rotate_left
    · (intro w hSw; go_simp; (try with_reducible rfl))
    simp only [Act.put, List.getElem_toArray, List.getElem_cons_zero, List.getElem_cons_succ, List.setIfInBounds_toArray, List.set_cons_zero, List.set_cons_succ]
    refine wpAnyH_done (by kernel_rfl) ?_ _
    clear hHeld
    go_wp2_with fail
    go_ret
    rw [HR.out]
    exact DP.no (r := (sT0, 20)) (by decide) HA.out HX.out hbw3
  have d2 : (tx != (m : Int)) = false := by rw [htm]; exact bne_self_eq_false _
  have HG := Lib.hid (ap5_good (s := s) (e := e) (by have := HN.out; have := HM.out; omega) HTB.out.symm (by rw [← HTX.out, htm]; have := HN.out; have := HM.out; omega) (by
    have h := HNs.out
    cases h2 : sameI 18 (s.objs.getD (s.objs.length - 1) fun _ => 0) (madeO e.a e.b e.c)
    · rw [h2] at h; cases h
    · rfl))
  clear htm
  refine wpAnyH_take (i := 21) (v := ?_) rfl (by kernel_rfl) (by kernel_rfl) (by kernel_rfl) (fun _ _ _ h => h) (Or.inl ⟨by rfl, ?_⟩) hHeld ?_
  rotate_left
  · (intro w hSw; go_simp; (try with_reducible rfl))
  simp only [Act.put, List.getElem_toArray, List.getElem_cons_zero, List.getElem_cons_succ, List.setIfInBounds_toArray, List.set_cons_zero, List.set_cons_succ]
  refine wpAnyH_take (i := 22) (v := ?_) rfl (by kernel_rfl) (by kernel_rfl) (by kernel_rfl) (fun _ _ _ h => h) (Or.inl ⟨by rfl, ?_⟩) hHeld ?_
  rotate_left
  · (intro w hSw; go_simp; (try with_reducible rfl))
  simp only [Act.put, List.getElem_toArray, List.getElem_cons_zero, List.getElem_cons_succ, List.setIfInBounds_toArray, List.set_cons_zero, List.set_cons_succ]
  refine wpAnyH_done (by kernel_rfl) ?_ _
  clear hHeld d2 hneq HNs
  have ha3 := HA.out.keep hbw3
  obtain ⟨A5, n5, c5, hL⟩ : ∃ A5 n5 c5, L 10 = ⟨A5, n5, c5⟩ := ⟨_, _, _, rfl⟩
  have hx3 := HX.out w3 (Stay.of hbw3).x
  have k0 : w3.cell? ⟨g, 0, none⟩ = some (.slice (some ⟨b, off, none⟩) n c) := (ha3.cell 0).trans (stC_objs _ _ _ _)
  have k11 : w3.cell? ⟨g, 11, none⟩ = some (.slice A5 n5 c5) := by
    have h := (ha3.cell 11).trans (stC_list ⟨some ⟨b, off, none⟩, n, c⟩ L _ _ (show 10 < 11 by omega))
    rw [hL] at h
    exact h
  have hnc : n ≤ c := hx3.oc
  have hnc5 : n5 ≤ c5 := by have h := hx3.lc 10 (by omega); rw [hL] at h; exact h
  have hN5 : Nums .i64 w3 w3.heap.size A5 n5 (s.lists 10) := by have h := hx3.l 10 (by omega); rw [hL] at h; exact h
  have hR3 : RdO w3.heap.size w3 (some ⟨b, off, none⟩) (s.objs.take m) := RdO.take hx3.o m
  have hl5 := hN5.len
  obtain ⟨k, hk⟩ : ∃ k, n5 = k + 1 := ⟨n5 - 1, by have := HG.out.1; omega⟩
  have h1000 : n5 ≤ 1000 := by rw [← hl5]; exact HLL.out 10 (by omega)
  have HR := Lib.hid (show ap5 s e = (⟨s.objs.take m, updL s.lists 10 ((s.lists 10).take k), s.pl, s.gm⟩, 0) by
    rw [HG.out.2, show s.objs.length - 1 = m by have := HN.out; have := HM.out; omega, show (s.lists 10).length - 1 = k by omega])
  have ew : IntKind.i64.wrap ((n5 : Int) - 1) = (k : Int) := by rw [i64_in (by omega) (by omega)]; omega
  have hkn : k ≤ n5 := by omega
  have hcut := fun W => cutO_to (A := some ⟨b, off, none⟩) (show m ≤ n by omega) hnc W
  have hclO := cloneO_any (some ⟨b, off, none⟩) m c (s.objs.take m) w3 _ hR3 (Nat.le_refl _) (by rw [List.length_take]; omega) (by omega)
  have HL := Lib.hid hL
  have HWO := Lib.hid (show ∀ x ∈ s.objs.take m, ∀ i < 18, N64 (x i) from fun x hx => HX.out.now.ow x (List.mem_of_mem_take hx))
  have HWL := Lib.hid (show ∀ x ∈ (s.lists 10).take k, N64 x from fun x hx => HX.out.now.lw 10 (by omega) x (List.mem_of_mem_take hx))
  have hk5 : k ≤ 1000 := by omega
  clear hx3 hL hN5 hR3 hl5 hk h1000 HG hnc
  go_upto_region 6 with fail
  have k11' := k11
  clear k11
  go_wp2_with fail
  refine hclO.mono ?_
  rintro en w4 ⟨A7, c7, rfl, ho7, hb4⟩
  clear hclO
  have ha4 := ha3.keep hb4
  have hbw4 := keepB hb4 hbw3
  have f4 := frozen_of_row w4 g 0 _ _ ha4
  have k4 : w4.cell? ⟨g, 0, none⟩ = some (.slice (some ⟨b, off, none⟩) n c) := (ha4.cell 0).trans (stC_objs _ _ _ _)
  clear k0
  go_upto_region 7 with fail
  have HMd := Lib.hid (make_mid ha4 (Stay.of hbw4) hgl (ho7.low hbw3.size))
  obtain ⟨W5, hW5⟩ : ∃ W5, W5 = w4.setCell ⟨g, 0, none⟩ (.slice A7 m c7) := ⟨_, rfl⟩
  rw [← hW5] at HMd ⊢
  clear hW5 f4 k4 ho7 k11'
  have hN5 : Nums .i64 W5 W5.heap.size A5 n5 (s.lists 10) := by have h := (HX.out W5 HMd.out.s.x).l 10 (by omega); rw [HL.out] at h; exact h
  obtain ⟨A6, hcut5, hN6⟩ := cut_to (P := Try.prog) hN5 hnc5 hkn 23 (by kernel_rfl) (fun _ => by kernel_rfl)
  have HN6 := Lib.hid hN6
  have k6 : W5.cell? ⟨g, 11, none⟩ = some (.slice A5 n5 c5) := by
    have h := (HMd.out.a.cell 11).trans (stC_list ⟨A7, m, c7⟩ L _ _ (show 10 < 11 by omega))
    rw [HL.out] at h
    exact h
  clear hN5 hN6
  have hgW := HMd.out.a.lt
  refine region_stay g (by kernel_rfl) (fun hHeld => ?_)
  refine wpAnyH_take (i := 0) (v := ?_) rfl (by kernel_rfl) (by kernel_rfl) (by kernel_rfl) (fun _ _ _ h => h) (Or.inl ⟨by rfl, ?_⟩) hHeld ?_
  rotate_left
  · (intro w hSw; go_simp; (try with_reducible rfl))
  simp only [Act.put, List.getElem_toArray, List.getElem_cons_zero, List.getElem_cons_succ, List.setIfInBounds_toArray, List.set_cons_zero, List.set_cons_succ]
  refine wpAnyH_take (i := 1) (v := ?_) rfl (by kernel_rfl) (by kernel_rfl) (by kernel_rfl) (fun _ _ _ h => h) (Or.inl ⟨by rfl, ?_⟩) hHeld ?_
  rotate_left
  · (intro w hSw; go_simp; (try with_reducible rfl))
  simp only [Act.put, List.getElem_toArray, List.getElem_cons_zero, List.getElem_cons_succ, List.setIfInBounds_toArray, List.set_cons_zero, List.set_cons_succ]
  refine wpAnyH_take (i := 2) (v := ?_) rfl (by kernel_rfl) (by kernel_rfl) (by kernel_rfl) (fun _ _ _ h => h) (Or.inl ⟨by rfl, ?_⟩) hHeld ?_
  rotate_left
  · (intro w hSw; go_simp; (try with_reducible rfl))
  simp only [Act.put, List.getElem_toArray, List.getElem_cons_zero, List.getElem_cons_succ, List.setIfInBounds_toArray, List.set_cons_zero, List.set_cons_succ]
  refine wpAnyH_take (i := 3) (v := ?_) rfl (by kernel_rfl) (by kernel_rfl) (by kernel_rfl) (fun _ _ _ h => h) (Or.inl ⟨by rfl, ?_⟩) hHeld ?_
  rotate_left
  · (intro w hSw; go_simp; (try with_reducible rfl))
  simp only [Act.put, List.getElem_toArray, List.getElem_cons_zero, List.getElem_cons_succ, List.setIfInBounds_toArray, List.set_cons_zero, List.set_cons_succ]
  refine wpAnyH_take (i := 4) (v := ?_) rfl (by kernel_rfl) (by kernel_rfl) (by kernel_rfl) (fun _ _ _ h => h) (Or.inl ⟨by rfl, ?_⟩) hHeld ?_
  rotate_left
  · (intro w hSw; go_simp; (try with_reducible rfl))
  simp only [Act.put, List.getElem_toArray, List.getElem_cons_zero, List.getElem_cons_succ, List.setIfInBounds_toArray, List.set_cons_zero, List.set_cons_succ]
  refine wpAnyH_take (i := 5) (v := ?_) rfl (by kernel_rfl) (by kernel_rfl) (by kernel_rfl) (fun _ _ _ h => h) (Or.inl ⟨by rfl, ?_⟩) hHeld ?_
  rotate_left
  · (intro w hSw; go_simp; (try with_reducible rfl))
  simp only [Act.put, List.getElem_toArray, List.getElem_cons_zero, List.getElem_cons_succ, List.setIfInBounds_toArray, List.set_cons_zero, List.set_cons_succ]
  refine wpAnyH_take (i := 7) (v := ?_) rfl (by kernel_rfl) (by kernel_rfl) (by kernel_rfl) (fun _ _ _ h => h) (Or.inl ⟨by rfl, ?_⟩) hHeld ?_
  rotate_left
  · (intro w hSw; go_simp; (try with_reducible rfl))
  simp only [Act.put, List.getElem_toArray, List.getElem_cons_zero, List.getElem_cons_succ, List.setIfInBounds_toArray, List.set_cons_zero, List.set_cons_succ]
  refine wpAnyH_take (i := 8) (v := ?_) rfl (by kernel_rfl) (by kernel_rfl) (by kernel_rfl) (fun _ _ _ h => h) (Or.inl ⟨by rfl, ?_⟩) hHeld ?_
  rotate_left
  · (intro w hSw; go_simp; (try with_reducible rfl))
  simp only [Act.put, List.getElem_toArray, List.getElem_cons_zero, List.getElem_cons_succ, List.setIfInBounds_toArray, List.set_cons_zero, List.set_cons_succ]
  have hw6 : Below W5.heap.size W5 W5.drew := (Below.refl _ _).drew
  generalize W5.drew = W6 at hHeld hw6 ⊢
  refine anyH_restay hHeld (fun hHeld => ?_)
  have hclI := cloneI_any A6 k c5 ((s.lists 10).take k) W6 _ ((HN6.out.below hw6).more hw6.size) (Nat.le_refl _) (by omega)
  clear hcut5 hcut ew
  refine wpAnyH_ready (rs := [6]) (by kernel_rfl) (by simp) ?_
  refine AllReadyH.cons rfl (fun K hK => ?_) AllReadyH.nil
  simp only [List.getElem_toArray, List.getElem_cons_zero, List.getElem_cons_succ]
  go_simp
  refine hclI.mono ?_
  rintro en W9 ⟨A9, c9, rfl, ho9, hb9⟩
  clear hclI
  go_wp2_with fail
  have hB9 := hHeld.then hb9
  refine hK.out _ _ hB9 (fun _ => ?_)
  clear hK K
  try simp only [Act.put, List.setIfInBounds_toArray, List.set_cons_zero, List.set_cons_succ]
  refine anyH_restay hB9 (fun hHeld => ?_)
  have hw9 := keepB hb9 hw6
  have ha9 := HMd.out.a.keep hw9
  have k9 : W9.cell? ⟨g, 11, none⟩ = some (.slice A5 n5 c5) := (hw9.cell (p := ⟨g, 11, none⟩) (by simpa using hgW)).trans k6
  have f9 := frozen_of_row W9 g 11 _ _ ha9
  have HFin := Lib.hid (made_end HX.out HMd.out hgl HWO.out hw9 ((ho9.base_le (show w.heap.size ≤ W6.heap.size from Nat.le_trans HMd.out.s.size hw6.size)).slR) HWL.out HR.out)
  clear ho9 ha9 hw9
  refine wpAnyH_take (i := 9) (v := ?_) rfl (by kernel_rfl) (by kernel_rfl) (by kernel_rfl) (fun _ _ _ h => h) (Or.inl ⟨by rfl, ?_⟩) hHeld ?_
  rotate_left
  · (intro w hSw; go_simp; (try with_reducible rfl))
  simp only [Act.put, List.getElem_toArray, List.getElem_cons_zero, List.getElem_cons_succ, List.setIfInBounds_toArray, List.set_cons_zero, List.set_cons_succ]
  refine wpAnyH_ready (rs := [10]) (by kernel_rfl) (by simp) ?_
  refine AllReadyH.cons rfl (fun K hK => ?_) AllReadyH.nil
  simp only [List.getElem_toArray, List.getElem_cons_zero, List.getElem_cons_succ]
  go_simp
  refine hK.out _ _ ((Stay.refl g W9).set_ 11 _) (fun _ => ?_)
  clear hK K
  try simp only [Act.put, List.setIfInBounds_toArray, List.set_cons_zero, List.set_cons_succ]
  refine wpAnyH_done (by kernel_rfl) ?_ _
  clear k9 f9 hB9 hHeld hb9
  go_wp2_with fail
  go_ret
  exact HFin.out
end Go.Proofs.Ytmneajmedopheaa
namespace Go.Proofs.Ytmneajmedopheaa
open Go.RowKit Ex
set_option maxRecDepth 100000
variable {Bx : Nat}
/-- A state of which lists were laid anew. -/
structure MidL (Bx : Nat) (w : World) (g : Nat) (s : StT) (O : SlT) (ls : Nat → List Int) (L : Nat → SlT) (W : World) : Prop where
  a : StAt W g (stC O L s.pl s.gm)
  x : ReadsX Bx g W (stC O L s.pl s.gm) ⟨s.objs, ls, s.pl, s.gm⟩ O L
  s : Stay g w W
theorem MidL.keep {w W W' : World} {g : Nat} {s : StT} {O : SlT} {ls : Nat → List Int} {L : Nat → SlT} (h : MidL Bx w g s O ls L W) (hb : Below W.heap.size W W') : MidL Bx w g s O ls L W' := ⟨h.a.keep hb, h.x.stay (Stay.of hb), h.s.then hb⟩
theorem MidL.set_ {w W : World} {g base : Nat} {s : StT} {O : SlT} {ls : Nat → List Int} {L : Nat → SlT} (h : MidL Bx w g s O ls L W) {z : Nat} (hz : z < 11) {x : SlT} {l : List Int} (hx : SlR W base x l) (hg : g < base) (hn : ∀ n ∈ l, N64 n) :
    MidL Bx w g s O (updL ls z l) (updS L z x) (W.setCell ⟨g, 1 + z, none⟩ x.v) := by
  refine ⟨?_, (h.x.list (z := z) hx hg hn).stay ((Stay.refl g W).set_ (1 + z) x.v), h.s.set_ (1 + z) x.v⟩
  unfold StAt
  rw [heap_setCell_same W g (1 + z) _ _ _ h.a, stC_set_list _ _ _ _ _ hz]
theorem MidL.list {w W : World} {g : Nat} {s : StT} {O : SlT} {ls : Nat → List Int} {L : Nat → SlT} (h : MidL Bx w g s O ls L W) {z : Nat} (hz : z < 11) :
    ∃ A n c, L z = ⟨A, n, c⟩ ∧ W.cell? ⟨g, 1 + z, none⟩ = some (.slice A n c) ∧ W.frozen? ⟨g, 1 + z, none⟩ = false ∧ Nums .i64 W W.heap.size A n (ls z) ∧ n ≤ c ∧ ∀ x ∈ ls z, N64 x := by
  have hr := h.x.now
  refine ⟨(L z).A, (L z).n, (L z).c, rfl, (h.a.cell _).trans (stC_list _ _ _ _ hz), frozen_of_row W g _ _ _ h.a, hr.l z hz, hr.lc z hz, hr.lw z hz⟩
/-- The event's numbers. -/
structure EvN (W : World) (ge : Nat) (i b k d f : Nat) : Prop where
  a : W.cell? ⟨ge, 1, none⟩ = some (.int .i64 (i : Int))
  b : W.cell? ⟨ge, 2, none⟩ = some (.int .i64 (b : Int))
  c : W.cell? ⟨ge, 3, none⟩ = some (.int .i64 (k : Int))
  d : W.cell? ⟨ge, 4, none⟩ = some (.int .i64 (d : Int))
  e : W.cell? ⟨ge, 5, none⟩ = some (.int .i64 (f : Int))
theorem EvN.of {W : World} {ge : Nat} {e : EvT} (h : EvB W ge e) {i b k d f : Nat} (h1 : e.a = (i : Int)) (h2 : e.b = (b : Int)) (h3 : e.c = (k : Int)) (h4 : e.d = (d : Int)) (h5 : e.e = (f : Int)) : EvN W ge i b k d f := by
  obtain ⟨_, q1, q2, q3, q4, q5⟩ := h.cells
  rw [h1] at q1; rw [h2] at q2; rw [h3] at q3; rw [h4] at q4; rw [h5] at q5
  exact ⟨q1, q2, q3, q4, q5⟩
theorem EvN.keep {W W' : World} {ge : Nat} {i b k d f : Nat} (h : EvN W ge i b k d f) (hg : ge < W.heap.size) (hb : Below W.heap.size W W') : EvN W' ge i b k d f :=
  ⟨(hb.cell (by simpa using hg)).trans h.a, (hb.cell (by simpa using hg)).trans h.b, (hb.cell (by simpa using hg)).trans h.c, (hb.cell (by simpa using hg)).trans h.d, (hb.cell (by simpa using hg)).trans h.e⟩
theorem EvN.set_ {W : World} {ge g j : Nat} {v : Value} {i b k d f : Nat} (h : EvN W ge i b k d f) (hn : ge ≠ g) : EvN (W.setCell ⟨g, j, none⟩ v) ge i b k d f :=
  ⟨(World.cell?_setCell_far _ _ _ _ (by simpa using Ne.symm hn)).trans h.a, (World.cell?_setCell_far _ _ _ _ (by simpa using Ne.symm hn)).trans h.b, (World.cell?_setCell_far _ _ _ _ (by simpa using Ne.symm hn)).trans h.c, (World.cell?_setCell_far _ _ _ _ (by simpa using Ne.symm hn)).trans h.d, (World.cell?_setCell_far _ _ _ _ (by simpa using Ne.symm hn)).trans h.e⟩
set_option linter.unusedSimpArgs false in
set_option maxHeartbeats 0 in
theorem move_obj_code (s : StT) (O : SlT) (L : Nat → SlT) (g : Nat) (e : EvT) (w : World) (ha : StAt w g (stC O L s.pl s.gm)) (hx : ReadsX Bx g w (stC O L s.pl s.gm) s O L) (hn : s.objs.length ≤ 1000) (hll : ∀ z < 11, (s.lists z).length ≤ 1000) (hi : EvI e)
    (hea : 0 ≤ e.a) (heb : 0 ≤ e.b ∧ e.b ≤ 10) (hec : 0 ≤ e.c) (hed : 0 ≤ e.d ∧ e.d ≤ 10) (hee : 0 ≤ e.e) :
    Calls Try.prog 29 #[.pointer (some ⟨g, 0, none⟩), evV e] w (DP Bx w g s (ap1 s e)) := by
  have hgl := ha.lt
  obtain ⟨A, n, c⟩ := O
  have c0 : w.cell? ⟨g, 0, none⟩ = some (.slice A n c) := (ha.cell 0).trans (stC_objs _ _ _ _)
  have hOn : n = s.objs.length := hx.now.on
  have HX := Lib.hid hx
  have HA := Lib.hid ha
  have HI := Lib.hid hi
  have HLL := Lib.hid hll
  have HN := Lib.hid hOn
  obtain ⟨i, hia⟩ : ∃ i : Nat, e.a = (i : Int) := ⟨e.a.toNat, by omega⟩
  obtain ⟨b, hib⟩ : ∃ i : Nat, e.b = (i : Int) := ⟨e.b.toNat, by omega⟩
  obtain ⟨k, hic⟩ : ∃ i : Nat, e.c = (i : Int) := ⟨e.c.toNat, by omega⟩
  obtain ⟨d, hid⟩ : ∃ i : Nat, e.d = (i : Int) := ⟨e.d.toNat, by omega⟩
  obtain ⟨f, hie⟩ : ∃ i : Nat, e.e = (i : Int) := ⟨e.e.toNat, by omega⟩
  have hb : b < 11 := by omega
  have hd : d < 11 := by omega
  have hn1 : n ≤ 1000 := by omega
  have HIA := Lib.hid hia
  have HEV := Lib.hid (And.intro hib (And.intro hic (And.intro hid hie)))
  clear ha hx hi hll hn hOn hea heb hec hed hee hia hib hic hid hie
  go_enter Try.func29, Try.ntmps29
  go_upto_region 1 with fail
  obtain ⟨w1, hw1⟩ : ∃ w1, w1 = w.alloc (.cells (evC e) 45) := ⟨_, rfl⟩
  have hrow : EvB w1 w.heap.size e := by rw [hw1]; exact heap_alloc_new _ _
  have hb1 : Below w.heap.size w w1 := by rw [hw1]; exact (Below.refl _ _).alloc (Nat.le_refl _) _
  show Code.wp _ _ _ _ (w.alloc (.cells (evC e) 45))
  rw [← hw1]
  clear hw1
  have hg1 := hrow.lt
  obtain ⟨ge, hge⟩ : ∃ g, g = w.heap.size := ⟨_, rfl⟩
  rw [← hge] at hrow hg1 ⊢
  have hne : ge ≠ g := by omega
  have HGE := Lib.hid hge
  have k0 := (hb1.cell (p := ⟨g, 0, none⟩) (by simpa using hgl)).trans c0
  clear c0 hge
  have HV := Lib.hid (EvN.of hrow HIA.out HEV.out.1 HEV.out.2.1 HEV.out.2.2.1 HEV.out.2.2.2)
  have hbl := fun W => below_any (i : Int) (n : Int) W
  obtain ⟨q, hq⟩ : ∃ q, q = (decide (0 ≤ (i : Int)) && decide ((i : Int) < (n : Int))) := ⟨_, rfl⟩
  rw [← hq] at hbl
  have HQ := Lib.hid hq
  clear hq
  have k0b : ∀ W, Below w1.heap.size w1 W → W.cell? ⟨g, 0, none⟩ = some (.slice A n c) := fun W hW => (hW.cell (by have := hb1.size; simp only; omega)).trans k0
  have q1b : ∀ W, Below w1.heap.size w1 W → W.cell? ⟨ge, 1, none⟩ = some (.int .i64 (i : Int)) := fun W hW => (HV.out.keep hg1 hW).a
  refine region_below (by kernel_rfl) (fun hHeld => ?_)
  refine wpAnyH_take (i := 0) (v := ?_) rfl (by kernel_rfl) (by kernel_rfl) (by kernel_rfl) (fun _ _ _ h => h) (Or.inl ⟨by rfl, ?_⟩) hHeld ?_
  rotate_left
  · (intro w hSw; go_simp; (try with_reducible rfl))
  simp only [Act.put, List.getElem_toArray, List.getElem_cons_zero, List.getElem_cons_succ, List.setIfInBounds_toArray, List.set_cons_zero, List.set_cons_succ]
  refine wpAnyH_take (i := 1) (v := ?_) rfl (by kernel_rfl) (by kernel_rfl) (by kernel_rfl) (fun _ _ _ h => h) (Or.inl ⟨by rfl, ?_⟩) hHeld ?_
  rotate_left
  · (intro w hSw; go_simp; (try with_reducible rfl))
  simp only [Act.put, List.getElem_toArray, List.getElem_cons_zero, List.getElem_cons_succ, List.setIfInBounds_toArray, List.set_cons_zero, List.set_cons_succ]
  refine wpAnyH_take (i := 2) (v := ?_) rfl (by kernel_rfl) (by kernel_rfl) (by kernel_rfl) (fun _ _ _ h => h) (Or.inl ⟨by rfl, ?_⟩) hHeld ?_
  rotate_left
  · (intro w hSw; go_simp; (try with_reducible rfl))
  simp only [Act.put, List.getElem_toArray, List.getElem_cons_zero, List.getElem_cons_succ, List.setIfInBounds_toArray, List.set_cons_zero, List.set_cons_succ]
  refine wpAnyH_take (i := 3) (v := ?_) rfl (by kernel_rfl) (by kernel_rfl) (by kernel_rfl) (fun _ _ _ h => h) (Or.inl ⟨by rfl, ?_⟩) hHeld ?_
  rotate_left
  · (intro w hSw; go_simp; (try with_reducible rfl))
  simp only [Act.put, List.getElem_toArray, List.getElem_cons_zero, List.getElem_cons_succ, List.setIfInBounds_toArray, List.set_cons_zero, List.set_cons_succ]
  refine wpAnyH_take (i := 4) (v := ?_) rfl (by kernel_rfl) (by kernel_rfl) (by kernel_rfl) (fun _ _ _ h => h) (Or.inl ⟨by rfl, ?_⟩) hHeld ?_
  rotate_left
  · (intro w hSw; go_simp; (try with_reducible rfl))
  simp only [Act.put, List.getElem_toArray, List.getElem_cons_zero, List.getElem_cons_succ, List.setIfInBounds_toArray, List.set_cons_zero, List.set_cons_succ]
  refine wpAnyH_take (i := 5) (v := ?_) rfl (by kernel_rfl) (by kernel_rfl) (by kernel_rfl) (fun _ _ _ h => h) (Or.inl ⟨by rfl, ?_⟩) hHeld ?_
  rotate_left
  · (intro w hSw; go_simp; (try with_reducible rfl))
  simp only [Act.put, List.getElem_toArray, List.getElem_cons_zero, List.getElem_cons_succ, List.setIfInBounds_toArray, List.set_cons_zero, List.set_cons_succ]
  refine wpAnyH_take (i := 6) (v := ?_) rfl (by kernel_rfl) (by kernel_rfl) (by kernel_rfl) (fun _ _ _ h => h) (Or.inl ⟨by rfl, ?_⟩) hHeld ?_
  rotate_left
  · (intro w hSw; go_simp; (try with_reducible rfl))
  simp only [Act.put, List.getElem_toArray, List.getElem_cons_zero, List.getElem_cons_succ, List.setIfInBounds_toArray, List.set_cons_zero, List.set_cons_succ]
  refine wpAnyH_ready (rs := [7]) (by kernel_rfl) (by simp) ?_
  refine AllReadyH.cons rfl (fun K hK => ?_) AllReadyH.nil
  simp only [List.getElem_toArray, List.getElem_cons_zero, List.getElem_cons_succ]
  go_simp
  refine (hbl _).mono ?_
  rintro en W1 ⟨rfl, rfl⟩
  clear hbl
  go_wp2_with fail
  have hB7 := keepB (Below.refl _ _) hHeld
  refine hK.out _ _ hB7 (fun _ => ?_)
  clear hK K
  try simp only [Act.put, List.setIfInBounds_toArray, List.set_cons_zero, List.set_cons_succ]
  refine anyH_rebase hB7 (fun hHeld => ?_)
  refine wpAnyH_take (i := 8) (v := ?_) rfl (by kernel_rfl) (by kernel_rfl) (by kernel_rfl) (fun _ _ _ h => h) (Or.inl ⟨by rfl, ?_⟩) hHeld ?_
  rotate_left
  · (intro w hSw; go_simp; (try with_reducible rfl))
  simp only [Act.put, List.getElem_toArray, List.getElem_cons_zero, List.getElem_cons_succ, List.setIfInBounds_toArray, List.set_cons_zero, List.set_cons_succ]
  refine wpAnyH_done (by kernel_rfl) ?_ _
  have hV0 : EvN w1.drew ge i b k d f := HV.out.keep hg1 (Below.refl _ _).drew
  have hg1 : ge < w1.drew.heap.size := hg1
  have hM0 : MidL Bx w g s ⟨A, n, c⟩ s.lists L w1.drew := ⟨HA.out.keep hb1.drew, HX.out.stay (Stay.of hb1.drew), Stay.of hb1.drew⟩
  have hbW : Below w.heap.size w w1.drew := hb1.drew
  clear k0b q1b HV hHeld hB7 hb1 k0 hrow
  generalize w1.drew = W0 at hV0 hg1 hM0 hbW ⊢
  cases q
  · have HR := Lib.hid (show ap1 s e = (sT0, 4) from by
      have h1 := HQ.out
      have h2 := HN.out
      have h3 := HIA.out
      rw [eq_comm, Bool.and_eq_false_iff] at h1
      simp at h1
      exact if_pos (by omega))
    go_wp2_with fail
    go_ret
    rw [HR.out]
    exact DP.no (r := (sT0, 4)) (by decide) HA.out HX.out hbW
  have hin : i < n := by
    have h1 := HQ.out
    rw [eq_comm, Bool.and_eq_true] at h1
    simp at h1
    omega
  clear HQ
  obtain ⟨Ab, nb, cb, hLb, kb, _, hNb, hcb, hwb⟩ := hM0.list hb
  have hlnb := hNb.len
  have hfb : nb ≤ 1000 := by rw [← hlnb]; exact HLL.out b hb
  have HV0 := Lib.hid hV0
  have HM0 := Lib.hid hM0
  have kbb : ∀ W, Below W0.heap.size W0 W → W.cell? ⟨g, 1 + b, none⟩ = some (.slice Ab nb cb) := fun W hW => (hW.cell (by have := hbW.size; simp only; omega)).trans kb
  have q2b : ∀ W, Below W0.heap.size W0 W → W.cell? ⟨ge, 2, none⟩ = some (.int .i64 (b : Int)) := fun W hW => (HV0.out.keep hg1 hW).b
  have q3b : ∀ W, Below W0.heap.size W0 W → W.cell? ⟨ge, 3, none⟩ = some (.int .i64 (k : Int)) := fun W hW => (HV0.out.keep hg1 hW).c
  have g0 : (0 : Int) ≤ (b : Int) := by omega
  have g1 : (b : Int) < 11 := by omega
  have hrm := remove_code Ab nb cb (s.lists b) (k : Int) W0.drew ⟨hNb, hcb, hfb, hwb⟩
  clear hV0 hM0 kb hNb hlnb
  go_upto_region 3 with fail
  refine region_below (by kernel_rfl) (fun hHeld => ?_)
  refine wpAnyH_take (i := 0) (v := ?_) rfl (by kernel_rfl) (by kernel_rfl) (by kernel_rfl) (fun _ _ _ h => h) (Or.inl ⟨by rfl, ?_⟩) hHeld ?_
  rotate_left
  · (intro w hSw; go_simp; (try with_reducible rfl))
  simp only [Act.put, List.getElem_toArray, List.getElem_cons_zero, List.getElem_cons_succ, List.setIfInBounds_toArray, List.set_cons_zero, List.set_cons_succ]
  refine wpAnyH_take (i := 1) (v := ?_) rfl (by kernel_rfl) (by kernel_rfl) (by kernel_rfl) (fun _ _ _ h => h) (Or.inl ⟨by rfl, ?_⟩) hHeld ?_
  rotate_left
  · (intro w hSw; go_simp; (try with_reducible rfl))
  simp only [Act.put, List.getElem_toArray, List.getElem_cons_zero, List.getElem_cons_succ, List.setIfInBounds_toArray, List.set_cons_zero, List.set_cons_succ]
  refine wpAnyH_take (i := 2) (v := ?_) rfl (by kernel_rfl) (by kernel_rfl) (by kernel_rfl) (fun _ _ _ h => h) (Or.inl ⟨by rfl, ?_⟩) hHeld ?_
  rotate_left
  · (intro w hSw; go_simp; (try with_reducible rfl))
  simp only [Act.put, List.getElem_toArray, List.getElem_cons_zero, List.getElem_cons_succ, List.setIfInBounds_toArray, List.set_cons_zero, List.set_cons_succ]
  refine wpAnyH_take (i := 3) (v := ?_) rfl (by kernel_rfl) (by kernel_rfl) (by kernel_rfl) (fun _ _ _ h => h) (Or.inl ⟨by rfl, ?_⟩) hHeld ?_
  rotate_left
  · (intro w hSw; go_simp; (try with_reducible rfl))
  simp only [Act.put, List.getElem_toArray, List.getElem_cons_zero, List.getElem_cons_succ, List.setIfInBounds_toArray, List.set_cons_zero, List.set_cons_succ]
  refine wpAnyH_take (i := 4) (v := ?_) rfl (by kernel_rfl) (by kernel_rfl) (by kernel_rfl) (fun _ _ _ h => h) (Or.inl ⟨by rfl, ?_⟩) hHeld ?_
  rotate_left
  · (intro w hSw; go_simp; (try with_reducible rfl))
  simp only [Act.put, List.getElem_toArray, List.getElem_cons_zero, List.getElem_cons_succ, List.setIfInBounds_toArray, List.set_cons_zero, List.set_cons_succ]
  refine wpAnyH_take (i := 5) (v := ?_) rfl (by kernel_rfl) (by kernel_rfl) (by kernel_rfl) (fun _ _ _ h => h) (Or.inl ⟨by rfl, ?_⟩) hHeld ?_
  rotate_left
  · (intro w hSw; go_simp; (try with_reducible rfl))
  simp only [Act.put, List.getElem_toArray, List.getElem_cons_zero, List.getElem_cons_succ, List.setIfInBounds_toArray, List.set_cons_zero, List.set_cons_succ]
  refine wpAnyH_take (i := 6) (v := ?_) rfl (by kernel_rfl) (by kernel_rfl) (by kernel_rfl) (fun _ _ _ h => h) (Or.inl ⟨by rfl, ?_⟩) hHeld ?_
  rotate_left
  · (intro w hSw; go_simp; (try with_reducible rfl))
  simp only [Act.put, List.getElem_toArray, List.getElem_cons_zero, List.getElem_cons_succ, List.setIfInBounds_toArray, List.set_cons_zero, List.set_cons_succ]
  refine wpAnyH_take (i := 7) (v := ?_) rfl (by kernel_rfl) (by kernel_rfl) (by kernel_rfl) (fun _ _ _ h => h) (Or.inl ⟨by rfl, ?_⟩) hHeld ?_
  rotate_left
  · (intro w hSw; go_simp; (try with_reducible rfl))
  simp only [Act.put, List.getElem_toArray, List.getElem_cons_zero, List.getElem_cons_succ, List.setIfInBounds_toArray, List.set_cons_zero, List.set_cons_succ]
  refine wpAnyH_take (i := 8) (v := ?_) rfl (by kernel_rfl) (by kernel_rfl) (by kernel_rfl) (fun _ _ _ h => h) (Or.inl ⟨by rfl, ?_⟩) hHeld ?_
  rotate_left
  · (intro w hSw; go_simp; (try with_reducible rfl))
  simp only [Act.put, List.getElem_toArray, List.getElem_cons_zero, List.getElem_cons_succ, List.setIfInBounds_toArray, List.set_cons_zero, List.set_cons_succ]
  clear kbb q2b q3b
  refine wpAnyH_ready (rs := [9]) (by kernel_rfl) (by simp) ?_
  refine AllReadyH.cons rfl (fun K hK => ?_) AllReadyH.nil
  simp only [List.getElem_toArray, List.getElem_cons_zero, List.getElem_cons_succ]
  go_simp
  refine hrm.mono ?_
  rintro en W1 ⟨hb2, (⟨hok, A1, n1, c1, rfl, hm1⟩ | ⟨hno, A1, c1, rfl⟩)⟩
  · clear hrm
    rw [Int.toNat_natCast] at hm1 ⊢
    obtain ⟨x, hx⟩ : ∃ x, x = (s.lists b).getD k 0 := ⟨_, rfl⟩
    obtain ⟨l1, hl1⟩ : ∃ l1, l1 = rmL (s.lists b) k := ⟨_, rfl⟩
    rw [← hx]
    rw [← hl1] at hm1
    have HXx := Lib.hid hx
    have HL1 := Lib.hid hl1
    clear hx hl1
    go_wp2_with fail
    have hB9 := keepB hb2 hHeld
    refine hK.out _ _ hB9 (fun _ => ?_)
    clear hK K
    try simp only [Act.put, List.setIfInBounds_toArray, List.set_cons_zero, List.set_cons_succ]
    refine anyH_rebase hB9 (fun hHeld => ?_)
    refine wpAnyH_take (i := 10) (v := ?_) rfl (by kernel_rfl) (by kernel_rfl) (by kernel_rfl) (fun _ _ _ h => h) (Or.inl ⟨by rfl, ?_⟩) hHeld ?_
    rotate_left
    · (intro w hSw; go_simp; (try with_reducible rfl))
    simp only [Act.put, List.getElem_toArray, List.getElem_cons_zero, List.getElem_cons_succ, List.setIfInBounds_toArray, List.set_cons_zero, List.set_cons_succ]
    refine wpAnyH_take (i := 11) (v := ?_) rfl (by kernel_rfl) (by kernel_rfl) (by kernel_rfl) (fun _ _ _ h => h) (Or.inl ⟨by rfl, ?_⟩) hHeld ?_
    rotate_left
    · (intro w hSw; go_simp; (try with_reducible rfl))
    simp only [Act.put, List.getElem_toArray, List.getElem_cons_zero, List.getElem_cons_succ, List.setIfInBounds_toArray, List.set_cons_zero, List.set_cons_succ]
    refine wpAnyH_take (i := 12) (v := ?_) rfl (by kernel_rfl) (by kernel_rfl) (by kernel_rfl) (fun _ _ _ h => h) (Or.inl ⟨by rfl, ?_⟩) hHeld ?_
    rotate_left
    · (intro w hSw; go_simp; (try with_reducible rfl))
    simp only [Act.put, List.getElem_toArray, List.getElem_cons_zero, List.getElem_cons_succ, List.setIfInBounds_toArray, List.set_cons_zero, List.set_cons_succ]
    refine wpAnyH_take (i := 13) (v := ?_) rfl (by kernel_rfl) (by kernel_rfl) (by kernel_rfl) (fun _ _ _ h => h) (Or.inl ⟨by rfl, ?_⟩) hHeld ?_
    rotate_left
    · (intro w hSw; go_simp; (try with_reducible rfl))
    simp only [Act.put, List.getElem_toArray, List.getElem_cons_zero, List.getElem_cons_succ, List.setIfInBounds_toArray, List.set_cons_zero, List.set_cons_succ]
    refine wpAnyH_take (i := 14) (v := ?_) rfl (by kernel_rfl) (by kernel_rfl) (by kernel_rfl) (fun _ _ _ h => h) (Or.inl ⟨by rfl, ?_⟩) hHeld ?_
    rotate_left
    · (intro w hSw; go_simp; (try with_reducible rfl))
    simp only [Act.put, List.getElem_toArray, List.getElem_cons_zero, List.getElem_cons_succ, List.setIfInBounds_toArray, List.set_cons_zero, List.set_cons_succ]
    refine wpAnyH_take (i := 15) (v := ?_) rfl (by kernel_rfl) (by kernel_rfl) (by kernel_rfl) (fun _ _ _ h => h) (Or.inl ⟨by rfl, ?_⟩) hHeld ?_
    rotate_left
    · (intro w hSw; go_simp; (try with_reducible rfl))
    simp only [Act.put, List.getElem_toArray, List.getElem_cons_zero, List.getElem_cons_succ, List.setIfInBounds_toArray, List.set_cons_zero, List.set_cons_succ]
    refine wpAnyH_take (i := 16) (v := ?_) rfl (by kernel_rfl) (by kernel_rfl) (by kernel_rfl) (fun _ _ _ h => h) (Or.inl ⟨by rfl, ?_⟩) hHeld ?_
    rotate_left
    · (intro w hSw; go_simp; (try with_reducible rfl))
    simp only [Act.put, List.getElem_toArray, List.getElem_cons_zero, List.getElem_cons_succ, List.setIfInBounds_toArray, List.set_cons_zero, List.set_cons_succ]
    refine wpAnyH_done (by kernel_rfl) ?_ _
    have hV1 : EvN W1 ge i b k d f := HV0.out.keep hg1 hB9
    have hM1 := HM0.out.keep hB9
    have hbW1 := keepB hB9 hbW
    have hg1 : ge < W1.heap.size := Nat.lt_of_lt_of_le hg1 hB9.size
    have hm1 : Mine W1 w.heap.size A1 n1 c1 l1 := hm1.base_le hbW.size
    have hkn : k < nb := by unfold Within at hok; omega
    have hlb : (s.lists b).length = nb := by
      have h := (HM0.out.x.now.l b hb).len
      rw [hLb] at h
      exact h
    have hn1e : n1 = nb - 1 := by rw [← hm1.len, HL1.out, rm_len _ _ (by omega)]; omega
    have HNE := Lib.hid hn1e
    have HLB := Lib.hid hlb
    clear hHeld hB9 hb2 hok hn1e hlb hLb
    obtain ⟨_, q1, q2, q3, q4, q5⟩ : True ∧ _ ∧ _ ∧ _ ∧ _ ∧ _ := ⟨trivial, hV1.a, hV1.b, hV1.c, hV1.d, hV1.e⟩
    by_cases hxi : x = (i : Int)
    case neg =>
      have HR := Lib.hid (show ap1 s e = (sT0, 20) from by
        obtain ⟨h1, h2, h3, h4⟩ := HEV.out
        have h5 := HIA.out
        have h6 := HXx.out
        have h7 := HN.out
        have hlb := HLB.out
        unfold ap1
        rw [if_neg (by omega), if_pos (.inr (by rw [h1, h2, h5, Int.toNat_natCast, Int.toNat_natCast, ← h6]; exact hxi))])
      have hd1 : (x != (i : Int)) = true := bne_iff_ne.2 hxi
      clear hxi
      go_wp2_with fail
      go_ret
      rw [HR.out]
      exact DP.no (r := (sT0, 20)) (by decide) HA.out HX.out hbW1
    have hd1 : (x != (i : Int)) = false := by rw [hxi]; exact bne_self_eq_false _
    have HMv := Lib.hid (show ap1 s e = if ((mv1 s e d).length : Int) < f then (sT0, 1) else (⟨setO s.objs i 3 d, updL (updL s.lists b l1) d (insL (mv1 s e d) f i), s.pl, s.gm⟩, 0) from by
      obtain ⟨h1, h2, h3, h4⟩ := HEV.out
      have h5 := HIA.out
      have h6 := HXx.out
      have h7 := HN.out
      have hlb := HLB.out
      unfold ap1
      rw [if_neg (by omega), if_neg]
      · rw [h3, h4, h5, Int.toNat_natCast, Int.toNat_natCast, Int.toNat_natCast, show mv1 s e = updL s.lists b l1 by unfold mv1; rw [h1, h2, Int.toNat_natCast, Int.toNat_natCast, HL1.out]]
      · rw [h1, h2, h5, Int.toNat_natCast, Int.toNat_natCast, ← h6]
        rintro (h | h)
        · omega
        · exact h hxi)
    have HMe := Lib.hid (show mv1 s e d = if d = b then l1 else s.lists d from by
      obtain ⟨h1, h2, h3, h4⟩ := HEV.out
      unfold mv1
      rw [h1, h2, Int.toNat_natCast, Int.toNat_natCast, ← HL1.out]
      rfl)
    clear hxi
    obtain ⟨Ad, nd, cd, hLd, kd, _, hNd, hcd, hwd⟩ := hM1.list hd
    have hfd : nd ≤ 1000 := by rw [← hNd.len]; exact HLL.out d hd
    have HM1 := Lib.hid hM1
    have HNd := Lib.hid hNd
    have HMi := Lib.hid hm1
    have HV1 := Lib.hid hV1
    have e0 : (0 : Int) ≤ (d : Int) := by omega
    have e1 : (d : Int) < 11 := by omega
    clear hNd hm1 hM1 hV1 HM0 HV0 hLd
    go_upto_region 6 with fail
    clear hd1
    go_region
    go_upto_region 7 with fail
    clear kd
    have hdr : Below W1.heap.size W1 W1.drew := (Below.refl _ _).drew
    have HM2 := Lib.hid (HM1.out.keep hdr)
    have HNd2 := Lib.hid ((HNd.out.below hdr).more hdr.size)
    have HMi2 := Lib.hid (SlR.keep (show SlR W1 w.heap.size ⟨A1, n1, c1⟩ l1 from ⟨HMi.out.1, HMi.out.2.1, HMi.out.2.2⟩) hdr)
    have HV2 := Lib.hid (HV1.out.keep hg1 hdr)
    have hbW2 := keepB hdr hbW1
    have hg2 : ge < W1.drew.heap.size := hg1
    clear q1 q2 q3 q4 q5 HM1 HNd HMi HV1 hdr hbW1
    generalize W1.drew = W2 at HM2 HNd2 HMi2 HV2 hbW2 hg2 ⊢
    obtain ⟨_, q1, q2, q4, q5⟩ : True ∧ _ ∧ _ ∧ _ ∧ _ := ⟨trivial, HV2.out.a, HV2.out.b, HV2.out.d, HV2.out.e⟩
    have hwf1 : ∀ y ∈ l1, N64 y := fun y hy => hwb y (by rw [HL1.out] at hy; exact mem_rmL hy)
    by_cases hdb : d = b
    · have hdd : ((d : Int) == (b : Int)) = true := by rw [hdb]; exact beq_self_eq_true _
      have HInto := Lib.hid (show mv1 s e d = l1 from HMe.out.trans (if_pos hdb))
      have hins := insert_code A1 n1 c1 l1 (f : Int) (i : Int) W2 ⟨HMi2.out.N, HMi2.out.c, by have := HNE.out; omega, hwf1⟩
      have hnI : n1 = l1.length := HMi2.out.N.len.symm
      clear hdb
      have HnI := Lib.hid hnI
      clear hnI
      go_wp2_with fail
      refine hins.mono ?_
      rintro en W3 ⟨hb4, (⟨hok, A3, n3, c3, rfl, hm3⟩ | ⟨hno, A3, c3, rfl⟩)⟩
      · clear hins
        rw [Int.toNat_natCast] at hm3
        have HR := Lib.hid (show ap1 s e = (⟨setO s.objs i 3 d, updL (updL s.lists b l1) d (insL l1 f i), s.pl, s.gm⟩, 0) from by
          rw [HMv.out, HInto.out, if_neg (by have h := HnI.out; unfold Within at hok; omega)])
        have HM3 := Lib.hid (HM2.out.keep hb4)
        have HS1 := Lib.hid (HMi2.out.keep hb4)
        have HS3 := Lib.hid (show SlR W3 w.heap.size ⟨A3, n3, c3⟩ (insL l1 f i) from let h := hm3.base_le hbW2.size; ⟨h.1, h.2.1, h.2.2⟩)
        have HV3 := Lib.hid (HV2.out.keep hg2 hb4)
        have hg3 : ge < W3.heap.size := Nat.lt_of_lt_of_le hg2 hb4.size
        have hbW3 := keepB hb4 hbW2
        have HW3 := Lib.hid (show ∀ y ∈ insL l1 f i, N64 y from fun y hy => by
          rcases mem_insL hy with h | h
          · rw [h]; exact ⟨by omega, by omega⟩
          · exact hwf1 y h)
        have HW1 := Lib.hid hwf1
        clear hok hm3 hwf1 q1 q2 q4 q5
        obtain ⟨_, q2, q4⟩ : True ∧ _ ∧ _ := ⟨trivial, HV3.out.b, HV3.out.d⟩
        obtain ⟨A9, n9, c9, _, k9, f9, _, _, _⟩ := HM3.out.list hb
        go_upto_region 12 with fail
        clear hdd
        go_region
        go_upto_region 13 with fail
        clear k9 f9 q2 q4
        obtain ⟨W4, hW4⟩ : ∃ W4, W4 = (W3.setCell ⟨g, 1 + b, none⟩ (.slice A1 n1 c1)).drew := ⟨_, rfl⟩
        have hst : Stay g W3 W4 := by rw [hW4]; exact ((Stay.refl g W3).drew).set_ _ _
        have HM4 := Lib.hid (show MidL Bx w g s ⟨A, n, c⟩ (updL s.lists b l1) (updS L b ⟨A1, n1, c1⟩) W4 by
          rw [hW4]
          exact (HM3.out.keep ((Below.refl _ _).drew)).set_ (W := W3.drew) hb (HS1.out.keep ((Below.refl _ _).drew)) hgl HW1.out)
        have HV4 := Lib.hid (show EvN W4 ge i b k d f by rw [hW4]; exact (HV3.out.keep hg3 ((Below.refl _ _).drew)).set_ hne)
        have HS4 := Lib.hid (HS3.out.stayX hgl (hst.x (B := 0)))
        have hg4 : ge < W4.heap.size := Nat.lt_of_lt_of_le hg3 hst.size
        rw [← hW4]
        clear hW4 hst HM3 HV3 HS3 HS1
        obtain ⟨A8, n8, c8, _, k8, f8, _, _, _⟩ := HM4.out.list hd
        obtain ⟨_, q4⟩ : True ∧ _ := ⟨trivial, HV4.out.d⟩
        go_region
        go_upto_region 14 with fail
        clear k8 f8 q4
        obtain ⟨W5, hW5⟩ : ∃ W5, W5 = (W4.setCell ⟨g, 1 + d, none⟩ (.slice A3 n3 c3)).drew := ⟨_, rfl⟩
        have hst : Stay g W4 W5 := by rw [hW5]; exact ((Stay.refl g W4).drew).set_ _ _
        have HM5 := Lib.hid (show MidL Bx w g s ⟨A, n, c⟩ (updL (updL s.lists b l1) d (insL l1 f i)) (updS (updS L b ⟨A1, n1, c1⟩) d ⟨A3, n3, c3⟩) W5 by
          rw [hW5]
          exact (HM4.out.keep ((Below.refl _ _).drew)).set_ (W := W4.drew) hd (HS4.out.keep ((Below.refl _ _).drew)) hgl HW3.out)
        obtain ⟨_, q1, q4⟩ : True ∧ W5.cell? ⟨ge, 1, none⟩ = _ ∧ W5.cell? ⟨ge, 4, none⟩ = _ := by
          have h : EvN W5 ge i b k d f := by rw [hW5]; exact (HV4.out.keep hg4 ((Below.refl _ _).drew)).set_ hne
          exact ⟨trivial, h.a, h.d⟩
        rw [← hW5]
        clear hW5 hst HM4 HV4 HS4
        have hpt := put_code ⟨s.objs, updL (updL s.lists b l1) d (insL l1 f i), s.pl, s.gm⟩ ⟨A, n, c⟩ (updS (updS L b ⟨A1, n1, c1⟩) d ⟨A3, n3, c3⟩) g i 3 (d : Int) W5 HM5.out.a HM5.out.x (by have := HN.out; show i < s.objs.length; omega) (by omega) (by have := HN.out; show s.objs.length ≤ 1000000; omega) ⟨by omega, by omega⟩
        rw [show ((3 : Nat) : Int) = 3 from rfl] at hpt
        go_wp2_with fail
        refine hpt.mono ?_
        rintro en W6 ⟨O6, rfl, ha6, hx6, hs6⟩
        clear hpt
        go_wp2_with fail
        go_ret
        rw [HR.out]
        exact DP.yes (O := O6) (L := updS (updS L b ⟨A1, n1, c1⟩) d ⟨A3, n3, c3⟩) (t := ⟨setO s.objs i 3 d, updL (updL s.lists b l1) d (insL l1 f i), s.pl, s.gm⟩) ha6 hx6 (HM5.out.s.trans hs6)
      · clear hins
        have HR := Lib.hid (show ap1 s e = (sT0, 1) from by
          rw [HMv.out, HInto.out, if_pos (by have h := HnI.out; unfold Within at hno; omega)])
        have hbW3 := keepB hb4 hbW2
        clear hno hb4 q1 q2 q4 q5 hdd
        rw [errV_err (show (1 : Int) ≠ 0 by decide)]
        go_wp2_with fail
        go_ret
        rw [HR.out]
        exact DP.no (r := (sT0, 1)) (by decide) HA.out HX.out hbW3
    · have hdd : ((d : Int) == (b : Int)) = false := beq_eq_false_iff_ne.2 (by omega)
      have HInto := Lib.hid (show mv1 s e d = s.lists d from HMe.out.trans (if_neg hdb))
      have hins := insert_code Ad nd cd (s.lists d) (f : Int) (i : Int) W2 ⟨HNd2.out, hcd, hfd, hwd⟩
      have hnI : nd = (s.lists d).length := HNd2.out.len.symm
      clear hdb
      have HnI := Lib.hid hnI
      clear hnI
      go_wp2_with fail
      refine hins.mono ?_
      rintro en W3 ⟨hb4, (⟨hok, A3, n3, c3, rfl, hm3⟩ | ⟨hno, A3, c3, rfl⟩)⟩
      · clear hins
        rw [Int.toNat_natCast] at hm3
        have HR := Lib.hid (show ap1 s e = (⟨setO s.objs i 3 d, updL (updL s.lists b l1) d (insL (s.lists d) f i), s.pl, s.gm⟩, 0) from by
          rw [HMv.out, HInto.out, if_neg (by have h := HnI.out; unfold Within at hok; omega)])
        have HM3 := Lib.hid (HM2.out.keep hb4)
        have HS1 := Lib.hid (HMi2.out.keep hb4)
        have HS3 := Lib.hid (show SlR W3 w.heap.size ⟨A3, n3, c3⟩ (insL (s.lists d) f i) from let h := hm3.base_le hbW2.size; ⟨h.1, h.2.1, h.2.2⟩)
        have HV3 := Lib.hid (HV2.out.keep hg2 hb4)
        have hg3 : ge < W3.heap.size := Nat.lt_of_lt_of_le hg2 hb4.size
        have hbW3 := keepB hb4 hbW2
        have HW3 := Lib.hid (show ∀ y ∈ insL (s.lists d) f i, N64 y from fun y hy => by
          rcases mem_insL hy with h | h
          · rw [h]; exact ⟨by omega, by omega⟩
          · exact hwd y h)
        have HW1 := Lib.hid hwf1
        clear hok hm3 hwf1 q1 q2 q4 q5
        obtain ⟨_, q2, q4⟩ : True ∧ _ ∧ _ := ⟨trivial, HV3.out.b, HV3.out.d⟩
        obtain ⟨A9, n9, c9, _, k9, f9, _, _, _⟩ := HM3.out.list hb
        go_upto_region 12 with fail
        clear hdd
        go_region
        go_upto_region 13 with fail
        clear k9 f9 q2 q4
        obtain ⟨W4, hW4⟩ : ∃ W4, W4 = (W3.setCell ⟨g, 1 + b, none⟩ (.slice A1 n1 c1)).drew := ⟨_, rfl⟩
        have hst : Stay g W3 W4 := by rw [hW4]; exact ((Stay.refl g W3).drew).set_ _ _
        have HM4 := Lib.hid (show MidL Bx w g s ⟨A, n, c⟩ (updL s.lists b l1) (updS L b ⟨A1, n1, c1⟩) W4 by
          rw [hW4]
          exact (HM3.out.keep ((Below.refl _ _).drew)).set_ (W := W3.drew) hb (HS1.out.keep ((Below.refl _ _).drew)) hgl HW1.out)
        have HV4 := Lib.hid (show EvN W4 ge i b k d f by rw [hW4]; exact (HV3.out.keep hg3 ((Below.refl _ _).drew)).set_ hne)
        have HS4 := Lib.hid (HS3.out.stayX hgl (hst.x (B := 0)))
        have hg4 : ge < W4.heap.size := Nat.lt_of_lt_of_le hg3 hst.size
        rw [← hW4]
        clear hW4 hst HM3 HV3 HS3 HS1
        obtain ⟨A8, n8, c8, _, k8, f8, _, _, _⟩ := HM4.out.list hd
        obtain ⟨_, q4⟩ : True ∧ _ := ⟨trivial, HV4.out.d⟩
        go_region
        go_upto_region 14 with fail
        clear k8 f8 q4
        obtain ⟨W5, hW5⟩ : ∃ W5, W5 = (W4.setCell ⟨g, 1 + d, none⟩ (.slice A3 n3 c3)).drew := ⟨_, rfl⟩
        have hst : Stay g W4 W5 := by rw [hW5]; exact ((Stay.refl g W4).drew).set_ _ _
        have HM5 := Lib.hid (show MidL Bx w g s ⟨A, n, c⟩ (updL (updL s.lists b l1) d (insL (s.lists d) f i)) (updS (updS L b ⟨A1, n1, c1⟩) d ⟨A3, n3, c3⟩) W5 by
          rw [hW5]
          exact (HM4.out.keep ((Below.refl _ _).drew)).set_ (W := W4.drew) hd (HS4.out.keep ((Below.refl _ _).drew)) hgl HW3.out)
        obtain ⟨_, q1, q4⟩ : True ∧ W5.cell? ⟨ge, 1, none⟩ = _ ∧ W5.cell? ⟨ge, 4, none⟩ = _ := by
          have h : EvN W5 ge i b k d f := by rw [hW5]; exact (HV4.out.keep hg4 ((Below.refl _ _).drew)).set_ hne
          exact ⟨trivial, h.a, h.d⟩
        rw [← hW5]
        clear hW5 hst HM4 HV4 HS4
        have hpt := put_code ⟨s.objs, updL (updL s.lists b l1) d (insL (s.lists d) f i), s.pl, s.gm⟩ ⟨A, n, c⟩ (updS (updS L b ⟨A1, n1, c1⟩) d ⟨A3, n3, c3⟩) g i 3 (d : Int) W5 HM5.out.a HM5.out.x (by have := HN.out; show i < s.objs.length; omega) (by omega) (by have := HN.out; show s.objs.length ≤ 1000000; omega) ⟨by omega, by omega⟩
        rw [show ((3 : Nat) : Int) = 3 from rfl] at hpt
        go_wp2_with fail
        refine hpt.mono ?_
        rintro en W6 ⟨O6, rfl, ha6, hx6, hs6⟩
        clear hpt
        go_wp2_with fail
        go_ret
        rw [HR.out]
        exact DP.yes (O := O6) (L := updS (updS L b ⟨A1, n1, c1⟩) d ⟨A3, n3, c3⟩) (t := ⟨setO s.objs i 3 d, updL (updL s.lists b l1) d (insL (s.lists d) f i), s.pl, s.gm⟩) ha6 hx6 (HM5.out.s.trans hs6)
      · clear hins
        have HR := Lib.hid (show ap1 s e = (sT0, 1) from by
          rw [HMv.out, HInto.out, if_pos (by have h := HnI.out; unfold Within at hno; omega)])
        have hbW3 := keepB hb4 hbW2
        clear hno hb4 q1 q2 q4 q5 hdd
        rw [errV_err (show (1 : Int) ≠ 0 by decide)]
        go_wp2_with fail
        go_ret
        rw [HR.out]
        exact DP.no (r := (sT0, 1)) (by decide) HA.out HX.out hbW3
  · clear hrm
    rw [errV_err (show (1 : Int) ≠ 0 by decide)]
    go_wp2_with fail
    have hB9 := keepB hb2 hHeld
    refine hK.out _ _ hB9 (fun _ => ?_)
    clear hK K
    try simp only [Act.put, List.setIfInBounds_toArray, List.set_cons_zero, List.set_cons_succ]
    refine anyH_rebase hB9 (fun hHeld => ?_)
    refine wpAnyH_take (i := 10) (v := ?_) rfl (by kernel_rfl) (by kernel_rfl) (by kernel_rfl) (fun _ _ _ h => h) (Or.inl ⟨by rfl, ?_⟩) hHeld ?_
    rotate_left
    · (intro w hSw; go_simp; (try with_reducible rfl))
    simp only [Act.put, List.getElem_toArray, List.getElem_cons_zero, List.getElem_cons_succ, List.setIfInBounds_toArray, List.set_cons_zero, List.set_cons_succ]
    refine wpAnyH_take (i := 11) (v := ?_) rfl (by kernel_rfl) (by kernel_rfl) (by kernel_rfl) (fun _ _ _ h => h) (Or.inl ⟨by rfl, ?_⟩) hHeld ?_
    rotate_left
    · (intro w hSw; go_simp; (try with_reducible rfl))
    simp only [Act.put, List.getElem_toArray, List.getElem_cons_zero, List.getElem_cons_succ, List.setIfInBounds_toArray, List.set_cons_zero, List.set_cons_succ]
    refine wpAnyH_take (i := 12) (v := ?_) rfl (by kernel_rfl) (by kernel_rfl) (by kernel_rfl) (fun _ _ _ h => h) (Or.inl ⟨by rfl, ?_⟩) hHeld ?_
    rotate_left
    · (intro w hSw; go_simp; (try with_reducible rfl))
    simp only [Act.put, List.getElem_toArray, List.getElem_cons_zero, List.getElem_cons_succ, List.setIfInBounds_toArray, List.set_cons_zero, List.set_cons_succ]
    refine wpAnyH_take (i := 13) (v := ?_) rfl (by kernel_rfl) (by kernel_rfl) (by kernel_rfl) (fun _ _ _ h => h) (Or.inl ⟨by rfl, ?_⟩) hHeld ?_
    rotate_left
    · (intro w hSw; go_simp; (try with_reducible rfl))
    simp only [Act.put, List.getElem_toArray, List.getElem_cons_zero, List.getElem_cons_succ, List.setIfInBounds_toArray, List.set_cons_zero, List.set_cons_succ]
    refine wpAnyH_take (i := 14) (v := ?_) rfl (by kernel_rfl) (by kernel_rfl) (by kernel_rfl) (fun _ _ _ h => h) (Or.inl ⟨by rfl, ?_⟩) hHeld ?_
    rotate_left
    · (intro w hSw; go_simp; (try with_reducible rfl))
    simp only [Act.put, List.getElem_toArray, List.getElem_cons_zero, List.getElem_cons_succ, List.setIfInBounds_toArray, List.set_cons_zero, List.set_cons_succ]
    refine wpAnyH_take (i := 15) (v := ?_) rfl (by kernel_rfl) (by kernel_rfl) (by kernel_rfl) (fun _ _ _ h => h) (Or.inl ⟨by rfl, ?_⟩) hHeld ?_
    rotate_left
    · (intro w hSw; go_simp; (try with_reducible rfl))
    simp only [Act.put, List.getElem_toArray, List.getElem_cons_zero, List.getElem_cons_succ, List.setIfInBounds_toArray, List.set_cons_zero, List.set_cons_succ]
    refine wpAnyH_take (i := 16) (v := ?_) rfl (by kernel_rfl) (by kernel_rfl) (by kernel_rfl) (fun _ _ _ h => h) (Or.inl ⟨by rfl, ?_⟩) hHeld ?_
    rotate_left
    · (intro w hSw; go_simp; (try with_reducible rfl))
    simp only [Act.put, List.getElem_toArray, List.getElem_cons_zero, List.getElem_cons_succ, List.setIfInBounds_toArray, List.set_cons_zero, List.set_cons_succ]
    refine wpAnyH_done (by kernel_rfl) ?_ _
    have HR := Lib.hid (show ap1 s e = (sT0, 20) from by
      obtain ⟨h1, h2, h3, h4⟩ := HEV.out
      have h5 := HIA.out
      have h7 := HN.out
      have h := (HM0.out.x.now.l b hb).len
      rw [hLb] at h
      have h8 : (s.lists b).length = nb := h
      unfold ap1
      unfold Within at hno
      rw [if_neg (by omega), if_pos (.inl (by rw [h1, h2, Int.toNat_natCast, h8]; omega))])
    have hbW1 := keepB hB9 hbW
    clear hno hHeld
    go_wp2_with fail
    go_ret
    rw [HR.out]
    exact DP.no (r := (sT0, 20)) (by decide) HA.out HX.out hbW1
end Go.Proofs.Ytmneajmedopheaa
namespace Go.Proofs.Ytmneajmedopheaa
open Go.RowKit Ex
set_option maxRecDepth 100000
variable {Bx : Nat}
theorem dp_pl {w W : World} {g : Nat} {s : StT} {O : SlT} {L : Nat → SlT} {v : Int} {j : Nat} (ha : StAt w g (stC O L s.pl s.gm)) (hx : ReadsX Bx g w (stC O L s.pl s.gm) s O L) (hb : Below w.heap.size w W) (hj : j < 18) (hv : N64 v) :
    DP Bx w g s (⟨s.objs, s.lists, updI s.pl j v, s.gm⟩, 0) (.returned .nilIface) (W.setCell ⟨g, 12 + j, none⟩ (.int .i64 v)) := by
  have hs : Stay g w (W.setCell ⟨g, 12 + j, none⟩ (.int .i64 v)) := (Stay.of hb).set_ _ _
  refine DP.yes (O := O) (L := L) ?_ ((hx.stay hs).nums (fun i hi => ?_) hx.now.gw) hs
  · unfold StAt
    rw [heap_setCell_same W g (12 + j) _ _ _ (ha.keep hb), stC_set_pl _ _ _ _ hj]
  · show N64 (updI s.pl j v i)
    unfold updI
    split
    · exact hv
    · exact hx.now.pw i hi
theorem dp_gm {w W : World} {g : Nat} {s : StT} {O : SlT} {L : Nat → SlT} {v : Int} {j : Nat} (ha : StAt w g (stC O L s.pl s.gm)) (hx : ReadsX Bx g w (stC O L s.pl s.gm) s O L) (hb : Below w.heap.size w W) (hj : j < 7) (hv : N64 v) :
    DP Bx w g s (⟨s.objs, s.lists, s.pl, updI s.gm j v⟩, 0) (.returned .nilIface) (W.setCell ⟨g, 30 + j, none⟩ (.int .i64 v)) := by
  have hs : Stay g w (W.setCell ⟨g, 30 + j, none⟩ (.int .i64 v)) := (Stay.of hb).set_ _ _
  refine DP.yes (O := O) (L := L) ?_ ((hx.stay hs).nums hx.now.pw (fun i hi => ?_)) hs
  · unfold StAt
    rw [heap_setCell_same W g (30 + j) _ _ _ (ha.keep hb), stC_set_gm _ _ _ _ hj]
  · show N64 (updI s.gm j v i)
    unfold updI
    split
    · exact hv
    · exact hx.now.gw i hi
theorem DP.errD {w w' : World} {g : Nat} {s : StT} {r : StT × Int} {en : Ending} (h : DP Bx w g s r en w') (e : EvT) (hr : applyS s e = r) : EvDP Bx w g s e en w' := by
  subst hr
  exact h
set_option linter.unusedSimpArgs false in
set_option maxHeartbeats 0 in
theorem do_code (s : StT) (O : SlT) (L : Nat → SlT) (e : EvT) (g : Nat) (w : World) (ha : StAt w g (stC O L s.pl s.gm)) (hx : ReadsX Bx g w (stC O L s.pl s.gm) s O L) (hn : s.objs.length ≤ 1000) (hll : ∀ z < 11, (s.lists z).length ≤ 1000) (hi : EvI e) :
    Calls Try.prog 17 #[.pointer (some ⟨g, 0, none⟩), evV e] w (EvDP Bx w g s e) := by
  have hgl := ha.lt
  have HX := Lib.hid hx
  have HA := Lib.hid ha
  have HI := Lib.hid hi
  have HLL := Lib.hid hll
  have HNO := Lib.hid hn
  have hck := fun W => check_code e W
  obtain ⟨r, hr⟩ : ∃ r, r = chkE e := ⟨_, rfl⟩
  rw [← hr] at hck
  have HR := Lib.hid hr
  clear ha hx hi hll hn hr
  go_enter Try.func17, Try.ntmps17
  go_upto_region 1 with fail
  obtain ⟨w1, hw1⟩ : ∃ w1, w1 = w.alloc (.cells (evC e) 45) := ⟨_, rfl⟩
  have hrow : EvB w1 w.heap.size e := by rw [hw1]; exact heap_alloc_new _ _
  have hb1 : Below w.heap.size w w1 := by rw [hw1]; exact (Below.refl _ _).alloc (Nat.le_refl _) _
  show Code.wp _ _ _ _ (w.alloc (.cells (evC e) 45))
  rw [← hw1]
  clear hw1
  have hg1 := hrow.lt
  obtain ⟨ge, hge⟩ : ∃ g, g = w.heap.size := ⟨_, rfl⟩
  rw [← hge] at hrow hg1 ⊢
  have hne : ge ≠ g := by omega
  clear hge
  have hsE := ev_size e
  obtain ⟨es, hes⟩ : ∃ es, es = evC e := ⟨_, rfl⟩
  have HES := Lib.hid hes
  have HEE := Lib.hid (show evV e = .agg es by rw [hes]; rfl)
  rw [HEE.out] at hck
  have hrow1 : w1.heap[ge]? = some (.cells es 45 (0, 0)) := by rw [hes]; exact hrow
  rw [← hes] at hsE
  clear hes
  go_wp2_with (refine wpList_load_row rfl 45 (.tmp 3) rfl ge rfl 45 _ (0, 0) _ hrow1 Try.underlying45 rfl hsE ?_)
  refine (hck _).mono ?_
  rintro en w2 ⟨rfl, hb2⟩
  clear hck hrow1
  have hrow2 : w2.heap[ge]? = some (.cells es 45 (0, 0)) := by rw [HES.out]; exact hrow.keep hb2
  have hbw2 := keepB hb2 hb1
  clear hrow hb1 hb2
  by_cases hr0 : r = 0
  case neg =>
    have HRA := Lib.hid (show applyS s e = (sT0, r) by unfold applyS; rw [← HR.out, if_pos hr0])
    have HR0 := Lib.hid hr0
    rw [errV_err hr0]
    clear hr0
    go_wp2_with fail
    go_ret
    refine DP.errD ?_ e HRA.out
    have h := DP.no (r := (sT0, r)) HR0.out HA.out HX.out hbw2
    rw [errV_err HR0.out] at h
    exact h
  subst hr0
  rw [errV_nil]
  have hc := HR.out.symm
  have HAp := Lib.hid (applyS_ok (s := s) hc)
  have HK := Lib.hid (chkE_kind hc)
  clear hc
  have q0 : w2.cell? ⟨ge, 0, none⟩ = some (.int .i64 e.k) := (show EvB w2 ge e by rw [HES.out] at hrow2; exact hrow2).cells.1
  have HA2 := Lib.hid (HA.out.keep hbw2)
  have HX2 := Lib.hid (HX.out.stay (Stay.of hbw2))
  go_upto_region 6 with fail
  rcases HK.out with ⟨hk, h1⟩ | ⟨hk, h1⟩ | ⟨hk, h1⟩ | ⟨hk, h1⟩ | ⟨hk, h1⟩ | ⟨hk, h1⟩
  · rw [hk] at q0
    have HKe := Lib.hid (show applyS s e = ap0 s e from by rw [HAp.out, hk]; rfl)
    have H1 := Lib.hid h1
    clear h1 hk
    have hct := make_code s O L g e w2 HA2.out HX2.out HNO.out HLL.out HI.out
    rw [HEE.out] at hct
    go_wp2_with (refine wpList_load_row rfl 45 (.tmp 3) rfl ge rfl 45 _ (0, 0) _ hrow2 Try.underlying45 rfl hsE ?_)
    refine hct.mono ?_
    rintro en w3 ⟨O3, L3, rfl, ha3, hx3, hs3⟩
    clear hct
    go_wp2_with fail
    go_ret
    exact DP.errD ⟨O3, L3, rfl, ha3, hx3, (Stay.of hbw2).trans hs3⟩ e HKe.out
  · rw [hk] at q0
    have HKe := Lib.hid (show applyS s e = ap5 s e from by rw [HAp.out, hk]; rfl)
    have H1 := Lib.hid h1
    clear h1 hk
    have hct := unmake_code s O L g e w2 HA2.out HX2.out HNO.out HLL.out HI.out
    rw [HEE.out] at hct
    go_wp2_with (refine wpList_load_row rfl 45 (.tmp 3) rfl ge rfl 45 _ (0, 0) _ hrow2 Try.underlying45 rfl hsE ?_)
    refine hct.mono ?_
    rintro en w3 ⟨O3, L3, rfl, ha3, hx3, hs3⟩
    clear hct
    go_wp2_with fail
    go_ret
    exact DP.errD ⟨O3, L3, rfl, ha3, hx3, (Stay.of hbw2).trans hs3⟩ e HKe.out
  · rw [hk] at q0
    have HKe := Lib.hid (show applyS s e = ap1 s e from by rw [HAp.out, hk]; rfl)
    have H1 := Lib.hid h1
    clear h1 hk
    have hct := move_obj_code s O L g e w2 HA2.out HX2.out HNO.out HLL.out HI.out H1.out.1 ⟨H1.out.2.1, H1.out.2.2.1⟩ H1.out.2.2.2.1 ⟨H1.out.2.2.2.2.1, H1.out.2.2.2.2.2.1⟩ H1.out.2.2.2.2.2.2
    rw [HEE.out] at hct
    go_wp2_with (refine wpList_load_row rfl 45 (.tmp 3) rfl ge rfl 45 _ (0, 0) _ hrow2 Try.underlying45 rfl hsE ?_)
    refine hct.mono ?_
    rintro en w3 ⟨O3, L3, rfl, ha3, hx3, hs3⟩
    clear hct
    go_wp2_with fail
    go_ret
    exact DP.errD ⟨O3, L3, rfl, ha3, hx3, (Stay.of hbw2).trans hs3⟩ e HKe.out
  · rw [hk] at q0
    have HKe := Lib.hid (show applyS s e = ap2 s e from by rw [HAp.out, hk]; rfl)
    have H1 := Lib.hid h1
    clear h1 hk
    have hct := seto_code s O L g e w2 HA2.out HX2.out HNO.out HI.out H1.out.2.1 ⟨H1.out.2.2.1, H1.out.2.2.2.1⟩
    rw [HEE.out] at hct
    go_wp2_with (refine wpList_load_row rfl 45 (.tmp 3) rfl ge rfl 45 _ (0, 0) _ hrow2 Try.underlying45 rfl hsE ?_)
    refine hct.mono ?_
    rintro en w3 ⟨O3, L3, rfl, ha3, hx3, hs3⟩
    clear hct
    go_wp2_with fail
    go_ret
    exact DP.errD ⟨O3, L3, rfl, ha3, hx3, (Stay.of hbw2).trans hs3⟩ e HKe.out
  · rw [hk] at q0
    have HKe := Lib.hid (show applyS s e = ap3 s e from by rw [HAp.out, hk]; rfl)
    obtain ⟨a, hia⟩ : ∃ i : Nat, e.a = (i : Int) := ⟨e.a.toNat, by omega⟩
    obtain ⟨b, hib⟩ : ∃ i : Nat, e.b = (i : Int) := ⟨e.b.toNat, by omega⟩
    have g0 : (0 : Int) ≤ (a : Int) := by omega
    have g1 : (a : Int) < 2 := by omega
    have g2 : (0 : Int) ≤ (b : Int) := by omega
    have g3 : (b : Int) < 9 := by omega
    have hj : a * 9 + b < 18 := by omega
    have HRow := Lib.hid (show EvB w2 ge e by rw [HES.out] at hrow2; exact hrow2)
    have hlt2 := HRow.out.lt
    obtain ⟨_, p1, p2, _, _, _⟩ := HRow.out.cells
    rw [hia] at p1
    rw [hib] at p2
    have HIA := Lib.hid hia
    have HIB := Lib.hid hib
    clear h1 hk hia hib
    have p1b : ∀ W, Stay g w2 W → W.cell? ⟨ge, 1, none⟩ = some (.int .i64 (a : Int)) := fun W hW => (World.cell?_of_block (hW.block ge hlt2 hne)).trans p1
    have p2b : ∀ W, Stay g w2 W → W.cell? ⟨ge, 2, none⟩ = some (.int .i64 (b : Int)) := fun W hW => (World.cell?_of_block (hW.block ge hlt2 hne)).trans p2
    clear p1 p2
    go_upto_region 16 with fail
    refine region_stay g (by kernel_rfl) (fun hHeld => ?_)
    refine wpAnyH_take (i := 0) (v := ?_) rfl (by kernel_rfl) (by kernel_rfl) (by kernel_rfl) (fun _ _ _ h => h) (Or.inl ⟨by rfl, ?_⟩) hHeld ?_
    rotate_left
    · (intro w hSw; go_simp; (try with_reducible rfl))
    simp only [Act.put, List.getElem_toArray, List.getElem_cons_zero, List.getElem_cons_succ, List.setIfInBounds_toArray, List.set_cons_zero, List.set_cons_succ]
    refine wpAnyH_take (i := 1) (v := ?_) rfl (by kernel_rfl) (by kernel_rfl) (by kernel_rfl) (fun _ _ _ h => h) (Or.inl ⟨by rfl, ?_⟩) hHeld ?_
    rotate_left
    · (intro w hSw; go_simp; (try with_reducible rfl))
    simp only [Act.put, List.getElem_toArray, List.getElem_cons_zero, List.getElem_cons_succ, List.setIfInBounds_toArray, List.set_cons_zero, List.set_cons_succ]
    refine wpAnyH_take (i := 2) (v := ?_) rfl (by kernel_rfl) (by kernel_rfl) (by kernel_rfl) (fun _ _ _ h => h) (Or.inl ⟨by rfl, ?_⟩) hHeld ?_
    rotate_left
    · (intro w hSw; go_simp; (try with_reducible rfl))
    simp only [Act.put, List.getElem_toArray, List.getElem_cons_zero, List.getElem_cons_succ, List.setIfInBounds_toArray, List.set_cons_zero, List.set_cons_succ]
    refine wpAnyH_take (i := 3) (v := ?_) rfl (by kernel_rfl) (by kernel_rfl) (by kernel_rfl) (fun _ _ _ h => h) (Or.inl ⟨by rfl, ?_⟩) hHeld ?_
    rotate_left
    · (intro w hSw; go_simp; (try with_reducible rfl))
    simp only [Act.put, List.getElem_toArray, List.getElem_cons_zero, List.getElem_cons_succ, List.setIfInBounds_toArray, List.set_cons_zero, List.set_cons_succ]
    refine wpAnyH_take (i := 4) (v := ?_) rfl (by kernel_rfl) (by kernel_rfl) (by kernel_rfl) (fun _ _ _ h => h) (Or.inl ⟨by rfl, ?_⟩) hHeld ?_
    rotate_left
    · (intro w hSw; go_simp; (try with_reducible rfl))
    simp only [Act.put, List.getElem_toArray, List.getElem_cons_zero, List.getElem_cons_succ, List.setIfInBounds_toArray, List.set_cons_zero, List.set_cons_succ]
    refine wpAnyH_take (i := 5) (v := ?_) rfl (by kernel_rfl) (by kernel_rfl) (by kernel_rfl) (fun _ _ _ h => h) (Or.inl ⟨by rfl, ?_⟩) hHeld ?_
    rotate_left
    · (intro w hSw; go_simp; (try with_reducible rfl))
    simp only [Act.put, List.getElem_toArray, List.getElem_cons_zero, List.getElem_cons_succ, List.setIfInBounds_toArray, List.set_cons_zero, List.set_cons_succ]
    refine wpAnyH_take (i := 6) (v := ?_) rfl (by kernel_rfl) (by kernel_rfl) (by kernel_rfl) (fun _ _ _ h => h) (Or.inl ⟨by rfl, ?_⟩) hHeld ?_
    rotate_left
    · (intro w hSw; go_simp; (try with_reducible rfl))
    simp only [Act.put, List.getElem_toArray, List.getElem_cons_zero, List.getElem_cons_succ, List.setIfInBounds_toArray, List.set_cons_zero, List.set_cons_succ]
    refine wpAnyH_take (i := 7) (v := ?_) rfl (by kernel_rfl) (by kernel_rfl) (by kernel_rfl) (fun _ _ _ h => h) (Or.inl ⟨by rfl, ?_⟩) hHeld ?_
    rotate_left
    · (intro w hSw; go_simp; (try with_reducible rfl))
    simp only [Act.put, List.getElem_toArray, List.getElem_cons_zero, List.getElem_cons_succ, List.setIfInBounds_toArray, List.set_cons_zero, List.set_cons_succ]
    refine wpAnyH_take (i := 8) (v := ?_) rfl (by kernel_rfl) (by kernel_rfl) (by kernel_rfl) (fun _ _ _ h => h) (Or.inl ⟨by rfl, ?_⟩) hHeld ?_
    rotate_left
    · (intro w hSw; go_simp; (try with_reducible rfl))
    simp only [Act.put, List.getElem_toArray, List.getElem_cons_zero, List.getElem_cons_succ, List.setIfInBounds_toArray, List.set_cons_zero, List.set_cons_succ]
    refine wpAnyH_take (i := 9) (v := .agg es) rfl (by kernel_rfl) (by kernel_rfl) (by kernel_rfl) (fun _ _ _ h => h) (yields_ev (by rfl) (.tmp 3) rfl ge rfl es (fun W hW => by rw [HES.out]; exact (hW.block ge hlt2 hne).trans HRow.out) (by rw [HES.out]; exact ev_size e)) hHeld ?_
    simp only [Act.put, List.getElem_toArray, List.getElem_cons_zero, List.getElem_cons_succ, List.setIfInBounds_toArray, List.set_cons_zero, List.set_cons_succ]
    obtain ⟨x, hx⟩ : ∃ x, x = s.pl (a * 9 + b) := ⟨_, rfl⟩
    have hd2 : Below w2.heap.size w2 w2.drew := (Below.refl _ _).drew
    have hc : w2.drew.cell? ⟨g, 12 + (a * 9 + b), none⟩ = some (.int .i64 x) := by rw [hx]; exact ((HA2.out.keep hd2).cell _).trans (stC_pl _ _ _ _ hj)
    have hf := frozen_of_row w2.drew g (12 + (a * 9 + b)) _ _ (HA2.out.keep hd2)
    have hsc := set_code g (12 + (a * 9 + b)) x e w2.drew hc hf (HA2.out.keep hd2).lt
    rw [HEE.out, show 12 + (a * 9 + b) = 12 + a * 9 + b by omega] at hsc
    have HXx := Lib.hid hx
    clear hx hc hf p1b p2b
    refine wpAnyH_ready (rs := [10]) (by kernel_rfl) (by simp) ?_
    refine AllReadyH.cons rfl (fun K hK => ?_) AllReadyH.nil
    simp only [List.getElem_toArray, List.getElem_cons_zero, List.getElem_cons_succ]
    go_simp
    refine hsc.mono ?_
    rintro en w4 ⟨w3, hb3, (⟨hxc, rfl, rfl⟩ | ⟨hxc, rfl, rfl⟩)⟩
    · clear hsc
      have hbw3 := keepB hb3 (keepB hd2 hbw2)
      have HF := Lib.hid (show EvDP Bx w g s e (.returned .nilIface) (w3.setCell ⟨g, 12 + (a * 9 + b), none⟩ (.int .i64 e.d)) from
        DP.errD (dp_pl HA.out HX.out hbw3 hj HI.out.d) e (by
          rw [HKe.out]
          unfold ap3
          rw [HIA.out, HIB.out, Int.toNat_natCast, Int.toNat_natCast, if_neg (by rw [← HXx.out]; exact fun h => h hxc)]))
      clear hxc
      rw [show 12 + (a * 9 + b) = 12 + a * 9 + b by omega] at HF
      refine hK.out _ _ ((hHeld.then hb3).set_ _ _) (fun _ => ?_)
      clear hK K
      try simp only [Act.put, List.setIfInBounds_toArray, List.set_cons_zero, List.set_cons_succ]
      have hHeld := (hHeld.then hb3).set_ (12 + a * 9 + b) (.int .i64 e.d)
      refine wpAnyH_take (i := 11) (v := ?_) rfl (by kernel_rfl) (by kernel_rfl) (by kernel_rfl) (fun _ _ _ h => h) (Or.inl ⟨by rfl, ?_⟩) hHeld ?_
      rotate_left
      · (intro w hSw; go_simp; (try with_reducible rfl))
      simp only [Act.put, List.getElem_toArray, List.getElem_cons_zero, List.getElem_cons_succ, List.setIfInBounds_toArray, List.set_cons_zero, List.set_cons_succ]
      refine wpAnyH_done (by kernel_rfl) ?_ _
      go_wp2_with fail
      go_ret
      exact HF.out
    · clear hsc
      have hbw3 := keepB hb3 (keepB hd2 hbw2)
      have HF := Lib.hid (show EvDP Bx w g s e (.returned (errV 20)) w4 from
        DP.errD (DP.no (r := (sT0, 20)) (by decide) HA.out HX.out hbw3) e (by
          rw [HKe.out]
          unfold ap3
          rw [HIA.out, HIB.out, Int.toNat_natCast, Int.toNat_natCast, if_pos (by rw [← HXx.out]; exact hxc)]))
      clear hxc
      refine hK.out _ _ (hHeld.then hb3) (fun _ => ?_)
      clear hK K
      try simp only [Act.put, List.setIfInBounds_toArray, List.set_cons_zero, List.set_cons_succ]
      have hHeld := hHeld.then hb3
      refine wpAnyH_take (i := 11) (v := ?_) rfl (by kernel_rfl) (by kernel_rfl) (by kernel_rfl) (fun _ _ _ h => h) (Or.inl ⟨by rfl, ?_⟩) hHeld ?_
      rotate_left
      · (intro w hSw; go_simp; (try with_reducible rfl))
      simp only [Act.put, List.getElem_toArray, List.getElem_cons_zero, List.getElem_cons_succ, List.setIfInBounds_toArray, List.set_cons_zero, List.set_cons_succ]
      refine wpAnyH_done (by kernel_rfl) ?_ _
      go_wp2_with fail
      go_ret
      exact HF.out
  · rw [hk] at q0
    have HKe := Lib.hid (show applyS s e = ap4 s e from by rw [HAp.out, hk]; rfl)
    obtain ⟨b, hib⟩ : ∃ i : Nat, e.b = (i : Int) := ⟨e.b.toNat, by omega⟩
    have g2 : (0 : Int) ≤ (b : Int) := by omega
    have g3 : (b : Int) < 7 := by omega
    have hj : b < 7 := by omega
    have HRow := Lib.hid (show EvB w2 ge e by rw [HES.out] at hrow2; exact hrow2)
    have hlt2 := HRow.out.lt
    obtain ⟨_, _, p2, _, _, _⟩ := HRow.out.cells
    rw [hib] at p2
    have HIB := Lib.hid hib
    clear h1 hk hib
    have p2b : ∀ W, Stay g w2 W → W.cell? ⟨ge, 2, none⟩ = some (.int .i64 (b : Int)) := fun W hW => (World.cell?_of_block (hW.block ge hlt2 hne)).trans p2
    clear p2
    go_upto_region 17 with fail
    refine region_stay g (by kernel_rfl) (fun hHeld => ?_)
    refine wpAnyH_take (i := 0) (v := ?_) rfl (by kernel_rfl) (by kernel_rfl) (by kernel_rfl) (fun _ _ _ h => h) (Or.inl ⟨by rfl, ?_⟩) hHeld ?_
    rotate_left
    · (intro w hSw; go_simp; (try with_reducible rfl))
    simp only [Act.put, List.getElem_toArray, List.getElem_cons_zero, List.getElem_cons_succ, List.setIfInBounds_toArray, List.set_cons_zero, List.set_cons_succ]
    refine wpAnyH_take (i := 1) (v := ?_) rfl (by kernel_rfl) (by kernel_rfl) (by kernel_rfl) (fun _ _ _ h => h) (Or.inl ⟨by rfl, ?_⟩) hHeld ?_
    rotate_left
    · (intro w hSw; go_simp; (try with_reducible rfl))
    simp only [Act.put, List.getElem_toArray, List.getElem_cons_zero, List.getElem_cons_succ, List.setIfInBounds_toArray, List.set_cons_zero, List.set_cons_succ]
    refine wpAnyH_take (i := 2) (v := ?_) rfl (by kernel_rfl) (by kernel_rfl) (by kernel_rfl) (fun _ _ _ h => h) (Or.inl ⟨by rfl, ?_⟩) hHeld ?_
    rotate_left
    · (intro w hSw; go_simp; (try with_reducible rfl))
    simp only [Act.put, List.getElem_toArray, List.getElem_cons_zero, List.getElem_cons_succ, List.setIfInBounds_toArray, List.set_cons_zero, List.set_cons_succ]
    refine wpAnyH_take (i := 3) (v := ?_) rfl (by kernel_rfl) (by kernel_rfl) (by kernel_rfl) (fun _ _ _ h => h) (Or.inl ⟨by rfl, ?_⟩) hHeld ?_
    rotate_left
    · (intro w hSw; go_simp; (try with_reducible rfl))
    simp only [Act.put, List.getElem_toArray, List.getElem_cons_zero, List.getElem_cons_succ, List.setIfInBounds_toArray, List.set_cons_zero, List.set_cons_succ]
    refine wpAnyH_take (i := 4) (v := ?_) rfl (by kernel_rfl) (by kernel_rfl) (by kernel_rfl) (fun _ _ _ h => h) (Or.inl ⟨by rfl, ?_⟩) hHeld ?_
    rotate_left
    · (intro w hSw; go_simp; (try with_reducible rfl))
    simp only [Act.put, List.getElem_toArray, List.getElem_cons_zero, List.getElem_cons_succ, List.setIfInBounds_toArray, List.set_cons_zero, List.set_cons_succ]
    refine wpAnyH_take (i := 5) (v := ?_) rfl (by kernel_rfl) (by kernel_rfl) (by kernel_rfl) (fun _ _ _ h => h) (Or.inl ⟨by rfl, ?_⟩) hHeld ?_
    rotate_left
    · (intro w hSw; go_simp; (try with_reducible rfl))
    simp only [Act.put, List.getElem_toArray, List.getElem_cons_zero, List.getElem_cons_succ, List.setIfInBounds_toArray, List.set_cons_zero, List.set_cons_succ]
    refine wpAnyH_take (i := 6) (v := .agg es) rfl (by kernel_rfl) (by kernel_rfl) (by kernel_rfl) (fun _ _ _ h => h) (yields_ev (by rfl) (.tmp 3) rfl ge rfl es (fun W hW => by rw [HES.out]; exact (hW.block ge hlt2 hne).trans HRow.out) (by rw [HES.out]; exact ev_size e)) hHeld ?_
    simp only [Act.put, List.getElem_toArray, List.getElem_cons_zero, List.getElem_cons_succ, List.setIfInBounds_toArray, List.set_cons_zero, List.set_cons_succ]
    obtain ⟨x, hx⟩ : ∃ x, x = s.gm b := ⟨_, rfl⟩
    have hd2 : Below w2.heap.size w2 w2.drew := (Below.refl _ _).drew
    have hc : w2.drew.cell? ⟨g, 30 + b, none⟩ = some (.int .i64 x) := by rw [hx]; exact ((HA2.out.keep hd2).cell _).trans (stC_gm _ _ _ _ hj)
    have hf := frozen_of_row w2.drew g (30 + b) _ _ (HA2.out.keep hd2)
    have hsc := set_code g (30 + b) x e w2.drew hc hf (HA2.out.keep hd2).lt
    rw [HEE.out] at hsc
    have HXx := Lib.hid hx
    clear hx hc hf p2b
    refine wpAnyH_ready (rs := [7]) (by kernel_rfl) (by simp) ?_
    refine AllReadyH.cons rfl (fun K hK => ?_) AllReadyH.nil
    simp only [List.getElem_toArray, List.getElem_cons_zero, List.getElem_cons_succ]
    go_simp
    refine hsc.mono ?_
    rintro en w4 ⟨w3, hb3, (⟨hxc, rfl, rfl⟩ | ⟨hxc, rfl, rfl⟩)⟩
    · clear hsc
      have hbw3 := keepB hb3 (keepB hd2 hbw2)
      have HF := Lib.hid (show EvDP Bx w g s e (.returned .nilIface) (w3.setCell ⟨g, 30 + b, none⟩ (.int .i64 e.d)) from
        DP.errD (dp_gm HA.out HX.out hbw3 hj HI.out.d) e (by
          rw [HKe.out]
          unfold ap4
          rw [HIB.out, Int.toNat_natCast, if_neg (by rw [← HXx.out]; exact fun h => h hxc)]))
      clear hxc
      refine hK.out _ _ ((hHeld.then hb3).set_ _ _) (fun _ => ?_)
      clear hK K
      try simp only [Act.put, List.setIfInBounds_toArray, List.set_cons_zero, List.set_cons_succ]
      have hHeld := (hHeld.then hb3).set_ (30 + b) (.int .i64 e.d)
      refine wpAnyH_take (i := 8) (v := ?_) rfl (by kernel_rfl) (by kernel_rfl) (by kernel_rfl) (fun _ _ _ h => h) (Or.inl ⟨by rfl, ?_⟩) hHeld ?_
      rotate_left
      · (intro w hSw; go_simp; (try with_reducible rfl))
      simp only [Act.put, List.getElem_toArray, List.getElem_cons_zero, List.getElem_cons_succ, List.setIfInBounds_toArray, List.set_cons_zero, List.set_cons_succ]
      refine wpAnyH_done (by kernel_rfl) ?_ _
      go_wp2_with fail
      go_ret
      exact HF.out
    · clear hsc
      have hbw3 := keepB hb3 (keepB hd2 hbw2)
      have HF := Lib.hid (show EvDP Bx w g s e (.returned (errV 20)) w4 from
        DP.errD (DP.no (r := (sT0, 20)) (by decide) HA.out HX.out hbw3) e (by
          rw [HKe.out]
          unfold ap4
          rw [HIB.out, Int.toNat_natCast, if_pos (by rw [← HXx.out]; exact hxc)]))
      clear hxc
      refine hK.out _ _ (hHeld.then hb3) (fun _ => ?_)
      clear hK K
      try simp only [Act.put, List.setIfInBounds_toArray, List.set_cons_zero, List.set_cons_succ]
      have hHeld := hHeld.then hb3
      refine wpAnyH_take (i := 8) (v := ?_) rfl (by kernel_rfl) (by kernel_rfl) (by kernel_rfl) (fun _ _ _ h => h) (Or.inl ⟨by rfl, ?_⟩) hHeld ?_
      rotate_left
      · (intro w hSw; go_simp; (try with_reducible rfl))
      simp only [Act.put, List.getElem_toArray, List.getElem_cons_zero, List.getElem_cons_succ, List.setIfInBounds_toArray, List.set_cons_zero, List.set_cons_succ]
      refine wpAnyH_done (by kernel_rfl) ?_ _
      go_wp2_with fail
      go_ret
      exact HF.out
end Go.Proofs.Ytmneajmedopheaa
namespace Go.Proofs.Ytmneajmedopheaa
open Go.RowKit Ex
attribute [local go_sem] arr_get
set_option maxRecDepth 100000
set_option maxHeartbeats 0 in
theorem copyC_own (s : StT) (O : SlT) (L : Nat → SlT) (cs : Array Value) (w : World) (h : ReadsS w.heap.size w cs s O L) (hn : s.objs.length ≤ 1000000) (hll : ∀ z < 11, (s.lists z).length ≤ 1000000) :
    Calls Try.prog 16 #[.agg cs] w fun e w' => ∃ cs', e = .returned (.agg cs') ∧ CopyO w s cs' w' := by
  go_enter Try.func16, Try.ntmps16
  have hcs := h.cs
  have c0 : cs[0]? = some (.slice O.A O.n O.c) := by rw [hcs]; exact stC_objs _ _ _ _
  have hOn := h.on
  have hO := h.o
  have hsz : (Try.prog.info? 29).map (·.size) = some cs.size := by rw [h.size]; exact size37
  have hone := h.one
  have H := Lib.hid h
  clear h
  obtain ⟨A, n, c⟩ := O
  simp only at c0 hOn hO
  have HC := Lib.hid hcs
  clear hcs
  subst hOn
  obtain ⟨g0, hg0⟩ : ∃ g, g = w.heap.size := ⟨_, rfl⟩
  go_upto_region 1 with fail
  have hz := st0_is
  have hb1 : Below (w.alloc (.cells cs 29)).heap.size (w.alloc (.cells cs 29)) ((w.alloc (.cells cs 29)).alloc (.cells st0 29)) := (Below.refl _ _).alloc (Nat.le_refl _) _
  have hb2 : Below w.heap.size w ((w.alloc (.cells cs 29)).alloc (.cells st0 29)) := keepB hb1 ((Below.refl _ _).alloc (Nat.le_refl _) _)
  have hs1 : StAt ((w.alloc (.cells cs 29)).alloc (.cells st0 29)) w.heap.size cs := (StAt.new w cs).keep hb1
  have hr1 : StAt ((w.alloc (.cells cs 29)).alloc (.cells st0 29)) (w.heap.size + 1) st0 := by
    have h := StAt.new (w.alloc (.cells cs 29)) st0
    simpa using h
  obtain ⟨r, hr⟩ : ∃ r, r = w.heap.size + 1 := ⟨_, rfl⟩
  obtain ⟨w2, hw2⟩ : ∃ w2, w2 = (w.alloc (.cells cs 29)).alloc (.cells st0 29) := ⟨_, rfl⟩
  rw [st0_is]
  rw [← hw2, ← hr] at hr1
  rw [← hw2] at hs1 hb2
  rw [← hw2, ← hr]
  have hrl : r < w2.heap.size := hr1.lt
  have hrw : w.heap.size ≤ r := by omega
  clear hb1 hw2 hr
  have hnew : (w2.alloc (.cells st0 29)).heap[w2.heap.size]? = some (.cells st0 29 (0, 0)) := heap_alloc_new _ _
  have hs0 : st0.size = cs.size := by rw [H.out.size, show st0.size = 37 from stC_size _ _ _ _]
  go_upto_region 2 with (first
    | (refine wpList_load_row rfl 29 (.tmp 1) rfl w.heap.size rfl 29 _ (0, 0) _ hs1 Try.underlying29 rfl hsz ?_)
    | (refine wpList_store_row rfl 29 (.tmp 3) (.tmp 6) rfl w2.heap.size _ rfl rfl 29 st0 hnew hsz hs0 hone ?_))
  have hb3 : Below w2.heap.size w2 ((w2.alloc (.cells st0 29)).setRow w2.heap.size cs) := below_setRow ((Below.refl _ _).alloc (Nat.le_refl _) _) _ _ (Nat.le_refl _)
  have hs3 := hs1.keep hb3
  have hr3 := hr1.keep hb3
  have hb3w := keepB hb3 hb2
  have hg3 : StAt ((w2.alloc (.cells st0 29)).setRow w2.heap.size cs) w2.heap.size cs := setRow_heap _ _ _ _ _ _ hnew
  have hz3 : ((w2.alloc (.cells st0 29)).setRow w2.heap.size cs).heap.size = w2.heap.size + 1 := by simp
  obtain ⟨g, hg⟩ : ∃ g, g = w2.heap.size := ⟨_, rfl⟩
  obtain ⟨w3, hw3⟩ : ∃ w3, w3 = (w2.alloc (.cells st0 29)).setRow w2.heap.size cs := ⟨_, rfl⟩
  rw [← hw3] at hs3 hr3 hb3w hg3 hz3
  rw [← hw3]
  rw [← hg] at hg3 hz3 hrl
  rw [← hg]
  clear hb3 hw3 hnew hg hb2 hs1 hr1 w2 hsz hs0 hone hz
  have hwg : w.heap.size ≤ g := by omega
  have c3 := (hs3.cell 0).trans c0
  have hO3 := hO.below hb3w
  have hb34 : Below w3.heap.size w3 w3 := Below.refl _ _
  go_upto_region 3 with (at_builtin; refine wpList_appOw rfl _ _ rfl w3.heap.size none 0 rfl (obj_nil _ _) _ A s.objs.length c s.objs rfl hO3 rfl hn (Nat.le_refl _) ?_; intro A4 c4 w4 ho4 hg4; have hb4 : Below w3.heap.size w3 w4 := hb34.grown hg4 (Nat.le_refl _) (fun g hh => by cases hh); have hf4 := frozen_of_row w4 g 0 _ _ (hg3.keep hb4); have hc4 := ((hg3.keep hb4).cell 0).trans c0)
  have HCp := Lib.hid (show CpO w g (g + 1) s L ⟨A4, s.objs.length, c4⟩ L 0 (w4.setCell ⟨g, 0, none⟩ (.slice A4 s.objs.length c4)) from by
    have ha := hg3.keep hb4
    rw [HC.out] at ha
    rw [hz3] at ho4
    exact CpO.start (keepB hb4 hb3w) ha hwg (Nat.lt_succ_self _) rfl ho4)
  have HR := Lib.hid (show StAt (w4.setCell ⟨g, 0, none⟩ (.slice A4 s.objs.length c4)) r st0 from (heap_setCell_other w4 ⟨g, 0, none⟩ r _ (by simp; omega)).trans (hr3.keep hb4))
  have hra : StAt (w4.setCell ⟨g, 0, none⟩ (.slice A4 s.objs.length c4)) w.heap.size cs := (heap_setCell_other w4 ⟨g, 0, none⟩ w.heap.size _ (by simp; omega)).trans (hs3.keep hb4)
  obtain ⟨w5, hw5⟩ : ∃ w5, w5 = w4.setCell ⟨g, 0, none⟩ (.slice A4 s.objs.length c4) := ⟨_, rfl⟩
  obtain ⟨O4, hO4⟩ : ∃ O4 : SlT, O4 = ⟨A4, s.objs.length, c4⟩ := ⟨_, rfl⟩
  rw [← hw5, ← hO4] at HCp
  rw [← hw5] at HR hra
  rw [← hw5]
  clear hw5 hO4 hf4 hc4 hb4 hg4 ho4 w4 hb34 hO3 c3 hs3 hr3 hb3w hg3 hz3 w3
  rw [HC.out] at hra
  have hra := hra.ls
  go_upto_region 4 with (refine load_lists rfl (.tmp 11) rfl w.heap.size 1 rfl (sl11 L) (sl11_size L) hra ?_)
  clear hra
  go_loopw [13] (fun i wr => ∃ (z : Nat) (L4 : Nat → SlT), i = .int .i64 ((z : Nat) : Int) ∧ z ≤ 11 ∧ Hid (CpO w g (g + 1) s L O4 L4 z wr) ∧ Hid (StAt wr r st0)) (fun i _ => 11 - (intOf i).toNat)
  case atStart => exact ⟨0, L, rfl, by omega, HCp, HR⟩
  case round =>
    clear HCp HR
    obtain ⟨z, L4, rfl, hz, HP, HR⟩ := hrel
    by_cases hlt : z < 11
    · have hd : decide ((z : Int) < 11) = true := by simp; omega
      obtain ⟨A2, n2, c2, hix, _, hN0⟩ := list_at H.out hlt
      have hN := hN0.below HP.out.b
      have hln := hN0.len
      have hnm : n2 ≤ 1000000 := hln ▸ hll z hlt
      have p0 : (0 : Int) ≤ (z : Int) := by omega
      have p1 : (z : Int) < 11 := by omega
      have hg0 := HP.out.a
      have hbr : Below wr.heap.size wr wr := Below.refl _ _
      have hgr := HP.out.a.lt
      have how : Own .i64 3 wr wr.heap.size none 0 0 [] := Own.nil wr
      obtain ⟨i0, hi, hz0, hz1, hz2⟩ := info_parts st_info_int
      have hbs : wr.heap.size ≤ wr.heap.size := Nat.le_refl _
      clear hN0 hln
      go_wp2_with (at_builtin; refine wpList_app rfl _ _ _ rfl .i64 wr.heap.size 3 i0 _ 8 Try.underlying23 hi hz0 hz1 hz2 rfl none 0 0 [] rfl how w.heap.size A2 n2 c2 (s.lists z) rfl hN (by omega) (by omega) (Nat.le_refl _) ?_; intro A5 c5 w5 ho5 hg5; have hb5 : Below wr.heap.size wr w5 := hbr.grown hg5 (Nat.le_refl _) (fun g hh => by cases hh); have hf5 := frozen_of_row w5 g (1 + z) _ _ (hg0.keep hb5); have hc5 := ((hg0.keep hb5).cell (1 + z)).trans (stC_list _ _ _ _ hlt); rw [Nat.zero_add, List.nil_append] at ho5)
      have HP2 := Lib.hid (show CpO w g (g + 1) s L O4 (updS L4 z ⟨A5, n2, c5⟩) (z + 1) (w5.setCell ⟨g, 1 + z, none⟩ (.slice A5 n2 c5)) from (HP.out.keep hb5).next hlt hwg (Nat.lt_succ_self _) (ho5.base_le (show g + 1 ≤ wr.heap.size by omega)) (fun y hy j hj h2 => by
        have h3 := (ho5.2.lt j h2).1
        have h4 := ((HP.out.l y hy).2.lt j hj).2
        omega))
      have HR2 := Lib.hid (show StAt (w5.setCell ⟨g, 1 + z, none⟩ (.slice A5 n2 c5)) r st0 from (heap_setCell_other w5 ⟨g, 1 + z, none⟩ r _ (by simp; omega)).trans (HR.out.keep hb5))
      clear hf5 hc5 hb5 hg5 ho5 hi hz0 hz1 hz2 how
      go_roundw
      case rel => exact ⟨z + 1, _, by go_num, by omega, HP2, HR2⟩
      case measure => simp [intOf]; omega
    · obtain rfl : z = 11 := by omega
      have hg9 := HP.out.a
      have hr9 := HR.out
      have HZ := Lib.hid (HP.out.copy hrw (by omega))
      obtain ⟨cs9, hcs9⟩ : ∃ cs9, cs9 = stC O4 L4 s.pl s.gm := ⟨_, rfl⟩
      have hsz9 : (Try.prog.info? 29).map (·.size) = some cs9.size := by rw [hcs9, stC_size]; exact size37
      have hs9 : st0.size = cs9.size := by rw [hcs9, stC_size, show st0.size = 37 from stC_size _ _ _ _]
      have hone9 : cs9.all (·.oneCell') = true := by rw [hcs9]; exact stC_one _ _ _ _
      rw [← hcs9] at HZ hg9
      clear hcs9 HP HR
      go_wp2_with (first
        | (refine wpList_load_row rfl 29 (.tmp 3) rfl g rfl 29 _ (0, 0) _ hg9 Try.underlying29 rfl hsz9 ?_)
        | (refine wpList_store_row rfl 29 (.tmp 2) (.tmp 23) rfl r _ rfl rfl 29 st0 hr9 hsz9 hs9 hone9 ?_))
      refine bodyPost_ret (v := .agg cs9) ?_ rfl ⟨cs9, rfl, HZ.out⟩
      exact results_cell_row (ty := 29) (p := 2) (by kernel_rfl) _ _ r 29 _ (0, 0) _ rfl (setRow_heap _ _ _ _ _ _ hr9) Try.underlying29 rfl hsz9
end Go.Proofs.Ytmneajmedopheaa
