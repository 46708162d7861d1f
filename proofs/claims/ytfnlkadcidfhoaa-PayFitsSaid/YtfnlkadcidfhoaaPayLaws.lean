/- Layer 5: the laws' walks, over what the calls answer: alive, PayPays, PayWays. -/
import Derived.Test.YtfnlkadcidfhoaaPaySaid
namespace Go.Proofs.Ytfnlkadcidfhoaa
open Go.RowKit Mx Yx
attribute [local go_sem] arr_get
def aP : Nat → Int := updI (updI (updI zeroC 0 2) 1 1) 5 2
def aC : Nat → Int := updI (updI zeroC 0 1) 5 2
def aR : Nat → Int := updI (updI zeroC 0 1) 1 1
def aQ : Nat → Int := updI (updI (updI aC 5 0) 5 ((updI aC 5 0) 5 + 1)) 5 ((updI (updI aC 5 0) 5 ((updI aC 5 0) 5 + 1)) 5 + 1)
theorem lit6 (f : Nat → Int) : #[Value.int .i64 (f 0), Value.int .i64 (f 1), Value.int .i64 (f 2), Value.int .i64 (f 3), Value.int .i64 (f 4), Value.int .i64 (f 5)] = arr .i64 6 f := by
  apply Array.ext
  · simp [arr]
  · intro i h1 h2
    simp at h1
    have hc : i = 0 ∨ i = 1 ∨ i = 2 ∨ i = 3 ∨ i = 4 ∨ i = 5 := by omega
    rcases hc with rfl | rfl | rfl | rfl | rfl | rfl <;> simp [arr]
theorem lit_p : #[Value.int .i64 2, Value.int .i64 1, Value.int .i64 0, Value.int .i64 0, Value.int .i64 0, Value.int .i64 2] = arr .i64 6 aP := lit6 aP
theorem lit_c : #[Value.int .i64 1, Value.int .i64 0, Value.int .i64 0, Value.int .i64 0, Value.int .i64 0, Value.int .i64 2] = arr .i64 6 aC := lit6 aC
theorem lit_r : #[Value.int .i64 1, Value.int .i64 1, Value.int .i64 0, Value.int .i64 0, Value.int .i64 0, Value.int .i64 0] = arr .i64 6 aR := lit6 aR
theorem aR_set (j : Nat) (hj : aR j = 0) : (arr .i64 6 aR).setIfInBounds j (.int .i64 0) = arr .i64 6 aR := by
  rw [arr_set, ← hj, updI_self]
theorem aP_good : GoodC aP := all6 (by decide) (by decide) (by decide) (by decide) (by decide) (by decide)
theorem aC_good : GoodC aC := all6 (by decide) (by decide) (by decide) (by decide) (by decide) (by decide)
theorem alive_can : CanC aP aC := ⟨aP_good, aC_good, fun i hi => by
  have h : ∀ i, i < 6 → i < 5 → aC i ≤ aP i := all6 (by decide) (by decide) (by decide) (by decide) (by decide) (by decide)
  exact h i (by omega) hi, by decide⟩
theorem alive_paid : PayN aP (updI aC 5 0) 2 aQ := .succ (.succ .zero (.inl ⟨by decide, rfl⟩)) (.inl ⟨by decide, rfl⟩)
theorem alive_payR : PayR aP aC aR aQ 0 := .inr (.inr ⟨alive_can, alive_paid, all6 (by decide) (by decide) (by decide) (by decide) (by decide) (by decide), rfl⟩)
theorem aQ_aC : ∀ i, i < 6 → aQ i = aC i := all6 (by decide) (by decide) (by decide) (by decide) (by decide) (by decide)
set_option maxRecDepth 100000 in
set_option maxHeartbeats 1000000 in
theorem payAlive {z : World} (S : PaySaid z) (w : World) (hz : Below z.heap.size z w) : Calls Try.prog 7 #[] w fun e w' => e = .returned (.bool true) ∧ Below w.heap.size w w' := by
  have hsz : ∀ g, (Try.prog.info? 23).map (·.size) = some (arr .i64 6 g).size := fun g => by rw [arr_size]; exact size6
  have h1 : ∀ g, (arr .i64 6 g).all (·.oneCell') = true := fun g => arr_one .i64 6 g
  have l1 := lit_p
  have l2 := lit_c
  have l3 := lit_r
  have m2 := aR_set 2 rfl
  have m3 := aR_set 3 rfl
  have m4 := aR_set 4 rfl
  have m5 := aR_set 5 rfl
  go_enter Try.func7, Try.ntmps7
  go_wp2_with fail
  refine (S.pay aP aC _ (good_wide aP_good) (good_wide aC_good) hz).mono ?_
  rintro e w3 ⟨r, p, k, hR, he, hb3⟩
  obtain ⟨hr, hp, rfl⟩ := payR_one hR alive_payR
  rw [show errV 0 = .nilIface from rfl] at he
  subst he
  have ta := two_a w3
  have tb := two_b w3 r
  have hz6 := zero6
  go_upto_region 2 with (first
    | (refine wpList_store_row rfl 23 (.tmp 1) (.tmp 8) rfl w3.heap.size _ rfl rfl 23 (arr .i64 6 zeroC) ta (hsz r) (by rw [arr_size, arr_size]) (h1 r) ?_)
    | (refine wpList_store_row rfl 23 (.tmp 2) (.tmp 9) rfl (w3.heap.size + 1) _ rfl rfl 23 (arr .i64 6 zeroC) tb (hsz p) (by rw [arr_size, arr_size]) (h1 p) ?_))
  obtain ⟨w4, hw4⟩ : ∃ w4, w4 = two w3 r p := ⟨_, rfl⟩
  have hr4 : ArrAt .i64 6 23 w4 w3.heap.size r := by rw [hw4]; exact two_r _ _ _
  have hp4 : ArrAt .i64 6 23 w4 (w3.heap.size + 1) p := by rw [hw4]; exact two_p _ _ _
  have hb4 : Below w3.heap.size w3 w4 := by rw [hw4]; exact two_below _ _ _
  unfold two at hw4
  rw [← hw4]
  clear hw4 ta tb hz6
  have e1 := eqC p aC (fun i hi => by rw [hp i hi]; exact aQ_aC i hi)
  have e2 := eqC r aR hr
  go_wp2_with (first
    | (refine wantArr (by rfl) 23 (.tmp 2) rfl (w3.heap.size + 1) rfl 23 _ (0, 0) _ hp4 Try.underlying23 rfl (hsz p) ?_)
    | (refine wantArr (by rfl) 23 (.tmp 1) rfl w3.heap.size rfl 23 _ (0, 0) _ hr4 Try.underlying23 rfl (hsz r) ?_))
  go_ret
  exact ⟨rfl, keepB hb4 hb3⟩
end Go.Proofs.Ytfnlkadcidfhoaa
