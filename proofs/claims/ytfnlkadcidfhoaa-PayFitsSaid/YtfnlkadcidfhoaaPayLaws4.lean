/- Layer 5: the laws' walks: PayFits. -/
import Derived.Test.YtfnlkadcidfhoaaPayLaws3
import Derived.Deep.DeepCutAuto
namespace Go.Proofs.Ytfnlkadcidfhoaa
open Go.RowKit Mx Yx
attribute [local go_sem] arr_get
theorem conv_ge {F : Nat → Int} {fr s a : Nat} (h0 : ∀ x, 0 ≤ F x) (h1 : a ≤ s) (h2 : s ≤ a + fr) : ∀ n, a < n → F a ≤ conv F fr n s
  | n + 1, h => by
    have hn : ∀ n, 0 ≤ conv F fr n s := by
      intro n
      induction n with
      | zero => simp [conv]
      | succ n ih => have := h0 n; simp only [conv]; split <;> omega
    by_cases e : a = n
    · subst e
      have := hn a
      simp only [conv]; rw [if_pos ⟨h1, h2⟩]; omega
    · have := conv_ge h0 h1 h2 n (by omega)
      have := h0 n
      simp only [conv]; split <;> omega
theorem conv_nonneg {F : Nat → Int} {fr s : Nat} (h0 : ∀ x, 0 ≤ F x) : ∀ n, 0 ≤ conv F fr n s
  | 0 => by simp [conv]
  | n + 1 => by have := conv_nonneg (fr := fr) (s := s) h0 n; have := h0 n; simp only [conv]; split <;> omega
theorem ways_nonneg (fr : Nat → Nat) : ∀ k s, 0 ≤ waysN fr k s
  | 0, s => by simp only [waysN]; split <;> omega
  | k + 1, s => by simp only [waysN]; exact conv_nonneg (fun x => ways_nonneg fr k x) _
theorem len_pos (fr : Nat → Nat) : ∀ k, 0 < lenN fr k
  | 0 => by simp [lenN]
  | k + 1 => by have := len_pos fr k; simp only [lenN]; omega
theorem ways_pos (fr : Nat → Nat) : ∀ k s, s < lenN fr k → 0 < waysN fr k s
  | 0, s, h => by
    have : s = 0 := by simp [lenN] at h; exact h
    simp [waysN, this]
  | k + 1, s, h => by
    have hl := len_pos fr k
    simp only [lenN] at h
    simp only [waysN]
    have h1 := ways_pos fr k (min s (lenN fr k - 1)) (by omega)
    have h2 := conv_ge (F := waysN fr k) (fr := fr k) (s := s) (a := min s (lenN fr k - 1)) (fun x => ways_nonneg fr k x) (by omega) (by omega) (lenN fr k) (by omega)
    omega
theorem ways_can {pool cost : Nat → Int} {n : Int} (h : WaysR pool cost n 0) {B : Bool} (hB : B = true ↔ CanC pool cost) : decide (0 < n) = B := by
  rcases h with ⟨_, _, h⟩ | ⟨_, _, _, h⟩ | ⟨_, _, hc, rfl, _⟩ | ⟨hc, _, rfl, _⟩
  · cases h
  · cases h
  · cases hb : B
    · rfl
    · exact absurd (hB.1 hb) hc
  · have hBt : B = true := hB.2 hc
    rw [hBt, decide_eq_true_eq]
    apply ways_pos
    have h1 := len_sum hc 6 (by omega)
    have h2 := hc.2.2.2
    rw [over_free] at h2
    have h3 := hc.2.1 5 (by omega)
    omega
theorem pay_bad {pool cost r q : Nat → Int} {k : Int} (h : PayR pool cost r q k) (hk : k ≠ 0) : r = zeroC ∧ q = zeroC ∧ ¬ CanC pool cost := by
  rcases h with ⟨a, b, c, _⟩ | ⟨_, a, b, c, _⟩ | ⟨_, _, _, h⟩
  · exact ⟨b, c, fun h => a ⟨h.1, h.2.1⟩⟩
  · exact ⟨b, c, a⟩
  · exact absurd h hk
theorem pay_good {pool cost r q : Nat → Int} (h : PayR pool cost r q 0) : CanC pool cost ∧ PayI pool cost (cost 5) q ∧ ∀ i, i < 6 → r i = pool i - q i := by
  rcases h with ⟨_, _, _, h⟩ | ⟨_, _, _, _, h⟩ | ⟨a, b, c, _⟩
  · cases h
  · cases h
  · have h5 := a.2.1 5 (by omega)
    have h := payN_inv a b (by omega)
    rw [show ((cost 5).toNat : Int) = cost 5 by omega] at h
    exact ⟨a, h, c⟩
theorem pay_rest {pool cost r q : Nat → Int} (hc : CanC pool cost) (h : PayI pool cost (cost 5) q) (hr : ∀ i, i < 6 → r i = pool i - q i) : GoodC r := fun i hi => by
  have h1 := hr i hi
  have h2 := hc.1 i hi
  have h3 := payI_wide hc h i hi
  by_cases e : i < 5
  · have := h.col i e; omega
  · obtain rfl : i = 5 := by omega
    have := h.rest; omega
theorem pay_is {pool cost q : Nat → Int} (hc : CanC pool cost) (h : PayI pool cost (cost 5) q) : IsC q pool cost := by
  refine ⟨fun i hi => ?_, fun i hi => (h.col i hi).1, h.sum⟩
  have h3 := payI_wide hc h i hi
  by_cases e : i < 5
  · have := h.col i e; omega
  · obtain rfl : i = 5 := by omega
    have := h.rest; omega
theorem can_less {pool cost : Nat → Int} (hc : CanC pool cost) {i : Nat} (hi : i < 6) (h : 0 < cost i) : CanC pool (updI cost i (cost i - 1)) := by
  have ht := can_total.1 hc
  refine can_total.2 ⟨ht.1, fun j hj => ?_, fun j hj => ?_, ?_⟩
  · have := ht.2.1 j hj; have := ht.2.1 i hi
    unfold updI; split <;> omega
  · have := ht.2.2.1 j hj
    unfold updI; split
    · rename_i e; subst e; omega
    · exact this
  · have := ht.2.2.2
    rw [sumF_upd 6 hi]; omega
set_option linter.unusedSimpArgs false in
set_option maxRecDepth 100000 in
set_option maxHeartbeats 1000000 in
theorem payFits_walk {w : World} (S : PaySaid w) (p c : Nat → Int) (less : Int) (hp : Wide p) (hc : Wide c) (hl : -9223372036854775808 ≤ less ∧ less ≤ 9223372036854775807) :
    Calls Try.prog 6 #[.agg (arr .i64 6 p), .agg (arr .i64 6 c), .int .i64 less] w fun e w' => e = .returned (.bool true) ∧ Below w.heap.size w w' := by
  obtain ⟨l0, l1⟩ := hl
  have hsz : ∀ g, (Try.prog.info? 23).map (·.size) = some (arr .i64 6 g).size := fun g => by rw [arr_size]; exact size6
  have h1 : ∀ g, (arr .i64 6 g).all (·.oneCell') = true := fun g => arr_one .i64 6 g
  have hz6 := zero6
  have hcan := fun W hW => can_both (S.can p c W hp hc hW)
  go_enter Try.func6, Try.ntmps6
  go_upto_region 1 with fail
  obtain ⟨w1, hw1, a1, a2, hb1⟩ := two_boxes w p c
  rw [← hw1]
  clear hw1
  go_wp2_with fail
  refine (payAlive S _ hb1).mono ?_
  rintro e w2 ⟨rfl, hb2⟩
  have a1 := a1.keep hb2
  have a2 := a2.keep hb2
  have hbw2 := keepB hb2 hb1
  clear hb2 hb1
  go_wp2_with (first
    | (refine wpList_load_row rfl 23 (.tmp 3) rfl w.heap.size rfl 23 _ (0, 0) _ a1 Try.underlying23 rfl (hsz p) ?_)
    | (refine wpList_load_row rfl 23 (.tmp 4) rfl (w.heap.size + 1) rfl 23 _ (0, 0) _ a2 Try.underlying23 rfl (hsz c) ?_))
  refine (S.pay p c _ hp hc hbw2).mono ?_
  rintro e w3 ⟨r, q, k, hR, rfl, hb3⟩
  have a1 := a1.keep hb3
  have a2 := a2.keep hb3
  have hbw3 := keepB hb3 hbw2
  clear hb3 hbw2
  have ta := two_a w3
  have tb := two_b w3 r
  go_upto_region 4 with (first
    | (refine wpList_store_row rfl 23 (.tmp 7) (.tmp 20) rfl w3.heap.size _ rfl rfl 23 (arr .i64 6 zeroC) ta (hsz r) (by rw [arr_size, arr_size]) (h1 r) ?_)
    | (refine wpList_store_row rfl 23 (.tmp 8) (.tmp 21) rfl (w3.heap.size + 1) _ rfl rfl 23 (arr .i64 6 zeroC) tb (hsz q) (by rw [arr_size, arr_size]) (h1 q) ?_))
  obtain ⟨w4, hw4⟩ : ∃ w4, w4 = two w3 r q := ⟨_, rfl⟩
  have a3 : ArrAt .i64 6 23 w4 w3.heap.size r := by rw [hw4]; exact two_r _ _ _
  have a4 : ArrAt .i64 6 23 w4 (w3.heap.size + 1) q := by rw [hw4]; exact two_p _ _ _
  have hb4 : Below w3.heap.size w3 w4 := by rw [hw4]; exact two_below _ _ _
  have hA : w.heap.size + 1 < w3.heap.size := a2.lt
  have a1 := a1.keep hb4
  have a2 := a2.keep hb4
  have hbw4 := keepB hb4 hbw3
  unfold two at hw4
  rw [← hw4]
  clear hw4 ta tb hb4 hbw3
  obtain ⟨A, hAe⟩ : ∃ A, w3.heap.size = A := ⟨_, rfl⟩
  rw [hAe] at a3 a4 hA ⊢
  clear hAe
  go_wp2_with (first
    | (refine wpList_load_row rfl 23 (.tmp 3) rfl w.heap.size rfl 23 _ (0, 0) _ a1 Try.underlying23 rfl (hsz p) ?_)
    | (refine wpList_load_row rfl 23 (.tmp 4) rfl (w.heap.size + 1) rfl 23 _ (0, 0) _ a2 Try.underlying23 rfl (hsz c) ?_))
  refine (S.ways p c _ hp hc hbw4).mono ?_
  rintro e w5 ⟨n, kw, hW, he, hb5⟩
  have a1 := a1.keep hb5
  have a2 := a2.keep hb5
  have a3 := a3.keep hb5
  have a4 := a4.keep hb5
  have hbw5 := keepB hb5 hbw4
  clear hb5 hbw4
  obtain ⟨ev, hev⟩ : ∃ ev, errV kw = ev := ⟨_, rfl⟩
  rw [hev] at he
  subst he
  go_upto_region 5 with fail
  go_cut [38] (fun s38 wx => s38 = .bool false ∧ Below w5.heap.size w5 wx)
  case first =>
    by_cases hkw : kw = 0
    · subst hkw
      obtain rfl : .nilIface = ev := hev
      obtain ⟨B, hB, hC⟩ := hcan w5 hbw5
      have hdn := ways_can hW hB
      go_wp2_with (first
        | (refine wantArr (by rfl) 23 (.tmp 3) rfl w.heap.size rfl 23 _ (0, 0) _ a1 Try.underlying23 rfl (hsz p) ?_)
        | (refine wantArr (by rfl) 23 (.tmp 4) rfl (w.heap.size + 1) rfl 23 _ (0, 0) _ a2 Try.underlying23 rfl (hsz c) ?_))
      refine hC.mono ?_
      rintro e w6 ⟨rfl, hb6⟩
      go_wp2_with fail
      go_meet
      exact ⟨by simp, hb6⟩
    · have hev2 : ev = .iface 41 (.int .i64 kw) := by rw [← hev]; unfold errV; rw [if_neg hkw]
      subst hev2
      clear hW
      go_wp2_with fail
      go_meet
      exact ⟨rfl, Below.refl _ _⟩
  case rest =>
    obtain ⟨rfl, hb6⟩ := hcut
    have a1 := a1.keep hb6
    have a2 := a2.keep hb6
    have a3 := a3.keep hb6
    have a4 := a4.keep hb6
    have hbw6 := keepB hb6 hbw5
    clear hb6 hbw5 hW hev
    by_cases hk : k = 0
    · subst hk
      obtain ⟨hcc, hI, hr⟩ := pay_good hR
      have hq := payI_wide hcc hI
      have hrg := pay_rest hcc hI hr
      have his := pay_is hcc hI
      have hadd : ∀ i, i < 6 → addF r q i = p i := fun i hi => by unfold addF; rw [hr i hi]; omega
      rw [show errV 0 = .nilIface from rfl]
      clear hI hr hR
      go_wp2_with (first
        | (refine wpList_load_row rfl 23 (.tmp 7) rfl A rfl 23 _ (0, 0) _ a3 Try.underlying23 rfl (hsz r) ?_)
        | (refine wpList_load_row rfl 23 (.tmp 8) rfl (A + 1) rfl 23 _ (0, 0) _ a4 Try.underlying23 rfl (hsz q) ?_))
      refine (S.sum r q _ (good_wide hrg) (good_wide hq) hbw6).mono ?_
      rintro e w7 ⟨s, ks, hS, he, hb7⟩
      have hs : ks = 0 ∧ ∀ i, i < 6 → s i = p i := by
        rcases hS with ⟨h, _⟩ | ⟨_, h, _⟩ | ⟨_, _, h, h2⟩
        · exact absurd ⟨hrg, hq⟩ h
        · exact absurd (goodC_congr (fun i hi => (hadd i hi).symm) hcc.1) h
        · exact ⟨h2, fun i hi => by rw [h i hi, hadd i hi]⟩
      obtain ⟨rfl, hsp⟩ := hs
      rw [show errV 0 = .nilIface from rfl] at he
      subst he
      have a1 := a1.keep hb7
      have a2 := a2.keep hb7
      have a4 := a4.keep hb7
      have hbw7 := keepB hb7 hbw6
      clear hb7 hbw6 hS hadd a3
      have hnew : (w7.alloc (.cells (arr .i64 6 zeroC) 23)).heap[w7.heap.size]? = some (.cells (arr .i64 6 zeroC) 23 (0, 0)) := heap_alloc_new _ _
      go_upto_region 10 with (refine wpList_store_row rfl 23 (.tmp 12) (.tmp 59) rfl w7.heap.size _ rfl rfl 23 (arr .i64 6 zeroC) hnew (hsz s) (by rw [arr_size, arr_size]) (h1 s) ?_)
      obtain ⟨w8, hw8⟩ : ∃ w8, w8 = (w7.alloc (.cells (arr .i64 6 zeroC) 23)).setRow w7.heap.size (arr .i64 6 s) := ⟨_, rfl⟩
      have a5 : ArrAt .i64 6 23 w8 w7.heap.size s := by rw [hw8]; exact ArrAt.setRow (show ArrAt .i64 6 23 _ _ _ from hnew) _
      have hb8 : Below w7.heap.size w7 w8 := by rw [hw8]; exact below_setRow ((Below.refl _ _).alloc (Nat.le_refl _) _) _ _ (Nat.le_refl _)
      have a1 := a1.keep hb8
      have a2 := a2.keep hb8
      have a4 := a4.keep hb8
      have hbw8 := keepB hb8 hbw7
      rw [← hw8]
      clear hw8 hnew hb8 hbw7
      have hne := neqC s p hsp
      go_wp2_with (first
        | (refine wantArr (by rfl) 23 (.tmp 12) rfl w7.heap.size rfl 23 _ (0, 0) _ a5 Try.underlying23 rfl (hsz s) ?_)
        | (refine wantArr (by rfl) 23 (.tmp 3) rfl w.heap.size rfl 23 _ (0, 0) _ a1 Try.underlying23 rfl (hsz p) ?_)
        | (refine wantArr (by rfl) 23 (.tmp 8) rfl (A + 1) rfl 23 _ (0, 0) _ a4 Try.underlying23 rfl (hsz q) ?_)
        | (refine wantArr (by rfl) 23 (.tmp 4) rfl (w.heap.size + 1) rfl 23 _ (0, 0) _ a2 Try.underlying23 rfl (hsz c) ?_))
      refine (isRef_true q p c _ hq hcc.2.1 his).mono ?_
      rintro e w9 ⟨rfl, hb9⟩
      have a1 := a1.keep hb9
      have a2 := a2.keep hb9
      have hbw9 := keepB hb9 hbw8
      clear hb9 hbw8 a4 a5 hne
      obtain ⟨m, hm⟩ : ∃ m : Nat, IntKind.u64.wrap less = (m : Int) := Int.eq_ofNat_of_zero_le (by simp only [IntKind.wrap, IntKind.bits, IntKind.signed]; simp; omega)
      obtain ⟨t, ht⟩ : ∃ t : Nat, ((m : Nat) : Int).tmod 6 = (t : Int) := Int.eq_ofNat_of_zero_le (by rw [Int.tmod_eq_emod_of_nonneg (by omega)]; omega)
      have ht6 : t < 6 := by rw [Int.tmod_eq_emod_of_nonneg (by omega)] at ht; omega
      have hwt : wrap64 ((t : Nat) : Int) = (t : Int) := IntWalk.wrap64_in _ ⟨by omega, by omega⟩
      have r1 := a2.cell ht6
      have r2 := a2.frozen t
      obtain ⟨y0, y1⟩ := hcc.2.1 t ht6
      obtain ⟨y, hy⟩ : ∃ y, y = c t := ⟨_, rfl⟩
      rw [← hy] at r1 y0 y1
      have b0 : (0 : Int) ≤ (t : Int) := by omega
      have b1 : (t : Int) < 6 := by omega
      by_cases hy0 : 0 < y
      · have hcl := can_less hcc ht6 (by rw [← hy]; exact hy0)
        rw [← hy] at hcl
        have a2' := a2.set_ t (y - 1)
        have a1' := a1.far (p := ⟨w.heap.size + 1, t, none⟩) (by simp) (.int .i64 (y - 1))
        have hbw9' := hbw9.setCell (p := ⟨w.heap.size + 1, t, none⟩) (by simp) (.int .i64 (y - 1))
        have HA1 := Lib.hid a1'
        have HA2 := Lib.hid a2'
        have HBW := Lib.hid hbw9'
        clear a1' a2' hbw9' a1 a2 hy
        go_upto_region 15 with fail
        obtain ⟨wa, hwa⟩ : ∃ wa, wa = w9.setCell ⟨w.heap.size + 1, t, none⟩ (.int .i64 (y - 1)) := ⟨_, rfl⟩
        rw [← hwa] at HA1 HA2 HBW ⊢
        clear hwa r1 r2
        go_wp2_with (first
          | (refine wpList_load_row rfl 23 (.tmp 3) rfl w.heap.size rfl 23 _ (0, 0) _ HA1.out Try.underlying23 rfl (hsz p) ?_)
          | (refine wpList_load_row rfl 23 (.tmp 4) rfl (w.heap.size + 1) rfl 23 _ (0, 0) _ HA2.out Try.underlying23 rfl (hsz _) ?_))
        obtain ⟨B, hB, hC⟩ := can_both (S.can p (updI c t (y - 1)) wa hp (good_wide hcl.2.1) HBW.out)
        obtain rfl : B = true := hB.2 hcl
        refine hC.mono ?_
        rintro e wb ⟨rfl, hbb⟩
        go_wp2_with fail
        go_ret
        exact ⟨rfl, keepB hbb HBW.out⟩
      · clear hy
        go_wp2_with (first
          | (refine wpList_load_row rfl 23 (.tmp 3) rfl w.heap.size rfl 23 _ (0, 0) _ a1 Try.underlying23 rfl (hsz p) ?_)
          | (refine wpList_load_row rfl 23 (.tmp 4) rfl (w.heap.size + 1) rfl 23 _ (0, 0) _ a2 Try.underlying23 rfl (hsz _) ?_))
        obtain ⟨B, hB, hC⟩ := hcan w9 hbw9
        obtain rfl : B = true := hB.2 hcc
        refine hC.mono ?_
        rintro e wb ⟨rfl, hbb⟩
        go_wp2_with fail
        go_ret
        exact ⟨rfl, keepB hbb hbw9⟩
    · obtain ⟨rfl, rfl, hnc⟩ := pay_bad hR hk
      rw [show errV k = .iface 41 (.int .i64 k) by unfold errV; rw [if_neg hk]]
      have e1 := eqC zeroC zeroC (fun _ _ => rfl)
      obtain ⟨B, hB, hC⟩ := hcan wc hbw6
      obtain rfl : B = false := by cases h : B; rfl; exact absurd (hB.1 h) hnc
      go_wp2_with (first
        | (refine wpList_load_row rfl 23 (.tmp 7) rfl A rfl 23 _ (0, 0) _ a3 Try.underlying23 rfl (hsz zeroC) ?_)
        | (refine wantArr (by rfl) 23 (.tmp 8) rfl (A + 1) rfl 23 _ (0, 0) _ a4 Try.underlying23 rfl (hsz zeroC) ?_)
        | (refine wantArr (by rfl) 23 (.tmp 3) rfl w.heap.size rfl 23 _ (0, 0) _ a1 Try.underlying23 rfl (hsz p) ?_)
        | (refine wantArr (by rfl) 23 (.tmp 4) rfl (w.heap.size + 1) rfl 23 _ (0, 0) _ a2 Try.underlying23 rfl (hsz c) ?_))
      refine hC.mono ?_
      rintro e w7 ⟨rfl, hb7⟩
      go_wp2_with fail
      go_ret
      exact ⟨rfl, keepB hb7 hbw6⟩
end Go.Proofs.Ytfnlkadcidfhoaa
