/- Layer 3: the laws' walks, over what the calls answer. -/
import Derived.Test.YtbnmajajnjphpaaDoorPackSaid
import Derived.Test.YtbnmajajnjphpaaDoorPackSpec
import Derived.Test.YtbnmajajnjphpaaDoorNumE
import Derived.Deep.Cut
namespace Go.Proofs.YtbnmajajnjphpaaDoor
open Go.RowKit Px
attribute [local go_sem] arr_get
theorem head_ok {b : World} (S : HeadSaid b) {o : Nat → Int} (hr : ∀ i, i < 18 → -9223372036854775808 ≤ o i ∧ o i ≤ 9223372036854775807) (h : Fit o 9) (w : World) (hw : Below b.heap.size b w) : Calls Tryd.prog 8 #[.agg (arr .i64 18 o)] w fun e w' => e = .returned (.tuple #[.int .u32 (sumH o 9), .nilIface]) ∧ Below w.heap.size w w' :=
  (S.head o w hr hw).mono fun _ _ ⟨h1, h2⟩ => by
    rcases h1 with ⟨_, h1⟩ | ⟨h1, _⟩
    · exact ⟨h1, h2⟩
    · exact absurd h h1
theorem head_bad {b : World} (S : HeadSaid b) {o : Nat → Int} (hr : ∀ i, i < 18 → -9223372036854775808 ≤ o i ∧ o i ≤ 9223372036854775807) (h : ¬ Fit o 9) (w : World) (hw : Below b.heap.size b w) : Calls Tryd.prog 8 #[.agg (arr .i64 18 o)] w fun e w' => e = .returned (.tuple #[.int .u32 0, .iface 54 (.int .i64 1)]) ∧ Below w.heap.size w w' :=
  (S.head o w hr hw).mono fun _ _ ⟨h1, h2⟩ => by
    rcases h1 with ⟨h1, _⟩ | ⟨_, h1⟩
    · exact absurd h1 h
    · exact ⟨h1, h2⟩
theorem sat_ite (n : Int) : (if (if 32767 < n then 32767 else n) < -32768 then -32768 else if 32767 < n then 32767 else n) = sat n := by
  unfold sat; split <;> split <;> omega
theorem keepB {a W w' : World} (h2 : Below W.heap.size W w') (h1 : Below a.heap.size a W) : Below a.heap.size a w' := h1.trans (h2.mono h1.size)
theorem fit_alive : Fit (updI (fun _ => 0) 13 2) 9 := by rw [fit_lit]; simp [updI]
theorem sum_alive : sumH (updI (fun _ => 0) 13 2) 9 = 1024 := by rw [sum_lit]; simp [updI]
theorem pair_alive : pairV (-1) 2 = 4294901762 := by decide
set_option maxRecDepth 100000 in
theorem alive_true {b : World} (S : HeadSaid b) (w : World) (hw : Below b.heap.size b w) : Calls Tryd.prog 7 #[] w fun e w' => e = .returned (.bool true) ∧ Below w.heap.size w w' := by
  have hsz : (Tryd.prog.info? 23).map (·.size) = some (arr .i64 18 (fun _ => 0)).size := by rw [arr_size]; exact size18
  have h1c := arr_one .i64 18 (fun _ => 0)
  have hz := zero18
  go_enter Tryd.func7, Tryd.ntmps7
  go_upto_region 2 with (refine wpList_store_row rfl 23 (.tmp 1) (.tmp 4) rfl w.heap.size _ rfl rfl 23 (arr .i64 18 (fun _ => 0)) (heap_alloc_new _ _) hsz rfl h1c ?_)
  obtain ⟨w1, hw1⟩ : ∃ w1, w1 = (w.alloc (.cells (arr .i64 18 (fun _ => 0)) 23)).setRow w.heap.size (arr .i64 18 (fun _ => 0)) := ⟨_, rfl⟩
  have h1 : ArrAt .i64 18 23 w1 w.heap.size (fun _ => 0) := by rw [hw1]; exact (ArrAt.new w _ _ _ _).setRow _
  have hb1 : Below w.heap.size w w1 := by rw [hw1]; exact below_setRow ((Below.refl _ _).alloc (Nat.le_refl _) _) _ _ (Nat.le_refl _)
  rw [← hw1]
  have q1 := h1.cell (i := 13) (by omega)
  have q2 := h1.frozen 13
  have H1 := Lib.hid (h1.set_ 13 2)
  have hb2 := hb1.setCell (p := ⟨w.heap.size, 13, none⟩) (Nat.le_refl _) (.int .i64 2)
  clear hw1 h1 hsz h1c hz
  have b0 : (0 : Int) ≤ 13 := by omega
  go_upto_region 3 with fail
  obtain ⟨w2, hw2⟩ : ∃ w2, w2 = w1.setCell ⟨w.heap.size, 13, none⟩ (.int .i64 2) := ⟨_, rfl⟩
  rw [← hw2] at H1 hb2 ⊢
  clear hw2 q1 q2 hb1
  have hsz : (Tryd.prog.info? 23).map (·.size) = some (arr .i64 18 (updI (fun _ => 0) 13 2)).size := by rw [arr_size]; exact size18
  go_wp2_with (refine wpList_load_row rfl 23 (.tmp 1) rfl w.heap.size rfl 23 _ (0, 0) _ H1.out Tryd.underlying23 rfl hsz ?_)
  have hr : ∀ i, i < 18 → -9223372036854775808 ≤ updI (fun _ => 0) 13 2 i ∧ updI (fun _ => 0) 13 2 i ≤ 9223372036854775807 := by
    intro i _; by_cases e : i = 13 <;> simp [updI, e]
  refine (head_ok S hr fit_alive _ (keepB hb2 hw)).mono ?_
  rintro e w3 ⟨rfl, hb3⟩
  rw [sum_alive]
  clear hr hsz
  go_wp2_with fail
  refine (S.pair (-1) 2 _ (by omega) (by omega) (keepB hb3 (keepB hb2 hw))).mono ?_
  rintro e w4 ⟨rfl, hb4⟩
  rw [pair_alive]
  go_wp2_with fail
  go_ret
  exact ⟨rfl, keepB hb4 (keepB hb3 hb2)⟩
set_option maxHeartbeats 1000000 in
theorem packShorts_walk {w : World} (S : HeadSaid w) (a b x : Int) (ha : -9223372036854775808 ≤ a ∧ a ≤ 9223372036854775807) (hb : -9223372036854775808 ≤ b ∧ b ≤ 9223372036854775807) (hx : 0 ≤ x ∧ x < 4294967296) :
    Calls Tryd.prog 5 #[.int .i64 a, .int .i64 b, .int .u32 x] w fun e w' => e = .returned (.bool true) ∧ Below w.heap.size w w' := by
  obtain ⟨hx0, hx1⟩ := hx
  obtain ⟨ha0, ha1⟩ := ha
  obtain ⟨hb0, hb1⟩ := hb
  obtain ⟨s, hs⟩ : ∃ s, s = sat a := ⟨_, rfl⟩
  obtain ⟨t, ht⟩ : ∃ t, t = sat b := ⟨_, rfl⟩
  obtain ⟨s0, s1⟩ : -32768 ≤ s ∧ s ≤ 32767 := by rw [hs]; exact sat_range a
  obtain ⟨t0, t1⟩ : -32768 ≤ t ∧ t ≤ 32767 := by rw [ht]; exact sat_range b
  have eA := sat_ite a
  have eB := sat_ite b
  rw [← hs] at eA
  rw [← ht] at eB
  obtain ⟨m, em⟩ : ∃ m, (if 32767 < a then 32767 else a) = m := ⟨_, rfl⟩
  obtain ⟨n, en⟩ : ∃ n, (if 32767 < b then 32767 else b) = n := ⟨_, rfl⟩
  rw [em] at eA
  rw [en] at eB
  have HS := Lib.hid hs
  have HT := Lib.hid ht
  clear hs ht
  obtain ⟨p, hp⟩ : ∃ p, p = pairV s t := ⟨_, rfl⟩
  obtain ⟨p0, p1⟩ : 0 ≤ p ∧ p < 4294967296 := by rw [hp]; exact pair_range ⟨s0, s1⟩ ⟨t0, t1⟩
  have HP := Lib.hid hp
  clear hp
  have HB := Lib.hid (halves_pair ⟨s0, s1⟩ ⟨t0, t1⟩)
  have HX := Lib.hid (pair_halves hx0 hx1)
  go_enter Tryd.func5, Tryd.ntmps5
  go_wp2_with fail
  refine (alive_true S _ (Below.refl _ _)).mono ?_
  rintro e w1 ⟨rfl, hbw⟩
  go_wp2_with fail
  refine (S.short a _ ha0 ha1 hbw).mono ?_
  rintro e w2 ⟨rfl, hb2⟩
  rw [← HS.out]
  go_wp2_with fail
  refine (S.short b _ hb0 hb1 (keepB hb2 hbw)).mono ?_
  rintro e w3 ⟨rfl, hb3⟩
  rw [← HT.out]
  have hbel3 := keepB hb3 (keepB hb2 hbw)
  clear hbw hb2 hb3
  go_wp2_with fail
  clear eA eB em en
  refine (S.pair s t _ ⟨s0, s1⟩ ⟨t0, t1⟩ hbel3).mono ?_
  rintro e w4 ⟨rfl, hb4⟩
  rw [← HP.out]
  go_wp2_with fail
  refine (S.halves p _ p0 p1 (keepB hb4 hbel3)).mono ?_
  rintro e w5 ⟨rfl, hb5⟩
  rw [HP.out, HB.out.1, HB.out.2, ← HP.out]
  go_wp2_with fail
  refine (S.halves x _ hx0 hx1 (keepB hb5 (keepB hb4 hbel3))).mono ?_
  rintro e w6 ⟨rfl, hb6⟩
  obtain ⟨h, hh⟩ : ∃ h, h = sgn (x / 65536) := ⟨_, rfl⟩
  obtain ⟨l, hl⟩ : ∃ l, l = sgn (x % 65536) := ⟨_, rfl⟩
  obtain ⟨hr0, hr1⟩ : -32768 ≤ h ∧ h ≤ 32767 := by rw [hh]; exact sgn_range (by omega) (by omega)
  obtain ⟨lr0, lr1⟩ : -32768 ≤ l ∧ l ≤ 32767 := by rw [hl]; exact sgn_range (by omega) (by omega)
  rw [← hh, ← hl] at HX ⊢
  have hbel6 := keepB hb6 (keepB hb5 (keepB hb4 hbel3))
  clear hh hl hb4 hb5 hb6 hbel3
  have hpq : (p == s % 65536 * 65536 + t % 65536) = true := by rw [beq_iff_eq, HP.out]; unfold pairV; omega
  go_wp2_with fail
  refine (S.pair h l _ ⟨hr0, hr1⟩ ⟨lr0, lr1⟩ hbel6).mono ?_
  rintro e w7 ⟨rfl, hb7⟩
  rw [HX.out]
  go_wp2_with fail
  go_ret
  exact ⟨rfl, keepB hb7 hbel6⟩
end Go.Proofs.YtbnmajajnjphpaaDoor
