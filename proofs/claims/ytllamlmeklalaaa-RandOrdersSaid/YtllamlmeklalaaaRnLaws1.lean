/- Layer 16: the laws RandPicks, RandOrders. -/
import Derived.Test.YtllamlmeklalaaaRnAlive
import Derived.Test.YtllamlmeklalaaaRnOrd
import Derived.Deep.DeepCutAuto
namespace Go.Proofs.Ytllamlmeklalaaa
open Go.RowKit
set_option maxRecDepth 100000
set_option maxHeartbeats 2000000 in
theorem randPicks_walk {w : World} (E : RnSaid w) (A : Option Addr) (n c : Nat) (l : List Int) (cur m : Int) (hN : Nums .i64 w w.heap.size A n l) (hc : n ≤ c) (hl : ∀ x ∈ l, N64 x) (hcur : N64 cur) (hm : N64 m) :
    Calls Try.prog 3 #[.slice A n c, .int .i64 cur, .int .i64 m] w fun en w' => en = .returned (.bool true) ∧ Below w.heap.size w w' := by
  have HN := Lib.hid hN
  have HH := Lib.hid (show (∀ x ∈ l, N64 x) ∧ N64 cur ∧ N64 m from ⟨hl, hcur, hm⟩)
  have HL := Lib.hid hN.len
  have hcb := hcur
  have hmb := hm
  unfold N64 at hcb hmb
  clear hN hl hcur hm
  go_enter Try.func3, Try.ntmps3
  go_wp2_with fail
  refine (rnAlive E w (Below.refl _ _)).mono ?_
  rintro en w1 ⟨rfl, hb1⟩
  by_cases h5 : 5000 < n
  · have d5 : decide ((5000 : Int) < (n : Int)) = true := by simp; omega
    go_wp2_with fail
    go_ret
    exact ⟨rfl, hb1⟩
  have d5 : decide ((5000 : Int) < (n : Int)) = false := by simp; omega
  have hp1 := E.pick A n c l cur m w1 (HN.out.below hb1 |>.more hb1.size) hc (by omega) HH.out.1 HH.out.2.1 HH.out.2.2 hb1
  obtain ⟨⟨x, cc, e⟩, hq⟩ : ∃ q, q = pickD l cur m := ⟨_, rfl⟩
  rw [← hq] at hp1
  go_wp2_with fail
  refine hp1.mono ?_
  rintro en w2 ⟨rfl, hb2⟩
  have hb2' := keepB hb2 hb1
  have hp2 := pickRef_any A n c l cur m w2 _ (HN.out.below hb2') (by omega) HH.out.1 HH.out.2.1 HH.out.2.2
  rw [← hq] at hp2
  clear hp1 hb2 hb1 hq
  go_wp2_with fail
  refine hp2.mono ?_
  rintro en w3 ⟨rfl, rfl⟩
  clear hp2
  have hlf : ((decide (0 ≤ cur) = false ∧ leftD l cur = 0) ∨ (decide (0 ≤ cur) = true ∧ decide (cur < (n : Int)) = false ∧ leftD l cur = 0)) ∨ (decide (0 ≤ cur) = true ∧ decide (cur < (n : Int)) = true ∧ cur < (n : Int) ∧ 0 ≤ cur ∧ leftD l cur = (n : Int) - cur) := by
    have h1 := HL.out
    unfold leftD
    by_cases hA : cur < 0
    · exact .inl (.inl ⟨by simp; omega, if_pos (.inl hA)⟩)
    · by_cases hB : cur < (n : Int)
      · exact .inr ⟨by simp; omega, by simp; omega, hB, by omega, by rw [if_neg (by omega), h1]⟩
      · exact .inl (.inr ⟨by simp; omega, by simp; omega, if_pos (.inr (by omega))⟩)
  have hnd : (decide (1 < m) = false ∧ needD m = 0) ∨ (decide (1 < m) = true ∧ 1 < m ∧ needD m = m - 1) := by
    unfold needD
    by_cases hA : 1 < m
    · exact .inr ⟨by simp; omega, hA, if_neg (by omega)⟩
    · refine .inl ⟨by simp; omega, ?_⟩
      split <;> omega
  have hck : (decide ((n : Int) ≤ 4096) = true ∧ (if 4096 < l.length then (19 : Int) else 0) = 0) ∨ (decide ((n : Int) ≤ 4096) = false ∧ (if 4096 < l.length then (19 : Int) else 0) = 19) := by
    have h1 := HL.out
    by_cases hA : 4096 < l.length
    · exact .inr ⟨by simp; omega, if_pos hA⟩
    · exact .inl ⟨by simp; omega, if_neg hA⟩
  have hn5 : n ≤ 5000 := by omega
  have hlt := E.left A n c l cur
  have hne := E.needs m
  have hch := E.check A n c l
  obtain ⟨lf, hlf0⟩ : ∃ lf, lf = leftD l cur := ⟨_, rfl⟩
  obtain ⟨nd, hnd0⟩ : ∃ nd, nd = needD m := ⟨_, rfl⟩
  obtain ⟨ck, hck0⟩ : ∃ ck : Int, ck = if 4096 < l.length then (19 : Int) else 0 := ⟨_, rfl⟩
  rw [← hlf0] at hlf hlt
  rw [← hnd0] at hnd hne
  rw [← hck0] at hck hch
  have HLT := Lib.hid hlt
  have HNE := Lib.hid hne
  have HCH := Lib.hid hch
  have HB := Lib.hid hb2'
  clear hlf0 hnd0 hck0 hlt hne hch hb2'
  have hnum := fun W => num_by e W
  have HNUM := Lib.hid hnum
  clear hnum
  rcases hlf with (⟨d1, rfl⟩ | ⟨d1, d2, rfl⟩) | ⟨d1, d2, d3, d4, rfl⟩
  all_goals rcases hnd with ⟨d6, rfl⟩ | ⟨d6, d7, rfl⟩
  all_goals rcases hck with ⟨d8, rfl⟩ | ⟨d8, rfl⟩
  all_goals
    go_wp2_with fail
    refine (HNUM.out _).mono ?_
    rintro en w3 ⟨rfl, rfl⟩
    go_wp2_with fail
    refine (HLT.out w3 (HN.out.below HB.out |>.more HB.out.size) hc hn5 HH.out.2.1 HB.out).mono ?_
    rintro en w4 ⟨rfl, hb4⟩
    have hb5 := keepB hb4 HB.out
    go_wp2_with fail
    refine (HNE.out w4 HH.out.2.2 hb5).mono ?_
    rintro en w6 ⟨rfl, hb6⟩
    have hb7 := keepB hb6 hb5
    go_wp2_with fail
    refine (HCH.out w6 (HN.out.below hb7 |>.more hb7.size) hc hn5 hb7).mono ?_
    rintro en w8 ⟨rfl, hb8⟩
    have hb9 := keepB hb8 hb7
    first
      | rw [errV_nil]
      | rw [errV_err (show (19 : Int) ≠ 0 by decide)]
    go_wp2_with fail
    go_ret
    exact ⟨rfl, hb9⟩
set_option maxHeartbeats 2000000 in
theorem randOrders_walk {w : World} (E : RnSaid w) (A : Option Addr) (n c : Nat) (l : List Int) (cur m : Int) (hN : Nums .i64 w w.heap.size A n l) (hc : n ≤ c) (hl : ∀ x ∈ l, N64 x) (hcur : N64 cur) (hm : N64 m) :
    Calls Try.prog 4 #[.slice A n c, .int .i64 cur, .int .i64 m] w fun en w' => en = .returned (.bool true) ∧ Below w.heap.size w w' := by
  obtain ⟨i0, hi, hz0, hz1, hz2⟩ := info_parts info_intS
  have HN := Lib.hid hN
  have HH := Lib.hid (show (∀ x ∈ l, N64 x) ∧ N64 cur ∧ N64 m from ⟨hl, hcur, hm⟩)
  have HL := Lib.hid hN.len
  clear hN hl hcur hm
  go_enter Try.func4, Try.ntmps4
  go_wp2_with fail
  refine (rnAlive E w (Below.refl _ _)).mono ?_
  rintro en w1 ⟨rfl, hb1⟩
  by_cases h5 : 5000 < n
  · have d5 : decide ((5000 : Int) < (n : Int)) = true := by simp; omega
    go_wp2_with fail
    go_ret
    exact ⟨rfl, hb1⟩
  have d5 : decide ((5000 : Int) < (n : Int)) = false := by simp; omega
  have hn5 : n ≤ 5000 := by omega
  go_upto_region 5 with fail
  have hbA : Below w1.heap.size w1 (w1.alloc (.cells #[] 3)) := (Below.refl _ _).alloc (Nat.le_refl _) _
  have hO := own_empty (k := .i64) (e := 3) w1 w1.heap.size (Nat.le_refl _)
  have hNa := HN.out.below (keepB hbA hb1)
  have hsz := hbA.size
  go_upto_region 6 with (at_builtin; refine wpList_app rfl (.tmp 19) (.tmp 20) _ rfl .i64 w1.heap.size 3 i0 _ 8 Try.underlying22 hi hz0 hz1 hz2 rfl (some ⟨w1.heap.size, 0, none⟩) 0 0 [] rfl hO _ A n c l rfl hNa (by omega) (by omega) hsz ?_; intro A7 c7 w7 ho7 hg7)
  rw [List.nil_append] at ho7
  have hb7 := keepB (hO.belowGrown hbA hsz hg7) hb1
  have HW7 := Lib.hid (show Nums .i64 w7 w7.heap.size A7 (0 + n) l from ho7.nums)
  clear ho7 hg7 hO hNa hsz hbA hb1
  rw [Nat.zero_add] at HW7
  try rw [Nat.zero_add]
  have hp1 := E.order A n c l cur m w7 (HN.out.below hb7 |>.more hb7.size) hc hn5 HH.out.1 HH.out.2.1 HH.out.2.2 hb7
  obtain ⟨⟨o, cc, e⟩, hq⟩ : ∃ q, q = ordD l cur m := ⟨_, rfl⟩
  have hlo : o.length ≤ 100000 := by
    have : (ordD l cur m).1.length ≤ 100000 := by
      unfold ordD
      split
      · simp
      · split
        · simp
        · split
          · simp
          · rw [ord_len]; omega
    rw [← hq] at this
    exact this
  rw [← hq] at hp1
  unfold OrdP at hp1
  go_wp2_with fail
  refine hp1.mono ?_
  rintro en w2 ⟨A2, n2, c2, rfl, hc2, hN2, hb2⟩
  try simp only at hN2
  have hb2' := keepB hb2 hb7
  have HW2 := Lib.hid ((HW7.out.below hb2).more hb2.size)
  have hp2 := orderRef_any A n c l cur m w2 (HN.out.below hb2' |>.more hb2'.size) hn5 HH.out.1 HH.out.2.1 HH.out.2.2
  rw [← hq] at hp2
  unfold OrdR at hp2
  have HN2 := Lib.hid hN2
  clear hp1 hb2 hb7 hq HW7 hN2
  go_wp2_with fail
  refine hp2.mono ?_
  rintro en w3 ⟨A3, n3, c3, rfl, hN3, hb3⟩
  try simp only at hN3
  have hb3' := keepB hb3 hb2'
  have hin := ints_any A2 A3 n2 c2 n3 c3 o o w3 _ _ (HN2.out.below hb3) hN3 (by have := HN2.out.len; omega) (by have := hN3.len; omega)
  rw [decide_eq_true rfl] at hin
  have HW3 := Lib.hid (HW2.out.below hb3)
  clear hp2 HN2 HW2 hN3
  have hnum := fun W => num_by e W
  go_wp2_with fail
  refine hin.mono ?_
  rintro en w4 ⟨rfl, k4, rfl⟩
  clear hin
  go_wp2_with fail
  refine (hnum _).mono ?_
  rintro en w5 ⟨rfl, rfl⟩
  have hb5 := below_drewN hb3' k4
  have hin2 := ints_any A A7 n c n c7 l l (w3.drewN k4) _ _ (HN.out.below hb5) (HW3.out.drewN k4) (by omega) (by omega)
  rw [decide_eq_true rfl] at hin2
  clear hnum
  go_wp2_with fail
  refine hin2.mono ?_
  rintro en w6 ⟨rfl, k6, rfl⟩
  clear hin2
  go_wp2_with fail
  go_ret
  exact ⟨rfl, below_drewN hb3' (k4 + k6)⟩
end Go.Proofs.Ytllamlmeklalaaa
