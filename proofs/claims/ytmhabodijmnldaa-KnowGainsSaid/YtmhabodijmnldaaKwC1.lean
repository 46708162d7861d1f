/- Layer 15: the landed code's Knows, Zone, Show, Hide, Gains, Gained. -/
import Derived.Test.YtmhabodijmnldaaKwBits
import Derived.Test.YtmhabodijmnldaaKwRef
import Derived.Test.YtmhabodijmnldaaNtEvP
import Derived.Test.YtmhabodijmnldaaEvLe
import Derived.Test.YtmhabodijmnldaaStSide
import Derived.Test.YtmhabodijmnldaaBitsCode
namespace Go.Proofs.Ytmhabodijmnldaa
open Go.RowKit Ex Bx
set_option maxRecDepth 100000
def plB (p : Int) : Bool := decide (p = 0) || decide (p = 1)
theorem isPlayer_code (p : Int) (w : World) : Calls Try.prog 22 #[.int .i64 p] w fun e w' => e = .returned (.bool (plB p)) ∧ w = w' := by
  unfold plB
  by_cases h0 : p = 0
  · subst h0
    go_enter Try.func22, Try.ntmps22
    go_wp2_with fail
    go_ret
    exact ⟨rfl, rfl⟩
  by_cases h1 : p = 1
  · subst h1
    go_enter Try.func22, Try.ntmps22
    go_wp2_with fail
    go_ret
    exact ⟨rfl, rfl⟩
  rw [decide_eq_false h0, decide_eq_false h1]
  have d0 : (p == 0) = false := by simp [h0]
  have d1 : (p == 1) = false := by simp [h1]
  clear h0 h1
  go_enter Try.func22, Try.ntmps22
  go_wp2_with fail
  go_ret
  exact ⟨rfl, rfl⟩
theorem bitK_has (x p : Int) (u : Nat) (h0 : (u : Int) % 2 = x % 2) (h1 : (u : Int) / 2 % 2 = x / 2 % 2) (hp : p = 0 ∨ p = 1) : (memB p && u.testBit p.toNat) = bitK x p := by
  rcases hp with rfl | rfl
  · rw [bit0, show memB 0 = true from rfl, Bool.true_and, show (0 : Int).toNat = 0 from rfl, Nat.testBit_zero, decide_eq_decide]; omega
  · rw [bit1, show memB 1 = true from rfl, Bool.true_and, show (1 : Int).toNat = 1 from rfl, Nat.testBit_succ, Nat.testBit_zero, decide_eq_decide]; omega
set_option maxHeartbeats 0 in
theorem knows_code (o : Nat → Int) (p : Int) (w : World) : Calls Try.prog 7 #[.agg (arr .i64 18 o), .int .i64 p] w fun en w' => en = .returned (.bool (bitK (o 17) p)) ∧ Below w.heap.size w w' := by
  obtain ⟨u, hu, hu2, h0, h1⟩ := wrap_bits (o 17)
  have hb : Below w.heap.size w (w.alloc (.cells (arr .i64 18 o) 33)) := (Below.refl _ _).alloc (Nat.le_refl _) _
  have ha : ArrAt .i64 18 33 (w.alloc (.cells (arr .i64 18 o) 33)) w.heap.size o := ArrAt.new _ _ _ _ _
  have c17 := ha.cell (show 17 < 18 by omega)
  clear ha
  have HB := Lib.hid hb
  obtain ⟨b, hbe⟩ : ∃ b, b = bitK (o 17) p := ⟨_, rfl⟩
  rw [← hbe]
  by_cases hp : p = 0 ∨ p = 1
  · have hpl : plB p = true := by unfold plB; rcases hp with h | h <;> simp [h]
    have HH := Lib.hid (fun W => has_is u hu2 p W)
    rw [bitK_has _ _ _ h0 h1 hp, ← hbe] at HH
    have HP := Lib.hid (fun W => isPlayer_code p W)
    rw [hpl] at HP
    clear hbe hp h0 h1 hu2 hb hpl
    go_enter Try.func7, Try.ntmps7
    go_upto_region 1 with fail
    go_wp2_with fail
    refine (HP.out _).mono ?_
    rintro en w2 ⟨rfl, rfl⟩
    go_wp2_with fail
    refine (HH.out _).mono ?_
    rintro en w3 ⟨rfl, rfl⟩
    go_wp2_with fail
    go_ret
    exact ⟨rfl, HB.out⟩
  · have hpl : plB p = false := by unfold plB; simp; omega
    have HP := Lib.hid (fun W => isPlayer_code p W)
    rw [hpl] at HP
    obtain rfl : b = false := by rw [hbe]; exact bitN (fun h => hp (.inl h)) (fun h => hp (.inr h))
    clear hbe hp h0 h1 hu2 hb hpl
    go_enter Try.func7, Try.ntmps7
    go_upto_region 1 with fail
    go_wp2_with fail
    refine (HP.out _).mono ?_
    rintro en w2 ⟨rfl, rfl⟩
    go_wp2_with fail
    go_ret
    exact ⟨rfl, HB.out⟩
set_option maxHeartbeats 0 in
theorem zone_codeK (z : Int) (w : World) : Calls Try.prog 11 #[.int .i64 z] w fun en w' => en = .returned (.int .i64 (zoneK z)) ∧ Below w.heap.size w w' := by
  suffices hh : Calls Try.prog 11 #[.int .i64 z] w fun en w' => en = .returned (.int .i64 (zoneK z)) ∧ w = w' from hh.mono fun en w' h => ⟨h.1, h.2 ▸ Below.refl _ _⟩
  by_cases hr : 0 ≤ z ∧ z ≤ 10
  · have hk : z = 0 ∨ z = 1 ∨ z = 2 ∨ z = 3 ∨ z = 4 ∨ z = 5 ∨ z = 6 ∨ z = 7 ∨ z = 8 ∨ z = 9 ∨ z = 10 := by omega
    clear hr
    rcases hk with rfl | rfl | rfl | rfl | rfl | rfl | rfl | rfl | rfl | rfl | rfl
    ·
      have HS := Lib.hid (side_code 0 w)
      rw [show sideB 0 = 0 from rfl, show sideP 0 = 0 from rfl, show sideO 0 = true from rfl] at HS
      rw [show zoneK 0 = 0 from rfl]
      go_enter Try.func11, Try.ntmps11
      go_wp2_with fail
      refine HS.out.mono ?_
      rintro en w' ⟨rfl, rfl⟩
      go_wp2_with fail
      go_ret
      exact ⟨rfl, rfl⟩
    ·
      have HS := Lib.hid (side_code 1 w)
      rw [show sideB 1 = 0 from rfl, show sideP 1 = 1 from rfl, show sideO 1 = true from rfl] at HS
      rw [show zoneK 1 = 0 from rfl]
      go_enter Try.func11, Try.ntmps11
      go_wp2_with fail
      refine HS.out.mono ?_
      rintro en w' ⟨rfl, rfl⟩
      go_wp2_with fail
      go_ret
      exact ⟨rfl, rfl⟩
    ·
      have HS := Lib.hid (side_code 2 w)
      rw [show sideB 2 = 2 from rfl, show sideP 2 = 0 from rfl, show sideO 2 = true from rfl] at HS
      rw [show zoneK 2 = 1 from rfl]
      go_enter Try.func11, Try.ntmps11
      go_wp2_with fail
      refine HS.out.mono ?_
      rintro en w' ⟨rfl, rfl⟩
      go_wp2_with fail
      go_ret
      exact ⟨rfl, rfl⟩
    ·
      have HS := Lib.hid (side_code 3 w)
      rw [show sideB 3 = 2 from rfl, show sideP 3 = 1 from rfl, show sideO 3 = true from rfl] at HS
      rw [show zoneK 3 = 2 from rfl]
      go_enter Try.func11, Try.ntmps11
      go_wp2_with fail
      refine HS.out.mono ?_
      rintro en w' ⟨rfl, rfl⟩
      go_wp2_with fail
      go_ret
      exact ⟨rfl, rfl⟩
    ·
      have HS := Lib.hid (side_code 4 w)
      rw [show sideB 4 = 4 from rfl, show sideP 4 = 0 from rfl, show sideO 4 = true from rfl] at HS
      rw [show zoneK 4 = 3 from rfl]
      go_enter Try.func11, Try.ntmps11
      go_wp2_with fail
      refine HS.out.mono ?_
      rintro en w' ⟨rfl, rfl⟩
      go_wp2_with fail
      go_ret
      exact ⟨rfl, rfl⟩
    ·
      have HS := Lib.hid (side_code 5 w)
      rw [show sideB 5 = 4 from rfl, show sideP 5 = 1 from rfl, show sideO 5 = true from rfl] at HS
      rw [show zoneK 5 = 3 from rfl]
      go_enter Try.func11, Try.ntmps11
      go_wp2_with fail
      refine HS.out.mono ?_
      rintro en w' ⟨rfl, rfl⟩
      go_wp2_with fail
      go_ret
      exact ⟨rfl, rfl⟩
    ·
      have HS := Lib.hid (side_code 6 w)
      rw [show sideB 6 = 6 from rfl, show sideP 6 = 0 from rfl, show sideO 6 = true from rfl] at HS
      rw [show zoneK 6 = 3 from rfl]
      go_enter Try.func11, Try.ntmps11
      go_wp2_with fail
      refine HS.out.mono ?_
      rintro en w' ⟨rfl, rfl⟩
      go_wp2_with fail
      go_ret
      exact ⟨rfl, rfl⟩
    ·
      have HS := Lib.hid (side_code 7 w)
      rw [show sideB 7 = 6 from rfl, show sideP 7 = 1 from rfl, show sideO 7 = true from rfl] at HS
      rw [show zoneK 7 = 3 from rfl]
      go_enter Try.func11, Try.ntmps11
      go_wp2_with fail
      refine HS.out.mono ?_
      rintro en w' ⟨rfl, rfl⟩
      go_wp2_with fail
      go_ret
      exact ⟨rfl, rfl⟩
    ·
      have HS := Lib.hid (side_code 8 w)
      rw [show sideB 8 = 8 from rfl, show sideP 8 = 0 from rfl, show sideO 8 = false from rfl] at HS
      rw [show zoneK 8 = 3 from rfl]
      go_enter Try.func11, Try.ntmps11
      go_wp2_with fail
      refine HS.out.mono ?_
      rintro en w' ⟨rfl, rfl⟩
      go_wp2_with fail
      go_ret
      exact ⟨rfl, rfl⟩
    ·
      have HS := Lib.hid (side_code 9 w)
      rw [show sideB 9 = 9 from rfl, show sideP 9 = 0 from rfl, show sideO 9 = false from rfl] at HS
      rw [show zoneK 9 = 3 from rfl]
      go_enter Try.func11, Try.ntmps11
      go_wp2_with fail
      refine HS.out.mono ?_
      rintro en w' ⟨rfl, rfl⟩
      go_wp2_with fail
      go_ret
      exact ⟨rfl, rfl⟩
    ·
      have HS := Lib.hid (side_code 10 w)
      rw [show sideB 10 = 10 from rfl, show sideP 10 = 0 from rfl, show sideO 10 = false from rfl] at HS
      rw [show zoneK 10 = 3 from rfl]
      go_enter Try.func11, Try.ntmps11
      go_wp2_with fail
      refine HS.out.mono ?_
      rintro en w' ⟨rfl, rfl⟩
      go_wp2_with fail
      go_ret
      exact ⟨rfl, rfl⟩
  · have e : zoneK z = 0 := by
      unfold zoneK
      rw [if_neg (by omega), if_neg (by omega), if_neg (by omega)]
    have hb : sideB z = 0 := by unfold sideB; rw [if_neg (by omega), if_neg (by omega)]
    have hp : sideP z = 0 := by unfold sideP; rw [if_neg (by omega)]
    have ho : sideO z = false := by rw [Bool.eq_false_iff]; intro h; simp [sideO] at h; omega
    have HS := Lib.hid (side_code z w)
    rw [hb, hp, ho] at HS
    rw [e]
    clear hr e hb hp ho
    go_enter Try.func11, Try.ntmps11
    go_wp2_with fail
    refine HS.out.mono ?_
    rintro en w' ⟨rfl, rfl⟩
    go_wp2_with fail
    go_ret
    exact ⟨rfl, rfl⟩
theorem isObject_code (s : StT) (O : SlT) (L : Nat → SlT) (cs : Array Value) (id : Int) (w : World) (h : ReadsS w.heap.size w cs s O L) :
    Calls Try.prog 25 #[.agg cs, .int .i64 id] w fun en w' => en = .returned (.bool (decide (0 ≤ id) && decide (id < (s.objs.length : Int)))) ∧ Below w.heap.size w w' := by
  have hcs := h.cs
  have c0 : cs[0]? = some (.slice O.A O.n O.c) := by rw [hcs]; exact stC_objs _ _ _ _
  have hOn := h.on
  obtain ⟨A, n, c⟩ := O
  simp only at c0 hOn
  subst hOn
  clear hcs h
  have hs0 : StAt (w.alloc (.cells cs 29)) w.heap.size cs := StAt.new _ _
  have hb0 : Below w.heap.size w (w.alloc (.cells cs 29)) := (Below.refl _ _).alloc (Nat.le_refl _) _
  have cg : (w.alloc (.cells cs 29)).cell? ⟨w.heap.size, 0, none⟩ = some (.slice A s.objs.length c) := by rw [hs0.cell]; exact c0
  have HB := Lib.hid hb0
  clear c0 hs0 hb0
  obtain ⟨r, hr⟩ : ∃ r, r = (decide (0 ≤ id) && decide (id < (s.objs.length : Int))) := ⟨_, rfl⟩
  rw [← hr]
  by_cases h0 : 0 ≤ id
  · by_cases h1 : id < (s.objs.length : Int)
    · obtain rfl : r = true := by rw [hr, decide_eq_true h0, decide_eq_true h1]; rfl
      clear hr
      go_enter Try.func25, Try.ntmps25
      go_wp2_with fail
      go_ret
      exact ⟨rfl, HB.out⟩
    · obtain rfl : r = false := by rw [hr, decide_eq_false h1, Bool.and_false]
      clear hr
      go_enter Try.func25, Try.ntmps25
      go_wp2_with fail
      go_ret
      exact ⟨rfl, HB.out⟩
  · obtain rfl : r = false := by rw [hr, decide_eq_false h0, Bool.false_and]
    have d0 : decide (0 ≤ id) = false := decide_eq_false h0
    clear hr h0
    go_enter Try.func25, Try.ntmps25
    go_wp2_with fail
    go_ret
    exact ⟨rfl, HB.out⟩
end Go.Proofs.Ytmhabodijmnldaa
