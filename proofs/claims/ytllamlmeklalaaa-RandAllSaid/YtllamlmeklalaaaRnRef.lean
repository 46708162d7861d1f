/- Layer 16: the document's draw below n, its Pick. -/
import Derived.Test.YtllamlmeklalaaaRnMath
import Derived.Test.YtllamlmeklalaaaSl
import Derived.Test.YtllamlmeklalaaaGen
import Derived.Test.YtllamlmeklalaaaBase0
import Derived.Lib.Hide
import Derived.WalkSpells
import Derived.WalkLawsBesides
import Derived.Deep.Cut
import Derived.OwnWalk
namespace Go.Proofs.Ytllamlmeklalaaa
open Go.RowKit
set_option maxRecDepth 100000
set_option maxHeartbeats 1000000 in
theorem belowRef_any (d n : Int) (w : World) (_hd : N64 d) (hn : 1 ≤ n) (hm : n ≤ 2305843009213693952) : Calls Try.prog 18 #[.int .i64 d, .int .i64 n] w fun en w' => en = .returned (.int .i64 (d % n)) ∧ w' = w := by
  obtain ⟨q, hq⟩ : ∃ q, q = d % n := ⟨_, rfl⟩
  have hat := fun i h0 h1 => tmod_at d n i (by omega) h0 h1
  have hend := tmod_end d n (by omega)
  obtain ⟨t0, t1⟩ := tmod_rng d n (by omega)
  obtain ⟨r0, r1⟩ := emod_rng d n (by omega)
  rw [← hq] at hat hend r0 r1 ⊢
  have HAT := Lib.hid hat
  have HE := Lib.hid hend
  have h0 : (n == 0) = false := by simp; omega
  have h1 : (n == -1) = false := by simp; omega
  clear hat hend hq
  go_enter Try.func18, Try.ntmps18
  go_upto_region 2 with fail
  go_loopw [5] (fun i wr => ∃ k : Nat, i = .int .i64 ((k : Nat) : Int) ∧ (k : Int) ≤ q ∧ k ≤ 400 ∧ wr = w) (fun i _ => 400 - (intOf i).toNat)
  case atStart => exact ⟨0, rfl, by omega, by omega, rfl⟩
  case round =>
    obtain ⟨k, rfl, hk, hk4, rfl⟩ := hrel
    have d0 : decide ((k : Int) < n) = true := by simp; omega
    by_cases hlt : k < 400
    · have d1 : decide ((k : Int) < 400) = true := by simp; omega
      have hi := HAT.out (k : Int) (by omega) (by omega)
      by_cases e : (k : Int) = q
      · have d2 : ((d.tmod n + n - (k : Int)).tmod n == 0) = true := by rw [beq_iff_eq]; exact hi.2 e
        have HEQ := Lib.hid e
        clear e hi
        go_wp2_with fail
        go_ret
        exact ⟨by rw [← HEQ.out]; rfl, rfl⟩
      · have d2 : ((d.tmod n + n - (k : Int)).tmod n == 0) = false := by rw [beq_eq_false_iff_ne]; exact fun h => e (hi.1 h)
        clear hi
        go_wp2_with fail
        go_roundw
        case rel => exact ⟨k + 1, by go_num, by omega, by omega, by trivial⟩
        case measure => simp [intOf]; omega
    · have d1 : decide ((k : Int) < 400) = false := by simp; omega
      have he := HE.out
      go_wp2_with fail
      go_ret
      exact ⟨rfl, rfl⟩
set_option maxHeartbeats 1000000 in
theorem pickRef_any (A : Option Addr) (n c : Nat) (l : List Int) (cur m : Int) (w : World) (B : Nat) (hN : Nums .i64 w B A n l) (hn : n ≤ 5000) (hl : ∀ x ∈ l, N64 x) (hc : N64 cur) (hm : N64 m) :
    Calls Try.prog 9 #[.slice A n c, .int .i64 cur, .int .i64 m] w fun en w' => en = .returned (.tuple #[.int .i64 (pickD l cur m).1, .int .i64 (pickD l cur m).2.1, .int .i64 (pickD l cur m).2.2]) ∧ w' = w := by
  have hln := hN.len
  by_cases h1 : 4096 < n
  · have d1 : decide ((4096 : Int) < (n : Int)) = true := by simp; omega
    have HP := Lib.hid (show pickD l cur m = (0, 0, 19) from by unfold pickD; rw [if_pos (by omega)])
    clear hln
    go_enter Try.func9, Try.ntmps9
    go_wp2_with fail
    go_ret3
    exact ⟨by rw [HP.out]; rfl, rfl⟩
  · have d1 : decide ((4096 : Int) < (n : Int)) = false := by simp; omega
    by_cases h2 : m < 1 ∨ cur < 0
    · have HP := Lib.hid (show pickD l cur m = (0, 0, 1) from by unfold pickD; rw [if_neg (by omega), if_pos h2])
      clear hln
      by_cases h3 : m < 1
      · have d2 : decide (m < 1) = true := by simp; omega
        clear h2
        go_enter Try.func9, Try.ntmps9
        go_wp2_with fail
        go_ret3
        exact ⟨by rw [HP.out]; rfl, rfl⟩
      · have d2 : decide (m < 1) = false := by simp; omega
        have d3 : decide (cur < 0) = true := by simp; omega
        clear h2
        go_enter Try.func9, Try.ntmps9
        go_wp2_with fail
        go_ret3
        exact ⟨by rw [HP.out]; rfl, rfl⟩
    · have d2 : decide (m < 1) = false := by simp; omega
      have d3 : decide (cur < 0) = false := by simp; omega
      obtain ⟨k, rfl⟩ := Int.eq_ofNat_of_zero_le (show 0 ≤ cur by omega)
      by_cases h4 : n ≤ k
      · have d4 : decide ((n : Int) ≤ (k : Int)) = true := by simp; omega
        have HP := Lib.hid (show pickD l (k : Int) m = (0, 0, 13) from by unfold pickD; rw [if_neg (by omega), if_neg h2, if_pos (by omega)])
        clear hln h2 d3
        go_enter Try.func9, Try.ntmps9
        go_wp2_with fail
        go_ret3
        exact ⟨by rw [HP.out]; rfl, rfl⟩
      · have d4 : decide ((n : Int) ≤ (k : Int)) = false := by simp; omega
        have hk : k < l.length := by omega
        obtain ⟨a, rfl, _, hcell⟩ := hN.at_ hk
        obtain ⟨d, hd⟩ : ∃ d, d = l[k] := ⟨_, rfl⟩
        have hdi : N64 d := by rw [hd]; exact hl _ (List.getElem_mem hk)
        rw [← hd] at hcell
        have HP := Lib.hid (show pickD l (k : Int) m = (d % m, (k : Int) + 1, 0) from by
          unfold pickD
          rw [if_neg (by omega), if_neg h2, if_neg (by omega), Int.toNat_natCast, List.getD_eq_getElem?_getD, List.getElem?_eq_getElem hk, ← hd]; rfl)
        have g0 : (0 : Int) ≤ (k : Int) := by omega
        have g1 : (k : Int) < (n : Int) := by omega
        by_cases h5 : 2305843009213693952 < m
        · have d5 : decide ((2305843009213693952 : Int) < m) = true := by simp; omega
          have hng := tmod_neg d m (by omega)
          obtain ⟨t0, t1⟩ := tmod_rng d m (by omega)
          have hz0 : (m == 0) = false := by simp; omega
          have hz1 : (m == -1) = false := by simp; omega
          have HM := Lib.hid (And.intro hm hng)
          have hmx : m ≤ 9223372036854775807 := hm.2
          clear hln h2 hd hk hng hm
          by_cases h6 : d.tmod m < 0
          · have d6 : decide (d.tmod m < 0) = true := by simp; omega
            go_enter Try.func9, Try.ntmps9
            go_wp2_with fail
            go_ret3
            exact ⟨by rw [HP.out, ← HM.out.2, if_pos h6]; rfl, rfl⟩
          · have d6 : decide (d.tmod m < 0) = false := by simp; omega
            go_enter Try.func9, Try.ntmps9
            go_wp2_with fail
            go_ret3
            exact ⟨by rw [HP.out, ← HM.out.2, if_neg (by omega)]; rfl, rfl⟩
        · have d5 : decide ((2305843009213693952 : Int) < m) = false := by simp; omega
          have hb := belowRef_any d m w hdi (by omega) (by omega)
          obtain ⟨q, hq⟩ : ∃ q, q = d % m := ⟨_, rfl⟩
          rw [← hq] at hb HP
          clear hln h2 hd hk hm hq
          go_enter Try.func9, Try.ntmps9
          go_wp2_with fail
          refine hb.mono ?_
          rintro en w2 ⟨rfl, rfl⟩
          clear hb
          go_wp2_with fail
          go_ret3
          exact ⟨by rw [HP.out]; rfl, rfl⟩
end Go.Proofs.Ytllamlmeklalaaa
