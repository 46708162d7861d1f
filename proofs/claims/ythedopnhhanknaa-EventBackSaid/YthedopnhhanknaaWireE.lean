/- Layer 2: contracts of what takes: the first number, and how many bytes it has. -/
import Derived.Test.YthedopnhhanknaaWireA
import Derived.Test.YthedopnhhanknaaEvG2
namespace Go.Proofs.Ythedopnhhanknaa
open Go.RowKit Wx

def FirstRel (l : List Int) (u i : Value) : Prop :=
  ∃ k y : Nat, i = .int .i64 ((k : Nat) : Int) ∧ u = .int .u64 ((y : Nat) : Int) ∧ k ≤ l.length ∧ k ≤ 9 ∧ y < 128 ^ k ∧ dec k y (l.drop k) = tk l
theorem next_lt {k y b : Nat} (hk : k ≤ 9) (hy : y < 128 ^ k) (hb : b < 128) (h9 : k = 9 → b ≤ 1) : y + 128 ^ k * b < 18446744073709551616 := by
  rcases Nat.lt_or_ge k 9 with h | h
  · have h1 : 128 ^ k * b ≤ 128 ^ k * 127 := Nat.mul_le_mul_left _ (by omega)
    have h2 : 128 ^ k ≤ 128 ^ 8 := Nat.pow_le_pow_right (by decide) (by omega)
    rw [show (128 : Nat) ^ 8 = 72057594037927936 by decide] at h2
    omega
  · obtain rfl : k = 9 := by omega
    have h1 : 128 ^ 9 * b ≤ 128 ^ 9 * 1 := Nat.mul_le_mul_left _ (h9 rfl)
    rw [show (128 : Nat) ^ 9 = 9223372036854775808 by decide] at *
    omega
theorem next_pow {k y b : Nat} (hy : y < 128 ^ k) (hb : b < 128) : y + 128 ^ k * b < 128 ^ (k + 1) := by
  have h1 : 128 ^ k * b ≤ 128 ^ k * 127 := Nat.mul_le_mul_left _ (by omega)
  rw [Nat.pow_succ]; omega
theorem or_byte {k y : Nat} {b : Int} (hk : k ≤ 9) (hy : y < 128 ^ k) (h0 : 0 ≤ b) (h1 : b < 256) (h9 : k = 9 → b % 128 ≤ 1) :
    bits .or .u64 (y : Int) (IntKind.u64.wrap (IntKind.u64.wrap (bits .andNot .u8 b 128) * 2 ^ (7 * k))) = ((y + 128 ^ k * (b.toNat % 128) : Nat) : Int) := by
  obtain ⟨m, rfl⟩ := Int.eq_ofNat_of_zero_le h0
  rw [without_128 _ h0 h1, Int.toNat_natCast]
  have e : IntKind.u64.wrap ((m : Int) % 128) = ((m % 128 : Nat) : Int) := by rw [IntKind.wrap_u64]; omega
  rw [e]
  exact or_next y (m % 128) k hy (next_lt hk hy (by omega) (fun h => by have := h9 h; omega))
/-- How a round of the loop may end. -/
theorem fin_zero {l : List Int} {k y : Nat} {b : Int} {r : Int × Nat × Int} (hlt : k < l.length) (hb : b = l[k]) (hd : dec k y (l.drop k) = tk l) (hr : tk l = r) (h0 : b = 0) (hk : 0 < k) : r = (0, 0, 2) := by
  rw [← hr, ← hd, dec_zero hlt (by rw [← hb]; exact h0) hk]
theorem fin_ten {l : List Int} {k y : Nat} {b : Int} {r : Int × Nat × Int} (hlt : k < l.length) (hb : b = l[k]) (hd : dec k y (l.drop k) = tk l) (hr : tk l = r) (h0 : 1 < b) (hk : k = 9) : r = (0, 0, 2) := by
  subst hk
  rw [← hr, ← hd, dec_ten hlt (by rw [← hb]; exact h0)]
theorem fin_last {l : List Int} {k y : Nat} {b : Int} {r : Int × Nat × Int} (hlt : k < l.length) (hb : b = l[k]) (hd : dec k y (l.drop k) = tk l) (hr : tk l = r) (h0 : 0 ≤ b) (h1 : b < 128) (hz : ¬ (b = 0 ∧ 0 < k)) (h9 : ¬ (k = 9 ∧ 1 < b)) :
    r = (unf (y + 128 ^ k * (b.toNat % 128)), k + 1, 0) := by
  subst hb
  rw [← hr, ← hd, dec_last hlt h1 hz h9, Nat.mod_eq_of_lt (by omega)]
theorem fin_end {l : List Int} {k y : Nat} {r : Int × Nat × Int} (hlt : l.length ≤ k) (hd : dec k y (l.drop k) = tk l) (hr : tk l = r) : r = (0, 0, 7) := by
  rw [← hr, ← hd, List.drop_of_length_le hlt, dec]
theorem firstRel_next {l : List Int} {k y : Nat} {b : Int} (hlt : k < l.length) (hb : b = l[k]) (hy : y < 128 ^ k) (hd : dec k y (l.drop k) = tk l) (h1 : 128 ≤ b) (h2 : b < 256) (h9 : k < 9) :
    FirstRel l (.int .u64 ((y + 128 ^ k * (b.toNat % 128) : Nat) : Int)) (.int .i64 ((k + 1 : Nat) : Int)) := by
  refine ⟨k + 1, _, rfl, rfl, by omega, by omega, next_pow hy (by omega), ?_⟩
  subst hb
  rw [dec_more hlt h1 h9] at hd
  rw [← hd, show l[k].toNat - 128 = l[k].toNat % 128 by omega]
set_option maxRecDepth 100000 in
set_option maxHeartbeats 400000 in
theorem first_gen (A : Option Addr) (n c : Nat) (l : List Int) (w : World) (B : Nat) (hN : Nums .u8 w B A n l) (hb : byB l) (hn : n ≤ 1000000000) (r : Int × Nat × Int) (hr : tk l = r) :
    Calls Try.prog 53 #[.slice A n c] w fun e w' => e = .returned (.tuple #[.int .i64 r.1, .int .i64 r.2.1, errV r.2.2]) ∧ w = w' := by
  obtain rfl := hN.len
  have HN := Lib.hid hN
  have HB := Lib.hid hb
  have HR := Lib.hid hr
  clear hN hb hr
  go_enter Try.func53, Try.ntmps53
  go_wp2_with fail
  go_loop [5, 11] (fun u i => FirstRel l u i) (fun _ i => l.length - (intOf i).toNat)
  case atStart => exact ⟨0, 0, rfl, rfl, by omega, by omega, by decide, rfl⟩
  case round =>
    obtain ⟨k, y, rfl, rfl, hk, hk9, hy, hd⟩ := hrel
    have HY := Lib.hid hy
    have HD := Lib.hid hd
    clear hy hd
    by_cases hlt : k < l.length
    · obtain ⟨a, hA, hab, hc⟩ := HN.out.at_ hlt
      have hB := HB.out _ (List.getElem_mem hlt)
      obtain ⟨b, hb⟩ : ∃ b, b = l[k] := ⟨_, rfl⟩
      rw [← hb] at hc hB
      obtain ⟨hb0, hb1⟩ := hB
      have Hb := Lib.hid hb
      clear hb
      subst hA
      by_cases h1 : b < 128
      · by_cases h2 : b = 0
        · have H2 := Lib.hid h2
          have h2' : (b == 0) = true := beq_iff_eq.2 h2
          clear h2
          by_cases h3 : 0 < k
          · have HF := Lib.hid (fin_zero hlt Hb.out HD.out HR.out H2.out h3)
            go_wp2_with fail
            go_ret3
            rw [HF.out]; exact ⟨rfl, rfl⟩
          · have h4' : ((k : Int) == 9) = false := beq_eq_false_iff_ne.2 (by omega)
            have HF := Lib.hid (fin_last hlt Hb.out HD.out HR.out hb0 h1 (by omega) (by omega))
            have HV := Lib.hid (or_byte hk9 HY.out hb0 hb1 (by omega))
            have HX := Lib.hid (next_lt (b := b.toNat % 128) hk9 HY.out (by omega) (by omega))
            go_wp2_with fail
            rw [HV.out]
            refine (unfold_any _ HX.out _).mono ?_
            rintro e w' ⟨rfl, rfl⟩
            go_wp2_with fail
            go_ret3
            rw [HF.out]; exact ⟨rfl, rfl⟩
        · have H2 := Lib.hid h2
          have h2' : (b == 0) = false := beq_eq_false_iff_ne.2 h2
          by_cases h4 : k < 9
          · have h4' : ((k : Int) == 9) = false := beq_eq_false_iff_ne.2 (by omega)
            have HF := Lib.hid (fin_last hlt Hb.out HD.out HR.out hb0 h1 (by omega) (by omega))
            have HV := Lib.hid (or_byte hk9 HY.out hb0 hb1 (by omega))
            have HX := Lib.hid (next_lt (b := b.toNat % 128) hk9 HY.out (by omega) (by omega))
            clear h2
            go_wp2_with fail
            rw [HV.out]
            refine (unfold_any _ HX.out _).mono ?_
            rintro e w' ⟨rfl, rfl⟩
            go_wp2_with fail
            go_ret3
            rw [HF.out]; exact ⟨rfl, rfl⟩
          · have h4' : ((k : Int) == 9) = true := beq_iff_eq.2 (by omega)
            by_cases h5 : 1 < b
            · have HF := Lib.hid (fin_ten hlt Hb.out HD.out HR.out h5 (by omega))
              clear h2
              go_wp2_with fail
              go_ret3
              rw [HF.out]; exact ⟨rfl, rfl⟩
            · have HF := Lib.hid (fin_last hlt Hb.out HD.out HR.out hb0 h1 (by omega) (by omega))
              have HV := Lib.hid (or_byte hk9 HY.out hb0 hb1 (by omega))
              have HX := Lib.hid (next_lt (b := b.toNat % 128) hk9 HY.out (by omega) (by omega))
              clear h2
              go_wp2_with fail
              rw [HV.out]
              refine (unfold_any _ HX.out _).mono ?_
              rintro e w' ⟨rfl, rfl⟩
              go_wp2_with fail
              go_ret3
              rw [HF.out]; exact ⟨rfl, rfl⟩
      · by_cases h4 : k < 9
        · have h4' : ((k : Int) == 9) = false := beq_eq_false_iff_ne.2 (by omega)
          have HF := Lib.hid (firstRel_next hlt Hb.out HY.out HD.out (by omega) hb1 h4)
          have HV := Lib.hid (or_byte hk9 HY.out hb0 hb1 (by omega))
          go_wp2_with fail
          go_round
          case rel => rw [HV.out]; exact HF.out
          case measure => simp [intOf]; omega
        · have h4' : ((k : Int) == 9) = true := beq_iff_eq.2 (by omega)
          have HF := Lib.hid (fin_ten hlt Hb.out HD.out HR.out (by omega) (by omega))
          go_wp2_with fail
          go_ret3
          rw [HF.out]; exact ⟨rfl, rfl⟩
    · have HF := Lib.hid (fin_end (by omega) HD.out HR.out)
      go_wp2_with fail
      go_ret3
      rw [HF.out]; exact ⟨rfl, rfl⟩
theorem first_ok (A : Option Addr) (n c : Nat) (l : List Int) (w : World) (B : Nat) (hN : Nums .u8 w B A n l) (hb : byB l) (hn : n ≤ 1000000000) (z : Int) (k : Nat) (hr : tk l = (z, k, 0)) :
    Calls Try.prog 53 #[.slice A n c] w fun e w' => e = .returned (.tuple #[.int .i64 z, .int .i64 k, .nilIface]) ∧ w = w' := first_gen A n c l w B hN hb hn _ hr
theorem first_bad (A : Option Addr) (n c : Nat) (l : List Int) (w : World) (B : Nat) (hN : Nums .u8 w B A n l) (hb : byB l) (hn : n ≤ 1000000000) (e0 : Int) (h0 : e0 ≠ 0) (hr : tk l = (0, 0, e0)) :
    Calls Try.prog 53 #[.slice A n c] w fun e w' => e = .returned (.tuple #[.int .i64 0, .int .i64 0, .iface 65 (.int .i64 e0)]) ∧ w = w' := by
  have h := first_gen A n c l w B hN hb hn _ hr
  rw [errV_err h0] at h
  exact h
end Go.Proofs.Ythedopnhhanknaa
