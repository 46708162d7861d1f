/- Layer 2: the document's answers for what is taken. -/
import Derived.Test.YthedopnhhanknaaWireE
import Derived.Test.YthedopnhhanknaaWireB
namespace Go.Proofs.Ythedopnhhanknaa
open Go.RowKit Wx
def WorthOf (k v : Nat) : Prop := v = 128 ^ k
def RTRel (l : List Int) (u v i : Value) : Prop :=
  ∃ k y z : Nat, i = .int .i64 ((k : Nat) : Int) ∧ u = .int .u64 ((y : Nat) : Int) ∧ v = .int .u64 ((z : Nat) : Int) ∧ k ≤ l.length ∧ k ≤ 9 ∧ y < 128 ^ k ∧ WorthOf k z ∧ dec k y (l.drop k) = tk l
theorem worth_byte {k z : Nat} {b : Int} (hk : k ≤ 9) (hz : WorthOf k z) (h0 : 0 ≤ b) (h9 : k = 9 → b % 128 ≤ 1) : IntKind.u64.wrap ((z : Int) * (b % 128)) = ((128 ^ k * (b.toNat % 128) : Nat) : Int) := by
  unfold WorthOf at hz
  subst hz
  obtain ⟨m, rfl⟩ := Int.eq_ofNat_of_zero_le h0
  have h1 := next_lt (b := m % 128) hk (Nat.pow_pos (by decide) : 0 < 128 ^ k) (by omega) (fun h => by have := h9 h; omega)
  rw [Int.toNat_natCast, show ((m : Int) % 128) = ((m % 128 : Nat) : Int) by omega, ← Int.natCast_mul, IntKind.wrap_u64]
  generalize 128 ^ k * (m % 128) = q at *
  omega
theorem worth_next {k z : Nat} (hk : k < 9) (hz : WorthOf k z) : ∃ z' : Nat, IntKind.u64.wrap ((z : Int) * 128) = (z' : Int) ∧ WorthOf (k + 1) z' := by
  unfold WorthOf at *
  subst hz
  have h1 : 128 ^ (k + 1) ≤ 128 ^ 9 := Nat.pow_le_pow_right (by decide) (by omega)
  rw [show (128 : Nat) ^ 9 = 9223372036854775808 by decide] at h1
  refine ⟨128 ^ (k + 1), ?_, rfl⟩
  rw [Nat.pow_succ] at *
  rw [IntKind.wrap_u64]
  generalize 128 ^ k = q at *
  omega
theorem unf_even {q : Nat} (h : q % 2 = 0) : (q : Int) / 2 = unf q := by unfold unf; rw [if_pos h]; omega
theorem unf_odd {q : Nat} (h : ¬ q % 2 = 0) : -((q : Int) / 2) - 1 = unf q := by unfold unf; rw [if_neg h]; omega
theorem rtRel_next {l : List Int} {k y p : Nat} {b : Int} {v : Value} (hp : p = 128 ^ k * (b.toNat % 128)) (hf : FirstRel l (.int .u64 ((y + 128 ^ k * (b.toNat % 128) : Nat) : Int)) (.int .i64 ((k + 1 : Nat) : Int)))
    (hv : ∃ z' : Nat, v = .int .u64 (z' : Int) ∧ WorthOf (k + 1) z') : RTRel l (.int .u64 ((y : Int) + (p : Int))) v (.int .i64 ((k : Int) + 1)) := by
  obtain ⟨k', y', e1, e2, h1, h2, h3, h4⟩ := hf
  injection e1 with _ e1
  injection e2 with _ e2
  obtain rfl : k' = k + 1 := by omega
  obtain ⟨z', rfl, hz⟩ := hv
  subst hp
  refine ⟨k + 1, y', z', by go_num, ?_, rfl, h1, h2, h3, hz, h4⟩
  rw [← e2]; go_num
set_option maxRecDepth 100000 in
set_option maxHeartbeats 400000 in
theorem takeRef_gen (A : Option Addr) (n c : Nat) (l : List Int) (w : World) (B : Nat) (hN : Nums .u8 w B A n l) (hb : byB l) (hn : n ≤ 1000000000) (r : Int × Nat × Int) (hr : tk l = r) :
    Calls Try.prog 23 #[.slice A n c] w fun e w' => e = .returned (.tuple #[.int .i64 r.1, .int .i64 r.2.1, .int .i64 r.2.2]) ∧ w = w' := by
  obtain rfl := hN.len
  have HN := Lib.hid hN
  have HB := Lib.hid hb
  have HR := Lib.hid hr
  clear hN hb hr
  go_enter Try.func23, Try.ntmps23
  go_wp2_with fail
  go_loop [5, 6, 7] (fun u v i => RTRel l u v i) (fun _ _ i => l.length - (intOf i).toNat)
  case atStart => exact ⟨0, 0, 1, rfl, rfl, rfl, by omega, by omega, by decide, rfl, rfl⟩
  case round =>
    obtain ⟨k, y, z, rfl, rfl, rfl, hk, hk9, hy, hz, hd⟩ := hrel
    have HY := Lib.hid hy
    have HZ := Lib.hid hz
    have HD := Lib.hid hd
    clear hy hd hz
    by_cases hlt : k < l.length
    · obtain ⟨a, hA, hab, hc⟩ := HN.out.at_ hlt
      have hB := HB.out _ (List.getElem_mem hlt)
      obtain ⟨b, hb⟩ : ∃ b, b = l[k] := ⟨_, rfl⟩
      rw [← hb] at hc hB
      obtain ⟨hb0, hb1⟩ := hB
      have Hb := Lib.hid hb
      clear hb
      subst hA
      by_cases h1 : b < 128
      · by_cases h2 : b = 0
        · have H2 := Lib.hid h2
          have h2' : (b == 0) = true := beq_iff_eq.2 h2
          by_cases h3 : 0 < k
          · have HF := Lib.hid (fin_zero hlt Hb.out HD.out HR.out H2.out h3)
            have Hp := Lib.hid (worth_byte hk9 HZ.out hb0 (by omega))
            have Hlt := next_lt (b := b.toNat % 128) hk9 HY.out (by omega) (by omega)
            clear h2
            by_cases h4 : k < 9
            · have h4' : ((k : Int) == 9) = false := beq_eq_false_iff_ne.2 (by omega)
              go_wp2_with fail
              go_ret3
              rw [HF.out]; exact ⟨rfl, rfl⟩
            · have h4' : ((k : Int) == 9) = true := beq_iff_eq.2 (by omega)
              have h5 : ¬ 1 < b := by have := H2.out; omega
              go_wp2_with fail
              go_ret3
              rw [HF.out]; exact ⟨rfl, rfl⟩
          · have h4' : ((k : Int) == 9) = false := beq_eq_false_iff_ne.2 (by omega)
            have Hp := Lib.hid (worth_byte hk9 HZ.out hb0 (by omega))
            have Hlt := next_lt (b := b.toNat % 128) hk9 HY.out (by omega) (by omega)
            obtain ⟨p, hp⟩ : ∃ p, p = 128 ^ k * (b.toNat % 128) := ⟨_, rfl⟩
            rw [← hp] at Hp Hlt
            have HF := Lib.hid (fin_last hlt Hb.out HD.out HR.out hb0 h1 (by omega) (by omega))
            rw [← hp] at HF
            clear hp
            have hp1 := Hp.out
            clear h2
            by_cases hev : (y + p) % 2 = 0
            · have hev' : (((y : Int) + (p : Int)) % 2 == 0) = true := beq_iff_eq.2 (by omega)
              have HU := Lib.hid (unf_even hev)
              clear hev
              go_wp2_with fail
              go_ret3
              rw [HF.out]
              refine ⟨?_, rfl⟩
              rw [← HU.out]; simp
            · have hev' : (((y : Int) + (p : Int)) % 2 == 0) = false := beq_eq_false_iff_ne.2 (by omega)
              have HU := Lib.hid (unf_odd hev)
              clear hev
              go_wp2_with fail
              go_ret3
              rw [HF.out]
              refine ⟨?_, rfl⟩
              rw [← HU.out]; simp
        · have H2 := Lib.hid h2
          have h2' : (b == 0) = false := beq_eq_false_iff_ne.2 h2
          by_cases h4 : k < 9
          · have h4' : ((k : Int) == 9) = false := beq_eq_false_iff_ne.2 (by omega)
            have Hp := Lib.hid (worth_byte hk9 HZ.out hb0 (by omega))
            have Hlt := next_lt (b := b.toNat % 128) hk9 HY.out (by omega) (by omega)
            obtain ⟨p, hp⟩ : ∃ p, p = 128 ^ k * (b.toNat % 128) := ⟨_, rfl⟩
            rw [← hp] at Hp Hlt
            have HF := Lib.hid (fin_last hlt Hb.out HD.out HR.out hb0 h1 (by omega) (by omega))
            rw [← hp] at HF
            clear hp
            have hp1 := Hp.out
            clear h2
            by_cases hev : (y + p) % 2 = 0
            · have hev' : (((y : Int) + (p : Int)) % 2 == 0) = true := beq_iff_eq.2 (by omega)
              have HU := Lib.hid (unf_even hev)
              clear hev
              go_wp2_with fail
              go_ret3
              rw [HF.out]
              refine ⟨?_, rfl⟩
              rw [← HU.out]; simp
            · have hev' : (((y : Int) + (p : Int)) % 2 == 0) = false := beq_eq_false_iff_ne.2 (by omega)
              have HU := Lib.hid (unf_odd hev)
              clear hev
              go_wp2_with fail
              go_ret3
              rw [HF.out]
              refine ⟨?_, rfl⟩
              rw [← HU.out]; simp
          · have h4' : ((k : Int) == 9) = true := beq_iff_eq.2 (by omega)
            by_cases h5 : 1 < b
            · have HF := Lib.hid (fin_ten hlt Hb.out HD.out HR.out h5 (by omega))
              clear h2
              go_wp2_with fail
              go_ret3
              rw [HF.out]; exact ⟨rfl, rfl⟩
            · have h5' := Lib.hid h5
              have Hp := Lib.hid (worth_byte hk9 HZ.out hb0 (by omega))
              have Hlt := next_lt (b := b.toNat % 128) hk9 HY.out (by omega) (by omega)
              obtain ⟨p, hp⟩ : ∃ p, p = 128 ^ k * (b.toNat % 128) := ⟨_, rfl⟩
              rw [← hp] at Hp Hlt
              have HF := Lib.hid (fin_last hlt Hb.out HD.out HR.out hb0 h1 (by omega) (by omega))
              rw [← hp] at HF
              clear hp
              have hp1 := Hp.out
              clear h2
              by_cases hev : (y + p) % 2 = 0
              · have hev' : (((y : Int) + (p : Int)) % 2 == 0) = true := beq_iff_eq.2 (by omega)
                have HU := Lib.hid (unf_even hev)
                clear hev
                go_wp2_with fail
                go_ret3
                rw [HF.out]
                refine ⟨?_, rfl⟩
                rw [← HU.out]; simp
              · have hev' : (((y : Int) + (p : Int)) % 2 == 0) = false := beq_eq_false_iff_ne.2 (by omega)
                have HU := Lib.hid (unf_odd hev)
                clear hev
                go_wp2_with fail
                go_ret3
                rw [HF.out]
                refine ⟨?_, rfl⟩
                rw [← HU.out]; simp
      · by_cases h4 : k < 9
        · have h4' : ((k : Int) == 9) = false := beq_eq_false_iff_ne.2 (by omega)
          have HF := Lib.hid (firstRel_next hlt Hb.out HY.out HD.out (by omega) hb1 h4)
          have Hp := Lib.hid (worth_byte hk9 HZ.out hb0 (by omega))
          have Hlt := next_lt (b := b.toNat % 128) hk9 HY.out (by omega) (by omega)
          obtain ⟨p, hp⟩ : ∃ p, p = 128 ^ k * (b.toNat % 128) := ⟨_, rfl⟩
          rw [← hp] at Hp Hlt
          have HP := Lib.hid hp
          clear hp
          have hp1 := Hp.out
          have HW := Lib.hid (worth_next h4 HZ.out)
          go_wp2_with fail
          go_round
          case rel =>
            obtain ⟨z', e, hz'⟩ := HW.out
            exact rtRel_next HP.out HF.out ⟨z', by rw [e], hz'⟩
          case measure => simp [intOf]; omega
        · have h4' : ((k : Int) == 9) = true := beq_iff_eq.2 (by omega)
          have h5 : 1 < b := by omega
          have HF := Lib.hid (fin_ten hlt Hb.out HD.out HR.out h5 (by omega))
          go_wp2_with fail
          go_ret3
          rw [HF.out]; exact ⟨rfl, rfl⟩
    · have HF := Lib.hid (fin_end (by omega) HD.out HR.out)
      go_wp2_with fail
      go_ret3
      rw [HF.out]; exact ⟨rfl, rfl⟩
end Go.Proofs.Ythedopnhhanknaa
