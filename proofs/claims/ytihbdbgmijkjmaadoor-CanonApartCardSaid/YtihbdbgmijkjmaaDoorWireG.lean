/- Layer 2: the document's answers for what is taken. -/
import Derived.Test.YtihbdbgmijkjmaaDoorWireE
import Derived.Test.YtihbdbgmijkjmaaDoorWireB
namespace Go.Proofs.YtihbdbgmijkjmaaDoor
open Go.RowKit Wx
def WorthOf (k v : Nat) : Prop := v = 128 ^ k
def RTRel (l : List Int) (u v i : Value) : Prop :=
  ∃ k y z : Nat, i = .int .i64 ((k : Nat) : Int) ∧ u = .int .u64 ((y : Nat) : Int) ∧ v = .int .u64 ((z : Nat) : Int) ∧ k ≤ l.length ∧ k ≤ 9 ∧ y < 128 ^ k ∧ WorthOf k z ∧ dec k y (l.drop k) = tk l
theorem worth_byte {k z : Nat} {b : Int} (hk : k ≤ 9) (hz : WorthOf k z) (h0 : 0 ≤ b) (h9 : k = 9 → b % 128 ≤ 1) : IntKind.u64.wrap ((z : Int) * (b % 128)) = ((128 ^ k * (b.toNat % 128) : Nat) : Int) := by
  unfold WorthOf at hz
  subst hz
  obtain ⟨m, rfl⟩ := Int.eq_ofNat_of_zero_le h0
  have h1 := next_lt (b := m % 128) hk (Nat.pow_pos (by decide) : 0 < 128 ^ k) (by omega) (fun h => by have := h9 h; omega)
  rw [Int.toNat_natCast, show ((m : Int) % 128) = ((m % 128 : Nat) : Int) by omega, ← Int.natCast_mul, IntKind.wrap_u64]
  generalize 128 ^ k * (m % 128) = q at *
  omega
theorem worth_next {k z : Nat} (hk : k < 9) (hz : WorthOf k z) : ∃ z' : Nat, IntKind.u64.wrap ((z : Int) * 128) = (z' : Int) ∧ WorthOf (k + 1) z' := by
  unfold WorthOf at *
  subst hz
  have h1 : 128 ^ (k + 1) ≤ 128 ^ 9 := Nat.pow_le_pow_right (by decide) (by omega)
  rw [show (128 : Nat) ^ 9 = 9223372036854775808 by decide] at h1
  refine ⟨128 ^ (k + 1), ?_, rfl⟩
  rw [Nat.pow_succ] at *
  rw [IntKind.wrap_u64]
  generalize 128 ^ k = q at *
  omega
theorem unf_even {q : Nat} (h : q % 2 = 0) : (q : Int) / 2 = unf q := by unfold unf; rw [if_pos h]; omega
theorem unf_odd {q : Nat} (h : ¬ q % 2 = 0) : -((q : Int) / 2) - 1 = unf q := by unfold unf; rw [if_neg h]; omega
theorem rtRel_next {l : List Int} {k y p : Nat} {b : Int} {v : Value} (hp : p = 128 ^ k * (b.toNat % 128)) (hf : FirstRel l (.int .u64 ((y + 128 ^ k * (b.toNat % 128) : Nat) : Int)) (.int .i64 ((k + 1 : Nat) : Int)))
    (hv : ∃ z' : Nat, v = .int .u64 (z' : Int) ∧ WorthOf (k + 1) z') : RTRel l (.int .u64 ((y : Int) + (p : Int))) v (.int .i64 ((k : Int) + 1)) := by
  obtain ⟨k', y', e1, e2, h1, h2, h3, h4⟩ := hf
  injection e1 with _ e1
  injection e2 with _ e2
  obtain rfl : k' = k + 1 := by omega
  obtain ⟨z', rfl, hz⟩ := hv
  subst hp
  refine ⟨k + 1, y', z', by go_num, ?_, rfl, h1, h2, h3, hz, h4⟩
  rw [← e2]; go_num
set_option maxRecDepth 100000 in
set_option maxHeartbeats 400000 in
theorem takeRef_gen (A : Option Addr) (n c : Nat) (l : List Int) (w : World) (B : Nat) (hN : Nums .u8 w B A n l) (hb : byB l) (hn : n ≤ 1000000000) (r : Int × Nat × Int) (hr : tk l = r) :
    Calls Tryd.prog 50 #[.slice A n c] w fun e w' => e = .returned (.tuple #[.int .i64 r.1, .int .i64 r.2.1, .int .i64 r.2.2]) ∧ w = w' := by
  obtain rfl := hN.len
  have HN := Lib.hid hN
  have HB := Lib.hid hb
  have HR := Lib.hid hr
  clear hN hb hr
  go_enter Tryd.func50, Tryd.ntmps50
  go_wp2_with fail
  go_loop [5, 6, 7] (fun u v i => RTRel l u v i) (fun _ _ i => l.length - (intOf i).toNat)
  case atStart => exact ⟨0, 0, 1, rfl, rfl, rfl, by omega, by omega, by decide, rfl, rfl⟩
  case round =>
    obtain ⟨k, y, z, rfl, rfl, rfl, hk, hk9, hy, hz, hd⟩ := hrel
    have HY := Lib.hid hy
    have HZ := Lib.hid hz
    have HD := Lib.hid hd
    clear hy hd hz
    by_cases hlt : k < l.length
    · obtain ⟨a, hA, hab, hc⟩ := HN.out.at_ hlt
      have hB := HB.out _ (List.getElem_mem hlt)
      obtain ⟨b, hb⟩ : ∃ b, b = l[k] := ⟨_, rfl⟩
      rw [← hb] at hc hB
      obtain ⟨hb0, hb1⟩ := hB
      have Hb := Lib.hid hb
      clear hb
      subst hA
      by_cases h1 : b < 128
      · by_cases h2 : b = 0
        · have H2 := Lib.hid h2
          have h2' : (b == 0) = true := beq_iff_eq.2 h2
          by_cases h3 : 0 < k
          · have HF := Lib.hid (fin_zero hlt Hb.out HD.out HR.out H2.out h3)
            have Hp := Lib.hid (worth_byte hk9 HZ.out hb0 (by omega))
            have Hlt := next_lt (b := b.toNat % 128) hk9 HY.out (by omega) (by omega)
            clear h2
            by_cases h4 : k < 9
            · have h4' : ((k : Int) == 9) = false := beq_eq_false_iff_ne.2 (by omega)
              go_wp2_with fail
              go_ret3
              rw [HF.out]; exact ⟨rfl, rfl⟩
            · have h4' : ((k : Int) == 9) = true := beq_iff_eq.2 (by omega)
              have h5 : ¬ 1 < b := by have := H2.out; omega
              go_wp2_with fail
              go_ret3
              rw [HF.out]; exact ⟨rfl, rfl⟩
          · have h4' : ((k : Int) == 9) = false := beq_eq_false_iff_ne.2 (by omega)
            have Hp := Lib.hid (worth_byte hk9 HZ.out hb0 (by omega))
            have Hlt := next_lt (b := b.toNat % 128) hk9 HY.out (by omega) (by omega)
            obtain ⟨p, hp⟩ : ∃ p, p = 128 ^ k * (b.toNat % 128) := ⟨_, rfl⟩
            rw [← hp] at Hp Hlt
            have HF := Lib.hid (fin_last hlt Hb.out HD.out HR.out hb0 h1 (by omega) (by omega))
            rw [← hp] at HF
            clear hp
            have hp1 := Hp.out
            clear h2
            by_cases hev : (y + p) % 2 = 0
            · have hev' : (((y : Int) + (p : Int)) % 2 == 0) = true := beq_iff_eq.2 (by omega)
              have HU := Lib.hid (unf_even hev)
              clear hev
              go_wp2_with fail
              go_ret3
              rw [HF.out]
              refine ⟨?_, rfl⟩
              rw [← HU.out]; simp
            · have hev' : (((y : Int) + (p : Int)) % 2 == 0) = false := beq_eq_false_iff_ne.2 (by omega)
              have HU := Lib.hid (unf_odd hev)
              clear hev
              go_wp2_with fail
              go_ret3
              rw [HF.out]
              refine ⟨?_, rfl⟩
              rw [← HU.out]; simp
        · have H2 := Lib.hid h2
          have h2' : (b == 0) = false := beq_eq_false_iff_ne.2 h2
          by_cases h4 : k < 9
          · have h4' : ((k : Int) == 9) = false := beq_eq_false_iff_ne.2 (by omega)
            have Hp := Lib.hid (worth_byte hk9 HZ.out hb0 (by omega))
            have Hlt := next_lt (b := b.toNat % 128) hk9 HY.out (by omega) (by omega)
            obtain ⟨p, hp⟩ : ∃ p, p = 128 ^ k * (b.toNat % 128) := ⟨_, rfl⟩
            rw [← hp] at Hp Hlt
            have HF := Lib.hid (fin_last hlt Hb.out HD.out HR.out hb0 h1 (by omega) (by omega))
            rw [← hp] at HF
            clear hp
            have hp1 := Hp.out
            clear h2
            by_cases hev : (y + p) % 2 = 0
            · have hev' : (((y : Int) + (p : Int)) % 2 == 0) = true := beq_iff_eq.2 (by omega)
              have HU := Lib.hid (unf_even hev)
              clear hev
              go_wp2_with fail
              go_ret3
              rw [HF.out]
              refine ⟨?_, rfl⟩
              rw [← HU.out]; simp
            · have hev' : (((y : Int) + (p : Int)) % 2 == 0) = false := beq_eq_false_iff_ne.2 (by omega)
              have HU := Lib.hid (unf_odd hev)
              clear hev
              go_wp2_with fail
              go_ret3
              rw [HF.out]
              refine ⟨?_, rfl⟩
              rw [← HU.out]; simp
          · have h4' : ((k : Int) == 9) = true := beq_iff_eq.2 (by omega)
            by_cases h5 : 1 < b
            · have HF := Lib.hid (fin_ten hlt Hb.out HD.out HR.out h5 (by omega))
              clear h2
              go_wp2_with fail
              go_ret3
              rw [HF.out]; exact ⟨rfl, rfl⟩
            · have h5' := Lib.hid h5
              have Hp := Lib.hid (worth_byte hk9 HZ.out hb0 (by omega))
              have Hlt := next_lt (b := b.toNat % 128) hk9 HY.out (by omega) (by omega)
              obtain ⟨p, hp⟩ : ∃ p, p = 128 ^ k * (b.toNat % 128) := ⟨_, rfl⟩
              rw [← hp] at Hp Hlt
              have HF := Lib.hid (fin_last hlt Hb.out HD.out HR.out hb0 h1 (by omega) (by omega))
              rw [← hp] at HF
              clear hp
              have hp1 := Hp.out
              clear h2
              by_cases hev : (y + p) % 2 = 0
              · have hev' : (((y : Int) + (p : Int)) % 2 == 0) = true := beq_iff_eq.2 (by omega)
                have HU := Lib.hid (unf_even hev)
                clear hev
                go_wp2_with fail
                go_ret3
                rw [HF.out]
                refine ⟨?_, rfl⟩
                rw [← HU.out]; simp
              · have hev' : (((y : Int) + (p : Int)) % 2 == 0) = false := beq_eq_false_iff_ne.2 (by omega)
                have HU := Lib.hid (unf_odd hev)
                clear hev
                go_wp2_with fail
                go_ret3
                rw [HF.out]
                refine ⟨?_, rfl⟩
                rw [← HU.out]; simp
      · by_cases h4 : k < 9
        · have h4' : ((k : Int) == 9) = false := beq_eq_false_iff_ne.2 (by omega)
          have HF := Lib.hid (firstRel_next hlt Hb.out HY.out HD.out (by omega) hb1 h4)
          have Hp := Lib.hid (worth_byte hk9 HZ.out hb0 (by omega))
          have Hlt := next_lt (b := b.toNat % 128) hk9 HY.out (by omega) (by omega)
          obtain ⟨p, hp⟩ : ∃ p, p = 128 ^ k * (b.toNat % 128) := ⟨_, rfl⟩
          rw [← hp] at Hp Hlt
          have HP := Lib.hid hp
          clear hp
          have hp1 := Hp.out
          have HW := Lib.hid (worth_next h4 HZ.out)
          go_wp2_with fail
          go_round
          case rel =>
            obtain ⟨z', e, hz'⟩ := HW.out
            exact rtRel_next HP.out HF.out ⟨z', by rw [e], hz'⟩
          case measure => simp [intOf]; omega
        · have h4' : ((k : Int) == 9) = true := beq_iff_eq.2 (by omega)
          have h5 : 1 < b := by omega
          have HF := Lib.hid (fin_ten hlt Hb.out HD.out HR.out h5 (by omega))
          go_wp2_with fail
          go_ret3
          rw [HF.out]; exact ⟨rfl, rfl⟩
    · have HF := Lib.hid (fin_end (by omega) HD.out HR.out)
      go_wp2_with fail
      go_ret3
      rw [HF.out]; exact ⟨rfl, rfl⟩
theorem takeRef_at (A : Option Addr) (n c : Nat) (l : List Int) (w : World) (B : Nat) (hN : Nums .u8 w B A n l) (hb : byB l) (hn : n ≤ 1000000000) (z : Int) (k : Nat) (e0 : Int) (hr : tk l = (z, k, e0)) :
    Calls Tryd.prog 50 #[.slice A n c] w fun e w' => e = .returned (.tuple #[.int .i64 z, .int .i64 k, .int .i64 e0]) ∧ w = w' := takeRef_gen A n c l w B hN hb hn _ hr
/-- What the document's TakeList answers, by r. -/
def RLPost (w : World) (r : List Int × Nat × Int) (e : Ending) (w' : World) : Prop :=
  ∃ A m c, e = .returned (.tuple #[.slice A m c, .int .i64 r.2.1, .int .i64 r.2.2]) ∧ Own .i64 3 w' w.heap.size A m c r.1 ∧ Below w.heap.size w w'
theorem rlPost_bad {w w' : World} {r : List Int × Nat × Int} {e0 : Int} (hr : r = ([], 0, e0)) (hb : Below w.heap.size w w') :
    RLPost w r (.returned (.tuple #[.slice none 0 0, .int .i64 0, .int .i64 e0])) w' := by
  subst hr; exact ⟨none, 0, 0, rfl, Own.nil _, hb⟩
def TLRelR (w : World) (l : List Int) (r : List Int × Nat × Int) (Z : Nat) (at_ v i : Value) (wr : World) : Prop :=
  ∃ A m c acc j a, v = .slice A m c ∧ at_ = .int .i64 ((a : Nat) : Int) ∧ i = .int .i64 ((j : Nat) : Int) ∧ j ≤ Z ∧ a ≤ l.length ∧ acc.length ≤ a ∧ Own .i64 3 wr w.heap.size A m c acc ∧ more (Z - j) l a acc = r ∧ Below w.heap.size w wr
theorem tl_oneR {l : List Int} {most : Int} {z : Int} {k : Nat} {e : Int} (ht : tk l = (z, k, e)) (he : e ≠ 0) : tl l most = ([], 0, e) := by
  unfold tl; rw [ht]; rw [if_pos (by exact he)]
theorem tl_twoR {l : List Int} {most : Int} {z : Int} {k : Nat} (ht : tk l = (z, k, 0)) (hz : z < 0) : tl l most = ([], 0, 1) := by
  unfold tl; rw [ht]; simp [hz]
theorem tl_threeR {l : List Int} {most : Int} {z : Int} {k : Nat} (ht : tk l = (z, k, 0)) (hz : ¬ z < 0) (hm : most < z) : tl l most = ([], 0, 19) := by
  unfold tl; rw [ht]; simp [hz, hm]
theorem tl_fourR {l : List Int} {most : Int} {z : Nat} {k : Nat} (ht : tk l = ((z : Int), k, 0)) (hm : ¬ most < (z : Int)) : tl l most = more z l k [] := by
  unfold tl; rw [ht]; simp only [ne_eq, not_true_eq_false, if_false]
  rw [if_neg (by omega), if_neg hm, Int.toNat_natCast]
set_option maxRecDepth 100000 in
set_option maxHeartbeats 1000000 in
theorem takeListRef_gen (A : Option Addr) (n c : Nat) (l : List Int) (most : Int) (w : World) (B : Nat) (hN : Nums .u8 w B A n l) (hc : n ≤ c) (hb : byB l) (hB : B ≤ w.heap.size) (hn : n ≤ 100000000) (r : List Int × Nat × Int) (hr : tl l most = r) :
    Calls Tryd.prog 32 #[.slice A n c, .int .i64 most] w (RLPost w r) := by
  obtain ⟨i0, hi, hz0, hz1, hz2⟩ := info_parts info_int
  obtain rfl := hN.len
  obtain ⟨z, k, e0, ht⟩ : ∃ z k e0, tk l = (z, k, e0) := ⟨_, _, _, rfl⟩
  have HN := Lib.hid hN
  have HB := Lib.hid hb
  have HR := Lib.hid hr
  have HT := Lib.hid ht
  clear hN hb hr ht
  rcases tk_range HB.out HT.out with ⟨h1, h2, h3⟩ | ⟨h1, h2, h3, h4, h5, _⟩
  · subst h1 h2
    have h0 : (e0 != 0) = true := by rw [bne_iff_ne]; omega
    have HF : Hid (r = ([], 0, e0)) := by show _ = _; rw [← HR.out]; exact tl_oneR HT.out (by omega)
    clear h3
    go_enter Tryd.func32, Tryd.ntmps32
    go_wp2_with fail
    refine (takeRef_at A l.length c l _ B HN.out HB.out (by omega) _ _ _ HT.out).mono ?_
    rintro e w' ⟨rfl, rfl⟩
    go_wp2_with fail
    go_ret3
    exact rlPost_bad HF.out (Below.refl _ _)
  · subst h1
    unfold i64B at h5
    obtain ⟨h5, h6⟩ := h5
    by_cases hz : z < 0
    · have HF : Hid (r = ([], 0, 1)) := by show _ = _; rw [← HR.out]; exact tl_twoR HT.out hz
      go_enter Tryd.func32, Tryd.ntmps32
      go_wp2_with fail
      refine (takeRef_at A l.length c l _ B HN.out HB.out (by omega) _ _ _ HT.out).mono ?_
      rintro e w' ⟨rfl, rfl⟩
      go_wp2_with fail
      go_ret3
      exact rlPost_bad HF.out (Below.refl _ _)
    · obtain ⟨Z, rfl⟩ := Int.eq_ofNat_of_zero_le (show 0 ≤ z by omega)
      by_cases hm : most < (Z : Int)
      · have HF : Hid (r = ([], 0, 19)) := by show _ = _; rw [← HR.out]; exact tl_threeR HT.out hz hm
        go_enter Tryd.func32, Tryd.ntmps32
        go_wp2_with fail
        refine (takeRef_at A l.length c l _ B HN.out HB.out (by omega) _ _ _ HT.out).mono ?_
        rintro e w' ⟨rfl, rfl⟩
        go_wp2_with fail
        go_ret3
        exact rlPost_bad HF.out (Below.refl _ _)
      · have HF : Hid (more Z l k [] = r) := by show _ = _; rw [← HR.out]; exact (tl_fourR HT.out hm).symm
        clear hz h5
        go_enter Tryd.func32, Tryd.ntmps32
        go_wp2_with fail
        refine (takeRef_at A l.length c l _ B HN.out HB.out (by omega) _ _ _ HT.out).mono ?_
        rintro e w' ⟨rfl, rfl⟩
        go_wp2_with fail
        go_loopw [8, 10, 11] (fun at_ v i wr => TLRelR w l r Z at_ v i wr) (fun _ _ i _ => Z - (intOf i).toNat)
        case atStart => exact ⟨_, 0, 0, [], 0, k, rfl, rfl, rfl, by omega, h3, by simp, own_empty w _ (Nat.le_refl _), HF.out, (Below.refl _ _).alloc (Nat.le_refl _) _⟩
        case round =>
          obtain ⟨A1, m1, c1, acc, j, a, rfl, rfl, rfl, hj, ha, hacc, hown1, hmore, hbel⟩ := hrel
          have hm1 : m1 ≤ 100000000 := by have := hown1.len; omega
          have hs := hbel.size
          have hNr := HN.out.belowL hbel hB
          obtain ⟨A2, hsl, hN2⟩ := cut_from (P := Tryd.prog) hNr hc ha 30 (by kernel_rfl) (fun _ => by kernel_rfl)
          obtain ⟨z1, k1, e1, ht1⟩ : ∃ z1 k1 e1, tk (l.drop a) = (z1, k1, e1) := ⟨_, _, _, rfl⟩
          have HB2 := Lib.hid (byB_drop a HB.out)
          have HN2 := Lib.hid hN2
          have HM := Lib.hid hmore
          have HT1 := Lib.hid ht1
          have HO1 := Lib.hid hown1
          clear hN2 hmore ht1 hNr hown1
          by_cases hlt : j < Z
          · rcases tk_range HB2.out HT1.out with ⟨g1, g2, g3⟩ | ⟨g1, g2, g3, g4, g5, _⟩
            · subst g1 g2
              have h0 : (e1 != 0) = true := by rw [bne_iff_ne]; omega
              have HF2 : Hid (r = ([], 0, e1)) := by
                show _ = _
                rw [← HM.out, show Z - j = (Z - j - 1) + 1 by omega]; exact more_bad HT1.out (by omega)
              clear g3
              go_wp2_with fail
              refine (takeRef_at A2 _ _ _ _ B HN2.out HB2.out (by omega) _ _ _ HT1.out).mono ?_
              rintro e w' ⟨rfl, rfl⟩
              go_wp2_with fail
              go_ret3
              exact rlPost_bad HF2.out hbel
            · subst g1
              rw [List.length_drop] at g3
              have HM2 : Hid (more (Z - (j + 1)) l (a + k1) (acc ++ [z1]) = r) := by
                show _ = _
                rw [← HM.out, show Z - j = (Z - (j + 1)) + 1 by omega]; exact (more_ok HT1.out).symm
              go_wp2_with fail
              refine (takeRef_at A2 _ _ _ _ B HN2.out HB2.out (by omega) _ _ _ HT1.out).mono ?_
              rintro e w' ⟨rfl, rfl⟩
              go_wp2_with (at_builtin; refine wpList_app rfl (.tmp 46) (.tmp 48) _ rfl .i64 w.heap.size 3 i0 _ 8 Tryd.underlying23 hi hz0 hz1 hz2 rfl A1 m1 c1 acc rfl (HO1.out.alloc _) _ (some ⟨wr.heap.size, 0, none⟩) 1 1 [z1] rfl (Nums.one _ _ _ _) (by omega) (by omega) (by simp; omega) ?_; intro A3 c3 w3 hown3 hg3)
              have HO3 := Lib.hid hown3
              have hbel3 := (HO1.out.alloc _).belowGrown (hbel.alloc (by omega) _) (by simp; omega) hg3
              clear hown3 hg3 hsl
              go_roundw
              case rel => exact ⟨A3, _, c3, acc ++ [z1], j + 1, a + k1, rfl, by go_num, by go_num, by omega, by omega, by simp; omega, HO3.out, HM2.out, hbel3⟩
              case measure => simp [intOf]; omega
          · obtain rfl : j = Z := by omega
            have HF2 : Hid (r = (acc, a, 0)) := by
              show _ = _
              rw [← HM.out, Nat.sub_self, more]
            go_wp2_with fail
            go_ret3
            rw [HF2.out]
            exact ⟨A1, m1, c1, rfl, HO1.out, hbel⟩
end Go.Proofs.YtihbdbgmijkjmaaDoor
