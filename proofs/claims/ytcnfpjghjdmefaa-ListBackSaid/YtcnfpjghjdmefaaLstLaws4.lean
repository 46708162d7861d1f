/- Layer 9: the laws' walks: ListBack. -/
import Derived.Test.YtcnfpjghjdmefaaLstLaws1
namespace Go.Proofs.Ytcnfpjghjdmefaa
open Go.RowKit Ex
set_option maxRecDepth 100000
theorem u64_mod (p : Int) (m : Nat) (hm : 0 < m) : ∃ q : Nat, (IntKind.u64.wrap p).tmod (m : Int) = (q : Int) ∧ q < m := by
  have h0 : 0 ≤ IntKind.u64.wrap p := by simp only [IntKind.wrap, IntKind.bits, IntKind.signed]; simp; omega
  have h1 : 0 ≤ IntKind.u64.wrap p % (m : Int) := Int.emod_nonneg _ (by omega)
  have h2 : IntKind.u64.wrap p % (m : Int) < (m : Int) := Int.emod_lt_of_pos _ (by omega)
  exact ⟨(IntKind.u64.wrap p % (m : Int)).toNat, by rw [Int.tmod_eq_emod_of_nonneg h0]; omega, by omega⟩
theorem ins_mem {l : List Int} {i : Nat} {x y : Int} (h : y ∈ insL l i x) : y = x ∨ y ∈ l := by
  unfold insL at h
  rcases List.mem_append.1 h with h | h
  · exact .inr (List.mem_of_mem_take h)
  · rcases List.mem_cons.1 h with h | h
    · exact .inl h
    · exact .inr (List.mem_of_mem_drop h)
theorem mv_mem {l : List Int} {i j : Nat} {y : Int} (hi : i < l.length) (h : y ∈ mvL l i j) : y ∈ l := by
  unfold mvL at h
  rcases ins_mem h with h | h
  · subst h; rw [List.getD_eq_getElem?_getD, List.getElem?_eq_getElem hi]; exact List.getElem_mem hi
  · unfold rmL at h
    rcases List.mem_append.1 h with h | h
    · exact List.mem_of_mem_take h
    · exact List.mem_of_mem_drop h
theorem Mine.ls {w : World} {base : Nat} {A : Option Addr} {n c : Nat} {l : List Int} (h : Mine w base A n c l) (hn : n ≤ 1000) (hw : ∀ x ∈ l, I64 x) : LsIn w A n c l := ⟨h.1, h.2.1, hn, hw⟩
set_option linter.unusedSimpArgs false in
set_option maxHeartbeats 1000000 in
theorem listBack_walk {w : World} (S : LstSaid w) (A : Option Addr) (n c : Nat) (l : List Int) (p x : Int) (hN : Nums .i64 w w.heap.size A n l) (hnc : n ≤ c) (hlw : ∀ x ∈ l, I64 x) (_hp : I64 p) (hx : I64 x) :
    Calls Try.prog 6 #[.slice A n c, .int .i64 p, .int .i64 x] w fun e w' => e = .returned (.bool true) ∧ Below w.heap.size w w' := by
  have hln := hN.len
  go_enter Try.func6, Try.ntmps6
  go_wp2_with fail
  refine (lstAlive S w (Below.refl _ _)).mono ?_
  rintro e w1 ⟨rfl, hb1⟩
  by_cases h300 : 300 < n
  · have d0 : decide ((300 : Int) < (n : Int)) = true := by simp; omega
    clear h300
    go_wp2_with fail
    go_ret
    exact ⟨rfl, hb1⟩
  have d0 : decide ((300 : Int) < (n : Int)) = false := by simp; omega
  have HL := Lib.hid (show LsIn w A n c l from ⟨hN, hnc, by omega, hlw⟩)
  have hn3 : n ≤ 300 := by omega
  have HWf := Lib.hid hlw
  clear h300 hN hlw
  obtain ⟨q, hq, hqn⟩ := u64_mod p (n + 1) (by omega)
  obtain ⟨t, ht, htn⟩ := u64_mod x (n + 1) (by omega)
  rw [show ((n + 1 : Nat) : Int) = (n : Int) + 1 by omega] at hq ht
  go_upto_region 6 with fail
  clear hq
  obtain ⟨i0, hi, hz0, hz1, hz2⟩ := info_parts info_int
  have ho : Own .i64 3 (w1.alloc (.cells #[] 3)) w1.heap.size (some ⟨w1.heap.size, 0, none⟩) 0 0 [] := own_empty w1 w1.heap.size (Nat.le_refl _)
  have hba : Below w1.heap.size w1 (w1.alloc (.cells #[] 3)) := (Below.refl _ _).alloc (Nat.le_refl _) _
  go_upto_region 7 with (at_builtin; refine wpList_app rfl (.tmp 30) (.tmp 31) _ rfl .i64 w1.heap.size 3 i0 _ 8 Try.underlying22 hi hz0 hz1 hz2 rfl _ 0 0 [] rfl ho w.heap.size A n c l rfl ((HL.out.N.below hb1).below (hba.mono hb1.size)) (by omega) (by omega) (by simp) ?_; intro A3 c3 w2 hown3 hg3)
  have hb12 : Below w1.heap.size w1 w2 := ho.belowGrown hba (by simp) hg3
  have HW := Lib.hid (show Nums .i64 w2 w2.heap.size A3 n l from by have h := hown3.nums; rw [Nat.zero_add, List.nil_append] at h; exact h)
  clear ho hba hg3 hown3 hi hz0 hz1 hz2
  have hbw2 := keepB hb12 hb1
  obtain ⟨la, hla⟩ : ∃ la, la = insL l q x := ⟨_, rfl⟩
  have HLa := Lib.hid hla
  have hlal : la.length = n + 1 := by rw [hla, ins_len _ _ _ (by omega), hln]
  have HWa := Lib.hid (show ∀ y ∈ la, I64 y from fun y hy => by
    rw [HLa.out] at hy
    rcases ins_mem hy with h | h
    · rw [h]; exact hx
    · exact HWf.out y h)
  clear hla
  go_wp2_with fail
  refine (S.ins A n c l (q : Int) x w2 (HL.out.grow hbw2) ⟨by omega, by omega⟩ hx hbw2).mono ?_
  rintro e w3 ⟨hb3, (⟨_, A4, n4, c4, rfl, hm4⟩ | ⟨hno, _⟩)⟩
  rotate_left
  · exact absurd (by unfold Within; omega) hno
  rw [Int.toNat_natCast, ← HLa.out] at hm4
  have hbw3 := keepB hb3 hbw2
  obtain rfl : n + 1 = n4 := by have h := hm4.len; omega
  obtain ⟨a4, ea4, _, hc4⟩ := hm4.1.2 q x (by rw [HLa.out]; exact ins_at l q x (by omega))
  subst ea4
  obtain ⟨g4, o4, cs4, t4, rfl, hg4, hh4⟩ := hm4.2.2 a4 rfl
  rw [Addr.add_mid] at hc4
  have hs23 : w2.heap.size ≤ w3.heap.size := hb3.size
  have hg43 : g4 < w3.heap.size := (Array.getElem?_eq_some_iff.1 hh4).1
  have g0 : (0 : Int) ≤ (q : Int) := by omega
  have g1 : (q : Int) < (n : Int) + 1 := by omega
  have HM4 := Lib.hid hm4
  clear hm4 hh4
  go_upto_region 10 with fail
  clear hc4
  have hrem := S.rem (some ⟨g4, o4, none⟩) (n + 1) c4 la (q : Int) w3 (HM4.out.ls (by omega) HWa.out) ⟨by omega, by omega⟩ hbw3
  go_wp2_with fail
  refine hrem.mono ?_
  clear hrem
  rintro e w4 ⟨hb4, (⟨_, A5, n5, c5, rfl, hm5⟩ | ⟨hno, _⟩)⟩
  rotate_left
  · exact absurd (by unfold Within; omega) hno
  rw [Int.toNat_natCast] at hm5 ⊢
  rw [show rmL la q = l by rw [HLa.out]; exact rm_ins l q x (by omega)] at hm5
  rw [show la.getD q 0 = x by rw [List.getD_eq_getElem?_getD, HLa.out, ins_at l q x (by omega)]; rfl]
  obtain rfl : n = n5 := by have h := hm5.len; omega
  have hbw4 := keepB hb4 hbw3
  have hin := ints_same A5 A n c5 n c l w4 _ _ hm5.1 (HL.out.N.below hbw4) (by omega) (by omega)
  have HM5 := Lib.hid hm5
  clear hm5
  go_wp2_with fail
  refine hin.mono ?_
  rintro e w5 ⟨rfl, hb5⟩
  clear hin
  have hbw5 := keepB hb5 hbw4
  go_wp2_with fail
  refine (S.rev A n c l w5 (HL.out.grow hbw5) hbw5).mono ?_
  rintro e w6 ⟨hb6, A6, n6, c6, rfl, hm6⟩
  obtain rfl : n = n6 := by have h := hm6.len; rw [List.length_reverse] at h; omega
  have hbw6 := keepB hb6 hbw5
  have hr2 := S.rev A6 n c6 l.reverse w6 (hm6.ls (by omega) (fun y hy => HWf.out y (List.mem_reverse.1 hy))) hbw6
  rw [List.reverse_reverse] at hr2
  clear hm6
  go_wp2_with fail
  refine hr2.mono ?_
  rintro e w7 ⟨hb7, A7, n7, c7, rfl, hm7⟩
  clear hr2
  obtain rfl : n = n7 := by have h := hm7.len; omega
  have hbw7 := keepB hb7 hbw6
  have hin := ints_same A7 A n c7 n c l w7 _ _ hm7.1 (HL.out.N.below hbw7) (by omega) (by omega)
  clear hm7
  go_wp2_with fail
  refine hin.mono ?_
  rintro e w8 ⟨rfl, hb8⟩
  clear hin
  have hbw8 := keepB hb8 hbw7
  have hb38 : Below w3.heap.size w3 w8 := keepB hb8 (keepB hb7 (keepB hb6 (keepB hb5 hb4)))
  go_upto_region 14 with fail
  clear ht
  have hmv := S.mov (some ⟨g4, o4, none⟩) (n + 1) c4 la (q : Int) (t : Int) w8 ((HM4.out.keep hb38).ls (by omega) HWa.out) ⟨by omega, by omega⟩ ⟨by omega, by omega⟩ hbw8
  go_wp2_with fail
  refine hmv.mono ?_
  clear hmv
  rintro e w9 ⟨hb9, (⟨_, A9, n9, c9, rfl, hm9⟩ | ⟨hno, _⟩)⟩
  rotate_left
  · exact absurd (by unfold Within; omega) hno
  rw [Int.toNat_natCast, Int.toNat_natCast] at hm9
  obtain rfl : n + 1 = n9 := by have h := hm9.len; rw [mv_len la q t (by omega) (by omega)] at h; omega
  have hbw9 := keepB hb9 hbw8
  have hmv := S.mov A9 (n + 1) c9 (mvL la q t) (t : Int) (q : Int) w9 (hm9.ls (by omega) (fun y hy => HWa.out y (mv_mem (by omega) hy))) ⟨by omega, by omega⟩ ⟨by omega, by omega⟩ hbw9
  rw [Int.toNat_natCast, Int.toNat_natCast, mv_back la q t (by omega) (by omega)] at hmv
  clear hm9
  go_wp2_with fail
  refine hmv.mono ?_
  clear hmv
  rintro e w10 ⟨hb10, (⟨_, A10, n10, c10, rfl, hm10⟩ | ⟨hno, _⟩)⟩
  rotate_left
  · exact absurd (by unfold Within; omega) hno
  obtain rfl : n + 1 = n10 := by have h := hm10.len; omega
  have hb310 : Below w3.heap.size w3 w10 := keepB hb10 (keepB hb9 hb38)
  have hin := ints_same A10 (some ⟨g4, o4, none⟩) (n + 1) c10 (n + 1) c4 la w10 _ _ hm10.1 (HM4.out.keep hb310).1 (by omega) (by omega)
  clear hm10
  go_wp2_with fail
  refine hin.mono ?_
  rintro e w11 ⟨rfl, hb11⟩
  clear hin
  have HB := Lib.hid (keepB hb11 hb310)
  have HB2 := Lib.hid (show Below w2.heap.size w2 w11 from keepB HB.out hb3)
  have HB4 := Lib.hid (show Below w4.heap.size w4 w11 from keepB hb11 (keepB hb10 (keepB hb9 (keepB hb8 (keepB hb7 (keepB hb6 hb5))))))
  have HW2 := Lib.hid hbw2
  clear hb1 hb12 hbw2 hb3 hbw3 hb4 hbw4 hb5 hbw5 hb6 hbw6 hb7 hbw7 hb8 hbw8 hb38 hb9 hbw9 hb10 hb310 hb11
  go_upto_region 21 with fail
  have HM4b := Lib.hid (HM4.out.keep HB.out)
  have HM5b := Lib.hid (HM5.out.keep HB4.out)
  clear HM4 HM5 HB HB4
  go_loopw [119] (fun i wr => ∃ (k : Nat) (l4 : List Int), i = .int .i64 ((k : Nat) : Int) ∧ k ≤ n + 1 ∧ Mine wr w2.heap.size (some ⟨g4, o4, none⟩) (n + 1) c4 l4 ∧ Mine wr w3.heap.size A5 n c5 l ∧ Below w2.heap.size w2 wr) (fun i _ => n + 1 - (intOf i).toNat)
  case atStart => exact ⟨0, la, rfl, by omega, HM4b.out, HM5b.out, HB2.out⟩
  case round =>
    obtain ⟨k, l4, rfl, hk, hm4, hm5, hB⟩ := hrel
    have h4l := hm4.len
    have HM4 := Lib.hid hm4
    have HM5 := Lib.hid hm5
    have HB := Lib.hid hB
    clear hm4 hm5 hB HM4b HM5b HB2
    by_cases hlt : k < n + 1
    · have hd : decide ((k : Int) < (n : Int) + 1) = true := by simp; omega
      obtain ⟨a, ea, _, hc⟩ := HM4.out.1.at_ (i := k) (by omega)
      injection ea with ea
      subst ea
      rw [Addr.add_mid] at hc
      obtain ⟨y, hy⟩ : ∃ y, y = l4[k]'(by omega) := ⟨_, rfl⟩
      rw [← hy] at hc
      clear hy
      obtain ⟨g, o, cs, tt, eg, hgb, hgh⟩ := HM4.out.2.2 _ rfl
      injection eg with e1 e2
      subst e1 e2
      have hfz := frozen_of_row wr g4 (o4 + k) _ _ hgh
      have g2 : (0 : Int) ≤ (k : Int) := by omega
      have g3 : (k : Int) < (n : Int) + 1 := by omega
      clear hgh
      go_wp2_with fail
      go_roundw
      case rel => exact ⟨k + 1, _, by go_num, by omega, HM4.out.set_ k _, HM5.out.other hg43 _, HB.out.setCell hg4 _⟩
      case measure => simp [intOf]; omega
    · obtain rfl : k = n + 1 := by omega
      have hd : decide (((n + 1 : Nat) : Int) < (n : Int) + 1) = false := by simp
      go_upto_region 26 with fail
      clear hd HM4
      go_loopw [131] (fun i wr => ∃ (k : Nat) (l5 : List Int), i = .int .i64 ((k : Nat) : Int) ∧ k ≤ n ∧ Mine wr w3.heap.size A5 n c5 l5 ∧ Below w2.heap.size w2 wr) (fun i _ => n - (intOf i).toNat)
      case atStart => exact ⟨0, l, rfl, by omega, HM5.out, HB.out⟩
      case round =>
        obtain ⟨k, l5, rfl, hk, hm5, hB⟩ := hrel
        have h5l := hm5.len
        have HM5 := Lib.hid hm5
        have HB := Lib.hid hB
        clear hm5 hB
        by_cases hlt2 : k < n
        · have hd : decide ((k : Int) < (n : Int)) = true := by simp; omega
          obtain ⟨a, ea, _, hc⟩ := HM5.out.1.at_ (i := k) (by omega)
          subst ea
          obtain ⟨g, o, cs, tt, rfl, hgb, hgh⟩ := HM5.out.2.2 _ rfl
          rw [Addr.add_mid] at hc
          obtain ⟨y, hy⟩ : ∃ y, y = l5[k]'(by omega) := ⟨_, rfl⟩
          rw [← hy] at hc
          clear hy
          have hfz := frozen_of_row wr g (o + k) _ _ hgh
          have g2 : (0 : Int) ≤ (k : Int) := by omega
          have g3 : (k : Int) < (n : Int) := by omega
          have hgw : w2.heap.size ≤ g := by omega
          clear hgh
          go_wp2_with fail
          go_roundw
          case rel => exact ⟨k + 1, _, by go_num, by omega, HM5.out.set_ k _, HB.out.setCell hgw _⟩
          case measure => simp [intOf]; omega
        · obtain rfl : k = n := by omega
          have hd : decide ((k : Int) < (k : Int)) = false := by simp
          have hbw := keepB HB.out HW2.out
          have hin := ints_same A A3 k c k c3 l wr w.heap.size w2.heap.size (HL.out.N.below hbw) (HW.out.below HB.out) (by omega) (by omega)
          go_wp2_with fail
          refine hin.mono ?_
          rintro e w12 ⟨rfl, hb12⟩
          go_wp2_with fail
          go_ret
          exact ⟨rfl, keepB hb12 hbw⟩
end Go.Proofs.Ytcnfpjghjdmefaa
