/- Layer 9: the laws' walks: alive, ListInserts. -/
import Derived.Test.YtcnfpjghjdmefaaLstSaid
namespace Go.Proofs.Ytcnfpjghjdmefaa
open Go.RowKit Ex
set_option maxRecDepth 100000
theorem three_nums (w : World) (x y z : Int) (t : TypeId) : Nums .i64 (w.alloc (.cells #[.int .i64 x, .int .i64 y, .int .i64 z] t)) (w.alloc (.cells #[.int .i64 x, .int .i64 y, .int .i64 z] t)).heap.size (some ⟨w.heap.size, 0, none⟩) 3 [x, y, z] := by
  refine ⟨rfl, fun i u hu => ⟨_, rfl, by simp, ?_⟩⟩
  rw [Addr.add_mid, Nat.zero_add, cell_of_row _ w.heap.size i _ t (0, 0) (heap_alloc_new _ _)]
  match i, hu with
  | 0, hu => simp at hu; simp [hu]
  | 1, hu => simp at hu; simp [hu]
  | 2, hu => simp at hu; simp [hu]
theorem ints_same (A1 A2 : Option Addr) (n1 c1 n2 c2 : Nat) (l : List Int) (w : World) (B1 B2 : Nat) (h1 : Nums .i64 w B1 A1 n1 l) (h2 : Nums .i64 w B2 A2 n2 l) (hn1 : n1 ≤ 1000000000) (hn2 : n2 ≤ 1000000000) :
    Calls Try.prog 10 #[.slice A1 n1 c1, .slice A2 n2 c2] w fun e w' => e = .returned (.bool true) ∧ Below w.heap.size w w' := by
  refine (ints_any A1 A2 n1 c1 n2 c2 l l w B1 B2 h1 h2 hn1 hn2).mono ?_
  rintro e w' ⟨rfl, m, rfl⟩
  exact ⟨by simp, below_drewN (Below.refl _ _) m⟩
set_option linter.unusedSimpArgs false in
theorem lstAlive {z : World} (S : LstSaid z) (w : World) (hz : Below z.heap.size z w) : Calls Try.prog 7 #[] w fun e w' => e = .returned (.bool true) ∧ Below w.heap.size w w' := by
  go_enter Try.func7, Try.ntmps7
  go_wp2_with fail
  have hN := three_nums w 1 2 3 3
  have hb1 : Below w.heap.size w (w.alloc (.cells #[.int .i64 1, .int .i64 2, .int .i64 3] 3)) := (Below.refl _ _).alloc (Nat.le_refl _) _
  obtain ⟨w1, hw1⟩ : ∃ W, W = w.alloc (.cells #[.int .i64 1, .int .i64 2, .int .i64 3] 3) := ⟨_, rfl⟩
  rw [← hw1] at hN hb1 ⊢
  clear hw1
  refine (S.mov _ 3 3 [1, 2, 3] 0 2 w1 ⟨hN, Nat.le_refl _, by omega, by decide⟩ ⟨by decide, by decide⟩ ⟨by decide, by decide⟩ (keepB hb1 hz)).mono ?_
  rintro e w2 ⟨hb2, (⟨_, A', n', c', rfl, hm⟩ | ⟨hno, _⟩)⟩
  · rw [show mvL [1, 2, 3] (0 : Int).toNat (2 : Int).toNat = [2, 3, 1] from rfl] at hm
    have hn' : n' = 3 := hm.len.symm
    have hN2 := three_nums w2 2 3 1 3
    have hb3 : Below w2.heap.size w2 (w2.alloc (.cells #[.int .i64 2, .int .i64 3, .int .i64 1] 3)) := (Below.refl _ _).alloc (Nat.le_refl _) _
    have hin := ints_same A' (some ⟨w2.heap.size, 0, none⟩) n' c' 3 3 [2, 3, 1] _ _ _ (hm.1.below hb3) hN2 (by omega) (by omega)
    clear hN2 hm hn'
    go_wp2_with fail
    refine hin.mono ?_
    rintro e w4 ⟨rfl, hb4⟩
    go_wp2_with fail
    go_ret
    exact ⟨rfl, keepB hb4 (keepB hb3 (keepB hb2 hb1))⟩
  · exact absurd (by unfold Within; omega) hno
set_option linter.unusedSimpArgs false in
set_option maxHeartbeats 1000000 in
theorem listInserts_walk {w : World} (S : LstSaid w) (A : Option Addr) (n c : Nat) (l : List Int) (p x : Int) (hN : Nums .i64 w w.heap.size A n l) (hnc : n ≤ c) (hlw : ∀ x ∈ l, I64 x) (hp : I64 p) (hx : I64 x) :
    Calls Try.prog 3 #[.slice A n c, .int .i64 p, .int .i64 x] w fun e w' => e = .returned (.bool true) ∧ Below w.heap.size w w' := by
  have hln := hN.len
  go_enter Try.func3, Try.ntmps3
  go_wp2_with fail
  refine (lstAlive S w (Below.refl _ _)).mono ?_
  rintro e w1 ⟨rfl, hb1⟩
  by_cases h300 : 300 < n
  · have d0 : decide ((300 : Int) < (n : Int)) = true := by simp; omega
    clear h300
    go_wp2_with fail
    go_ret
    exact ⟨rfl, hb1⟩
  have d0 : decide ((300 : Int) < (n : Int)) = false := by simp; omega
  have HL := Lib.hid (show LsIn w A n c l from ⟨hN, hnc, by omega, hlw⟩)
  have hn3 : n ≤ 300 := by omega
  clear h300 hN hlw
  obtain ⟨i0, hi, hz0, hz1, hz2⟩ := info_parts info_int
  have ho : Own .i64 3 (w1.alloc (.cells #[] 3)) w1.heap.size (some ⟨w1.heap.size, 0, none⟩) 0 0 [] := own_empty w1 w1.heap.size (Nat.le_refl _)
  have hba : Below w1.heap.size w1 (w1.alloc (.cells #[] 3)) := (Below.refl _ _).alloc (Nat.le_refl _) _
  go_upto_region 6 with (at_builtin; refine wpList_app rfl (.tmp 18) (.tmp 19) _ rfl .i64 w1.heap.size 3 i0 _ 8 Try.underlying22 hi hz0 hz1 hz2 rfl _ 0 0 [] rfl ho w.heap.size A n c l rfl ((HL.out.N.below hb1).below (hba.mono hb1.size)) (by omega) (by omega) (by simp) ?_; intro A3 c3 w2 hown3 hg3)
  have hb12 : Below w1.heap.size w1 w2 := ho.belowGrown hba (by simp) hg3
  have HW := Lib.hid (show Nums .i64 w2 w2.heap.size A3 n l from by have h := hown3.nums; rw [Nat.zero_add, List.nil_append] at h; exact h)
  clear ho hba hg3 hown3 hi hz0 hz1 hz2
  go_wp2_with fail
  have hbw2 := keepB hb12 hb1
  refine (S.ins A n c l p x w2 (HL.out.grow hbw2) hp hx hbw2).mono ?_
  rintro e w3 ⟨hb3, hins⟩
  have hbw3 := keepB hb3 hbw2
  rcases hins with ⟨hok, A4, n4, c4, rfl, hm4⟩ | ⟨hno, A4, c4, rfl⟩
  · obtain ⟨q, rfl⟩ : ∃ q : Nat, p = (q : Int) := ⟨p.toNat, by unfold Within at hok; omega⟩
    have hq : q ≤ n := by unfold Within at hok; omega
    rw [Int.toNat_natCast] at hm4
    obtain rfl : n4 = n + 1 := by have h := hm4.len; rw [ins_len l q x (by omega)] at h; omega
    clear hok
    go_wp2_with fail
    refine (S.rem A n c l (q : Int) w3 (HL.out.grow hbw3) hp hbw3).mono ?_
    rintro e w4 ⟨hb4, hrem⟩
    rw [Int.toNat_natCast] at hrem
    have hbw4 := keepB hb4 hbw3
    have hin := ints_same A A3 n c n c3 l w4 w.heap.size w2.heap.size (HL.out.N.below hbw4) (HW.out.below (keepB hb4 hb3)) (by omega) (by omega)
    have d1 : decide ((q : Int) < 0) = false := by simp
    have d2 : decide ((n : Int) < (q : Int)) = false := by simp; omega
    have HM4 := Lib.hid (hm4.keep hb4)
    clear hm4
    rcases hrem with ⟨hok2, A5, n5, c5, rfl, hm5⟩ | ⟨hno2, A5, c5, rfl⟩
    · have hqn : q < n := by unfold Within at hok2; omega
      obtain rfl : n5 = n - 1 := by have h := hm5.len; rw [rm_len l q (by omega)] at h; omega
      obtain ⟨y, hy⟩ : ∃ y, y = l.getD q 0 := ⟨_, rfl⟩
      rw [← hy]
      have HY := Lib.hid (show l[q]? = some y by rw [hy, List.getD_eq_getElem?_getD, List.getElem?_eq_getElem (by omega)]; rfl)
      clear hok2 hy
      go_wp2_with fail
      refine hin.mono ?_
      rintro e w5 ⟨rfl, hb5⟩
      clear hin
      have hbw5 := keepB hb5 hbw4
      go_wp2_with fail
      refine (insertRef_any A _ c l q x w5 w.heap.size (HL.out.N.below hbw5) hbw5.size (by omega) hq).mono ?_
      rintro e w6 ⟨A6, n6, c6, rfl, ho6, hb6⟩
      obtain rfl : n6 = _ + 1 := by have h := ho6.len; rw [ins_len l q x (by omega), hln] at h; exact h.symm
      have hin := ints_same A4 A6 _ c4 _ c6 (insL l q x) w6 _ _ (HM4.out.keep (keepB hb6 hb5)).1 ho6.nums (by omega) (by omega)
      have hbw6 := keepB hb6 hbw5
      clear ho6
      go_wp2_with fail
      refine hin.mono ?_
      rintro e w7 ⟨rfl, hb7⟩
      clear hin
      have hbw7 := keepB hb7 hbw6
      have HM5 := Lib.hid (hm5.keep (keepB hb7 (keepB hb6 hb5)))
      clear hm5
      obtain ⟨a, ea, _, hc⟩ := (HL.out.N.below hbw7).2 q y HY.out
      subst ea
      have d3 : ((q : Int) == (n : Int)) = false := by simp; omega
      have g0 : (0 : Int) ≤ (q : Int) := by omega
      have g1 : (q : Int) < (n : Int) := by omega
      go_wp2_with fail
      refine (removeRef_any (some a) n c l q w7 w.heap.size (HL.out.N.below hbw7) hbw7.size (by omega) hqn).mono ?_
      rintro e w8 ⟨A8, n8, c8, rfl, ho8, hb8⟩
      obtain rfl : n8 = n - 1 := by have h := ho8.len; rw [rm_len l q (by omega)] at h; omega
      have hin := ints_same A5 A8 (n - 1) c5 (n - 1) c8 (rmL l q) w8 _ _ (HM5.out.keep hb8).1 ho8.nums (by omega) (by omega)
      clear ho8
      go_wp2_with fail
      refine hin.mono ?_
      rintro e w9 ⟨rfl, hb9⟩
      clear hin
      go_wp2_with fail
      go_ret
      exact ⟨by simp, keepB hb9 (keepB hb8 hbw7)⟩
    · have hqn : q = n := by unfold Within at hno2; omega
      subst hqn
      clear hno2
      go_wp2_with fail
      refine hin.mono ?_
      rintro e w5 ⟨rfl, hb5⟩
      clear hin
      have hbw5 := keepB hb5 hbw4
      go_wp2_with fail
      refine (insertRef_any A _ c l q x w5 w.heap.size (HL.out.N.below hbw5) hbw5.size (by omega) hq).mono ?_
      rintro e w6 ⟨A6, n6, c6, rfl, ho6, hb6⟩
      obtain rfl : n6 = _ + 1 := by have h := ho6.len; rw [ins_len l q x (by omega), hln] at h; exact h.symm
      have hin := ints_same A4 A6 _ c4 _ c6 (insL l q x) w6 _ _ (HM4.out.keep (keepB hb6 hb5)).1 ho6.nums (by omega) (by omega)
      have hbw6 := keepB hb6 hbw5
      clear ho6
      go_wp2_with fail
      refine hin.mono ?_
      rintro e w7 ⟨rfl, hb7⟩
      clear hin
      have hbw7 := keepB hb7 hbw6
      go_wp2_with fail
      refine (is_by 1 1 w7).mono ?_
      rintro e w8 ⟨rfl, rfl⟩
      go_wp2_with fail
      go_ret
      exact ⟨by simp, hbw7⟩
  · go_wp2_with fail
    refine (S.rem A n c l p w3 (HL.out.grow hbw3) hp hbw3).mono ?_
    rintro e w4 ⟨hb4, (⟨hok2, _⟩ | ⟨_, A5, c5, rfl⟩)⟩
    · exact absurd (by unfold Within at hok2 ⊢; omega) hno
    have hbw4 := keepB hb4 hbw3
    have hin := ints_same A A3 n c n c3 l w4 w.heap.size w2.heap.size (HL.out.N.below hbw4) (HW.out.below (keepB hb4 hb3)) (by omega) (by omega)
    go_wp2_with fail
    refine hin.mono ?_
    rintro e w5 ⟨rfl, hb5⟩
    clear hin
    have HE := Lib.hid (keepB hb5 hbw4)
    have hno' : p < 0 ∨ (n : Int) < p := by unfold Within at hno; omega
    clear hno hb5 hbw4 hb4 hbw3 hb3 hbw2 hb12 hb1
    by_cases h0 : p < 0
    · have d1 : decide (p < 0) = true := decide_eq_true h0
      clear hno' h0
      go_wp2_with fail
      refine (is_by 1 1 w5).mono ?_
      rintro e w6 ⟨rfl, rfl⟩
      go_wp2_with fail
      refine (is_by 1 1 w5).mono ?_
      rintro e w6 ⟨rfl, rfl⟩
      go_wp2_with fail
      go_ret
      exact ⟨by simp, HE.out⟩
    · have d1 : decide (p < 0) = false := decide_eq_false h0
      have d2 : decide ((n : Int) < p) = true := decide_eq_true (by omega)
      clear hno' h0
      go_wp2_with fail
      refine (is_by 1 1 w5).mono ?_
      rintro e w6 ⟨rfl, rfl⟩
      go_wp2_with fail
      refine (is_by 1 1 w5).mono ?_
      rintro e w6 ⟨rfl, rfl⟩
      go_wp2_with fail
      go_ret
      exact ⟨by simp, HE.out⟩
end Go.Proofs.Ytcnfpjghjdmefaa
