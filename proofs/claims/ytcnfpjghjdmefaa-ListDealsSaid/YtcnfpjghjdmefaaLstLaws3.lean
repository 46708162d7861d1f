/- Layer 9: the laws' walks: ListDeals. -/
import Derived.Test.YtcnfpjghjdmefaaLstLaws1
namespace Go.Proofs.Ytcnfpjghjdmefaa
open Go.RowKit Ex
set_option maxRecDepth 100000
theorem nums_nil (w : World) (B : Nat) (A : Option Addr) : Nums .i64 w B A 0 [] := ⟨rfl, fun i u h => by simp at h⟩
set_option linter.unusedSimpArgs false in
set_option maxHeartbeats 1000000 in
theorem listDeals_walk {w : World} (S : LstSaid w) (A : Option Addr) (n c : Nat) (l : List Int) (A2 : Option Addr) (n2 c2 : Nat) (o : List Int) (hN : Nums .i64 w w.heap.size A n l) (hnc : n ≤ c) (hlw : ∀ x ∈ l, I64 x) (hN2 : Nums .i64 w w.heap.size A2 n2 o) (hnc2 : n2 ≤ c2) (hlw2 : ∀ x ∈ o, I64 x) :
    Calls Try.prog 5 #[.slice A n c, .slice A2 n2 c2] w fun e w' => e = .returned (.bool true) ∧ Below w.heap.size w w' := by
  have hln := hN.len
  have hln2 := hN2.len
  go_enter Try.func5, Try.ntmps5
  go_wp2_with fail
  refine (lstAlive S w (Below.refl _ _)).mono ?_
  rintro e w1 ⟨rfl, hb1⟩
  by_cases h200 : 200 < n
  · have d0 : decide ((200 : Int) < (n : Int)) = true := by simp; omega
    clear h200
    go_wp2_with fail
    go_ret
    exact ⟨rfl, hb1⟩
  have d0 : decide ((200 : Int) < (n : Int)) = false := by simp; omega
  by_cases h202 : 200 < n2
  · have d1 : decide ((200 : Int) < (n2 : Int)) = true := by simp; omega
    clear h200 h202
    go_wp2_with fail
    go_ret
    exact ⟨rfl, hb1⟩
  have d1 : decide ((200 : Int) < (n2 : Int)) = false := by simp; omega
  have HL := Lib.hid (show LsIn w A n c l from ⟨hN, hnc, by omega, hlw⟩)
  have HO := Lib.hid (show LsIn w A2 n2 c2 o from ⟨hN2, hnc2, by omega, hlw2⟩)
  have hn3 : n ≤ 200 := by omega
  have hn4 : n2 ≤ 200 := by omega
  clear h200 h202 hN hlw hN2 hlw2
  go_wp2_with fail
  refine (S.deal A A2 n c n2 c2 l o w1 (HL.out.grow hb1) (HO.out.grow hb1) hb1).mono ?_
  rintro e w2 ⟨hb2, hdeal⟩
  have hbw2 := keepB hb2 hb1
  have href := dealRef_any A A2 n c n2 c2 l o w2 w.heap.size (HL.out.N.below hbw2) (HO.out.N.below hbw2) hbw2.size (by omega) (by omega)
  rcases hdeal with ⟨hok, A3, n3, c3, rfl, hm3⟩ | ⟨hno, A3, c3, rfl⟩
  · obtain rfl : n = n3 := by have h := hm3.len; have h2 := hok.1; rw [dealL, List.length_map] at h; omega
    go_wp2_with fail
    refine href.mono ?_
    rintro e w3 (⟨_, A4, n4, c4, rfl, ho4, hb3⟩ | ⟨hno, _⟩)
    · obtain rfl : n = n4 := by have h := ho4.len; have h2 := hm3.len; omega
      have hbw3 := keepB hb3 hbw2
      go_wp2_with fail
      refine (S.rev A n c l w3 (HL.out.grow hbw3) hbw3).mono ?_
      rintro e w4 ⟨hb4, A5, n5, c5, rfl, hm5⟩
      obtain rfl : n = n5 := by have h := hm5.len; rw [List.length_reverse] at h; omega
      have hin := ints_same A3 A4 n c3 n c4 (dealL l o) w4 _ _ (hm3.keep (keepB hb4 hb3)).1 (ho4.nums.below hb4) (by omega) (by omega)
      clear hm3 ho4 hok href
      go_wp2_with fail
      refine hin.mono ?_
      rintro e w6 ⟨rfl, hb6⟩
      clear hin
      have HW6 := Lib.hid (keepB hb6 (keepB hb4 hbw3))
      have HR := Lib.hid (hm5.keep hb6)
      clear hm5 hb6 hb4 hbw3 hb3 hbw2 hb2 hb1
      go_upto_region 11 with fail
      obtain ⟨W6, hW6⟩ : ∃ W, W = w6 := ⟨_, rfl⟩
      rw [← hW6] at HW6 HR ⊢
      clear hW6
      go_loopw [63] (fun i wr => ∃ k : Nat, i = .int .i64 ((k : Nat) : Int) ∧ k ≤ n ∧ Below W6.heap.size W6 wr) (fun i _ => n - (intOf i).toNat)
      case atStart => exact ⟨0, rfl, by omega, Below.refl _ _⟩
      case round =>
        obtain ⟨k, rfl, hk, hB⟩ := hrel
        have HB := Lib.hid hB
        clear hB
        by_cases hlt : k < n
        · have hd : decide ((k : Int) < (n : Int)) = true := by simp; omega
          obtain ⟨a1, ea1, _, hc1⟩ := (HR.out.keep HB.out).1.at_ (i := k) (by rw [List.length_reverse]; omega)
          subst ea1
          obtain ⟨a2, ea2, _, hc2⟩ := (HL.out.N.below (keepB HB.out HW6.out)).at_ (i := n - 1 - k) (by omega)
          subst ea2
          have hxy : (l.reverse)[k]'(by rw [List.length_reverse]; omega) = l[n - 1 - k]'(by omega) := by
            rw [List.getElem_reverse]
            congr 1
            omega
          rw [hxy] at hc1
          obtain ⟨y, hy⟩ : ∃ y, y = l[n - 1 - k]'(by omega) := ⟨_, rfl⟩
          rw [← hy] at hc1 hc2
          clear hy hxy
          have g0 : (0 : Int) ≤ (k : Int) := by omega
          have g1 : (k : Int) < (n : Int) := by omega
          obtain ⟨m1, hm1⟩ : ∃ m, m = n - 1 := ⟨_, rfl⟩
          have e1 : IntKind.i64.wrap ((n : Int) - 1) = (m1 : Int) := by rw [i64_in (by omega) (by omega)]; omega
          obtain ⟨m2, hm2⟩ : ∃ m, m = n - 1 - k := ⟨_, rfl⟩
          have e2 : IntKind.i64.wrap ((m1 : Int) - (k : Int)) = (m2 : Int) := by rw [i64_in (by omega) (by omega)]; omega
          have g2 : (0 : Int) ≤ (m2 : Int) := by omega
          have g3 : (m2 : Int) < (n : Int) := by omega
          rw [← hm2] at hc2
          clear hm1 hm2
          go_wp2_with fail
          go_quiet (fail)
          go_wp2_with fail
          go_roundw
          case rel => exact ⟨k + 1, by go_num, by omega, below_drewN HB.out _⟩
          case measure => simp [intOf]; omega
        · obtain rfl : k = n := by omega
          have hd : decide ((k : Int) < (k : Int)) = false := by simp
          go_wp2_with fail
          go_ret
          exact ⟨rfl, keepB HB.out HW6.out⟩
    · exact absurd hok hno
  · go_wp2_with fail
    refine href.mono ?_
    rintro e w3 (⟨hok, _⟩ | ⟨_, rfl, hb3⟩)
    · exact absurd hok hno
    have hbw3 := keepB hb3 hbw2
    go_wp2_with fail
    refine (S.rev A n c l w3 (HL.out.grow hbw3) hbw3).mono ?_
    rintro e w4 ⟨hb4, A5, n5, c5, rfl, hm5⟩
    obtain rfl : n = n5 := by have h := hm5.len; rw [List.length_reverse] at h; omega
    have hin := ints_same A3 none 0 c3 0 0 [] w4 0 0 (nums_nil _ _ _) (nums_nil _ _ _) (by omega) (by omega)
    clear href hno
    rw [errV_err (by decide)]
    go_wp2_with fail
    refine hin.mono ?_
    rintro e w5 ⟨rfl, hb5⟩
    clear hin
    have his := is_by 2 2 w5
    rw [errV_err (by decide)] at his
    go_wp2_with fail
    refine his.mono ?_
    rintro e w6 ⟨rfl, hw⟩
    subst hw
    clear his
    have HW6 := Lib.hid (keepB hb5 (keepB hb4 hbw3))
    have HR := Lib.hid (hm5.keep hb5)
    clear hm5 hb5 hb4 hbw3 hb3 hbw2 hb2 hb1
    go_upto_region 11 with fail
    obtain ⟨W6, hW6⟩ : ∃ W, W = w5 := ⟨_, rfl⟩
    rw [← hW6] at HW6 HR ⊢
    clear hW6
    go_loopw [63] (fun i wr => ∃ k : Nat, i = .int .i64 ((k : Nat) : Int) ∧ k ≤ n ∧ Below W6.heap.size W6 wr) (fun i _ => n - (intOf i).toNat)
    case atStart => exact ⟨0, rfl, by omega, Below.refl _ _⟩
    case round =>
      obtain ⟨k, rfl, hk, hB⟩ := hrel
      have HB := Lib.hid hB
      clear hB
      by_cases hlt : k < n
      · have hd : decide ((k : Int) < (n : Int)) = true := by simp; omega
        obtain ⟨a1, ea1, _, hc1⟩ := (HR.out.keep HB.out).1.at_ (i := k) (by rw [List.length_reverse]; omega)
        subst ea1
        obtain ⟨a2, ea2, _, hc2⟩ := (HL.out.N.below (keepB HB.out HW6.out)).at_ (i := n - 1 - k) (by omega)
        subst ea2
        have hxy : (l.reverse)[k]'(by rw [List.length_reverse]; omega) = l[n - 1 - k]'(by omega) := by
          rw [List.getElem_reverse]
          congr 1
          omega
        rw [hxy] at hc1
        obtain ⟨y, hy⟩ : ∃ y, y = l[n - 1 - k]'(by omega) := ⟨_, rfl⟩
        rw [← hy] at hc1 hc2
        clear hy hxy
        have g0 : (0 : Int) ≤ (k : Int) := by omega
        have g1 : (k : Int) < (n : Int) := by omega
        obtain ⟨m1, hm1⟩ : ∃ m, m = n - 1 := ⟨_, rfl⟩
        have e1 : IntKind.i64.wrap ((n : Int) - 1) = (m1 : Int) := by rw [i64_in (by omega) (by omega)]; omega
        obtain ⟨m2, hm2⟩ : ∃ m, m = n - 1 - k := ⟨_, rfl⟩
        have e2 : IntKind.i64.wrap ((m1 : Int) - (k : Int)) = (m2 : Int) := by rw [i64_in (by omega) (by omega)]; omega
        have g2 : (0 : Int) ≤ (m2 : Int) := by omega
        have g3 : (m2 : Int) < (n : Int) := by omega
        rw [← hm2] at hc2
        clear hm1 hm2
        go_wp2_with fail
        go_quiet (fail)
        go_wp2_with fail
        go_roundw
        case rel => exact ⟨k + 1, by go_num, by omega, below_drewN HB.out _⟩
        case measure => simp [intOf]; omega
      · obtain rfl : k = n := by omega
        have hd : decide ((k : Int) < (k : Int)) = false := by simp
        go_wp2_with fail
        go_ret
        exact ⟨rfl, keepB HB.out HW6.out⟩
end Go.Proofs.Ytcnfpjghjdmefaa
