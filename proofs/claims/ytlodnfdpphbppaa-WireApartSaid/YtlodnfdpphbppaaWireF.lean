/- Layer 2: contracts of Take and TakeList. -/
import Derived.Test.YtlodnfdpphbppaaWireC
import Derived.Test.YtlodnfdpphbppaaWireE
namespace Go.Proofs.Ytlodnfdpphbppaa
open Go.RowKit Wx
set_option maxHeartbeats 400000 in
theorem take_bad (A : Option Addr) (n c : Nat) (l : List Int) (w : World) (B : Nat) (hN : Nums .u8 w B A n l) (hb : byB l) (hn : n ≤ 100000000) (e0 : Int) (h0 : e0 ≠ 0) (hr : tk l = (0, 0, e0)) :
    Calls Try.prog 14 #[.slice A n c] w fun e w' => e = .returned (.tuple #[.int .i64 0, .slice none 0 0, .iface 52 (.int .i64 e0)]) ∧ w = w' := by
  have HN := Lib.hid hN
  have HB := Lib.hid hb
  have HR := Lib.hid hr
  have H0 := Lib.hid h0
  clear hN hb hr h0
  go_enter Try.func14, Try.ntmps14
  go_wp2_with fail
  refine (first_bad A n c l _ B HN.out HB.out (by omega) e0 H0.out HR.out).mono ?_
  rintro e w' ⟨rfl, rfl⟩
  go_wp2_with fail
  go_ret3
  exact ⟨rfl, rfl⟩
set_option maxHeartbeats 400000 in
theorem take_ok (A : Option Addr) (n c : Nat) (l : List Int) (w : World) (B : Nat) (hN : Nums .u8 w B A n l) (hc : n ≤ c) (hb : byB l) (hB : B ≤ w.heap.size) (hn : n ≤ 100000000) (z : Int) (k : Nat) (hr : tk l = (z, k, 0)) :
    Calls Try.prog 14 #[.slice A n c] w fun e w' => ∃ A' m c', e = .returned (.tuple #[.int .i64 z, .slice A' m c', .nilIface]) ∧ Own .u8 5 w' w.heap.size A' m c' (l.drop k) ∧ Below w.heap.size w w' := by
  have hk : k ≤ n := by
    rcases tk_range hb hr with ⟨_, _, h⟩ | ⟨_, h1, h2, _⟩
    · omega
    · rw [← hN.len]; exact h2
  obtain ⟨A1, hsl, hN1⟩ := cut_from (P := Try.prog) hN hc hk 22 (by kernel_rfl) (fun _ => by kernel_rfl)
  have HN := Lib.hid hN
  have HN1 := Lib.hid hN1
  have HB := Lib.hid hb
  have HR := Lib.hid hr
  clear hN hN1 hb hr
  go_enter Try.func14, Try.ntmps14
  go_wp2_with fail
  refine (first_ok A n c l _ B HN.out HB.out (by omega) z k HR.out).mono ?_
  rintro e w' ⟨rfl, rfl⟩
  go_wp2_with fail
  refine (withRoom_any A1 _ _ _ 0 _ B HN1.out hB (by omega) (by omega) (by omega)).mono ?_
  rintro e w1 ⟨A2, m2, c2, rfl, hown2, hb2⟩
  go_wp2_with fail
  go_ret3
  exact ⟨A2, m2, c2, rfl, hown2, hb2⟩
/-- What TakeList answers, by the document's answer r. -/
def TLPost (w : World) (l : List Int) (r : List Int × Nat × Int) (e : Ending) (w' : World) : Prop :=
  (r.2.2 ≠ 0 ∧ e = .returned (.tuple #[.slice none 0 0, .slice none 0 0, .iface 52 (.int .i64 r.2.2)]) ∧ Below w.heap.size w w') ∨
  (r.2.2 = 0 ∧ ∃ A1 m1 c1 A2 m2 c2, e = .returned (.tuple #[.slice A1 m1 c1, .slice A2 m2 c2, .nilIface]) ∧ Own .i64 3 w' w.heap.size A1 m1 c1 r.1 ∧ Own .u8 5 w' w.heap.size A2 m2 c2 (l.drop r.2.1) ∧ Below w.heap.size w w')
theorem tlPost_bad {w w' : World} {l : List Int} {r : List Int × Nat × Int} {e0 : Int} (hr : r = ([], 0, e0)) (h0 : e0 ≠ 0) (hb : Below w.heap.size w w') :
    TLPost w l r (.returned (.tuple #[.slice none 0 0, .slice none 0 0, .iface 52 (.int .i64 e0)])) w' := by
  subst hr; exact .inl ⟨h0, rfl, hb⟩
def TLRel (w : World) (l : List Int) (r : List Int × Nat × Int) (Z : Nat) (at_ v i : Value) (wr : World) : Prop :=
  ∃ A m c acc j a, v = .slice A m c ∧ at_ = .int .i64 ((a : Nat) : Int) ∧ i = .int .i64 ((j : Nat) : Int) ∧ j ≤ Z ∧ a ≤ l.length ∧ acc.length ≤ a ∧ Own .i64 3 wr w.heap.size A m c acc ∧ more (Z - j) l a acc = r ∧ Below w.heap.size w wr
theorem tl_one {l : List Int} {most : Int} {z : Int} {k : Nat} {e : Int} (ht : tk l = (z, k, e)) (he : e ≠ 0) : tl l most = ([], 0, e) := by
  unfold tl; rw [ht]; rw [if_pos (by exact he)]
theorem tl_two {l : List Int} {most : Int} {z : Int} {k : Nat} (ht : tk l = (z, k, 0)) (hz : z < 0) : tl l most = ([], 0, 1) := by
  unfold tl; rw [ht]; simp [hz]
theorem tl_three {l : List Int} {most : Int} {z : Int} {k : Nat} (ht : tk l = (z, k, 0)) (hz : ¬ z < 0) (hm : most < z) : tl l most = ([], 0, 19) := by
  unfold tl; rw [ht]; simp [hz, hm]
theorem tl_four {l : List Int} {most : Int} {z : Nat} {k : Nat} (ht : tk l = ((z : Int), k, 0)) (hm : ¬ most < (z : Int)) : tl l most = more z l k [] := by
  unfold tl; rw [ht]; simp only [ne_eq, not_true_eq_false, if_false]
  rw [if_neg (by omega), if_neg hm, Int.toNat_natCast]
set_option maxRecDepth 100000 in
set_option maxHeartbeats 1000000 in
theorem takeList_gen (A : Option Addr) (n c : Nat) (l : List Int) (most : Int) (w : World) (B : Nat) (hN : Nums .u8 w B A n l) (hc : n ≤ c) (hb : byB l) (hB : B ≤ w.heap.size) (hn : n ≤ 100000000) (r : List Int × Nat × Int) (hr : tl l most = r) :
    Calls Try.prog 17 #[.slice A n c, .int .i64 most] w (TLPost w l r) := by
  obtain ⟨i0, hi, hz0, hz1, hz2⟩ := info_parts info_int
  obtain rfl := hN.len
  obtain ⟨z, k, e0, ht⟩ : ∃ z k e0, tk l = (z, k, e0) := ⟨_, _, _, rfl⟩
  have HN := Lib.hid hN
  have HB := Lib.hid hb
  have HR := Lib.hid hr
  have HT := Lib.hid ht
  clear hN hb hr ht
  rcases tk_range HB.out HT.out with ⟨h1, h2, h3⟩ | ⟨h1, h2, h3, h4, h5, _⟩
  · subst h1 h2
    have h0 : e0 ≠ 0 := by omega
    have H0 := Lib.hid h0
    have HF : Hid (r = ([], 0, e0)) := by show _ = _; rw [← HR.out]; exact tl_one HT.out h0
    clear h3 h0
    go_enter Try.func17, Try.ntmps17
    go_wp2_with fail
    refine (first_bad A l.length c l _ B HN.out HB.out (by omega) e0 H0.out HT.out).mono ?_
    rintro e w' ⟨rfl, rfl⟩
    go_wp2_with fail
    go_ret3
    exact tlPost_bad HF.out H0.out (Below.refl _ _)
  · subst h1
    unfold i64B at h5
    obtain ⟨h5, h6⟩ := h5
    by_cases hz : z < 0
    · have HF : Hid (r = ([], 0, 1)) := by show _ = _; rw [← HR.out]; exact tl_two HT.out hz
      go_enter Try.func17, Try.ntmps17
      go_wp2_with fail
      refine (first_ok A l.length c l _ B HN.out HB.out (by omega) z k HT.out).mono ?_
      rintro e w' ⟨rfl, rfl⟩
      go_wp2_with fail
      go_ret3
      exact tlPost_bad HF.out (by decide) (Below.refl _ _)
    · obtain ⟨Z, rfl⟩ := Int.eq_ofNat_of_zero_le (show 0 ≤ z by omega)
      by_cases hm : most < (Z : Int)
      · have HF : Hid (r = ([], 0, 19)) := by show _ = _; rw [← HR.out]; exact tl_three HT.out hz hm
        go_enter Try.func17, Try.ntmps17
        go_wp2_with fail
        refine (first_ok A l.length c l _ B HN.out HB.out (by omega) Z k HT.out).mono ?_
        rintro e w' ⟨rfl, rfl⟩
        go_wp2_with fail
        go_ret3
        exact tlPost_bad HF.out (by decide) (Below.refl _ _)
      · have HF : Hid (more Z l k [] = r) := by show _ = _; rw [← HR.out]; exact (tl_four HT.out hm).symm
        clear hz h5
        go_enter Try.func17, Try.ntmps17
        go_wp2_with fail
        refine (first_ok A l.length c l _ B HN.out HB.out (by omega) Z k HT.out).mono ?_
        rintro e w' ⟨rfl, rfl⟩
        go_wp2_with fail
        go_loopw [8, 10, 31] (fun at_ v i wr => TLRel w l r Z at_ v i wr) (fun _ _ i _ => Z - (intOf i).toNat)
        case atStart => exact ⟨none, 0, 0, [], 0, k, rfl, rfl, rfl, by omega, h3, by simp, Own.nil _, HF.out, Below.refl _ _⟩
        case round =>
          obtain ⟨A1, m1, c1, acc, j, a, rfl, rfl, rfl, hj, ha, hacc, hown1, hmore, hbel⟩ := hrel
          have hm1 : m1 ≤ 100000000 := by have := hown1.len; omega
          have hs := hbel.size
          have hNr := HN.out.belowL hbel hB
          obtain ⟨A2, hsl, hN2⟩ := cut_from (P := Try.prog) hNr hc ha 22 (by kernel_rfl) (fun _ => by kernel_rfl)
          obtain ⟨z1, k1, e1, ht1⟩ : ∃ z1 k1 e1, tk (l.drop a) = (z1, k1, e1) := ⟨_, _, _, rfl⟩
          have HB2 := Lib.hid (byB_drop a HB.out)
          have HN2 := Lib.hid hN2
          have HM := Lib.hid hmore
          have HT1 := Lib.hid ht1
          have HO1 := Lib.hid hown1
          clear hN2 hmore ht1 hNr hown1
          by_cases hlt : j < Z
          · rcases tk_range HB2.out HT1.out with ⟨g1, g2, g3⟩ | ⟨g1, g2, g3, g4, g5, _⟩
            · subst g1 g2
              have h0 : e1 ≠ 0 := by omega
              have H0 := Lib.hid h0
              have HF2 : Hid (r = ([], 0, e1)) := by
                show _ = _
                rw [← HM.out, show Z - j = (Z - j - 1) + 1 by omega]; exact more_bad HT1.out h0
              clear g3 h0
              go_wp2_with fail
              refine (first_bad A2 _ _ _ _ B HN2.out HB2.out (by omega) e1 H0.out HT1.out).mono ?_
              rintro e w' ⟨rfl, rfl⟩
              go_wp2_with fail
              go_ret3
              exact tlPost_bad HF2.out H0.out hbel
            · subst g1
              rw [List.length_drop] at g3
              have HM2 : Hid (more (Z - (j + 1)) l (a + k1) (acc ++ [z1]) = r) := by
                show _ = _
                rw [← HM.out, show Z - j = (Z - (j + 1)) + 1 by omega]; exact (more_ok HT1.out).symm
              go_wp2_with fail
              refine (first_ok A2 _ _ _ _ B HN2.out HB2.out (by omega) z1 k1 HT1.out).mono ?_
              rintro e w' ⟨rfl, rfl⟩
              go_wp2_with (at_builtin; refine wpList_app rfl (.tmp 44) (.tmp 46) _ rfl .i64 w.heap.size 3 i0 _ 8 Try.underlying23 hi hz0 hz1 hz2 rfl A1 m1 c1 acc rfl (HO1.out.alloc _) _ (some ⟨wr.heap.size, 0, none⟩) 1 1 [z1] rfl (Nums.one _ _ _ _) (by omega) (by omega) (by simp; omega) ?_; intro A3 c3 w3 hown3 hg3)
              have HO3 := Lib.hid hown3
              have hbel3 := (HO1.out.alloc _).belowGrown (hbel.alloc (by omega) _) (by simp; omega) hg3
              clear hown3 hg3 hsl
              go_roundw
              case rel => exact ⟨A3, _, c3, acc ++ [z1], j + 1, a + k1, rfl, by go_num, by go_num, by omega, by omega, by simp; omega, HO3.out, HM2.out, hbel3⟩
              case measure => simp [intOf]; omega
          · obtain rfl : j = Z := by omega
            have HF2 : Hid (r = (acc, a, 0)) := by
              show _ = _
              rw [← HM.out, Nat.sub_self, more]
            go_wp2_with fail
            refine (withRoom_any A2 _ _ _ 0 _ B HN2.out (by omega) (by omega) (by omega) (by omega)).mono ?_
            rintro e w5 ⟨A5, m5, c5, rfl, hown5, hb5⟩
            go_wp2_with fail
            go_ret3
            rw [HF2.out]
            exact .inr ⟨rfl, A1, m1, c1, A5, m5, c5, rfl, HO1.out.below hb5 (Nat.le_refl _), hown5.base_le hs, hbel.trans (hb5.mono hs)⟩
end Go.Proofs.Ytlodnfdpphbppaa
