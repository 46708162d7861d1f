/- Layer 2: contracts of what puts: room, one number, a list. Layer 2: contracts of Take and TakeList. Layer 10: the code's Check. Layer 11: what the layers below answer, as canon's calls want it. Layer 11: the code's put; its Hash. Layer 11: the code's Bytes, Mark. -/
import Derived.Test.YtihbdbgmijkjmaaDoorWireB
import Derived.Test.YtihbdbgmijkjmaaDoorWireE
import Derived.Test.YtihbdbgmijkjmaaDoorCanG1
import Derived.Test.YtihbdbgmijkjmaaDoorStRef5
import Derived.Test.YtihbdbgmijkjmaaDoorCanG2
import Derived.Test.YtihbdbgmijkjmaaDoorCanRef
import Derived.Test.YtihbdbgmijkjmaaDoorAppG
import Derived.Test.YtihbdbgmijkjmaaDoorStLong
namespace Go.Proofs.YtihbdbgmijkjmaaDoor
open Go.RowKit Wx

theorem MadeB.mono_ {k : IntKind} {t : TypeId} {w : World} {base : Nat} {l l' : List Int} {e : Ending} {w' : World} (h : MadeB k t w base l e w') (hl : l = l') : MadeB k t w base l' e w' := hl ▸ h

set_option maxRecDepth 100000 in
set_option maxHeartbeats 400000 in
theorem withRoom_any (A : Option Addr) (n c : Nat) (bs : List Int) (room : Int) (w : World) (B : Nat) (hN : Nums .u8 w B A n bs) (hB : B ≤ w.heap.size) (hn : n ≤ 1000000000) (h0 : 0 ≤ room) (h1 : room ≤ 1000000000) :
    Calls Tryd.prog 44 #[.slice A n c, .int .i64 room] w (MadeB .u8 5 w w.heap.size bs) := by
  obtain ⟨i0, hi, hz0, hz1, hz2⟩ := info_parts info_u8
  go_enter Tryd.func44, Tryd.ntmps44
  go_wp2_with (first
    | (at_make; refine wpList_mk _ rfl _ _ 30 rfl .u8 w.heap.size 5 i0 _ 1 Tryd.underlying30 hi hz0 hz1 hz2 .i64 .i64 ((n : Int) + room) rfl rfl (by omega) (by omega) (by omega) (Nat.le_refl _) ?_; intro w1 g hown1 hg1)
    | (at_builtin; refine wpList_app rfl (.tmp 9) (.tmp 10) _ rfl .u8 w.heap.size 5 i0 _ 1 Tryd.underlying30 hi hz0 hz1 hz2 rfl (some g) 0 _ [] rfl hown1 B A n c bs rfl (hN.belowL ((Below.refl _ _).grown hg1 (Nat.le_refl _) (by intro k hk; cases hk)) hB) (by omega) (by omega) hg1.size ?_; intro A2 c2 w2 hown2 hg2))
  go_ret
  exact ⟨A2, n, c2, by simp, by simpa using hown2, hown1.belowGrown ((Below.refl _ _).grown hg1 (Nat.le_refl _) (by intro k hk; cases hk)) hg1.size hg2⟩
theorem put_any (A : Option Addr) (n c : Nat) (bs : List Int) (x : Int) (hx : i64B x) (w : World) (B : Nat) (hN : Nums .u8 w B A n bs) (hB : B ≤ w.heap.size) (hn : n ≤ 100000000) :
    Calls Tryd.prog 40 #[.slice A n c, .int .i64 x] w (MadeB .u8 5 w w.heap.size (bs ++ bts x)) := by
  have hb := bts_len x
  have H := Lib.hid hx
  have HN := Lib.hid hN
  clear hx hN
  go_enter Tryd.func40, Tryd.ntmps40
  go_wp2_with fail
  refine (size_any x H.out _).mono ?_
  rintro e w' ⟨rfl, rfl⟩
  go_wp2_with fail
  refine (withRoom_any A n c bs _ _ B HN.out hB (by omega) (by omega) (by omega)).mono ?_
  rintro e w1 ⟨A1, m1, c1, rfl, hown1, hb1⟩
  have hm1 : m1 ≤ 100000000 := by have := hown1.len; have := HN.out.len; omega
  have HO := Lib.hid hown1
  have hs1 := hb1.size
  clear hown1
  go_wp2_with fail
  refine (add_any x H.out _ A1 m1 c1 bs _ HO.out hs1 (by omega)).mono ?_
  rintro e w2 ⟨A2, m2, c2, rfl, hown2, hb2⟩
  go_wp2_with fail
  go_ret
  exact ⟨A2, m2, c2, rfl, hown2, hb1.trans hb2⟩
theorem flat_next {l : List Int} {k : Nat} (h : k < l.length) : (l.take (k + 1)).flatMap bts = (l.take k).flatMap bts ++ bts l[k] := by
  rw [List.take_succ_eq_append_getElem h, List.flatMap_append]; simp
def PLRel (w : World) (t : TypeId) (bs l : List Int) (v i : Value) (wr : World) : Prop :=
  ∃ A m c k, v = .slice A m c ∧ i = .int .i64 ((k : Nat) : Int) ∧ k ≤ l.length ∧ Own .u8 t wr w.heap.size A m c (bs ++ bts l.length ++ (l.take k).flatMap bts) ∧ Below w.heap.size w wr
set_option maxHeartbeats 400000 in
theorem putList_any (A : Option Addr) (n c : Nat) (bs : List Int) (A2 : Option Addr) (n2 c2 : Nat) (l : List Int) (w : World) (B : Nat) (hN : Nums .u8 w B A n bs) (hN2 : Nums .i64 w B A2 n2 l) (hl : ∀ x ∈ l, i64B x) (hB : B ≤ w.heap.size)
    (hn : n ≤ 100000000) (hn2 : n2 ≤ 10000000) :
    Calls Tryd.prog 24 #[.slice A n c, .slice A2 n2 c2] w (MadeB .u8 5 w w.heap.size (bs ++ lst l)) := by
  obtain rfl := hN2.len
  have hi64 : Hid (i64B (l.length : Int)) := i64B_len (by omega)
  have hb := bts_len (l.length : Int)
  have HN := Lib.hid hN
  have HN2 := Lib.hid hN2
  have HL := Lib.hid hl
  clear hN hN2 hl
  go_enter Tryd.func24, Tryd.ntmps24
  go_wp2_with fail
  refine (size_any _ hi64.out _).mono ?_
  rintro e w' ⟨rfl, rfl⟩
  go_wp2_with fail
  go_loop [5, 16] (fun s i => ∃ k z : Nat, k ≤ l.length ∧ i = .int .i64 k ∧ s = .int .i64 z ∧ z ≤ 10 * k + 10) (fun _ i => l.length - (intOf i).toNat)
  case atStart => exact ⟨0, _, by omega, rfl, rfl, by omega⟩
  case round =>
    obtain ⟨k, z, hk, rfl, rfl, hz⟩ := hrel
    by_cases hlt : k < l.length
    · obtain ⟨a, hA, hab, hc⟩ := HN2.out.at_ hlt
      obtain ⟨x, hx⟩ : ∃ x, x = l[k] := ⟨_, rfl⟩
      rw [← hx] at hc
      have Hx : Hid (i64B x) := by rw [hx]; exact HL.out _ (List.getElem_mem hlt)
      have hbx := bts_len x
      clear hx
      subst hA
      go_wp2_with fail
      refine (size_any x Hx.out _).mono ?_
      rintro e w' ⟨rfl, rfl⟩
      go_wp2_with fail
      go_round
      case rel => exact ⟨k + 1, z + (bts x).length, by omega, by go_num, by go_num, by omega⟩
      case measure => simp [intOf]; omega
    · go_wp2_with fail
      refine (withRoom_any A n c bs _ _ B HN.out hB (by omega) (by omega) (by omega)).mono ?_
      rintro e w1 ⟨A1, m1, c1, rfl, hown1, hb1⟩
      have hm1 : m1 ≤ 100000000 := by have := hown1.len; have := HN.out.len; omega
      have HO := Lib.hid hown1
      have hs1 := hb1.size
      clear hown1
      go_wp2_with fail
      refine (add_any _ hi64.out _ A1 m1 c1 bs _ HO.out hs1 (by omega)).mono ?_
      rintro e w2 ⟨A3, m3, c3, rfl, hown3, hb3⟩
      have hbel3 := hb1.trans hb3
      have HO3 := Lib.hid hown3
      clear hown3 hb1 hb3 HO hs1
      go_wp2_with fail
      go_loopw [8, 33] (fun v i wr => PLRel w 5 bs l v i wr) (fun _ i _ => l.length - (intOf i).toNat)
      case atStart => exact ⟨A3, m3, c3, 0, rfl, rfl, by omega, by simpa using HO3.out, hbel3⟩
      case round =>
        obtain ⟨A4, m4, c4, j, rfl, rfl, hj, hown4, hbel4⟩ := hrel
        have HO4 := Lib.hid hown4
        have hm4 : m4 ≤ 300000000 := by
          have e1 := hown4.len
          have e2 := flat_len (l.take j)
          have e3 := HN.out.len
          simp only [List.length_append, List.length_take] at e1 e2; omega
        clear hown4 hbel3
        have hs4 := hbel4.size
        by_cases hlt2 : j < l.length
        · obtain ⟨a, hA, hab, hc⟩ := (HN2.out.belowL hbel4 hB).at_ hlt2
          have HX := Lib.hid (flat_next hlt2)
          obtain ⟨x, hx⟩ : ∃ x, x = l[j] := ⟨_, rfl⟩
          rw [← hx] at hc HX
          have Hx : Hid (i64B x) := by rw [hx]; exact HL.out _ (List.getElem_mem hlt2)
          clear hx
          subst hA
          go_wp2_with fail
          refine (add_any x Hx.out _ A4 m4 c4 _ _ HO4.out hs4 (by omega)).mono ?_
          rintro e w5 ⟨A5, m5, c5, rfl, hown5, hb5⟩
          have hbel5 := hbel4.trans hb5
          have HO5 := Lib.hid hown5
          clear hown5 hb5 hc
          go_wp2_with fail
          go_roundw
          case rel => exact ⟨A5, m5, c5, j + 1, rfl, by go_num, by omega, by rw [HX.out, ← List.append_assoc]; exact HO5.out, hbel5⟩
          case measure => simp [intOf]; omega
        · go_wp2_with fail
          go_ret
          refine ⟨A4, m4, c4, rfl, ?_, hbel4⟩
          have h5 := HO4.out
          rw [List.take_of_length_le (by omega)] at h5
          unfold lst; rw [← List.append_assoc]; exact h5
end Go.Proofs.YtihbdbgmijkjmaaDoor
namespace Go.Proofs.YtihbdbgmijkjmaaDoor
open Go.RowKit Wx
set_option maxHeartbeats 400000 in
theorem take_bad (A : Option Addr) (n c : Nat) (l : List Int) (w : World) (B : Nat) (hN : Nums .u8 w B A n l) (hb : byB l) (hn : n ≤ 100000000) (e0 : Int) (h0 : e0 ≠ 0) (hr : tk l = (0, 0, e0)) :
    Calls Tryd.prog 68 #[.slice A n c] w fun e w' => e = .returned (.tuple #[.int .i64 0, .slice none 0 0, .iface 65 (.int .i64 e0)]) ∧ w = w' := by
  have HN := Lib.hid hN
  have HB := Lib.hid hb
  have HR := Lib.hid hr
  have H0 := Lib.hid h0
  clear hN hb hr h0
  go_enter Tryd.func68, Tryd.ntmps68
  go_wp2_with fail
  refine (first_bad A n c l _ B HN.out HB.out (by omega) e0 H0.out HR.out).mono ?_
  rintro e w' ⟨rfl, rfl⟩
  go_wp2_with fail
  go_ret3
  exact ⟨rfl, rfl⟩
set_option maxHeartbeats 400000 in
theorem take_ok (A : Option Addr) (n c : Nat) (l : List Int) (w : World) (B : Nat) (hN : Nums .u8 w B A n l) (hc : n ≤ c) (hb : byB l) (hB : B ≤ w.heap.size) (hn : n ≤ 100000000) (z : Int) (k : Nat) (hr : tk l = (z, k, 0)) :
    Calls Tryd.prog 68 #[.slice A n c] w fun e w' => ∃ A' m c', e = .returned (.tuple #[.int .i64 z, .slice A' m c', .nilIface]) ∧ Own .u8 5 w' w.heap.size A' m c' (l.drop k) ∧ Below w.heap.size w w' := by
  have hk : k ≤ n := by
    rcases tk_range hb hr with ⟨_, _, h⟩ | ⟨_, h1, h2, _⟩
    · omega
    · rw [← hN.len]; exact h2
  obtain ⟨A1, hsl, hN1⟩ := cut_from (P := Tryd.prog) hN hc hk 30 (by kernel_rfl) (fun _ => by kernel_rfl)
  have HN := Lib.hid hN
  have HN1 := Lib.hid hN1
  have HB := Lib.hid hb
  have HR := Lib.hid hr
  clear hN hN1 hb hr
  go_enter Tryd.func68, Tryd.ntmps68
  go_wp2_with fail
  refine (first_ok A n c l _ B HN.out HB.out (by omega) z k HR.out).mono ?_
  rintro e w' ⟨rfl, rfl⟩
  go_wp2_with fail
  refine (withRoom_any A1 _ _ _ 0 _ B HN1.out hB (by omega) (by omega) (by omega)).mono ?_
  rintro e w1 ⟨A2, m2, c2, rfl, hown2, hb2⟩
  go_wp2_with fail
  go_ret3
  exact ⟨A2, m2, c2, rfl, hown2, hb2⟩
/-- What TakeList answers, by the document's answer r. -/
def TLPost (w : World) (l : List Int) (r : List Int × Nat × Int) (e : Ending) (w' : World) : Prop :=
  (r.2.2 ≠ 0 ∧ e = .returned (.tuple #[.slice none 0 0, .slice none 0 0, .iface 65 (.int .i64 r.2.2)]) ∧ Below w.heap.size w w') ∨
  (r.2.2 = 0 ∧ ∃ A1 m1 c1 A2 m2 c2, e = .returned (.tuple #[.slice A1 m1 c1, .slice A2 m2 c2, .nilIface]) ∧ Own .i64 3 w' w.heap.size A1 m1 c1 r.1 ∧ Own .u8 5 w' w.heap.size A2 m2 c2 (l.drop r.2.1) ∧ Below w.heap.size w w')
theorem tlPost_bad {w w' : World} {l : List Int} {r : List Int × Nat × Int} {e0 : Int} (hr : r = ([], 0, e0)) (h0 : e0 ≠ 0) (hb : Below w.heap.size w w') :
    TLPost w l r (.returned (.tuple #[.slice none 0 0, .slice none 0 0, .iface 65 (.int .i64 e0)])) w' := by
  subst hr; exact .inl ⟨h0, rfl, hb⟩
def TLRel (w : World) (l : List Int) (r : List Int × Nat × Int) (Z : Nat) (at_ v i : Value) (wr : World) : Prop :=
  ∃ A m c acc j a, v = .slice A m c ∧ at_ = .int .i64 ((a : Nat) : Int) ∧ i = .int .i64 ((j : Nat) : Int) ∧ j ≤ Z ∧ a ≤ l.length ∧ acc.length ≤ a ∧ Own .i64 3 wr w.heap.size A m c acc ∧ more (Z - j) l a acc = r ∧ Below w.heap.size w wr
theorem tl_one {l : List Int} {most : Int} {z : Int} {k : Nat} {e : Int} (ht : tk l = (z, k, e)) (he : e ≠ 0) : tl l most = ([], 0, e) := by
  unfold tl; rw [ht]; rw [if_pos (by exact he)]
theorem tl_two {l : List Int} {most : Int} {z : Int} {k : Nat} (ht : tk l = (z, k, 0)) (hz : z < 0) : tl l most = ([], 0, 1) := by
  unfold tl; rw [ht]; simp [hz]
theorem tl_three {l : List Int} {most : Int} {z : Int} {k : Nat} (ht : tk l = (z, k, 0)) (hz : ¬ z < 0) (hm : most < z) : tl l most = ([], 0, 19) := by
  unfold tl; rw [ht]; simp [hz, hm]
theorem tl_four {l : List Int} {most : Int} {z : Nat} {k : Nat} (ht : tk l = ((z : Int), k, 0)) (hm : ¬ most < (z : Int)) : tl l most = more z l k [] := by
  unfold tl; rw [ht]; simp only [ne_eq, not_true_eq_false, if_false]
  rw [if_neg (by omega), if_neg hm, Int.toNat_natCast]
set_option maxRecDepth 100000 in
set_option maxHeartbeats 1000000 in
theorem takeList_gen (A : Option Addr) (n c : Nat) (l : List Int) (most : Int) (w : World) (B : Nat) (hN : Nums .u8 w B A n l) (hc : n ≤ c) (hb : byB l) (hB : B ≤ w.heap.size) (hn : n ≤ 100000000) (r : List Int × Nat × Int) (hr : tl l most = r) :
    Calls Tryd.prog 66 #[.slice A n c, .int .i64 most] w (TLPost w l r) := by
  obtain ⟨i0, hi, hz0, hz1, hz2⟩ := info_parts info_int
  obtain rfl := hN.len
  obtain ⟨z, k, e0, ht⟩ : ∃ z k e0, tk l = (z, k, e0) := ⟨_, _, _, rfl⟩
  have HN := Lib.hid hN
  have HB := Lib.hid hb
  have HR := Lib.hid hr
  have HT := Lib.hid ht
  clear hN hb hr ht
  rcases tk_range HB.out HT.out with ⟨h1, h2, h3⟩ | ⟨h1, h2, h3, h4, h5, _⟩
  · subst h1 h2
    have h0 : e0 ≠ 0 := by omega
    have H0 := Lib.hid h0
    have HF : Hid (r = ([], 0, e0)) := by show _ = _; rw [← HR.out]; exact tl_one HT.out h0
    clear h3 h0
    go_enter Tryd.func66, Tryd.ntmps66
    go_wp2_with fail
    refine (first_bad A l.length c l _ B HN.out HB.out (by omega) e0 H0.out HT.out).mono ?_
    rintro e w' ⟨rfl, rfl⟩
    go_wp2_with fail
    go_ret3
    exact tlPost_bad HF.out H0.out (Below.refl _ _)
  · subst h1
    unfold i64B at h5
    obtain ⟨h5, h6⟩ := h5
    by_cases hz : z < 0
    · have HF : Hid (r = ([], 0, 1)) := by show _ = _; rw [← HR.out]; exact tl_two HT.out hz
      go_enter Tryd.func66, Tryd.ntmps66
      go_wp2_with fail
      refine (first_ok A l.length c l _ B HN.out HB.out (by omega) z k HT.out).mono ?_
      rintro e w' ⟨rfl, rfl⟩
      go_wp2_with fail
      go_ret3
      exact tlPost_bad HF.out (by decide) (Below.refl _ _)
    · obtain ⟨Z, rfl⟩ := Int.eq_ofNat_of_zero_le (show 0 ≤ z by omega)
      by_cases hm : most < (Z : Int)
      · have HF : Hid (r = ([], 0, 19)) := by show _ = _; rw [← HR.out]; exact tl_three HT.out hz hm
        go_enter Tryd.func66, Tryd.ntmps66
        go_wp2_with fail
        refine (first_ok A l.length c l _ B HN.out HB.out (by omega) Z k HT.out).mono ?_
        rintro e w' ⟨rfl, rfl⟩
        go_wp2_with fail
        go_ret3
        exact tlPost_bad HF.out (by decide) (Below.refl _ _)
      · have HF : Hid (more Z l k [] = r) := by show _ = _; rw [← HR.out]; exact (tl_four HT.out hm).symm
        clear hz h5
        go_enter Tryd.func66, Tryd.ntmps66
        go_wp2_with fail
        refine (first_ok A l.length c l _ B HN.out HB.out (by omega) Z k HT.out).mono ?_
        rintro e w' ⟨rfl, rfl⟩
        go_wp2_with fail
        go_loopw [8, 10, 31] (fun at_ v i wr => TLRel w l r Z at_ v i wr) (fun _ _ i _ => Z - (intOf i).toNat)
        case atStart => exact ⟨none, 0, 0, [], 0, k, rfl, rfl, rfl, by omega, h3, by simp, Own.nil _, HF.out, Below.refl _ _⟩
        case round =>
          obtain ⟨A1, m1, c1, acc, j, a, rfl, rfl, rfl, hj, ha, hacc, hown1, hmore, hbel⟩ := hrel
          have hm1 : m1 ≤ 100000000 := by have := hown1.len; omega
          have hs := hbel.size
          have hNr := HN.out.belowL hbel hB
          obtain ⟨A2, hsl, hN2⟩ := cut_from (P := Tryd.prog) hNr hc ha 30 (by kernel_rfl) (fun _ => by kernel_rfl)
          obtain ⟨z1, k1, e1, ht1⟩ : ∃ z1 k1 e1, tk (l.drop a) = (z1, k1, e1) := ⟨_, _, _, rfl⟩
          have HB2 := Lib.hid (byB_drop a HB.out)
          have HN2 := Lib.hid hN2
          have HM := Lib.hid hmore
          have HT1 := Lib.hid ht1
          have HO1 := Lib.hid hown1
          clear hN2 hmore ht1 hNr hown1
          by_cases hlt : j < Z
          · rcases tk_range HB2.out HT1.out with ⟨g1, g2, g3⟩ | ⟨g1, g2, g3, g4, g5, _⟩
            · subst g1 g2
              have h0 : e1 ≠ 0 := by omega
              have H0 := Lib.hid h0
              have HF2 : Hid (r = ([], 0, e1)) := by
                show _ = _
                rw [← HM.out, show Z - j = (Z - j - 1) + 1 by omega]; exact more_bad HT1.out h0
              clear g3 h0
              go_wp2_with fail
              refine (first_bad A2 _ _ _ _ B HN2.out HB2.out (by omega) e1 H0.out HT1.out).mono ?_
              rintro e w' ⟨rfl, rfl⟩
              go_wp2_with fail
              go_ret3
              exact tlPost_bad HF2.out H0.out hbel
            · subst g1
              rw [List.length_drop] at g3
              have HM2 : Hid (more (Z - (j + 1)) l (a + k1) (acc ++ [z1]) = r) := by
                show _ = _
                rw [← HM.out, show Z - j = (Z - (j + 1)) + 1 by omega]; exact (more_ok HT1.out).symm
              go_wp2_with fail
              refine (first_ok A2 _ _ _ _ B HN2.out HB2.out (by omega) z1 k1 HT1.out).mono ?_
              rintro e w' ⟨rfl, rfl⟩
              go_wp2_with (at_builtin; refine wpList_app rfl (.tmp 44) (.tmp 46) _ rfl .i64 w.heap.size 3 i0 _ 8 Tryd.underlying23 hi hz0 hz1 hz2 rfl A1 m1 c1 acc rfl (HO1.out.alloc _) _ (some ⟨wr.heap.size, 0, none⟩) 1 1 [z1] rfl (Nums.one _ _ _ _) (by omega) (by omega) (by simp; omega) ?_; intro A3 c3 w3 hown3 hg3)
              have HO3 := Lib.hid hown3
              have hbel3 := (HO1.out.alloc _).belowGrown (hbel.alloc (by omega) _) (by simp; omega) hg3
              clear hown3 hg3 hsl
              go_roundw
              case rel => exact ⟨A3, _, c3, acc ++ [z1], j + 1, a + k1, rfl, by go_num, by go_num, by omega, by omega, by simp; omega, HO3.out, HM2.out, hbel3⟩
              case measure => simp [intOf]; omega
          · obtain rfl : j = Z := by omega
            have HF2 : Hid (r = (acc, a, 0)) := by
              show _ = _
              rw [← HM.out, Nat.sub_self, more]
            go_wp2_with fail
            refine (withRoom_any A2 _ _ _ 0 _ B HN2.out (by omega) (by omega) (by omega) (by omega)).mono ?_
            rintro e w5 ⟨A5, m5, c5, rfl, hown5, hb5⟩
            go_wp2_with fail
            go_ret3
            rw [HF2.out]
            exact .inr ⟨rfl, A1, m1, c1, A5, m5, c5, rfl, HO1.out.below hb5 (Nat.le_refl _), hown5.base_le hs, hbel.trans (hb5.mono hs)⟩
end Go.Proofs.YtihbdbgmijkjmaaDoor
namespace Go.Proofs.YtihbdbgmijkjmaaDoor
open Go.RowKit Ex
attribute [local go_sem] arr_get
set_option maxRecDepth 100000
theorem ranges_zone {s : StT} (h : rangesB s = true) {k : Nat} (hk : k < s.objs.length) : 0 ≤ s.objs[k] 3 := by
  simp only [rangesB, Bool.and_eq_true] at h
  have := List.all_eq_true.1 h.1.1.1 _ (List.getElem_mem hk)
  rw [objectB_is] at this
  have := fitsB_iff.1 this 3 (by omega)
  simp only [inR, Bool.and_eq_true, decide_eq_true_eq, spanO] at this
  exact this.1
set_option maxHeartbeats 0 in
theorem check_code {z : World} (T : TabF z) (s : StT) (O : SlT) (L : Nat → SlT) (cs : Array Value) (w : World) (B : Nat) (h : ReadsS B w cs s O L) (hB : B ≤ w.heap.size) (hn : s.objs.length ≤ 1000000) (hll : ∀ z < 11, (s.lists z).length ≤ 1000000) (hzw : Below z.heap.size z w) :
    Calls Tryd.prog 20 #[.agg cs] w fun e w' => e = .returned (errV (chkS s)) ∧ Below w.heap.size w w' := by
  obtain ⟨q, hq⟩ : ∃ q, q = errV (chkS s) := ⟨_, rfl⟩
  rw [← hq]
  have HQ := Lib.hid hq
  clear hq
  go_enter Tryd.func20, Tryd.ntmps20
  have hcs := h.cs
  have c0 : cs[0]? = some (.slice O.A O.n O.c) := by rw [hcs]; exact stC_objs _ _ _ _
  have hOn := h.on
  have hOc := h.oc
  have hO := h.o
  have hsz : (Tryd.prog.info? 29).map (·.size) = some cs.size := by rw [h.size]; exact size37
  have H := Lib.hid h
  clear h
  obtain ⟨A, n, c⟩ := O
  simp only at c0 hOn hOc hO
  have HC := Lib.hid hcs
  clear hcs
  subst hOn
  go_upto_region 1 with fail
  have hs0 : StAt (w.alloc (.cells cs 29)) w.heap.size cs := StAt.new _ _
  have hb0 : Below w.heap.size w (w.alloc (.cells cs 29)) := (Below.refl _ _).alloc (Nat.le_refl _) _
  obtain ⟨w1, hw1⟩ : ∃ w1, w1 = w.alloc (.cells cs 29) := ⟨_, rfl⟩
  rw [← hw1] at hs0 hb0 ⊢
  clear hw1
  have c1 := (hs0.cell 0).trans c0
  by_cases h4 : 400 < s.objs.length
  · have d4 : decide ((400 : Int) < (s.objs.length : Int)) = true := by simp; omega
    have hf : errV (chkS s) = .iface 65 (.int .i64 5) := by rw [show chkS s = 5 by simp [chkS, h4]]; rfl
    obtain rfl := HQ.out.trans hf
    clear hf
    go_wp2_with fail
    go_ret
    exact ⟨rfl, hb0⟩
  have d4 : decide ((400 : Int) < (s.objs.length : Int)) = false := by simp; omega
  go_wp2_with (refine wpList_load_row rfl 29 (.tmp 1) rfl w.heap.size rfl 29 _ (0, 0) _ hs0 Tryd.underlying29 rfl hsz ?_)
  refine (numbers_code s _ L cs w1 _ ((H.out.more hB).below hb0) hb0.size hn).mono ?_
  rintro e w2 ⟨rfl, hb2⟩
  have hb := keepB hb2 hb0
  have hs2 := hs0.keep hb2
  clear c1
  by_cases hr : rangesB s = true
  case neg =>
    have fr : rangesB s = false := by simpa using hr
    have hf : errV (chkS s) = .iface 65 (.int .i64 1) := by rw [show chkS s = 1 by simp [chkS, h4, fr]]; rfl
    obtain rfl := HQ.out.trans hf
    clear hf
    go_wp2_with fail
    go_ret
    exact ⟨rfl, hb⟩
  have HRz := Lib.hid (fun k (hk : k < s.objs.length) => ranges_zone hr hk)
  go_wp2_with (refine wpList_load_row rfl 29 (.tmp 1) rfl w.heap.size rfl 29 _ (0, 0) _ hs2 Tryd.underlying29 rfl hsz ?_)
  refine (lists_code s _ L cs w2 _ ((H.out.more hB).below hb) hb.size (by omega) hll).mono ?_
  rintro e w3 ⟨rfl, hb3⟩
  have hbb := keepB hb3 hb
  have hs3 := hs2.keep hb3
  clear hb hb2 hs2 hb0 hs0 hb3
  by_cases hz : zonesB s = true
  case neg =>
    have fq : zonesB s = false := by simpa using hz
    have hf : errV (chkS s) = .iface 65 (.int .i64 12) := by rw [show chkS s = 12 by simp [chkS, h4, hr, fq]]; rfl
    obtain rfl := HQ.out.trans hf
    clear hf
    go_wp2_with fail
    go_ret
    exact ⟨rfl, hbb⟩
  have c3 := (hs3.cell 0).trans c0
  go_upto_region 8 with fail
  have hg0 : GoodF s 0 := fun j hj hk => absurd hk (by omega)
  go_loopw [21] (fun i wr => ∃ k : Nat, i = .int .i64 ((k : Nat) : Int) ∧ k ≤ s.objs.length ∧ GoodF s k ∧ Below w.heap.size w wr) (fun i _ => s.objs.length - (intOf i).toNat)
  case atStart => exact ⟨0, rfl, by omega, hg0, hbb⟩
  case round =>
    clear hbb hs3 c3 hg0
    obtain ⟨k, rfl, hk, hgood, hbr⟩ := hrel
    by_cases hlt : k < s.objs.length
    · have hlk := hlt
      obtain ⟨b, off, rfl, hbB, hra⟩ := hO.at_ hlt
      have hra := range_below hbr (by omega) hra
      obtain ⟨x, hx⟩ : ∃ x, x = s.objs[k] := ⟨_, rfl⟩
      rw [← hx] at hra
      have HX := Lib.hid hx
      clear hx
      have hz := st_zero18
      have hnew : (wr.alloc (.cells (arr .i64 18 fun _ => 0) 56)).heap[wr.heap.size]? = some (.cells (arr .i64 18 fun _ => 0) 56 (0, 0)) := heap_alloc_new _ _
      have hsx : (Tryd.prog.info? 56).map (·.size) = some (arr .i64 18 x).size := by rw [arr_size]; exact st_size18
      go_upto_region 10 with (first
        | (refine load_obj rfl (.tmp 23) rfl b (off + k * 18) rfl x hra ?_)
        | (refine wpList_store_row rfl 56 (.tmp 4) (.tmp 24) rfl wr.heap.size _ rfl rfl 56 (arr .i64 18 fun _ => 0) hnew hsx (by rw [arr_size, arr_size]) (arr_one .i64 18 x) ?_))
      obtain ⟨wn, hwn, hEn, hbn⟩ := ob_box wr x
      rw [← hwn]
      have hbrn := keepB hbn hbr
      clear hwn hnew hra hz
      have xs : ∀ i < 18, wn.cell? ⟨wr.heap.size, i, none⟩ = some (.int .i64 (x i)) := fun i hi => by
        have h := cell_of_row wn wr.heap.size i _ _ _ hEn
        rw [arr_get .i64 18 x hi] at h
        exact h
      clear xs
      have hff := formFits_any T x wn (by rw [HX.out]; exact HRz.out k hlt) (hzw.trans (hbrn.mono hzw.size))
      obtain ⟨r, hrr⟩ : ∃ r, r = formedB x := ⟨_, rfl⟩
      rw [← hrr] at hff
      have HR := Lib.hid hrr
      clear hrr
      go_wp2_with (refine wpList_load_row rfl 56 (.tmp 4) rfl wr.heap.size rfl 56 _ (0, 0) _ hEn Tryd.underlying56 rfl hsx ?_)
      refine hff.mono ?_
      rintro e w4 ⟨rfl, hb4⟩
      clear hff
      have hbr4 := keepB hb4 hbrn
      clear hEn hbn hbrn hbr
      by_cases hy : r = true
      · subst hy
        have hgood2 : GoodF s (k + 1) := fun j hj hjk => by
          by_cases e : j = k
          · subst e; rw [← HX.out]; exact HR.out.symm
          · exact hgood j hj (by omega)
        go_wp2_with fail
        go_roundw
        case rel => exact ⟨k + 1, by go_num, by omega, hgood2, hbr4⟩
        case measure => simp [intOf]; omega
      · obtain rfl : r = false := by simpa using hy
        have fa := form_bad hlt (by rw [← HX.out]; exact HR.out.symm)
        have hf : errV (chkS s) = .iface 65 (.int .i64 2) := by rw [show chkS s = 2 by rw [chkS, if_neg h4, hr, hz, fa]; rfl]; rfl
        clear fa
        obtain rfl := HQ.out.trans hf
        clear hf
        go_wp2_with fail
        go_ret
        exact ⟨rfl, hbr4⟩
    · obtain rfl : k = s.objs.length := by omega
      have fa := form_good hgood
      have hf : errV (chkS s) = .nilIface := by rw [show chkS s = 0 by rw [chkS, if_neg h4, hr, hz, fa]; rfl]; rfl
      clear fa
      obtain rfl := HQ.out.trans hf
      clear hf
      go_wp2_with fail
      go_ret
      exact ⟨rfl, hbr⟩
end Go.Proofs.YtihbdbgmijkjmaaDoor
namespace Go.Proofs.YtihbdbgmijkjmaaDoor
open Go.RowKit Ex Px Wx
/-- The tables of what canon calls stand there. -/
structure TabC (z : World) : Prop where
  f : TabF z
  p : TabP z
  o : TabO z
end Go.Proofs.YtihbdbgmijkjmaaDoor
namespace Go.Proofs.YtihbdbgmijkjmaaDoor
open Go.RowKit Ex Px Wx
set_option maxRecDepth 100000
theorem grown_of {w w' : World} (h : Below w.heap.size w w') (row : Option Nat) : w.grownBy w' row := ⟨h.os, h.tape, h.output, h.size, fun i hi _ => h.block i hi⟩
theorem grown_then {a b c : World} {row row' : Option Nat} (h : a.grownBy b row) (k : b.grownBy c row') (hr : ∀ j, row' = some j → a.heap.size ≤ j ∨ row = some j) : a.grownBy c row :=
  ⟨k.os.trans h.os, k.tape.trans h.tape, k.output.trans h.output, Nat.le_trans h.size k.size, fun i hi hne =>
    (k.block i (Nat.lt_of_lt_of_le hi h.size) (fun e => by
      rcases hr i e.symm with h1 | h1
      · omega
      · exact hne h1.symm)).trans (h.block i hi hne)⟩
/-- What numbers behind bytes of the call's own are: where they lie then, and what is turned. -/
def PutP (w : World) (base : Nat) (own : Option Nat) (bs : List Int) (e : Ending) (w' : World) : Prop :=
  ∃ A n c, e = .returned (.slice A n c) ∧ Own .u8 5 w' base A n c bs ∧ w.grownBy w' own ∧ ∀ j, (Value.slice A n c).ownBlock = some j → w.heap.size ≤ j ∨ own = some j
def PuRel (w : World) (base : Nat) (own : Option Nat) (bs l : List Int) (v i : Value) (wr : World) : Prop :=
  ∃ A n c k, v = .slice A n c ∧ i = .int .i64 ((k : Nat) : Int) ∧ k ≤ l.length ∧ Own .u8 5 wr base A n c (bs ++ (l.take k).flatMap bts) ∧ w.grownBy wr own ∧ ∀ j, (Value.slice A n c).ownBlock = some j → w.heap.size ≤ j ∨ own = some j
set_option maxHeartbeats 0 in
theorem puts_code (A : Option Addr) (n c : Nat) (bs : List Int) (A2 : Option Addr) (n2 c2 : Nat) (l : List Int) (w : World) (base B : Nat) (hO : Own .u8 5 w base A n c bs) (hN : Nums .i64 w B A2 n2 l) (hf : ∀ a, A2 = some a → some a.block ≠ (Value.slice A n c).ownBlock)
    (hB : B ≤ w.heap.size) (hbase : base ≤ w.heap.size) (hl : ∀ x ∈ l, i64B x) (hn : n ≤ 10000000) (hn2 : n2 ≤ 100) : Calls Tryd.prog 21 #[.slice A n c, .slice A2 n2 c2] w (PutP w base (Value.slice A n c).ownBlock (bs ++ l.flatMap bts)) := by
  obtain ⟨i0, hi, hz0, hz1, hz2⟩ := info_parts info_u8
  obtain rfl := hN.len
  have HL := Lib.hid hl
  have HN := Lib.hid hN
  have HF := Lib.hid hf
  have HO0 := Lib.hid hO
  have hn' : bs.length ≤ 10000000 := by rw [hO.len]; exact hn
  obtain ⟨own, hown⟩ : ∃ own, own = (Value.slice A n c).ownBlock := ⟨_, rfl⟩
  rw [← hown] at HF ⊢
  have HW := Lib.hid hown
  clear hN hf hl hO hown
  go_enter Tryd.func21, Tryd.ntmps21
  go_upto_region 2 with fail
  go_loopw [0, 9] (fun v i wr => PuRel w base own bs l v i wr) (fun _ i _ => l.length - (intOf i).toNat)
  case atStart => exact ⟨A, n, c, 0, rfl, rfl, by omega, by simpa using HO0.out, World.grownBy.refl w own, fun j hj => .inr (by rw [HW.out]; exact hj)⟩
  case round =>
    clear HO0 HW
    obtain ⟨A1, m1, c1, k, rfl, rfl, hk, hO1, hg1, hat1⟩ := hrel
    have HO1 := Lib.hid hO1
    have HG1 := Lib.hid hg1
    have HAt := Lib.hid hat1
    have hm1 : m1 ≤ 10002000 := by
      have e1 := hO1.len
      have e2 := flat_len (l.take k)
      simp only [List.length_append, List.length_take] at e1 e2; omega
    have hs1 := hg1.size
    clear hO1 hg1 hat1
    by_cases hlt : k < l.length
    · obtain ⟨a, hA, hab, hc⟩ := HN.out.at_ hlt
      have hcr : wr.cell? (a.add k) = some (.int .i64 l[k]) := (World.cell?_of_block (by rw [addr_block]; exact HG1.out.block _ (by omega) (HF.out a hA))).trans hc
      obtain ⟨x, hx⟩ : ∃ x, x = l[k] := ⟨_, rfl⟩
      rw [← hx] at hcr
      have Hx : Hid (i64B x) := by rw [hx]; exact HL.out _ (List.getElem_mem hlt)
      have HNx := Lib.hid (show (l.take (k + 1)).flatMap bts = (l.take k).flatMap bts ++ bts x by rw [hx]; exact flat_next hlt)
      have hbx := bts_len x
      have p0 : (0 : Int) ≤ (k : Int) := by omega
      have p1 : (k : Int) < (l.length : Int) := by omega
      clear hx hc
      subst hA
      go_wp2_with fail
      refine (put_any none 0 0 [] x Hx.out wr 0 Nums.none_ (Nat.zero_le _) (by omega)).mono ?_
      rintro en w3 ⟨A3, m3, c3, rfl, hown3, hb3⟩
      rw [List.nil_append] at hown3
      have hm3 : m3 ≤ 10 := by have := hown3.len; omega
      have HO3 := Lib.hid hown3.nums
      have HO4 := Lib.hid (HO1.out.below hb3 (Nat.le_refl _))
      have HG3 := Lib.hid (grown_then HG1.out (grown_of hb3 none) (fun j hj => by cases hj))
      have hs3 := hb3.size
      clear hown3 hb3 hcr HO1 HG1
      go_wp2_with (at_builtin; refine wpList_appG rfl (.tmp 13) (.tmp 15) _ rfl .u8 base 5 i0 _ 1 Tryd.underlying30 hi hz0 hz1 hz2 rfl A1 m1 c1 _ rfl HO4.out _ A3 m3 c3 _ rfl HO3.out (by omega) (by omega) (by omega) ?_; intro A5 c5 w5 hown5 hg5 hat5)
      have HO5 := Lib.hid hown5
      have HG5 := Lib.hid (grown_then HG3.out hg5 HAt.out)
      have HAt5 := Lib.hid (show ∀ j, (Value.slice A5 (m1 + m3) c5).ownBlock = some j → w.heap.size ≤ j ∨ own = some j from fun j hj => by
        rcases hat5 with h | h
        · exact HAt.out j (by rw [← h]; exact hj)
        · rw [h] at hj; injection hj with hj; left; omega)
      clear hown5 hg5 hat5 HO3 HO4 HG3
      go_roundw
      case rel => exact ⟨A5, _, c5, k + 1, rfl, by go_num, by omega, by rw [HNx.out, ← List.append_assoc]; exact HO5.out, HG5.out, HAt5.out⟩
      case measure => simp [intOf]; omega
    · obtain rfl : k = l.length := by omega
      have hd : decide ((l.length : Int) < (l.length : Int)) = false := by simp
      have HO2 := Lib.hid (show Own .u8 5 wr base A1 m1 c1 (bs ++ l.flatMap bts) by have := HO1.out; rwa [List.take_length] at this)
      go_wp2_with fail
      go_ret
      exact ⟨A1, m1, c1, rfl, HO2.out, HG1.out, HAt.out⟩
set_option maxHeartbeats 0 in
theorem hash_code (A : Option Addr) (n c : Nat) (l : List Int) (w : World) (B : Nat) (hN : Nums .u8 w B A n l) (hb : byB l) (hn : n ≤ 1000000000) :
    Calls Tryd.prog 15 #[.slice A n c] w fun e w' => e = .returned (.int .u64 (hashB l)) ∧ w = w' := by
  obtain rfl := hN.len
  have HN := Lib.hid hN
  have HB := Lib.hid hb
  clear hN hb
  go_enter Tryd.func15, Tryd.ntmps15
  go_wp2_with fail
  go_loopw [3, 8] (fun x i wr => ∃ k : Nat, i = .int .i64 ((k : Nat) : Int) ∧ x = .int .u64 (hashB (l.take k)) ∧ k ≤ l.length ∧ w = wr) (fun _ i _ => l.length - (intOf i).toNat)
  case atStart => exact ⟨0, rfl, rfl, by omega, rfl⟩
  case round =>
    obtain ⟨k, rfl, rfl, hk, rfl⟩ := hrel
    by_cases hlt : k < l.length
    · obtain ⟨a, rfl, _, hc⟩ := HN.out.at_ hlt
      have hx := HB.out _ (List.getElem_mem hlt)
      have HX := Lib.hid (hash_next hlt)
      obtain ⟨b, hbb⟩ : ∃ b, b = l[k] := ⟨_, rfl⟩
      rw [← hbb] at hc hx HX
      obtain ⟨x, hxx⟩ : ∃ x, x = hashB (l.take k) := ⟨_, rfl⟩
      rw [← hxx] at HX
      rw [← hxx]
      clear hbb hxx
      have p0 : (0 : Int) ≤ (k : Int) := by omega
      have p1 : (k : Int) < (l.length : Int) := by omega
      have hw : IntKind.u64.wrap b = b := by rw [IntKind.wrap_u64]; omega
      go_wp2_with fail
      go_roundw
      case rel => exact ⟨k + 1, by go_num, by rw [HX.out]; rfl, by omega, trivial⟩
      case measure => simp [intOf]; omega
    · obtain rfl : k = l.length := by omega
      rw [List.take_length]
      go_wp2_with fail
      go_ret
      exact ⟨rfl, rfl⟩
end Go.Proofs.YtihbdbgmijkjmaaDoor
namespace Go.Proofs.YtihbdbgmijkjmaaDoor
open Go.RowKit Ex Px Wx
attribute [local go_sem] arr_get
set_option maxRecDepth 100000
/-- Cells that read as numbers. -/
theorem nums_cells {w : World} {B g o n : Nat} {f : Nat → Int} (hB : g < B) (h : ∀ i, i < n → w.cell? ⟨g, o + i, none⟩ = some (.int .i64 (f i))) : Nums .i64 w B (some ⟨g, o, none⟩) n ((List.range n).map f) := by
  refine ⟨by simp, fun i u hu => ?_⟩
  have hi : i < n := by have := (List.getElem?_eq_some_iff.1 hu).1; simpa using this
  rw [List.getElem?_map, List.getElem?_range hi] at hu
  injection hu with hu
  refine ⟨_, rfl, hB, ?_⟩
  rw [Addr.add_mid, h i hi, hu]
theorem rest_map (o : Nat → Int) : (List.range 9).map (restF o) = restL o := rfl
theorem numsC_nine (s : StT) (p : Nat) : numsC s (p * 9 + 9) = numsC s (p * 9) ++ (List.range 9).map fun i => s.pl (p * 9 + i) := by
  simp only [numsC, List.range_add, List.map_append, List.map_map, List.append_assoc]
  rfl
/-- What stands while bytes are laid. -/
structure LB (w : World) (cs : Array Value) (A : Option Addr) (m c : Nat) (nums : List Int) (W : World) : Prop where
  b : Below w.heap.size w W
  s : StAt W w.heap.size cs
  o : Own .u8 5 W (w.heap.size + 1) A m c (nums.flatMap bts)
section
variable {w W W' : World} {cs : Array Value} {A : Option Addr} {m c : Nat} {nums : List Int}
theorem LB.keep (h : LB w cs A m c nums W) (hb : Below W.heap.size W W') : LB w cs A m c nums W' := ⟨keepB hb h.b, h.s.keep hb, h.o.below hb (Nat.le_refl _)⟩
theorem LB.few (h : LB w cs A m c nums W) {N : Nat} (hN : nums.length ≤ N) : m ≤ 10 * N := by
  have := h.o.len
  have := flat_len nums
  omega
theorem LB.lt (h : LB w cs A m c nums W) : ∀ j, (Value.slice A m c).ownBlock = some j → j < W.heap.size := fun j hj => (h.o.2.lt j hj).2
theorem LB.app (h : LB w cs A m c nums W) {A' : Option Addr} {m' c' : Nat} {l : List Int} (ho : Own .u8 5 W' (w.heap.size + 1) A' m' c' (nums.flatMap bts ++ l.flatMap bts)) (hg : W.grownBy W' (Value.slice A m c).ownBlock) : LB w cs A' m' c' (nums ++ l) W' :=
  ⟨h.b.grown hg (by have := h.b.size; exact this) (fun k hk => by have := h.o.ownLt k hk; omega), (hg.block _ h.s.lt (fun e => by have := h.o.ownLt _ e.symm; omega)).trans h.s, by rw [List.flatMap_append]; exact ho⟩
/-- More numbers, that stand in a block apart. -/
theorem LB.put (h : LB w cs A m c nums W) {A2 : Option Addr} {n2 c2 B : Nat} {l : List Int} (hN : Nums .i64 W B A2 n2 l) (hf : ∀ a, A2 = some a → some a.block ≠ (Value.slice A m c).ownBlock) (hB : B ≤ W.heap.size) (hl : ∀ x ∈ l, i64B x) (hm : m ≤ 10000000) (hn2 : n2 ≤ 100) :
    Calls Tryd.prog 21 #[.slice A m c, .slice A2 n2 c2] W fun e W' => ∃ A' m' c', e = .returned (.slice A' m' c') ∧ LB w cs A' m' c' (nums ++ l) W' ∧ W.grownBy W' (Value.slice A m c).ownBlock ∧ ∀ j, (Value.slice A' m' c').ownBlock = some j → W.heap.size ≤ j ∨ (Value.slice A m c).ownBlock = some j := by
  refine (puts_code A m c _ A2 n2 c2 l W (w.heap.size + 1) B h.o hN hf hB (by have := h.s.lt; omega) hl hm hn2).mono ?_
  rintro e W' ⟨A', m', c', rfl, ho, hg, hat⟩
  exact ⟨A', m', c', rfl, h.app ho hg, hg, hat⟩
end
set_option linter.unusedSimpArgs false in
set_option maxHeartbeats 0 in
theorem bytes_code {z : World} (T : TabC z) (s : StT) (O : SlT) (L : Nat → SlT) (cs : Array Value) (w : World) (h : ReadsS w.heap.size w cs s O L) (hn : s.objs.length ≤ 1000000) (hll : ∀ z < 11, (s.lists z).length ≤ 1000000) (hzw : Below z.heap.size z w) :
    Calls Tryd.prog 9 #[.agg cs] w (CanBE w s) := by
  have hcsz := h.size
  go_enter Tryd.func9, Tryd.ntmps9
  have hcs := h.cs
  have c0 : cs[0]? = some (.slice O.A O.n O.c) := by rw [hcs]; exact stC_objs _ _ _ _
  have hOn := h.on
  have hOc := h.oc
  have hO := h.o
  have hsz : (Tryd.prog.info? 29).map (·.size) = some cs.size := by rw [h.size]; exact size37
  have H := Lib.hid h
  clear h
  obtain ⟨A, n, c⟩ := O
  simp only at c0 hOn hOc hO
  have HC := Lib.hid hcs
  clear hcs
  subst hOn
  go_upto_region 1 with fail
  have hs0 : StAt (w.alloc (.cells cs 29)) w.heap.size cs := StAt.new _ _
  have hb0 : Below w.heap.size w (w.alloc (.cells cs 29)) := (Below.refl _ _).alloc (Nat.le_refl _) _
  obtain ⟨w1, hw1⟩ : ∃ w1, w1 = w.alloc (.cells cs 29) := ⟨_, rfl⟩
  rw [← hw1] at hs0 hb0 ⊢
  clear hw1
  have c1 := (hs0.cell 0).trans c0
  go_wp2_with (refine wpList_load_row rfl 29 (.tmp 1) rfl w.heap.size rfl 29 _ (0, 0) _ hs0 Tryd.underlying29 rfl hsz ?_)
  refine (check_code T.f s _ L cs w1 w1.heap.size (H.out.grow hb0) (Nat.le_refl _) hn hll (hzw.trans (hb0.mono hzw.size))).mono ?_
  rintro e w2 ⟨rfl, hb2⟩
  have hs2 := hs0.keep hb2
  have hbw2 := keepB hb2 hb0
  clear c1 hs0 hb0
  by_cases hck : chkS s = 0
  case neg =>
    obtain ⟨q, hq⟩ : ∃ q, q = chkS s := ⟨_, rfl⟩
    have HQ := Lib.hid hq
    rw [← hq] at hck ⊢
    rw [errV_err hck]
    clear hq
    go_wp2_with fail
    go_ret2
    exact ⟨none, 0, 0, by rw [← HQ.out, errV_err hck] <;> rfl, by rw [if_neg (by rw [← HQ.out]; exact hck)]; exact Nums.none_, Nat.le_refl _, hbw2⟩
  obtain ⟨h4, _, hzb, _⟩ := chk_ranges hck
  have hl4 : ∀ z, z < 11 → (s.lists z).length ≤ 400 := fun z hz => Nat.le_trans (zones_list hzb hz) h4
  have HCk := Lib.hid hck
  have HF := Lib.hid (fit_objs hck)
  have hI := Lib.hid (nums_i64 hck (fun o ho i hi => H.out.ow o ho i hi) (fun z hz n hn => H.out.lw z hz n hn) (fun i hi => H.out.pw i hi) (fun i hi => H.out.gw i hi))
  rw [hck, errV_nil]
  clear hck hzb
  have c2 := (hs2.cell 0).trans c0
  have hlt2 : w.heap.size < w2.heap.size := hs2.lt
  obtain ⟨w3, hw3⟩ : ∃ w3, w3 = w2.alloc (.cells #[.int .i64 (s.objs.length : Int)] 3) := ⟨_, rfl⟩
  have hb3 : Below w2.heap.size w2 w3 := by rw [hw3]; exact (Below.refl _ _).alloc (Nat.le_refl _) _
  have HL3 := Lib.hid (show LB w cs none 0 0 [] w3 from ⟨keepB hb3 hbw2, hs2.keep hb3, Own.nil _⟩)
  have hN3 : Nums .i64 w3 (w2.heap.size + 1) (some ⟨w2.heap.size, 0, none⟩) 1 [(s.objs.length : Int)] := by rw [hw3]; exact Nums.one _ _ _ _
  have hput := HL3.out.put (c2 := 1) hN3 (fun a ha e => by cases e) (by rw [hw3]; simp) (fun x hx => by rw [List.mem_singleton.1 hx]; unfold i64B; omega) (by omega) (by omega)
  go_wp2_with fail
  rw [← hw3]
  refine hput.mono ?_
  rintro e w4 ⟨A4, m4, c4, rfl, hL4, _, _⟩
  rw [List.nil_append] at hL4
  have HL4 := Lib.hid (show LB w cs A4 m4 c4 (numsA s 0) w4 by simpa [numsA] using hL4)
  have c2 := (HL4.out.s.cell 0).trans c0
  clear hput hL4 hN3 HL3 hb3 hw3 hb2 hs2 hbw2 hlt2
  go_upto_region 6 with fail
  go_loopw [5, 28] (fun v i wr => ∃ k A1 m1 c1, i = .int .i64 ((k : Nat) : Int) ∧ v = .slice A1 m1 c1 ∧ k ≤ s.objs.length ∧ Hid (LB w cs A1 m1 c1 (numsA s k) wr)) (fun _ i _ => s.objs.length - (intOf i).toNat)
  case atStart => exact ⟨0, _, _, _, rfl, rfl, by omega, HL4⟩
  case round =>
    clear HL4 c2
    obtain ⟨k, A1, m1, c1, rfl, rfl, hk, HW⟩ := hrel
    have hm1 : m1 ≤ 50000 := by have := HW.out.few (show (numsA s k).length ≤ 4001 by rw [numsA_len s hk]; omega); omega
    by_cases hlt : k < s.objs.length
    · have hbr := HW.out.b
      obtain ⟨b, off, rfl, hbB, hra⟩ := hO.at_ hlt
      have hra := range_below hbr (by omega) hra
      obtain ⟨x, hx⟩ : ∃ x, x = s.objs[k] := ⟨_, rfl⟩
      rw [← hx] at hra
      have HX := Lib.hid hx
      clear hx
      have hz := st_zero18
      have hnew : (wr.alloc (.cells (arr .i64 18 fun _ => 0) 56)).heap[wr.heap.size]? = some (.cells (arr .i64 18 fun _ => 0) 56 (0, 0)) := heap_alloc_new _ _
      have hsx : (Tryd.prog.info? 56).map (·.size) = some (arr .i64 18 x).size := by rw [arr_size]; exact st_size18
      go_upto_region 8 with (first
        | (refine load_obj rfl (.tmp 30) rfl b (off + k * 18) rfl x hra ?_)
        | (refine wpList_store_row rfl 56 (.tmp 7) (.tmp 31) rfl wr.heap.size _ rfl rfl 56 (arr .i64 18 fun _ => 0) hnew hsx (by rw [arr_size, arr_size]) (arr_one .i64 18 x) ?_))
      obtain ⟨wn, hwn, hEn, hbn⟩ := ob_box wr x
      rw [← hwn]
      have hbrn := keepB hbn hbr
      clear hwn hnew hra hz
      have xs : ∀ i < 18, wn.cell? ⟨wr.heap.size, i, none⟩ = some (.int .i64 (x i)) := fun i hi => by
        have h := cell_of_row wn wr.heap.size i _ _ _ hEn
        rw [arr_get .i64 18 x hi] at h
        exact h
      clear xs
      have HW2 := Lib.hid (HW.out.keep hbn)
      have hsx2 : (Tryd.prog.info? 56).map (·.size) = some (arr .i64 18 x).size := by rw [arr_size]; exact st_size18
      have hfx : Fit x 9 := by rw [HX.out]; exact HF.out _ (List.getElem_mem _)
      have hhx := head_in hfx
      have HFx := Lib.hid hfx
      have HXw := Lib.hid (show ∀ i, i < 18 → N64 (x i) by rw [HX.out]; exact fun i hi => H.out.ow _ (List.getElem_mem _) i hi)
      clear hfx
      have hrl : w.heap.size < wr.heap.size := HW.out.s.lt
      obtain ⟨g7, hg7⟩ : ∃ g7, g7 = wr.heap.size := ⟨_, rfl⟩
      rw [← hg7] at hEn hrl
      rw [← hg7]
      clear hg7 hbn hbrn
      go_wp2_with (refine wpList_load_row rfl 56 (.tmp 7) rfl g7 rfl 56 _ (0, 0) _ hEn Tryd.underlying56 rfl hsx2 ?_)
      refine (head_any T.p x wn HXw.out (hzw.trans (HW2.out.b.mono hzw.size))).mono ?_
      rintro e w3 ⟨hhd, hb3⟩
      rcases hhd with ⟨_, rfl⟩ | ⟨hno, _⟩
      case inr => exact absurd HFx.out hno
      have HW3 := Lib.hid (HW2.out.keep hb3)
      have hE3 : ObAt w3 g7 x := (hb3.block g7 (Array.getElem?_eq_some_iff.1 hEn).1).trans hEn
      clear hEn hb3 HW2
      go_wp2_with (refine wpList_load_row rfl 56 (.tmp 7) rfl g7 rfl 56 _ (0, 0) _ hE3 Tryd.underlying56 rfl hsx2 ?_)
      refine (rest_any T.o x w3 (hzw.trans (HW3.out.b.mono hzw.size))).mono ?_
      rintro e w4 ⟨rfl, hb4⟩
      have HW4 := Lib.hid (HW3.out.keep hb4)
      have hz9 := st_zero9
      have hnew : (w4.alloc (.cells (arr .i64 9 fun _ => 0) 25)).heap[w4.heap.size]? = some (.cells (arr .i64 9 fun _ => 0) 25 (0, 0)) := heap_alloc_new _ _
      have hsr : (Tryd.prog.info? 25).map (·.size) = some (arr .i64 9 (restF x)).size := by rw [arr_size]; exact st_size9
      go_upto_region 10 with (refine wpList_store_row rfl 25 (.tmp 10) (.tmp 38) rfl w4.heap.size _ rfl rfl 25 (arr .i64 9 fun _ => 0) hnew hsr (by rw [arr_size, arr_size]) (arr_one .i64 9 (restF x)) ?_)
      obtain ⟨w5, hw5, hA5, hb5⟩ := arr_box 9 25 w4 (restF x)
      rw [← hw5]
      have HW5 := Lib.hid (HW4.out.keep hb5)
      have HNe := Lib.hid (HW4.out.lt)
      obtain ⟨g10, hg10⟩ : ∃ g10, g10 = w4.heap.size := ⟨_, rfl⟩
      rw [← hg10] at HNe hA5
      rw [← hg10]
      have HA5 := Lib.hid hA5
      clear hw5 hg10 hb5 hnew hz9 HW4 HW3 hE3 hb4 hA5 hsr
      obtain ⟨hd, hhd⟩ : ∃ hd, hd = sumH x 9 := ⟨_, rfl⟩
      rw [← hhd] at hhx
      rw [← hhd]
      have HHd := Lib.hid hhd
      clear hhd
      obtain ⟨hh0, hh1⟩ := hhx
      have hwd : IntKind.i64.wrap hd = hd := i64_in (by omega) (by omega)
      refine wp_region_held_drew (S := fun _ => True) (by kernel_rfl) trivial (fun hHeld => ?_)
      refine wpAnyH_take (i := 0) (v := ?_) rfl (by kernel_rfl) (by kernel_rfl) (by kernel_rfl) (fun _ _ _ h => h) (Or.inl ⟨by rfl, ?_⟩) hHeld ?_
      rotate_left
      · (intro w hSw; go_simp; (try with_reducible rfl))
      simp only [Act.put, List.getElem_toArray, List.getElem_cons_zero, List.getElem_cons_succ, List.setIfInBounds_toArray, List.set_cons_zero, List.set_cons_succ]
      refine wpAnyH_take (i := 1) (v := ?_) rfl (by kernel_rfl) (by kernel_rfl) (by kernel_rfl) (fun _ _ _ h => h) (Or.inl ⟨by rfl, ?_⟩) hHeld ?_
      rotate_left
      · (intro w hSw; go_simp; (try with_reducible rfl))
      simp only [Act.put, List.getElem_toArray, List.getElem_cons_zero, List.getElem_cons_succ, List.setIfInBounds_toArray, List.set_cons_zero, List.set_cons_succ]
      refine wpAnyH_take (i := 2) (v := ?_) rfl (by kernel_rfl) (by kernel_rfl) (by kernel_rfl) (fun _ _ _ h => h) (Or.inl ⟨by rfl, ?_⟩) hHeld ?_
      rotate_left
      · (intro w hSw; go_simp; (try with_reducible rfl))
      simp only [Act.put, List.getElem_toArray, List.getElem_cons_zero, List.getElem_cons_succ, List.setIfInBounds_toArray, List.set_cons_zero, List.set_cons_succ]
      refine wpAnyH_take (i := 5) (v := ?_) rfl (by kernel_rfl) (by kernel_rfl) (by kernel_rfl) (fun _ _ _ h => h) (Or.inl ⟨by rfl, ?_⟩) hHeld ?_
      rotate_left
      · (intro w hSw; go_simp; (try with_reducible rfl))
      simp only [Act.put, List.getElem_toArray, List.getElem_cons_zero, List.getElem_cons_succ, List.setIfInBounds_toArray, List.set_cons_zero, List.set_cons_succ]
      obtain ⟨w6, hw6⟩ : ∃ w6, w6 = (w5.alloc (.cells #[.int .i64 hd] 3)).drew := ⟨_, rfl⟩
      have hb6 : Below w5.heap.size w5 w6 := by rw [hw6]; exact ((Below.refl _ _).alloc (Nat.le_refl _) _).drew
      have HL6 := Lib.hid (HW5.out.keep hb6)
      have hN6 : Nums .i64 w6 (w5.heap.size + 1) (some ⟨w5.heap.size, 0, none⟩) 1 [hd] := by rw [hw6]; exact (Nums.one w5 .i64 hd 3).drew
      have hA6 := HA5.out.keep hb6
      have hs6 : w6.heap.size = w5.heap.size + 1 := by rw [hw6]; exact World.size_alloc w5 _
      have hg10 := HA5.out.lt
      have HWe := Lib.hid hw6
      clear hw6
      refine wpAnyH_ready (rs := [3]) (by kernel_rfl) (by simp) ?_
      refine AllReadyH.cons rfl (fun K hK => ?_) AllReadyH.nil
      simp only [List.getElem_toArray, List.getElem_cons_zero, List.getElem_cons_succ]
      go_simp
      refine hK.out _ _ trivial (fun _ => ?_)
      clear hK K
      try simp only [Act.put, List.setIfInBounds_toArray, List.set_cons_zero, List.set_cons_succ]
      rw [← HWe.out]
      refine wpAnyH_ready (rs := [4]) (by kernel_rfl) (by simp) ?_
      refine AllReadyH.cons rfl (fun K hK => ?_) AllReadyH.nil
      simp only [List.getElem_toArray, List.getElem_cons_zero, List.getElem_cons_succ]
      go_simp
      refine (HL6.out.put (c2 := 1) hN6 (fun a ha e => by injection ha with ha; subst ha; have := HW5.out.lt _ e.symm; simp at this) (by omega) (fun y hy => by rw [List.mem_singleton.1 hy]; unfold i64B; omega) (by omega) (by omega)).mono ?_
      rintro e w7 ⟨A7, m7, c7, rfl, hL7, hg7, hat7⟩
      go_wp2_with fail
      refine hK.out _ _ trivial (fun _ => ?_)
      clear hK K
      try simp only [Act.put, List.setIfInBounds_toArray, List.set_cons_zero, List.set_cons_succ]
      have hA7 : ArrAt .i64 9 25 w7 g10 (restF x) := (hg7.block g10 (by omega) (fun e => by have := HNe.out _ e.symm; omega)).trans hA6
      have HL7 := Lib.hid hL7
      have hN7 : Nums .i64 w7 w7.heap.size (some ⟨g10, 0, none⟩) 9 (restL x) := by
        rw [← rest_map]; exact nums_cells hA7.lt (fun i hi => by rw [Nat.zero_add]; exact hA7.cell hi)
      have hf7 : some g10 ≠ (Value.slice A7 m7 c7).ownBlock := fun e => by
        rcases hat7 g10 e.symm with h | h
        · omega
        · have := HNe.out _ h; omega
      have hm7 : m7 ≤ 100000 := by have := hL7.few (show (numsA s k ++ [hd]).length ≤ 5000 by rw [List.length_append, numsA_len s hk]; simp; omega); omega
      have HNx := Lib.hid (show numsA s (k + 1) = numsA s k ++ [hd] ++ restL x by rw [numsA_succ hlt, ← HX.out, HHd.out])
      clear hL7 hg7 hat7 hA7 hA6 hN6 hb6 HWe hs6 HL6
      refine wpAnyH_ready (rs := [6]) (by kernel_rfl) (by simp) ?_
      refine AllReadyH.cons rfl (fun K hK => ?_) AllReadyH.nil
      simp only [List.getElem_toArray, List.getElem_cons_zero, List.getElem_cons_succ]
      go_simp
      refine (HL7.out.put (c2 := 9) hN7 (fun a ha => by injection ha with ha; subst ha; exact hf7) (Nat.le_refl _) (restL_i64 (fun i hi => HXw.out i hi)) (by omega) (by omega)).mono ?_
      rintro e w8 ⟨A8, m8, c8, rfl, hL8, _, _⟩
      go_wp2_with fail
      refine hK.out _ _ trivial (fun _ => ?_)
      clear hK K
      try simp only [Act.put, List.setIfInBounds_toArray, List.set_cons_zero, List.set_cons_succ]
      rw [← HNx.out] at hL8
      have HL8 := Lib.hid hL8
      clear hL8 hN7 hf7 HL7
      refine wpAnyH_take (i := 7) (v := ?_) rfl (by kernel_rfl) (by kernel_rfl) (by kernel_rfl) (fun _ _ _ h => h) (Or.inl ⟨by rfl, ?_⟩) hHeld ?_
      rotate_left
      · (intro w hSw; go_simp; (try with_reducible rfl))
      simp only [Act.put, List.getElem_toArray, List.getElem_cons_zero, List.getElem_cons_succ, List.setIfInBounds_toArray, List.set_cons_zero, List.set_cons_succ]
      refine wpAnyH_done (by kernel_rfl) ?_ _
      go_wp2_with fail
      go_roundw
      case rel => exact ⟨k + 1, _, _, _, by go_num, rfl, by omega, HL8⟩
      case measure => simp [intOf]; omega
    · obtain rfl : k = s.objs.length := by omega
      have HB := Lib.hid (show LB w cs A1 m1 c1 (numsB s 0) wr by
        have : numsB s 0 = numsA s s.objs.length := by simp [numsB, nlL]
        rw [this]; exact HW.out)
      have hst := HW.out.s
      rw [HC.out] at hst
      have hra := hst.ls
      have hd : decide ((s.objs.length : Int) < (s.objs.length : Int)) = false := by simp
      clear HW hlt hst
      go_upto_region 13 with (refine load_lists rfl (.tmp 47) rfl w.heap.size 1 rfl (sl11 L) (sl11_size L) hra ?_)
      clear hra
      go_loopw [5, 49] (fun v i wq => ∃ z A2 m2 c2, i = .int .i64 ((z : Nat) : Int) ∧ v = .slice A2 m2 c2 ∧ z ≤ 11 ∧ Hid (LB w cs A2 m2 c2 (numsB s z) wq)) (fun _ i _ => 11 - (intOf i).toNat)
      case atStart => exact ⟨0, A1, m1, c1, rfl, rfl, by omega, HB⟩
      case round =>
        clear HB hm1
        obtain ⟨z, A2, m2, c2, rfl, rfl, hz, HW⟩ := hrel
        have hnb : (numsB s z).length ≤ 10000 := by
          have h1 := numsA_len s (Nat.le_refl s.objs.length)
          have h2 := nlL_len s hl4 z hz
          simp only [numsB, List.length_append]; omega
        have hm2 : m2 ≤ 100000 := by have := HW.out.few hnb; omega
        by_cases hz11 : z < 11
        · have hdj : decide ((z : Int) < 11) = true := by simp; omega
          have p0 : (0 : Int) ≤ (z : Int) := by omega
          have p1 : (z : Int) < 11 := by omega
          obtain ⟨A5, n5, c5, hix, hc5, hN5⟩ := list_at H.out hz11
          have hn5 : n5 ≤ 400 := by have := hN5.len; have := hl4 z hz11; omega
          have HNx := Lib.hid (show (numsB s (z + 1)).flatMap bts = (numsB s z).flatMap bts ++ lst (s.lists z) by
            rw [numsB_succ]; simp only [List.flatMap_append, List.flatMap_cons, List.flatMap_nil, List.append_nil, List.append_assoc, lst])
          have hpl := putList_any none 0 0 [] A5 n5 c5 (s.lists z) wr wr.heap.size Nums.none_ ((hN5.below HW.out.b).more HW.out.b.size) (fun y hy => H.out.lw z hz11 y hy) (Nat.le_refl _) (by omega) (by omega)
          rw [List.nil_append] at hpl
          obtain ⟨lz, hlz⟩ : ∃ lz, lz = lst (s.lists z) := ⟨_, rfl⟩
          have hlz2 : lz.length ≤ 5000 := by rw [hlz]; have := lst_len (s.lists z); have := hl4 z hz11; omega
          rw [← hlz] at hpl HNx
          obtain ⟨acc, hacc⟩ : ∃ acc, acc = (numsB s z).flatMap bts := ⟨_, rfl⟩
          rw [← hacc] at HNx
          have HAcc := Lib.hid hacc
          have hN5' := hN5.len
          clear hlz hN5 hacc hnb hN5'
          obtain ⟨i0, hi, hz0, hz1, hz2⟩ := info_parts info_u8
          go_wp2_with fail
          refine hpl.mono ?_
          rintro e w6 ⟨A6, m6, c6, rfl, ho6, hb6⟩
          have hm6 : m6 ≤ 5000 := by have := ho6.len; omega
          have HO6 := Lib.hid ho6.nums
          have HW6 := Lib.hid (HW.out.keep hb6)
          have HOw := Lib.hid (show Own .u8 5 w6 (w.heap.size + 1) A2 m2 c2 acc by rw [HAcc.out]; exact HW6.out.o)
          have hbs : w.heap.size + 1 ≤ w6.heap.size := HW6.out.s.lt
          clear hpl ho6 hb6
          go_wp2_with (at_builtin; refine wpList_appG rfl (.tmp 52) (.tmp 54) _ rfl .u8 (w.heap.size + 1) 5 i0 _ 1 Tryd.underlying30 hi hz0 hz1 hz2 rfl A2 m2 c2 acc rfl HOw.out _ A6 m6 c6 lz rfl HO6.out (by omega) (by omega) hbs ?_; intro A7 c7 w7 ho7 hg7 _)
          have HW7 := Lib.hid (show LB w cs A7 (m2 + m6) c7 (numsB s (z + 1)) w7 from
            ⟨HW6.out.b.grown hg7 HW6.out.b.size (fun k hk => by have := HW6.out.o.ownLt k hk; omega), (hg7.block _ HW6.out.s.lt (fun e => by have := HW6.out.o.ownLt _ e.symm; omega)).trans HW6.out.s, by rw [HNx.out]; exact ho7⟩)
          clear HO6 HW6 HOw ho7 hg7 hix
          go_roundw
          case rel => exact ⟨z + 1, _, _, _, by go_num, rfl, by omega, HW7⟩
          case measure => simp [intOf]; omega
        · obtain rfl : z = 11 := by omega
          rw [show ((11 : Nat) : Int) = 11 from rfl]
          have hdz : decide ((11 : Int) < 11) = false := by decide
          have HC0 := Lib.hid (show LB w cs A2 m2 c2 (numsC s (0 * 9)) wr by
            have : numsC s (0 * 9) = numsB s 11 := by simp [numsC]
            rw [this]; exact HW.out)
          have hst := HW.out.s
          rw [HC.out] at hst
          have hra := hst.two
          have hlC : ∀ j, j ≤ 18 → (numsC s j).length ≤ 10018 := fun j hj => by
            simp only [numsC, List.length_append, List.length_map, List.length_range]; omega
          clear HW hst hnb hm2
          go_upto_region 18 with (refine load_two rfl (.tmp 57) rfl w.heap.size 12 rfl s.pl hra ?_)
          clear hra
          go_loopw [5, 59] (fun v i wq => ∃ p A3 m3 c3, i = .int .i64 ((p : Nat) : Int) ∧ v = .slice A3 m3 c3 ∧ p ≤ 2 ∧ Hid (LB w cs A3 m3 c3 (numsC s (p * 9)) wq)) (fun _ i _ => 2 - (intOf i).toNat)
          case atStart => exact ⟨0, A2, m2, c2, rfl, rfl, by omega, HC0⟩
          case round =>
            clear HC0
            obtain ⟨p, A3, m3, c3, rfl, rfl, hp, HW⟩ := hrel
            have hm3 : m3 ≤ 200000 := by have := HW.out.few (hlC (p * 9) (by omega)); omega
            by_cases hp2 : p < 2
            · have hdp : decide ((p : Int) < 2) = true := by simp; omega
              have p0 : (0 : Int) ≤ (p : Int) := by omega
              have p1 : (p : Int) < 2 := by omega
              have hix := index_two s.pl p hp2
              have hz9 := st_zero9
              have hnew : (wr.alloc (.cells (arr .i64 9 fun _ => 0) 25)).heap[wr.heap.size]? = some (.cells (arr .i64 9 fun _ => 0) 25 (0, 0)) := heap_alloc_new _ _
              have hsr : (Tryd.prog.info? 25).map (·.size) = some (arr .i64 9 fun j => s.pl (p * 9 + j)).size := by rw [arr_size]; exact st_size9
              go_upto_region 20 with (refine wpList_store_row rfl 25 (.tmp 14) (.tmp 61) rfl wr.heap.size _ rfl rfl 25 (arr .i64 9 fun _ => 0) hnew hsr (by rw [arr_size, arr_size]) (arr_one .i64 9 fun j => s.pl (p * 9 + j)) ?_)
              obtain ⟨w5, hw5, hA5, hb5⟩ := arr_box 9 25 wr (fun j => s.pl (p * 9 + j))
              rw [← hw5]
              have HW5 := Lib.hid (HW.out.keep hb5)
              have hne := HW.out.lt
              have hN5 : Nums .i64 w5 w5.heap.size (some ⟨wr.heap.size, 0, none⟩) 9 ((List.range 9).map fun j => s.pl (p * 9 + j)) := nums_cells hA5.lt (fun i hi => by rw [Nat.zero_add]; exact hA5.cell hi)
              have hput := HW5.out.put (c2 := 9) hN5 (fun a ha e => by injection ha with ha; subst ha; have := hne _ e.symm; simp at this) (Nat.le_refl _)
                (fun y hy => by
                  obtain ⟨j, hj, rfl⟩ := List.mem_map.1 hy
                  exact H.out.pw _ (by have := List.mem_range.1 hj; omega)) (by omega) (by omega)
              rw [← numsC_nine, show p * 9 + 9 = (p + 1) * 9 by omega] at hput
              obtain ⟨g14, hg14⟩ : ∃ g14, g14 = wr.heap.size := ⟨_, rfl⟩
              rw [← hg14] at hput ⊢
              clear hw5 hg14 hA5 hb5 hN5 hix hz9 hnew hsr hne
              go_wp2_with fail
              refine hput.mono ?_
              rintro e w6 ⟨A6, m6, c6, rfl, hL6, _, _⟩
              have HL6 := Lib.hid hL6
              clear hput hL6
              go_wp2_with fail
              go_roundw
              case rel => exact ⟨p + 1, _, _, _, by go_num, rfl, by omega, HL6⟩
              case measure => simp [intOf]; omega
            · obtain rfl : p = 2 := by omega
              rw [show ((2 : Nat) : Int) = 2 from rfl]
              have hdp : decide ((2 : Int) < 2) = false := by decide
              have hst := HW.out.s
              rw [HC.out] at hst
              have hlt := hst.lt
              have hN5 : Nums .i64 wr wr.heap.size (some ⟨w.heap.size, 30, none⟩) 7 ((List.range 7).map s.gm) := nums_cells hlt (fun i hi => (hst.cell (30 + i)).trans (stC_gm _ _ _ _ hi))
              have hput := HW.out.put (c2 := 7) hN5 (fun a ha e => by injection ha with ha; subst ha; have := HW.out.o.ownLt _ e.symm; simp at this; omega) (Nat.le_refl _)
                (fun y hy => by
                  obtain ⟨j, hj, rfl⟩ := List.mem_map.1 hy
                  exact H.out.gw _ (List.mem_range.1 hj)) (by omega) (by omega)
              rw [show numsC s (2 * 9) ++ (List.range 7).map s.gm = numsD s 7 from rfl] at hput
              clear hst hN5 hlt
              go_wp2_with fail
              refine hput.mono ?_
              rintro e w6 ⟨A6, m6, c6, rfl, hL6, _, _⟩
              have HL6 := Lib.hid hL6
              clear hput hL6
              go_wp2_with fail
              go_ret2
              refine ⟨A6, m6, c6, by rw [HCk.out]; rfl, ?_, HL6.out.o.cap, HL6.out.b⟩
              rw [if_pos HCk.out, ← bytes_nums]
              exact HL6.out.o.nums
end Go.Proofs.YtihbdbgmijkjmaaDoor
