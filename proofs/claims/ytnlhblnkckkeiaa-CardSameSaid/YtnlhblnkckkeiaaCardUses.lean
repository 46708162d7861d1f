/- Layer 7: the reference's Uses and Aims. -/
import Derived.Test.YtnlhblnkckkeiaaCardRef
namespace Go.Proofs.Ytnlhblnkckkeiaa
open Go.RowKit Ex Mx
namespace Ex
theorem aims_uses (l : List AbT) : ∀ k, k ≤ l.length → (usesK l 0 k = [] ∧ ∀ rest, aimsL (l.take k ++ rest) = aimsL rest) ∨ (∃ (j : Nat) (a : AbT) (r : List Int), usesK l 0 k = (j : Int) :: r ∧ l[j]? = some a ∧ j < k ∧ ∀ rest, aimsL (l.take k ++ rest) = a.target)
  | 0, _ => .inl ⟨rfl, fun rest => by simp⟩
  | k + 1, hk => by
    have hlt : k < l.length := by omega
    have ha := List.getElem?_eq_getElem hlt
    have ht : ∀ rest, l.take (k + 1) ++ rest = l.take k ++ (l[k] :: rest) := fun rest => by rw [List.take_succ_eq_append_getElem hlt, List.append_assoc]; rfl
    rcases aims_uses l k (by omega) with ⟨h1, h2⟩ | ⟨j, a, r, h1, h2, h3, h4⟩
    · by_cases hw : l[k].when_ = 0
      · right
        refine ⟨k, l[k], [], by rw [usesK_yes ha hw, h1]; rfl, ha, by omega, fun rest => ?_⟩
        rw [ht, h2]; simp [aimsL, hw]
      · left
        refine ⟨by rw [usesK_no ha hw, h1], fun rest => ?_⟩
        rw [ht, h2]; simp [aimsL, hw]
    · right
      by_cases hw : l[k].when_ = 0
      · exact ⟨j, a, r ++ [(k : Int)], by rw [usesK_yes ha hw, h1]; rfl, h2, by omega, fun rest => by rw [ht, h4]⟩
      · exact ⟨j, a, r, by rw [usesK_no ha hw, h1], h2, by omega, fun rest => by rw [ht, h4]⟩
theorem aims_of (l : List AbT) : (usesL l 0 = [] ∧ aimsL l = 0) ∨ (∃ (j : Nat) (a : AbT) (r : List Int), usesL l 0 = (j : Int) :: r ∧ l[j]? = some a ∧ aimsL l = a.target) := by
  rcases aims_uses l l.length (Nat.le_refl _) with ⟨h1, h2⟩ | ⟨j, a, r, h1, h2, _, h4⟩
  · left
    have := h2 []
    rw [List.take_length, List.append_nil] at this
    exact ⟨h1, this⟩
  · right
    have := h4 []
    rw [List.take_length, List.append_nil] at this
    exact ⟨j, a, r, h1, h2, this⟩
end Ex
/-- Numbers of the call's own. -/
def UsesPost (l : List Int) (w : World) (e : Ending) (w' : World) : Prop := ∃ A m cc, e = .returned (.slice A m cc) ∧ Own .i64 3 w' w.heap.size A m cc l ∧ Below w.heap.size w w'
def UsRel (w1 : World) (l : List AbT) (wh : Int) (v i : Value) (wr : World) : Prop :=
  ∃ A m cc k, v = .slice A m cc ∧ i = .int .i64 ((k : Nat) : Int) ∧ k ≤ l.length ∧ Own .i64 3 wr w1.heap.size A m cc (usesK l wh k) ∧ Below w1.heap.size w1 wr
set_option linter.unusedSimpArgs false in
set_option maxRecDepth 100000 in
set_option maxHeartbeats 1000000 in
theorem usesRef_any (d : Nat) (c : CardT) (cs : Array Value) (wh : Int) (w : World) (hr : ReadsC w.heap.size w d cs c) (hs : c.abs.length ≤ 1000) : Calls Try.prog 14 #[.agg cs, .int .i64 wh] w (UsesPost (usesL c.abs wh) w) := by
  obtain ⟨i0, hi, hz0, hz1, hz2⟩ := info_parts infoI
  obtain ⟨_, _, _, _, _, _, A, cc, hcs, hl, hc, hx⟩ := hr
  have HX := Lib.hid hx
  have HCs := Lib.hid hcs
  clear hx hcs
  go_enter Try.func14, Try.ntmps14
  go_upto_region 1 with fail
  obtain ⟨w1, hw1⟩ : ∃ w1, w1 = w.alloc (.cells cs 26) := ⟨_, rfl⟩
  have HE := Lib.hid (show CdAt w1 w.heap.size cs by rw [hw1]; exact CdAt.new _ _)
  have hb1 : Below w.heap.size w w1 := by rw [hw1]; exact (Below.refl _ _).alloc (Nat.le_refl _) _
  rw [← hw1]
  clear hw1
  go_upto_region 2 with fail
  obtain ⟨w2, hw2⟩ : ∃ w2, w2 = w1.alloc (.cells #[] 3) := ⟨_, rfl⟩
  have hb2 : Below w1.heap.size w1 w2 := by rw [hw2]; exact (Below.refl _ _).alloc (Nat.le_refl _) _
  have HO := Lib.hid (show Own .i64 3 w2 w1.heap.size (some ⟨w1.heap.size, 0, none⟩) 0 0 (usesK c.abs wh 0) by rw [hw2]; exact own_empty w1 _ (Nat.le_refl _))
  rw [← hw2]
  clear hw2
  go_upto_region 3 with fail
  go_loopw [5, 6] (fun v i wr => UsRel w1 c.abs wh v i wr) (fun _ i _ => c.abs.length - (intOf i).toNat)
  case atStart => exact ⟨_, 0, 0, 0, rfl, rfl, by omega, HO.out, hb2⟩
  case round =>
    obtain ⟨A4, m4, c4, k, rfl, rfl, hk, hown, hb⟩ := hrel
    have HO4 := Lib.hid hown
    have hm4 := hown.len
    have hul := usesK_len c.abs wh k
    have hm4b : m4 ≤ 1000 := by omega
    have hs4 := hb.size
    have c12 : wr.cell? ⟨w.heap.size, 12, none⟩ = some (.slice A c.abs.length cc) := by rw [(HE.out.keep hb).cell, HCs.out]; exact cd_abs
    clear hown hm4 hul HO hb2
    by_cases hlt : k < c.abs.length
    · obtain ⟨a, ha⟩ : ∃ a, c.abs[k]? = some a := ⟨_, List.getElem?_eq_getElem hlt⟩
      obtain ⟨b, o, ys, rfl, hbb, hrg, hra⟩ := (HX.out.grow hb1).grow hb k a ha
      obtain ⟨_, _, _, xs, hye, _⟩ := hra
      have cw : wr.cell? ⟨b, o + k * 14, none⟩ = some (.int .i64 a.when_) := hrg 0 _ (by rw [hye, Array.getElem?_toList]; exact ab_when)
      have hd : decide ((k : Int) < (c.abs.length : Int)) = true := by simp; omega
      have b0 : (0 : Int) ≤ (k : Int) := by omega
      have b1 : (k : Int) < (c.abs.length : Int) := by omega
      obtain ⟨x, hx⟩ : ∃ x, x = a.when_ := ⟨_, rfl⟩
      rw [← hx] at cw
      by_cases hw : a.when_ = wh
      · have HN := Lib.hid (usesK_yes ha hw)
        have e1 : (x == wh) = true := by rw [hx]; simpa using hw
        clear hw hx hye hrg
        go_wp2_with (at_builtin; refine wpList_app rfl (.tmp 23) (.tmp 25) _ rfl .i64 w1.heap.size 3 i0 _ 8 Try.underlying35 hi hz0 hz1 hz2 rfl A4 m4 c4 _ rfl (HO4.out.alloc _) _ (some ⟨wr.heap.size, 0, none⟩) 1 1 [(k : Int)] rfl (Nums.one _ _ _ _) (by omega) (by omega) (by simp; omega) ?_; intro A6 c6 w6 hown6 hg6)
        have HO6 := Lib.hid hown6
        have hbel6 := (HO4.out.alloc (.cells #[.int .i64 (k : Int)] 3)).belowGrown (hb.alloc hs4 _) (by simp; omega) hg6
        clear hown6 hg6 c12 cw
        go_roundw
        case rel => exact ⟨A6, _, c6, k + 1, rfl, by go_num, by omega, by rw [HN.out]; exact HO6.out, hbel6⟩
        case measure => simp [intOf]; omega
      · have HN := Lib.hid (usesK_no ha hw)
        have e1 : (x == wh) = false := by rw [hx]; simpa using hw
        clear hw hx hye hrg
        go_wp2_with fail
        go_roundw
        case rel => exact ⟨A4, m4, c4, k + 1, rfl, by go_num, by omega, by rw [HN.out]; exact HO4.out, hb⟩
        case measure => simp [intOf]; omega
    · obtain rfl : k = c.abs.length := by omega
      have hd : decide ((c.abs.length : Int) < (c.abs.length : Int)) = false := by simp
      go_wp2_with fail
      go_ret
      exact ⟨A4, m4, c4, rfl, HO4.out.base_le hb1.size, keepB hb hb1⟩
set_option linter.unusedSimpArgs false in
set_option maxRecDepth 100000 in
set_option maxHeartbeats 1000000 in
theorem aimsRef_any (d : Nat) (c : CardT) (cs : Array Value) (w : World) (hr : ReadsC w.heap.size w d cs c) (hs : c.abs.length ≤ 1000) : Calls Try.prog 16 #[.agg cs] w fun e w' => e = .returned (.int .i64 (aimsL c.abs)) ∧ Below w.heap.size w w' := by
  have hsx : (Try.prog.info? 26).map (·.size) = some cs.size := by rw [hr.size]; exact size13
  have HR := Lib.hid hr
  obtain ⟨_, _, _, _, _, _, A, cc, hcs, hl, hc, hx⟩ := hr
  have HX := Lib.hid hx
  have HCs := Lib.hid hcs
  clear hx hcs
  go_enter Try.func16, Try.ntmps16
  go_upto_region 1 with fail
  obtain ⟨w1, hw1⟩ : ∃ w1, w1 = w.alloc (.cells cs 26) := ⟨_, rfl⟩
  have HE := Lib.hid (show CdAt w1 w.heap.size cs by rw [hw1]; exact CdAt.new _ _)
  have hb1 : Below w.heap.size w w1 := by rw [hw1]; exact (Below.refl _ _).alloc (Nat.le_refl _) _
  rw [← hw1]
  clear hw1
  have hE := HE.out
  go_wp2_with (refine wantCd (by rfl) (.tmp 1) rfl w.heap.size rfl cs hE hsx ?_)
  refine (usesRef_any d c cs 0 w1 (HR.out.grow hb1) hs).mono ?_
  rintro e w2 ⟨A2, m2, c2, rfl, hown, hb2⟩
  have hn := hown.nums
  have hnl := hn.len
  have hbw2 := keepB hb2 hb1
  rcases aims_of c.abs with ⟨h1, h2⟩ | ⟨j, a, r, h1, h2, h3⟩
  · rw [h1] at hnl
    have hm : m2 = 0 := by simpa using hnl.symm
    subst hm
    have HA := Lib.hid h2
    clear h2 h1 hn hnl hown
    go_wp2_with fail
    go_ret
    exact ⟨by rw [HA.out]; rfl, hbw2⟩
  · rw [h1] at hn hnl
    have hml : 0 < m2 := by simp at hnl; omega
    obtain ⟨a2, e2, _, g2⟩ := hn.at_ (i := 0) (by simp)
    subst e2
    rw [show a2.add 0 = a2 by simp [Addr.add]] at g2
    have hjl : j < c.abs.length := (List.getElem?_eq_some_iff.1 h2).1
    obtain ⟨b, o, ys, rfl, hbb, hrg, hra⟩ := (HX.out.grow hb1).grow hb2 j a h2
    obtain ⟨_, _, _, xs, hye, _⟩ := hra
    have ct : w2.cell? ⟨b, o + j * 14 + 8, none⟩ = some (.int .i64 a.target) := hrg 8 _ (by rw [hye, Array.getElem?_toList]; exact ab_target)
    have c12 : w2.cell? ⟨w.heap.size, 12, none⟩ = some (.slice (some ⟨b, o, none⟩) c.abs.length cc) := by rw [(HE.out.keep hb2).cell, HCs.out]; exact cd_abs
    have HA := Lib.hid h3
    have b0 : (0 : Int) ≤ (j : Int) := by omega
    have b1 : (j : Int) < (c.abs.length : Int) := by omega
    have b2 : (0 : Int) < (m2 : Int) := by omega
    simp only [List.getElem_cons_zero] at g2
    clear h1 h2 h3 hn hnl hown hye hrg
    go_wp2_with fail
    go_quiet (fail)
    go_wp2_with fail
    go_ret
    exact ⟨by rw [HA.out]; rfl, below_drewN hbw2 _⟩
end Go.Proofs.Ytnlhblnkckkeiaa
