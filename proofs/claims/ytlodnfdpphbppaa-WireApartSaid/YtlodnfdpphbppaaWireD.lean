/- Layer 2: the document's bytes of numbers and lists. -/
import Derived.Test.YtlodnfdpphbppaaWireB
namespace Go.Proofs.Ytlodnfdpphbppaa
open Go.RowKit Wx
theorem MadeB.more {k : IntKind} {t : TypeId} {w : World} {base b2 : Nat} {l : List Int} {e : Ending} {w' : World} (h : MadeB k t w base l e w') (hb : b2 ≤ base) : MadeB k t w b2 l e w' := by
  obtain ⟨A, m, c, h1, h2, h3⟩ := h
  exact ⟨A, m, c, h1, h2.base_le hb, h3.mono hb⟩
theorem flat_nextD {l : List Int} {k : Nat} (h : k < l.length) : (l.take (k + 1)).flatMap bts = (l.take k).flatMap bts ++ bts l[k] := by
  rw [List.take_succ_eq_append_getElem h, List.flatMap_append]; simp
set_option maxRecDepth 100000 in
set_option maxHeartbeats 400000 in
theorem bytesRef_any (n : Int) (h : i64B n) (w : World) :
    Calls Try.prog 11 #[.int .i64 n] w (MadeB .u8 5 w w.heap.size (bts n)) := by
  obtain ⟨i0, hi, hz0, hz1, hz2⟩ := info_parts info_u8
  have hlen10 : (bts n).length ≤ 10 := (bts_len n).2
  obtain ⟨l, hl⟩ : ∃ l, l = bts n := ⟨_, rfl⟩
  rw [← hl] at hlen10 ⊢
  have HL := Lib.hid hl
  have H := Lib.hid h
  clear hl h
  go_enter Try.func11, Try.ntmps11
  go_wp2_with fail
  refine (stands_any n H.out _).mono ?_
  rintro e w' ⟨rfl, rfl⟩
  go_wp2_with fail
  go_loopw [4, 3] (fun v u wr => AddRel w w.heap.size 5 l v u wr) (fun _ u _ => (intOf u).toNat)
  case atStart => exact ⟨_, 0, 0, [], 9, stn n, rfl, rfl, own_empty w _ (Nat.le_refl _), HL.out.symm, by have := stn_lt H.out; rw [pow10]; omega, stn_lt H.out, (Below.refl _ _).alloc (Nat.le_refl _) _⟩
  case round =>
    obtain ⟨A1, m1, c1, cur, f, x, rfl, rfl, hown1, hcur, hx, h64, hbel⟩ := hrel
    have hs := hbel.size
    have hm1 : m1 ≤ 10 := by
      have e1 := congrArg List.length hcur
      have e2 := hown1.len
      rw [List.length_append] at e1; omega
    have HC := Lib.hid hcur
    have HX := Lib.hid hx
    have H64 := Lib.hid h64
    clear hcur hx
    by_cases hge : 128 ≤ x
    · have HV : Hid ((x : Int) % 128 + 128 = ((x % 128 + 128 : Nat) : Int)) := by show _ = _; omega
      go_wp2_with (at_builtin; refine wpList_app rfl (.tmp 10) (.tmp 15) _ rfl .u8 w.heap.size 5 i0 _ 1 Try.underlying22 hi hz0 hz1 hz2 rfl A1 m1 c1 cur rfl (hown1.alloc _) _ (some ⟨wr.heap.size, 0, none⟩) 1 1 [(x : Int) % 128 + 128] rfl (Nums.one _ _ _ _) (by omega) (by omega) (by simp; omega) ?_; intro A2 c2 w2 hown2 hg2)
      go_roundw
      case rel => exact addRel_next HC.out HX.out H64.out hge hbel (Nat.le_refl _) _ (hown1.alloc _) (HV.out ▸ hown2) hg2
      case measure => simp [intOf]; omega
    · have HV : Hid ((x : Int) % 256 = (x : Int)) := by show _ = _; omega
      go_wp2_with (at_builtin; refine wpList_app rfl (.tmp 19) (.tmp 22) _ rfl .u8 w.heap.size 5 i0 _ 1 Try.underlying22 hi hz0 hz1 hz2 rfl A1 m1 c1 cur rfl (hown1.alloc _) _ (some ⟨wr.heap.size, 0, none⟩) 1 1 [(x : Int)] rfl (Nums.one _ _ _ _) (by omega) (by omega) (by simp; omega) ?_; intro A2 c2 w2 hown2 hg2)
      go_ret
      refine ⟨A2, _, c2, rfl, ?_, (hown1.alloc _).belowGrown (hbel.alloc (by omega) _) (by simp; omega) hg2⟩
      rw [← HC.out, en_last (by omega)]; exact hown2
def RLRel (w : World) (t : TypeId) (l : List Int) (v i : Value) (wr : World) : Prop :=
  ∃ A m c k, v = .slice A m c ∧ i = .int .i64 ((k : Nat) : Int) ∧ k ≤ l.length ∧ Own .u8 t wr w.heap.size A m c (bts l.length ++ (l.take k).flatMap bts) ∧ Below w.heap.size w wr
set_option maxRecDepth 100000 in
set_option maxHeartbeats 400000 in
theorem listRef_any (A2 : Option Addr) (n2 c2 : Nat) (l : List Int) (w : World) (B : Nat) (hN2 : Nums .i64 w B A2 n2 l) (hl : ∀ x ∈ l, i64B x) (hB : B ≤ w.heap.size) (hn2 : n2 ≤ 10000000) :
    Calls Try.prog 9 #[.slice A2 n2 c2] w (MadeB .u8 5 w w.heap.size (lst l)) := by
  obtain ⟨i0, hi, hz0, hz1, hz2⟩ := info_parts info_u8
  obtain rfl := hN2.len
  have hi64 : Hid (i64B (l.length : Int)) := i64B_len (by omega)
  have HN2 := Lib.hid hN2
  have HL := Lib.hid hl
  clear hN2 hl
  go_enter Try.func9, Try.ntmps9
  go_wp2_with fail
  refine (bytesRef_any _ hi64.out _).mono ?_
  rintro e w1 ⟨A1, m1, c1, rfl, hown1, hb1⟩
  have HO := Lib.hid hown1
  clear hown1
  go_wp2_with fail
  go_loopw [3, 11] (fun v i wr => RLRel w 5 l v i wr) (fun _ i _ => l.length - (intOf i).toNat)
  case atStart => exact ⟨A1, m1, c1, 0, rfl, rfl, by omega, by simpa using HO.out, hb1⟩
  case round =>
    obtain ⟨A4, m4, c4, j, rfl, rfl, hj, hown4, hbel4⟩ := hrel
    have hm4 : m4 ≤ 300000000 := by
      have e1 := hown4.len
      have e2 := flat_len (l.take j)
      have e3 := bts_len (l.length : Int)
      simp only [List.length_append, List.length_take] at e1 e2; omega
    clear hb1
    have hs4 := hbel4.size
    by_cases hlt2 : j < l.length
    · obtain ⟨a, hA, hab, hc⟩ := (HN2.out.belowL hbel4 hB).at_ hlt2
      have HX := Lib.hid (flat_nextD hlt2)
      obtain ⟨x, hx⟩ : ∃ x, x = l[j] := ⟨_, rfl⟩
      rw [← hx] at hc HX
      have Hx : Hid (i64B x) := by rw [hx]; exact HL.out _ (List.getElem_mem hlt2)
      have hbx := bts_len x
      clear hx
      subst hA
      go_wp2_with fail
      refine (bytesRef_any x Hx.out _).mono ?_
      rintro e w5 ⟨A5, m5, c5, rfl, hown5, hb5⟩
      have hm5 : m5 ≤ 10 := by have := hown5.len; omega
      have hown4' := hown4.below hb5 (Nat.le_refl _)
      have hs5 := hb5.size
      have hbel5 := hbel4.trans (hb5.mono hs4)
      go_wp2_with (at_builtin; refine wpList_app rfl (.tmp 15) (.tmp 17) _ rfl .u8 w.heap.size 5 i0 _ 1 Try.underlying22 hi hz0 hz1 hz2 rfl A4 m4 c4 _ rfl hown4' _ A5 m5 c5 _ rfl hown5.nums (by omega) (by omega) (by omega) ?_; intro A6 c6 w6 hown6 hg6)
      have HO6 := Lib.hid hown6
      have hbel6 := hown4'.belowGrown hbel5 (by omega) hg6
      clear hown6 hg6 hown5
      go_roundw
      case rel => exact ⟨A6, _, c6, j + 1, rfl, by go_num, by omega, by rw [HX.out, ← List.append_assoc]; exact HO6.out, hbel6⟩
      case measure => simp [intOf]; omega
    · go_wp2_with fail
      go_ret
      refine ⟨A4, m4, c4, rfl, ?_, hbel4⟩
      rw [List.take_of_length_le (by omega)] at hown4
      exact hown4
end Go.Proofs.Ytlodnfdpphbppaa
