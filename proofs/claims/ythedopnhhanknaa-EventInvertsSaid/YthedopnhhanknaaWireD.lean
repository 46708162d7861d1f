/- Layer 2: the document's bytes of numbers and lists. -/
import Derived.Test.YthedopnhhanknaaWireB
namespace Go.Proofs.Ythedopnhhanknaa
open Go.RowKit Wx
theorem MadeB.more {k : IntKind} {t : TypeId} {w : World} {base b2 : Nat} {l : List Int} {e : Ending} {w' : World} (h : MadeB k t w base l e w') (hb : b2 ≤ base) : MadeB k t w b2 l e w' := by
  obtain ⟨A, m, c, h1, h2, h3⟩ := h
  exact ⟨A, m, c, h1, h2.base_le hb, h3.mono hb⟩
theorem flat_nextD {l : List Int} {k : Nat} (h : k < l.length) : (l.take (k + 1)).flatMap bts = (l.take k).flatMap bts ++ bts l[k] := by
  rw [List.take_succ_eq_append_getElem h, List.flatMap_append]; simp
set_option maxRecDepth 100000 in
set_option maxHeartbeats 400000 in
theorem bytesRef_any (n : Int) (h : i64B n) (w : World) :
    Calls Try.prog 17 #[.int .i64 n] w (MadeB .u8 5 w w.heap.size (bts n)) := by
  obtain ⟨i0, hi, hz0, hz1, hz2⟩ := info_parts info_u8
  have hlen10 : (bts n).length ≤ 10 := (bts_len n).2
  obtain ⟨l, hl⟩ : ∃ l, l = bts n := ⟨_, rfl⟩
  rw [← hl] at hlen10 ⊢
  have HL := Lib.hid hl
  have H := Lib.hid h
  clear hl h
  go_enter Try.func17, Try.ntmps17
  go_wp2_with fail
  refine (stands_any n H.out _).mono ?_
  rintro e w' ⟨rfl, rfl⟩
  go_wp2_with fail
  go_loopw [4, 3] (fun v u wr => AddRel w w.heap.size 5 l v u wr) (fun _ u _ => (intOf u).toNat)
  case atStart => exact ⟨_, 0, 0, [], 9, stn n, rfl, rfl, own_empty w _ (Nat.le_refl _), HL.out.symm, by have := stn_lt H.out; rw [pow10]; omega, stn_lt H.out, (Below.refl _ _).alloc (Nat.le_refl _) _⟩
  case round =>
    obtain ⟨A1, m1, c1, cur, f, x, rfl, rfl, hown1, hcur, hx, h64, hbel⟩ := hrel
    have hs := hbel.size
    have hm1 : m1 ≤ 10 := by
      have e1 := congrArg List.length hcur
      have e2 := hown1.len
      rw [List.length_append] at e1; omega
    have HC := Lib.hid hcur
    have HX := Lib.hid hx
    have H64 := Lib.hid h64
    clear hcur hx
    by_cases hge : 128 ≤ x
    · have HV : Hid ((x : Int) % 128 + 128 = ((x % 128 + 128 : Nat) : Int)) := by show _ = _; omega
      go_wp2_with (at_builtin; refine wpList_app rfl (.tmp 10) (.tmp 15) _ rfl .u8 w.heap.size 5 i0 _ 1 Try.underlying48 hi hz0 hz1 hz2 rfl A1 m1 c1 cur rfl (hown1.alloc _) _ (some ⟨wr.heap.size, 0, none⟩) 1 1 [(x : Int) % 128 + 128] rfl (Nums.one _ _ _ _) (by omega) (by omega) (by simp; omega) ?_; intro A2 c2 w2 hown2 hg2)
      go_roundw
      case rel => exact addRel_next HC.out HX.out H64.out hge hbel (Nat.le_refl _) _ (hown1.alloc _) (HV.out ▸ hown2) hg2
      case measure => simp [intOf]; omega
    · have HV : Hid ((x : Int) % 256 = (x : Int)) := by show _ = _; omega
      go_wp2_with (at_builtin; refine wpList_app rfl (.tmp 19) (.tmp 22) _ rfl .u8 w.heap.size 5 i0 _ 1 Try.underlying48 hi hz0 hz1 hz2 rfl A1 m1 c1 cur rfl (hown1.alloc _) _ (some ⟨wr.heap.size, 0, none⟩) 1 1 [(x : Int)] rfl (Nums.one _ _ _ _) (by omega) (by omega) (by simp; omega) ?_; intro A2 c2 w2 hown2 hg2)
      go_ret
      refine ⟨A2, _, c2, rfl, ?_, (hown1.alloc _).belowGrown (hbel.alloc (by omega) _) (by simp; omega) hg2⟩
      rw [← HC.out, en_last (by omega)]; exact hown2
end Go.Proofs.Ythedopnhhanknaa
