/- Layer 2: contracts of what puts: room, one number, a list. -/
import Derived.Test.YtlodnfdpphbppaaWireB
namespace Go.Proofs.Ytlodnfdpphbppaa
open Go.RowKit Wx

theorem MadeB.mono_ {k : IntKind} {t : TypeId} {w : World} {base : Nat} {l l' : List Int} {e : Ending} {w' : World} (h : MadeB k t w base l e w') (hl : l = l') : MadeB k t w base l' e w' := hl ▸ h

set_option maxRecDepth 100000 in
set_option maxHeartbeats 400000 in
theorem withRoom_any (A : Option Addr) (n c : Nat) (bs : List Int) (room : Int) (w : World) (B : Nat) (hN : Nums .u8 w B A n bs) (hB : B ≤ w.heap.size) (hn : n ≤ 1000000000) (h0 : 0 ≤ room) (h1 : room ≤ 1000000000) :
    Calls Try.prog 21 #[.slice A n c, .int .i64 room] w (MadeB .u8 5 w w.heap.size bs) := by
  obtain ⟨i0, hi, hz0, hz1, hz2⟩ := info_parts info_u8
  go_enter Try.func21, Try.ntmps21
  go_wp2_with (first
    | (at_make; refine wpList_mk _ rfl _ _ 22 rfl .u8 w.heap.size 5 i0 _ 1 Try.underlying22 hi hz0 hz1 hz2 .i64 .i64 ((n : Int) + room) rfl rfl (by omega) (by omega) (by omega) (Nat.le_refl _) ?_; intro w1 g hown1 hg1)
    | (at_builtin; refine wpList_app rfl (.tmp 9) (.tmp 10) _ rfl .u8 w.heap.size 5 i0 _ 1 Try.underlying22 hi hz0 hz1 hz2 rfl (some g) 0 _ [] rfl hown1 B A n c bs rfl (hN.belowL ((Below.refl _ _).grown hg1 (Nat.le_refl _) (by intro k hk; cases hk)) hB) (by omega) (by omega) hg1.size ?_; intro A2 c2 w2 hown2 hg2))
  go_ret
  exact ⟨A2, n, c2, by simp, by simpa using hown2, hown1.belowGrown ((Below.refl _ _).grown hg1 (Nat.le_refl _) (by intro k hk; cases hk)) hg1.size hg2⟩
theorem put_any (A : Option Addr) (n c : Nat) (bs : List Int) (x : Int) (hx : i64B x) (w : World) (B : Nat) (hN : Nums .u8 w B A n bs) (hB : B ≤ w.heap.size) (hn : n ≤ 100000000) :
    Calls Try.prog 10 #[.slice A n c, .int .i64 x] w (MadeB .u8 5 w w.heap.size (bs ++ bts x)) := by
  have hb := bts_len x
  have H := Lib.hid hx
  have HN := Lib.hid hN
  clear hx hN
  go_enter Try.func10, Try.ntmps10
  go_wp2_with fail
  refine (size_any x H.out _).mono ?_
  rintro e w' ⟨rfl, rfl⟩
  go_wp2_with fail
  refine (withRoom_any A n c bs _ _ B HN.out hB (by omega) (by omega) (by omega)).mono ?_
  rintro e w1 ⟨A1, m1, c1, rfl, hown1, hb1⟩
  have hm1 : m1 ≤ 100000000 := by have := hown1.len; have := HN.out.len; omega
  have HO := Lib.hid hown1
  have hs1 := hb1.size
  clear hown1
  go_wp2_with fail
  refine (add_any x H.out _ A1 m1 c1 bs _ HO.out hs1 (by omega)).mono ?_
  rintro e w2 ⟨A2, m2, c2, rfl, hown2, hb2⟩
  go_wp2_with fail
  go_ret
  exact ⟨A2, m2, c2, rfl, hown2, hb1.trans hb2⟩
theorem flat_next {l : List Int} {k : Nat} (h : k < l.length) : (l.take (k + 1)).flatMap bts = (l.take k).flatMap bts ++ bts l[k] := by
  rw [List.take_succ_eq_append_getElem h, List.flatMap_append]; simp
def PLRel (w : World) (t : TypeId) (bs l : List Int) (v i : Value) (wr : World) : Prop :=
  ∃ A m c k, v = .slice A m c ∧ i = .int .i64 ((k : Nat) : Int) ∧ k ≤ l.length ∧ Own .u8 t wr w.heap.size A m c (bs ++ bts l.length ++ (l.take k).flatMap bts) ∧ Below w.heap.size w wr
set_option maxHeartbeats 400000 in
theorem putList_any (A : Option Addr) (n c : Nat) (bs : List Int) (A2 : Option Addr) (n2 c2 : Nat) (l : List Int) (w : World) (B : Nat) (hN : Nums .u8 w B A n bs) (hN2 : Nums .i64 w B A2 n2 l) (hl : ∀ x ∈ l, i64B x) (hB : B ≤ w.heap.size)
    (hn : n ≤ 100000000) (hn2 : n2 ≤ 10000000) :
    Calls Try.prog 8 #[.slice A n c, .slice A2 n2 c2] w (MadeB .u8 5 w w.heap.size (bs ++ lst l)) := by
  obtain rfl := hN2.len
  have hi64 : Hid (i64B (l.length : Int)) := i64B_len (by omega)
  have hb := bts_len (l.length : Int)
  have HN := Lib.hid hN
  have HN2 := Lib.hid hN2
  have HL := Lib.hid hl
  clear hN hN2 hl
  go_enter Try.func8, Try.ntmps8
  go_wp2_with fail
  refine (size_any _ hi64.out _).mono ?_
  rintro e w' ⟨rfl, rfl⟩
  go_wp2_with fail
  go_loop [5, 16] (fun s i => ∃ k z : Nat, k ≤ l.length ∧ i = .int .i64 k ∧ s = .int .i64 z ∧ z ≤ 10 * k + 10) (fun _ i => l.length - (intOf i).toNat)
  case atStart => exact ⟨0, _, by omega, rfl, rfl, by omega⟩
  case round =>
    obtain ⟨k, z, hk, rfl, rfl, hz⟩ := hrel
    by_cases hlt : k < l.length
    · obtain ⟨a, hA, hab, hc⟩ := HN2.out.at_ hlt
      obtain ⟨x, hx⟩ : ∃ x, x = l[k] := ⟨_, rfl⟩
      rw [← hx] at hc
      have Hx : Hid (i64B x) := by rw [hx]; exact HL.out _ (List.getElem_mem hlt)
      have hbx := bts_len x
      clear hx
      subst hA
      go_wp2_with fail
      refine (size_any x Hx.out _).mono ?_
      rintro e w' ⟨rfl, rfl⟩
      go_wp2_with fail
      go_round
      case rel => exact ⟨k + 1, z + (bts x).length, by omega, by go_num, by go_num, by omega⟩
      case measure => simp [intOf]; omega
    · go_wp2_with fail
      refine (withRoom_any A n c bs _ _ B HN.out hB (by omega) (by omega) (by omega)).mono ?_
      rintro e w1 ⟨A1, m1, c1, rfl, hown1, hb1⟩
      have hm1 : m1 ≤ 100000000 := by have := hown1.len; have := HN.out.len; omega
      have HO := Lib.hid hown1
      have hs1 := hb1.size
      clear hown1
      go_wp2_with fail
      refine (add_any _ hi64.out _ A1 m1 c1 bs _ HO.out hs1 (by omega)).mono ?_
      rintro e w2 ⟨A3, m3, c3, rfl, hown3, hb3⟩
      have hbel3 := hb1.trans hb3
      have HO3 := Lib.hid hown3
      clear hown3 hb1 hb3 HO hs1
      go_wp2_with fail
      go_loopw [8, 33] (fun v i wr => PLRel w 5 bs l v i wr) (fun _ i _ => l.length - (intOf i).toNat)
      case atStart => exact ⟨A3, m3, c3, 0, rfl, rfl, by omega, by simpa using HO3.out, hbel3⟩
      case round =>
        obtain ⟨A4, m4, c4, j, rfl, rfl, hj, hown4, hbel4⟩ := hrel
        have HO4 := Lib.hid hown4
        have hm4 : m4 ≤ 300000000 := by
          have e1 := hown4.len
          have e2 := flat_len (l.take j)
          have e3 := HN.out.len
          simp only [List.length_append, List.length_take] at e1 e2; omega
        clear hown4 hbel3
        have hs4 := hbel4.size
        by_cases hlt2 : j < l.length
        · obtain ⟨a, hA, hab, hc⟩ := (HN2.out.belowL hbel4 hB).at_ hlt2
          have HX := Lib.hid (flat_next hlt2)
          obtain ⟨x, hx⟩ : ∃ x, x = l[j] := ⟨_, rfl⟩
          rw [← hx] at hc HX
          have Hx : Hid (i64B x) := by rw [hx]; exact HL.out _ (List.getElem_mem hlt2)
          clear hx
          subst hA
          go_wp2_with fail
          refine (add_any x Hx.out _ A4 m4 c4 _ _ HO4.out hs4 (by omega)).mono ?_
          rintro e w5 ⟨A5, m5, c5, rfl, hown5, hb5⟩
          have hbel5 := hbel4.trans hb5
          have HO5 := Lib.hid hown5
          clear hown5 hb5 hc
          go_wp2_with fail
          go_roundw
          case rel => exact ⟨A5, m5, c5, j + 1, rfl, by go_num, by omega, by rw [HX.out, ← List.append_assoc]; exact HO5.out, hbel5⟩
          case measure => simp [intOf]; omega
        · go_wp2_with fail
          go_ret
          refine ⟨A4, m4, c4, rfl, ?_, hbel4⟩
          have h5 := HO4.out
          rw [List.take_of_length_le (by omega)] at h5
          unfold lst; rw [← List.append_assoc]; exact h5
end Go.Proofs.Ytlodnfdpphbppaa
