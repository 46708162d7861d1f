/- Layer 2: contracts of what puts: room, one number, a list. -/
import Derived.Test.YthedopnhhanknaaWireB
namespace Go.Proofs.Ythedopnhhanknaa
open Go.RowKit Wx

theorem MadeB.mono_ {k : IntKind} {t : TypeId} {w : World} {base : Nat} {l l' : List Int} {e : Ending} {w' : World} (h : MadeB k t w base l e w') (hl : l = l') : MadeB k t w base l' e w' := hl ▸ h

set_option maxRecDepth 100000 in
set_option maxHeartbeats 400000 in
theorem withRoom_any (A : Option Addr) (n c : Nat) (bs : List Int) (room : Int) (w : World) (B : Nat) (hN : Nums .u8 w B A n bs) (hB : B ≤ w.heap.size) (hn : n ≤ 1000000000) (h0 : 0 ≤ room) (h1 : room ≤ 1000000000) :
    Calls Try.prog 51 #[.slice A n c, .int .i64 room] w (MadeB .u8 5 w w.heap.size bs) := by
  obtain ⟨i0, hi, hz0, hz1, hz2⟩ := info_parts info_u8
  go_enter Try.func51, Try.ntmps51
  go_wp2_with (first
    | (at_make; refine wpList_mk _ rfl _ _ 48 rfl .u8 w.heap.size 5 i0 _ 1 Try.underlying48 hi hz0 hz1 hz2 .i64 .i64 ((n : Int) + room) rfl rfl (by omega) (by omega) (by omega) (Nat.le_refl _) ?_; intro w1 g hown1 hg1)
    | (at_builtin; refine wpList_app rfl (.tmp 9) (.tmp 10) _ rfl .u8 w.heap.size 5 i0 _ 1 Try.underlying48 hi hz0 hz1 hz2 rfl (some g) 0 _ [] rfl hown1 B A n c bs rfl (hN.belowL ((Below.refl _ _).grown hg1 (Nat.le_refl _) (by intro k hk; cases hk)) hB) (by omega) (by omega) hg1.size ?_; intro A2 c2 w2 hown2 hg2))
  go_ret
  exact ⟨A2, n, c2, by simp, by simpa using hown2, hown1.belowGrown ((Below.refl _ _).grown hg1 (Nat.le_refl _) (by intro k hk; cases hk)) hg1.size hg2⟩
theorem put_any (A : Option Addr) (n c : Nat) (bs : List Int) (x : Int) (hx : i64B x) (w : World) (B : Nat) (hN : Nums .u8 w B A n bs) (hB : B ≤ w.heap.size) (hn : n ≤ 100000000) :
    Calls Try.prog 38 #[.slice A n c, .int .i64 x] w (MadeB .u8 5 w w.heap.size (bs ++ bts x)) := by
  have hb := bts_len x
  have H := Lib.hid hx
  have HN := Lib.hid hN
  clear hx hN
  go_enter Try.func38, Try.ntmps38
  go_wp2_with fail
  refine (size_any x H.out _).mono ?_
  rintro e w' ⟨rfl, rfl⟩
  go_wp2_with fail
  refine (withRoom_any A n c bs _ _ B HN.out hB (by omega) (by omega) (by omega)).mono ?_
  rintro e w1 ⟨A1, m1, c1, rfl, hown1, hb1⟩
  have hm1 : m1 ≤ 100000000 := by have := hown1.len; have := HN.out.len; omega
  have HO := Lib.hid hown1
  have hs1 := hb1.size
  clear hown1
  go_wp2_with fail
  refine (add_any x H.out _ A1 m1 c1 bs _ HO.out hs1 (by omega)).mono ?_
  rintro e w2 ⟨A2, m2, c2, rfl, hown2, hb2⟩
  go_wp2_with fail
  go_ret
  exact ⟨A2, m2, c2, rfl, hown2, hb1.trans hb2⟩
end Go.Proofs.Ythedopnhhanknaa
