/- Layer 2: the laws' walks. -/
import Derived.Test.YtlodnfdpphbppaaWireC
import Derived.Test.YtlodnfdpphbppaaWireD
import Derived.Test.YtlodnfdpphbppaaWireF
import Derived.Test.YtlodnfdpphbppaaWireG
import Derived.Test.YtlodnfdpphbppaaNum
import Derived.Deep.RegionHeld3
import Derived.Deep.RegionWith
namespace Go.Proofs.Ytlodnfdpphbppaa
open Go.RowKit Wx

theorem below_drewN {B : Nat} {a w : World} (h : Below B a w) (n : Nat) : Below B a (w.drewN n) := ⟨h.os, h.tape, h.output, h.size, h.block⟩
theorem bts300 : strOfNums ([] ++ bts 300) = ⟨#[216, 4]⟩ := by decide +kernel
theorem btsM1 : strOfNums ([] ++ bts (-1)) = ⟨#[1]⟩ := by decide +kernel
theorem alive_true (w : World) : Calls Try.prog 7 #[] w fun e w' => e = .returned (.bool true) ∧ Below w.heap.size w w' := by
  have h1 := Lib.hid bts300
  have h2 := Lib.hid btsM1
  go_enter Try.func7, Try.ntmps7
  go_wp2_with fail
  refine (put_any none 0 0 [] 300 (by unfold i64B; omega) _ 0 Nums.none_ (by omega) (by omega)).mono ?_
  rintro e w1 ⟨A1, m1, c1, rfl, hown1, hb1⟩
  have g1 := string_at (c := c1) hown1.nums
  rw [h1.out] at g1
  go_wp2_with fail
  refine (put_any none 0 0 [] (-1) (by unfold i64B; omega) _ 0 Nums.none_ (by omega) (by omega)).mono ?_
  rintro e w2 ⟨A2, m2, c2, rfl, hown2, hb2⟩
  have g2 := string_at (c := c2) hown2.nums
  rw [h2.out] at g2
  go_wp2_with fail
  go_ret
  exact ⟨rfl, hb1.trans (hb2.mono hb1.size)⟩
theorem takeList_ok (A : Option Addr) (n c : Nat) (l : List Int) (most : Int) (w : World) (B : Nat) (hN : Nums .u8 w B A n l) (hc : n ≤ c) (hb : byB l) (hB : B ≤ w.heap.size) (hn : n ≤ 100000000) (r : List Int) (k : Nat) (hr : tl l most = (r, k, 0)) :
    Calls Try.prog 17 #[.slice A n c, .int .i64 most] w fun e w' => ∃ A1 m1 c1 A2 m2 c2, e = .returned (.tuple #[.slice A1 m1 c1, .slice A2 m2 c2, .nilIface]) ∧ Own .i64 3 w' w.heap.size A1 m1 c1 r ∧ Own .u8 5 w' w.heap.size A2 m2 c2 (l.drop k) ∧ Below w.heap.size w w' :=
  (takeList_gen A n c l most w B hN hc hb hB hn _ hr).mono fun _ _ h => by
    rcases h with ⟨h, _⟩ | ⟨_, h⟩
    · exact absurd rfl h
    · exact h
theorem takeList_bad (A : Option Addr) (n c : Nat) (l : List Int) (most : Int) (w : World) (B : Nat) (hN : Nums .u8 w B A n l) (hc : n ≤ c) (hb : byB l) (hB : B ≤ w.heap.size) (hn : n ≤ 100000000) (r : List Int) (k : Nat) (e0 : Int) (he : e0 ≠ 0) (hr : tl l most = (r, k, e0)) :
    Calls Try.prog 17 #[.slice A n c, .int .i64 most] w fun e w' => e = .returned (.tuple #[.slice none 0 0, .slice none 0 0, .iface 52 (.int .i64 e0)]) ∧ Below w.heap.size w w' :=
  (takeList_gen A n c l most w B hN hc hb hB hn _ hr).mono fun _ _ h => by
    rcases h with ⟨_, h⟩ | ⟨h, _⟩
    · exact h
    · exact absurd h he
theorem ints_same (A1 A2 : Option Addr) (n1 c1 n2 c2 : Nat) (l : List Int) (w : World) (B1 B2 : Nat) (h1 : Nums .i64 w B1 A1 n1 l) (h2 : Nums .i64 w B2 A2 n2 l) (hn1 : n1 ≤ 1000000000) :
    Calls Try.prog 19 #[.slice A1 n1 c1, .slice A2 n2 c2] w fun e w' => e = .returned (.bool true) ∧ ∃ m, w' = w.drewN m := by
  have h := ints_any A1 A2 n1 c1 n2 c2 l l w B1 B2 h1 h2 hn1 (by have := h1.len; have := h2.len; omega)
  rw [decide_eq_true rfl] at h
  exact h
set_option maxRecDepth 100000 in
set_option maxHeartbeats 1000000 in
theorem wireBack_walk (A : Option Addr) (n c : Nat) (l : List Int) (A2 : Option Addr) (n2 c2 : Nat) (bs : List Int) (w : World) (hN : Nums .i64 w w.heap.size A n l) (hl : ∀ x ∈ l, i64B x) (hN2 : Nums .u8 w w.heap.size A2 n2 bs) (hb : byB bs) :
    Calls Try.prog 5 #[.slice A n c, .slice A2 n2 c2] w fun e w' => e = .returned (.bool true) ∧ Below w.heap.size w w' := by
  obtain ⟨i0, hi, hz0, hz1, hz2⟩ := info_parts info_u8
  have HN := Lib.hid hN
  have HN2 := Lib.hid hN2
  have HL := Lib.hid hl
  have HB := Lib.hid hb
  clear hN hN2 hl hb
  by_cases h1 : 500 < n
  · go_enter Try.func5, Try.ntmps5
    go_wp2_with fail
    refine (alive_true _).mono ?_
    rintro e w1 ⟨rfl, hb1⟩
    go_wp2_with fail
    go_ret
    exact ⟨rfl, hb1⟩
  · by_cases h2 : 500 < n2
    · go_enter Try.func5, Try.ntmps5
      go_wp2_with fail
      refine (alive_true _).mono ?_
      rintro e w1 ⟨rfl, hb1⟩
      go_wp2_with fail
      go_ret
      exact ⟨rfl, hb1⟩
    · go_enter Try.func5, Try.ntmps5
      go_wp2_with fail
      refine (alive_true _).mono ?_
      rintro e w1 ⟨rfl, hb1⟩
      have hs1 := hb1.size
      go_wp2_with fail
      refine (putList_any none 0 0 [] A n c l _ w.heap.size Nums.none_ (HN.out.below hb1) HL.out hs1 (by omega) (by omega)).mono ?_
      rintro e w2 ⟨A3, m3, c3, rfl, hown3, hb2⟩
      have hs2 := hb2.size
      have hm3 : m3 ≤ 5010 := by
        have e1 := hown3.len
        have e2 := lst_len l
        have e3 := HN.out.len
        rw [List.nil_append] at e1; omega
      have hbel2 := hb1.trans (hb2.mono hs1)
      have HN2b := HN2.out.below hbel2
      go_wp2_with (at_builtin; refine wpList_app rfl (.tmp 22) (.tmp 23) _ rfl .u8 w1.heap.size 5 i0 _ 1 Try.underlying22 hi hz0 hz1 hz2 rfl A3 m3 c3 _ rfl hown3 _ A2 n2 c2 bs rfl HN2b (by omega) (by omega) hs2 ?_; intro A4 c4 w3 hown4 hg4)
      have hb3 := hown3.belowGrown hb2 hs2 hg4
      have hs3 := hb3.size
      have hbel3 := hb1.trans (hb3.mono hs1)
      have ht := tl_lst HL.out (by have := HN.out.len; omega) bs (n : Int) (by have := HN.out.len; omega)
      have HT : Hid (tl ([] ++ lst l ++ bs) (n : Int) = (l, (lst l).length, 0)) := ht
      have HB4 : Hid (byB ([] ++ lst l ++ bs)) := byB_append (lst_byB HL.out (by have := HN.out.len; omega)) HB.out
      have hc4 := hown4.cap
      have HN4 := Lib.hid hown4.nums
      clear ht hown4 hown3 hg4 HN2b hb2 hb3
      refine (takeList_ok A4 (m3 + n2) c4 _ _ _ _ HN4.out hc4 HB4.out (Nat.le_refl _) (by omega) _ _ HT.out).mono ?_
      rintro e w4 ⟨A5, m5, c5, A6, m6, c6, rfl, hown5, hown6, hb4⟩
      have hbel4 := hbel3.trans (hb4.mono (by omega))
      have hm5 : m5 ≤ 500 := by have e1 := hown5.len; have e2 := HN.out.len; omega
      have HN5 := Lib.hid hown5.nums
      have HN6 := Lib.hid hown6.nums
      have ed : ([] ++ lst l ++ bs).drop (lst l).length = bs := by rw [List.nil_append, List.drop_left]
      rw [ed] at HN6
      clear hown5 hown6 ed
      go_wp2_with fail
      refine (ints_same A5 A m5 c5 n c l _ _ _ HN5.out (HN.out.below hbel4) (by omega)).mono ?_
      rintro e w5 ⟨rfl, m, rfl⟩
      go_wp2_with fail
      refine (numBytes_same A6 A2 m6 c6 n2 c2 bs _ _ _ (HN6.out.drewN m) ((HN2.out.below hbel4).drewN m)).mono ?_
      rintro e w6 ⟨rfl, rfl⟩
      go_wp2_with fail
      go_ret
      exact ⟨rfl, below_drewN hbel4 m⟩
end Go.Proofs.Ytlodnfdpphbppaa
