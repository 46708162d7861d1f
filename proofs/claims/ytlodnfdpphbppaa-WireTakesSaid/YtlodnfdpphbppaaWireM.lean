/- Layer 2: WireTakes, walked: no number; a number, but no list; both. -/
import Derived.Test.YtlodnfdpphbppaaWireL
namespace Go.Proofs.Ytlodnfdpphbppaa
open Go.RowKit Wx
theorem takeListRef_at (A : Option Addr) (n c : Nat) (l : List Int) (most : Int) (w : World) (B : Nat) (hN : Nums .u8 w B A n l) (hc : n ≤ c) (hb : byB l) (hB : B ≤ w.heap.size) (hn : n ≤ 100000000) (r : List Int) (k : Nat) (e0 : Int) (hr : tl l most = (r, k, e0)) :
    Calls Try.prog 18 #[.slice A n c, .int .i64 most] w fun e w' => ∃ A m c, e = .returned (.tuple #[.slice A m c, .int .i64 k, .int .i64 e0]) ∧ Own .i64 3 w' w.heap.size A m c r ∧ Below w.heap.size w w' :=
  takeListRef_gen A n c l most w B hN hc hb hB hn _ hr
set_option maxHeartbeats 1000000 in
theorem wireTakes_big (A : Option Addr) (n c : Nat) (most : Int) (w : World) (h : 400 < n) :
    Calls Try.prog 4 #[.slice A n c, .int .i64 most] w fun e w' => e = .returned (.bool true) ∧ Below w.heap.size w w' := by
  go_enter Try.func4, Try.ntmps4
  go_wp2_with fail
  refine (alive_true _).mono ?_
  rintro e w1 ⟨rfl, hb1⟩
  go_wp2_with fail
  go_ret
  exact ⟨rfl, hb1⟩
set_option maxRecDepth 100000 in
set_option maxHeartbeats 2000000 in
theorem wireTakes_bad (A : Option Addr) (n c : Nat) (l : List Int) (most : Int) (w : World) (hN : Nums .u8 w w.heap.size A n l) (hc : n ≤ c) (hb : byB l) (hn : n ≤ 400) (e2 : Int) (he : e2 = 2 ∨ e2 = 7) (ht : tk l = (0, 0, e2)) :
    Calls Try.prog 4 #[.slice A n c, .int .i64 most] w fun e w' => e = .returned (.bool true) ∧ Below w.heap.size w w' := by
  have HTL : Hid (tl l most = ([], 0, e2)) := tl_one ht (by omega)
  have HN := Lib.hid hN
  have HB := Lib.hid hb
  have HT := Lib.hid ht
  have H2 : Hid (1 ≤ e2) := by show 1 ≤ e2; omega
  have hz2 : (e2 == 0) = false := beq_eq_false_iff_ne.2 (by omega)
  have hz3 : (e2 != 0) = true := by rw [bne_iff_ne]; omega
  clear hN hb ht he
  go_enter Try.func4, Try.ntmps4
  go_wp2_with fail
  refine (alive_true _).mono ?_
  rintro e w1 ⟨rfl, hb1⟩
  have hs1 := hb1.size
  go_wp2_with fail
  refine (take_bad A n c l _ _ (HN.out.below hb1) HB.out (by omega) e2 (by have := H2.out; omega) HT.out).mono ?_
  rintro e w2 ⟨rfl, rfl⟩
  go_wp2_with fail
  refine (takeRef_at A n c l _ _ (HN.out.below hb1) HB.out (by omega) 0 0 e2 HT.out).mono ?_
  rintro e w3 ⟨rfl, rfl⟩
  go_wp2_with fail
  refine (num_err e2 (by have := H2.out; omega) _).mono ?_
  rintro e w4 ⟨rfl, rfl⟩
  go_wp2_with fail
  have hbel := hb1
  refine (takeList_bad A n c l most _ _ (HN.out.below hbel) hc HB.out (by have := hbel.size; omega) (by omega) [] 0 e2 (by have := H2.out; omega) HTL.out).mono ?_
  rintro e w5 ⟨rfl, hb5⟩
  have hbel5 := hbel.trans (hb5.mono hbel.size)
  have hs5 := hbel5.size
  go_wp2_with fail
  refine (takeListRef_at A n c l most _ _ (HN.out.below hbel5) hc HB.out hs5 (by omega) [] 0 e2 HTL.out).mono ?_
  rintro e w6 ⟨A6, m6, c6, rfl, hown6, hb6⟩
  have hbel6 := hbel5.trans (hb6.mono hs5)
  have HN6 := Lib.hid hown6.nums
  clear hown6 hb5 hb6
  go_wp2_with fail
  refine (ints_same none A6 0 0 m6 c6 [] _ 0 _ Nums.none_ HN6.out (by omega)).mono ?_
  rintro e w7 ⟨rfl, m, rfl⟩
  go_wp2_with fail
  refine (num_err e2 (by have := H2.out; omega) _).mono ?_
  rintro e w8 ⟨rfl, rfl⟩
  have hz2 : (e2 == 0) = false := beq_eq_false_iff_ne.2 (by have := H2.out; omega)
  have hz3 : (e2 != 0) = true := by rw [bne_iff_ne]; have := H2.out; omega
  go_wp2_with fail
  go_ret
  exact ⟨rfl, below_drewN hbel6 m⟩
set_option maxRecDepth 100000 in
set_option maxHeartbeats 2000000 in
theorem wireTakes_half (A : Option Addr) (n c : Nat) (l : List Int) (most : Int) (w : World) (hN : Nums .u8 w w.heap.size A n l) (hc : n ≤ c) (hb : byB l) (hn : n ≤ 400) (z : Int) (k : Nat) (hk : k ≤ n) (ht : tk l = (z, k, 0)) (e2 : Int) (he : 1 ≤ e2) (htl : tl l most = ([], 0, e2)) :
    Calls Try.prog 4 #[.slice A n c, .int .i64 most] w fun e w' => e = .returned (.bool true) ∧ Below w.heap.size w w' := by
  obtain ⟨A1, hsl, hN1⟩ := cut_from (P := Try.prog) hN hc hk 22 (by kernel_rfl) (fun _ => by kernel_rfl)
  have HTL := Lib.hid htl
  have HN := Lib.hid hN
  have HN1 := Lib.hid hN1
  have HB := Lib.hid hb
  have HT := Lib.hid ht
  have H2 : Hid (1 ≤ e2) := he
  clear hN hb ht he htl hN1
  go_enter Try.func4, Try.ntmps4
  go_wp2_with fail
  refine (alive_true _).mono ?_
  rintro e w1 ⟨rfl, hb1⟩
  have hs1 := hb1.size
  go_wp2_with fail
  refine (take_ok A n c l _ _ (HN.out.below hb1) hc HB.out hs1 (by omega) z k HT.out).mono ?_
  rintro e w2 ⟨A2, m2, c2, rfl, hown2, hb2⟩
  have hbel2 := hb1.trans (hb2.mono hs1)
  have hs2 := hbel2.size
  have HN2 := Lib.hid hown2.nums
  clear hown2 hb2
  go_wp2_with fail
  refine (takeRef_at A n c l _ _ (HN.out.below hbel2) HB.out (by omega) z k 0 HT.out).mono ?_
  rintro e w3 ⟨rfl, rfl⟩
  go_wp2_with fail
  refine (num_nil _).mono ?_
  rintro e w4 ⟨rfl, rfl⟩
  go_wp2_with fail
  refine (numBytes_same A2 A1 m2 c2 _ _ (l.drop k) _ _ _ HN2.out (HN1.out.below hbel2)).mono ?_
  rintro e w4 ⟨rfl, rfl⟩
  have hbel := hbel2
  clear hb1 hs1 HN2
  go_wp2_with fail
  refine (takeList_bad A n c l most _ _ (HN.out.below hbel) hc HB.out (by have := hbel.size; omega) (by omega) [] 0 e2 (by have := H2.out; omega) HTL.out).mono ?_
  rintro e w5 ⟨rfl, hb5⟩
  have hbel5 := hbel.trans (hb5.mono hbel.size)
  have hs5 := hbel5.size
  go_wp2_with fail
  refine (takeListRef_at A n c l most _ _ (HN.out.below hbel5) hc HB.out hs5 (by omega) [] 0 e2 HTL.out).mono ?_
  rintro e w6 ⟨A6, m6, c6, rfl, hown6, hb6⟩
  have hbel6 := hbel5.trans (hb6.mono hs5)
  have HN6 := Lib.hid hown6.nums
  clear hown6 hb5 hb6
  go_wp2_with fail
  refine (ints_same none A6 0 0 m6 c6 [] _ 0 _ Nums.none_ HN6.out (by omega)).mono ?_
  rintro e w7 ⟨rfl, m, rfl⟩
  go_wp2_with fail
  refine (num_err e2 (by have := H2.out; omega) _).mono ?_
  rintro e w8 ⟨rfl, rfl⟩
  have hz2 : (e2 == 0) = false := beq_eq_false_iff_ne.2 (by have := H2.out; omega)
  have hz3 : (e2 != 0) = true := by rw [bne_iff_ne]; have := H2.out; omega
  go_wp2_with fail
  go_ret
  exact ⟨rfl, below_drewN hbel6 m⟩
set_option maxRecDepth 100000 in
set_option maxHeartbeats 2000000 in
theorem wireTakes_ok (A : Option Addr) (n c : Nat) (l : List Int) (most : Int) (w : World) (hN : Nums .u8 w w.heap.size A n l) (hc : n ≤ c) (hb : byB l) (hn : n ≤ 400) (z : Int) (k : Nat) (hk : k ≤ n) (ht : tk l = (z, k, 0)) (r : List Int) (k2 : Nat) (hk2 : k2 ≤ n) (hr : r.length ≤ n) (htl : tl l most = (r, k2, 0)) :
    Calls Try.prog 4 #[.slice A n c, .int .i64 most] w fun e w' => e = .returned (.bool true) ∧ Below w.heap.size w w' := by
  obtain ⟨A1, hsl, hN1⟩ := cut_from (P := Try.prog) hN hc hk 22 (by kernel_rfl) (fun _ => by kernel_rfl)
  obtain ⟨A7, hsl7, hN7⟩ := cut_from (P := Try.prog) hN hc hk2 22 (by kernel_rfl) (fun _ => by kernel_rfl)
  have HTL := Lib.hid htl
  have HN := Lib.hid hN
  have HN1 := Lib.hid hN1
  have HN7 := Lib.hid hN7
  have HB := Lib.hid hb
  have HT := Lib.hid ht
  clear hN hb ht htl hN1 hN7
  go_enter Try.func4, Try.ntmps4
  go_wp2_with fail
  refine (alive_true _).mono ?_
  rintro e w1 ⟨rfl, hb1⟩
  have hs1 := hb1.size
  go_wp2_with fail
  refine (take_ok A n c l _ _ (HN.out.below hb1) hc HB.out hs1 (by omega) z k HT.out).mono ?_
  rintro e w2 ⟨A2, m2, c2, rfl, hown2, hb2⟩
  have hbel2 := hb1.trans (hb2.mono hs1)
  have hs2 := hbel2.size
  have HN2 := Lib.hid hown2.nums
  clear hown2 hb2
  go_wp2_with fail
  refine (takeRef_at A n c l _ _ (HN.out.below hbel2) HB.out (by omega) z k 0 HT.out).mono ?_
  rintro e w3 ⟨rfl, rfl⟩
  go_wp2_with fail
  refine (num_nil _).mono ?_
  rintro e w4 ⟨rfl, rfl⟩
  go_wp2_with fail
  refine (numBytes_same A2 A1 m2 c2 _ _ (l.drop k) _ _ _ HN2.out (HN1.out.below hbel2)).mono ?_
  rintro e w4 ⟨rfl, rfl⟩
  have hbel := hbel2
  clear hb1 hs1 HN2
  go_wp2_with fail
  refine (takeList_ok A n c l most _ _ (HN.out.below hbel) hc HB.out (by have := hbel.size; omega) (by omega) r k2 HTL.out).mono ?_
  rintro e w5 ⟨A8, m8, c8, A9, m9, c9, rfl, hown8, hown9, hb5⟩
  have hbel5 := hbel.trans (hb5.mono hbel.size)
  have hs5 := hbel5.size
  have hm8 : m8 ≤ 400 := by have := hown8.len; omega
  have HN8 := Lib.hid hown8.nums
  have HN9 := Lib.hid hown9.nums
  clear hown8 hown9 hb5
  go_wp2_with fail
  refine (takeListRef_at A n c l most _ _ (HN.out.below hbel5) hc HB.out hs5 (by omega) r k2 0 HTL.out).mono ?_
  rintro e w6 ⟨A6, m6, c6, rfl, hown6, hb6⟩
  have hbel6 := hbel5.trans (hb6.mono hs5)
  have HN6 := Lib.hid hown6.nums
  have HN8b := Lib.hid (HN8.out.below hb6)
  have HN9b := Lib.hid (HN9.out.below hb6)
  clear hown6 hb6 HN8 HN9
  go_wp2_with fail
  refine (ints_same A8 A6 m8 c8 m6 c6 r _ _ _ HN8b.out HN6.out (by omega)).mono ?_
  rintro e w7 ⟨rfl, m, rfl⟩
  go_wp2_with fail
  refine (num_nil _).mono ?_
  rintro e w8 ⟨rfl, rfl⟩
  go_wp2_with fail
  refine (numBytes_same A9 A7 m9 c9 _ _ (l.drop k2) _ _ _ (HN9b.out.drewN m) ((HN7.out.below hbel6).drewN m)).mono ?_
  rintro e w9 ⟨rfl, rfl⟩
  go_wp2_with fail
  go_ret
  exact ⟨rfl, below_drewN hbel6 m⟩
theorem flat_pos (s : List Int) : s.length ≤ (s.flatMap bts).length := by
  induction s with
  | nil => simp
  | cons a s ih => have := bts_len a; simp only [List.flatMap_cons, List.length_append, List.length_cons]; omega
theorem wireTakes_walk (A : Option Addr) (n c : Nat) (l : List Int) (most : Int) (w : World) (hN : Nums .u8 w w.heap.size A n l) (hc : n ≤ c) (hb : byB l) (_ : i64B most) :
    Calls Try.prog 4 #[.slice A n c, .int .i64 most] w fun e w' => e = .returned (.bool true) ∧ Below w.heap.size w w' := by
  by_cases h : 400 < n
  · exact wireTakes_big A n c most w h
  · have hlen := hN.len
    obtain ⟨z, k, e, ht⟩ : ∃ z k e, tk l = (z, k, e) := ⟨_, _, _, rfl⟩
    rcases tk_range hb ht with ⟨rfl, rfl, he⟩ | ⟨rfl, h1, h2, h3, h4, h5⟩
    · exact wireTakes_bad A n c l most w hN hc hb (by omega) e he ht
    · obtain ⟨r, k2, e2, htl⟩ : ∃ r k2 e2, tl l most = (r, k2, e2) := ⟨_, _, _, rfl⟩
      rcases tl_range hb most htl with ⟨rfl, rfl, he⟩ | ⟨rfl, g1, g2, g3⟩
      · exact wireTakes_half A n c l most w hN hc hb (by omega) z k (by omega) ht e2 (by omega) htl
      · refine wireTakes_ok A n c l most w hN hc hb (by omega) z k (by omega) ht r k2 (by omega) ?_ htl
        have e1 := congrArg List.length g3
        have e2 := flat_pos r
        unfold lst at e1
        simp only [List.length_append, List.length_drop] at e1
        omega
end Go.Proofs.Ytlodnfdpphbppaa
