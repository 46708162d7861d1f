/- Layer 16: the document's Order. -/
import Derived.Test.YtllamlmeklalaaaRnRef
import Derived.Test.YtllamlmeklalaaaRnSaid
import Derived.Test.YtllamlmeklalaaaOwnSet
namespace Go.Proofs.Ytllamlmeklalaaa
open Go.RowKit
set_option maxRecDepth 100000
/-- Two numbers of a list of the call's own are exchanged. -/
theorem IW.swap {w W : World} {A : Option Addr} {m c : Nat} {o : List Int} (h : IW w A m c o W) {i k : Nat} (hi : i < m) (hk : k < m) :
    ∃ g, A = some ⟨g, 0, none⟩ ∧ W.cell? ⟨g, i, none⟩ = some (.int .i64 (o.getD i 0)) ∧ W.cell? ⟨g, k, none⟩ = some (.int .i64 (o.getD k 0)) ∧ W.frozen? ⟨g, i, none⟩ = false ∧ W.frozen? ⟨g, k, none⟩ = false ∧ (W.setCell ⟨g, i, none⟩ (.int .i64 (o.getD k 0))).cell? ⟨g, k, none⟩ = some (.int .i64 (o.getD k 0)) ∧
      IW w A m c (swapL o i k) ((W.setCell ⟨g, i, none⟩ (.int .i64 (o.getD k 0))).setCell ⟨g, k, none⟩ (.int .i64 (o.getD i 0))) := by
  have hl := h.len
  obtain ⟨g, hA, c1, f1, hg, hs⟩ := h.set_ (i := i) (by omega)
  obtain ⟨g', hA', c2, f2, _, _⟩ := h.set_ (i := k) (by omega)
  rw [hA] at hA'
  injection hA' with hA'
  injection hA' with hA'
  subst hA'
  obtain ⟨g'', hA'', c4, _, _, hs2⟩ := (hs (o.getD k 0)).set_ (i := k) (by rw [List.length_set]; omega)
  rw [hA] at hA''
  injection hA'' with hA''
  injection hA'' with hA''
  subst hA''
  refine ⟨g, hA, ?_, ?_, f1, f2, ?_, hs2 (o.getD i 0)⟩
  rotate_left 2
  · rw [c4, List.getElem_set]
    split
    · rfl
    · rw [List.getD_eq_getElem?_getD, List.getElem?_eq_getElem (by omega)]; rfl
  · rw [c1, List.getD_eq_getElem?_getD, List.getElem?_eq_getElem (by omega)]; rfl
  · rw [c2, List.getD_eq_getElem?_getD, List.getElem?_eq_getElem (by omega)]; rfl
/-- The document's order. -/
def OrdR (w : World) (q : List Int × Int × Int) (en : Ending) (w' : World) : Prop :=
  ∃ A n c, en = .returned (.tuple #[.slice A n c, .int .i64 q.2.1, .int .i64 q.2.2]) ∧ Nums .i64 w' w'.heap.size A n q.1 ∧ Below w.heap.size w w'
set_option linter.unusedSimpArgs false in
set_option maxHeartbeats 0 in
theorem orderRef_any (A : Option Addr) (n c : Nat) (l : List Int) (cur m : Int) (w : World) (hN : Nums .i64 w w.heap.size A n l) (hn : n ≤ 5000) (hl : ∀ x ∈ l, N64 x) (hc : N64 cur) (hm : N64 m) :
    Calls Try.prog 15 #[.slice A n c, .int .i64 cur, .int .i64 m] w (OrdR w (ordD l cur m)) := by
  have hln := hN.len
  obtain ⟨i0, hi, hz0, hz1, hz2⟩ := info_parts info_intS
  by_cases h1 : 4096 < n
  · have d1 : decide ((4096 : Int) < (n : Int)) = true := by simp; omega
    have HP := Lib.hid (show ordD l cur m = ([], 0, 19) from by unfold ordD; rw [if_pos (by omega)])
    clear hln
    go_enter Try.func15, Try.ntmps15
    go_wp2_with fail
    go_ret3
    exact ⟨none, 0, 0, by rw [HP.out]; rfl, by rw [HP.out]; exact Nums.none_, Below.refl _ _⟩
  · have d1 : decide ((4096 : Int) < (n : Int)) = false := by simp; omega
    by_cases h2 : m < 0 ∨ 400 < m ∨ cur < 0
    · have HP := Lib.hid (show ordD l cur m = ([], 0, 1) from by unfold ordD; rw [if_neg (by omega), if_pos h2])
      clear hln
      have hfin : OrdR w (ordD l cur m) (.returned (.tuple #[.slice none 0 0, .int .i64 0, .int .i64 1])) w := ⟨none, 0, 0, by rw [HP.out], by rw [HP.out]; exact Nums.none_, Below.refl _ _⟩
      by_cases h3 : m < 0
      · have d2 : decide (m < 0) = true := by simp; omega
        clear h2
        go_enter Try.func15, Try.ntmps15
        go_wp2_with fail
        go_ret3
        exact hfin
      · have d2 : decide (m < 0) = false := by simp; omega
        by_cases h4 : 400 < m
        · have d3 : decide (400 < m) = true := by simp; omega
          clear h2
          go_enter Try.func15, Try.ntmps15
          go_wp2_with fail
          go_ret3
          exact hfin
        · have d3 : decide (400 < m) = false := by simp; omega
          have d4 : decide (cur < 0) = true := by simp; omega
          clear h2
          go_enter Try.func15, Try.ntmps15
          go_wp2_with fail
          go_ret3
          exact hfin
    · have d2 : decide (m < 0) = false := by simp; omega
      have d3 : decide (400 < m) = false := by simp; omega
      have d4 : decide (cur < 0) = false := by simp; omega
      obtain ⟨k0, rfl⟩ := Int.eq_ofNat_of_zero_le (show 0 ≤ cur by omega)
      obtain ⟨N, rfl⟩ := Int.eq_ofNat_of_zero_le (show 0 ≤ m by omega)
      have hN4 : N ≤ 400 := by omega
      have HOrd := Lib.hid (show ordD l (k0 : Int) (N : Int) = if leftD l (k0 : Int) < needD (N : Int) then ([], 0, 13) else (ordAt l k0 N (N - 1), (k0 : Int) + needD (N : Int), 0) from by
        unfold ordD; rw [if_neg (by omega), if_neg h2]; simp only [Int.toNat_natCast])
      have HNN := Lib.hid hN
      have HL := Lib.hid hln
      have HH := Lib.hid hl
      have HC := Lib.hid hc
      clear h2 hln hN hl hc hm
      go_enter Try.func15, Try.ntmps15
      go_upto_region 6 with fail
      have hb1 : Below w.heap.size w (w.alloc (.cells #[] 3)) := (Below.refl _ _).alloc (Nat.le_refl _) _
      have HV0 := Lib.hid (show IW w (some ⟨w.heap.size, 0, none⟩) 0 0 (upto 0) (w.alloc (.cells #[] 3)) from ⟨own_empty w _ (Nat.le_refl _), hb1⟩)
      clear hb1 d2 d3 d4 d1
      go_upto_region 7 with fail
      go_loopw [9, 10] (fun o i wr => ∃ (k c2 : Nat) (A2 : Option Addr), i = .int .i64 ((k : Nat) : Int) ∧ o = .slice A2 k c2 ∧ k ≤ N ∧ Hid (IW w A2 k c2 (upto k) wr)) (fun _ i _ => N - (intOf i).toNat)
      case atStart => exact ⟨0, _, _, rfl, rfl, by omega, HV0⟩
      case round =>
        clear HV0
        obtain ⟨k, c2, A2, rfl, rfl, hk, HV⟩ := hrel
        by_cases hlt : k < N
        · have d0 : decide ((k : Int) < (N : Int)) = true := by simp; omega
          have hbA : Below wr.heap.size wr (wr.alloc (.cells #[.int .i64 (k : Int)] 3)) := (Below.refl _ _).alloc (Nat.le_refl _) _
          have hO := HV.out.own.alloc (.cells #[.int .i64 (k : Int)] 3)
          have HB2 := Lib.hid (keepB hbA HV.out.b)
          have hsz := HB2.out.size
          clear hbA
          go_wp2_with (at_builtin; refine wpList_app rfl (.tmp 35) (.tmp 37) _ rfl .i64 w.heap.size 3 i0 _ 8 Try.underlying22 hi hz0 hz1 hz2 rfl A2 k c2 _ rfl hO _ (some ⟨wr.heap.size, 0, none⟩) 1 1 [(k : Int)] rfl (Nums.one _ _ _ _) (by omega) (by omega) hsz ?_; intro A7 c7 w7 ho7 hg7)
          have HV7 := Lib.hid (show IW w A7 (k + 1) c7 (upto (k + 1)) w7 from by rw [upto_succ]; exact ⟨ho7, hO.belowGrown HB2.out hsz hg7⟩)
          clear ho7 hg7 hO
          go_roundw
          case rel => exact ⟨k + 1, _, _, by go_num, rfl, by omega, HV7⟩
          case measure => simp [intOf]; omega
        · obtain rfl : k = N := by omega
          have d0 : decide ((k : Int) < (k : Int)) = false := by simp
          have HW0 := Lib.hid (show IW w A2 k c2 (ordAt l k0 k 0) wr from HV.out)
          go_upto_region 11 with fail
          clear HV d0
          have HN1 := Lib.hid h1
          go_loopw [1, 11] (fun cu i wx => ∃ z : Nat, cu = .int .i64 (((k0 + z : Nat)) : Int) ∧ i = .int .i64 ((k : Int) - 1 - (z : Int)) ∧ (z = 0 ∨ (z < k ∧ k0 + z ≤ n)) ∧ Hid (IW w A2 k c2 (ordAt l k0 k z) wx)) (fun _ i _ => (intOf i).toNat)
          case atStart => exact ⟨0, rfl, by simp, .inl rfl, HW0⟩
          case round =>
            rename_i wr2
            clear HW0
            obtain ⟨z, rfl, rfl, hz, HW⟩ := hrel
            obtain ⟨cc, hcc⟩ : ∃ cc, cc = k0 + z := ⟨_, rfl⟩
            rw [← hcc] at hz ⊢
            by_cases hlt : z + 1 < k
            · obtain ⟨i, hi1⟩ : ∃ i, i = k - 1 - z := ⟨_, rfl⟩
              have hie : (k : Int) - 1 - (z : Int) = (i : Int) := by omega
              rw [hie]
              have hik : i < k := by omega
              have hi1' : 1 ≤ i := by omega
              have d0 : decide ((1 : Int) ≤ (i : Int)) = true := by simp; omega
              obtain ⟨i2, hi2⟩ : ∃ i2 : Nat, i2 = i + 1 := ⟨_, rfl⟩
              have e2 : (i : Int) + 1 = (i2 : Int) := by omega
              have hNr := HNN.out.below HW.out.b
              have hpk := pickRef_any A n c l (cc : Int) (i2 : Int) wr _ hNr hn HH.out (by unfold N64; have := HC.out; unfold N64 at this; omega) (by unfold N64; omega)
              have HI := Lib.hid (And.intro hi1 hi2)
              have HCC := Lib.hid hcc
              by_cases hd : cc < n
              · obtain ⟨d, hdl⟩ : ∃ d, l[cc]? = some d := ⟨_, List.getElem?_eq_getElem (by have := HL.out; omega)⟩
                have hpd : pickD l (cc : Int) (i2 : Int) = (d % (i2 : Int), (cc : Int) + 1, 0) := by
                  unfold pickD
                  rw [if_neg (by have := HL.out; have := HN1.out; omega), if_neg (by omega), if_neg (by have := HL.out; omega), Int.toNat_natCast, List.getD_eq_getElem?_getD, hdl]; rfl
                rw [hpd] at hpk
                obtain ⟨x0, x1⟩ := emod_rng d (i2 : Int) (by omega)
                obtain ⟨x, hx⟩ := Int.eq_ofNat_of_zero_le x0
                rw [hx] at hpk x1
                obtain ⟨g, hA, c1, c3, f1, f3, c5, hsw⟩ := HW.out.swap (i := i) (k := x) hik (by omega)
                have HSW := Lib.hid (show IW w A2 k c2 (ordAt l k0 k (z + 1)) ((wr.setCell ⟨g, i, none⟩ (.int .i64 ((ordAt l k0 k z).getD x 0))).setCell ⟨g, x, none⟩ (.int .i64 ((ordAt l k0 k z).getD i 0))) from by
                  rw [ord_next (l := l) (cur := k0) (n := k) (c := z) (d := d) (by rw [← HCC.out]; exact hdl), ← HI.out.1, ← HI.out.2, hx, Int.toNat_natCast]
                  exact hsw)
                subst hA
                obtain ⟨v1, hv1⟩ : ∃ v, v = (ordAt l k0 k z).getD i 0 := ⟨_, rfl⟩
                obtain ⟨v2, hv2⟩ : ∃ v, v = (ordAt l k0 k z).getD x 0 := ⟨_, rfl⟩
                rw [← hv1] at c1 HSW
                rw [← hv2] at c3 c5 HSW
                have p0 : (0 : Int) ≤ (x : Int) := by omega
                have p1 : (x : Int) < (k : Int) := by omega
                have p2 : (0 : Int) ≤ (i : Int) := by omega
                have p3 : (i : Int) < (k : Int) := by omega
                have HHD := Lib.hid (show cc + 1 ≤ n from by omega)
                clear hsw hv1 hv2 hpd hdl hx x0 hi1 hi2 hcc HW hNr
                go_wp2_with fail
                refine hpk.mono ?_
                rintro en w2 ⟨rfl, rfl⟩
                clear hpk
                go_wp2_with fail
                go_roundw
                case rel => exact ⟨z + 1, by have := HCC.out; go_num, by have := HI.out.1; go_num, .inr ⟨by omega, by have := HHD.out; have := HCC.out; omega⟩, HSW⟩
                case measure => simp [intOf]; omega
              · have hpd : pickD l (cc : Int) (i2 : Int) = (0, 0, 13) := by
                  unfold pickD
                  rw [if_neg (by have := HL.out; have := HN1.out; omega), if_neg (by omega), if_pos (by have := HL.out; omega)]
                rw [hpd] at hpk
                have HO2 := Lib.hid (show ordD l (k0 : Int) (k : Int) = ([], 0, 13) from by
                  rw [HOrd.out, if_pos]
                  unfold leftD needD
                  rw [if_neg (show ¬ (k : Int) < 1 by omega)]
                  have h1 := HL.out
                  have h2 := HCC.out
                  split <;> omega)
                have hbw := HW.out.b
                clear hpd hi1 hi2 hcc HW hNr
                go_wp2_with fail
                refine hpk.mono ?_
                rintro en w2 ⟨rfl, rfl⟩
                clear hpk
                go_wp2_with fail
                go_ret3
                exact ⟨none, 0, 0, by rw [HO2.out]; rfl, by rw [HO2.out]; exact Nums.none_, hbw⟩
            · have HO2 := Lib.hid (show ordD l (k0 : Int) (k : Int) = (ordAt l k0 k z, (cc : Int), 0) from by
                have h1 := HL.out
                have hz1 : z = k - 1 := by omega
                rw [HOrd.out, if_neg, hz1]
                · unfold needD
                  split
                  · rw [show (k0 : Int) + 0 = (cc : Int) by omega]
                  · rw [show (k0 : Int) + ((k : Int) - 1) = (cc : Int) by omega]
                · unfold leftD needD
                  split <;> split <;> omega)
              have d0 : decide ((1 : Int) ≤ (k : Int) - 1 - (z : Int)) = false := by simp; omega
              have HF := Lib.hid (show Nums .i64 wr wr.heap.size A2 k (ordAt l k0 k z) ∧ Below w.heap.size w wr from ⟨HW.out.own.nums, HW.out.b⟩)
              clear HW hcc
              go_wp2_with fail
              go_ret3
              exact ⟨A2, k, c2, by rw [HO2.out]; rfl, by rw [HO2.out]; exact HF.out.1, HF.out.2⟩
end Go.Proofs.Ytllamlmeklalaaa
