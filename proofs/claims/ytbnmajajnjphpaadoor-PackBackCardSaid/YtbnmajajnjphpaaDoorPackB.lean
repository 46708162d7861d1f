/- Layer 3: the landed code's tables, and its Head. -/
import Derived.Test.YtbnmajajnjphpaaDoorPackA
import Derived.Test.YtbnmajajnjphpaaDoorTab
import Derived.Deep.Cut
namespace Go.Proofs.YtbnmajajnjphpaaDoor
open Go.RowKit Px Bx
def partsV : List Value := [.int .i64 1, .int .i64 0, .int .i64 1, .int .i64 2, .int .i64 1, .int .i64 1, .int .i64 3, .int .i64 2, .int .i64 4, .int .i64 4, .int .i64 6, .int .i64 1, .int .i64 5, .int .i64 7, .int .i64 1, .int .i64 11, .int .i64 8, .int .i64 1, .int .i64 13, .int .i64 9, .int .i64 2, .int .i64 17, .int .i64 11, .int .i64 2, .int .i64 10, .int .i64 13, .int .i64 8]
/-- The table of parts stands there. -/
def TabP (z : World) : Prop := ∃ t, z.heap[0]? = some (.cells partsV.toArray t (0, 0))
theorem TabP.keep {z w : World} (h : TabP z) (hb : Below z.heap.size z w) : TabP w := by
  obtain ⟨t, ht⟩ := h
  exact ⟨t, (hb.block _ (Array.getElem?_eq_some_iff.1 ht).1).trans ht⟩
theorem sizeP : (Tryd.prog.info? 51).map (·.size) = some 27 := by kernel_rfl
theorem index_part : ∀ k, k < 9 → ∀ w, (Instr.index 51 (.agg partsV.toArray) (.int .i64 ((k : Nat) : Int))).run Tryd.prog w = .ok (.agg #[.int .i64 (fN k : Nat), .int .i64 (plN k : Nat), .int .i64 (wdN k : Nat)]) w :=
  all9 (fun _ => by kernel_rfl) (fun _ => by kernel_rfl) (fun _ => by kernel_rfl) (fun _ => by kernel_rfl) (fun _ => by kernel_rfl) (fun _ => by kernel_rfl) (fun _ => by kernel_rfl) (fun _ => by kernel_rfl) (fun _ => by kernel_rfl)
def HdRel (w2 : World) (o : Nat → Int) (u i : Value) (wr : World) : Prop :=
  ∃ k : Nat, i = .int .i64 ((k : Nat) : Int) ∧ u = .int .u64 (sumH o k) ∧ k ≤ 9 ∧ Fit o k ∧ Below w2.heap.size w2 wr
set_option maxRecDepth 100000 in
set_option maxHeartbeats 1000000 in
theorem head_any {z : World} (T : TabP z) (o : Nat → Int) (w : World) (hr : ∀ i, i < 18 → -9223372036854775808 ≤ o i ∧ o i ≤ 9223372036854775807) (hz : Below z.heap.size z w) :
    Calls Tryd.prog 8 #[.agg (arr .i64 18 o)] w (HeadPost o .nilIface (.iface 54 (.int .i64 1)) w) := by
  obtain ⟨t, ht⟩ := T.keep hz
  go_enter Tryd.func8, Tryd.ntmps8
  go_upto_region 2 with fail
  obtain ⟨w1, hw1⟩ : ∃ w1, w1 = w.alloc (.cells (arr .i64 18 o) 23) := ⟨_, rfl⟩
  have ha : ArrAt .i64 18 23 w1 w.heap.size o := by rw [hw1]; exact ArrAt.new w .i64 18 23 o
  have hb1 : Below w.heap.size w w1 := by rw [hw1]; exact (Below.refl _ _).alloc (Nat.le_refl _) _
  rw [← hw1]
  have hT : w1.heap[0]? = some (.cells partsV.toArray t (0, 0)) := (hb1.block _ (Array.getElem?_eq_some_iff.1 ht).1).trans ht
  clear hw1 ht
  have hsz : (Tryd.prog.info? 51).map (·.size) = some partsV.toArray.size := sizeP
  have HA := Lib.hid ha
  clear ha
  go_upto_region 3 with (refine wpList_load_row rfl 51 _ rfl 0 rfl t partsV.toArray (0, 0) _ hT Tryd.underlying51 rfl hsz ?_)
  have HT := Lib.hid hT
  clear hT hsz
  go_loopw [4, 10] (fun u i wr => HdRel w1 o u i wr) (fun _ i _ => 9 - (intOf i).toNat)
  case atStart => exact ⟨0, rfl, rfl, by omega, fun i hi => absurd hi (by omega), Below.refl _ _⟩
  case round =>
    obtain ⟨k, rfl, rfl, hk, hfit, hbel⟩ := hrel
    have HF := Lib.hid hfit
    clear hfit
    by_cases hlt : k < 9
    · have hj := fN_lt k hlt
      have hix := index_part k hlt
      obtain ⟨x, hx⟩ : ∃ x, x = o (fN k) := ⟨_, rfl⟩
      have hxr : -9223372036854775808 ≤ x ∧ x ≤ 9223372036854775807 := by rw [hx]; exact hr _ hj
      have HX := Lib.hid hx
      clear hx
      have b0 : (0 : Int) ≤ ((fN k : Nat) : Int) := by omega
      have b1 : ((fN k : Nat) : Int) < 18 := by omega
      by_cases hin : 0 ≤ x ∧ x < sN k
      · obtain ⟨h0, h1⟩ := hin
        obtain ⟨s, p, e1, e2, e3, e4, e5⟩ := put_field hlt HF.out HX.out h0 h1
        have HN := Lib.hid (fit_next HF.out (by rw [← HX.out]; exact h0) (by rw [← HX.out]; exact h1))
        go_upto_region 5 with fail
        obtain ⟨w5, hw5⟩ : ∃ w5, w5 = wr.alloc (.cells #[.int .i64 (fN k : Nat), .int .i64 (plN k : Nat), .int .i64 (wdN k : Nat)] 50) := ⟨_, rfl⟩
        have hb5 : Below wr.heap.size wr w5 := by rw [hw5]; exact (Below.refl _ _).alloc (Nat.le_refl _) _
        have g3 := ((HA.out.keep hbel).keep hb5).cell hj
        rw [← HX.out] at g3
        have c5 : w5.heap[wr.heap.size]? = some (.cells #[.int .i64 (fN k : Nat), .int .i64 (plN k : Nat), .int .i64 (wdN k : Nat)] 50 (0, 0)) := by rw [hw5]; exact heap_alloc_new _ _
        rw [← hw5]
        have c0 := cell_of_row w5 wr.heap.size 0 _ _ _ c5
        have c1 := cell_of_row w5 wr.heap.size 1 _ _ _ c5
        have c2 := cell_of_row w5 wr.heap.size 2 _ _ _ c5
        simp at c0 c1 c2
        clear c5 hw5 hix
        rw [e1]
        have HE := Lib.hid e5
        clear e1 e5
        go_wp2_with fail
        go_quiet ((go_at_call 18; exact quietD (put_yes s e2 _ _ p e4 (part_is k hlt) _)))
        go_wp2_with fail
        go_roundw
        case rel => exact ⟨k + 1, by go_num, by rw [← HE.out], by omega, HN.out, below_drewN (hbel.trans (hb5.mono hbel.size)) _⟩
        case measure => simp [intOf]; omega
      · have hno : x < 0 ∨ sN k ≤ x := by omega
        obtain ⟨p, e3, e4⟩ := put_field_no hlt hxr hno
        have HB := Lib.hid (not_fit (o := o) hlt (by rw [← HX.out]; exact hno))
        clear hin hno
        go_upto_region 5 with fail
        obtain ⟨w5, hw5⟩ : ∃ w5, w5 = wr.alloc (.cells #[.int .i64 (fN k : Nat), .int .i64 (plN k : Nat), .int .i64 (wdN k : Nat)] 50) := ⟨_, rfl⟩
        have hb5 : Below wr.heap.size wr w5 := by rw [hw5]; exact (Below.refl _ _).alloc (Nat.le_refl _) _
        have g3 := ((HA.out.keep hbel).keep hb5).cell hj
        rw [← HX.out] at g3
        have c5 : w5.heap[wr.heap.size]? = some (.cells #[.int .i64 (fN k : Nat), .int .i64 (plN k : Nat), .int .i64 (wdN k : Nat)] 50 (0, 0)) := by rw [hw5]; exact heap_alloc_new _ _
        rw [← hw5]
        have c0 := cell_of_row w5 wr.heap.size 0 _ _ _ c5
        have c1 := cell_of_row w5 wr.heap.size 1 _ _ _ c5
        have c2 := cell_of_row w5 wr.heap.size 2 _ _ _ c5
        simp at c0 c1 c2
        clear c5 hw5 hix
        go_wp2_with fail
        go_quiet ((go_at_call 18; exact quietD (put_form _ _ _ p e4 (part_is k hlt) _)))
        go_wp2_with fail
        go_ret2
        exact ⟨.inr ⟨HB.out, rfl⟩, below_drewN (hb1.trans ((hbel.trans (hb5.mono hbel.size)).mono hb1.size)) _⟩
    · obtain rfl : k = 9 := by omega
      have hr9 := sumH_range 9 (by omega) HF.out
      obtain ⟨q, hq⟩ : ∃ q, q = sumH o 9 := ⟨_, rfl⟩
      have hw9 : wN 9 = 2097152 := by decide
      rw [hw9, ← hq] at hr9
      obtain ⟨hr0, hr1⟩ := hr9
      rw [← hq]
      have HQ := Lib.hid hq
      clear hq hw9
      go_wp2_with fail
      go_ret2
      exact ⟨.inl ⟨HF.out, by rw [← HQ.out]; rfl⟩, hb1.trans (hbel.mono hb1.size)⟩
end Go.Proofs.YtbnmajajnjphpaaDoor
