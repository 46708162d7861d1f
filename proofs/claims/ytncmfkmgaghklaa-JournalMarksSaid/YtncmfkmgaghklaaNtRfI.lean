/- Layer 13: the reference's Invert. -/
import Derived.Test.YtncmfkmgaghklaaNtEv2
import Derived.Test.YtncmfkmgaghklaaNtDef
namespace Go.Proofs.Ytncmfkmgaghklaa
open Go.RowKit Ex
set_option maxRecDepth 100000
theorem invL_drop {l : List EvT} {j : Nat} (h : j < l.length) : invL (l.drop j) = invL (l.drop (j + 1)) ++ [invE l[j]] := by
  unfold invL
  rw [List.drop_eq_getElem_cons h, List.map_cons, List.reverse_cons]
set_option linter.unusedSimpArgs false in
set_option maxHeartbeats 0 in
theorem invLRef_any (A : Option Addr) (n c : Nat) (l : List EvT) (w : World) (h : Evs w.heap.size w A n l) (hn : n ≤ 100000) :
    Calls Try.prog 20 #[.slice A n c] w fun en w' => ∃ A' c', en = .returned (.slice A' n c') ∧ n ≤ c' ∧ Evs w'.heap.size w' A' n (invL l) ∧ Below w.heap.size w w' := by
  have H := Lib.hid h
  have hn0 : (0 : Int) ≤ (n : Int) := by omega
  have hn1 : (n : Int) ≤ 100000 := by omega
  clear h
  have hb0 : Below w.heap.size w (w.alloc (.cells #[] 41)) := (Below.refl _ _).alloc (Nat.le_refl _) _
  have h0 := ownV_empty w w.heap.size (Nat.le_refl _)
  go_enter Try.func20, Try.ntmps20
  go_upto_region 3 with fail
  go_loopw [3, 4] (fun o i wr => ∃ (k m cc : Nat) (A' : Option Addr), i = .int .i64 (((k : Nat) : Int) - 1) ∧ o = .slice A' m cc ∧ m + k = n ∧ Hid (VB w A' m cc (invL (l.drop k)) wr)) (fun _ i _ => (intOf i + 1).toNat)
  case atStart => exact ⟨n, 0, 0, _, rfl, rfl, by omega, Lib.hid ⟨by rw [H.out.n, List.drop_length]; exact h0, hb0⟩⟩
  case round =>
    clear h0 hb0
    obtain ⟨k, m, cc, A4, rfl, rfl, hk, HO⟩ := hrel
    cases k with
    | zero =>
      have HF := Lib.hid (show Evs wr.heap.size wr A4 n (invL l) ∧ n ≤ cc from by
        have ho := HO.out.own
        rw [List.drop_zero] at ho
        obtain rfl : m = n := by omega
        exact ⟨ho.evs fun e he => by
          obtain ⟨x, hx, rfl⟩ := List.mem_map.1 (List.mem_reverse.1 he)
          exact invE_i (H.out.i x hx), ho.cap.1⟩)
      obtain rfl : m = n := by omega
      have hb := HO.out.b
      clear hk
      go_wp2_with fail
      go_ret
      exact ⟨_, _, rfl, HF.out.2, HF.out.1, hb⟩
    | succ j =>
      have hlt' : j < l.length := by rw [← H.out.n]; omega
      obtain ⟨b1, o1, ea, hb1, g1⟩ := H.out.r.at_ hlt'
      subst ea
      have G1 := Lib.hid (range_below HO.out.b hb1 g1)
      obtain ⟨x, hx⟩ : ∃ x, x = l[j] := ⟨_, rfl⟩
      rw [← hx] at G1
      have HL := Lib.hid (show invL (l.drop j) = invL (l.drop (j + 1)) ++ [invE x] by rw [hx]; exact invL_drop hlt')
      rw [show (((j + 1 : Nat) : Int) - 1) = (j : Int) by omega]
      have p0 : (0 : Int) ≤ (j : Int) := by omega
      have p1 : (j : Int) < (n : Int) := by omega
      have p2 : (j : Int) ≤ 100000 := by omega
      have hm : m + 1 ≤ 1000000 := by omega
      have hmk := Lib.hid hk
      clear hx g1 hb1 hlt' hk
      go_wp2_with (refine load_evm rfl (.tmp 16) rfl b1 (o1 + j * 6) rfl x G1.out ?_)
      refine (invRef_any x wr).mono ?_
      rintro en w2 ⟨rfl, hb2⟩
      have hO2 := HO.out.own.below hb2
      have hB2 := keepB hb2 HO.out.b
      obtain ⟨y, hy⟩ : ∃ y, y = invE x := ⟨_, rfl⟩
      rw [← hy]
      have HY := Lib.hid hy
      clear hy
      have hb3 : Below w2.heap.size w2 (w2.alloc (.cells (evC y) 41)) := (Below.refl _ _).alloc (Nat.le_refl _) _
      have hE3 : EvB (w2.alloc (.cells (evC y) 41)) w2.heap.size y := heap_alloc_new _ _
      have hO3 := hO2.below hb3
      have hB3 := keepB hb3 hB2
      have hbs := hB3.size
      have hR3 := rdV_one hE3
      clear hO2 hB2 hb2 hb3 hE3
      go_wp2_with (first
        | (refine wpList_buildSliceEv rfl (.tmp 18) rfl y rfl ?_)
        | (at_builtin; refine wpList_appV rfl (.tmp 13) (.tmp 19) rfl w.heap.size A4 m cc _ rfl hO3 _ _ 1 1 [y] rfl hR3 rfl hm hbs ?_; intro A5 c5 w5 ho5 hg5))
      have hO5 := Lib.hid (show VB w A5 (m + 1) c5 (invL (l.drop j)) w5 by rw [HL.out, ← HY.out]; exact ⟨ho5, hO3.grown hB3 hbs hg5⟩)
      clear ho5 hg5 hO3 hB3 hR3
      go_roundw
      case rel => exact ⟨j, m + 1, _, _, rfl, rfl, by have := hmk.out; omega, hO5⟩
      case measure => simp [intOf]
end Go.Proofs.Ytncmfkmgaghklaa
