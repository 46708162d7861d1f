/- Layer 17: the document's within, turned. Rows of a block's own, full or cut: what an append, or a cut, makes of them. Over any program. Layer 17: the document's statics, as they lie in a list of a call's own. Layer 17: the document's Statics. Layer 17: bounds of a shape, in a right state. Layer 17: the laws' argument in its box; bounds of a shape. A number of a list of the call's own is read, and written. -/
import Derived.Test.YtplfblccaeligaaDoorShRef1
import Derived.Test.YtplfblccaeligaaDoorShOfM
import Derived.Test.YtplfblccaeligaaDoorShG6
import Derived.Deep.Cut
import Derived.Test.YtplfblccaeligaaDoorBase0
import Derived.ArgAppend
import Derived.Maps.AppendAt
import Derived.Test.YtplfblccaeligaaDoorShG1
import Derived.Test.YtplfblccaeligaaDoorShG3
import Derived.Test.YtplfblccaeligaaDoorShSaid
import Derived.Test.YtplfblccaeligaaDoorShG4
import Derived.Test.YtplfblccaeligaaDoorSl
import Derived.Test.YtplfblccaeligaaDoorRows
namespace Go.Proofs.YtplfblccaeligaaDoor
open Go.RowKit Ex Mx Bx
set_option maxRecDepth 100000
/-- A static's cells. -/
def scC (x : Int × ET) (A : Option Addr) (k c : Nat) : Array Value := #[.int .i64 x.1, .int .i64 x.2.op, .int .i64 x.2.n, .int .i64 x.2.m, .int .i64 x.2.who, .slice A k c]
set_option linter.unusedSimpArgs false in
set_option maxHeartbeats 0 in
theorem withinRef_any (s : StT) (O : SlT) (L : Nat → SlT) (cs : Array Value) (x : Int × ET) (A : Option Addr) (k c : Nat) (id : Int) (w : World) (hR : ReadsS w.heap.size w cs s O L) (_hn : s.objs.length ≤ 1000000) (hid : InS s id) (hx : InS s x.1) :
    Calls Tryd.prog 28 #[.agg cs, .agg (scC x A k c), .int .i64 id] w fun en w' => en = .returned (.bool (grpB s x id)) ∧ Below w.heap.size w w' := by
  obtain ⟨xi, e⟩ := x
  simp only at hx
  obtain ⟨ki, oi, rfl, hki, hoi, hosi⟩ := hid.ob
  obtain ⟨kx, ox, rfl, hkx, hox, hosx⟩ := hx.ob
  obtain ⟨b, off, hA, hb, hci⟩ := obj_num hR.o hoi
  obtain ⟨b', off', hA', hb', hcx⟩ := obj_num hR.o hox
  rw [hA] at hA'
  obtain ⟨rfl, rfl⟩ : b = b' ∧ off = off' := by injection hA' with h; injection h with h1 h2 _; exact ⟨h1, h2⟩
  have c0 : cs[0]? = some (.slice O.A O.n O.c) := by rw [hR.cs]; exact stC_objs _ _ _ _
  rw [hR.on, hA] at c0
  have hba : Below w.heap.size w (w.alloc (.cells cs 29)) := (Below.refl _ _).alloc (Nat.le_refl _) _
  have hbb : Below (w.alloc (.cells cs 29)).heap.size (w.alloc (.cells cs 29)) ((w.alloc (.cells cs 29)).alloc (.cells (scC ((kx : Int), e) A k c) 67)) := (Below.refl _ _).alloc (Nat.le_refl _) _
  have hs1 : StAt ((w.alloc (.cells cs 29)).alloc (.cells (scC ((kx : Int), e) A k c) 67)) w.heap.size cs := (StAt.new w cs).keep hbb
  have hx1 : ((w.alloc (.cells cs 29)).alloc (.cells (scC ((kx : Int), e) A k c) 67)).heap[w.heap.size + 1]? = some (.cells (scC ((kx : Int), e) A k c) 67 (0, 0)) := by
    have := heap_alloc_new (w.alloc (.cells cs 29)) (.cells (scC ((kx : Int), e) A k c) 67)
    simpa using this
  have hb1 := keepB hbb hba
  have HEq := Lib.hid (show objS s (ki : Int) = oi ∧ objS s (kx : Int) = ox from ⟨hosi, hosx⟩)
  have HB0 := Lib.hid hb1
  obtain ⟨gs, hgs⟩ : ∃ g, g = w.heap.size := ⟨_, rfl⟩
  have hk0 : ∀ W, Below ((w.alloc (.cells cs 29)).alloc (.cells (scC ((kx : Int), e) A k c) 67)).heap.size ((w.alloc (.cells cs 29)).alloc (.cells (scC ((kx : Int), e) A k c) 67)) W →
      W.cell? ⟨gs, 0, none⟩ = some (.slice (some ⟨b, off, none⟩) s.objs.length O.c) ∧ W.cell? ⟨b, off + ki * 18 + 2, none⟩ = some (.int .i64 (oi 2)) ∧ W.cell? ⟨b, off + kx * 18 + 2, none⟩ = some (.int .i64 (ox 2)) ∧
      W.cell? ⟨gs + 1, 0, none⟩ = some (.int .i64 (kx : Int)) ∧ W.cell? ⟨gs + 1, 2, none⟩ = some (.int .i64 e.n) := fun W hW => by
    have hWb := keepB hW hb1
    have hX := (hW.block (w.heap.size + 1) (Array.getElem?_eq_some_iff.1 hx1).1).trans hx1
    refine ⟨by rw [hgs, (hs1.keep hW).cell]; exact c0, (hWb.cell (show (⟨b, off + ki * 18 + 2, none⟩ : Addr).block < w.heap.size from hb)).trans (hci 2 (by omega)), (hWb.cell (show (⟨b, off + kx * 18 + 2, none⟩ : Addr).block < w.heap.size from hb)).trans (hcx 2 (by omega)), ?_, ?_⟩
    · rw [hgs, cell_of_row W (w.heap.size + 1) 0 _ _ _ hX]; rfl
    · rw [hgs, cell_of_row W (w.heap.size + 1) 2 _ _ _ hX]; rfl
  have p0 : (0 : Int) ≤ (ki : Int) := by omega
  have p1 : (ki : Int) < (s.objs.length : Int) := by omega
  have p2 : (0 : Int) ≤ (kx : Int) := by omega
  have p3 : (kx : Int) < (s.objs.length : Int) := by omega
  clear hx1 hs1 hb1 hbb hba c0 hcx hci hosi hosx hoi hox hR hid hx hb hA hA'
  go_enter Tryd.func28, Tryd.ntmps28
  go_upto_region 1 with fail
  rw [← hgs]
  obtain ⟨w1, hw1⟩ : ∃ w1, w1 = (w.alloc (.cells cs 29)).alloc (.cells (scC ((kx : Int), e) A k c) 67) := ⟨_, rfl⟩
  rw [← hw1] at hk0 HB0
  show Code.wp _ _ _ _ ((w.alloc (.cells cs 29)).alloc (.cells (scC ((kx : Int), e) A k c) 67))
  rw [← hw1]
  clear hw1 hgs
  have k0 := fun W h => (hk0 W h).1
  have k1 := fun W h => (hk0 W h).2.1
  have k2 := fun W h => (hk0 W h).2.2.1
  have k3 := fun W h => (hk0 W h).2.2.2.1
  have hbd : Below w1.heap.size w1 w1.drew := (Below.refl _ _).drew
  have e2 := (hk0 w1.drew hbd).2.2.2.2
  have e3 := (hk0 w1.drew hbd).2.2.2.1
  have HB := Lib.hid (show Below w.heap.size w w1.drew from keepB hbd HB0.out)
  obtain ⟨sv, hsv⟩ : ∃ sv, sv = (oi 2 == ox 2) := ⟨_, rfl⟩
  obtain ⟨v1, hv1⟩ : ∃ v, v = oi 2 := ⟨_, rfl⟩
  obtain ⟨v2, hv2⟩ : ∃ v, v = ox 2 := ⟨_, rfl⟩
  have hev : (v1 == v2) = sv := by rw [hv1, hv2, hsv]
  have HSV := Lib.hid (show (objS s (ki : Int) 2 == objS s (kx : Int) 2) = sv from by rw [HEq.out.1, HEq.out.2, hsv])
  rw [← hv1] at k1
  rw [← hv2] at k2
  clear hk0 hsv hv1 hv2 HEq
  refine region_below (by kernel_rfl) (fun hHeld => ?_)
  refine wpAnyH_take (i := 0) (v := ?_) rfl (by kernel_rfl) (by kernel_rfl) (by kernel_rfl) (fun _ _ _ h => h) (Or.inl ⟨by rfl, ?_⟩) hHeld ?_
  rotate_left
  · (intro w hSw; go_simp; (try with_reducible rfl))
  simp only [Act.put, List.getElem_toArray, List.getElem_cons_zero, List.getElem_cons_succ, List.setIfInBounds_toArray, List.set_cons_zero, List.set_cons_succ]
  refine wpAnyH_take (i := 1) (v := ?_) rfl (by kernel_rfl) (by kernel_rfl) (by kernel_rfl) (fun _ _ _ h => h) (Or.inl ⟨by rfl, ?_⟩) hHeld ?_
  rotate_left
  · (intro w hSw; go_simp; (try with_reducible rfl))
  simp only [Act.put, List.getElem_toArray, List.getElem_cons_zero, List.getElem_cons_succ, List.setIfInBounds_toArray, List.set_cons_zero, List.set_cons_succ]
  refine wpAnyH_take (i := 2) (v := ?_) rfl (by kernel_rfl) (by kernel_rfl) (by kernel_rfl) (fun _ _ _ h => h) (Or.inl ⟨by rfl, ?_⟩) hHeld ?_
  rotate_left
  · (intro w hSw; go_simp; (try with_reducible rfl))
  simp only [Act.put, List.getElem_toArray, List.getElem_cons_zero, List.getElem_cons_succ, List.setIfInBounds_toArray, List.set_cons_zero, List.set_cons_succ]
  refine wpAnyH_take (i := 3) (v := ?_) rfl (by kernel_rfl) (by kernel_rfl) (by kernel_rfl) (fun _ _ _ h => h) (Or.inl ⟨by rfl, ?_⟩) hHeld ?_
  rotate_left
  · (intro w hSw; go_simp; (try with_reducible rfl))
  simp only [Act.put, List.getElem_toArray, List.getElem_cons_zero, List.getElem_cons_succ, List.setIfInBounds_toArray, List.set_cons_zero, List.set_cons_succ]
  refine wpAnyH_take (i := 4) (v := ?_) rfl (by kernel_rfl) (by kernel_rfl) (by kernel_rfl) (fun _ _ _ h => h) (Or.inl ⟨by rfl, ?_⟩) hHeld ?_
  rotate_left
  · (intro w hSw; go_simp; (try with_reducible rfl))
  simp only [Act.put, List.getElem_toArray, List.getElem_cons_zero, List.getElem_cons_succ, List.setIfInBounds_toArray, List.set_cons_zero, List.set_cons_succ]
  refine wpAnyH_take (i := 5) (v := ?_) rfl (by kernel_rfl) (by kernel_rfl) (by kernel_rfl) (fun _ _ _ h => h) (Or.inl ⟨by rfl, ?_⟩) hHeld ?_
  rotate_left
  · (intro w hSw; go_simp; (try with_reducible rfl))
  simp only [Act.put, List.getElem_toArray, List.getElem_cons_zero, List.getElem_cons_succ, List.setIfInBounds_toArray, List.set_cons_zero, List.set_cons_succ]
  refine wpAnyH_take (i := 6) (v := ?_) rfl (by kernel_rfl) (by kernel_rfl) (by kernel_rfl) (fun _ _ _ h => h) (Or.inl ⟨by rfl, ?_⟩) hHeld ?_
  rotate_left
  · (intro w hSw; go_simp; (try with_reducible rfl))
  simp only [Act.put, List.getElem_toArray, List.getElem_cons_zero, List.getElem_cons_succ, List.setIfInBounds_toArray, List.set_cons_zero, List.set_cons_succ]
  refine wpAnyH_take (i := 7) (v := ?_) rfl (by kernel_rfl) (by kernel_rfl) (by kernel_rfl) (fun _ _ _ h => h) (Or.inl ⟨by rfl, ?_⟩) hHeld ?_
  rotate_left
  · (intro w hSw; go_simp; (try with_reducible rfl))
  simp only [Act.put, List.getElem_toArray, List.getElem_cons_zero, List.getElem_cons_succ, List.setIfInBounds_toArray, List.set_cons_zero, List.set_cons_succ]
  refine wpAnyH_take (i := 8) (v := ?_) rfl (by kernel_rfl) (by kernel_rfl) (by kernel_rfl) (fun _ _ _ h => h) (Or.inl ⟨by rfl, ?_⟩) hHeld ?_
  rotate_left
  · (intro w hSw; go_simp; (try with_reducible rfl))
  simp only [Act.put, List.getElem_toArray, List.getElem_cons_zero, List.getElem_cons_succ, List.setIfInBounds_toArray, List.set_cons_zero, List.set_cons_succ]
  refine wpAnyH_take (i := 9) (v := ?_) rfl (by kernel_rfl) (by kernel_rfl) (by kernel_rfl) (fun _ _ _ h => h) (Or.inl ⟨by rfl, ?_⟩) hHeld ?_
  rotate_left
  · (intro w hSw; go_simp; (try with_reducible rfl))
  simp only [Act.put, List.getElem_toArray, List.getElem_cons_zero, List.getElem_cons_succ, List.setIfInBounds_toArray, List.set_cons_zero, List.set_cons_succ]
  refine wpAnyH_take (i := 10) (v := ?_) rfl (by kernel_rfl) (by kernel_rfl) (by kernel_rfl) (fun _ _ _ h => h) (Or.inl ⟨by rfl, ?_⟩) hHeld ?_
  rotate_left
  · (intro w hSw; go_simp; (try with_reducible rfl))
  simp only [Act.put, List.getElem_toArray, List.getElem_cons_zero, List.getElem_cons_succ, List.setIfInBounds_toArray, List.set_cons_zero, List.set_cons_succ]
  refine wpAnyH_take (i := 11) (v := ?_) rfl (by kernel_rfl) (by kernel_rfl) (by kernel_rfl) (fun _ _ _ h => h) (Or.inl ⟨by rfl, ?_⟩) hHeld ?_
  rotate_left
  · (intro w hSw; go_simp; (try with_reducible rfl))
  simp only [Act.put, List.getElem_toArray, List.getElem_cons_zero, List.getElem_cons_succ, List.setIfInBounds_toArray, List.set_cons_zero, List.set_cons_succ]
  refine wpAnyH_take (i := 12) (v := ?_) rfl (by kernel_rfl) (by kernel_rfl) (by kernel_rfl) (fun _ _ _ h => h) (Or.inl ⟨by rfl, ?_⟩) hHeld ?_
  rotate_left
  · (intro w hSw; go_simp; (try with_reducible rfl))
  simp only [Act.put, List.getElem_toArray, List.getElem_cons_zero, List.getElem_cons_succ, List.setIfInBounds_toArray, List.set_cons_zero, List.set_cons_succ]
  refine wpAnyH_take (i := 13) (v := ?_) rfl (by kernel_rfl) (by kernel_rfl) (by kernel_rfl) (fun _ _ _ h => h) (Or.inl ⟨by rfl, ?_⟩) hHeld ?_
  rotate_left
  · (intro w hSw; go_simp; (try with_reducible rfl))
  simp only [Act.put, List.getElem_toArray, List.getElem_cons_zero, List.getElem_cons_succ, List.setIfInBounds_toArray, List.set_cons_zero, List.set_cons_succ]
  refine wpAnyH_take (i := 14) (v := ?_) rfl (by kernel_rfl) (by kernel_rfl) (by kernel_rfl) (fun _ _ _ h => h) (Or.inl ⟨by rfl, ?_⟩) hHeld ?_
  rotate_left
  · (intro w hSw; go_simp; (try with_reducible rfl))
  simp only [Act.put, List.getElem_toArray, List.getElem_cons_zero, List.getElem_cons_succ, List.setIfInBounds_toArray, List.set_cons_zero, List.set_cons_succ]
  refine wpAnyH_done (by kernel_rfl) ?_ _
  clear k0 k1 k2 k3 hHeld hbd
  generalize w1.drew = w2 at *
  obtain ⟨n, hn1⟩ : ∃ n, n = e.n := ⟨_, rfl⟩
  have HN := Lib.hid hn1
  rw [← hn1] at e2
  clear hn1
  by_cases h0 : n = 0
  · subst h0
    go_wp2_with fail
    go_ret
    exact ⟨by unfold grpB; rw [← HN.out]; simp, HB.out⟩
  by_cases h1 : n = 1
  · subst h1
    cases sv
    all_goals
      go_wp2_with fail
      go_ret
      exact ⟨by unfold grpB; rw [HSV.out, ← HN.out]; simp, HB.out⟩
  by_cases h2 : n = 2
  · subst h2
    cases sv
    all_goals
      go_wp2_with fail
      go_ret
      exact ⟨by unfold grpB; rw [HSV.out, ← HN.out]; simp, HB.out⟩
  by_cases h3 : n = 3
  · subst h3
    by_cases hkk : kx = ki
    · have d0 : ((kx : Int) != (ki : Int)) = false := by simp [hkk]
      have HK := Lib.hid d0
      clear hkk
      cases sv
      all_goals
        go_wp2_with fail
        go_ret
        exact ⟨by unfold grpB; rw [HSV.out, ← HN.out, HK.out]; simp, HB.out⟩
    · have d0 : ((kx : Int) != (ki : Int)) = true := by simp; omega
      have HK := Lib.hid d0
      clear hkk
      cases sv
      all_goals
        go_wp2_with fail
        go_ret
        exact ⟨by unfold grpB; rw [HSV.out, ← HN.out, HK.out]; simp, HB.out⟩
  · have d0 : (n == 0) = false := by simp [h0]
    have d1 : (n == 1) = false := by simp [h1]
    have d2 : (n == 2) = false := by simp [h2]
    have d3 : (n == 3) = false := by simp [h3]
    have HD := Lib.hid (And.intro d0 (And.intro d1 (And.intro d2 d3)))
    clear h0 h1 h2 h3
    go_wp2_with fail
    go_ret
    exact ⟨by unfold grpB; rw [← HN.out, HD.out.1, HD.out.2.1, HD.out.2.2.1, HD.out.2.2.2]; simp, HB.out⟩
set_option maxHeartbeats 1000000 in
theorem turned_any (x : Nat) (hx : x < 2 ^ 64) (n : Int) (u : Nat) (hu : IntKind.u64.wrap n = (u : Int)) (hul : u < 2 ^ 64) (b : Bool) (w : World) :
    Calls Tryd.prog 29 #[.int .u64 x, .int .i64 n, .bool b] w fun en w' => en = .returned (.int .u64 (turnW x u b 8 : Nat)) ∧ Below w.heap.size w w' := by
  have HX := Lib.hid hx
  have hbi := bits_any u hul w
  clear hx
  go_enter Tryd.func29, Tryd.ntmps29
  go_wp2_with fail
  refine hbi.mono ?_
  rintro e w1 ⟨rfl, hb1⟩
  have hsz := info_rowf u.testBit
  have h1c := row_one u.testBit
  clear hbi hu hul
  go_upto_region 2 with (refine wpList_store_row rfl 87 (.tmp 7) (.tmp 11) rfl w1.heap.size _ rfl rfl 87 _ (heap_alloc_new _ _) hsz ?_ h1c ?_)
  · rw [row_size]; rfl
  generalize hW : World.setRow _ _ _ = W1
  have hb0 : W1.heap[w1.heap.size]? = some (.cells (row u.testBit) 87 (0, 0)) := by rw [← hW]; exact one_first _ _ _ _
  have hbel : Below w.heap.size w W1 := by rw [← hW]; exact hb1.trans ((one_below _ _ _ _).mono hb1.size)
  clear hW hsz h1c
  obtain ⟨g, hg⟩ : ∃ g, g = w1.heap.size := ⟨_, rfl⟩
  rw [← hg] at hb0
  rw [← hg]
  have HI := Lib.hid (And.intro hb0 hbel)
  clear hb0 hbel hg hb1
  go_upto_region 3 with fail
  go_loopw [0, 8] (fun v i wr => ∃ j : Nat, i = .int .i64 ((j : Nat) : Int) ∧ v = .int .u64 ((turnW x u b j : Nat) : Int) ∧ j ≤ 8 ∧ Hid (wr.heap[g]? = some (.cells (row u.testBit) 87 (0, 0)) ∧ Below w.heap.size w wr)) (fun _ i _ => 8 - (intOf i).toNat)
  case atStart => exact ⟨0, rfl, rfl, by omega, HI⟩
  case round =>
    clear HI
    obtain ⟨j, rfl, rfl, hj, HI⟩ := hrel
    by_cases hlt : j < 8
    · have d0 : decide ((j : Int) < 8) = true := by simp; omega
      have hc := cell_of_row _ _ j _ _ _ HI.out.1
      rw [row_get _ j (by omega)] at hc
      have p0 : (0 : Int) ≤ (j : Int) := by omega
      have p1 : (j : Int) < 64 := by omega
      obtain ⟨t, ht⟩ : ∃ t, t = u.testBit j := ⟨_, rfl⟩
      rw [← ht] at hc
      have HT := Lib.hid ht
      obtain ⟨y, hy⟩ : ∃ y, y = turnW x u b j := ⟨_, rfl⟩
      have hyl : y < 2 ^ 64 := by rw [hy]; exact turnW_lt x u b HX.out j
      have HY := Lib.hid hy
      rw [← hy]
      clear ht hy
      cases t with
      | false =>
        have HN := Lib.hid (show turnW x u b (j + 1) = y from by rw [HY.out]; simp only [turnW]; rw [if_neg (by rw [← HT.out]; simp)])
        clear hyl
        go_wp2_with fail
        go_roundw
        case rel => exact ⟨j + 1, by go_num, by rw [HN.out], by omega, HI⟩
        case measure => simp [intOf]; omega
      | true =>
        have hst := set_any y hyl (j : Int) b wr
        obtain ⟨z, hz⟩ : ∃ z, z = setB y (j : Int) b := ⟨_, rfl⟩
        rw [← hz] at hst
        have HN := Lib.hid (show turnW x u b (j + 1) = z from by rw [hz, HY.out]; simp only [turnW]; rw [if_pos HT.out.symm])
        clear hz hyl
        go_wp2_with fail
        refine hst.mono ?_
        rintro e w3 ⟨rfl, hb3⟩
        have HI3 := Lib.hid (show w3.heap[g]? = some (.cells (row u.testBit) 87 (0, 0)) ∧ Below w.heap.size w w3 from
          ⟨(hb3.block g (Array.getElem?_eq_some_iff.1 HI.out.1).1).trans HI.out.1, keepB hb3 HI.out.2⟩)
        clear hst hb3 hc HI
        go_wp2_with fail
        go_roundw
        case rel => exact ⟨j + 1, by go_num, by rw [HN.out], by omega, HI3⟩
        case measure => simp [intOf]; omega
    · obtain rfl : j = 8 := by omega
      have d0 : decide (((8 : Nat) : Int) < 8) = false := by simp
      have hfin := HI.out.2
      go_wp2_with fail
      go_ret
      exact ⟨rfl, hfin⟩
end Go.Proofs.YtplfblccaeligaaDoor
namespace Go.Proofs.YtplfblccaeligaaDoor
open Go.RowKit
/-- A slice at a block's beginning that reads as these cells: its block is as long as its room, or it has no room. -/
structure OwnX (e : TypeId) (size : Nat) (w : World) (A : Option Addr) (n c : Nat) (xs : List Value) : Prop where
  len : xs.length = n * size
  le : n ≤ c
  m : c ≤ maxLen
  o : (A = none ∧ c = 0) ∨ ∃ g cur, A = some ⟨g, 0, none⟩ ∧ w.heap[g]? = some (.cells cur e (0, 0)) ∧ c * size ≤ cur.size ∧ cur.toList.take (n * size) = xs ∧ (cur.size = c * size ∨ n = c)
section
variable {e : TypeId} {size : Nat} {w w' : World} {A : Option Addr} {n c : Nat} {xs : List Value}
theorem OwnX.of {base : Nat} (h : w.ownsRow base e size (.slice A n c) n xs) : OwnX e size w A n c xs := by
  rcases h.2 with ⟨hv, hn⟩ | ⟨g, cap, cur, hv, _, hg, hc, hm, hs, ht⟩
  · injection hv with h1 _ h3
    subst h1 h3 hn
    exact ⟨h.1, Nat.le_refl _, Nat.zero_le _, .inl ⟨rfl, rfl⟩⟩
  · injection hv with h1 _ h3
    subst h1 h3
    exact ⟨h.1, hc, hm, .inr ⟨g, cur, rfl, hg, by omega, ht, .inl hs⟩⟩
theorem OwnX.nil_ : OwnX e size w none 0 0 [] := ⟨by simp, Nat.le_refl _, Nat.zero_le _, .inl ⟨rfl, rfl⟩⟩
theorem OwnX.block (h : OwnX e size w A n c xs) {k : Nat} (hk : (Value.slice A n c).ownBlock = some k) : ∃ cur, w.heap[k]? = some (.cells cur e (0, 0)) := by
  rcases h.o with ⟨rfl, _⟩ | ⟨g, cur, rfl, hg, _⟩
  · simp [Value.ownBlock] at hk
  · simp [Value.ownBlock] at hk
    subst hk
    exact ⟨cur, hg⟩
theorem OwnX.lt (h : OwnX e size w A n c xs) {k : Nat} (hk : (Value.slice A n c).ownBlock = some k) : k < w.heap.size := by
  obtain ⟨cur, hg⟩ := h.block hk
  exact (Array.getElem?_eq_some_iff.1 hg).1
theorem OwnX.stay (h : OwnX e size w A n c xs) (hb : ∀ k, (Value.slice A n c).ownBlock = some k → w'.heap[k]? = w.heap[k]?) : OwnX e size w' A n c xs := by
  refine ⟨h.len, h.le, h.m, ?_⟩
  rcases h.o with h1 | ⟨g, cur, rfl, hg, rest⟩
  · exact .inl h1
  · exact .inr ⟨g, cur, rfl, (hb g rfl).trans hg, rest⟩
theorem OwnX.at0 (h : OwnX e size w A n c xs) : A = none ∨ ∃ g, A = some ⟨g, 0, none⟩ := by
  rcases h.o with ⟨rfl, _⟩ | ⟨g, cur, rfl, _⟩
  · exact .inl rfl
  · exact .inr ⟨g, rfl⟩
theorem OwnX.cells (h : OwnX e size w A n c xs) {g : Nat} (hA : A = some ⟨g, 0, none⟩) : ∀ (j : Nat) (u : Value), xs[j]? = some u → w.cell? ⟨g, j, none⟩ = some u := by
  intro j u hu
  rcases h.o with ⟨rfl, _⟩ | ⟨g', cur, rfl, hg, hs, ht, _⟩
  · cases hA
  · injection hA with hA
    injection hA with hA
    subst hA
    rw [cell_of_row w g' j cur e (0, 0) hg]
    rw [← ht, List.getElem?_take] at hu
    split at hu
    · simpa using hu
    · cases hu
theorem OwnX.cut (h : OwnX e size w A n c xs) {m : Nat} (hm : m ≤ n) : OwnX e size w A m m (xs.take (m * size)) := by
  have hmn : m * size ≤ n * size := Nat.mul_le_mul_right _ hm
  have hnc : n * size ≤ c * size := Nat.mul_le_mul_right _ h.le
  have hl := h.len
  have h1 := h.le
  have h2 := h.m
  refine ⟨by rw [List.length_take, hl]; omega, Nat.le_refl _, by omega, ?_⟩
  rcases h.o with ⟨rfl, h0⟩ | ⟨g, cur, rfl, hg, hs, ht, _⟩
  · exact .inl ⟨rfl, by omega⟩
  · refine .inr ⟨g, cur, rfl, hg, by omega, ?_, .inr rfl⟩
    rw [← ht, List.take_take, Nat.min_eq_left hmn]
/-- Whose block is as long as its room. -/
theorem OwnX.row (h : OwnX e size w A n c xs) : (∀ g cur, A = some ⟨g, 0, none⟩ → w.heap[g]? = some (.cells cur e (0, 0)) → cur.size = c * size) → w.ownsRow 0 e size (.slice A n c) n xs := fun hf => by
  refine ⟨h.len, ?_⟩
  have hle := h.le
  rcases h.o with ⟨rfl, h0⟩ | ⟨g, cur, rfl, hg, hs, ht, _⟩
  · subst h0
    obtain rfl : n = 0 := by omega
    exact .inl ⟨rfl, rfl⟩
  · exact .inr ⟨g, c, cur, rfl, Nat.zero_le _, hg, hle, h.m, hf g cur rfl hg, ht⟩
end
theorem grownBy_of_none {w w' : World} (h : w.grownBy w' none) (row : Option Nat) : w.grownBy w' row := ⟨h.os, h.tape, h.output, h.size, fun k hk _ => h.block k hk (by simp)⟩
theorem own_formX {w : World} {base : Nat} {e : TypeId} {size n : Nat} {v : Value} {xs : List Value} (h : w.ownsRow base e size v n xs) : ∃ A c, v = .slice A n c := by
  rcases h.2 with ⟨rfl, hz⟩ | ⟨g', cap, _, rfl, _⟩
  · exact ⟨none, 0, by rw [hz]⟩
  · exact ⟨_, _, rfl⟩
section
variable {P : Program} {w : World}
/-- What an append answers. -/
def AppX (P : Program) (w : World) (t ty e : TypeId) (size : Nat) (A : Option Addr) (n c m : Nat) (x : Value) (zs : List Value) : Prop :=
  ∃ A' c' w', (Builtin.append_ #[t, t] ty #[.slice A n c, x]).run P w = .ok (.slice A' (n + m) c') w' ∧ OwnX e size w' A' (n + m) c' zs ∧ w.grownBy w' (Value.slice A n c).ownBlock ∧
    (∀ k, (Value.slice A' (n + m) c').ownBlock = some k → (Value.slice A n c).ownBlock = some k ∨ w.heap.size ≤ k)
theorem run_appX_none (t ty e : TypeId) (i : TypeInfo) (size : Nat) (ht : P.underlying t = some (.slice e)) (hi : P.info? e = some i) {A : Option Addr} {n c : Nat} {xs : List Value} (h : OwnX e size w A n c xs) (c2 : Nat) :
    AppX P w t ty e size A n c 0 (.slice none 0 c2) xs := by
  have hle := h.le
  refine ⟨A, c, w, ?_, h, World.grownBy.refl w _, fun k hk => .inl hk⟩
  rcases h.at0 with rfl | ⟨g, rfl⟩ <;>
  simp [Builtin.append_, run_underlying ht, sizeOf, typeInfo, hi, Builtin.lenOf, Builtin.firstCells, storeCells, hle]
theorem run_appX (t ty e : TypeId) (i : TypeInfo) (z : Value) (size bytes : Nat) (ht : P.underlying t = some (.slice e)) (hi : P.info? e = some i) (hz : i.zero = some z)
    (hsize : i.size = size) (hby : i.bytes = bytes) (hzs : z.cells.size = size) (hsz : 0 < size) {A : Option Addr} {n c : Nat} {xs : List Value} (h : OwnX e size w A n c xs)
    (a : Addr) (m c2 : Nat) (news : List Value) (hl : news.length = m * size) (hnews : ∀ j u, news[j]? = some u → w.cell? (a.add j) = some u) (h1 : ∀ u ∈ news, u.oneCell' = true)
    (h63 : n + m ≤ maxLen) (hbytes : (n + m) * bytes ≤ 140737488355328) : AppX P w t ty e size A n c m (.slice (some a) m c2) (xs ++ news) := by
  have hfull : w.ownsRow 0 e size (.slice A n c) n xs → AppX P w t ty e size A n c m (.slice (some a) m c2) (xs ++ news) := fun ho => by
    obtain ⟨v', w', hrun, hown, hgr, _, hat⟩ := run_append_own_at (P := P) w 0 t ty e i z size bytes ht hi hz hsize hby hzs hsz _ n xs ho a m c2 news hl hnews h1 h63 hbytes (Nat.zero_le _)
    obtain ⟨A', c', rfl⟩ := own_formX hown
    refine ⟨A', c', w', hrun, OwnX.of hown, hgr, fun k hk => ?_⟩
    rcases hat with hat | hat
    · rw [hat] at hk; exact .inl hk
    · rw [hat] at hk; injection hk with hk; exact .inr (by omega)
  rcases h.o with ⟨rfl, h0⟩ | ⟨g, cur, rfl, hg, hs, hta, hsz2 | hnc⟩
  · exact hfull (h.row fun g cur hA => by cases hA)
  · refine hfull (h.row fun g' cur' hA hg' => ?_)
    injection hA with hA
    injection hA with hA
    subst hA
    rw [hg] at hg'
    injection hg' with hg'
    injection hg' with hg'
    rw [← hg']; exact hsz2
  · subst hnc
    by_cases hm : m = 0
    · subst hm
      obtain rfl : news = [] := List.length_eq_zero_iff.1 (by rw [hl, Nat.zero_mul])
      have hr := run_append_room_cells (P := P) w t ty e i ht hi g 0 n n a 0 c2 [] (by simp) (fun j u hu => by simp at hu) (by simp) (by omega) (by simp) (by simp)
      refine ⟨some ⟨g, 0, none⟩, n, w, hr, by rw [List.append_nil]; exact h, World.grownBy.refl w _, fun k hk => .inl hk⟩
    · obtain ⟨v', w', hrun, hown, hgr⟩ := run_append_arg_grows (P := P) w t ty e i z size bytes ht hi hz hsize hby hzs hsz ⟨g, 0, none⟩ n n xs h.len
        (fun j u hu => by
          have := h.cells rfl j u hu
          have e1 : (⟨g, 0, none⟩ : Addr).add j = ⟨g, j, none⟩ := by unfold Addr.add; split <;> simp_all
          rw [e1]; exact this) a m c2 news hl hnews (by omega) h63 hbytes
      obtain ⟨A', c', rfl⟩ := own_formX hown
      exact ⟨A', c', w', hrun, OwnX.of hown, grownBy_of_none hgr _, fun k hk => .inr (hown.lt k hk).1⟩
end
/-- 'l[:m:m]' of such a slice. -/
theorem run_cutX {P : Program} (t : TypeId) {A : Option Addr} (hA : A = none ∨ ∃ g, A = some ⟨g, 0, none⟩) (n c m : Nat) (hm : m ≤ c) (ht : P.underlying t = some (.slice (P.elem t))) (s : Nat) (hs : ∀ W, (sizeOf (P.elem t)).run P W = .ok s W) (W : World) :
    (Instr.slice t (.slice A n c) none (some (.int .i64 (m : Int))) (some (.int .i64 (m : Int)))).run P W = .ok (.slice A m m) W := by
  rw [run_slice_hm W t A n c ht .i64 .i64 (m : Int) (m : Int) (by omega) (by omega) (by omega), hs]
  simp only [Result.andThen_ok, sliced, Int.toNat_natCast]
  rcases hA with rfl | ⟨g, rfl⟩
  · simp
  · have e1 : (⟨g, 0, none⟩ : Addr).add 0 = ⟨g, 0, none⟩ := by unfold Addr.add; split <;> simp_all
    simp [e1]
section
variable {P : Program} {w : World} {ops : Array Oper} {rest : List Oper} {o : Oper} {a : Act} {Q : Exit → Act → World → Prop}
/-- An append whose run is known. -/
theorem wpList_appX (hgd : o.guard = none) (s x : Operand) (t e : TypeId) (size : Nat) (A : Option Addr) (n c m : Nat) (xv : Value) (zs : List Value)
    (h : AppX P w t o.type e size A n c m xv zs) (ho : o.op = .call { callee := .builtin .append, args := #[s, x], argTypes := #[t, t] })
    (hs : a.eval s = .slice A n c) (hx : a.eval x = xv)
    (hK : ∀ A' c' w', OwnX e size w' A' (n + m) c' zs → w.grownBy w' (Value.slice A n c).ownBlock → (∀ k, (Value.slice A' (n + m) c').ownBlock = some k → (Value.slice A n c).ownBlock = some k ∨ w.heap.size ≤ k) → wpList P ops Q rest (a.put o.dst (.slice A' (n + m) c')) w') :
    wpList P ops Q (o :: rest) a w := by
  obtain ⟨A', c', w', hrun, h1, h2, h3⟩ := h
  refine wpList_plain hgd fun K hK' => ?_
  unfold Oper.wp execOp
  simp only [ho, resolve, invoke, builtin, Sem.run_bind, Sem.run_pure, Result.andThen_ok, List.map_toArray, List.map_cons, List.map_nil, hs, hx, hrun]
  exact hK' _ _ (hK A' c' w' h1 h2 h3)
theorem wp_appX {K : Act → World → Prop} (s x : Operand) (t e : TypeId) (size : Nat) (A : Option Addr) (n c m : Nat) (xv : Value) (zs : List Value)
    (h : AppX P w t o.type e size A n c m xv zs) (ho : o.op = .call { callee := .builtin .append, args := #[s, x], argTypes := #[t, t] })
    (hs : a.eval s = .slice A n c) (hx : a.eval x = xv)
    (hK : ∀ A' c' w', OwnX e size w' A' (n + m) c' zs → w.grownBy w' (Value.slice A n c).ownBlock → (∀ k, (Value.slice A' (n + m) c').ownBlock = some k → (Value.slice A n c).ownBlock = some k ∨ w.heap.size ≤ k) → K (a.put o.dst (.slice A' (n + m) c')) w') :
    o.wp P a w K Q := by
  obtain ⟨A', c', w', hrun, h1, h2, h3⟩ := h
  unfold Oper.wp execOp
  simp only [ho, resolve, invoke, builtin, Sem.run_bind, Sem.run_pure, Result.andThen_ok, List.map_toArray, List.map_cons, List.map_nil, hs, hx, hrun]
  exact hK A' c' w' h1 h2 h3
end
end Go.Proofs.YtplfblccaeligaaDoor
namespace Go.Proofs.YtplfblccaeligaaDoor
open Go.RowKit Ex Mx
set_option maxRecDepth 100000
/-- A static's cells, one after another. -/
def scL (id : Int) (ys : Array Value) : List Value := .int .i64 id :: ys.toList
/-- Cells that read as statics, what is within them in blocks of Q. -/
def ScQ (Q : Nat → Prop) (w : World) (xs : List Value) (l : List (Int × ET)) : Prop :=
  ∀ i x, l[i]? = some x → ∃ ys, ReadsQ Q w 2 ys x.2 ∧ ∀ j v, (scL x.1 ys)[j]? = some v → xs[i * 6 + j]? = some v
def SCB (w : World) (A : Option Addr) (n c : Nat) (W : World) (b : Nat) : Prop := w.heap.size ≤ b ∧ b < W.heap.size ∧ (Value.slice A n c).ownBlock ≠ some b
/-- Statics in the making. -/
structure ShI (T : TypeId) (w : World) (A : Option Addr) (n c : Nat) (l : List (Int × ET)) (W : World) : Prop where
  ex : ∃ xs, OwnX T 6 W A n c xs ∧ ScQ (SCB w A n c W) W xs l
  fresh : ∀ k, (Value.slice A n c).ownBlock = some k → w.heap.size ≤ k
  n_ : n = l.length
  b : Below w.heap.size w W
theorem scL_len (id : Int) {Q : Nat → Prop} {w : World} {d : Nat} {ys : Array Value} {e : ET} (h : ReadsQ Q w d ys e) : (scL id ys).length = 6 := by
  have : ys.size = 5 := h.size
  simp [scL, this]
section
variable {T : TypeId} {w W W2 W' : World} {A A' : Option Addr} {n c c' : Nat} {l : List (Int × ET)}
theorem ScQ.keep {Q Q' : Nat → Prop} {xs : List Value} (hb : ∀ b, Q b → W'.heap[b]? = W.heap[b]?) (hq : ∀ b, Q b → Q' b) (h : ScQ Q W xs l) : ScQ Q' W' xs l := fun i x hi => by
  obtain ⟨ys, hr, hc⟩ := h i x hi
  exact ⟨ys, hr.keep hb hq, hc⟩
theorem ShI.keep (h : ShI T w A n c l W) (hb : Below W.heap.size W W') : ShI T w A n c l W' := by
  obtain ⟨xs, ho, hs⟩ := h.ex
  refine ⟨⟨xs, ho.stay fun k hk => hb.block k (ho.lt hk), hs.keep (fun b hq => hb.block b hq.2.1) fun b hq => ⟨hq.1, Nat.lt_of_lt_of_le hq.2.1 hb.size, hq.2.2⟩⟩, h.fresh, h.n_, keepB hb h.b⟩
/-- One more. -/
theorem ShI.step (h : ShI T w A n c l W) {xs : List Value} (ho : OwnX T 6 W A n c xs) (hs : ScQ (SCB w A n c W) W xs l) (hb : Below W.heap.size W W2) {id : Int} {ys : Array Value} {e : ET} {Q2 : Nat → Prop}
    (hr : ReadsQ Q2 W 2 ys e) (hq : ∀ b, Q2 b → SCB w A n c W b) (ho' : OwnX T 6 W' A' (n + 1) c' (xs ++ scL id ys)) (hg : W2.grownBy W' (Value.slice A n c).ownBlock)
    (hk : ∀ k, (Value.slice A' (n + 1) c').ownBlock = some k → (Value.slice A n c).ownBlock = some k ∨ W2.heap.size ≤ k) : ShI T w A' (n + 1) c' (l ++ [(id, e)]) W' := by
  have h2 := keepB hb h.b
  have h3 : Below w.heap.size w W' := h2.grown hg h2.size h.fresh
  have hin : ∀ b, SCB w A n c W b → SCB w A' (n + 1) c' W' b := fun b q => ⟨q.1, Nat.lt_of_lt_of_le q.2.1 (Nat.le_trans hb.size hg.size), fun e => by
    rcases hk b e with e1 | e1
    · exact q.2.2 e1
    · have := q.2.1; have := hb.size; omega⟩
  have hbl : ∀ b, SCB w A n c W b → W'.heap[b]? = W.heap[b]? := fun b q => (hg.block b (Nat.lt_of_lt_of_le q.2.1 hb.size) (Ne.symm q.2.2)).trans (hb.block b q.2.1)
  refine ⟨⟨_, ho', fun i x hi => ?_⟩, fun k e1 => ?_, by rw [List.length_append, ← h.n_]; rfl, h3⟩
  · rw [List.getElem?_append] at hi
    split at hi
    · rename_i hlt
      obtain ⟨zs, hz, hc⟩ := hs i x hi
      refine ⟨zs, hz.keep hbl hin, fun j v hv => ?_⟩
      have hv2 := hc j v hv
      rw [List.getElem?_append_left (List.getElem?_eq_some_iff.1 hv2).1]
      exact hv2
    · rename_i hge
      have hi0 : i - l.length = 0 := by
        have := (List.getElem?_eq_some_iff.1 hi).1
        simp at this; omega
      rw [hi0] at hi
      injection hi with hi
      subst hi
      have hil : i = n := by rw [h.n_]; omega
      refine ⟨ys, hr.keep (fun b q => hbl b (hq b q)) (fun b q => hin b (hq b q)), fun j v hv => ?_⟩
      rw [List.getElem?_append_right (by rw [ho.len, hil]; omega), ho.len, hil, show n * 6 + j - n * 6 = j by omega]
      exact hv
  · rcases hk k e1 with e2 | e2
    · exact h.fresh k e2
    · exact Nat.le_trans h2.size e2
end
end Go.Proofs.YtplfblccaeligaaDoor
namespace Go.Proofs.YtplfblccaeligaaDoor
open Go.RowKit Ex Mx
set_option maxRecDepth 100000
namespace Ex
theorem tbl_nine : ∀ n < 120, (tblC n).abs.length ≤ 9 := by decide +kernel
end Ex
theorem cdS_nine (s : StT) (id : Int) : (cdS s id).abs.length ≤ 9 := by
  unfold cdS tblX
  split
  · exact tbl_nine _ (by omega)
  · simp
theorem statO_len (id : Int) : ∀ l : List AbT, (statO id l).length ≤ l.length
  | [] => by simp [statO]
  | x :: l => by
    have := statO_len id l
    simp only [statO, List.length_append, List.length_cons]
    split <;> simp <;> omega
theorem statL_len (s : StT) : ∀ l : List Int, (statL s l).length ≤ 9 * l.length
  | [] => by simp [statL]
  | x :: l => by
    have h1 := statL_len s l
    have h2 := statO_len x (cdS s x).abs
    have h3 := cdS_nine s x
    simp only [statL, List.length_append, List.length_cons]
    omega
theorem statO_take (id : Int) {l : List AbT} {j : Nat} {a : AbT} (h : l[j]? = some a) : statO id (l.take (j + 1)) = statO id (l.take j) ++ (if a.when_ = 5 then [(id, a.do_)] else []) := by
  rw [List.take_add_one, h]
  simp only [Option.toList_some, statO_app, statO, List.append_nil]
theorem info_sc : (Tryd.prog.info? 67).map (fun i => (i.zero, i.size, i.bytes)) = some (some (.agg (scC (0, .node 0 0 0 0 []) none 0 0)), 6, 64) := by kernel_rfl
theorem ShI.base {T : TypeId} {w w1 W : World} {A : Option Addr} {n c : Nat} {l : List (Int × ET)} (h : ShI T w1 A n c l W) (hb : Below w.heap.size w w1) : ShI T w A n c l W := by
  obtain ⟨xs, ho, hs⟩ := h.ex
  exact ⟨⟨xs, ho, hs.keep (fun _ _ => rfl) fun b q => ⟨Nat.le_trans hb.size q.1, q.2.1, q.2.2⟩⟩, fun k hk => Nat.le_trans hb.size (h.fresh k hk), h.n_, keepB h.b hb⟩
theorem ShI.new (T : TypeId) (w : World) : ShI T w (some ⟨w.heap.size, 0, none⟩) 0 0 [] (w.alloc (.cells #[] T)) := by
  refine ⟨⟨[], ⟨by simp, Nat.le_refl _, Nat.zero_le _, .inr ⟨w.heap.size, #[], rfl, heap_alloc_new _ _, by simp, by simp, .inl (by simp)⟩⟩, fun i x hi => by simp at hi⟩, fun k hk => ?_, rfl, (Below.refl _ _).alloc (Nat.le_refl _) _⟩
  simp [Value.ownBlock] at hk
  omega
/-- Statics in the making, while a card's abilities are read. -/
structure IR (T : TypeId) (w : World) (c0 c1 : Nat) (Ac : Option Addr) (abs : List AbT) (A : Option Addr) (n c : Nat) (l : List (Int × ET)) (W : World) : Prop where
  si : ShI T w A n c l W
  rd : RdAQ (fun b => c0 ≤ b ∧ b < c1) W 2 Ac abs
  ap : ∀ b, (Value.slice A n c).ownBlock = some b → b < c0 ∨ c1 ≤ b
  lo : w.heap.size ≤ c0
  hi : c1 ≤ W.heap.size
section
variable {T : TypeId} {w W W2 W' : World} {A A' Ac : Option Addr} {n c c' c0 c1 : Nat} {l : List (Int × ET)} {abs : List AbT}
theorem IR.keep (h : IR T w c0 c1 Ac abs A n c l W) (hb : Below W.heap.size W W') : IR T w c0 c1 Ac abs A n c l W' :=
  ⟨h.si.keep hb, h.rd.keep (fun b q => hb.block b (Nat.lt_of_lt_of_le q.2 h.hi)) (fun _ q => q), h.ap, h.lo, Nat.le_trans h.hi hb.size⟩
theorem IR.step (h : IR T w c0 c1 Ac abs A n c l W) {xs : List Value} (ho : OwnX T 6 W A n c xs) (hs : ScQ (SCB w A n c W) W xs l) (hb : Below W.heap.size W W2) {id : Int} {ys : Array Value} {e : ET}
    (hr : ReadsQ (fun b => c0 ≤ b ∧ b < c1) W 2 ys e) (ho' : OwnX T 6 W' A' (n + 1) c' (xs ++ scL id ys)) (hg : W2.grownBy W' (Value.slice A n c).ownBlock)
    (hk : ∀ k, (Value.slice A' (n + 1) c').ownBlock = some k → (Value.slice A n c).ownBlock = some k ∨ W2.heap.size ≤ k) : IR T w c0 c1 Ac abs A' (n + 1) c' (l ++ [(id, e)]) W' := by
  have hne : ∀ b, c0 ≤ b ∧ b < c1 → (Value.slice A n c).ownBlock ≠ some b := fun b q e => by
    rcases h.ap b e with e1 | e1 <;> omega
  have h1 := hb.size
  have h2 := h.hi
  refine ⟨h.si.step ho hs hb hr (fun b q => ⟨Nat.le_trans h.lo q.1, Nat.lt_of_lt_of_le q.2 h2, hne b q⟩) ho' hg hk, h.rd.keep (fun b q => ?_) (fun _ q => q), fun b e => ?_, h.lo, Nat.le_trans h2 (Nat.le_trans h1 hg.size)⟩
  · exact (hg.block b (by omega) (Ne.symm (hne b q))).trans (hb.block b (by omega))
  · rcases hk b e with e1 | e1
    · exact h.ap b e1
    · exact .inr (by omega)
/-- The static at a place: its cells, and what it does. -/
theorem ShI.at_ (h : ShI T w A n c l W) {j : Nat} {x : Int × ET} (hj : l[j]? = some x) : ∃ g ys, A = some ⟨g, 0, none⟩ ∧ g < W.heap.size ∧ W.rangeAt g (j * 6) (scL x.1 ys) ∧ ReadsQ (fun b => b < W.heap.size) W 2 ys x.2 := by
  obtain ⟨xs, ho, hs⟩ := h.ex
  obtain ⟨ys, hr, hc⟩ := hs j x hj
  have hne : A ≠ none := fun e => by
    have h1 := (List.getElem?_eq_some_iff.1 (hc 0 _ rfl)).1
    rcases ho.o with ⟨_, h0⟩ | ⟨g, cur, hA, _⟩
    · have := ho.len; have := ho.le; omega
    · rw [e] at hA; cases hA
  rcases ho.at0 with e | ⟨g, rfl⟩
  · exact absurd e hne
  · exact ⟨g, ys, rfl, ho.lt rfl, fun i v hv => ho.cells rfl _ _ (hc i v hv), hr.keep (fun _ _ => rfl) fun b q => q.2.1⟩
end
/-- append of a static. -/
theorem appSc {w w0 : World} (ty : TypeId) {A : Option Addr} {n c : Nat} {xs : List Value} (h : OwnX 67 6 w A n c xs) {g : Nat} {id : Int} {ys : Array Value} {Q : Nat → Prop} {e : ET} (hr : ReadsQ Q w0 2 ys e)
    (hg : w.heap[g]? = some (.cells (scL id ys).toArray 67 (0, 0))) (hn : n ≤ 100000000) :
    AppX Tryd.prog w 49 ty 67 6 A n c 1 (.slice (some ⟨g, 0, none⟩) 1 1) (xs ++ scL id ys) := by
  obtain ⟨i0, hi, hz0, hz1, hz2⟩ := info_parts info_sc
  exact run_appX 49 ty 67 i0 _ 6 64 Tryd.underlying49 hi hz0 hz1 hz2 rfl (by omega) h ⟨g, 0, none⟩ 1 1 (scL id ys) (by rw [scL_len id hr])
    (fun j u hj => by
      have e1 : (⟨g, 0, none⟩ : Addr).add j = ⟨g, j, none⟩ := by unfold Addr.add; split <;> simp_all
      rw [e1, cell_of_row w g j _ _ _ hg]
      simpa using hj) (fun u hu => by
      unfold scL at hu
      rcases List.mem_cons.1 hu with rfl | hu
      · rfl
      · exact hr.one u hu) (by unfold maxLen; omega) (by omega)
end Go.Proofs.YtplfblccaeligaaDoor
namespace Go.Proofs.YtplfblccaeligaaDoor
open Go.RowKit Ex Mx
set_option maxRecDepth 100000
/-- A creature's numbers, in a right state. -/
theorem right_objS {s : StT} (h : chkS s = 0) {id : Int} (hi : InS s id) : 0 ≤ objS s id 6 ∧ objS s id 6 ≤ 1073741824 ∧ 0 ≤ objS s id 7 ∧ objS s id 7 ≤ 1073741824 ∧ -1073741824 ≤ objS s id 8 ∧ objS s id 8 ≤ 1073741824 ∧ -1073741824 ≤ objS s id 9 ∧ objS s id 9 ≤ 1073741824 ∧ 0 ≤ objS s id 10 ∧ objS s id 10 ≤ 255 := by
  obtain ⟨k, o, rfl, hk, ho, hos⟩ := hi.ob
  rw [hos]
  exact right_nums h ho
theorem ofS_bd {s : StT} {id : Int} (h : chkS s = 0) (hi : InS s id) (hl : (s.lists 8).length ≤ 1000000) : -6000000000 ≤ (ofS s id).1 ∧ (ofS s id).1 ≤ 6000000000 ∧ -6000000000 ≤ (ofS s id).2.1 ∧ (ofS s id).2.1 ≤ 6000000000 ∧ (ofS s id).2.2 < 256 := by
  obtain ⟨_, _, h7, h7', h8, h8', h9, h9', h10, h10'⟩ := right_objS h hi
  have hk : ∀ x ∈ statS s, SubOk x.2 := fun x hx => (stat_ok hx).2
  have hb := bec_bd s id (statS s) ((cdS s id).power, (cdS s id).tough) hk (cdS_pt s id)
  have hlen := statL_len s (s.lists 8)
  unfold ofS
  generalize (statS s).foldl (becS s id) ((cdS s id).power, (cdS s id).tough) = q at *
  have hp := pum_bd s id 1073742079 (statS s) (q.1 + objS s id 7, q.2 + objS s id 7) hk (by dsimp only; omega)
  have hn : (statS s).length ≤ 9000000 := by unfold statS; omega
  generalize (statS s).foldl (pumS s id) (q.1 + objS s id 7, q.2 + objS s id 7) = r at *
  have hw : (statS s).foldl (wordS s id) (cdS s id).says.toNat < 256 := word_256 s id _ _ (by have := cdS_says s id; omega)
  refine ⟨?_, ?_, ?_, ?_, turnW_256 hw (Nat.le_refl _)⟩ <;> dsimp only <;> omega
theorem isB_in' {s : StT} {id : Int} (h : isB s id = true) : InS s id := by
  unfold isB at h
  simp only [Bool.and_eq_true, decide_eq_true_eq] at h
  exact h.1.1
end Go.Proofs.YtplfblccaeligaaDoor
namespace Go.Proofs.YtplfblccaeligaaDoor
open Go.RowKit Ex Mx
set_option maxRecDepth 100000
structure SW (w : World) (gs : Nat) (cs : Array Value) (W : World) : Prop where
  b : Below w.heap.size w W
  a : StAt W gs cs
section
variable {w W W' : World} {gs : Nat} {cs : Array Value}
theorem SW.keep (h : SW w gs cs W) (hb : Below W.heap.size W W') : SW w gs cs W' := ⟨keepB hb h.b, h.a.keep hb⟩
theorem SW.reads {s : StT} {O : SlT} {L : Nat → SlT} (h : SW w gs cs W) (hr : ReadsS w.heap.size w cs s O L) : ReadsS W.heap.size W cs s O L := hr.grow h.b
end
abbrev zero3 : Array Value := #[.int .i64 0, .int .i64 0, .int .i64 0]
end Go.Proofs.YtplfblccaeligaaDoor
namespace Go.Proofs.YtplfblccaeligaaDoor
open Go.RowKit
theorem Own.setI {k : IntKind} {e : TypeId} {w : World} {base n c : Nat} {A : Option Addr} {l : List Int} (h : Own k e w base A n c l) {i : Nat} (hi : i < l.length) :
    ∃ g, A = some ⟨g, 0, none⟩ ∧ w.cell? ⟨g, i, none⟩ = some (.int k l[i]) ∧ w.frozen? ⟨g, i, none⟩ = false ∧ base ≤ g ∧ g < w.heap.size ∧ (∃ cur, w.heap[g]? = some (.cells cur e (0, 0))) ∧
      ∀ v : Int, Own k e (w.setCell ⟨g, i, none⟩ (.int k v)) base A n c (l.set i v) := by
  have hl := h.1
  rcases h.2.2 with ⟨hv, hn⟩ | ⟨g, cap, cur, hv, hb, hg, hc, hm, hs, ht⟩
  · omega
  · injection hv with h1 _ h3
    subst h1 h3
    rw [Nat.mul_one] at hs ht
    have hx : cur.toList[i]? = some (.int k l[i]) := by
      have : (cur.toList.take n)[i]? = some (.int k l[i]) := by rw [ht, List.getElem?_map, List.getElem?_eq_getElem hi]; rfl
      rw [List.getElem?_take_of_lt (by omega)] at this
      exact this
    refine ⟨g, rfl, ?_, frozen_of_row w g i cur _ hg, hb, (Array.getElem?_eq_some_iff.1 hg).1, ⟨cur, hg⟩, fun v => ⟨by rw [List.length_set]; exact hl, by rw [List.length_map, List.length_set]; omega, .inr ⟨g, c, cur.setIfInBounds i (.int k v), rfl, hb, heap_setCell_same w g i _ _ _ hg, hc, hm, by rw [Array.size_setIfInBounds]; omega, ?_⟩⟩⟩
    · rw [cell_of_row w g i cur _ _ hg, ← Array.getElem?_toList]; exact hx
    · rw [Nat.mul_one, Array.toList_setIfInBounds, List.take_set, ht, List.map_set]
/-- A list of numbers in the making. -/
structure IW (w : World) (A : Option Addr) (m c : Nat) (l : List Int) (W : World) : Prop where
  own : Own .i64 3 W w.heap.size A m c l
  b : Below w.heap.size w W
theorem IW.keep {w W W' : World} {A : Option Addr} {m c : Nat} {l : List Int} (h : IW w A m c l W) (hb : Below W.heap.size W W') : IW w A m c l W' := ⟨h.own.below hb (Nat.le_refl _), keepB hb h.b⟩
theorem IW.len {w W : World} {A : Option Addr} {m c : Nat} {l : List Int} (h : IW w A m c l W) : l.length = m := h.own.1
theorem IW.set_ {w W : World} {A : Option Addr} {m c : Nat} {l : List Int} (h : IW w A m c l W) {i : Nat} (hi : i < l.length) :
    ∃ g, A = some ⟨g, 0, none⟩ ∧ W.cell? ⟨g, i, none⟩ = some (.int .i64 l[i]) ∧ W.frozen? ⟨g, i, none⟩ = false ∧ g < W.heap.size ∧ ∀ v : Int, IW w A m c (l.set i v) (W.setCell ⟨g, i, none⟩ (.int .i64 v)) := by
  obtain ⟨g, hA, h1, h2, h3, h4, _, h5⟩ := h.own.setI hi
  exact ⟨g, hA, h1, h2, h4, fun v => ⟨h5 v, h.b.setCell h3 _⟩⟩
theorem info_intS : (Tryd.prog.info? 3).map (fun i => (i.zero, i.size, i.bytes)) = some (some (.int .i64 0), 1, 8) := by kernel_rfl
end Go.Proofs.YtplfblccaeligaaDoor
