/- Layer 17: the document's Card of an object, and whether it is a creature. -/
import Derived.Test.YtplfblccaeligaaDoorShCd
import Derived.Test.YtplfblccaeligaaDoorShMath
import Derived.Test.YtplfblccaeligaaDoorTblCard
import Derived.Test.YtplfblccaeligaaDoorCq
import Derived.Test.YtplfblccaeligaaDoorShG4
namespace Go.Proofs.YtplfblccaeligaaDoor
open Go.RowKit Ex Mx
set_option maxRecDepth 100000
set_option linter.unusedSimpArgs false in
set_option maxHeartbeats 0 in
theorem cardS_any (s : StT) (O : SlT) (L : Nat → SlT) (cs : Array Value) (id : Int) (w : World) (hR : ReadsS w.heap.size w cs s O L) (hid : InS s id) :
    Calls Tryd.prog 27 #[.agg cs, .int .i64 id] w (CdP (cdS s id) w) := by
  obtain ⟨k, o, rfl, hk, ho, hos⟩ := hid.ob
  have hcd : cdS s (k : Int) = tblX (o 0) := by unfold cdS; rw [hos]
  obtain ⟨b, off, hA, hb, hcell⟩ := obj_num hR.o ho
  have c0 : cs[0]? = some (.slice O.A O.n O.c) := by rw [hR.cs]; exact stC_objs _ _ _ _
  have hOn := hR.on
  obtain ⟨A, n, c⟩ := O
  simp only at c0 hOn hA
  subst hOn hA
  have hcs := hR.size
  rw [hcd]
  have h0 := hcell 0 (by omega)
  rw [Nat.add_zero] at h0
  clear hcd hos hcell hid hR
  go_enter Tryd.func27, Tryd.ntmps27
  go_upto_region 1 with fail
  have hba : Below w.heap.size w (w.alloc (.cells cs 29)) := (Below.refl _ _).alloc (Nat.le_refl _) _
  have hbb : Below (w.alloc (.cells cs 29)).heap.size (w.alloc (.cells cs 29)) ((w.alloc (.cells cs 29)).alloc (.cells zeroD 55)) := (Below.refl _ _).alloc (Nat.le_refl _) _
  have hs1 : StAt ((w.alloc (.cells cs 29)).alloc (.cells zeroD 55)) w.heap.size cs := (StAt.new w cs).keep hbb
  have hz1 : CdAt ((w.alloc (.cells cs 29)).alloc (.cells zeroD 55)) (w.heap.size + 1) zeroD := by
    have := CdAt.new (w.alloc (.cells cs 29)) zeroD
    simpa using this
  have hb1 := keepB hbb hba
  obtain ⟨w1, hw1⟩ : ∃ w1, w1 = (w.alloc (.cells cs 29)).alloc (.cells zeroD 55) := ⟨_, rfl⟩
  rw [← hw1] at hs1 hz1 hb1
  show Code.wp _ _ _ _ ((w.alloc (.cells cs 29)).alloc (.cells zeroD 55))
  rw [← hw1]
  obtain ⟨gs, hgs⟩ : ∃ g, g = w.heap.size := ⟨_, rfl⟩
  obtain ⟨gc, hgc⟩ : ∃ g, g = gs + 1 := ⟨_, rfl⟩
  rw [← hgs] at hs1 hz1
  rw [← hgc] at hz1
  rw [← hgs, ← hgc]
  have HG := Lib.hid (show w.heap.size ≤ gc ∧ gc < w1.heap.size from ⟨by omega, hz1.lt⟩)
  have k0 : w1.cell? ⟨gs, 0, none⟩ = some (.slice (some ⟨b, off, none⟩) s.objs.length c) := by rw [hs1.cell]; exact c0
  have k1 : w1.cell? ⟨b, off + k * 18, none⟩ = some (.int .i64 (o 0)) := (hb1.cell (show (⟨b, off + k * 18, none⟩ : Addr).block < w.heap.size from hb)).trans h0
  have p0 : (0 : Int) ≤ (k : Int) := by omega
  have p1 : (k : Int) < (s.objs.length : Int) := by omega
  have HZ := Lib.hid hz1
  have HB1 := Lib.hid hb1
  have hcr := cardRef_any (o 0) w1
  clear hw1 hgs hgc hba hbb hs1 hz1 hb1 h0 c0 hb ho
  go_wp2_with fail
  refine hcr.mono ?_
  rintro en w2 ⟨ys, rfl, hq2, hb2⟩
  have hnew : (w2.alloc (.cells zeroD 55)).heap[w2.heap.size]? = some (.cells zeroD 55 (0, 0)) := heap_alloc_new _ _
  have hsz : (Tryd.prog.info? 55).map (·.size) = some ys.size := by rw [cq_size hq2]; exact size13
  have hs0 : zeroD.size = ys.size := by rw [cq_size hq2]; rfl
  have hone := cq_one hq2
  clear hcr k0 k1
  go_upto_region 2 with (refine wpList_store_row rfl 55 (.tmp 5) (.tmp 15) rfl w2.heap.size _ rfl rfl 55 zeroD hnew hsz hs0 hone ?_)
  have hc5 : CdAt ((w2.alloc (.cells zeroD 55)).setRow w2.heap.size ys) w2.heap.size ys := setRow_heap _ _ _ _ _ _ hnew
  have hb5 : Below w2.heap.size w2 ((w2.alloc (.cells zeroD 55)).setRow w2.heap.size ys) := below_setRow ((Below.refl _ _).alloc (Nat.le_refl _) _) _ _ (Nat.le_refl _)
  obtain ⟨w3, hw3⟩ : ∃ w3, w3 = (w2.alloc (.cells zeroD 55)).setRow w2.heap.size ys := ⟨_, rfl⟩
  rw [← hw3] at hc5 hb5
  show Code.wp _ _ _ _ ((w2.alloc (.cells zeroD 55)).setRow w2.heap.size ys)
  rw [← hw3]
  obtain ⟨g5, hg5⟩ : ∃ g, g = w2.heap.size := ⟨_, rfl⟩
  rw [← hg5] at hc5
  rw [← hg5]
  have hz3 : CdAt w3 gc zeroD := (HZ.out.keep hb2).keep hb5
  have hb3 := keepB hb5 (keepB hb2 HB1.out)
  have HQ := Lib.hid (show ReadsCQ (fun b => w.heap.size ≤ b ∧ b < (w3.setRow gc ys).heap.size) (w3.setRow gc ys) 2 ys (tblX (o 0)) from
    hq2.keep (fun b hb => (setRow_other w3 gc b ys (by have := HG.out.2; omega)).trans (hb5.block b hb.2)) (fun b hb => ⟨Nat.le_trans HB1.out.size hb.1, by rw [setRow_size]; exact Nat.lt_of_lt_of_le hb.2 hb5.size⟩))
  have HB := Lib.hid (below_setRow hb3 gc ys HG.out.1)
  have hs3 : zeroD.size = ys.size := hs0
  clear hw3 hg5 hnew hb5 hb2 hb3 hq2 hs0
  go_wp2_with (first
    | (refine wpList_load_row rfl 55 (.tmp 5) rfl g5 rfl 55 _ (0, 0) _ hc5 Tryd.underlying55 rfl hsz ?_)
    | (refine wpList_store_row rfl 55 (.tmp 4) (.tmp 17) rfl gc _ rfl rfl 55 zeroD hz3 hsz hs3 hone ?_))
  refine bodyPost_ret (v := .agg ys) ?_ rfl ⟨ys, rfl, HQ.out, HB.out⟩
  exact results_cellS (ty := 55) (p := 4) (by kernel_rfl) _ _ gc 55 _ (0, 0) _ rfl (setRow_heap _ _ _ _ _ _ hz3) Tryd.underlying55 rfl hsz
set_option linter.unusedSimpArgs false in
set_option maxHeartbeats 0 in
theorem isRef_any (s : StT) (O : SlT) (L : Nat → SlT) (cs : Array Value) (id : Int) (w : World) (hR : ReadsS w.heap.size w cs s O L) (_hn : s.objs.length ≤ 1000000) :
    Calls Tryd.prog 10 #[.agg cs, .int .i64 id] w fun en w' => en = .returned (.bool (isB s id)) ∧ Below w.heap.size w w' := by
  have hcs := hR.size
  have c0 : cs[0]? = some (.slice O.A O.n O.c) := by rw [hR.cs]; exact stC_objs _ _ _ _
  have HR := Lib.hid hR
  have hOn := hR.on
  have hba : Below w.heap.size w (w.alloc (.cells cs 29)) := (Below.refl _ _).alloc (Nat.le_refl _) _
  have hs1 : StAt (w.alloc (.cells cs 29)) w.heap.size cs := StAt.new w cs
  have k0 : (w.alloc (.cells cs 29)).cell? ⟨w.heap.size, 0, none⟩ = some (.slice O.A O.n O.c) := by rw [hs1.cell]; exact c0
  have HB1 := Lib.hid hba
  rw [hOn] at k0
  clear hR c0 hOn hba
  by_cases h1 : id < 0
  · have hq : isB s id = false := by unfold isB; rw [decide_eq_false (fun h : InS s id => by have := h.1; omega)]; rfl
    have d0 : decide (0 ≤ id) = false := by simp; omega
    rw [hq]
    clear hs1 hq
    go_enter Tryd.func10, Tryd.ntmps10
    go_wp2_with fail
    go_ret
    exact ⟨rfl, HB1.out⟩
  have d0 : decide (0 ≤ id) = true := by simp; omega
  by_cases h2 : id < (s.objs.length : Int)
  case neg =>
    have hq : isB s id = false := by unfold isB; rw [decide_eq_false (fun h : InS s id => by have := h.2; omega)]; rfl
    have d1 : decide (id < (s.objs.length : Int)) = false := by simp; omega
    rw [hq]
    clear hs1 hq
    go_enter Tryd.func10, Tryd.ntmps10
    go_wp2_with fail
    go_ret
    exact ⟨rfl, HB1.out⟩
  have hin : InS s id := ⟨by omega, h2⟩
  obtain ⟨k, o, rfl, hk, ho, hos⟩ := hin.ob
  have d1 : decide ((k : Int) < (s.objs.length : Int)) = true := by simp; omega
  obtain ⟨b, off, hA, hb, hcell⟩ := obj_num HR.out.o ho
  have k1 : (w.alloc (.cells cs 29)).cell? ⟨b, off + k * 18 + 3, none⟩ = some (.int .i64 (o 3)) := (HB1.out.cell (show (⟨b, off + k * 18 + 3, none⟩ : Addr).block < w.heap.size from hb)).trans (hcell 3 (by omega))
  have hcd := cardS_any s O L cs (k : Int) (w.alloc (.cells cs 29)) (HR.out.grow HB1.out) hin
  have hq : isB s (k : Int) = ((o 3 == 8) && ((cdS s (k : Int)).kind == 1)) := by unfold isB; rw [decide_eq_true hin, hos]; simp
  rw [hq]
  rw [hA] at k0
  obtain ⟨x, hx⟩ : ∃ x, x = o 3 := ⟨_, rfl⟩
  rw [← hx] at k1 ⊢
  obtain ⟨y, hy⟩ : ∃ y, y = cdS s (k : Int) := ⟨_, rfl⟩
  rw [← hy] at hcd ⊢
  have p0 : (0 : Int) ≤ (k : Int) := by omega
  have p1 : (k : Int) < (s.objs.length : Int) := by omega
  clear hq hx hy hin hos ho hcell hb hA h1 h2
  by_cases h8 : x = 8
  case neg =>
    have d2 : (x == 8) = false := by simp [h8]
    clear hcd hs1
    go_enter Tryd.func10, Tryd.ntmps10
    go_wp2_with fail
    go_ret
    exact ⟨by simp [d2], HB1.out⟩
  subst h8
  go_enter Tryd.func10, Tryd.ntmps10
  go_wp2_with (refine load_wantS (by rfl) (.tmp 2) rfl w.heap.size rfl cs hs1 hcs ?_)
  refine hcd.mono ?_
  rintro en w2 ⟨ys, rfl, hq2, hb2⟩
  have hkd : ∀ W, (Instr.field 55 (.agg ys) 0).run Tryd.prog W = .ok (.int .i64 y.kind) W := by
    obtain ⟨_, _, _, _, _, _, A, cc, rfl, _⟩ := hq2
    exact fun W => card_kind y A _ cc W
  have hb3 := keepB hb2 HB1.out
  clear hcd hq2
  go_wp2_with fail
  go_ret
  exact ⟨by simp, hb3⟩
end Go.Proofs.YtplfblccaeligaaDoor
