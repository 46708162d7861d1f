/- Layer 17: the code's cardOf and beast. Layer 17: the code's beast. Layer 7: the contract of card's Uses. Layer 17: what the code does with statics, as plain data: one list of effects. Layer 17: effects in a list of a call's own; the code's abiding. Layer 17: the code's statics. Layer 17: the code's reaches and upon. Layer 17: the code's upon. -/
import Derived.Test.YtplfblccaeligaaDoorShCd
import Derived.Test.YtplfblccaeligaaDoorShG11
import Derived.Test.YtplfblccaeligaaDoorShG1
import Derived.Test.YtplfblccaeligaaDoorTreeBase
import Derived.Test.YtplfblccaeligaaDoorShOfM
import Derived.Test.YtplfblccaeligaaDoorShG3
import Derived.Test.YtplfblccaeligaaDoorShG7
namespace Go.Proofs.YtplfblccaeligaaDoor
open Go.RowKit Ex Mx
set_option maxRecDepth 100000
theorem n64_in {x : Int} (h : N64 x) : In64 x := by unfold N64 at h; unfold In64; omega
set_option linter.unusedSimpArgs false in
set_option maxHeartbeats 0 in
theorem cardOf_any (o : Nat → Int) (w : World) (h0 : N64 (o 0)) : Calls Tryd.prog 48 #[.agg (arr .i64 18 o)] w (CdP (tblX (o 0)) w) := by
  have hcr := fun W => card_code2 (o 0) W (n64_in h0)
  obtain ⟨y, hy⟩ : ∃ y, y = tblX (o 0) := ⟨_, rfl⟩
  obtain ⟨q, hq⟩ : ∃ q, q = errV (if isN (o 0) = true then 0 else 4) := ⟨_, rfl⟩
  rw [← hy, ← hq] at hcr
  rw [← hy]
  clear hy hq
  go_enter Tryd.func48, Tryd.ntmps48
  go_upto_region 1 with fail
  obtain ⟨x, hx⟩ : ∃ x, x = o 0 := ⟨_, rfl⟩
  have hba : Below w.heap.size w (w.alloc (.cells (arr .i64 18 o) 37)) := (Below.refl _ _).alloc (Nat.le_refl _) _
  have hbb : Below (w.alloc (.cells (arr .i64 18 o) 37)).heap.size (w.alloc (.cells (arr .i64 18 o) 37)) ((w.alloc (.cells (arr .i64 18 o) 37)).alloc (.cells zeroD 55)) := (Below.refl _ _).alloc (Nat.le_refl _) _
  have k0 : ((w.alloc (.cells (arr .i64 18 o) 37)).alloc (.cells zeroD 55)).cell? ⟨w.heap.size, 0, none⟩ = some (.int .i64 x) := by
    have h1 := heap_alloc_new w (.cells (arr .i64 18 o) 37)
    have h2 := (hbb.block w.heap.size (Array.getElem?_eq_some_iff.1 h1).1).trans h1
    rw [cell_of_row _ _ _ _ _ _ h2, hx]
    exact arr_get .i64 18 o (by omega)
  have hz1 : CdAt ((w.alloc (.cells (arr .i64 18 o) 37)).alloc (.cells zeroD 55)) (w.heap.size + 1) zeroD := by
    have := CdAt.new (w.alloc (.cells (arr .i64 18 o) 37)) zeroD
    simpa using this
  have hb1 := keepB hbb hba
  rw [← hx] at hcr
  obtain ⟨w1, hw1⟩ : ∃ w1, w1 = (w.alloc (.cells (arr .i64 18 o) 37)).alloc (.cells zeroD 55) := ⟨_, rfl⟩
  rw [← hw1] at k0 hz1 hb1
  show Code.wp _ _ _ _ ((w.alloc (.cells (arr .i64 18 o) 37)).alloc (.cells zeroD 55))
  rw [← hw1]
  obtain ⟨gs, hgs⟩ : ∃ g, g = w.heap.size := ⟨_, rfl⟩
  obtain ⟨gc, hgc⟩ : ∃ g, g = gs + 1 := ⟨_, rfl⟩
  rw [← hgs] at k0 hz1
  rw [← hgc] at hz1
  rw [← hgs, ← hgc]
  have HG := Lib.hid (show w.heap.size ≤ gc ∧ gc < w1.heap.size from ⟨by omega, hz1.lt⟩)
  have HZ := Lib.hid hz1
  have HB1 := Lib.hid hb1
  have hcd := hcr w1
  clear hw1 hgs hgc hba hbb hz1 hb1 hx hcr h0
  go_wp2_with fail
  refine hcd.mono ?_
  rintro en w2 ⟨ys, rfl, hq2, hb2⟩
  have hnew : (w2.alloc (.cells zeroD 55)).heap[w2.heap.size]? = some (.cells zeroD 55 (0, 0)) := heap_alloc_new _ _
  have hsz : (Tryd.prog.info? 55).map (·.size) = some ys.size := by rw [cq_size hq2]; exact size13
  have hs0 : zeroD.size = ys.size := by rw [cq_size hq2]; rfl
  have hone := cq_one hq2
  clear hcd k0
  go_upto_region 2 with (refine wpList_store_row rfl 55 (.tmp 3) (.tmp 9) rfl w2.heap.size _ rfl rfl 55 zeroD hnew hsz hs0 hone ?_)
  have hc5 : CdAt ((w2.alloc (.cells zeroD 55)).setRow w2.heap.size ys) w2.heap.size ys := setRow_heap _ _ _ _ _ _ hnew
  have hb5 : Below w2.heap.size w2 ((w2.alloc (.cells zeroD 55)).setRow w2.heap.size ys) := below_setRow ((Below.refl _ _).alloc (Nat.le_refl _) _) _ _ (Nat.le_refl _)
  obtain ⟨w3, hw3⟩ : ∃ w3, w3 = (w2.alloc (.cells zeroD 55)).setRow w2.heap.size ys := ⟨_, rfl⟩
  rw [← hw3] at hc5 hb5
  show Code.wp _ _ _ _ ((w2.alloc (.cells zeroD 55)).setRow w2.heap.size ys)
  rw [← hw3]
  obtain ⟨g5, hg5⟩ : ∃ g, g = w2.heap.size := ⟨_, rfl⟩
  rw [← hg5] at hc5
  rw [← hg5]
  have hz3 : CdAt w3 gc zeroD := (HZ.out.keep hb2).keep hb5
  have hb3 := keepB hb5 (keepB hb2 HB1.out)
  have HQ := Lib.hid (show ReadsCQ (fun b => w.heap.size ≤ b ∧ b < (w3.setRow gc ys).heap.size) (w3.setRow gc ys) 2 ys y from
    hq2.keep (fun b hb => (setRow_other w3 gc b ys (by have := HG.out.2; omega)).trans (hb5.block b hb.2)) (fun b hb => ⟨Nat.le_trans HB1.out.size hb.1, by rw [setRow_size]; exact Nat.lt_of_lt_of_le hb.2 hb5.size⟩))
  have HB := Lib.hid (below_setRow hb3 gc ys HG.out.1)
  have hs3 : zeroD.size = ys.size := hs0
  clear hw3 hg5 hnew hb5 hb2 hb3 hq2 hs0
  go_wp2_with (first
    | (refine wpList_load_row rfl 55 (.tmp 3) rfl g5 rfl 55 _ (0, 0) _ hc5 Tryd.underlying55 rfl hsz ?_)
    | (refine wpList_store_row rfl 55 (.tmp 2) (.tmp 11) rfl gc _ rfl rfl 55 zeroD hz3 hsz hs3 hone ?_))
  refine bodyPost_ret (v := .agg ys) ?_ rfl ⟨ys, rfl, HQ.out, HB.out⟩
  exact results_cellS (ty := 55) (p := 2) (by kernel_rfl) _ _ gc 55 _ (0, 0) _ rfl (setRow_heap _ _ _ _ _ _ hz3) Tryd.underlying55 rfl hsz
end Go.Proofs.YtplfblccaeligaaDoor
namespace Go.Proofs.YtplfblccaeligaaDoor
open Go.RowKit Ex Mx
set_option maxRecDepth 100000
/-- A card that is answered, and whether it is a creature's. -/
def BsP (s : StT) (id : Int) (w : World) (en : Ending) (w' : World) : Prop :=
  ∃ ys c, en = .returned (.tuple #[.agg ys, .bool (isB s id)]) ∧ ReadsCQ (fun b => w.heap.size ≤ b ∧ b < w'.heap.size) w' 2 ys c ∧ (isB s id = true → c = cdS s id) ∧ Below w.heap.size w w'
/-- A card's box, loaded in an open region. -/
theorem yields_cd {ops : Array Oper} {S : World → Prop} {op : Oper} {a : Act} (hw : Region.wanted op (yielded ops a.tmps) = true) (x : Operand) (ho : op.op = .load 55 x)
    (g : Nat) (hx : a.eval x = .pointer (some ⟨g, 0, none⟩)) (ys : Array Value) (hs : ys.size = 13) (hS : ∀ w, S w → CdAt w g ys) : YieldsIf Tryd.prog ops S op (.agg ys) a := by
  have h := yieldsIf_load_mid (P := Tryd.prog) (S := S) hw 55 x ho g 0 hx ys.toList _ (fun w hSw j v hv => by
    rw [Nat.zero_add, (hS w hSw).cell, ← Array.getElem?_toList]; exact hv) Tryd.underlying55 rfl (by rw [Array.length_toList, hs]; exact size13)
  rw [Array.toArray_toList] at h
  exact h
/-- What stands while the card and its kind are taken. -/
def HeldD (w : World) (g : Nat) (ys : Array Value) (W : World) : Prop := CdAt W g ys ∧ Below w.heap.size w W
set_option linter.unusedSimpArgs false in
set_option maxHeartbeats 0 in
theorem shBeast_any (s : StT) (O : SlT) (L : Nat → SlT) (cs : Array Value) (id : Int) (w : World) (hR : ReadsS w.heap.size w cs s O L) :
    Calls Tryd.prog 31 #[.agg cs, .int .i64 id] w (BsP s id w) := by
  have hcs := hR.size
  have c0 : cs[0]? = some (.slice O.A O.n O.c) := by rw [hR.cs]; exact stC_objs _ _ _ _
  have HR := Lib.hid hR
  have hOn := hR.on
  have hba : Below w.heap.size w (w.alloc (.cells cs 29)) := (Below.refl _ _).alloc (Nat.le_refl _) _
  have hbb : Below (w.alloc (.cells cs 29)).heap.size (w.alloc (.cells cs 29)) ((w.alloc (.cells cs 29)).alloc (.cells zeroD 55)) := (Below.refl _ _).alloc (Nat.le_refl _) _
  have hs1 : StAt ((w.alloc (.cells cs 29)).alloc (.cells zeroD 55)) w.heap.size cs := (StAt.new w cs).keep hbb
  have hz1 : CdAt ((w.alloc (.cells cs 29)).alloc (.cells zeroD 55)) (w.heap.size + 1) zeroD := by
    have := CdAt.new (w.alloc (.cells cs 29)) zeroD
    simpa using this
  have hb1 := keepB hbb hba
  rw [hOn] at c0
  clear hR hOn hba hbb
  by_cases h1 : id < 0
  · have HQ := Lib.hid (show isB s id = false by unfold isB; rw [decide_eq_false (fun h : InS s id => by have := h.1; omega)]; rfl)
    have d0 : decide (id < 0) = true := by simp; omega
    clear h1
    go_enter Tryd.func31, Tryd.ntmps31
    go_upto_region 1 with fail
    obtain ⟨w1, hw1⟩ : ∃ w1, w1 = (w.alloc (.cells cs 29)).alloc (.cells zeroD 55) := ⟨_, rfl⟩
    rw [← hw1] at hs1 hz1 hb1
    show Code.wp _ _ _ _ ((w.alloc (.cells cs 29)).alloc (.cells zeroD 55))
    rw [← hw1]
    obtain ⟨gs, hgs⟩ : ∃ g, g = w.heap.size := ⟨_, rfl⟩
    obtain ⟨gc, hgc⟩ : ∃ g, g = gs + 1 := ⟨_, rfl⟩
    rw [← hgs] at hs1 hz1
    rw [← hgc] at hz1
    rw [← hgs, ← hgc]
    have HG := Lib.hid (show w.heap.size ≤ gc ∧ gc < w1.heap.size from ⟨by omega, hz1.lt⟩)
    have k0 : w1.cell? ⟨gs, 0, none⟩ = some (.slice O.A s.objs.length O.c) := by rw [hs1.cell]; exact c0
    have HZ := Lib.hid hz1
    have HB1 := Lib.hid hb1
    clear hw1 hgs hgc hs1 c0 hb1
    have h1 : zeroD.all (·.oneCell') = true := cq_one (zeroD_reads (fun _ => True) w1)
    go_wp2_with (refine wpList_store_row rfl 55 (.tmp 4) (.tmp 25) rfl gc zeroD rfl rfl 55 zeroD hz1 size13 rfl h1 ?_)
    refine bodyPost_ret (v := .tuple #[.agg zeroD, .bool false]) ?_ rfl ⟨zeroD, zeroT, by rw [HQ.out], zeroD_reads _ _, (fun h => by rw [HQ.out] at h; cases h), below_setRow HB1.out _ _ HG.out.1⟩
    exact results_cell_tmp (ty := 55) (p := 4) (q := 5) (by kernel_rfl) _ _ gc 55 _ (0, 0) _ rfl (setRow_heap _ _ _ _ _ _ HZ.out) Tryd.underlying55 rfl size13
  have d0 : decide (id < 0) = false := by simp; omega
  by_cases h2 : id < (s.objs.length : Int)
  case neg =>
    have HQ := Lib.hid (show isB s id = false by unfold isB; rw [decide_eq_false (fun h : InS s id => by have := h.2; omega)]; rfl)
    have d1 : decide ((s.objs.length : Int) ≤ id) = true := by simp; omega
    clear h1 h2
    go_enter Tryd.func31, Tryd.ntmps31
    go_upto_region 1 with fail
    obtain ⟨w1, hw1⟩ : ∃ w1, w1 = (w.alloc (.cells cs 29)).alloc (.cells zeroD 55) := ⟨_, rfl⟩
    rw [← hw1] at hs1 hz1 hb1
    show Code.wp _ _ _ _ ((w.alloc (.cells cs 29)).alloc (.cells zeroD 55))
    rw [← hw1]
    obtain ⟨gs, hgs⟩ : ∃ g, g = w.heap.size := ⟨_, rfl⟩
    obtain ⟨gc, hgc⟩ : ∃ g, g = gs + 1 := ⟨_, rfl⟩
    rw [← hgs] at hs1 hz1
    rw [← hgc] at hz1
    rw [← hgs, ← hgc]
    have HG := Lib.hid (show w.heap.size ≤ gc ∧ gc < w1.heap.size from ⟨by omega, hz1.lt⟩)
    have k0 : w1.cell? ⟨gs, 0, none⟩ = some (.slice O.A s.objs.length O.c) := by rw [hs1.cell]; exact c0
    have HZ := Lib.hid hz1
    have HB1 := Lib.hid hb1
    clear hw1 hgs hgc hs1 c0 hb1
    have h1 : zeroD.all (·.oneCell') = true := cq_one (zeroD_reads (fun _ => True) w1)
    go_wp2_with (refine wpList_store_row rfl 55 (.tmp 4) (.tmp 25) rfl gc zeroD rfl rfl 55 zeroD hz1 size13 rfl h1 ?_)
    refine bodyPost_ret (v := .tuple #[.agg zeroD, .bool false]) ?_ rfl ⟨zeroD, zeroT, by rw [HQ.out], zeroD_reads _ _, (fun h => by rw [HQ.out] at h; cases h), below_setRow HB1.out _ _ HG.out.1⟩
    exact results_cell_tmp (ty := 55) (p := 4) (q := 5) (by kernel_rfl) _ _ gc 55 _ (0, 0) _ rfl (setRow_heap _ _ _ _ _ _ HZ.out) Tryd.underlying55 rfl size13
  have hin : InS s id := ⟨by omega, h2⟩
  obtain ⟨k, o, rfl, hk, ho, hos⟩ := hin.ob
  have d1 : decide ((s.objs.length : Int) ≤ (k : Int)) = false := by simp; omega
  have hn0 : N64 (o 0) := HR.out.ow o (List.mem_of_getElem? ho) 0 (by omega)
  obtain ⟨b, off, hA, hb, hrg⟩ := HR.out.o k o ho
  have hrg1 := range_below hb1 hb hrg
  have k1 : ((w.alloc (.cells cs 29)).alloc (.cells zeroD 55)).cell? ⟨b, off + k * 18 + 3, none⟩ = some (.int .i64 (o 3)) := hrg1 3 _ (by rw [Array.getElem?_toList]; exact arr_get .i64 18 o (by omega))
  have hq : isB s (k : Int) = ((o 3 == 8) && ((cdS s (k : Int)).kind == 1)) := by unfold isB; rw [decide_eq_true hin, hos]; simp
  have HQ0 := Lib.hid (And.intro hq (show cdS s (k : Int) = tblX (o 0) by unfold cdS; rw [hos]))
  rw [hA] at c0
  have p0 : (0 : Int) ≤ (k : Int) := by omega
  have p1 : (k : Int) < (s.objs.length : Int) := by omega
  obtain ⟨x, hx⟩ : ∃ x, x = o 3 := ⟨_, rfl⟩
  rw [← hx] at k1
  have HX := Lib.hid hx
  clear hq hin hos ho hb hrg h1 h2 hx
  by_cases h8 : x = 8
  case neg =>
    have d2 : (x != 8) = true := by simp [h8]
    have HQ := Lib.hid (show isB s (k : Int) = false by rw [HQ0.out.1, ← HX.out]; simp [h8])
    clear h8 hrg1
    go_enter Tryd.func31, Tryd.ntmps31
    go_upto_region 1 with fail
    obtain ⟨w1, hw1⟩ : ∃ w1, w1 = (w.alloc (.cells cs 29)).alloc (.cells zeroD 55) := ⟨_, rfl⟩
    rw [← hw1] at hs1 hz1 hb1 k1
    show Code.wp _ _ _ _ ((w.alloc (.cells cs 29)).alloc (.cells zeroD 55))
    rw [← hw1]
    obtain ⟨gs, hgs⟩ : ∃ g, g = w.heap.size := ⟨_, rfl⟩
    obtain ⟨gc, hgc⟩ : ∃ g, g = gs + 1 := ⟨_, rfl⟩
    rw [← hgs] at hs1 hz1
    rw [← hgc] at hz1
    rw [← hgs, ← hgc]
    have HG := Lib.hid (show w.heap.size ≤ gc ∧ gc < w1.heap.size from ⟨by omega, hz1.lt⟩)
    have k0 : w1.cell? ⟨gs, 0, none⟩ = some (.slice (some ⟨b, off, none⟩) s.objs.length O.c) := by rw [hs1.cell]; exact c0
    have HZ := Lib.hid hz1
    have HB1 := Lib.hid hb1
    clear hw1 hgs hgc hs1 c0 hb1
    have h1 : zeroD.all (·.oneCell') = true := cq_one (zeroD_reads (fun _ => True) w1)
    go_wp2_with (refine wpList_store_row rfl 55 (.tmp 4) (.tmp 25) rfl gc zeroD rfl rfl 55 zeroD hz1 size13 rfl h1 ?_)
    refine bodyPost_ret (v := .tuple #[.agg zeroD, .bool false]) ?_ rfl ⟨zeroD, zeroT, by rw [HQ.out], zeroD_reads _ _, (fun h => by rw [HQ.out] at h; cases h), below_setRow HB1.out _ _ HG.out.1⟩
    exact results_cell_tmp (ty := 55) (p := 4) (q := 5) (by kernel_rfl) _ _ gc 55 _ (0, 0) _ rfl (setRow_heap _ _ _ _ _ _ HZ.out) Tryd.underlying55 rfl size13
  subst h8
  have hcd := fun W => cardOf_any o W hn0
  obtain ⟨y, hy⟩ : ∃ y, y = tblX (o 0) := ⟨_, rfl⟩
  rw [← hy] at hcd
  have HY := Lib.hid (show isB s (k : Int) = (y.kind == 1) ∧ cdS s (k : Int) = y by rw [HQ0.out.1, HQ0.out.2, ← HX.out, ← hy]; simp)
  clear hy HQ0 HX hn0
  go_enter Tryd.func31, Tryd.ntmps31
  go_upto_region 1 with fail
  obtain ⟨w1, hw1⟩ : ∃ w1, w1 = (w.alloc (.cells cs 29)).alloc (.cells zeroD 55) := ⟨_, rfl⟩
  rw [← hw1] at hs1 hz1 hb1 k1 hrg1
  show Code.wp _ _ _ _ ((w.alloc (.cells cs 29)).alloc (.cells zeroD 55))
  rw [← hw1]
  obtain ⟨gs, hgs⟩ : ∃ g, g = w.heap.size := ⟨_, rfl⟩
  obtain ⟨gc, hgc⟩ : ∃ g, g = gs + 1 := ⟨_, rfl⟩
  rw [← hgs] at hs1 hz1
  rw [← hgc] at hz1
  rw [← hgs, ← hgc]
  have HG := Lib.hid (show w.heap.size ≤ gc ∧ gc < w1.heap.size from ⟨by omega, hz1.lt⟩)
  have k0 : w1.cell? ⟨gs, 0, none⟩ = some (.slice (some ⟨b, off, none⟩) s.objs.length O.c) := by rw [hs1.cell]; exact c0
  have HZ := Lib.hid hz1
  have HB1 := Lib.hid hb1
  have hcd1 := hcd w1
  clear hw1 hgs hgc hs1 c0 hb1 hz1 hA hcd
  go_wp2_with (refine load_obj rfl (.tmp 29) rfl b (off + k * 18) rfl o hrg1 ?_)
  refine hcd1.mono ?_
  rintro en w2 ⟨ys, rfl, hq2, hb2⟩
  have hnew : (w2.alloc (.cells zeroD 55)).heap[w2.heap.size]? = some (.cells zeroD 55 (0, 0)) := heap_alloc_new _ _
  have hsz : (Tryd.prog.info? 55).map (·.size) = some ys.size := by rw [cq_size hq2]; exact size13
  have hs0 : zeroD.size = ys.size := by rw [cq_size hq2]; rfl
  have hone := cq_one hq2
  have hys13 := cq_size hq2
  clear hcd1 k0 k1 hrg1
  go_upto_region 4 with (refine wpList_store_row rfl 55 (.tmp 6) (.tmp 31) rfl w2.heap.size _ rfl rfl 55 zeroD hnew hsz hs0 hone ?_)
  have hc5 : CdAt ((w2.alloc (.cells zeroD 55)).setRow w2.heap.size ys) w2.heap.size ys := setRow_heap _ _ _ _ _ _ hnew
  have hb5 : Below w2.heap.size w2 ((w2.alloc (.cells zeroD 55)).setRow w2.heap.size ys) := below_setRow ((Below.refl _ _).alloc (Nat.le_refl _) _) _ _ (Nat.le_refl _)
  obtain ⟨w3, hw3⟩ : ∃ w3, w3 = (w2.alloc (.cells zeroD 55)).setRow w2.heap.size ys := ⟨_, rfl⟩
  rw [← hw3] at hc5 hb5
  show Code.wp _ _ _ _ ((w2.alloc (.cells zeroD 55)).setRow w2.heap.size ys)
  rw [← hw3]
  obtain ⟨g5, hg5⟩ : ∃ g, g = w2.heap.size := ⟨_, rfl⟩
  have HG5 := Lib.hid (show gc < g5 by rw [hg5]; exact Nat.lt_of_lt_of_le HG.out.2 hb2.size)
  rw [← hg5] at hc5
  rw [← hg5]
  have hz3 : CdAt w3 gc zeroD := (HZ.out.keep hb2).keep hb5
  have hb3 := keepB hb5 (keepB hb2 HB1.out)
  have HQ := Lib.hid (show ReadsCQ (fun b => w.heap.size ≤ b ∧ b < w3.heap.size ∧ b ≠ gc) w3 2 ys y from
    hq2.keep (fun b hb => hb5.block b hb.2) (fun b hb => ⟨Nat.le_trans HB1.out.size hb.1, Nat.lt_of_lt_of_le hb.2 hb5.size, by have := HG.out.2; omega⟩))
  have HB := Lib.hid hb3
  have hs3 : zeroD.size = ys.size := hs0
  have hkd : ys[0]? = some (.int .i64 y.kind) := by
    obtain ⟨_, _, _, _, _, _, A, cc, rfl, _⟩ := hq2
    exact cd_kind
  clear hw3 hg5 hnew hb5 hb2 hb3 hq2 hs0
  refine wp_region_held_drew (S := HeldD w g5 ys) (by kernel_rfl) ⟨hc5.keep (Below.refl _ _).drew, HB.out.drew⟩ (fun hHeld => ?_)
  refine wpAnyH_take (i := 0) (v := .agg ys) rfl (by kernel_rfl) (by kernel_rfl) (by kernel_rfl) (fun _ _ _ h => h) (yields_cd (by rfl) (.tmp 6) rfl g5 rfl ys hys13 (fun W hW => hW.1)) hHeld ?_
  simp only [Act.put, List.getElem_toArray, List.getElem_cons_zero, List.getElem_cons_succ, List.setIfInBounds_toArray, List.set_cons_zero, List.set_cons_succ]
  have hkc : ∀ W, HeldD w g5 ys W → W.cell? ⟨g5, 0, none⟩ = some (.int .i64 y.kind) := fun W hW => by rw [hW.1.cell]; exact hkd
  refine wpAnyH_take (i := 1) (v := ?_) rfl (by kernel_rfl) (by kernel_rfl) (by kernel_rfl) (fun _ _ _ h => h) (Or.inl ⟨by rfl, ?_⟩) hHeld ?_
  rotate_left
  · (intro w hSw; go_simp; (try with_reducible rfl))
  simp only [Act.put, List.getElem_toArray, List.getElem_cons_zero, List.getElem_cons_succ, List.setIfInBounds_toArray, List.set_cons_zero, List.set_cons_succ]
  refine wpAnyH_take (i := 2) (v := ?_) rfl (by kernel_rfl) (by kernel_rfl) (by kernel_rfl) (fun _ _ _ h => h) (Or.inl ⟨by rfl, ?_⟩) hHeld ?_
  rotate_left
  · (intro w hSw; go_simp; (try with_reducible rfl))
  simp only [Act.put, List.getElem_toArray, List.getElem_cons_zero, List.getElem_cons_succ, List.setIfInBounds_toArray, List.set_cons_zero, List.set_cons_succ]
  refine wpAnyH_take (i := 3) (v := ?_) rfl (by kernel_rfl) (by kernel_rfl) (by kernel_rfl) (fun _ _ _ h => h) (Or.inl ⟨by rfl, ?_⟩) hHeld ?_
  rotate_left
  · (intro w hSw; go_simp; (try with_reducible rfl))
  simp only [Act.put, List.getElem_toArray, List.getElem_cons_zero, List.getElem_cons_succ, List.setIfInBounds_toArray, List.set_cons_zero, List.set_cons_succ]
  refine wpAnyH_ready (rs := [4]) (by kernel_rfl) (by simp) ?_
  refine AllReadyH.cons rfl (fun K hK => ?_) AllReadyH.nil
  simp only [List.getElem_toArray, List.getElem_cons_zero, List.getElem_cons_succ]
  have hz4 : CdAt w3.drew gc zeroD := hz3.keep (Below.refl _ _).drew
  refine wp_store_row 55 (.tmp 4) (.tmp 32) rfl gc _ rfl rfl 55 _ hz4 hsz hs3 hone ?_
  have hS4 : HeldD w g5 ys (w3.drew.setRow gc ys) := ⟨(setRow_other _ _ _ _ (by have := HG5.out; omega)).trans hHeld.1, below_setRow hHeld.2 _ _ HG.out.1⟩
  refine hK.out _ _ hS4 (fun _ => ?_)
  clear hK K
  try simp only [Act.put, List.setIfInBounds_toArray, List.set_cons_zero, List.set_cons_succ]
  have hHeld := hS4
  refine wpAnyH_take (i := 5) (v := ?_) rfl (by kernel_rfl) (by kernel_rfl) (by kernel_rfl) (fun _ _ _ h => h) (Or.inl ⟨by rfl, ?_⟩) hHeld ?_
  rotate_left
  · (intro w hSw; go_simp; (try with_reducible rfl))
  simp only [Act.put, List.getElem_toArray, List.getElem_cons_zero, List.getElem_cons_succ, List.setIfInBounds_toArray, List.set_cons_zero, List.set_cons_succ]
  refine wpAnyH_done (by kernel_rfl) ?_ _
  go_wp2_with fail
  have HQF : ReadsCQ (fun b => w.heap.size ≤ b ∧ b < (w3.drew.setRow gc ys).heap.size) (w3.drew.setRow gc ys) 2 ys y := HQ.out.keep (fun b (hb : w.heap.size ≤ b ∧ b < w3.heap.size ∧ b ≠ gc) => show (w3.drew.setRow gc ys).heap[b]? = w3.heap[b]? from setRow_other _ _ _ _ hb.2.2) (fun b (hb : w.heap.size ≤ b ∧ b < w3.heap.size ∧ b ≠ gc) => ⟨hb.1, by rw [setRow_size]; exact hb.2.1⟩)
  refine bodyPost_ret (v := .tuple #[.agg ys, .bool (y.kind == 1)]) ?_ rfl ⟨ys, y, by rw [HY.out.1], HQF, (fun _ => HY.out.2.symm), hS4.2⟩
  exact results_cell_tmp (ty := 55) (p := 4) (q := 5) (by kernel_rfl) _ _ gc 55 _ (0, 0) _ rfl (setRow_heap _ _ _ _ _ _ hz4) Tryd.underlying55 rfl hsz
end Go.Proofs.YtplfblccaeligaaDoor
namespace Go.Proofs.YtplfblccaeligaaDoor
open Go.RowKit Ex Mx
set_option linter.unusedSimpArgs false in
set_option maxRecDepth 100000 in
set_option maxHeartbeats 1000000 in
theorem uses_any (d : Nat) (c : CardT) (cs : Array Value) (wh : Int) (w : World) (hr : ReadsC w.heap.size w d cs c) (hs : c.abs.length ≤ 1000) : Calls Tryd.prog 59 #[.agg cs, .int .i64 wh] w (UsesPost (usesL c.abs wh) w) := by
  obtain ⟨i0, hi, hz0, hz1, hz2⟩ := info_parts infoI
  obtain ⟨_, _, _, _, _, _, A, cc, hcs, hl, hc, hx⟩ := hr
  have HX := Lib.hid hx
  have HCs := Lib.hid hcs
  clear hx hcs
  go_enter Tryd.func59, Tryd.ntmps59
  go_upto_region 1 with fail
  obtain ⟨w1, hw1⟩ : ∃ w1, w1 = w.alloc (.cells cs 55) := ⟨_, rfl⟩
  have HE := Lib.hid (show CdAt w1 w.heap.size cs by rw [hw1]; exact CdAt.new _ _)
  have hb1 : Below w.heap.size w w1 := by rw [hw1]; exact (Below.refl _ _).alloc (Nat.le_refl _) _
  rw [← hw1]
  clear hw1
  have c12 : w1.cell? ⟨w.heap.size, 12, none⟩ = some (.slice A c.abs.length cc) := by rw [HE.out.cell, HCs.out]; exact cd_abs
  go_upto_region 3 with fail
  clear c12
  go_loopw [5, 11] (fun v i wr => UsRel w1 c.abs wh v i wr) (fun _ i _ => c.abs.length - (intOf i).toNat)
  case atStart => exact ⟨none, 0, 0, 0, rfl, rfl, by omega, Own.nil _, Below.refl _ _⟩
  case round =>
    obtain ⟨A4, m4, c4, k, rfl, rfl, hk, hown, hb⟩ := hrel
    have HO4 := Lib.hid hown
    have hm4 := hown.len
    have hul := usesK_len c.abs wh k
    have hm4b : m4 ≤ 1000 := by omega
    have hs4 := hb.size
    clear hown hm4 hul
    by_cases hlt : k < c.abs.length
    · obtain ⟨a, ha⟩ : ∃ a, c.abs[k]? = some a := ⟨_, List.getElem?_eq_getElem hlt⟩
      obtain ⟨b, o, ys, rfl, hbb, hrg, hra⟩ := (HX.out.grow hb1).grow hb k a ha
      have hd : decide ((k : Int) < (c.abs.length : Int)) = true := by simp; omega
      go_upto_region 4 with fail
      have hys := hra.size
      have hy1 := hra.one
      have hsy : (Tryd.prog.info? 79).map (·.size) = some ys.size := by rw [hys]; exact size14
      have hraw := hrg
      have hnew : (wr.alloc (.cells zeroA 79)).heap[wr.heap.size]? = some (.cells zeroA 79 (0, 0)) := heap_alloc_new _ _
      go_upto_region 5 with (first
        | (refine load_ab rfl (.tmp 14) rfl b (o + k * 14) rfl ys hys hraw ?_)
        | (refine wpList_store_row rfl 79 (.tmp 7) (.tmp 15) rfl wr.heap.size _ rfl rfl 79 zeroA hnew hsy (by rw [hys]; rfl) hy1 ?_))
      obtain ⟨wn, hwn, hAn, hbn⟩ := ab_box wr (xs := ys)
      have hran := hra.grow hbn
      have hbwn := keepB hbn hb
      rw [← hwn]
      clear hwn hnew hraw hy1
      have HOn := Lib.hid (HO4.out.below hbn (Nat.le_refl _))
      obtain ⟨_, _, _, xs, hye, _⟩ := hran
      have cw : wn.cell? ⟨wr.heap.size, 0, none⟩ = some (.int .i64 a.when_) := by rw [hAn.cell, hye]; exact ab_when
      obtain ⟨x, hx⟩ : ∃ x, x = a.when_ := ⟨_, rfl⟩
      rw [← hx] at cw
      have hsn := hbn.size
      by_cases hw : a.when_ = wh
      · have HN := Lib.hid (usesK_yes ha hw)
        have e1 : (x == wh) = true := by rw [hx]; simpa using hw
        clear hw hx hye hrg hra hAn
        go_wp2_with (at_builtin; refine wpList_app rfl (.tmp 20) (.tmp 22) _ rfl .i64 w1.heap.size 3 i0 _ 8 Tryd.underlying23 hi hz0 hz1 hz2 rfl A4 m4 c4 _ rfl (HOn.out.alloc _) _ (some ⟨wn.heap.size, 0, none⟩) 1 1 [(k : Int)] rfl (Nums.one _ _ _ _) (by omega) (by omega) (by simp; omega) ?_; intro A6 c6 w6 hown6 hg6)
        have HO6 := Lib.hid hown6
        have hbel6 := (HOn.out.alloc (.cells #[.int .i64 (k : Int)] 3)).belowGrown (hbwn.alloc (by omega) _) (by simp; omega) hg6
        clear hown6 hg6 cw
        go_roundw
        case rel => exact ⟨A6, _, c6, k + 1, rfl, by go_num, by omega, by rw [HN.out]; exact HO6.out, hbel6⟩
        case measure => simp [intOf]; omega
      · have HN := Lib.hid (usesK_no ha hw)
        have e1 : (x == wh) = false := by rw [hx]; simpa using hw
        clear hw hx hye hrg hra hAn
        go_wp2_with fail
        go_roundw
        case rel => exact ⟨A4, m4, c4, k + 1, rfl, by go_num, by omega, by rw [HN.out]; exact HOn.out, hbwn⟩
        case measure => simp [intOf]; omega
    · obtain rfl : k = c.abs.length := by omega
      have hd : decide ((c.abs.length : Int) < (c.abs.length : Int)) = false := by simp
      go_wp2_with fail
      go_ret
      exact ⟨A4, m4, c4, rfl, HO4.out.base_le hb1.size, keepB hb hb1⟩
end Go.Proofs.YtplfblccaeligaaDoor
namespace Go.Proofs.YtplfblccaeligaaDoor
open Go.RowKit Ex Mx Bx
namespace Ex
/-- What the table's statics do: one effect each, which pumps, grants, strips, or is become. -/
def OneOk (e : ET) : Prop := e.subs.length = 1 ∧ -100 ≤ (sub0 e).n ∧ (sub0 e).n ≤ 255 ∧ -100 ≤ (sub0 e).m ∧ (sub0 e).m ≤ 255 ∧ (((sub0 e).op = 23 ∨ (sub0 e).op = 25) → 0 ≤ (sub0 e).n)
instance (e : ET) : Decidable (OneOk e) := inferInstanceAs (Decidable (_ ∧ _))
theorem tbl_one : ∀ n < 120, ∀ a ∈ (tblC n).abs, a.when_ = 5 → OneOk a.do_ := by decide +kernel
end Ex
theorem stat_one {s : StT} {x : Int × ET} (h : x ∈ statS s) : x.1 ∈ s.lists 8 ∧ OneOk x.2 := by
  obtain ⟨id, hid, a, ha, h5, rfl⟩ := statL_mem h
  refine ⟨hid, ?_⟩
  unfold cdS tblX at ha
  split at ha
  · exact tbl_one _ (by omega) a ha h5
  · simp at ha
/-- The effects of those of whose group a creature is, in order. -/
def uponL (s : StT) (id : Int) (l : List (Int × ET)) : List ET := l.flatMap fun x => if grpB s x id = true then x.2.subs else []
theorem uponL_app (s : StT) (id : Int) (a b : List (Int × ET)) : uponL s id (a ++ b) = uponL s id a ++ uponL s id b := by simp [uponL]
def becU (pt : Int × Int) (e : ET) : Int × Int := if e.op = 24 then (e.n, e.m) else pt
def pumU (x : Int × Int × Nat) (e : ET) : Int × Int × Nat :=
  if e.op = 10 then (x.1 + e.n, x.2.1 + e.m, x.2.2) else if e.op = 23 then (x.1, x.2.1, turnW x.2.2 e.n.toNat true 8) else if e.op = 25 then (x.1, x.2.1, turnW x.2.2 e.n.toNat false 8) else x
theorem one_subs {e : ET} (h : e.subs.length = 1) : e.subs = [sub0 e] := by
  match hs : e.subs, h with
  | [x], _ => simp [sub0, hs]
theorem upon_bec (s : StT) (id : Int) : ∀ (l : List (Int × ET)) (pt : Int × Int), (∀ x ∈ l, OneOk x.2) → (uponL s id l).foldl becU pt = l.foldl (becS s id) pt
  | [], _, _ => rfl
  | x :: l, pt, h => by
    have h1 := one_subs (h x List.mem_cons_self).1
    have ih := upon_bec s id l
    simp only [uponL] at ih
    simp only [uponL, List.flatMap_cons, List.foldl_append, List.foldl_cons]
    rw [ih _ fun y hy => h y (List.mem_cons_of_mem _ hy)]
    congr 1
    by_cases hg : grpB s x id = true
    · rw [if_pos hg, h1]; simp [becU, becS, hg]
    · rw [if_neg hg]; simp [becS, hg]
theorem upon_pum (s : StT) (id : Int) : ∀ (l : List (Int × ET)) (x : Int × Int × Nat), (∀ x ∈ l, OneOk x.2) →
    (uponL s id l).foldl pumU x = ((l.foldl (pumS s id) (x.1, x.2.1)).1, (l.foldl (pumS s id) (x.1, x.2.1)).2, l.foldl (wordS s id) x.2.2)
  | [], _, _ => rfl
  | y :: l, x, h => by
    have h1 := one_subs (h y List.mem_cons_self).1
    have ih := upon_pum s id l
    simp only [uponL] at ih
    simp only [uponL, List.flatMap_cons, List.foldl_append, List.foldl_cons]
    rw [ih _ fun y hy => h y (List.mem_cons_of_mem _ hy)]
    by_cases hg : grpB s y id = true
    · rw [if_pos hg, h1]
      simp only [List.foldl_cons, List.foldl_nil, pumU, pumS, wordS, hg, and_true]
      by_cases h10 : (sub0 y.2).op = 10
      · simp [h10]
      · by_cases h23 : (sub0 y.2).op = 23
        · simp [h23]
        · by_cases h25 : (sub0 y.2).op = 25
          · simp [h25]
          · simp [h10, h23, h25]
    · rw [if_neg hg]; simp [pumS, wordS, hg]
/-- The shape, as the code reckons it. -/
def ofU (c : CardT) (o : Nat → Int) (l : List ET) : Int × Int × Nat :=
  ((l.foldl pumU ((l.foldl becU (c.power, c.tough)).1 + o 7, (l.foldl becU (c.power, c.tough)).2 + o 7, c.says.toNat)).1 + o 8,
   (l.foldl pumU ((l.foldl becU (c.power, c.tough)).1 + o 7, (l.foldl becU (c.power, c.tough)).2 + o 7, c.says.toNat)).2.1 + o 9,
   turnW (l.foldl pumU ((l.foldl becU (c.power, c.tough)).1 + o 7, (l.foldl becU (c.power, c.tough)).2 + o 7, c.says.toNat)).2.2 (o 10).toNat true 8)
theorem ofU_is (s : StT) (id : Int) : ofU (cdS s id) (objS s id) (uponL s id (statS s)) = ofS s id := by
  have h : ∀ x ∈ statS s, OneOk x.2 := fun x hx => (stat_one hx).2
  unfold ofU ofS
  rw [upon_bec s id _ _ h, upon_pum s id _ _ h]
theorem upon_mem {s : StT} {id : Int} {e : ET} (h : e ∈ uponL s id (statS s)) : -100 ≤ e.n ∧ e.n ≤ 255 ∧ -100 ≤ e.m ∧ e.m ≤ 255 ∧ ((e.op = 23 ∨ e.op = 25) → 0 ≤ e.n) := by
  unfold uponL at h
  obtain ⟨x, hx, he⟩ := List.mem_flatMap.1 h
  obtain ⟨_, h1, h2⟩ := stat_one hx
  split at he
  · rw [one_subs h1] at he
    simp at he
    subst he
    exact h2
  · simp at he
theorem upon_len (s : StT) (id : Int) : ∀ (l : List (Int × ET)), (∀ x ∈ l, OneOk x.2) → (uponL s id l).length ≤ l.length
  | [], _ => Nat.le_refl _
  | x :: l, h => by
    have h1 := one_subs (h x List.mem_cons_self).1
    have ih := upon_len s id l fun y hy => h y (List.mem_cons_of_mem _ hy)
    simp only [uponL] at ih
    simp only [uponL, List.flatMap_cons, List.length_append, List.length_cons]
    split
    · rw [h1]; simp only [List.length_cons, List.length_nil]; omega
    · simp only [List.length_nil]; omega
/-- Words by or and and-not. -/
theorem or_turn (x n : Nat) (hx : x < 256) (hn : n < 256) : bits .or .i64 (x : Int) (n : Int) = (turnW x n true 8 : Nat) := by
  show IntKind.i64.wrap (((BitVec.ofInt 64 (x : Int) ||| BitVec.ofInt 64 (n : Int)).toNat : Nat) : Int) = _
  have h1 : (BitVec.ofInt 64 (x : Int)).toNat = x := by rw [BitVec.toNat_ofInt]; omega
  have h2 : (BitVec.ofInt 64 (n : Int)).toNat = n := by rw [BitVec.toNat_ofInt]; omega
  have h3 : turnW x n true 8 = x ||| n := by
    refine Nat.eq_of_testBit_eq fun i => ?_
    rw [Nat.testBit_or]
    by_cases hi : i < 64
    · rw [turnW_bit x n true i hi]
      by_cases h8 : i < 8
      · cases hb : n.testBit i <;> simp [h8]
      · have : n.testBit i = false := Nat.testBit_lt_two_pow (Nat.lt_of_lt_of_le hn (show 2 ^ 8 ≤ 2 ^ i from Nat.pow_le_pow_right (by omega) (by omega)))
        simp [this]
    · have hp : (2 : Nat) ^ 64 ≤ 2 ^ i := Nat.pow_le_pow_right (by omega) (by omega)
      rw [Nat.testBit_lt_two_pow (Nat.lt_of_lt_of_le (turnW_lt x n true (by omega) 8) hp), Nat.testBit_lt_two_pow (Nat.lt_of_lt_of_le (show x < 2 ^ 64 by omega) hp), Nat.testBit_lt_two_pow (Nat.lt_of_lt_of_le (show n < 2 ^ 64 by omega) hp)]
      rfl
  have h4 : turnW x n true 8 < 256 := turnW_256 hx (Nat.le_refl _)
  rw [BitVec.toNat_or, h1, h2, ← h3, IntKind.wrap_i64]
  omega
theorem not_turn (x n : Nat) (hx : x < 256) (hn : n < 256) : bits .andNot .i64 (x : Int) (n : Int) = (turnW x n false 8 : Nat) := by
  show IntKind.i64.wrap (((BitVec.ofInt 64 (x : Int) &&& ~~~(BitVec.ofInt 64 (n : Int))).toNat : Nat) : Int) = _
  have h1 : (BitVec.ofInt 64 (x : Int)).toNat = x := by rw [BitVec.toNat_ofInt]; omega
  have h2 : (BitVec.ofInt 64 (n : Int)).toNat = n := by rw [BitVec.toNat_ofInt]; omega
  have h3 : turnW x n false 8 = (BitVec.ofInt 64 (x : Int) &&& ~~~(BitVec.ofInt 64 (n : Int))).toNat := by
    refine Nat.eq_of_testBit_eq fun i => ?_
    by_cases hi : i < 64
    · rw [BitVec.testBit_toNat, BitVec.getLsbD_and, BitVec.getLsbD_not, ← BitVec.testBit_toNat, ← BitVec.testBit_toNat, h1, h2, turnW_bit x n false i hi]
      by_cases h8 : i < 8
      · cases hb : n.testBit i <;> simp [h8, hi]
      · have : n.testBit i = false := Nat.testBit_lt_two_pow (Nat.lt_of_lt_of_le hn (show 2 ^ 8 ≤ 2 ^ i from Nat.pow_le_pow_right (by omega) (by omega)))
        simp [this, hi]
    · have hp : (2 : Nat) ^ 64 ≤ 2 ^ i := Nat.pow_le_pow_right (by omega) (by omega)
      rw [Nat.testBit_lt_two_pow (Nat.lt_of_lt_of_le (turnW_lt x n false (by omega) 8) hp), Nat.testBit_lt_two_pow (Nat.lt_of_lt_of_le (BitVec.isLt _) hp)]
  have h4 : turnW x n false 8 < 256 := turnW_256 hx (Nat.le_refl _)
  rw [← h3, IntKind.wrap_i64]
  omega
end Go.Proofs.YtplfblccaeligaaDoor
namespace Go.Proofs.YtplfblccaeligaaDoor
open Go.RowKit Ex Mx
set_option maxRecDepth 100000
/-- Cells that read as effects. -/
def EfQ (R : World → ET → Array Value → Prop) (W : World) (xs : List Value) (l : List ET) : Prop :=
  ∀ i t, l[i]? = some t → ∃ ys, ys.size = 5 ∧ R W t ys ∧ ∀ j v, ys.toList[j]? = some v → xs[i * 5 + j]? = some v
/-- Effects in the making, in a list of the call's own. -/
structure EfI (R : World → ET → Array Value → Prop) (w : World) (A : Option Addr) (n c : Nat) (l : List ET) (W : World) : Prop where
  ex : ∃ xs, OwnX 65 5 W A n c xs ∧ EfQ R W xs l
  fresh : ∀ k, (Value.slice A n c).ownBlock = some k → w.heap.size ≤ k
  n_ : n = l.length
  b : Below w.heap.size w W
/-- What reads below a block reads on. -/
def Stab (w : World) (R : World → ET → Array Value → Prop) : Prop := ∀ W W' t ys, (∀ b, b < w.heap.size → W'.heap[b]? = W.heap[b]?) → R W t ys → R W' t ys
theorem Stab.more {w w1 : World} {R : World → ET → Array Value → Prop} (h : Stab w R) (hs : w.heap.size ≤ w1.heap.size) : Stab w1 R := fun W W' t ys hb hr => h W W' t ys (fun b hq => hb b (Nat.lt_of_lt_of_le hq hs)) hr
section
variable {R : World → ET → Array Value → Prop} {w W W2 W' : World} {A A' : Option Addr} {n c c' : Nat} {l : List ET}
theorem EfI.nil_ (hb : Below w.heap.size w W) : EfI R w none 0 0 [] W := ⟨⟨[], OwnX.nil_, fun i t hi => by simp at hi⟩, fun k hk => by simp [Value.ownBlock] at hk, rfl, hb⟩
theorem EfI.base {w1 : World} (h : EfI R w1 A n c l W) (hb : Below w.heap.size w w1) : EfI R w A n c l W := ⟨h.ex, fun k hk => Nat.le_trans hb.size (h.fresh k hk), h.n_, keepB h.b hb⟩
theorem EfI.keep (hR : Stab w R) (h : EfI R w A n c l W) (hb : Below W.heap.size W W') : EfI R w A n c l W' := by
  obtain ⟨xs, ho, hs⟩ := h.ex
  refine ⟨⟨xs, ho.stay fun k hk => hb.block k (ho.lt hk), fun i t hi => ?_⟩, h.fresh, h.n_, keepB hb h.b⟩
  obtain ⟨ys, h5, hr, hc⟩ := hs i t hi
  exact ⟨ys, h5, hR W W' t ys (fun b hq => hb.block b (Nat.lt_of_lt_of_le hq h.b.size)) hr, hc⟩
theorem EfI.step (hR : Stab w R) (h : EfI R w A n c l W) {xs : List Value} (ho : OwnX 65 5 W A n c xs) (hs : EfQ R W xs l) (hb : Below W.heap.size W W2) {e : ET} {ys : Array Value} (h5 : ys.size = 5) (hr : R W e ys)
    (ho' : OwnX 65 5 W' A' (n + 1) c' (xs ++ ys.toList)) (hg : W2.grownBy W' (Value.slice A n c).ownBlock)
    (hk : ∀ k, (Value.slice A' (n + 1) c').ownBlock = some k → (Value.slice A n c).ownBlock = some k ∨ W2.heap.size ≤ k) : EfI R w A' (n + 1) c' (l ++ [e]) W' := by
  have h2 := keepB hb h.b
  have h3 : Below w.heap.size w W' := h2.grown hg h2.size h.fresh
  have hlow : ∀ b, b < w.heap.size → W'.heap[b]? = W.heap[b]? := fun b hq => (h3.block b hq).trans (h.b.block b hq).symm
  refine ⟨⟨_, ho', fun i t hi => ?_⟩, fun k e1 => ?_, by rw [List.length_append, ← h.n_]; rfl, h3⟩
  · rw [List.getElem?_append] at hi
    split at hi
    · obtain ⟨zs, hz5, hz, hc⟩ := hs i t hi
      refine ⟨zs, hz5, hR W W' t zs hlow hz, fun j v hv => ?_⟩
      have hv2 := hc j v hv
      rw [List.getElem?_append_left (List.getElem?_eq_some_iff.1 hv2).1]
      exact hv2
    · rename_i hge
      have hi0 : i - l.length = 0 := by
        have := (List.getElem?_eq_some_iff.1 hi).1
        simp at this; omega
      rw [hi0] at hi
      injection hi with hi
      subst hi
      have hil : i = n := by rw [h.n_]; omega
      refine ⟨ys, h5, hR W W' _ ys hlow hr, fun j v hv => ?_⟩
      rw [List.getElem?_append_right (by rw [ho.len, hil]; omega), ho.len, hil, show n * 5 + j - n * 5 = j by omega]
      exact hv
  · rcases hk k e1 with e2 | e2
    · exact h.fresh k e2
    · exact Nat.le_trans h2.size e2
/-- The effect at a place. -/
theorem EfI.at_ (h : EfI R w A n c l W) {j : Nat} {t : ET} (hj : l[j]? = some t) : ∃ g ys, A = some ⟨g, 0, none⟩ ∧ w.heap.size ≤ g ∧ g < W.heap.size ∧ W.rangeAt g (j * 5) ys.toList ∧ ys.size = 5 ∧ R W t ys := by
  obtain ⟨xs, ho, hs⟩ := h.ex
  obtain ⟨ys, h5, hr, hc⟩ := hs j t hj
  have hne : A ≠ none := fun e => by
    obtain ⟨v, hv⟩ : ∃ v, ys.toList[0]? = some v := ⟨_, List.getElem?_eq_getElem (by rw [Array.length_toList]; omega)⟩
    have h1 := (List.getElem?_eq_some_iff.1 (hc 0 _ hv)).1
    rcases ho.o with ⟨_, h0⟩ | ⟨g, cur, hA, _⟩
    · have := ho.len; have := ho.le; omega
    · rw [e] at hA; cases hA
  rcases ho.at0 with e | ⟨g, rfl⟩
  · exact absurd e hne
  · exact ⟨g, ys, rfl, h.fresh g rfl, ho.lt rfl, fun i v hv => ho.cells rfl _ _ (hc i v hv), h5, hr⟩
end
/-- append of an effect. -/
theorem appEf {w : World} (ty : TypeId) {A : Option Addr} {n c : Nat} {xs : List Value} (h : OwnX 65 5 w A n c xs) {b o c2 : Nat} {ys : Array Value} (h5 : ys.size = 5) (h1 : ys.all (·.oneCell') = true)
    (hg : w.rangeAt b o ys.toList) (hn : n ≤ 100000000) : AppX Tryd.prog w 63 ty 65 5 A n c 1 (.slice (some ⟨b, o, none⟩) 1 c2) (xs ++ ys.toList) := by
  obtain ⟨i0, hi, hz0, hz1, hz2⟩ := info_parts info_eff
  exact run_appX 63 ty 65 i0 _ 5 56 Tryd.underlying63 hi hz0 hz1 hz2 rfl (by omega) h ⟨b, o, none⟩ 1 c2 ys.toList (by rw [Array.length_toList, h5])
    (fun j u hj => by
      rw [Addr.add_mid]
      exact hg j u hj) (fun u hu => by
      rw [Array.all_eq_true] at h1
      obtain ⟨i, hi, rfl⟩ := List.mem_iff_getElem.1 hu
      exact h1 i (by simpa using hi)) (by unfold maxLen; omega) (by omega)
/-- What a card's statics do. -/
def abidL (l : List AbT) : List ET := (l.filter fun a => decide (a.when_ = 5)).map (·.do_)
theorem statO_abid (id : Int) : ∀ l : List AbT, statO id l = (abidL l).map fun e => (id, e)
  | [] => rfl
  | a :: l => by
    have ih := statO_abid id l
    unfold abidL at ih ⊢
    by_cases h : a.when_ = 5
    · simp [statO, h, ih]
    · simp [statO, h, ih]
def abidP (abs : List AbT) (ps : List Int) : List ET := ps.filterMap fun p => (abs[p.toNat]?).map (·.do_)
theorem abidP_app (abs : List AbT) (a b : List Int) : abidP abs (a ++ b) = abidP abs a ++ abidP abs b := by simp [abidP]
theorem abidL_app (a b : List AbT) : abidL (a ++ b) = abidL a ++ abidL b := by simp [abidL]
theorem abidP_uses (abs : List AbT) : ∀ k, k ≤ abs.length → abidP abs (usesK abs 5 k) = abidL (abs.take k)
  | 0, _ => by simp [abidP, usesK, abidL]
  | k + 1, hk => by
    have ih := abidP_uses abs k (by omega)
    have ha := List.getElem?_eq_getElem (show k < abs.length by omega)
    have ht : abidL (abs.take (k + 1)) = abidL (abs.take k) ++ abidL [abs[k]] := by
      rw [List.take_succ_eq_append_getElem (show k < abs.length by omega), abidL_app]
    rw [ht, ← ih]
    by_cases h : abs[k].when_ = 5
    · rw [usesK_yes ha h, abidP_app]
      congr 1
      simp [abidP, abidL, h, ha]
    · rw [usesK_no ha h]
      simp [abidL, h]
theorem abidP_all (abs : List AbT) : abidP abs (usesL abs 5) = abidL abs := by
  rw [show usesL abs 5 = usesK abs 5 abs.length from rfl, abidP_uses abs _ (Nat.le_refl _), List.take_length]
theorem abid_len (l : List AbT) : (abidL l).length ≤ l.length := by
  unfold abidL; rw [List.length_map]; exact List.length_filter_le _ _
/-- Effects that read in a card's blocks. -/
def RdB (B N : Nat) (W : World) (t : ET) (ys : Array Value) : Prop := ReadsQ (fun b => B ≤ b ∧ b < N) W 2 ys t
theorem rdB_stab (B : Nat) (w : World) : Stab w (RdB B w.heap.size) := fun _ _ _ _ hb h => h.keep (fun b hq => hb b hq.2) (fun _ q => q)
def AbP (B : Nat) (l : List ET) (w : World) (en : Ending) (w' : World) : Prop := ∃ A n c, en = .returned (.slice A n c) ∧ EfI (RdB B w.heap.size) w A n c l w'
set_option linter.unusedSimpArgs false in
set_option maxHeartbeats 0 in
theorem abiding_any (B : Nat) (c : CardT) (cs : Array Value) (w : World) (hr : ReadsCQ (fun b => B ≤ b ∧ b < w.heap.size) w 2 cs c) (hs : c.abs.length ≤ 1000) :
    Calls Tryd.prog 50 #[.agg cs] w (AbP B (abidL c.abs) w) := by
  have hcs := cq_size hr
  have hsz : (Tryd.prog.info? 55).map (·.size) = some cs.size := cq_info hr
  have hU := fun W (hb : Below w.heap.size w W) => uses_any 2 c cs 5 W ((hr.reads (B := w.heap.size) (fun _ q => q.2)).grow hb) hs
  obtain ⟨_, _, _, _, _, _, A, cc, hcse, hl, hc, hx⟩ := hr
  have HX := Lib.hid hx
  have HCs := Lib.hid hcse
  clear hx hcse
  have HAll := Lib.hid (abidP_all c.abs)
  go_enter Tryd.func50, Tryd.ntmps50
  go_upto_region 1 with fail
  obtain ⟨w1, hw1⟩ : ∃ w1, w1 = w.alloc (.cells cs 55) := ⟨_, rfl⟩
  have HE := Lib.hid (show CdAt w1 w.heap.size cs by rw [hw1]; exact CdAt.new _ _)
  have hb1 : Below w.heap.size w w1 := by rw [hw1]; exact (Below.refl _ _).alloc (Nat.le_refl _) _
  rw [← hw1]
  clear hw1
  have HB1 := Lib.hid hb1
  have hu := hU w1 hb1
  have hce : CdAt w1 w.heap.size cs := HE.out
  clear hU
  go_wp2_with (refine wpList_load_row rfl 55 (.tmp 1) rfl w.heap.size rfl 55 _ (0, 0) _ hce Tryd.underlying55 rfl hsz ?_)
  refine hu.mono ?_
  rintro en w2 ⟨AU, nU, cU, rfl, hOU, hb2⟩
  have hcapU := hOU.cap
  have HNU := Lib.hid hOU.nums
  have HLU := Lib.hid hOU.len
  have HB2 := Lib.hid (keepB hb2 hb1)
  have HC2 := Lib.hid (show w2.cell? ⟨w.heap.size, 12, none⟩ = some (.slice A c.abs.length cc) by
    rw [(hce.keep hb2).cell, HCs.out]; exact cd_abs)
  have HCb := Lib.hid (show w.heap.size < w2.heap.size from Nat.lt_of_lt_of_le hce.lt hb2.size)
  have hnU : nU ≤ 1000 := by have h1 := hOU.len; have h2 := usesK_len c.abs 5 c.abs.length; rw [show usesL c.abs 5 = usesK c.abs 5 c.abs.length from rfl] at h1; omega
  obtain ⟨us, hus⟩ : ∃ us, us = usesL c.abs 5 := ⟨_, rfl⟩
  rw [← hus] at HNU HLU HAll
  have HUS := Lib.hid hus
  have HV0 := Lib.hid (show EfI (RdB B w.heap.size) w2 none 0 0 (abidP c.abs (us.take 0)) w2 from EfI.nil_ (Below.refl _ _))
  clear hu hOU hb1 hb2 hus hce hsz
  go_upto_region 3 with fail
  go_loopw [3, 9] (fun v i wr => ∃ (k m3 c3 : Nat) (A3 : Option Addr), i = .int .i64 ((k : Nat) : Int) ∧ v = .slice A3 m3 c3 ∧ k ≤ nU ∧ m3 ≤ k ∧ Hid (EfI (RdB B w.heap.size) w2 A3 m3 c3 (abidP c.abs (us.take k)) wr)) (fun _ i _ => nU - (intOf i).toNat)
  case atStart => exact ⟨0, 0, 0, none, rfl, rfl, by omega, by omega, HV0⟩
  case round =>
    clear HV0
    obtain ⟨k, m3, c3, A3, rfl, rfl, hk, hmk, HV⟩ := hrel
    by_cases hlt : k < nU
    · have hlu : k < us.length := by rw [HLU.out]; exact hlt
      obtain ⟨a0, hA0, _, hcell⟩ := (HNU.out.below HV.out.b).at_ hlu
      subst hA0
      have hmem : us[k] ∈ usesK c.abs 5 c.abs.length := by
        have h2 : ∀ x ∈ us, x ∈ usesK c.abs 5 c.abs.length := fun x hx => by rw [HUS.out] at hx; exact hx
        exact h2 _ (List.getElem_mem hlu)
      obtain ⟨j, a, hj, hjl, haj, _⟩ := usesK_at (Nat.le_refl _) hmem
      rw [hj] at hcell
      have HN := Lib.hid (show abidP c.abs (us.take (k + 1)) = abidP c.abs (us.take k) ++ [a.do_] from by
        rw [List.take_succ_eq_append_getElem hlu, abidP_app, hj]
        congr 1
        simp [abidP, haj])
      obtain ⟨b, o, ys, hAc, hQ, _, hrg, hra⟩ := HX.out j a haj
      obtain ⟨_, _, _, xs, hye, hrx⟩ := hra
      subst hye
      have hbw : Below w.heap.size w wr := keepB HV.out.b HB2.out
      have hdo : wr.rangeAt b (o * 14 + j * 14 + 9) xs.toList := ab_do (range_below hbw hQ.2 hrg)
      have hxs := hrx.size
      have hrx2 : RdB B w.heap.size wr a.do_ xs := hrx.keep (fun b q => hbw.block b q.2) (fun _ q => q)
      have c12 : wr.cell? ⟨w.heap.size, 12, none⟩ = some (.slice (some ⟨b, o * 14, none⟩) c.abs.length cc) := by
        rw [← hAc, ← HC2.out]; exact HV.out.b.cell (show (⟨w.heap.size, 12, none⟩ : Addr).block < w2.heap.size from HCb.out)
      obtain ⟨zs, ho, hzs⟩ := HV.out.ex
      have HO := Lib.hid ho
      have HZ := Lib.hid hzs
      have HRX := Lib.hid hrx2
      have hbA : Below wr.heap.size wr (wr.alloc (.cells xs 65)) := (Below.refl _ _).alloc (Nat.le_refl _) _
      have hap : ∀ ty, AppX Tryd.prog (wr.alloc (.cells xs 65)) 63 ty 65 5 A3 m3 c3 1 (.slice (some ⟨wr.heap.size, 0, none⟩) 1 1) (zs ++ xs.toList) :=
        fun ty => appEf ty (ho.stay fun k hk => hbA.block k (ho.lt hk)) hxs (by rw [Array.all_eq_true]; intro i hi; exact hrx.one _ (Array.getElem_mem_toList hi)) (fun j v hv => by
          rw [Nat.zero_add, (EvAt.new wr xs).cell, ← Array.getElem?_toList]; exact hv) (by omega)
      have HBA := Lib.hid hbA
      have p0 : (0 : Int) ≤ (k : Int) := by omega
      have p1 : (k : Int) < (nU : Int) := by omega
      have p2 : (0 : Int) ≤ (j : Int) := by omega
      have p3 : (j : Int) < (c.abs.length : Int) := by omega
      clear hAc hQ hrg hrx hrx2 ho hzs hbA hbw haj hmem hj hlu
      go_wp2_with (first
        | (refine load_sub rfl (.tmp 18) rfl b (o * 14 + j * 14 + 9) rfl xs hxs hdo ?_)
        | (refine wpList_buildSlice_eff rfl (.tmp 19) rfl xs hxs rfl ?_)
        | (at_builtin; refine wpList_appX rfl (.tmp 13) (.tmp 20) 63 65 5 A3 m3 c3 1 _ _ (hap _) rfl rfl rfl ?_; intro A7 c7 w7 ho7 hg7 hk7))
      have HV7 := Lib.hid (show EfI (RdB B w.heap.size) w2 A7 (m3 + 1) c7 (abidP c.abs (us.take (k + 1))) w7 from by
        rw [HN.out]
        exact HV.out.step ((rdB_stab B w).more HB2.out.size) HO.out HZ.out HBA.out hxs HRX.out ho7 hg7 hk7)
      clear ho7 hg7 hk7 hap hdo hxs
      go_roundw
      case rel => exact ⟨k + 1, _, _, _, by go_num, rfl, by omega, by omega, HV7⟩
      case measure => simp [intOf]; omega
    · obtain rfl : k = nU := by omega
      have HF := Lib.hid (show EfI (RdB B w.heap.size) w A3 m3 c3 (abidL c.abs) wr from by
        have h := HV.out.base HB2.out
        rw [List.take_of_length_le (by rw [HLU.out]; exact Nat.le_refl _), HAll.out] at h
        exact h)
      clear HV
      go_wp2_with fail
      go_ret
      exact ⟨A3, m3, c3, rfl, HF.out⟩
end Go.Proofs.YtplfblccaeligaaDoor
namespace Go.Proofs.YtplfblccaeligaaDoor
open Go.RowKit Ex Mx
set_option maxRecDepth 100000
/-- Effects that stand in a list, in blocks of Q. -/
def RdEL (Q : Nat → Prop) (W : World) (A : Option Addr) (l : List ET) : Prop :=
  ∀ j t, l[j]? = some t → ∃ g ys, A = some ⟨g, 0, none⟩ ∧ Q g ∧ W.rangeAt g (j * 5) ys.toList ∧ ys.size = 5 ∧ ReadsQ Q W 2 ys t
theorem RdEL.keep {Q : Nat → Prop} {W W' : World} {A : Option Addr} {l : List ET} (hb : ∀ b, Q b → W'.heap[b]? = W.heap[b]?) (h : RdEL Q W A l) : RdEL Q W' A l := fun j t hj => by
  obtain ⟨g, ys, h1, h2, h3, h4, h5⟩ := h j t hj
  exact ⟨g, ys, h1, h2, fun i v hv => by rw [World.cell?_of_block (hb g h2)]; exact h3 i v hv, h4, h5.keep hb (fun _ q => q)⟩
/-- Statics in the making, while the effects of a card are read. -/
structure IR2 (T : TypeId) (w : World) (c0 c1 : Nat) (Ac : Option Addr) (efs : List ET) (A : Option Addr) (n c : Nat) (l : List (Int × ET)) (W : World) : Prop where
  si : ShI T w A n c l W
  rd : RdEL (fun b => c0 ≤ b ∧ b < c1) W Ac efs
  ap : ∀ b, (Value.slice A n c).ownBlock = some b → b < c0 ∨ c1 ≤ b
  lo : w.heap.size ≤ c0
  hi : c1 ≤ W.heap.size
section
variable {T : TypeId} {w W W2 W' : World} {A A' Ac : Option Addr} {n c c' c0 c1 : Nat} {l : List (Int × ET)} {efs : List ET}
theorem IR2.keep (h : IR2 T w c0 c1 Ac efs A n c l W) (hb : Below W.heap.size W W') : IR2 T w c0 c1 Ac efs A n c l W' :=
  ⟨h.si.keep hb, h.rd.keep fun b q => hb.block b (Nat.lt_of_lt_of_le q.2 h.hi), h.ap, h.lo, Nat.le_trans h.hi hb.size⟩
theorem IR2.step (h : IR2 T w c0 c1 Ac efs A n c l W) {xs : List Value} (ho : OwnX T 6 W A n c xs) (hs : ScQ (SCB w A n c W) W xs l) (hb : Below W.heap.size W W2) {id : Int} {ys : Array Value} {e : ET}
    (hr : ReadsQ (fun b => c0 ≤ b ∧ b < c1) W 2 ys e) (ho' : OwnX T 6 W' A' (n + 1) c' (xs ++ scL id ys)) (hg : W2.grownBy W' (Value.slice A n c).ownBlock)
    (hk : ∀ k, (Value.slice A' (n + 1) c').ownBlock = some k → (Value.slice A n c).ownBlock = some k ∨ W2.heap.size ≤ k) : IR2 T w c0 c1 Ac efs A' (n + 1) c' (l ++ [(id, e)]) W' := by
  have hne : ∀ b, c0 ≤ b ∧ b < c1 → (Value.slice A n c).ownBlock ≠ some b := fun b q e => by
    rcases h.ap b e with e1 | e1 <;> omega
  have h1 := hb.size
  have h2 := h.hi
  refine ⟨h.si.step ho hs hb hr (fun b q => ⟨Nat.le_trans h.lo q.1, Nat.lt_of_lt_of_le q.2 h2, hne b q⟩) ho' hg hk, h.rd.keep fun b q => ?_, fun b e => ?_, h.lo, Nat.le_trans h2 (Nat.le_trans h1 hg.size)⟩
  · exact (hg.block b (by omega) (Ne.symm (hne b q))).trans (hb.block b (by omega))
  · rcases hk b e with e1 | e1
    · exact h.ap b e1
    · exact .inr (by omega)
end
/-- The effects of a card, once abiding has answered. -/
theorem EfI.rdEL {B : Nat} {w W : World} {A : Option Addr} {n c : Nat} {l : List ET} (hB : B ≤ w.heap.size) (h : EfI (RdB B w.heap.size) w A n c l W) : RdEL (fun b => B ≤ b ∧ b < W.heap.size) W A l := fun j t hj => by
  obtain ⟨g, ys, h1, h2, h3, h4, h5, h6⟩ := h.at_ hj
  exact ⟨g, ys, h1, ⟨Nat.le_trans hB h2, h3⟩, h4, h5, h6.keep (fun _ _ => rfl) (fun b q => ⟨q.1, Nat.lt_of_lt_of_le q.2 h.b.size⟩)⟩
theorem info_scC : (Tryd.prog.info? 91).map (fun i => (i.zero, i.size, i.bytes)) = some (some (.agg (scC (0, .node 0 0 0 0 []) none 0 0)), 6, 64) := by kernel_rfl
/-- append of a static. -/
theorem appScC {w w0 : World} (ty : TypeId) {A : Option Addr} {n c : Nat} {xs : List Value} (h : OwnX 91 6 w A n c xs) {g : Nat} {id : Int} {ys : Array Value} {Q : Nat → Prop} {e : ET} (hr : ReadsQ Q w0 2 ys e)
    (hg : w.heap[g]? = some (.cells (scL id ys).toArray 91 (0, 0))) (hn : n ≤ 100000000) :
    AppX Tryd.prog w 76 ty 91 6 A n c 1 (.slice (some ⟨g, 0, none⟩) 1 1) (xs ++ scL id ys) := by
  obtain ⟨i0, hi, hz0, hz1, hz2⟩ := info_parts info_scC
  exact run_appX 76 ty 91 i0 _ 6 64 Tryd.underlying76 hi hz0 hz1 hz2 rfl (by omega) h ⟨g, 0, none⟩ 1 1 (scL id ys) (by rw [scL_len id hr])
    (fun j u hj => by
      have e1 : (⟨g, 0, none⟩ : Addr).add j = ⟨g, j, none⟩ := by unfold Addr.add; split <;> simp_all
      rw [e1, cell_of_row w g j _ _ _ hg]
      simpa using hj) (fun u hu => by
      unfold scL at hu
      rcases List.mem_cons.1 hu with rfl | hu
      · rfl
      · exact hr.one u hu) (by unfold maxLen; omega) (by omega)
/-- Statics that are answered. -/
def StcP (s : StT) (w : World) (en : Ending) (w' : World) : Prop := ∃ A n c, en = .returned (.slice A n c) ∧ n ≤ c ∧ ShI 91 w A n c (statS s) w'
set_option linter.unusedSimpArgs false in
set_option maxHeartbeats 0 in
theorem staticsC_any (s : StT) (O : SlT) (L : Nat → SlT) (cs : Array Value) (w : World) (hR : ReadsS w.heap.size w cs s O L) (hl : (s.lists 8).length ≤ 1000000) (hin : ∀ id ∈ s.lists 8, InS s id) :
    Calls Tryd.prog 34 #[.agg cs] w (StcP s w) := by
  have c9 : cs[9]? = some (.slice (L 8).A (L 8).n (L 8).c) := by rw [hR.cs]; exact stC_list _ _ _ _ (z := 8) (by omega)
  have c0 : cs[0]? = some (.slice O.A O.n O.c) := by rw [hR.cs]; exact stC_objs _ _ _ _
  rw [hR.on] at c0
  have HR := Lib.hid hR
  have HIN := Lib.hid hin
  have hLn := (hR.l 8 (by omega)).len
  have hba : Below w.heap.size w (w.alloc (.cells cs 29)) := (Below.refl _ _).alloc (Nat.le_refl _) _
  have hs1 : StAt (w.alloc (.cells cs 29)) w.heap.size cs := StAt.new w cs
  obtain ⟨q, hq⟩ : ∃ q, q = (L 8).n := ⟨_, rfl⟩
  rw [← hq] at c9 hLn
  have hNl : Nums .i64 w w.heap.size (L 8).A q (s.lists 8) := by rw [hq]; exact hR.l 8 (by omega)
  obtain ⟨AL, hAL⟩ : ∃ A, A = (L 8).A := ⟨_, rfl⟩
  rw [← hAL] at c9 hNl
  obtain ⟨cL, hcL⟩ : ∃ A, A = (L 8).c := ⟨_, rfl⟩
  rw [← hcL] at c9
  have HNL := Lib.hid hNl
  have HLn := Lib.hid hLn
  have HC0 := Lib.hid c0
  have hq1 : q ≤ 1000000 := by omega
  clear hR hq hAL hcL hNl hLn hl hin c0
  go_enter Tryd.func34, Tryd.ntmps34
  go_upto_region 1 with fail
  obtain ⟨w1, hw1⟩ : ∃ w1, w1 = w.alloc (.cells cs 29) := ⟨_, rfl⟩
  rw [← hw1] at hba hs1
  rw [← hw1]
  obtain ⟨gs, hgs⟩ : ∃ g, g = w.heap.size := ⟨_, rfl⟩
  rw [← hgs] at hs1
  rw [← hgs]
  have HBA := Lib.hid hba
  have HS1 := Lib.hid hs1
  have k9 : w1.cell? ⟨gs, 9, none⟩ = some (.slice AL q cL) := by rw [hs1.cell]; exact c9
  have HV0 := Lib.hid (show ShI 91 w1 none 0 0 (statL s ((s.lists 8).take 0)) w1 from ⟨⟨[], OwnX.nil_, fun i x hi => by simp [statL] at hi⟩, fun k hk => by simp [Value.ownBlock] at hk, rfl, Below.refl _ _⟩)
  clear hw1 hgs hba hs1 c9
  go_upto_region 3 with fail
  clear k9
  go_loopw [3, 12] (fun o i wr => ∃ (k m2 c2 : Nat) (A2 : Option Addr), i = .int .i64 ((k : Nat) : Int) ∧ o = .slice A2 m2 c2 ∧ k ≤ q ∧ Hid (ShI 91 w1 A2 m2 c2 (statL s ((s.lists 8).take k)) wr)) (fun _ i _ => q - (intOf i).toNat)
  case atStart => exact ⟨0, 0, 0, none, rfl, rfl, by omega, HV0⟩
  case round =>
    clear HV0
    obtain ⟨k, m2, c2, A2, rfl, rfl, hk, HV⟩ := hrel
    by_cases hlt : k < q
    · have hbw := keepB HV.out.b HBA.out
      obtain ⟨a, hA, _, hcell⟩ := (HNL.out.below hbw).at_ (show k < (s.lists 8).length by rw [HLn.out]; exact hlt)
      subst hA
      obtain ⟨id, hid⟩ : ∃ id, id = (s.lists 8)[k]'(by rw [HLn.out]; exact hlt) := ⟨_, rfl⟩
      rw [← hid] at hcell
      have HId := Lib.hid (show statL s ((s.lists 8).take (k + 1)) = statL s ((s.lists 8).take k) ++ statO id (cdS s id).abs from by
        rw [List.take_add_one, List.getElem?_eq_getElem (by rw [HLn.out]; exact hlt), ← hid, statL_app]; simp [statL])
      have hii : InS s id := HIN.out id (by rw [hid]; exact List.getElem_mem _)
      obtain ⟨ji, o, rfl, hji, hoi, hos⟩ := hii.ob
      have hcdi : cdS s (ji : Int) = tblX (o 0) := by unfold cdS; rw [hos]
      have hn0 : N64 (o 0) := HR.out.ow o (List.mem_of_getElem? hoi) 0 (by omega)
      obtain ⟨b, off, hOA, hb, hrg0⟩ := HR.out.o ji o hoi
      have hrg := range_below hbw hb hrg0
      have k0 : wr.cell? ⟨gs, 0, none⟩ = some (.slice (some ⟨b, off, none⟩) s.objs.length O.c) := by
        rw [(HS1.out.keep HV.out.b).cell, HC0.out, hOA]
      have hcd := cardOf_any o wr hn0
      rw [← hcdi] at hcd
      have p0 : (0 : Int) ≤ (k : Int) := by omega
      have p1 : (k : Int) < (q : Int) := by omega
      have p2 : (0 : Int) ≤ (ji : Int) := by omega
      have p3 : (ji : Int) < (s.objs.length : Int) := by omega
      clear hid hii hos hoi hcdi hn0 hOA hb hrg0
      go_wp2_with (refine load_obj rfl (.tmp 19) rfl b (off + ji * 18) rfl o hrg ?_)
      refine hcd.mono ?_
      rintro en w2 ⟨ys, rfl, hq2, hb2⟩
      clear hcd hcell k0 hrg
      obtain ⟨y, hy⟩ : ∃ y, y = cdS s (ji : Int) := ⟨_, rfl⟩
      rw [← hy] at hq2 HId
      have hy9 : y.abs.length ≤ 9 := by rw [hy]; exact cdS_nine s _
      have HS2 := Lib.hid (show ((statL s ((s.lists 8).take k)).length ≤ 9 * k) from Nat.le_trans (statL_len s _) (by have := List.length_take_le k (s.lists 8); omega))
      have hab := abiding_any wr.heap.size y ys w2 hq2 (by omega)
      have hAbl := abid_len y.abs
      have HAb := Lib.hid (statO_abid (ji : Int) y.abs)
      obtain ⟨efs, hefs⟩ : ∃ l, l = abidL y.abs := ⟨_, rfl⟩
      rw [← hefs] at hab hAbl HAb
      have HB2 := Lib.hid hb2
      clear hq2 hy hb2 hefs
      go_wp2_with fail
      refine hab.mono ?_
      rintro en w3 ⟨Ae, ne, ce, rfl, hE⟩
      have hne := hE.n_
      subst hne
      have hcE : efs.length ≤ ce := by obtain ⟨_, ho, _⟩ := hE.ex; exact ho.le
      have HI0 := Lib.hid (show IR2 91 w1 wr.heap.size w3.heap.size Ae efs A2 m2 c2 (statL s ((s.lists 8).take k) ++ (efs.take 0).map fun e => ((ji : Int), e)) w3 from by
        have hb3 := keepB hE.b HB2.out
        obtain ⟨xs, ho, _⟩ := HV.out.ex
        refine ⟨?_, hE.rdEL HB2.out.size, fun b e => .inl (ho.lt e), HV.out.b.size, Nat.le_refl _⟩
        simp only [List.take_zero, List.map_nil, List.append_nil]
        exact HV.out.keep hb3)
      clear hab HV hE HB2
      go_upto_region 6 with fail
      obtain ⟨b0, hb0⟩ : ∃ c, c = wr.heap.size := ⟨_, rfl⟩
      obtain ⟨b1, hb1⟩ : ∃ c, c = w3.heap.size := ⟨_, rfl⟩
      obtain ⟨ln, hln⟩ : ∃ c, c = efs.length := ⟨_, rfl⟩
      rw [← hb0, ← hb1] at HI0
      rw [← hln] at hAbl hcE ⊢
      clear hb0 hb1
      have HLN := Lib.hid hln
      clear hln
      go_loopw [3, 24] (fun o i wr => ∃ (j m3 c3 : Nat) (A3 : Option Addr), i = .int .i64 ((j : Nat) : Int) ∧ o = .slice A3 m3 c3 ∧ j ≤ ln ∧ Hid (IR2 91 w1 b0 b1 Ae efs A3 m3 c3 (statL s ((s.lists 8).take k) ++ (efs.take j).map fun e => ((ji : Int), e)) wr)) (fun _ i _ => ln - (intOf i).toNat)
      case atStart => exact ⟨0, _, _, _, rfl, rfl, by omega, HI0⟩
      case round =>
        clear HI0
        obtain ⟨j, m3, c3, A3, rfl, rfl, hj, HV⟩ := hrel
        by_cases hjt : j < ln
        · have hje : j < efs.length := by rw [← HLN.out]; exact hjt
          obtain ⟨e, he⟩ : ∃ e, efs[j]? = some e := ⟨_, List.getElem?_eq_getElem hje⟩
          have HN := Lib.hid (show (efs.take (j + 1)).map (fun e => ((ji : Int), e)) = (efs.take j).map (fun e => ((ji : Int), e)) ++ [((ji : Int), e)] from by
            rw [List.take_add_one, he]; simp)
          obtain ⟨g, ys, rfl, hQg, hrg, h5, hrx⟩ := HV.out.rd j e he
          have p4 : (0 : Int) ≤ (j : Int) := by omega
          have p5 : (j : Int) < (ln : Int) := by omega
          have hy1 : ys.all (·.oneCell') = true := by rw [Array.all_eq_true]; intro i hi; exact hrx.one _ (Array.getElem_mem_toList hi)
          have hsy : (Tryd.prog.info? 65).map (·.size) = some ys.size := by rw [h5]; exact size5
          have hnew : (wr.alloc (.cells zeroE 65)).heap[wr.heap.size]? = some (.cells zeroE 65 (0, 0)) := heap_alloc_new _ _
          have hz5 : zeroE.size = ys.size := by rw [h5]; rfl
          clear hje
          go_upto_region 8 with (first
            | (refine load_sub rfl (.tmp 26) rfl g (j * 5) rfl ys h5 hrg ?_)
            | (refine wpList_store_row rfl 65 (.tmp 7) (.tmp 27) rfl wr.heap.size _ rfl rfl 65 zeroE hnew hsy hz5 hy1 ?_))
          obtain ⟨w4, hw4, hA4, hb4⟩ := ev_box wr (xs := ys)
          show Code.wp _ _ _ _ ((wr.alloc (.cells zeroE 65)).setRow wr.heap.size ys)
          rw [← hw4]
          have HV4 := Lib.hid (HV.out.keep hb4)
          have hrx4 : ReadsQ (fun b => b0 ≤ b ∧ b < b1) w4 2 ys e := hrx.keep (fun b q => hb4.block b (Nat.lt_of_lt_of_le q.2 HV.out.hi)) (fun _ q => q)
          obtain ⟨g4, hg4⟩ : ∃ g, g = wr.heap.size := ⟨_, rfl⟩
          rw [← hg4] at hA4
          rw [← hg4]
          clear hw4 hnew hsy hy1 hrg hb4 hg4 HV hrx hz5 hQg
          obtain ⟨Ax, cx, rfl⟩ := hrx4.shape
          have hm3 : m3 ≤ 100000000 := by
            have h1 := HV4.out.si.n_
            have h4 := HS2.out
            rw [List.length_append, List.length_map, List.length_take] at h1
            omega
          obtain ⟨ws, ho, hs⟩ := HV4.out.si.ex
          have HO := Lib.hid ho
          have HS := Lib.hid hs
          have HRX := Lib.hid hrx4
          obtain ⟨e1, he1⟩ : ∃ x, x = e.op := ⟨_, rfl⟩
          obtain ⟨e2, he2⟩ : ∃ x, x = e.n := ⟨_, rfl⟩
          obtain ⟨e3, he3⟩ : ∃ x, x = e.m := ⟨_, rfl⟩
          obtain ⟨e4, he4⟩ : ∃ x, x = e.who := ⟨_, rfl⟩
          obtain ⟨e5, he5⟩ : ∃ x, x = e.subs.length := ⟨_, rfl⟩
          rw [← he1, ← he2, ← he3, ← he4, ← he5] at HRX hrx4 hA4 h5
          have hbA : Below w4.heap.size w4 (w4.alloc (.cells #[.int .i64 (ji : Int), .int .i64 e1, .int .i64 e2, .int .i64 e3, .int .i64 e4, .slice Ax e5 cx] 91)) := (Below.refl _ _).alloc (Nat.le_refl _) _
          have hap : ∀ ty, AppX Tryd.prog (w4.alloc (.cells #[.int .i64 (ji : Int), .int .i64 e1, .int .i64 e2, .int .i64 e3, .int .i64 e4, .slice Ax e5 cx] 91)) 76 ty 91 6 A3 m3 c3 1 (.slice (some ⟨w4.heap.size, 0, none⟩) 1 1) (ws ++ scL (ji : Int) (evC e1 e2 e3 e4 Ax e5 cx)) :=
            fun ty => appScC ty (ho.stay fun k hk => hbA.block k (ho.lt hk)) hrx4 (heap_alloc_new _ _) hm3
          have HBA4 := Lib.hid hbA
          have hA5 : w4.heap[g4]? = some (.cells (evC e1 e2 e3 e4 Ax e5 cx) 65 (0, 0)) := hA4
          have hs5 : (Tryd.prog.info? 65).map (·.size) = some (evC e1 e2 e3 e4 Ax e5 cx).size := size5
          clear ho hs hrx4 hm3 hbA he1 he2 he3 he4 he5 hA4 he h5
          unfold evC at hA5 hs5
          go_wp2_with (first
            | (refine wpList_load_row rfl 65 (.tmp 7) rfl g4 rfl 65 _ (0, 0) _ hA5 Tryd.underlying65 rfl hs5 ?_)
            | (at_builtin; refine wpList_appX rfl (.tmp 28) (.tmp 32) 76 91 6 A3 m3 c3 1 _ _ (hap _) rfl rfl rfl ?_; intro A7 c7 w7 ho7 hg7 hk7))
          have HV7 := Lib.hid (show IR2 91 w1 b0 b1 (some ⟨g, 0, none⟩) efs A7 (m3 + 1) c7 (statL s ((s.lists 8).take k) ++ (efs.take (j + 1)).map fun e => ((ji : Int), e)) w7 from by
            rw [HN.out, ← List.append_assoc]
            exact HV4.out.step HO.out HS.out HBA4.out HRX.out ho7 hg7 hk7)
          clear ho7 hg7 hk7 hap hA5 hs5 HV4 HO HS HRX HN
          go_roundw
          case rel => exact ⟨j + 1, _, _, _, by go_num, rfl, by omega, HV7⟩
          case measure => simp [intOf]; omega
        · obtain rfl : j = ln := by omega
          have HV3 := Lib.hid (show ShI 91 w1 A3 m3 c3 (statL s ((s.lists 8).take (k + 1))) wr from by
            have h := HV.out.si
            rw [HLN.out, List.take_length, ← HAb.out, ← HId.out] at h
            exact h)
          clear HV HId
          go_wp2_with fail
          go_roundw
          case rel => exact ⟨k + 1, _, _, _, by go_num, rfl, by omega, HV3⟩
          case measure => simp [intOf]; omega
    · obtain rfl : k = q := by omega
      have HF := Lib.hid (show ShI 91 w1 A2 m2 c2 (statS s) wr from by
        have h := HV.out
        rw [List.take_of_length_le (by rw [HLn.out]; exact Nat.le_refl _)] at h
        exact h)
      clear HV
      go_wp2_with fail
      go_ret
      obtain ⟨xs, ho, _⟩ := HF.out.ex
      exact ⟨A2, m2, c2, rfl, ho.le, HF.out.base HBA.out⟩
end Go.Proofs.YtplfblccaeligaaDoor
namespace Go.Proofs.YtplfblccaeligaaDoor
open Go.RowKit Ex Mx Bx
set_option maxRecDepth 100000
namespace Ex
theorem tbl_grp : ∀ n < 120, ∀ a ∈ (tblC n).abs, a.when_ = 5 → 0 ≤ a.do_.n ∧ a.do_.n ≤ 3 := by decide +kernel
end Ex
theorem stat_grp {s : StT} {x : Int × ET} (h : x ∈ statS s) : 0 ≤ x.2.n ∧ x.2.n ≤ 3 := by
  obtain ⟨id, hid, a, ha, h5, rfl⟩ := statL_mem h
  unfold cdS tblX at ha
  split at ha
  · exact tbl_grp _ (by omega) a ha h5
  · simp at ha
set_option linter.unusedSimpArgs false in
set_option maxHeartbeats 0 in
theorem reaches_any (s : StT) (O : SlT) (L : Nat → SlT) (cs : Array Value) (x : Int × ET) (A : Option Addr) (k c : Nat) (id : Int) (w : World) (hR : ReadsS w.heap.size w cs s O L) (hid : InS s id) (hx : InS s x.1) (hg : 0 ≤ x.2.n ∧ x.2.n ≤ 3) :
    Calls Tryd.prog 49 #[.agg cs, .agg (scC x A k c), .int .i64 id] w fun en w' => en = .returned (.bool (grpB s x id)) ∧ Below w.heap.size w w' := by
  obtain ⟨xi, e⟩ := x
  simp only at hx hg
  obtain ⟨ki, oi, rfl, hki, hoi, hosi⟩ := hid.ob
  obtain ⟨kx, ox, rfl, hkx, hox, hosx⟩ := hx.ob
  obtain ⟨b, off, hA, hb, hci⟩ := obj_num hR.o hoi
  obtain ⟨b', off', hA', hb', hcx⟩ := obj_num hR.o hox
  rw [hA] at hA'
  obtain ⟨rfl, rfl⟩ : b = b' ∧ off = off' := by injection hA' with h; injection h with h1 h2 _; exact ⟨h1, h2⟩
  have c0 : cs[0]? = some (.slice O.A O.n O.c) := by rw [hR.cs]; exact stC_objs _ _ _ _
  rw [hR.on, hA] at c0
  have hba : Below w.heap.size w (w.alloc (.cells cs 29)) := (Below.refl _ _).alloc (Nat.le_refl _) _
  have hbb : Below (w.alloc (.cells cs 29)).heap.size (w.alloc (.cells cs 29)) ((w.alloc (.cells cs 29)).alloc (.cells (scC ((kx : Int), e) A k c) 91)) := (Below.refl _ _).alloc (Nat.le_refl _) _
  have hs1 : StAt ((w.alloc (.cells cs 29)).alloc (.cells (scC ((kx : Int), e) A k c) 91)) w.heap.size cs := (StAt.new w cs).keep hbb
  have hx1 : ((w.alloc (.cells cs 29)).alloc (.cells (scC ((kx : Int), e) A k c) 91)).heap[w.heap.size + 1]? = some (.cells (scC ((kx : Int), e) A k c) 91 (0, 0)) := by
    have := heap_alloc_new (w.alloc (.cells cs 29)) (.cells (scC ((kx : Int), e) A k c) 91)
    simpa using this
  have hb1 := keepB hbb hba
  have HEq := Lib.hid (show objS s (ki : Int) = oi ∧ objS s (kx : Int) = ox from ⟨hosi, hosx⟩)
  have HB0 := Lib.hid hb1
  obtain ⟨gs, hgs⟩ : ∃ g, g = w.heap.size := ⟨_, rfl⟩
  have hk0 : ∀ W, Below ((w.alloc (.cells cs 29)).alloc (.cells (scC ((kx : Int), e) A k c) 91)).heap.size ((w.alloc (.cells cs 29)).alloc (.cells (scC ((kx : Int), e) A k c) 91)) W →
      W.cell? ⟨gs, 0, none⟩ = some (.slice (some ⟨b, off, none⟩) s.objs.length O.c) ∧ W.cell? ⟨b, off + ki * 18 + 2, none⟩ = some (.int .i64 (oi 2)) ∧ W.cell? ⟨b, off + kx * 18 + 2, none⟩ = some (.int .i64 (ox 2)) ∧
      W.cell? ⟨gs + 1, 0, none⟩ = some (.int .i64 (kx : Int)) ∧ W.cell? ⟨gs + 1, 2, none⟩ = some (.int .i64 e.n) := fun W hW => by
    have hWb := keepB hW hb1
    have hX := (hW.block (w.heap.size + 1) (Array.getElem?_eq_some_iff.1 hx1).1).trans hx1
    refine ⟨by rw [hgs, (hs1.keep hW).cell]; exact c0, (hWb.cell (show (⟨b, off + ki * 18 + 2, none⟩ : Addr).block < w.heap.size from hb)).trans (hci 2 (by omega)), (hWb.cell (show (⟨b, off + kx * 18 + 2, none⟩ : Addr).block < w.heap.size from hb)).trans (hcx 2 (by omega)), ?_, ?_⟩
    · rw [hgs, cell_of_row W (w.heap.size + 1) 0 _ _ _ hX]; rfl
    · rw [hgs, cell_of_row W (w.heap.size + 1) 2 _ _ _ hX]; rfl
  have p0 : (0 : Int) ≤ (ki : Int) := by omega
  have p1 : (ki : Int) < (s.objs.length : Int) := by omega
  have p2 : (0 : Int) ≤ (kx : Int) := by omega
  have p3 : (kx : Int) < (s.objs.length : Int) := by omega
  clear hx1 hs1 hb1 hbb hba c0 hcx hci hosi hosx hoi hox hR hid hx hb hA hA'
  go_enter Tryd.func49, Tryd.ntmps49
  go_upto_region 1 with fail
  rw [← hgs]
  obtain ⟨w1, hw1⟩ : ∃ w1, w1 = (w.alloc (.cells cs 29)).alloc (.cells (scC ((kx : Int), e) A k c) 91) := ⟨_, rfl⟩
  rw [← hw1] at hk0 HB0
  show Code.wp _ _ _ _ ((w.alloc (.cells cs 29)).alloc (.cells (scC ((kx : Int), e) A k c) 91))
  rw [← hw1]
  clear hw1 hgs
  have k0 := fun W h => (hk0 W h).1
  have k1 := fun W h => (hk0 W h).2.1
  have k2 := fun W h => (hk0 W h).2.2.1
  have k3 := fun W h => (hk0 W h).2.2.2.1
  have hbd : Below w1.heap.size w1 w1.drew := (Below.refl _ _).drew
  have e2 := (hk0 w1.drew hbd).2.2.2.2
  have e3 := (hk0 w1.drew hbd).2.2.2.1
  have HB := Lib.hid (show Below w.heap.size w w1.drew from keepB hbd HB0.out)
  obtain ⟨sv, hsv⟩ : ∃ sv, sv = (oi 2 == ox 2) := ⟨_, rfl⟩
  obtain ⟨v1, hv1⟩ : ∃ v, v = oi 2 := ⟨_, rfl⟩
  obtain ⟨v2, hv2⟩ : ∃ v, v = ox 2 := ⟨_, rfl⟩
  have hev : (v2 == v1) = sv := by rw [hv1, hv2, hsv]; exact BEq.comm
  have HSV := Lib.hid (show (objS s (ki : Int) 2 == objS s (kx : Int) 2) = sv from by rw [HEq.out.1, HEq.out.2, hsv])
  rw [← hv1] at k1
  rw [← hv2] at k2
  clear hk0 hsv hv1 hv2 HEq
  refine region_below (by kernel_rfl) (fun hHeld => ?_)
  refine wpAnyH_take (i := 0) (v := ?_) rfl (by kernel_rfl) (by kernel_rfl) (by kernel_rfl) (fun _ _ _ h => h) (Or.inl ⟨by rfl, ?_⟩) hHeld ?_
  rotate_left
  · (intro w hSw; go_simp; (try with_reducible rfl))
  simp only [Act.put, List.getElem_toArray, List.getElem_cons_zero, List.getElem_cons_succ, List.setIfInBounds_toArray, List.set_cons_zero, List.set_cons_succ]
  refine wpAnyH_take (i := 1) (v := ?_) rfl (by kernel_rfl) (by kernel_rfl) (by kernel_rfl) (fun _ _ _ h => h) (Or.inl ⟨by rfl, ?_⟩) hHeld ?_
  rotate_left
  · (intro w hSw; go_simp; (try with_reducible rfl))
  simp only [Act.put, List.getElem_toArray, List.getElem_cons_zero, List.getElem_cons_succ, List.setIfInBounds_toArray, List.set_cons_zero, List.set_cons_succ]
  refine wpAnyH_take (i := 2) (v := ?_) rfl (by kernel_rfl) (by kernel_rfl) (by kernel_rfl) (fun _ _ _ h => h) (Or.inl ⟨by rfl, ?_⟩) hHeld ?_
  rotate_left
  · (intro w hSw; go_simp; (try with_reducible rfl))
  simp only [Act.put, List.getElem_toArray, List.getElem_cons_zero, List.getElem_cons_succ, List.setIfInBounds_toArray, List.set_cons_zero, List.set_cons_succ]
  refine wpAnyH_take (i := 3) (v := ?_) rfl (by kernel_rfl) (by kernel_rfl) (by kernel_rfl) (fun _ _ _ h => h) (Or.inl ⟨by rfl, ?_⟩) hHeld ?_
  rotate_left
  · (intro w hSw; go_simp; (try with_reducible rfl))
  simp only [Act.put, List.getElem_toArray, List.getElem_cons_zero, List.getElem_cons_succ, List.setIfInBounds_toArray, List.set_cons_zero, List.set_cons_succ]
  refine wpAnyH_take (i := 4) (v := ?_) rfl (by kernel_rfl) (by kernel_rfl) (by kernel_rfl) (fun _ _ _ h => h) (Or.inl ⟨by rfl, ?_⟩) hHeld ?_
  rotate_left
  · (intro w hSw; go_simp; (try with_reducible rfl))
  simp only [Act.put, List.getElem_toArray, List.getElem_cons_zero, List.getElem_cons_succ, List.setIfInBounds_toArray, List.set_cons_zero, List.set_cons_succ]
  refine wpAnyH_take (i := 5) (v := ?_) rfl (by kernel_rfl) (by kernel_rfl) (by kernel_rfl) (fun _ _ _ h => h) (Or.inl ⟨by rfl, ?_⟩) hHeld ?_
  rotate_left
  · (intro w hSw; go_simp; (try with_reducible rfl))
  simp only [Act.put, List.getElem_toArray, List.getElem_cons_zero, List.getElem_cons_succ, List.setIfInBounds_toArray, List.set_cons_zero, List.set_cons_succ]
  refine wpAnyH_take (i := 6) (v := ?_) rfl (by kernel_rfl) (by kernel_rfl) (by kernel_rfl) (fun _ _ _ h => h) (Or.inl ⟨by rfl, ?_⟩) hHeld ?_
  rotate_left
  · (intro w hSw; go_simp; (try with_reducible rfl))
  simp only [Act.put, List.getElem_toArray, List.getElem_cons_zero, List.getElem_cons_succ, List.setIfInBounds_toArray, List.set_cons_zero, List.set_cons_succ]
  refine wpAnyH_take (i := 7) (v := ?_) rfl (by kernel_rfl) (by kernel_rfl) (by kernel_rfl) (fun _ _ _ h => h) (Or.inl ⟨by rfl, ?_⟩) hHeld ?_
  rotate_left
  · (intro w hSw; go_simp; (try with_reducible rfl))
  simp only [Act.put, List.getElem_toArray, List.getElem_cons_zero, List.getElem_cons_succ, List.setIfInBounds_toArray, List.set_cons_zero, List.set_cons_succ]
  refine wpAnyH_take (i := 8) (v := ?_) rfl (by kernel_rfl) (by kernel_rfl) (by kernel_rfl) (fun _ _ _ h => h) (Or.inl ⟨by rfl, ?_⟩) hHeld ?_
  rotate_left
  · (intro w hSw; go_simp; (try with_reducible rfl))
  simp only [Act.put, List.getElem_toArray, List.getElem_cons_zero, List.getElem_cons_succ, List.setIfInBounds_toArray, List.set_cons_zero, List.set_cons_succ]
  refine wpAnyH_take (i := 9) (v := ?_) rfl (by kernel_rfl) (by kernel_rfl) (by kernel_rfl) (fun _ _ _ h => h) (Or.inl ⟨by rfl, ?_⟩) hHeld ?_
  rotate_left
  · (intro w hSw; go_simp; (try with_reducible rfl))
  simp only [Act.put, List.getElem_toArray, List.getElem_cons_zero, List.getElem_cons_succ, List.setIfInBounds_toArray, List.set_cons_zero, List.set_cons_succ]
  refine wpAnyH_take (i := 10) (v := ?_) rfl (by kernel_rfl) (by kernel_rfl) (by kernel_rfl) (fun _ _ _ h => h) (Or.inl ⟨by rfl, ?_⟩) hHeld ?_
  rotate_left
  · (intro w hSw; go_simp; (try with_reducible rfl))
  simp only [Act.put, List.getElem_toArray, List.getElem_cons_zero, List.getElem_cons_succ, List.setIfInBounds_toArray, List.set_cons_zero, List.set_cons_succ]
  refine wpAnyH_take (i := 11) (v := ?_) rfl (by kernel_rfl) (by kernel_rfl) (by kernel_rfl) (fun _ _ _ h => h) (Or.inl ⟨by rfl, ?_⟩) hHeld ?_
  rotate_left
  · (intro w hSw; go_simp; (try with_reducible rfl))
  simp only [Act.put, List.getElem_toArray, List.getElem_cons_zero, List.getElem_cons_succ, List.setIfInBounds_toArray, List.set_cons_zero, List.set_cons_succ]
  refine wpAnyH_take (i := 12) (v := ?_) rfl (by kernel_rfl) (by kernel_rfl) (by kernel_rfl) (fun _ _ _ h => h) (Or.inl ⟨by rfl, ?_⟩) hHeld ?_
  rotate_left
  · (intro w hSw; go_simp; (try with_reducible rfl))
  simp only [Act.put, List.getElem_toArray, List.getElem_cons_zero, List.getElem_cons_succ, List.setIfInBounds_toArray, List.set_cons_zero, List.set_cons_succ]
  refine wpAnyH_take (i := 13) (v := ?_) rfl (by kernel_rfl) (by kernel_rfl) (by kernel_rfl) (fun _ _ _ h => h) (Or.inl ⟨by rfl, ?_⟩) hHeld ?_
  rotate_left
  · (intro w hSw; go_simp; (try with_reducible rfl))
  simp only [Act.put, List.getElem_toArray, List.getElem_cons_zero, List.getElem_cons_succ, List.setIfInBounds_toArray, List.set_cons_zero, List.set_cons_succ]
  refine wpAnyH_take (i := 14) (v := ?_) rfl (by kernel_rfl) (by kernel_rfl) (by kernel_rfl) (fun _ _ _ h => h) (Or.inl ⟨by rfl, ?_⟩) hHeld ?_
  rotate_left
  · (intro w hSw; go_simp; (try with_reducible rfl))
  simp only [Act.put, List.getElem_toArray, List.getElem_cons_zero, List.getElem_cons_succ, List.setIfInBounds_toArray, List.set_cons_zero, List.set_cons_succ]
  refine wpAnyH_done (by kernel_rfl) ?_ _
  clear k0 k1 k2 k3 hHeld hbd
  generalize w1.drew = w2 at *
  obtain ⟨n, hn1⟩ : ∃ n, n = e.n := ⟨_, rfl⟩
  have HN := Lib.hid hn1
  rw [← hn1] at e2 hg
  clear hn1
  by_cases h0 : n = 0
  · subst h0
    go_wp2_with fail
    go_ret
    exact ⟨by unfold grpB; rw [← HN.out]; simp, HB.out⟩
  by_cases h1 : n = 1
  · subst h1
    cases sv
    all_goals
      go_wp2_with fail
      go_ret
      exact ⟨by unfold grpB; rw [HSV.out, ← HN.out]; simp, HB.out⟩
  by_cases h2 : n = 2
  · subst h2
    cases sv
    all_goals
      go_wp2_with fail
      go_ret
      exact ⟨by unfold grpB; rw [HSV.out, ← HN.out]; simp, HB.out⟩
  obtain rfl : n = 3 := by omega
  by_cases hkk : kx = ki
  · have d0 : ((kx : Int) != (ki : Int)) = false := by simp [hkk]
    have HK := Lib.hid d0
    clear hkk
    cases sv
    all_goals
      go_wp2_with fail
      go_ret
      exact ⟨by unfold grpB; rw [HSV.out, ← HN.out, HK.out]; simp, HB.out⟩
  · have d0 : ((kx : Int) != (ki : Int)) = true := by simp; omega
    have HK := Lib.hid d0
    clear hkk
    cases sv
    all_goals
      go_wp2_with fail
      go_ret
      exact ⟨by unfold grpB; rw [HSV.out, ← HN.out, HK.out]; simp, HB.out⟩
end Go.Proofs.YtplfblccaeligaaDoor
namespace Go.Proofs.YtplfblccaeligaaDoor
open Go.RowKit Ex Mx
set_option maxRecDepth 100000
/-- Five cells with an effect's numbers. -/
def RdV (_ : World) (t : ET) (ys : Array Value) : Prop := ∃ A k c, ys = evC t.op t.n t.m t.who A k c
theorem rdV_stab (w : World) : Stab w RdV := fun _ _ _ _ _ h => h
abbrev zeroS : Array Value := #[.int .i64 0, .int .i64 0, .int .i64 0, .int .i64 0, .int .i64 0, .slice none 0 0]
theorem size6S : (Tryd.prog.info? 91).map (·.size) = some 6 := by kernel_rfl
theorem load_scC {ops : Array Oper} {rest : List Oper} {op : Oper} {a : Act} {w : World} {Q : Exit → Act → World → Prop} (hgd : op.guard = none) (x : Operand) (ho : op.op = .load 91 x)
    (b o : Nat) (hx : a.eval x = .pointer (some ⟨b, o, none⟩)) (xs : Array Value) (hs : xs.size = 6) (h : w.rangeAt b o xs.toList)
    (hK : wpList Tryd.prog ops Q rest (a.put op.dst (.agg xs)) w) : wpList Tryd.prog ops Q (op :: rest) a w := by
  refine wpList_load_mid hgd 91 x ho b o hx xs.toList _ h Tryd.underlying91 rfl (by rw [Array.length_toList, hs]; exact size6S) ?_
  rw [Array.toArray_toList]
  exact hK
def UpP (s : StT) (id : Int) (w : World) (en : Ending) (w' : World) : Prop := ∃ A n c, en = .returned (.slice A n c) ∧ EfI RdV w A n c (uponL s id (statS s)) w'
set_option linter.unusedSimpArgs false in
set_option maxHeartbeats 0 in
theorem upon_any (s : StT) (O : SlT) (L : Nat → SlT) (cs : Array Value) (id : Int) (w : World) (hR : ReadsS w.heap.size w cs s O L) (hl : (s.lists 8).length ≤ 1000000) (hin : ∀ id ∈ s.lists 8, InS s id) (hid : InS s id) :
    Calls Tryd.prog 33 #[.agg cs, .int .i64 id] w (UpP s id w) := by
  have hcs := hR.size
  have hsz : (Tryd.prog.info? 29).map (·.size) = some cs.size := by rw [hcs]; exact size37
  have hba : Below w.heap.size w (w.alloc (.cells cs 29)) := (Below.refl _ _).alloc (Nat.le_refl _) _
  have hs1 : StAt (w.alloc (.cells cs 29)) w.heap.size cs := StAt.new w cs
  have hst := fun W (hb : Below w.heap.size w W) => staticsC_any s O L cs W (hR.grow hb) hl hin
  have hre := fun W (hb : Below w.heap.size w W) x A k c h1 h2 => reaches_any s O L cs x A k c id W (hR.grow hb) hid h1 h2
  have HRE := Lib.hid hre
  have HIN := Lib.hid hin
  clear hR hre hin hid
  go_enter Tryd.func33, Tryd.ntmps33
  go_upto_region 1 with fail
  obtain ⟨w1, hw1⟩ : ∃ w1, w1 = w.alloc (.cells cs 29) := ⟨_, rfl⟩
  rw [← hw1] at hba hs1
  rw [← hw1]
  have hst1 := hst w1 hba
  obtain ⟨gs, hgs⟩ : ∃ g, g = w.heap.size := ⟨_, rfl⟩
  rw [← hgs] at hs1
  rw [← hgs]
  have HBA := Lib.hid hba
  have HS1 := Lib.hid hs1
  clear hw1 hgs hba hst
  go_wp2_with (refine wpList_load_row rfl 29 (.tmp 2) rfl gs rfl 29 _ (0, 0) _ hs1 Tryd.underlying29 rfl hsz ?_)
  refine hst1.mono ?_
  rintro en w2 ⟨AS, nS, cS, rfl, hcS, hS⟩
  have HS2 := Lib.hid (hs1.keep hS.b)
  have HB2 := Lib.hid (keepB hS.b HBA.out)
  have hnS := hS.n_
  have hlen := statL_len s (s.lists 8)
  have hq1 : nS ≤ 9000000 := by rw [hnS]; show (statL s (s.lists 8)).length ≤ 9000000; omega
  have HLN := Lib.hid hnS
  have HSI := Lib.hid hS
  have HV0 := Lib.hid (show EfI RdV w2 none 0 0 (uponL s id ((statS s).take 0)) w2 from EfI.nil_ (Below.refl _ _))
  clear hst1 hS hnS hlen hs1 HS1 hl
  go_upto_region 3 with fail
  go_loopw [5, 11] (fun v i wr => ∃ (k m3 c3 : Nat) (A3 : Option Addr), i = .int .i64 ((k : Nat) : Int) ∧ v = .slice A3 m3 c3 ∧ k ≤ nS ∧ m3 ≤ k ∧ Hid (EfI RdV w2 A3 m3 c3 (uponL s id ((statS s).take k)) wr)) (fun _ i _ => nS - (intOf i).toNat)
  case atStart => exact ⟨0, 0, 0, none, rfl, rfl, by omega, by omega, HV0⟩
  case round =>
    clear HV0
    obtain ⟨k, m3, c3, A3, rfl, rfl, hk, hmk, HV⟩ := hrel
    by_cases hlt : k < nS
    · have hks : k < (statS s).length := by rw [← HLN.out]; exact hlt
      obtain ⟨x, hx⟩ : ∃ x, (statS s)[k]? = some x := ⟨_, List.getElem?_eq_getElem hks⟩
      have hxm := List.mem_of_getElem? hx
      have HN := Lib.hid (show uponL s id ((statS s).take (k + 1)) = uponL s id ((statS s).take k) ++ (if grpB s x id = true then x.2.subs else []) from by
        rw [List.take_add_one, hx]; simp [uponL])
      have hone := (stat_one hxm).2.1
      have hxin : InS s x.1 := HIN.out _ (stat_one hxm).1
      have hgrp := stat_grp hxm
      obtain ⟨g, ys, hAS, hg, hrg, hrx⟩ := (HSI.out.keep HV.out.b).at_ hx
      subst hAS
      obtain ⟨Ae, ce, rfl⟩ := hrx.shape
      rw [hone] at hrg hrx
      obtain ⟨xs, b, o, hAe, hxs, hrs, hsub⟩ : ∃ xs b o, Ae = some ⟨b, o * 5, none⟩ ∧ xs.size = 5 ∧ wr.rangeAt b (o * 5) xs.toList ∧ (b < wr.heap.size ∧ RdV wr (sub0 x.2) xs) := by
        obtain ⟨xi, e⟩ := x
        obtain ⟨op, n, m, who, l⟩ := e
        simp only [ET.subs] at hone
        match l, hone with
        | [t], _ =>
          obtain ⟨_, _, _, _, A', c', he, _, _, hx'⟩ := hrx
          obtain ⟨b, o, xs, h1, h2, h3, _, h5⟩ := hx' 0 t rfl
          refine ⟨xs, b, o, ?_, h5.size, by rw [Nat.zero_mul, Nat.add_zero] at h3; exact h3, h2, ?_⟩
          · have : A' = Ae := by
              have h9 := congrArg (fun a : Array Value => a[4]?) he
              simp [evC] at h9
              exact h9.1.symm
            rw [← this]; exact h1
          · obtain ⟨A2, c2, e2⟩ := h5.shape
            exact ⟨A2, _, c2, e2⟩
      subst hAe
      obtain ⟨hb, hv⟩ := hsub
      have hxs1 : xs.all (·.oneCell') = true := by
        obtain ⟨A2, k2, c2, rfl⟩ := hv
        simp [evC, Value.oneCell']
      have hrS : wr.rangeAt g (k * 6) (scC x (some ⟨b, o * 5, none⟩) 1 ce).toList := hrg
      have p0 : (0 : Int) ≤ (k : Int) := by omega
      have p1 : (k : Int) < (nS : Int) := by omega
      have hnew : (wr.alloc (.cells zeroS 91)).heap[wr.heap.size]? = some (.cells zeroS 91 (0, 0)) := heap_alloc_new _ _
      have hsy : (Tryd.prog.info? 91).map (·.size) = some (scC x (some ⟨b, o * 5, none⟩) 1 ce).size := size6S
      have hy1 : (scC x (some ⟨b, o * 5, none⟩) 1 ce).all (·.oneCell') = true := by simp [scC, Value.oneCell']
      clear hrg hrx hxm hks hg hx
      go_upto_region 5 with (first
        | (refine load_scC rfl (.tmp 13) rfl g (k * 6) rfl _ rfl hrS ?_)
        | (refine wpList_store_row rfl 91 (.tmp 7) (.tmp 14) rfl wr.heap.size _ rfl rfl 91 zeroS hnew hsy rfl hy1 ?_))
      obtain ⟨w4, hw4⟩ : ∃ w4, w4 = (wr.alloc (.cells zeroS 91)).setRow wr.heap.size (scC x (some ⟨b, o * 5, none⟩) 1 ce) := ⟨_, rfl⟩
      have hA4 : w4.heap[wr.heap.size]? = some (.cells (scC x (some ⟨b, o * 5, none⟩) 1 ce) 91 (0, 0)) := by rw [hw4]; exact setRow_heap _ _ _ _ _ _ hnew
      have hb4 : Below wr.heap.size wr w4 := by rw [hw4]; exact below_setRow ((Below.refl _ _).alloc (Nat.le_refl _) _) _ _ (Nat.le_refl _)
      show Code.wp _ _ _ _ ((wr.alloc (.cells zeroS 91)).setRow wr.heap.size (scC x (some ⟨b, o * 5, none⟩) 1 ce))
      rw [← hw4]
      obtain ⟨g7, hg7⟩ : ∃ g, g = wr.heap.size := ⟨_, rfl⟩
      rw [← hg7] at hA4
      rw [← hg7]
      have hsr := HS2.out.keep (keepB hb4 HV.out.b)
      have hbw4 : Below w.heap.size w w4 := keepB (keepB hb4 HV.out.b) HB2.out
      have hrc := HRE.out w4 hbw4 x (some ⟨b, o * 5, none⟩) 1 ce hxin hgrp
      have hrs4 := range_below hb4 hb hrs
      have HV4 := Lib.hid (HV.out.keep (rdV_stab w2) hb4)
      have hb4s : b < w4.heap.size := Nat.lt_of_lt_of_le hb hb4.size
      have hg4s : g7 < w4.heap.size := (Array.getElem?_eq_some_iff.1 hA4).1
      clear hw4 hg7 hnew hy1 hrS HV hb4 hbw4 hrs hb hxin hgrp
      go_wp2_with (first
        | (refine wpList_load_row rfl 29 (.tmp 2) rfl gs rfl 29 _ (0, 0) _ hsr Tryd.underlying29 rfl hsz ?_)
        | (refine wpList_load_row rfl 91 (.tmp 7) rfl g7 rfl 91 _ (0, 0) _ hA4 Tryd.underlying91 rfl hsy ?_))
      refine hrc.mono ?_
      rintro en w5 ⟨rfl, hb5⟩
      have hrs5 := range_below hb5 hb4s hrs4
      have HV5 := Lib.hid (HV4.out.keep (rdV_stab w2) hb5)
      have hA5 := (hb5.block g7 hg4s).trans hA4
      have c5 : w5.cell? ⟨g7, 5, none⟩ = some (.slice (some ⟨b, o * 5, none⟩) 1 ce) := by rw [cell_of_row _ _ _ _ _ _ hA5]; rfl
      clear hrc hrs4 HV4 hA4 hA5 hb5 hsr hsy
      by_cases hgb : grpB s x id = true
      · rw [hgb, if_pos rfl, one_subs hone] at HN
        rw [hgb]
        obtain ⟨zs, ho, hzs⟩ := HV5.out.ex
        have hap : ∀ ty, AppX Tryd.prog w5 63 ty 65 5 A3 m3 c3 1 (.slice (some ⟨b, o * 5, none⟩) 1 ce) (zs ++ xs.toList) := fun ty => appEf ty ho hxs hxs1 hrs5 (by omega)
        have HO := Lib.hid ho
        have HZ := Lib.hid hzs
        have HVV := Lib.hid hv
        clear ho hzs hgb hone hv hrs5 hxs1
        go_wp2_with (at_builtin; refine wpList_appX rfl (.tmp 19) (.tmp 22) 63 65 5 A3 m3 c3 1 _ _ (hap _) rfl rfl rfl ?_; intro A7 c7 w7 ho7 hg7 hk7)
        have HV7 := Lib.hid (show EfI RdV w2 A7 (m3 + 1) c7 (uponL s id ((statS s).take (k + 1))) w7 from by
          rw [HN.out]
          exact HV5.out.step (rdV_stab w2) HO.out HZ.out (Below.refl _ _) hxs HVV.out ho7 hg7 hk7)
        clear ho7 hg7 hk7 hap c5
        go_roundw
        case rel => exact ⟨k + 1, _, _, _, by go_num, rfl, by omega, by omega, HV7⟩
        case measure => simp [intOf]; omega
      · have hgf : grpB s x id = false := by simpa using hgb
        rw [if_neg hgb, List.append_nil] at HN
        rw [hgf]
        have HV7 := Lib.hid (show EfI RdV w2 A3 m3 c3 (uponL s id ((statS s).take (k + 1))) w5 from by rw [HN.out]; exact HV5.out)
        clear hgb hgf hone hv hrs5 hxs1 c5
        go_wp2_with fail
        go_roundw
        case rel => exact ⟨k + 1, _, _, _, by go_num, rfl, by omega, by omega, HV7⟩
        case measure => simp [intOf]; omega
    · obtain rfl : k = nS := by omega
      have HF := Lib.hid (show EfI RdV w A3 m3 c3 (uponL s id (statS s)) wr from by
        have h := HV.out.base HB2.out
        rw [List.take_of_length_le (by rw [← HLN.out]; exact Nat.le_refl _)] at h
        exact h)
      clear HV
      go_wp2_with fail
      go_ret
      exact ⟨A3, m3, c3, rfl, HF.out⟩
end Go.Proofs.YtplfblccaeligaaDoor
