/- Layer 13: the code's Invert. -/
import Derived.Test.YtmneajmedopheaaNtBk
import Derived.Test.YtmneajmedopheaaNtEv2
import Derived.Test.YtmneajmedopheaaNtRfI
import Derived.Test.YtmneajmedopheaaEvC1i
namespace Go.Proofs.Ytmneajmedopheaa
open Go.RowKit Go.Shelf Ex
attribute [local go_sem] Oper.semAt_some
set_option maxRecDepth 100000
theorem wpIn_ldBox {F : Fence} {n : Nat} {op : Oper} {a : Act} {w : World} {K : Act → World → Prop} {Q : Exit → Act → World → Prop} (x : Operand) (ho : op.op = .load 30 x) (g : Nat) (hx : a.eval x = .pointer (some ⟨g, 0, none⟩)) (A : Option Addr) (m c : Nat)
    (h : w.heap[g]? = some (.cells #[.slice A m c] 30 (0, 0))) (hK : K (a.put op.dst (.slice A m c)) w) : op.wpIn F n Try.prog a w K Q := by
  have hc : w.cell? ⟨g, 0, none⟩ = some (.slice A m c) := by rw [cell_of_row w g 0 _ _ _ h]; rfl
  refine ⟨fun f hf => by simp [Oper.about, ho] at hf, ?_⟩
  rw [Oper.semAt_eq _ _ _ (fun c => by rw [ho]; exact Op.noConfusion)]
  unfold execOp
  simp only [ho, hx]
  go_simp
  exact hK
theorem wpIn_ldEv {F : Fence} {n : Nat} {op : Oper} {a : Act} {w : World} {K : Act → World → Prop} {Q : Exit → Act → World → Prop} (x : Operand) (ho : op.op = .load 45 x) (g : Nat) (hx : a.eval x = .pointer (some ⟨g, 0, none⟩)) (e : EvT)
    (h : EvB w g e) (hK : K (a.put op.dst (evV e)) w) : op.wpIn F n Try.prog a w K Q := by
  refine ⟨fun f hf => by simp [Oper.about, ho] at hf, ?_⟩
  rw [Oper.semAt_eq _ _ _ (fun c => by rw [ho]; exact Op.noConfusion)]
  unfold execOp
  simp only [ho, hx, Instr.loadAt, Instr.sureAddr, Sem.run_bind, Sem.run_pure, Result.andThen_ok, run_loadVar_row w g 45 45 (evC e) (0, 0) _ h Try.underlying45 rfl (ev_size e)]
  exact hK
theorem wpIn_bsEv {F : Fence} {n : Nat} {op : Oper} {a : Act} {w : World} {K : Act → World → Prop} {Q : Exit → Act → World → Prop} (x : Operand) (ho : op.op = .buildSlice 30 1 #[(0, x)]) (e : EvT)
    (hx : a.eval x = evV e) (hK : K (a.put op.dst (.slice (some ⟨w.heap.size, 0, none⟩) 1 1)) (w.alloc (.cells (evC e) 45))) : op.wpIn F n Try.prog a w K Q := by
  refine ⟨fun f hf => by simp [Oper.about, ho] at hf, ?_⟩
  rw [Oper.semAt_eq _ _ _ (fun c => by rw [ho]; exact Op.noConfusion)]
  simp [execOp, ho, hx, buildSlice_ev, Result.andThen]
  exact hK
theorem wpIn_apV {F : Fence} {n' : Nat} {o : Oper} {a : Act} {w : World} {K : Act → World → Prop} {Q : Exit → Act → World → Prop} (s x : Operand)
    (ho : o.op = .call { callee := .builtin .append, args := #[s, x], argTypes := #[30, 30] })
    (base : Nat) (A : Option Addr) (n c : Nat) (l : List EvT) (hs : a.eval s = .slice A n c) (h : OwnV w base A n c l)
    (B : Nat) (A2 : Option Addr) (m c2 : Nat) (l2 : List EvT) (hx : a.eval x = .slice A2 m c2) (hr : RdV B w A2 l2) (hl : m = l2.length) (hn : n + m ≤ 1000000) (hbase : base ≤ w.heap.size)
    (hK : ∀ A' c' w', OwnV w' base A' (n + m) c' (l ++ l2) → w.grownBy w' (Value.slice A n c).ownBlock → K (a.put o.dst (.slice A' (n + m) c')) w') :
    o.wpIn F n' Try.prog a w K Q := by
  obtain ⟨A', c', w', hrun, h1, h2, _⟩ := run_appV o.type base A n c l h B A2 m c2 l2 hr hl hn hbase
  refine ⟨?_, ?_⟩
  · simp [Oper.about, ho, resolve, Target.leads, Sem.run_pure]
  · rw [Oper.semAt_eq _ _ _ (fun c => by rw [ho]; intro h; cases h)]
    simp [execOp, ho, resolve, invoke, builtin, hs, hx, hrun, Result.andThen]
    exact hK A' c' w' h1 h2
theorem wpIn_stBox {F : Fence} {n : Nat} {op : Oper} {a : Act} {w : World} {K : Act → World → Prop} {Q : Exit → Act → World → Prop} (x y : Operand) (ho : op.op = .store 30 x y) (g : Nat) (hx : a.eval x = .pointer (some ⟨g, 0, none⟩)) (A A2 : Option Addr) (m c m2 c2 : Nat)
    (hy : a.eval y = .slice A2 m2 c2) (h : w.heap[g]? = some (.cells #[.slice A m c] 30 (0, 0))) (hK : K (a.put op.dst undef) (w.setCell ⟨g, 0, none⟩ (.slice A2 m2 c2))) : op.wpIn F n Try.prog a w K Q := by
  have hc : w.cell? ⟨g, 0, none⟩ = some (.slice A m c) := by rw [cell_of_row w g 0 _ _ _ h]; rfl
  have hf := frozen_of_row w g 0 _ _ h
  refine ⟨fun f hf => by simp [Oper.about, ho] at hf, ?_⟩
  rw [Oper.semAt_eq _ _ _ (fun c => by rw [ho]; exact Op.noConfusion)]
  unfold execOp
  simp only [ho, hx, hy]
  go_simp
  exact hK
/-- Between two rounds: the box of the opposites so far, the iterator's box. -/
structure InvJ (w : World) (bx bv : Nat) (A : Option Addr) (n c : Nat) (l : List EvT) (k : Nat) (W : World) : Prop where
  ex : ∃ A' c', W.heap[bx]? = some (.cells #[.slice A' k c'] 30 (0, 0)) ∧ OwnV W w.heap.size A' k c' ((invL l).take k)
  b : Below w.heap.size w W
  lo : w.heap.size ≤ bx
  sv : W.heap[bv]? = some (.cells #[.slice A n c] 30 (0, 0))
  ne : bv ≠ bx
theorem putObj_cells {A : World} {m : Nat} {o o' : Obj} (ho : A.heap[m]? = some o) (hc : o.isCells = false) {g : Nat} {cur : Array Value} {t : TypeId} (h : A.heap[g]? = some (.cells cur t (0, 0))) : (A.putObj m o').heap[g]? = some (.cells cur t (0, 0)) := by
  refine (World.putObj_heap_other (fun e => ?_)).trans h
  subst e
  rw [ho] at h
  injection h with h
  rw [h] at hc; cases hc
section
variable {w : World} {bx bv n c k m : Nat} {A : Option Addr} {l : List EvT}
theorem InvJ.grows : Grows (InvJ w bx bv A n c l k) := by
  rintro X Y ⟨⟨A1, c1, h1, h2⟩, h3, h4, h5, h6⟩ hb
  exact ⟨⟨A1, c1, (hb.block _ (Array.getElem?_eq_some_iff.1 h1).1).trans h1, h2.below hb⟩, keepB hb h3, h4, (hb.block _ (Array.getElem?_eq_some_iff.1 h5).1).trans h5, h6⟩
theorem InvJ.turns (hm : w.heap.size ≤ m) : Turns m (InvJ w bx bv A n c l k) := by
  rintro X p o o' hp ⟨⟨A1, c1, h1, h2⟩, h3, h4, h5, h6⟩ ho hc
  have hsz : (X.putObj p o').heap.size = X.heap.size := by simp [World.putObj]
  refine ⟨⟨A1, c1, putObj_cells ho hc h1, ⟨h2.len, owns_keep h2.o fun j hj => ?_⟩⟩, ⟨h3.os, h3.tape, h3.output, by rw [hsz]; exact h3.size, fun i hi => (World.putObj_heap_other (by omega)).trans (h3.block i hi)⟩, h4, putObj_cells ho hc h5, h6⟩
  obtain ⟨_, cur, hj2⟩ := own_ty h2.o hj
  rw [putObj_cells ho hc hj2, hj2]
theorem OwnV.ne_box {W : World} {base : Nat} {cs : Array Value} {t : TypeId} {l : List EvT} (h : OwnV W base A n c l) (hx : W.heap[bx]? = some (.cells cs t (0, 0))) (ht : t ≠ 45) : some bx ≠ (Value.slice A n c).ownBlock := fun e => by
  obtain ⟨_, cur, hc⟩ := own_ty h.o e.symm
  rw [hx] at hc
  injection hc with hc
  injection hc with _ h2
  exact ht h2
end
theorem inv_at {l : List EvT} {k : Nat} (hk : k < l.length) : (invL l).take (k + 1) = (invL l).take k ++ [invE (bkE l k)] := by
  refine take_snoc ?_
  unfold invL bkE
  rw [List.getD_eq_getElem?_getD, List.getElem?_reverse (by simpa using hk), List.getElem?_reverse hk, List.getElem?_map, List.length_map, List.getElem?_eq_getElem (by omega)]
  rfl
/-- The round's end. -/
theorem InvJ.step {w W w3 w5 : World} {bx bv n c k c4 c5 : Nat} {A A4 A5 : Option Addr} {l : List EvT} (hk : k < l.length) (hb : Below w.heap.size w W) (hlo : w.heap.size ≤ bx) (hne : bv ≠ bx) (hbx : W.heap[bx]? = some (.cells #[.slice A4 k c4] 30 (0, 0)))
    (hbv : W.heap[bv]? = some (.cells #[.slice A n c] 30 (0, 0))) (ho : OwnV W w.heap.size A4 k c4 ((invL l).take k)) (h3 : Below W.heap.size W w3)
    (ho5 : OwnV w5 w.heap.size A5 (k + 1) c5 ((invL l).take k ++ [invE (bkE l k)])) (hg5 : w3.grownBy w5 (Value.slice A4 k c4).ownBlock) :
    w5.heap[bx]? = some (.cells #[.slice A4 k c4] 30 (0, 0)) ∧ KeepsOthers W (w5.setCell ⟨bx, 0, none⟩ (.slice A5 (k + 1) c5)) ∧ InvJ w bx bv A n c l (k + 1) (w5.setCell ⟨bx, 0, none⟩ (.slice A5 (k + 1) c5)) := by
  have hbx3 := (h3.block bx (Array.getElem?_eq_some_iff.1 hbx).1).trans hbx
  have hbv3 := (h3.block bv (Array.getElem?_eq_some_iff.1 hbv).1).trans hbv
  have ho3 := ho.below h3
  have hlx := (Array.getElem?_eq_some_iff.1 hbx3).1
  have hlv := (Array.getElem?_eq_some_iff.1 hbv3).1
  have hbx5 := (hg5.block bx hlx (ho3.ne_box hbx3 (by decide))).trans hbx3
  have hbv5 := (hg5.block bv hlv (ho3.ne_box hbv3 (by decide))).trans hbv3
  have hb5 : Below w.heap.size w w5 := ho3.grown (keepB h3 hb) (Nat.le_trans hb.size h3.size) hg5
  have hcells : ∀ (j : Nat) (o : Obj), (Value.slice A4 k c4).ownBlock = some j → w3.heap[j]? = some o → o.isCells = true := fun j o hj hoo => by
    obtain ⟨_, cur, hc⟩ := own_ty ho3.o hj
    rw [hoo] at hc; injection hc with hc; rw [hc]; rfl
  have hk3 : KeepsOthers W w3 := ⟨h3.size, fun _ _ h _ => (h3.block _ (Array.getElem?_eq_some_iff.1 h).1).trans h⟩
  refine ⟨hbx5, (hk3.trans (KeepsOthers.of_grownBy hg5 hcells)).trans (KeepsOthers.setCell _ _ _), ⟨⟨A5, c5, heap_setCell_same w5 bx 0 _ _ _ hbx5, ?_⟩, hb5.setCell hlo _, hlo, (heap_setCell_other w5 ⟨bx, 0, none⟩ bv _ (by simpa using hne)).trans hbv5, hne⟩⟩
  rw [inv_at hk]
  exact ⟨ho5.len, owns_keep ho5.o fun j hj => heap_setCell_other w5 ⟨bx, 0, none⟩ j _ (fun e => ho5.ne_box hbx5 (by decide) (by rw [hj]; congr 1; exact e.symm))⟩
/-- Invert at the head of a round's body. -/
def InvM (w : World) (bx bv : Nat) (A : Option Addr) (n c : Nat) (gf : Nat) (lb : Array Value) (l : List EvT) (_lp k : Nat) (_cs : Array Value) (a' : Act) (W : World) : Prop := ∃ g,
  a' = { tmps := #[.slice A n c, undef, .slice none 0 0, .pointer (some ⟨bx, 0, none⟩), undef, .pointer (some ⟨g, 0, none⟩), .slice A n c, .int .i64 (n : Int), .slice (some ⟨w.heap.size, 0, none⟩) 0 n, .slice A n c, .func (.func gf) #[] lb, .int .i64 ((n : Int) - 1 - (k : Int)), evV (bkE l k), undef, undef, undef, undef, undef, undef], defers := [] } ∧
  InvJ w bx bv A n c l k W ∧ EvB W g (bkE l k)
theorem zip2V (t : Array Value) (p q : Nat) (u v : Value) : (#[p, q].zip #[u, v]).foldl (fun t (p, v) => t.setIfInBounds p v) t = (t.setIfInBounds p u).setIfInBounds q v := by simp
set_option linter.unusedSimpArgs false in
set_option maxHeartbeats 0 in
theorem invL_code (A : Option Addr) (n c : Nat) (l : List EvT) (w : World) (h : Evs w.heap.size w A n l) (hn : n ≤ 200) :
    Calls Try.prog 14 #[.slice A n c] w fun en w' => ∃ A' c', en = .returned (.slice A' n c') ∧ n ≤ c' ∧ Evs w'.heap.size w' A' n (invL l) ∧ Below w.heap.size w w' := by
  have H := Lib.hid h
  have HLn := Lib.hid (show l.length = n from h.n.symm)
  clear h
  refine (callsIn_wide (n := 6)).1 ?_
  refine callsIn_of_wp_marks Try.func14 rfl trivial ?_ rfl
  simp only [Try.ntmps14, List.size_toArray, List.length_cons, List.length_nil, Nat.reduceAdd, Nat.reduceSub, Array.replicate_succ, Array.replicate_zero, List.push_toArray, List.append_toArray, List.nil_append, List.cons_append]
  obtain ⟨w1, hmk, ho1, hg1⟩ : ∃ w1, (Instr.makeSlice 30 (.int .i64 0) (.int .i64 (n : Int))).run Try.prog w = .ok (.slice (some ⟨w.heap.size, 0, none⟩) 0 n) w1 ∧ OwnV w1 w.heap.size (some ⟨w.heap.size, 0, none⟩) 0 n [] ∧ w.grownBy w1 none := by
    obtain ⟨i0, hi, hz0, hz1, hz2⟩ := info_parts info_ev
    obtain ⟨W', hr, ho, hg⟩ := run_make_own (P := Try.prog) w w.heap.size 30 45 i0 _ 6 Try.underlying30 hi hz0 hz1 .i64 .i64 n (by rw [hz2]; omega) (by unfold maxLen; omega) (Nat.le_refl _)
    exact ⟨W', hr, ⟨rfl, ho⟩, hg⟩
  have hb1 : Below w.heap.size w w1 := (Below.refl _ _).grown hg1 (Nat.le_refl _) (fun _ e => by cases e)
  gi_upto_region 2 with fail
  have hb2a : Below w1.heap.size w1 (w1.alloc (.cells #[.slice (some ⟨w.heap.size, 0, none⟩) 0 n] 30)) := (Below.refl _ _).alloc (Nat.le_refl _) _
  have hb2 := keepB hb2a hb1
  have hbx2 : (w1.alloc (.cells #[.slice (some ⟨w.heap.size, 0, none⟩) 0 n] 30)).heap[w1.heap.size]? = some (.cells #[.slice (some ⟨w.heap.size, 0, none⟩) 0 n] 30 (0, 0)) := heap_alloc_new _ _
  have ho2 := ho1.below hb2a
  obtain ⟨bx, hbx⟩ : ∃ b, b = w1.heap.size := ⟨_, rfl⟩
  have hlo : w.heap.size ≤ bx := by rw [hbx]; exact hb1.size
  obtain ⟨W2, hW2⟩ : ∃ W, W = w1.alloc (.cells #[.slice (some ⟨w.heap.size, 0, none⟩) 0 n] 30) := ⟨_, rfl⟩
  rw [← hW2] at hb2 hbx2 ho2 ⊢
  rw [← hbx] at hbx2 ⊢
  have hlt2 := (Array.getElem?_eq_some_iff.1 hbx2).1
  have hba := backV_any A n c l W2 ((H.out.r.below hb2).more hb2.size) HLn.out (by omega)
  clear hW2 hbx hmk ho1 hg1 hb1 hb2a
  gi_wp2_with fail
  refine ⟨trivial, (callsIn_wide.2 hba).mono ?_⟩
  rintro e W3 ⟨hb3, gf, lb, rfl, heg, hH, hS3⟩
  clear hba
  have hlt3 := (Array.getElem?_eq_some_iff.1 hS3.box).1
  have hbx3 := (hb3.block bx hlt2).trans hbx2
  have hI3 : InvJ w bx W2.heap.size A n c l 0 W3 := ⟨⟨_, _, hbx3, by rw [List.take_zero]; exact ho2.below hb3⟩, keepB hb3 hb2, hlo, hS3.box, by omega⟩
  have hlo3 := hI3.b.size
  obtain ⟨bv, hbv⟩ : ∃ b, b = W2.heap.size := ⟨_, rfl⟩
  rw [← hbv] at hI3 hlt3 hH
  clear hbv hS3 hb2 hb3 hbx2 hbx3 ho2 hlt2
  gi_wp2_with fail
  refine range_hands (F := Fence.wide) (n := 6) rfl (by omega) (gf := gf) (lb := lb) rfl trivial heg hH (fun _ _ => rfl)
    (fun k W => InvJ w bx bv A n c l k W) (fun _ _ => False) (InvM w bx bv A n c gf lb l) (fun k => InvJ.grows) (fun k => InvJ.turns hlo3) (fun _ _ _ h _ => h) (fun _ _ _ _ _ _ h _ _ => h) ?_ (fun k B h => ⟨h.sv, (H.out.r.below h.b).more h.b.size⟩) hI3 ?_ ?_ ?_ ?_
  · rintro lp k cs a' B o o' hl ⟨g, h1, h2, h3⟩ ho hc
    exact ⟨g, h1, InvJ.turns hlo3 B lp o o' hl h2 ho hc, putObj_cells ho hc h3⟩
  · rintro lp k cs W K hl hk hC - hK
    simp only [zip2V, List.setIfInBounds_toArray, List.set_cons_succ, List.set_cons_zero]
    have hbE : Below W.heap.size W ((W.alloc (.cells (evC ev0) 45)).setRow W.heap.size (evC (bkE l k))) := below_setRow ((Below.refl _ _).alloc (Nat.le_refl _) _) _ _ (Nat.le_refl _)
    have hEE : EvB ((W.alloc (.cells (evC ev0) 45)).setRow W.heap.size (evC (bkE l k))) W.heap.size (bkE l k) := setRow_heap _ _ _ _ _ _ (heap_alloc_new _ _)
    have hz6 := ev0_is
    have hnew : (W.alloc (.cells (evC ev0) 45)).heap[W.heap.size]? = some (.cells (evC ev0) 45 (0, 0)) := heap_alloc_new _ _
    gi_wp2_with (refine store_evIn rfl (.tmp 5) (.tmp 12) rfl W.heap.size (bkE l k) rfl rfl (evC ev0) hnew rfl ?_)
    exact hK _ _ ⟨W.heap.size, rfl, InvJ.grows _ _ hC hbE, hEE⟩ ⟨hbE.size, fun _ _ h _ => (hbE.block _ (Array.getElem?_eq_some_iff.1 h).1).trans h⟩
  · rintro lp k cs a' W hl hk ⟨g, rfl, ⟨⟨A4, c4, hbx4, ho4⟩, hb4, hlo4, hbv4, hne4⟩, hE⟩
    have hkl : k < l.length := by rw [HLn.out]; exact hk
    have hbd : Below W.heap.size W W.drew := (Below.refl _ _).drew
    have hbxd : W.drew.heap[bx]? = some (.cells #[.slice A4 k c4] 30 (0, 0)) := hbx4
    have hE : EvB W.drew g (bkE l k) := hE
    gi_upto_region 4 with fail
    refine wpIn_region_any (by kernel_rfl) ?_
    show wpAnyIn _ _ _ _ _ _ _ _ _ W.drew
    refine wpAnyIn_ready (rs := [0, 1]) (by kernel_rfl) (by simp) ?_
    refine AllReadyIn.cons rfl (fun K hK => ?_) (AllReadyIn.cons rfl (fun K hK => ?_) AllReadyIn.nil)
    all_goals rw [if_pos (by rfl)]
    · skip
      refine wpIn_ldBox (.tmp 3) rfl bx rfl A4 k c4 hbxd ?_
      refine hK _ _ ?_
      clear hK K
      simp only [Act.put, List.setIfInBounds_toArray, List.set_cons_zero, List.set_cons_succ]
      refine wpAnyIn_ready (rs := [1]) (by kernel_rfl) (by simp) ?_
      refine AllReadyIn.cons rfl (fun K hK => ?_) AllReadyIn.nil
      rw [if_pos (by rfl)]
      refine wpIn_ldEv (.tmp 5) rfl g rfl (bkE l k) hE ?_
      refine hK _ _ ?_
      clear hK K
      simp only [Act.put, List.setIfInBounds_toArray, List.set_cons_zero, List.set_cons_succ]
      refine wpAnyIn_ready (rs := [2]) (by kernel_rfl) (by simp) ?_
      refine AllReadyIn.cons rfl (fun K hK => ?_) AllReadyIn.nil
      rw [if_pos (by rfl)]
      go_simp
      refine ⟨trivial, (CallsIn.inRound lp (callsIn_wide.2 (inv_code (bkE l k) W.drew))).mono ?_⟩
      rintro en w2 ⟨rfl, hb2⟩
      refine hK _ _ ?_
      clear hK K
      try simp only [Act.put, List.setIfInBounds_toArray, List.set_cons_zero, List.set_cons_succ]
      have hb2d : Below W.heap.size W w2 := keepB hb2 hbd
      have hbx2 := (hb2d.block bx (Array.getElem?_eq_some_iff.1 hbx4).1).trans hbx4
      refine wpAnyIn_ready (rs := [3]) (by kernel_rfl) (by simp) ?_
      refine AllReadyIn.cons rfl (fun K hK => ?_) AllReadyIn.nil
      rw [if_pos (by rfl)]
      refine wpIn_bsEv (.tmp 15) rfl (invE (bkE l k)) rfl ?_
      refine hK _ _ ?_
      clear hK K
      simp only [Act.put, List.setIfInBounds_toArray, List.set_cons_zero, List.set_cons_succ]
      have hb3 : Below w2.heap.size w2 (w2.alloc (.cells (evC (invE (bkE l k))) 45)) := (Below.refl _ _).alloc (Nat.le_refl _) _
      have hE3 : EvB (w2.alloc (.cells (evC (invE (bkE l k))) 45)) w2.heap.size (invE (bkE l k)) := heap_alloc_new _ _
      have hR3 := rdV_one hE3
      have hb3d := keepB hb3 hb2d
      have hbx3 := (hb3d.block bx (Array.getElem?_eq_some_iff.1 hbx4).1).trans hbx4
      have hO3 := ho4.below hb3d
      obtain ⟨w3, hw3⟩ : ∃ w3, w3 = w2.alloc (.cells (evC (invE (bkE l k))) 45) := ⟨_, rfl⟩
      rw [← hw3] at hR3 hb3d hbx3 hO3 ⊢
      have hs3 : w.heap.size ≤ w3.heap.size := Nat.le_trans hb4.size hb3d.size
      clear hE3 hb3 hw3
      refine wpAnyIn_ready (rs := [4]) (by kernel_rfl) (by simp) ?_
      refine AllReadyIn.cons rfl (fun K hK => ?_) AllReadyIn.nil
      rw [if_pos (by rfl)]
      refine wpIn_apV (.tmp 13) (.tmp 16) rfl w.heap.size A4 k c4 _ rfl hO3 _ (some ⟨w2.heap.size, 0, none⟩) 1 1 [invE (bkE l k)] rfl hR3 rfl (by omega) hs3 ?_
      intro A5 c5 w5 ho5 hg5
      obtain ⟨hbx5, hko, hJ5⟩ := InvJ.step (n := n) (c := c) (A := A) hkl hb4 hlo4 hne4 hbx4 hbv4 ho4 hb3d ho5 hg5
      refine hK _ _ ?_
      clear hK K
      simp only [Act.put, List.setIfInBounds_toArray, List.set_cons_zero, List.set_cons_succ]
      refine wpAnyIn_ready (rs := [5]) (by kernel_rfl) (by simp) ?_
      refine AllReadyIn.cons rfl (fun K hK => ?_) AllReadyIn.nil
      rw [if_pos (by rfl)]
      refine wpIn_stBox (.tmp 3) (.tmp 17) rfl bx rfl A4 A5 k c4 (k + 1) c5 rfl hbx5 ?_
      refine hK _ _ ?_
      clear hK K
      simp only [Act.put]
      refine wpAnyIn_done (by kernel_rfl) ?_ _
      exact ⟨hko, hJ5⟩
    · skip
      refine wpIn_ldEv (.tmp 5) rfl g rfl (bkE l k) hE ?_
      refine hK _ _ ?_
      clear hK K
      simp only [Act.put, List.setIfInBounds_toArray, List.set_cons_zero, List.set_cons_succ]
      refine wpAnyIn_ready (rs := [0, 2]) (by kernel_rfl) (by simp) ?_
      refine AllReadyIn.cons rfl (fun K hK => ?_) (AllReadyIn.cons rfl (fun K hK => ?_) AllReadyIn.nil)
      all_goals rw [if_pos (by rfl)]
      · skip
        refine wpIn_ldBox (.tmp 3) rfl bx rfl A4 k c4 hbxd ?_
        refine hK _ _ ?_
        clear hK K
        simp only [Act.put, List.setIfInBounds_toArray, List.set_cons_zero, List.set_cons_succ]
        refine wpAnyIn_ready (rs := [2]) (by kernel_rfl) (by simp) ?_
        refine AllReadyIn.cons rfl (fun K hK => ?_) AllReadyIn.nil
        rw [if_pos (by rfl)]
        go_simp
        refine ⟨trivial, (CallsIn.inRound lp (callsIn_wide.2 (inv_code (bkE l k) W.drew))).mono ?_⟩
        rintro en w2 ⟨rfl, hb2⟩
        refine hK _ _ ?_
        clear hK K
        try simp only [Act.put, List.setIfInBounds_toArray, List.set_cons_zero, List.set_cons_succ]
        have hb2d : Below W.heap.size W w2 := keepB hb2 hbd
        have hbx2 := (hb2d.block bx (Array.getElem?_eq_some_iff.1 hbx4).1).trans hbx4
        refine wpAnyIn_ready (rs := [3]) (by kernel_rfl) (by simp) ?_
        refine AllReadyIn.cons rfl (fun K hK => ?_) AllReadyIn.nil
        rw [if_pos (by rfl)]
        refine wpIn_bsEv (.tmp 15) rfl (invE (bkE l k)) rfl ?_
        refine hK _ _ ?_
        clear hK K
        simp only [Act.put, List.setIfInBounds_toArray, List.set_cons_zero, List.set_cons_succ]
        have hb3 : Below w2.heap.size w2 (w2.alloc (.cells (evC (invE (bkE l k))) 45)) := (Below.refl _ _).alloc (Nat.le_refl _) _
        have hE3 : EvB (w2.alloc (.cells (evC (invE (bkE l k))) 45)) w2.heap.size (invE (bkE l k)) := heap_alloc_new _ _
        have hR3 := rdV_one hE3
        have hb3d := keepB hb3 hb2d
        have hbx3 := (hb3d.block bx (Array.getElem?_eq_some_iff.1 hbx4).1).trans hbx4
        have hO3 := ho4.below hb3d
        obtain ⟨w3, hw3⟩ : ∃ w3, w3 = w2.alloc (.cells (evC (invE (bkE l k))) 45) := ⟨_, rfl⟩
        rw [← hw3] at hR3 hb3d hbx3 hO3 ⊢
        have hs3 : w.heap.size ≤ w3.heap.size := Nat.le_trans hb4.size hb3d.size
        clear hE3 hb3 hw3
        refine wpAnyIn_ready (rs := [4]) (by kernel_rfl) (by simp) ?_
        refine AllReadyIn.cons rfl (fun K hK => ?_) AllReadyIn.nil
        rw [if_pos (by rfl)]
        refine wpIn_apV (.tmp 13) (.tmp 16) rfl w.heap.size A4 k c4 _ rfl hO3 _ (some ⟨w2.heap.size, 0, none⟩) 1 1 [invE (bkE l k)] rfl hR3 rfl (by omega) hs3 ?_
        intro A5 c5 w5 ho5 hg5
        obtain ⟨hbx5, hko, hJ5⟩ := InvJ.step (n := n) (c := c) (A := A) hkl hb4 hlo4 hne4 hbx4 hbv4 ho4 hb3d ho5 hg5
        refine hK _ _ ?_
        clear hK K
        simp only [Act.put, List.setIfInBounds_toArray, List.set_cons_zero, List.set_cons_succ]
        refine wpAnyIn_ready (rs := [5]) (by kernel_rfl) (by simp) ?_
        refine AllReadyIn.cons rfl (fun K hK => ?_) AllReadyIn.nil
        rw [if_pos (by rfl)]
        refine wpIn_stBox (.tmp 3) (.tmp 17) rfl bx rfl A4 A5 k c4 (k + 1) c5 rfl hbx5 ?_
        refine hK _ _ ?_
        clear hK K
        simp only [Act.put]
        refine wpAnyIn_done (by kernel_rfl) ?_ _
        exact ⟨hko, hJ5⟩
      · skip
        go_simp
        refine ⟨trivial, (CallsIn.inRound lp (callsIn_wide.2 (inv_code (bkE l k) W.drew))).mono ?_⟩
        rintro en w2 ⟨rfl, hb2⟩
        refine hK _ _ ?_
        clear hK K
        try simp only [Act.put, List.setIfInBounds_toArray, List.set_cons_zero, List.set_cons_succ]
        have hb2d : Below W.heap.size W w2 := keepB hb2 hbd
        have hbx2 := (hb2d.block bx (Array.getElem?_eq_some_iff.1 hbx4).1).trans hbx4
        refine wpAnyIn_ready (rs := [0, 3]) (by kernel_rfl) (by simp) ?_
        refine AllReadyIn.cons rfl (fun K hK => ?_) (AllReadyIn.cons rfl (fun K hK => ?_) AllReadyIn.nil)
        all_goals rw [if_pos (by rfl)]
        · skip
          refine wpIn_ldBox (.tmp 3) rfl bx rfl A4 k c4 hbx2 ?_
          refine hK _ _ ?_
          clear hK K
          simp only [Act.put, List.setIfInBounds_toArray, List.set_cons_zero, List.set_cons_succ]
          refine wpAnyIn_ready (rs := [3]) (by kernel_rfl) (by simp) ?_
          refine AllReadyIn.cons rfl (fun K hK => ?_) AllReadyIn.nil
          rw [if_pos (by rfl)]
          refine wpIn_bsEv (.tmp 15) rfl (invE (bkE l k)) rfl ?_
          refine hK _ _ ?_
          clear hK K
          simp only [Act.put, List.setIfInBounds_toArray, List.set_cons_zero, List.set_cons_succ]
          have hb3 : Below w2.heap.size w2 (w2.alloc (.cells (evC (invE (bkE l k))) 45)) := (Below.refl _ _).alloc (Nat.le_refl _) _
          have hE3 : EvB (w2.alloc (.cells (evC (invE (bkE l k))) 45)) w2.heap.size (invE (bkE l k)) := heap_alloc_new _ _
          have hR3 := rdV_one hE3
          have hb3d := keepB hb3 hb2d
          have hbx3 := (hb3d.block bx (Array.getElem?_eq_some_iff.1 hbx4).1).trans hbx4
          have hO3 := ho4.below hb3d
          obtain ⟨w3, hw3⟩ : ∃ w3, w3 = w2.alloc (.cells (evC (invE (bkE l k))) 45) := ⟨_, rfl⟩
          rw [← hw3] at hR3 hb3d hbx3 hO3 ⊢
          have hs3 : w.heap.size ≤ w3.heap.size := Nat.le_trans hb4.size hb3d.size
          clear hE3 hb3 hw3
          refine wpAnyIn_ready (rs := [4]) (by kernel_rfl) (by simp) ?_
          refine AllReadyIn.cons rfl (fun K hK => ?_) AllReadyIn.nil
          rw [if_pos (by rfl)]
          refine wpIn_apV (.tmp 13) (.tmp 16) rfl w.heap.size A4 k c4 _ rfl hO3 _ (some ⟨w2.heap.size, 0, none⟩) 1 1 [invE (bkE l k)] rfl hR3 rfl (by omega) hs3 ?_
          intro A5 c5 w5 ho5 hg5
          obtain ⟨hbx5, hko, hJ5⟩ := InvJ.step (n := n) (c := c) (A := A) hkl hb4 hlo4 hne4 hbx4 hbv4 ho4 hb3d ho5 hg5
          refine hK _ _ ?_
          clear hK K
          simp only [Act.put, List.setIfInBounds_toArray, List.set_cons_zero, List.set_cons_succ]
          refine wpAnyIn_ready (rs := [5]) (by kernel_rfl) (by simp) ?_
          refine AllReadyIn.cons rfl (fun K hK => ?_) AllReadyIn.nil
          rw [if_pos (by rfl)]
          refine wpIn_stBox (.tmp 3) (.tmp 17) rfl bx rfl A4 A5 k c4 (k + 1) c5 rfl hbx5 ?_
          refine hK _ _ ?_
          clear hK K
          simp only [Act.put]
          refine wpAnyIn_done (by kernel_rfl) ?_ _
          exact ⟨hko, hJ5⟩
        · skip
          refine wpIn_bsEv (.tmp 15) rfl (invE (bkE l k)) rfl ?_
          refine hK _ _ ?_
          clear hK K
          simp only [Act.put, List.setIfInBounds_toArray, List.set_cons_zero, List.set_cons_succ]
          have hb3 : Below w2.heap.size w2 (w2.alloc (.cells (evC (invE (bkE l k))) 45)) := (Below.refl _ _).alloc (Nat.le_refl _) _
          have hE3 : EvB (w2.alloc (.cells (evC (invE (bkE l k))) 45)) w2.heap.size (invE (bkE l k)) := heap_alloc_new _ _
          have hR3 := rdV_one hE3
          have hb3d := keepB hb3 hb2d
          have hbx3 := (hb3d.block bx (Array.getElem?_eq_some_iff.1 hbx4).1).trans hbx4
          have hO3 := ho4.below hb3d
          obtain ⟨w3, hw3⟩ : ∃ w3, w3 = w2.alloc (.cells (evC (invE (bkE l k))) 45) := ⟨_, rfl⟩
          rw [← hw3] at hR3 hb3d hbx3 hO3 ⊢
          have hs3 : w.heap.size ≤ w3.heap.size := Nat.le_trans hb4.size hb3d.size
          clear hE3 hb3 hw3
          refine wpAnyIn_ready (rs := [0]) (by kernel_rfl) (by simp) ?_
          refine AllReadyIn.cons rfl (fun K hK => ?_) AllReadyIn.nil
          rw [if_pos (by rfl)]
          refine wpIn_ldBox (.tmp 3) rfl bx rfl A4 k c4 hbx3 ?_
          refine hK _ _ ?_
          clear hK K
          simp only [Act.put, List.setIfInBounds_toArray, List.set_cons_zero, List.set_cons_succ]
          refine wpAnyIn_ready (rs := [4]) (by kernel_rfl) (by simp) ?_
          refine AllReadyIn.cons rfl (fun K hK => ?_) AllReadyIn.nil
          rw [if_pos (by rfl)]
          refine wpIn_apV (.tmp 13) (.tmp 16) rfl w.heap.size A4 k c4 _ rfl hO3 _ (some ⟨w2.heap.size, 0, none⟩) 1 1 [invE (bkE l k)] rfl hR3 rfl (by omega) hs3 ?_
          intro A5 c5 w5 ho5 hg5
          obtain ⟨hbx5, hko, hJ5⟩ := InvJ.step (n := n) (c := c) (A := A) hkl hb4 hlo4 hne4 hbx4 hbv4 ho4 hb3d ho5 hg5
          refine hK _ _ ?_
          clear hK K
          simp only [Act.put, List.setIfInBounds_toArray, List.set_cons_zero, List.set_cons_succ]
          refine wpAnyIn_ready (rs := [5]) (by kernel_rfl) (by simp) ?_
          refine AllReadyIn.cons rfl (fun K hK => ?_) AllReadyIn.nil
          rw [if_pos (by rfl)]
          refine wpIn_stBox (.tmp 3) (.tmp 17) rfl bx rfl A4 A5 k c4 (k + 1) c5 rfl hbx5 ?_
          refine hK _ _ ?_
          clear hK K
          simp only [Act.put]
          refine wpAnyIn_done (by kernel_rfl) ?_ _
          exact ⟨hko, hJ5⟩
  · rintro D W hD0 ⟨⟨A4, c4, hbx4, ho4⟩, hb4, hlo4, hbv4, hne⟩ hD
    have cb : W.cell? ⟨bx, 0, none⟩ = some (.slice A4 n c4) := by rw [cell_of_row W bx 0 _ _ _ hbx4]; rfl
    gi_wp2_with fail
    refine ⟨by simp, .inl ⟨D, _, rfl, run_takeDeferred hD, ?_⟩⟩
    simp only [LeavesInM, LeavesIn]
    have ho6 := (InvJ.turns hlo3 W D _ (.deferred none) hD0 (show InvJ w bx bv A n c l n W from ⟨⟨A4, c4, hbx4, ho4⟩, hb4, hlo4, hbv4, hne⟩) hD rfl)
    obtain ⟨⟨A6, c6, hbx6, ho6⟩, hb6, _, _, _⟩ := ho6
    have hDx : bx ≠ D := by rintro rfl; rw [hbx4] at hD; simp at hD
    obtain ⟨rfl, rfl⟩ : A6 = A4 ∧ c6 = c4 := by simpa using hbx6.symm.trans ((World.putObj_heap_other (w := W) (o := .deferred none) (k := bx) (r := D) hDx).trans hbx4)
    rw [List.take_of_length_le (by rw [invL_len, HLn.out]; exact Nat.le_refl _)] at ho6
    exact ⟨.slice A6 n c6, by simp [results, Try.f14, go_sem], A6, c6, rfl, ho6.cap.1, ho6.evs (fun e he => by
      obtain ⟨x, hx, rfl⟩ := List.mem_map.1 (List.mem_reverse.1 he)
      exact invE_i (H.out.i x hx)), hb6⟩
  · rintro D c W hD0 h
    exact h.elim
end Go.Proofs.Ytmneajmedopheaa
