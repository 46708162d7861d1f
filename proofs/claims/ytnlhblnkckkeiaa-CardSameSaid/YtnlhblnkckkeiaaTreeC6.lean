/- Layer 6: the contract of effect's Copy. -/
import Derived.Test.YtnlhblnkckkeiaaTreeMade
namespace Go.Proofs.Ytnlhblnkckkeiaa
open Go.RowKit Ex Wx
/-- One more effect behind the list: the operation alone. -/
theorem wp_appE {o : Oper} {a : Act} {w : World} {K : Act → World → Prop} {Q : Exit → Act → World → Prop} (s x : Operand)
    (ho : o.op = .call { callee := .builtin .append, args := #[s, x], argTypes := #[40, 40] })
    (base d : Nat) (A : Option Addr) (n c : Nat) (ts : List ET) (hs : a.eval s = .slice A n c) (h : OwnE w base d A n c ts)
    (g c2 : Nat) (xs : Array Value) (hx : a.eval x = .slice (some ⟨g, 0, none⟩) 1 c2) (hg : EvAt w g xs) (t : ET)
    (hr : ReadsQ (fun b => base ≤ b ∧ b < w.heap.size ∧ some b ≠ (Value.slice A n c).ownBlock) w d xs t) (hn : n ≤ 1000) (hbase : base ≤ w.heap.size)
    (hK : ∀ A' c' w', OwnE w' base d A' (n + 1) c' (ts ++ [t]) → w.grownBy w' (Value.slice A n c).ownBlock → K (a.put o.dst (.slice A' (n + 1) c')) w') : o.wp Try.prog a w K Q := by
  obtain ⟨i0, hi, hz0, hz1, hz2⟩ := info_parts info_eff
  obtain ⟨⟨css, h1, h2, h3, h4⟩, h5⟩ := h
  have hxs := hr.size
  obtain ⟨v', w', hrun, hown, hgr, hnil, hat⟩ := run_append_own_at (P := Try.prog) w base 40 o.type 42 i0 _ 5 56 Try.underlying40 hi hz0 hz1 hz2 rfl (by omega) _ n (flatC css) h3 ⟨g, 0, none⟩ 1 c2 xs.toList (by rw [Array.length_toList, hxs])
    (fun j u hj => by rw [Addr.add_mid, Nat.zero_add, hg.cell, ← Array.getElem?_toList]; exact hj) hr.one (by unfold maxLen; omega) (by omega) hbase
  rw [← flatC_snoc] at hown
  have hform : ∃ A' c', v' = .slice A' (n + 1) c' := by
    rcases hown.2 with ⟨rfl, hz⟩ | ⟨g', cap, _, rfl, _⟩
    · omega
    · exact ⟨_, _, rfl⟩
  obtain ⟨A', c', rfl⟩ := hform
  have hsz := hgr.size
  have hfin := hK A' c' w' ⟨⟨css ++ [xs], by simp [h1], fun cs hc => by
      rcases List.mem_append.1 hc with hc | hc
      · exact h2 cs hc
      · simp at hc; subst hc; exact hxs, hown, fun i t2 cs ht hc => by
      have hq : ReadsQ (fun b => base ≤ b ∧ b < w.heap.size ∧ some b ≠ (Value.slice A n c).ownBlock) w d cs t2 := by
        by_cases e : i < ts.length
        · rw [List.getElem?_append_left e] at ht
          rw [List.getElem?_append_left (by omega)] at hc
          exact h4 i t2 cs ht hc
        · rw [List.getElem?_append_right (by omega)] at ht hc
          rw [h1] at hc
          cases hk : i - ts.length with
          | zero =>
            rw [hk] at ht hc
            simp at ht hc
            subst ht; subst hc
            exact hr
          | succ k => rw [hk] at ht; simp at ht
      refine hq.keep (fun b hb => hgr.block b hb.2.1 hb.2.2) (fun b hb => ⟨hb.1, by omega, ?_⟩)
      rcases hat with hat | hat
      · rw [hat]; exact hb.2.2
      · rw [hat]; simp; omega⟩, by simp [h5]⟩ hgr
  unfold Oper.wp execOp
  simp only [ho, resolve, invoke, builtin, Sem.run_bind, Sem.run_pure, Result.andThen_ok, List.map_toArray, List.map_cons, List.map_nil, hs, hx, hrun]
  exact hfin
theorem wp_buildSlice_eff {o : Oper} {a : Act} {w : World} {K : Act → World → Prop} {Q : Exit → Act → World → Prop} (x : Operand) (ho : o.op = .buildSlice 40 1 #[(0, x)])
    (cs : Array Value) (hs : cs.size = 5) (hx : a.eval x = .agg cs) (hK : K (a.put o.dst (.slice (some ⟨w.heap.size, 0, none⟩) 1 1)) (w.alloc (.cells cs 42))) : o.wp Try.prog a w K Q := by
  unfold Oper.wp
  simp [execOp, ho, hx, buildSlice_eff cs hs, Result.andThen]
  exact hK
theorem results_cell_one {P : Program} {fn : Func} {p : Tmp} {ty : TypeId} (h : fn.results = #[.cell p ty]) (tmps : Array Value) (w : World) (g : Nat) (t : TypeId) (cs : Array Value) (fr : Nat × Nat) (d : TypeDesc)
    (hp : tmps.getD p undef = .pointer (some ⟨g, 0, none⟩)) (hg : w.heap[g]? = some (.cells cs t fr))
    (hu : P.underlying ty = some d) (hd : (match d with | .struct _ | .array _ _ => true | _ => false) = true) (hi : (P.info? ty).map (·.size) = some cs.size) :
    (results fn tmps).run P w = .ok (.agg cs) w := by
  have hp' : tmps[p]?.getD undef = .pointer (some ⟨g, 0, none⟩) := by simpa using hp
  simp [results, h, hp', asAddr, run_loadVar_row w g t ty cs fr d hg hu hd hi]
structure CpS (w : World) (op n m who : Int) (P d : Nat) (A : Option Addr) (k c : Nat) (ts : List ET) (W : World) : Prop where
  own : OwnE W (P + 1) d A k c ts
  ev : EvAt W P (evC op n m who A k c)
  z : EvAt W (w.heap.size + 1) zeroE
  b : Below w.heap.size w W
theorem CpS.keep {w : World} {op n m who : Int} {P d : Nat} {A : Option Addr} {k c : Nat} {ts : List ET} {W W' : World} (h : CpS w op n m who P d A k c ts W) (hb : Below W.heap.size W W') : CpS w op n m who P d A k c ts W' :=
  ⟨h.own.below hb, h.ev.keep hb, h.z.keep hb, keepB hb h.b⟩
theorem CpS.store {w : World} {op n m who : Int} {P d : Nat} {A A8 : Option Addr} {k c c8 : Nat} {ts : List ET} {t : ET} {W W8 : World} (h : CpS w op n m who P d A k c ts W) (hP : w.heap.size + 1 < P)
    (ho : OwnE W8 (P + 1) d A8 (k + 1) c8 (ts ++ [t])) (hg : W.grownBy W8 (Value.slice A k c).ownBlock) :
    EvAt W8 P (evC op n m who A k c) ∧ CpS w op n m who P d A8 (k + 1) c8 (ts ++ [t]) (W8.setCell ⟨P, 4, none⟩ (.slice A8 (k + 1) c8)) := by
  have hPl := h.ev.lt
  have hown : ∀ j, j < P + 1 → some j ≠ (Value.slice A k c).ownBlock := fun j hj e => by have := h.own.ownLt j e.symm; omega
  have hev : EvAt W8 P (evC op n m who A k c) := (hg.block P h.ev.lt (hown P (by omega))).trans h.ev
  have hz := (hg.block (w.heap.size + 1) h.z.lt (hown _ (by omega))).trans h.z
  have hbw : Below w.heap.size w W8 := ⟨hg.os.trans h.b.os, hg.tape.trans h.b.tape, hg.output.trans h.b.output, Nat.le_trans h.b.size hg.size, fun j hj => (hg.block j (by have := h.z.lt; omega) (hown j (by omega))).trans (h.b.block j hj)⟩
  refine ⟨hev, ho.same (by simp) (fun b hb _ => heap_setCell_other W8 _ b _ (by simp; omega)), heap_setCell_same W8 P 4 _ _ _ hev, (heap_setCell_other W8 _ _ _ (by simp; omega)).trans hz, hbw.setCell (by simp; omega) _⟩
def CpRel (w : World) (op n m who : Int) (P d : Nat) (l : List ET) (i : Value) (W : World) : Prop :=
  ∃ (k : Nat) (A : Option Addr) (c : Nat), i = .int .i64 ((k : Nat) : Int) ∧ k ≤ l.length ∧ CpS w op n m who P d A k c (l.take k) W
/-- What Copy answers, in blocks of its own. -/
def CopyQ (d : Nat) (t : ET) (w : World) (e : Ending) (w' : World) : Prop := ∃ cs, e = .returned (.agg cs) ∧ ReadsQ (fun b => w.heap.size ≤ b ∧ b < w'.heap.size) w' d cs t ∧ Below w.heap.size w w'
set_option linter.unusedSimpArgs false in
set_option maxRecDepth 100000 in
set_option maxHeartbeats 2000000 in
theorem copy_any : ∀ (d : Nat) (t : ET) (cs : Array Value) (w : World), Reads w.heap.size w d cs t → sizeT t ≤ 1000 → Calls Try.prog 30 #[.agg cs] w (CopyQ d t w) := by
  intro d
  induction d with
  | zero => exact fun t cs w h => absurd h id
  | succ d ih =>
    intro t cs w hr hsz
    obtain ⟨op, n, m, who, l⟩ := t
    obtain ⟨i0, i1, i2, i3, A, c, hcs, hl, hc, hx⟩ := hr
    have HX := Lib.hid hx
    have HCs := Lib.hid hcs
    simp only [sizeT] at hsz
    have hlen := sizeL_len l
    clear hx hcs
    go_enter Try.func30, Try.ntmps30
    go_upto_region 1 with fail
    obtain ⟨w1, hw1⟩ : ∃ w1, w1 = (w.alloc (.cells cs 42)).alloc (.cells zeroE 42) := ⟨_, rfl⟩
    have hE : EvAt w1 w.heap.size cs := by rw [hw1]; exact (EvAt.new w cs).keep ((Below.refl _ _).alloc (Nat.le_refl _) _)
    have hZ : EvAt w1 (w.heap.size + 1) zeroE := by
      have h := EvAt.new (w.alloc (.cells cs 42)) zeroE
      rw [hw1]; simpa using h
    have hb1 : Below w.heap.size w w1 := by rw [hw1]; exact ((Below.refl _ _).alloc (Nat.le_refl _) _).alloc (by simp) _
    rw [← hw1]
    clear hw1
    have c0 : w1.cell? ⟨w.heap.size, 0, none⟩ = some (.int .i64 op) := by rw [hE.cell, HCs.out]; rfl
    have c1 : w1.cell? ⟨w.heap.size, 1, none⟩ = some (.int .i64 n) := by rw [hE.cell, HCs.out]; rfl
    have c2 : w1.cell? ⟨w.heap.size, 2, none⟩ = some (.int .i64 m) := by rw [hE.cell, HCs.out]; rfl
    have c3 : w1.cell? ⟨w.heap.size, 3, none⟩ = some (.int .i64 who) := by rw [hE.cell, HCs.out]; rfl
    go_upto_region 2 with fail
    obtain ⟨w2, hw2⟩ : ∃ w2, w2 = w1.alloc (.cells #[.int .i64 op, .int .i64 n, .int .i64 m, .int .i64 who, .slice none 0 0] 42) := ⟨_, rfl⟩
    have hb2 : Below w1.heap.size w1 w2 := by rw [hw2]; exact (Below.refl _ _).alloc (Nat.le_refl _) _
    have HP2 := Lib.hid (show EvAt w2 w1.heap.size (evC op n m who none 0 0) by rw [hw2]; exact EvAt.new _ _)
    rw [← hw2]
    clear hw2 c0 c1 c2 c3
    have c4 : w2.cell? ⟨w.heap.size, 4, none⟩ = some (.slice A l.length c) := by rw [(hE.keep hb2).cell, HCs.out]; rfl
    have hP : w.heap.size + 1 < w1.heap.size := hZ.lt
    have HS2 := Lib.hid (show CpS w op n m who w1.heap.size d none 0 0 (l.take 0) w2 from ⟨OwnE.nil _ _ _, HP2.out, hZ.keep hb2, keepB hb2 hb1⟩)
    obtain ⟨P, hPe⟩ : ∃ P, P = w1.heap.size := ⟨_, rfl⟩
    rw [← hPe] at HS2 hP ⊢
    go_upto_region 3 with fail
    clear c4 hE hZ hb1 hb2 HP2 hPe
    go_loopw [18] (fun i wr => CpRel w op n m who P d l i wr) (fun i _ => l.length - (intOf i).toNat)
    case atStart => exact ⟨0, none, 0, rfl, by omega, HS2.out⟩
    case round =>
      obtain ⟨k, A4, c4, rfl, hk, hS⟩ := hrel
      have HS := Lib.hid hS
      clear hS HS2
      by_cases hlt : k < l.length
      · obtain ⟨t, ht⟩ : ∃ t, l[k]? = some t := ⟨_, List.getElem?_eq_getElem hlt⟩
        obtain ⟨b, o, xs, rfl, hbb, hra, hrx⟩ := HX.out k t ht
        have hd : decide ((k : Int) < (l.length : Int)) = true := by simp; omega
        have hts := size_mem ht
        have HTk := Lib.hid (show l.take (k + 1) = l.take k ++ [t] by rw [List.take_add_one, ht]; rfl)
        have hk1000 : k ≤ 1000 := by omega
        have hxs := hrx.size
        have hx1 := hrx.one
        have hsx : (Try.prog.info? 42).map (·.size) = some xs.size := by rw [hxs]; exact size5
        have hraw := rangeAt_below HS.out.b hbb hra
        have hnew : (wr.alloc (.cells zeroE 42)).heap[wr.heap.size]? = some (.cells zeroE 42 (0, 0)) := heap_alloc_new _ _
        go_upto_region 4 with fail
        go_upto_region 5 with (first
          | (refine load_sub rfl (.tmp 20) rfl b (o + k * 5) rfl xs hxs hraw ?_)
          | (refine wpList_store_row rfl 42 (.tmp 5) (.tmp 21) rfl wr.heap.size _ rfl rfl 42 zeroE hnew hsx (by rw [hxs]; rfl) hx1 ?_))
        obtain ⟨wn, hwn, hEn, hbn⟩ := ev_box wr (xs := xs)
        have hSn := HS.out.keep hbn
        have hrn := hrx.grow hSn.b
        rw [← hwn]
        clear hwn hnew hraw hx1
        have hPg : P < wr.heap.size := HS.out.ev.lt
        obtain ⟨gn, hgn⟩ : ∃ g, g = wr.heap.size := ⟨_, rfl⟩
        rw [← hgn] at hEn hPg ⊢
        have hcall := fun W (hW : Below wn.heap.size wn W) => ih t xs W (hrn.grow hW) (by omega)
        refine wp_region_held_drew (S := fun W => EvAt W gn xs) (by kernel_rfl) (hEn.keep (Below.refl _ _).drew) (fun hHeld => ?_)
        have hb0 : Below wn.heap.size wn wn.drew := (Below.refl _ _).drew
        have hS0 := hSn.keep hb0
        have HNe := Lib.hid (show some gn ≠ (Value.slice A4 k c4).ownBlock from fun e => by have := HS.out.own.ownTop gn e.symm; omega)
        generalize wn.drew = W0 at hHeld hb0 hS0 ⊢
        refine wpAnyH_take (i := 0) (v := ?_) rfl (by kernel_rfl) (by kernel_rfl) (by kernel_rfl) (fun _ _ _ h => h) (Or.inl ⟨by rfl, ?_⟩) hHeld ?_
        rotate_left
        · (intro w hSw; go_simp; (try with_reducible rfl))
        simp only [Act.put, List.getElem_toArray, List.getElem_cons_zero, List.getElem_cons_succ, List.setIfInBounds_toArray, List.set_cons_zero, List.set_cons_succ]
        refine wpAnyH_take (i := 2) (v := .agg xs) rfl (by kernel_rfl) (by kernel_rfl) (by kernel_rfl) (fun _ _ _ h => h) (yieldsEv (by rfl) (.tmp 5) rfl gn rfl xs (fun W hW => hW) hsx) hHeld ?_
        simp only [Act.put, List.getElem_toArray, List.getElem_cons_zero, List.getElem_cons_succ, List.setIfInBounds_toArray, List.set_cons_zero, List.set_cons_succ]
        refine wpAnyH_ready (rs := [1, 3]) (by kernel_rfl) (by simp) ?_
        refine AllReadyH.cons rfl (fun K hK => ?_) (AllReadyH.cons rfl (fun K hK => ?_) AllReadyH.nil)
        all_goals simp only [List.getElem_toArray, List.getElem_cons_zero, List.getElem_cons_succ]
        · skip
          have q0 : W0.cell? ⟨P, 4, none⟩ = some (.slice A4 k c4) := by rw [hS0.ev.cell]; rfl
          go_simp
          refine hK.out _ _ hHeld (fun _ => ?_)
          clear hK K
          try simp only [Act.put, List.setIfInBounds_toArray, List.set_cons_zero, List.set_cons_succ]
          clear q0
          refine wpAnyH_ready (rs := [3]) (by kernel_rfl) (by simp) ?_
          refine AllReadyH.cons rfl (fun K hK => ?_) AllReadyH.nil
          simp only [List.getElem_toArray, List.getElem_cons_zero, List.getElem_cons_succ]
          go_simp
          refine (hcall _ hb0).mono ?_
          rintro e w5 ⟨cs5, rfl, hr5, hb5⟩
          have hS5 := hS0.keep hb5
          have hH5 := EvAt.keep hHeld hb5
          have hs5 := hr5.size
          have hlt5 : P < W0.heap.size := hS0.ev.lt
          have hr5 := hr5.keep (Q' := fun b => P + 1 ≤ b ∧ b < w5.heap.size ∧ some b ≠ (Value.slice A4 k c4).ownBlock) (fun _ _ => rfl) (fun b hq => ⟨by omega, hq.2, fun e => by have := hS0.own.ownTop b e.symm; omega⟩)
          go_wp2_with fail
          refine hK.out _ _ hH5 (fun _ => ?_)
          clear hK K
          try simp only [Act.put, List.setIfInBounds_toArray, List.set_cons_zero, List.set_cons_succ]
          refine wpAnyH_ready (rs := [4]) (by kernel_rfl) (by simp) ?_
          refine AllReadyH.cons rfl (fun K hK => ?_) AllReadyH.nil
          simp only [List.getElem_toArray, List.getElem_cons_zero, List.getElem_cons_succ]
          refine wp_buildSlice_eff (.tmp 25) rfl cs5 hs5 rfl ?_
          have hb7 : Below w5.heap.size w5 (w5.alloc (.cells cs5 42)) := (Below.refl _ _).alloc (Nat.le_refl _) _
          have hX7 : EvAt (w5.alloc (.cells cs5 42)) w5.heap.size cs5 := EvAt.new _ _
          have hS7 := hS5.keep hb7
          have hH7 := EvAt.keep hH5 hb7
          have hr7 := hr5.keep (Q' := fun b => P + 1 ≤ b ∧ b < (w5.alloc (.cells cs5 42)).heap.size ∧ some b ≠ (Value.slice A4 k c4).ownBlock) (fun b hq => hb7.block b hq.2.1) (fun b hq => ⟨hq.1, by have := hb7.size; omega, hq.2.2⟩)
          generalize hw7 : w5.alloc (.cells cs5 42) = w7 at hb7 hX7 hS7 hH7 hr7 ⊢
          clear hw7
          refine hK.out _ _ hH7 (fun _ => ?_)
          clear hK K
          try simp only [Act.put, List.setIfInBounds_toArray, List.set_cons_zero, List.set_cons_succ]
          refine wpAnyH_ready (rs := [5]) (by kernel_rfl) (by simp) ?_
          refine AllReadyH.cons rfl (fun K hK => ?_) AllReadyH.nil
          simp only [List.getElem_toArray, List.getElem_cons_zero, List.getElem_cons_succ]
          refine wp_appE (.tmp 23) (.tmp 26) rfl (P + 1) d A4 k c4 (l.take k) rfl hS7.own w5.heap.size 1 cs5 rfl hX7 t hr7 hk1000 (by have := hS7.ev.lt; omega) ?_
          intro A8 c8 w8 hO8 hg8
          obtain ⟨hev8, hfin⟩ := hS7.store hP hO8 hg8
          have hX8 : EvAt w8 gn xs := (hg8.block gn hH7.lt (fun e => by have := hS0.own.ownTop gn e.symm; exact HNe.out e)).trans hH7
          have q1 : w8.cell? ⟨P, 4, none⟩ = some (.slice A4 k c4) := by rw [hev8.cell]; rfl
          have q2 := frozen_of_row w8 P 4 _ _ hev8
          refine hK.out _ _ hX8 (fun _ => ?_)
          clear hK K
          try simp only [Act.put, List.setIfInBounds_toArray, List.set_cons_zero, List.set_cons_succ]
          refine wpAnyH_ready (rs := [6]) (by kernel_rfl) (by simp) ?_
          refine AllReadyH.cons rfl (fun K hK => ?_) AllReadyH.nil
          simp only [List.getElem_toArray, List.getElem_cons_zero, List.getElem_cons_succ]
          go_simp
          refine hK.out _ _ hX8 (fun _ => ?_)
          clear hK K
          try simp only [Act.put, List.setIfInBounds_toArray, List.set_cons_zero, List.set_cons_succ]
          refine wpAnyH_ready (rs := [7]) (by kernel_rfl) (by simp) ?_
          refine AllReadyH.cons rfl (fun K hK => ?_) AllReadyH.nil
          simp only [List.getElem_toArray, List.getElem_cons_zero, List.getElem_cons_succ]
          go_simp
          refine hK.out _ _ ((heap_setCell_other w8 _ gn _ (by simp; omega)).trans hX8) (fun _ => ?_)
          clear hK K
          try simp only [Act.put, List.setIfInBounds_toArray, List.set_cons_zero, List.set_cons_succ]
          refine wpAnyH_done (by kernel_rfl) ?_ _
          rw [← HTk.out] at hfin
          have HFin := Lib.hid hfin
          clear q1 q2 hfin hev8 hX8 hO8 hg8
          go_wp2_with fail
          go_roundw
          case rel => exact ⟨k + 1, A8, c8, by go_num, by omega, HFin.out⟩
          case measure => simp [intOf]; omega
        · skip
          go_simp
          refine (hcall _ hb0).mono ?_
          rintro e w5 ⟨cs5, rfl, hr5, hb5⟩
          have hS5 := hS0.keep hb5
          have hH5 := EvAt.keep hHeld hb5
          have hs5 := hr5.size
          have hlt5 : P < W0.heap.size := hS0.ev.lt
          have hr5 := hr5.keep (Q' := fun b => P + 1 ≤ b ∧ b < w5.heap.size ∧ some b ≠ (Value.slice A4 k c4).ownBlock) (fun _ _ => rfl) (fun b hq => ⟨by omega, hq.2, fun e => by have := hS0.own.ownTop b e.symm; omega⟩)
          go_wp2_with fail
          refine hK.out _ _ hH5 (fun _ => ?_)
          clear hK K
          try simp only [Act.put, List.setIfInBounds_toArray, List.set_cons_zero, List.set_cons_succ]
          refine wpAnyH_ready (rs := [1, 4]) (by kernel_rfl) (by simp) ?_
          refine AllReadyH.cons rfl (fun K hK => ?_) (AllReadyH.cons rfl (fun K hK => ?_) AllReadyH.nil)
          all_goals simp only [List.getElem_toArray, List.getElem_cons_zero, List.getElem_cons_succ]
          · skip
            have q0 : w5.cell? ⟨P, 4, none⟩ = some (.slice A4 k c4) := by rw [hS5.ev.cell]; rfl
            go_simp
            refine hK.out _ _ hH5 (fun _ => ?_)
            clear hK K
            try simp only [Act.put, List.setIfInBounds_toArray, List.set_cons_zero, List.set_cons_succ]
            clear q0
            refine wpAnyH_ready (rs := [4]) (by kernel_rfl) (by simp) ?_
            refine AllReadyH.cons rfl (fun K hK => ?_) AllReadyH.nil
            simp only [List.getElem_toArray, List.getElem_cons_zero, List.getElem_cons_succ]
            refine wp_buildSlice_eff (.tmp 25) rfl cs5 hs5 rfl ?_
            have hb7 : Below w5.heap.size w5 (w5.alloc (.cells cs5 42)) := (Below.refl _ _).alloc (Nat.le_refl _) _
            have hX7 : EvAt (w5.alloc (.cells cs5 42)) w5.heap.size cs5 := EvAt.new _ _
            have hS7 := hS5.keep hb7
            have hH7 := EvAt.keep hH5 hb7
            have hr7 := hr5.keep (Q' := fun b => P + 1 ≤ b ∧ b < (w5.alloc (.cells cs5 42)).heap.size ∧ some b ≠ (Value.slice A4 k c4).ownBlock) (fun b hq => hb7.block b hq.2.1) (fun b hq => ⟨hq.1, by have := hb7.size; omega, hq.2.2⟩)
            generalize hw7 : w5.alloc (.cells cs5 42) = w7 at hb7 hX7 hS7 hH7 hr7 ⊢
            clear hw7
            refine hK.out _ _ hH7 (fun _ => ?_)
            clear hK K
            try simp only [Act.put, List.setIfInBounds_toArray, List.set_cons_zero, List.set_cons_succ]
            refine wpAnyH_ready (rs := [5]) (by kernel_rfl) (by simp) ?_
            refine AllReadyH.cons rfl (fun K hK => ?_) AllReadyH.nil
            simp only [List.getElem_toArray, List.getElem_cons_zero, List.getElem_cons_succ]
            refine wp_appE (.tmp 23) (.tmp 26) rfl (P + 1) d A4 k c4 (l.take k) rfl hS7.own w5.heap.size 1 cs5 rfl hX7 t hr7 hk1000 (by have := hS7.ev.lt; omega) ?_
            intro A8 c8 w8 hO8 hg8
            obtain ⟨hev8, hfin⟩ := hS7.store hP hO8 hg8
            have hX8 : EvAt w8 gn xs := (hg8.block gn hH7.lt (fun e => by have := hS0.own.ownTop gn e.symm; exact HNe.out e)).trans hH7
            have q1 : w8.cell? ⟨P, 4, none⟩ = some (.slice A4 k c4) := by rw [hev8.cell]; rfl
            have q2 := frozen_of_row w8 P 4 _ _ hev8
            refine hK.out _ _ hX8 (fun _ => ?_)
            clear hK K
            try simp only [Act.put, List.setIfInBounds_toArray, List.set_cons_zero, List.set_cons_succ]
            refine wpAnyH_ready (rs := [6]) (by kernel_rfl) (by simp) ?_
            refine AllReadyH.cons rfl (fun K hK => ?_) AllReadyH.nil
            simp only [List.getElem_toArray, List.getElem_cons_zero, List.getElem_cons_succ]
            go_simp
            refine hK.out _ _ hX8 (fun _ => ?_)
            clear hK K
            try simp only [Act.put, List.setIfInBounds_toArray, List.set_cons_zero, List.set_cons_succ]
            refine wpAnyH_ready (rs := [7]) (by kernel_rfl) (by simp) ?_
            refine AllReadyH.cons rfl (fun K hK => ?_) AllReadyH.nil
            simp only [List.getElem_toArray, List.getElem_cons_zero, List.getElem_cons_succ]
            go_simp
            refine hK.out _ _ ((heap_setCell_other w8 _ gn _ (by simp; omega)).trans hX8) (fun _ => ?_)
            clear hK K
            try simp only [Act.put, List.setIfInBounds_toArray, List.set_cons_zero, List.set_cons_succ]
            refine wpAnyH_done (by kernel_rfl) ?_ _
            rw [← HTk.out] at hfin
            have HFin := Lib.hid hfin
            clear q1 q2 hfin hev8 hX8 hO8 hg8
            go_wp2_with fail
            go_roundw
            case rel => exact ⟨k + 1, A8, c8, by go_num, by omega, HFin.out⟩
            case measure => simp [intOf]; omega
          · skip
            refine wp_buildSlice_eff (.tmp 25) rfl cs5 hs5 rfl ?_
            have hb7 : Below w5.heap.size w5 (w5.alloc (.cells cs5 42)) := (Below.refl _ _).alloc (Nat.le_refl _) _
            have hX7 : EvAt (w5.alloc (.cells cs5 42)) w5.heap.size cs5 := EvAt.new _ _
            have hS7 := hS5.keep hb7
            have hH7 := EvAt.keep hH5 hb7
            have hr7 := hr5.keep (Q' := fun b => P + 1 ≤ b ∧ b < (w5.alloc (.cells cs5 42)).heap.size ∧ some b ≠ (Value.slice A4 k c4).ownBlock) (fun b hq => hb7.block b hq.2.1) (fun b hq => ⟨hq.1, by have := hb7.size; omega, hq.2.2⟩)
            generalize hw7 : w5.alloc (.cells cs5 42) = w7 at hb7 hX7 hS7 hH7 hr7 ⊢
            clear hw7
            refine hK.out _ _ hH7 (fun _ => ?_)
            clear hK K
            try simp only [Act.put, List.setIfInBounds_toArray, List.set_cons_zero, List.set_cons_succ]
            refine wpAnyH_ready (rs := [1]) (by kernel_rfl) (by simp) ?_
            refine AllReadyH.cons rfl (fun K hK => ?_) AllReadyH.nil
            simp only [List.getElem_toArray, List.getElem_cons_zero, List.getElem_cons_succ]
            have q0 : w7.cell? ⟨P, 4, none⟩ = some (.slice A4 k c4) := by rw [hS7.ev.cell]; rfl
            go_simp
            refine hK.out _ _ hH7 (fun _ => ?_)
            clear hK K
            try simp only [Act.put, List.setIfInBounds_toArray, List.set_cons_zero, List.set_cons_succ]
            clear q0
            refine wpAnyH_ready (rs := [5]) (by kernel_rfl) (by simp) ?_
            refine AllReadyH.cons rfl (fun K hK => ?_) AllReadyH.nil
            simp only [List.getElem_toArray, List.getElem_cons_zero, List.getElem_cons_succ]
            refine wp_appE (.tmp 23) (.tmp 26) rfl (P + 1) d A4 k c4 (l.take k) rfl hS7.own w5.heap.size 1 cs5 rfl hX7 t hr7 hk1000 (by have := hS7.ev.lt; omega) ?_
            intro A8 c8 w8 hO8 hg8
            obtain ⟨hev8, hfin⟩ := hS7.store hP hO8 hg8
            have hX8 : EvAt w8 gn xs := (hg8.block gn hH7.lt (fun e => by have := hS0.own.ownTop gn e.symm; exact HNe.out e)).trans hH7
            have q1 : w8.cell? ⟨P, 4, none⟩ = some (.slice A4 k c4) := by rw [hev8.cell]; rfl
            have q2 := frozen_of_row w8 P 4 _ _ hev8
            refine hK.out _ _ hX8 (fun _ => ?_)
            clear hK K
            try simp only [Act.put, List.setIfInBounds_toArray, List.set_cons_zero, List.set_cons_succ]
            refine wpAnyH_ready (rs := [6]) (by kernel_rfl) (by simp) ?_
            refine AllReadyH.cons rfl (fun K hK => ?_) AllReadyH.nil
            simp only [List.getElem_toArray, List.getElem_cons_zero, List.getElem_cons_succ]
            go_simp
            refine hK.out _ _ hX8 (fun _ => ?_)
            clear hK K
            try simp only [Act.put, List.setIfInBounds_toArray, List.set_cons_zero, List.set_cons_succ]
            refine wpAnyH_ready (rs := [7]) (by kernel_rfl) (by simp) ?_
            refine AllReadyH.cons rfl (fun K hK => ?_) AllReadyH.nil
            simp only [List.getElem_toArray, List.getElem_cons_zero, List.getElem_cons_succ]
            go_simp
            refine hK.out _ _ ((heap_setCell_other w8 _ gn _ (by simp; omega)).trans hX8) (fun _ => ?_)
            clear hK K
            try simp only [Act.put, List.setIfInBounds_toArray, List.set_cons_zero, List.set_cons_succ]
            refine wpAnyH_done (by kernel_rfl) ?_ _
            rw [← HTk.out] at hfin
            have HFin := Lib.hid hfin
            clear q1 q2 hfin hev8 hX8 hO8 hg8
            go_wp2_with fail
            go_roundw
            case rel => exact ⟨k + 1, A8, c8, by go_num, by omega, HFin.out⟩
            case measure => simp [intOf]; omega
      · obtain rfl : k = l.length := by omega
        have hd : decide ((l.length : Int) < (l.length : Int)) = false := by simp
        rw [List.take_length] at HS
        have hwi := HS.out.own.within (B := wr.heap.size) (Nat.le_refl _)
        have hR := Lib.hid (show ReadsQ (fun b => P ≤ b ∧ b < wr.heap.size) wr (d + 1) (evC op n m who A4 l.length c4) (.node op n m who l) from by
          refine ⟨i0, i1, i2, i3, A4, c4, rfl, hwi.1, hwi.2.1, fun j t hj => ?_⟩
          obtain ⟨g, o, ys, e1, hg, hra, hfz, hrd⟩ := hwi.2.2 j t hj
          exact ⟨g, o, ys, e1, ⟨by omega, hg.2⟩, hra, hfz, hrd.keep (fun _ _ => rfl) (fun b hq => ⟨by omega, hq.2⟩)⟩)
        obtain ⟨cs9, hcs9⟩ : ∃ cs, cs = evC op n m who A4 l.length c4 := ⟨_, rfl⟩
        have hP9 := HS.out.ev
        have hz9 := HS.out.z
        have hb9 := HS.out.b
        rw [← hcs9] at hP9 hR
        have h19 : cs9.all (·.oneCell') = true := by rw [hcs9]; exact ev_one _ _ _ _ _ _ _
        have hs9 : cs9.size = 5 := by rw [hcs9]; rfl
        have hsx9 : (Try.prog.info? 42).map (·.size) = some cs9.size := by rw [hs9]; exact size5
        clear hcs9 hwi
        go_wp2_with (first
          | (refine wpList_load_row rfl 42 (.tmp 3) rfl P rfl 42 _ (0, 0) _ hP9 Try.underlying42 rfl hsx9 ?_)
          | (refine wpList_store_row rfl 42 (.tmp 2) (.tmp 30) rfl (w.heap.size + 1) _ rfl rfl 42 zeroE hz9 hsx9 (by rw [hs9]; rfl) h19 ?_))
        refine bodyPost_ret (v := .agg cs9) ?_ rfl ⟨cs9, rfl, hR.out.keep (fun b hq => setRow_other wr _ b _ (by omega)) (fun b hq => ⟨by omega, by simp; exact hq.2⟩), below_setRow hb9 _ _ (by omega)⟩
        exact results_cell_one (ty := 42) (p := 2) (by kernel_rfl) _ _ (w.heap.size + 1) 42 _ (0, 0) _ rfl (setRow_heap _ _ _ _ _ _ hz9) Try.underlying42 rfl hsx9
end Go.Proofs.Ytnlhblnkckkeiaa
