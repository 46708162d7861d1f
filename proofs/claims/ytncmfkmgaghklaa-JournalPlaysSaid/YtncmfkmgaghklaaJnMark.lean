/- Layer 14: the document's Mark. -/
import Derived.Test.YtncmfkmgaghklaaJnNew
import Derived.Test.YtncmfkmgaghklaaReg
namespace Go.Proofs.Ytncmfkmgaghklaa
open Go.RowKit Ex
set_option maxRecDepth 100000
theorem wp_appQ {o : Oper} {a : Act} {w : World} {K : Act → World → Prop} {Q : Exit → Act → World → Prop} (s x : Operand)
    (ho : o.op = .call { callee := .builtin .append, args := #[s, x], argTypes := #[27, 27] })
    (base : Nat) (A : Option Addr) (n c : Nat) (l : List QT) (hs : a.eval s = .slice A n c) (h : OwnQ w base A n c l)
    (B : Nat) (b2 o2 m c2 : Nat) (l2 : List QT) (hx : a.eval x = .slice (some ⟨b2, o2, none⟩) m c2) (hr : RdQ B w (some ⟨b2, o2, none⟩) l2) (hl : m = l2.length) (hn : n + m ≤ 1000000) (hbase : base ≤ w.heap.size)
    (hK : ∀ A' c' w', OwnQ w' base A' (n + m) c' (l ++ l2) → w.grownBy w' (Value.slice A n c).ownBlock → K (a.put o.dst (.slice A' (n + m) c')) w') :
    o.wp Try.prog a w K Q := by
  obtain ⟨i0, hi, hz0, hz1, hz2⟩ := info_parts info_part
  refine wp_append_own w s x 27 ho base 66 i0 _ 2 32 Try.underlying27 hi hz0 hz1 hz2 rfl (by omega) _ n (flatQ l) hs h.o ⟨b2, o2, none⟩ m c2 (flatQ l2) hx (by rw [flatQ_len, hl])
    (fun j u hj => ?_) (flatQ_one l2) (by unfold maxLen; omega) (by omega) hbase ?_
  · obtain ⟨q, h1, h2⟩ := flatQ_of hj
    obtain ⟨b, off, ea, _, hra⟩ := hr _ _ h1
    injection ea with ea
    injection ea with e1 e2
    subst e1 e2
    rw [Addr.add_mid, show o2 + j = o2 + j / 2 * 2 + j % 2 by omega]
    exact hra _ _ h2
  · intro v' w' hown hgr _
    rw [← flatQ_app] at hown
    have hform : ∃ A' c', v' = .slice A' (n + m) c' := by
      rcases hown.2 with ⟨rfl, hz⟩ | ⟨g', cap, _, rfl, _⟩
      · exact ⟨none, 0, by rw [hz]⟩
      · exact ⟨_, _, rfl⟩
    obtain ⟨A', c', rfl⟩ := hform
    exact hK A' c' w' ⟨by rw [List.length_append, ← hl, ← h.len], hown⟩ hgr
/-- The document's journal in a box. -/
def JBox (W : World) (g : Nat) (A : Option Addr) (n c : Nat) (x : Int) : Prop := W.heap[g]? = some (.cells #[.slice A n c, .int .i64 x] 29 (0, 0))
theorem JBox.lt {W : World} {g n c : Nat} {A : Option Addr} {x : Int} (h : JBox W g A n c x) : g < W.heap.size := (Array.getElem?_eq_some_iff.1 h).1
theorem JBox.keep {W W' : World} {g n c : Nat} {A : Option Addr} {x : Int} (h : JBox W g A n c x) (hb : Below W.heap.size W W') : JBox W' g A n c x := (hb.block g h.lt).trans h
theorem JBox.app {W W' : World} {g n c base m k : Nat} {A A2 : Option Addr} {x : Int} {l : List QT} (h : JBox W g A n c x) (ho : OwnQ W base A2 m k l) (hg : W.grownBy W' (Value.slice A2 m k).ownBlock) : JBox W' g A n c x := by
  refine (hg.block g h.lt (fun e => ?_)).trans h
  obtain ⟨_, cur, hc⟩ := own_ty ho.o e.symm
  exact absurd (ty_same hc h) (by decide)
theorem OwnQ.grown {w W W' : World} {base n c : Nat} {A : Option Addr} {l : List QT} (h : OwnQ W base A n c l) (hb : Below base w W) (hbs : base ≤ W.heap.size) (hg : W.grownBy W' (Value.slice A n c).ownBlock) : Below base w W' :=
  hb.grown hg hbs (fun j hj => (h.o.lt j hj).1)
theorem part_zero (x : Int) (W : World) : (Instr.build 66 #[(0, .int .i64 x)]).run Try.prog W = .ok (.agg #[.int .i64 x, .slice none 0 0]) W := by kernel_rfl
theorem jr_build (A : Option Addr) (n c : Nat) (x : Int) (W : World) : (Instr.build 29 #[(0, .slice A n c), (1, .int .i64 x)]).run Try.prog W = .ok (.agg #[.slice A n c, .int .i64 x]) W := by kernel_rfl
theorem RdQ.below {B : Nat} {w w' : World} {A : Option Addr} {l : List QT} (h : RdQ B w A l) (hb : Below B w w') : RdQ B w' A l := fun i q hq => by
  obtain ⟨b, off, h1, h2, h3⟩ := h i q hq
  exact ⟨b, off, h1, h2, range_below hb h2 h3⟩
theorem OwnQ.cap {W : World} {base n c : Nat} {A : Option Addr} {l : List QT} (h : OwnQ W base A n c l) : n ≤ c := by
  rcases h.o.2 with ⟨hv, hz⟩ | ⟨g, cap, cur, hv, _, _, hc, _⟩
  · omega
  · injection hv with _ _ h3
    omega
set_option linter.unusedSimpArgs false in
set_option maxHeartbeats 0 in
theorem markRef_any (A : Option Addr) (n cc : Nat) (x : Int) (l : List QT) (w : World) (hR : RdQ w.heap.size w A l) (hnl : n = l.length) (hne : 0 < n) (hn : n ≤ 100000) (hl0 : 0 ≤ x) (hl1 : x ≤ 1000000) :
    Calls Try.prog 14 #[.agg #[.slice A n cc, .int .i64 x]] w fun en w' => ∃ A' c', en = .returned (.agg #[.slice A' (n + 1) c', .int .i64 (x + 1)]) ∧ OwnQ w' w.heap.size A' (n + 1) c' (l ++ [⟨x + 1, ⟨none, 0, 0⟩⟩]) ∧ Below w.heap.size w w' := by
  obtain ⟨b, off, rfl, hx1, hx2⟩ := hR 0 _ (List.getElem?_eq_getElem (show 0 < l.length by omega))
  clear hx1 hx2
  have HR := Lib.hid hR
  have HN := Lib.hid (And.intro hnl hn)
  obtain ⟨m, hm⟩ : ∃ m, m = x + 1 := ⟨_, rfl⟩
  have HM := Lib.hid hm
  have em : IntKind.i64.wrap (x + 1) = m := by rw [i64_in (by omega) (by omega), hm]
  clear hR hnl hm hn hne
  go_enter Try.func14, Try.ntmps14
  go_upto_region 1 with fail
  rename_i K0 hK0
  have hb0 : Below w.heap.size w (w.alloc (.cells #[.slice (some ⟨b, off, none⟩) n cc, .int .i64 x] 29)) := (Below.refl _ _).alloc (Nat.le_refl _) _
  have hb1 : Below (w.alloc (.cells #[.slice (some ⟨b, off, none⟩) n cc, .int .i64 x] 29)).heap.size (w.alloc (.cells #[.slice (some ⟨b, off, none⟩) n cc, .int .i64 x] 29)) ((w.alloc (.cells #[.slice (some ⟨b, off, none⟩) n cc, .int .i64 x] 29)).alloc (.cells #[.slice none 0 0, .int .i64 0] 29)) := (Below.refl _ _).alloc (Nat.le_refl _) _
  have hj1 : JBox ((w.alloc (.cells #[.slice (some ⟨b, off, none⟩) n cc, .int .i64 x] 29)).alloc (.cells #[.slice none 0 0, .int .i64 0] 29)) w.heap.size (some ⟨b, off, none⟩) n cc x := JBox.keep (heap_alloc_new _ _) hb1
  have hr1 : JBox ((w.alloc (.cells #[.slice (some ⟨b, off, none⟩) n cc, .int .i64 x] 29)).alloc (.cells #[.slice none 0 0, .int .i64 0] 29)) (w.heap.size + 1) none 0 0 0 := by
    have := heap_alloc_new (w.alloc (.cells #[.slice (some ⟨b, off, none⟩) n cc, .int .i64 x] 29)) (.cells #[.slice none 0 0, .int .i64 0] 29)
    rwa [World.size_alloc] at this
  have hbw := keepB hb1 hb0
  obtain ⟨w1, hw1⟩ : ∃ w1, w1 = (w.alloc (.cells #[.slice (some ⟨b, off, none⟩) n cc, .int .i64 x] 29)).alloc (.cells #[.slice none 0 0, .int .i64 0] 29) := ⟨_, rfl⟩
  rw [← hw1] at hj1 hr1 hbw
  rw [← hw1]
  obtain ⟨gj, hgj⟩ : ∃ g, g = w.heap.size := ⟨_, rfl⟩
  obtain ⟨gr, hgr⟩ : ∃ g, g = w.heap.size + 1 := ⟨_, rfl⟩
  rw [← hgr] at hr1
  rw [← hgj] at hj1
  rw [← hgj, show gj + 1 = gr by omega]
  have HG := Lib.hid (show gj = w.heap.size ∧ gr = w.heap.size + 1 from ⟨hgj, hgr⟩)
  clear hw1 hb0 hb1 hgj hgr
  have k0 : ∀ W, JBox W gj (some ⟨b, off, none⟩) n cc x → W.cell? ⟨gj, 0, none⟩ = some (.slice (some ⟨b, off, none⟩) n cc) := fun W h => cell_of_row W gj 0 _ _ _ h
  have k1 : ∀ W, JBox W gj (some ⟨b, off, none⟩) n cc x → W.cell? ⟨gj, 1, none⟩ = some (.int .i64 x) := fun W h => cell_of_row W gj 1 _ _ _ h
  refine wp_region_held_drew (S := fun W => JBox W gj (some ⟨b, off, none⟩) n cc x) (by kernel_rfl) (show JBox w1.drew gj _ n cc x from hj1) (fun hHeld => ?_)
  refine wpAnyH_take (i := 1) (v := ?_) rfl (by kernel_rfl) (by kernel_rfl) (by kernel_rfl) (fun _ _ _ h => h) (Or.inl ⟨by rfl, ?_⟩) hHeld ?_
  rotate_left
  · (intro w hSw; go_simp; (try with_reducible rfl))
  simp only [Act.put, List.getElem_toArray, List.getElem_cons_zero, List.getElem_cons_succ, List.setIfInBounds_toArray, List.set_cons_zero, List.set_cons_succ]
  refine wpAnyH_take (i := 2) (v := ?_) rfl (by kernel_rfl) (by kernel_rfl) (by kernel_rfl) (fun _ _ _ h => h) (Or.inl ⟨by rfl, ?_⟩) hHeld ?_
  rotate_left
  · (intro w hSw; go_simp; (try with_reducible rfl))
  simp only [Act.put, List.getElem_toArray, List.getElem_cons_zero, List.getElem_cons_succ, List.setIfInBounds_toArray, List.set_cons_zero, List.set_cons_succ]
  refine wpAnyH_take (i := 4) (v := ?_) rfl (by kernel_rfl) (by kernel_rfl) (by kernel_rfl) (fun _ _ _ h => h) (Or.inl ⟨by rfl, ?_⟩) hHeld ?_
  rotate_left
  · (intro w hSw; go_simp; (try with_reducible rfl))
  simp only [Act.put, List.getElem_toArray, List.getElem_cons_zero, List.getElem_cons_succ, List.setIfInBounds_toArray, List.set_cons_zero, List.set_cons_succ]
  refine wpAnyH_take (i := 5) (v := ?_) rfl (by kernel_rfl) (by kernel_rfl) (by kernel_rfl) (fun _ _ _ h => h) (Or.inl ⟨by rfl, ?_⟩) hHeld ?_
  rotate_left
  · (intro w hSw; go_simp; (try with_reducible rfl))
  simp only [Act.put, List.getElem_toArray, List.getElem_cons_zero, List.getElem_cons_succ, List.setIfInBounds_toArray, List.set_cons_zero, List.set_cons_succ]
  refine wpAnyH_take (i := 6) (v := ?_) rfl (by kernel_rfl) (by kernel_rfl) (by kernel_rfl) (fun _ _ _ h => h) (Or.inl ⟨by rfl, ?_⟩) hHeld ?_
  rotate_left
  · (intro w hSw; go_simp; (try with_reducible rfl))
  simp only [Act.put, List.getElem_toArray, List.getElem_cons_zero, List.getElem_cons_succ, List.setIfInBounds_toArray, List.set_cons_zero, List.set_cons_succ]
  refine wpAnyH_take (i := 7) (v := ?_) rfl (by kernel_rfl) (by kernel_rfl) (by kernel_rfl) (fun _ _ _ h => h) (Or.inl ⟨by rfl, ?_⟩) hHeld ?_
  rotate_left
  · (intro w hSw; go_simp; (try with_reducible rfl))
  simp only [Act.put, List.getElem_toArray, List.getElem_cons_zero, List.getElem_cons_succ, List.setIfInBounds_toArray, List.set_cons_zero, List.set_cons_succ]
  refine wpAnyH_take (i := 10) (v := ?_) rfl (by kernel_rfl) (by kernel_rfl) (by kernel_rfl) (fun _ _ _ h => h) (Or.inl ⟨by rfl, ?_⟩) hHeld ?_
  rotate_left
  · (intro w hSw; go_simp; (try with_reducible rfl))
  simp only [Act.put, List.getElem_toArray, List.getElem_cons_zero, List.getElem_cons_succ, List.setIfInBounds_toArray, List.set_cons_zero, List.set_cons_succ]
  refine wpAnyH_take (i := 11) (v := ?_) rfl (by kernel_rfl) (by kernel_rfl) (by kernel_rfl) (fun _ _ _ h => h) (Or.inl ⟨by rfl, ?_⟩) hHeld ?_
  rotate_left
  · (intro w hSw; go_simp; (try with_reducible rfl))
  simp only [Act.put, List.getElem_toArray, List.getElem_cons_zero, List.getElem_cons_succ, List.setIfInBounds_toArray, List.set_cons_zero, List.set_cons_succ]
  refine wpAnyH_take (i := 12) (v := ?_) rfl (by kernel_rfl) (by kernel_rfl) (by kernel_rfl) (fun _ _ _ h => h) (Or.inl ⟨by rfl, ?_⟩) hHeld ?_
  rotate_left
  · (intro w hSw; go_simp; (try with_reducible rfl))
  simp only [Act.put, List.getElem_toArray, List.getElem_cons_zero, List.getElem_cons_succ, List.setIfInBounds_toArray, List.set_cons_zero, List.set_cons_succ]
  have hB0 : Below w.heap.size w w1.drew := hbw.drew
  have hr0 : JBox w1.drew gr none 0 0 0 := hr1
  obtain ⟨w2, hw2⟩ : ∃ w2, w2 = w1.drew := ⟨_, rfl⟩
  rw [← hw2] at hHeld hB0 hr0
  rw [← hw2]
  clear hw2 hj1 hr1 hbw k0 k1
  refine wpAnyH_ready (rs := [0, 8]) (by kernel_rfl) (by simp) ?_
  refine AllReadyH.cons rfl (fun K hK => ?_) (AllReadyH.cons rfl (fun K hK => ?_) AllReadyH.nil)
  all_goals (try simp only [List.getElem_toArray, List.getElem_cons_zero, List.getElem_cons_succ])
  · skip
    go_simp
    have hbE : Below (World.heap w2).size w2 (World.alloc w2 (.cells #[] 66)) := (Below.refl _ _).alloc (Nat.le_refl _) _
    have h0 := ownQ_empty w2 w.heap.size (hB0).size
    have hBe := keepB hbE hB0
    have hje := JBox.keep hHeld hbE
    have hre := JBox.keep hr0 hbE
    refine hK.out _ _ hje (fun _ => ?_)
    clear hK K
    try simp only [Act.put, List.setIfInBounds_toArray, List.set_cons_zero, List.set_cons_succ]
    have hHeld := hje
    refine wpAnyH_ready (rs := [3, 8]) (by kernel_rfl) (by simp) ?_
    refine AllReadyH.cons rfl (fun K hK => ?_) (AllReadyH.cons rfl (fun K hK => ?_) AllReadyH.nil)
    all_goals (try simp only [List.getElem_toArray, List.getElem_cons_zero, List.getElem_cons_succ])
    · skip
      refine wp_appQ (.tmp 3) (.tmp 5) rfl w.heap.size (some ⟨w2.heap.size, 0, none⟩) 0 0 [] rfl h0 w.heap.size b off n cc l rfl (HR.out.below hBe) HN.out.1 (by have := HN.out; omega) (hBe).size ?_
      intro A3 c3 w7 ho7 hg7
      rw [Nat.zero_add, List.nil_append] at ho7
      try rw [Nat.zero_add]
      have hB7 := (h0).grown hBe (hBe).size hg7
      have hj7 := JBox.app hje h0 hg7
      have hr7 := JBox.app hre h0 hg7
      refine hK.out _ _ hj7 (fun _ => ?_)
      clear hK K
      try simp only [Act.put, List.setIfInBounds_toArray, List.set_cons_zero, List.set_cons_succ]
      have hHeld := hj7
      refine wpAnyH_ready (rs := [8]) (by kernel_rfl) (by simp) ?_
      refine AllReadyH.cons rfl (fun K hK => ?_) AllReadyH.nil
      try simp only [List.getElem_toArray, List.getElem_cons_zero, List.getElem_cons_succ]
      go_simp
      have hbQ : Below (World.heap w7).size w7 (World.alloc w7 (.cells #[.int .i64 m, .slice none 0 0] 66)) := (Below.refl _ _).alloc (Nat.le_refl _) _
      have hq : (World.alloc w7 (.cells #[.int .i64 m, .slice none 0 0] 66)).heap[(World.heap w7).size]? = some (.cells #[.int .i64 m, .slice none 0 0] 66 (0, 0)) := heap_alloc_new _ _
      have hBq := keepB hbQ hB7
      have hjq := JBox.keep hj7 hbQ
      have hrq := JBox.keep hr7 hbQ
      refine hK.out _ _ hjq (fun _ => ?_)
      clear hK K
      try simp only [Act.put, List.setIfInBounds_toArray, List.set_cons_zero, List.set_cons_succ]
      have hHeld := hjq
      refine wpAnyH_ready (rs := [9]) (by kernel_rfl) (by simp) ?_
      refine AllReadyH.cons rfl (fun K hK => ?_) AllReadyH.nil
      try simp only [List.getElem_toArray, List.getElem_cons_zero, List.getElem_cons_succ]
      have ho8 := ho7.below hbQ
      refine wp_appQ (.tmp 6) (.tmp 11) rfl w.heap.size A3 n c3 _ rfl ho8 _ w7.heap.size 0 1 1 [⟨m, ⟨none, 0, 0⟩⟩] rfl (rdQ_one (q := ⟨m, ⟨none, 0, 0⟩⟩) hq) rfl (by have := HN.out; omega) (hBq).size ?_
      intro A9 c9 w9 ho9 hg9
      have hB9 := (ho8).grown hBq (hBq).size hg9
      have hj9 := JBox.app hjq ho8 hg9
      have hr9 := JBox.app hrq ho8 hg9
      refine hK.out _ _ hj9 (fun _ => ?_)
      clear hK K
      try simp only [Act.put, List.setIfInBounds_toArray, List.set_cons_zero, List.set_cons_succ]
      have hHeld := hj9
      refine wpAnyH_take (i := 13) (v := ?_) rfl (by kernel_rfl) (by kernel_rfl) (by kernel_rfl) (fun _ _ _ h => h) (Or.inl ⟨by rfl, ?_⟩) hHeld ?_
      rotate_left
      · (intro w hSw; go_simp; (try with_reducible rfl))
      simp only [Act.put, List.getElem_toArray, List.getElem_cons_zero, List.getElem_cons_succ, List.setIfInBounds_toArray, List.set_cons_zero, List.set_cons_succ]
      refine wpAnyH_ready (rs := [14]) (by kernel_rfl) (by simp) ?_
      refine AllReadyH.cons rfl (fun K hK => ?_) AllReadyH.nil
      try simp only [List.getElem_toArray, List.getElem_cons_zero, List.getElem_cons_succ]
      have hsz := jsize A9 (n + 1) c9 m
      have hone := jone A9 (n + 1) c9 m
      refine wp_store_row 29 (.tmp 2) (.tmp 16) rfl gr _ rfl rfl 29 _ hr9 hsz rfl hone ?_
      have hjE : JBox (w9.setRow gr #[.slice A9 (n + 1) c9, .int .i64 m]) gj (some ⟨b, off, none⟩) n cc x := (setRow_other w9 gr gj _ (by have := HG.out; omega)).trans hj9
      refine hK.out _ _ hjE (fun _ => ?_)
      clear hK K
      try simp only [Act.put, List.setIfInBounds_toArray, List.set_cons_zero, List.set_cons_succ]
      refine wpAnyH_done (by kernel_rfl) ?_ _
      have hBE := below_setRow hB9 gr #[.slice A9 (n + 1) c9, .int .i64 m] (by have := HG.out; omega)
      have HF := Lib.hid (show OwnQ (w9.setRow gr #[.slice A9 (n + 1) c9, .int .i64 m]) w.heap.size A9 (n + 1) c9 (l ++ [⟨m, ⟨none, 0, 0⟩⟩]) from ⟨ho9.len, owns_keep ho9.o fun j hj => setRow_other w9 gr j _ (fun e => by
          obtain ⟨_, cur, hc⟩ := own_ty ho9.o hj
          subst e
          exact absurd (ty_same hc hr9) (by decide))⟩)
      clear hB9 hj9 hjE ho9 hg9
      refine hK0 _ _ ?_
      go_wp2_with fail
      refine bodyPost_ret (v := .agg #[.slice A9 (n + 1) c9, .int .i64 m]) ?_ rfl ⟨A9, c9, by rw [HM.out], by rw [← HM.out]; exact HF.out, hBE⟩
      exact results_cellE (ty := 29) (p := 2) (by kernel_rfl) _ _ gr 29 _ (0, 0) _ rfl (setRow_heap _ _ _ _ _ _ hr9) Try.underlying29 rfl hsz
    · skip
      go_simp
      have hbQ : Below (World.heap (w2.alloc (.cells #[] 66))).size (w2.alloc (.cells #[] 66)) (World.alloc (w2.alloc (.cells #[] 66)) (.cells #[.int .i64 m, .slice none 0 0] 66)) := (Below.refl _ _).alloc (Nat.le_refl _) _
      have hq : (World.alloc (w2.alloc (.cells #[] 66)) (.cells #[.int .i64 m, .slice none 0 0] 66)).heap[(World.heap (w2.alloc (.cells #[] 66))).size]? = some (.cells #[.int .i64 m, .slice none 0 0] 66 (0, 0)) := heap_alloc_new _ _
      have hBq := keepB hbQ hBe
      have hjq := JBox.keep hje hbQ
      have hrq := JBox.keep hre hbQ
      refine hK.out _ _ hjq (fun _ => ?_)
      clear hK K
      try simp only [Act.put, List.setIfInBounds_toArray, List.set_cons_zero, List.set_cons_succ]
      have hHeld := hjq
      refine wpAnyH_ready (rs := [3]) (by kernel_rfl) (by simp) ?_
      refine AllReadyH.cons rfl (fun K hK => ?_) AllReadyH.nil
      try simp only [List.getElem_toArray, List.getElem_cons_zero, List.getElem_cons_succ]
      have h1 := h0.below hbQ
      refine wp_appQ (.tmp 3) (.tmp 5) rfl w.heap.size (some ⟨w2.heap.size, 0, none⟩) 0 0 [] rfl h1 w.heap.size b off n cc l rfl (HR.out.below hBq) HN.out.1 (by have := HN.out; omega) (hBq).size ?_
      intro A3 c3 w7 ho7 hg7
      rw [Nat.zero_add, List.nil_append] at ho7
      try rw [Nat.zero_add]
      have hB7 := (h1).grown hBq (hBq).size hg7
      have hj7 := JBox.app hjq h1 hg7
      have hr7 := JBox.app hrq h1 hg7
      refine hK.out _ _ hj7 (fun _ => ?_)
      clear hK K
      try simp only [Act.put, List.setIfInBounds_toArray, List.set_cons_zero, List.set_cons_succ]
      have hHeld := hj7
      refine wpAnyH_ready (rs := [9]) (by kernel_rfl) (by simp) ?_
      refine AllReadyH.cons rfl (fun K hK => ?_) AllReadyH.nil
      try simp only [List.getElem_toArray, List.getElem_cons_zero, List.getElem_cons_succ]
      have hne7 : some (w2.alloc (.cells #[] 66)).heap.size ≠ some w2.heap.size := by
        simp
      have hq7 := (hg7.block (w2.alloc (.cells #[] 66)).heap.size (by simp) hne7).trans hq
      rw [World.size_alloc] at hq7
      refine wp_appQ (.tmp 6) (.tmp 11) rfl w.heap.size A3 n c3 _ rfl ho7 _ (w2.heap.size + 1) 0 1 1 [⟨m, ⟨none, 0, 0⟩⟩] rfl (rdQ_one (q := ⟨m, ⟨none, 0, 0⟩⟩) hq7) rfl (by have := HN.out; omega) (hB7).size ?_
      intro A9 c9 w9 ho9 hg9
      have hB9 := (ho7).grown hB7 (hB7).size hg9
      have hj9 := JBox.app hj7 ho7 hg9
      have hr9 := JBox.app hr7 ho7 hg9
      refine hK.out _ _ hj9 (fun _ => ?_)
      clear hK K
      try simp only [Act.put, List.setIfInBounds_toArray, List.set_cons_zero, List.set_cons_succ]
      have hHeld := hj9
      refine wpAnyH_take (i := 13) (v := ?_) rfl (by kernel_rfl) (by kernel_rfl) (by kernel_rfl) (fun _ _ _ h => h) (Or.inl ⟨by rfl, ?_⟩) hHeld ?_
      rotate_left
      · (intro w hSw; go_simp; (try with_reducible rfl))
      simp only [Act.put, List.getElem_toArray, List.getElem_cons_zero, List.getElem_cons_succ, List.setIfInBounds_toArray, List.set_cons_zero, List.set_cons_succ]
      refine wpAnyH_ready (rs := [14]) (by kernel_rfl) (by simp) ?_
      refine AllReadyH.cons rfl (fun K hK => ?_) AllReadyH.nil
      try simp only [List.getElem_toArray, List.getElem_cons_zero, List.getElem_cons_succ]
      have hsz := jsize A9 (n + 1) c9 m
      have hone := jone A9 (n + 1) c9 m
      refine wp_store_row 29 (.tmp 2) (.tmp 16) rfl gr _ rfl rfl 29 _ hr9 hsz rfl hone ?_
      have hjE : JBox (w9.setRow gr #[.slice A9 (n + 1) c9, .int .i64 m]) gj (some ⟨b, off, none⟩) n cc x := (setRow_other w9 gr gj _ (by have := HG.out; omega)).trans hj9
      refine hK.out _ _ hjE (fun _ => ?_)
      clear hK K
      try simp only [Act.put, List.setIfInBounds_toArray, List.set_cons_zero, List.set_cons_succ]
      refine wpAnyH_done (by kernel_rfl) ?_ _
      have hBE := below_setRow hB9 gr #[.slice A9 (n + 1) c9, .int .i64 m] (by have := HG.out; omega)
      have HF := Lib.hid (show OwnQ (w9.setRow gr #[.slice A9 (n + 1) c9, .int .i64 m]) w.heap.size A9 (n + 1) c9 (l ++ [⟨m, ⟨none, 0, 0⟩⟩]) from ⟨ho9.len, owns_keep ho9.o fun j hj => setRow_other w9 gr j _ (fun e => by
          obtain ⟨_, cur, hc⟩ := own_ty ho9.o hj
          subst e
          exact absurd (ty_same hc hr9) (by decide))⟩)
      clear hB9 hj9 hjE ho9 hg9
      refine hK0 _ _ ?_
      go_wp2_with fail
      refine bodyPost_ret (v := .agg #[.slice A9 (n + 1) c9, .int .i64 m]) ?_ rfl ⟨A9, c9, by rw [HM.out], by rw [← HM.out]; exact HF.out, hBE⟩
      exact results_cellE (ty := 29) (p := 2) (by kernel_rfl) _ _ gr 29 _ (0, 0) _ rfl (setRow_heap _ _ _ _ _ _ hr9) Try.underlying29 rfl hsz
  · skip
    go_simp
    have hbQ : Below (World.heap w2).size w2 (World.alloc w2 (.cells #[.int .i64 m, .slice none 0 0] 66)) := (Below.refl _ _).alloc (Nat.le_refl _) _
    have hq : (World.alloc w2 (.cells #[.int .i64 m, .slice none 0 0] 66)).heap[(World.heap w2).size]? = some (.cells #[.int .i64 m, .slice none 0 0] 66 (0, 0)) := heap_alloc_new _ _
    have hBq := keepB hbQ hB0
    have hjq := JBox.keep hHeld hbQ
    have hrq := JBox.keep hr0 hbQ
    refine hK.out _ _ hjq (fun _ => ?_)
    clear hK K
    try simp only [Act.put, List.setIfInBounds_toArray, List.set_cons_zero, List.set_cons_succ]
    have hHeld := hjq
    refine wpAnyH_ready (rs := [0]) (by kernel_rfl) (by simp) ?_
    refine AllReadyH.cons rfl (fun K hK => ?_) AllReadyH.nil
    try simp only [List.getElem_toArray, List.getElem_cons_zero, List.getElem_cons_succ]
    go_simp
    have hbE : Below (World.heap (w2.alloc (.cells #[.int .i64 m, .slice none 0 0] 66))).size (w2.alloc (.cells #[.int .i64 m, .slice none 0 0] 66)) (World.alloc (w2.alloc (.cells #[.int .i64 m, .slice none 0 0] 66)) (.cells #[] 66)) := (Below.refl _ _).alloc (Nat.le_refl _) _
    have h0 := ownQ_empty (w2.alloc (.cells #[.int .i64 m, .slice none 0 0] 66)) w.heap.size (hBq).size
    have hBe := keepB hbE hBq
    have hje := JBox.keep hjq hbE
    have hre := JBox.keep hrq hbE
    refine hK.out _ _ hje (fun _ => ?_)
    clear hK K
    try simp only [Act.put, List.setIfInBounds_toArray, List.set_cons_zero, List.set_cons_succ]
    have hHeld := hje
    refine wpAnyH_ready (rs := [3]) (by kernel_rfl) (by simp) ?_
    refine AllReadyH.cons rfl (fun K hK => ?_) AllReadyH.nil
    try simp only [List.getElem_toArray, List.getElem_cons_zero, List.getElem_cons_succ]
    have hq1 := (hbE.block w2.heap.size (by simp)).trans hq
    rw [World.size_alloc] at h0
    refine wp_appQ (.tmp 3) (.tmp 5) rfl w.heap.size (some ⟨(w2.heap.size + 1), 0, none⟩) 0 0 [] rfl h0 w.heap.size b off n cc l rfl (HR.out.below hBe) HN.out.1 (by have := HN.out; omega) (hBe).size ?_
    intro A3 c3 w7 ho7 hg7
    rw [Nat.zero_add, List.nil_append] at ho7
    try rw [Nat.zero_add]
    have hB7 := (h0).grown hBe (hBe).size hg7
    have hj7 := JBox.app hje h0 hg7
    have hr7 := JBox.app hre h0 hg7
    refine hK.out _ _ hj7 (fun _ => ?_)
    clear hK K
    try simp only [Act.put, List.setIfInBounds_toArray, List.set_cons_zero, List.set_cons_succ]
    have hHeld := hj7
    refine wpAnyH_ready (rs := [9]) (by kernel_rfl) (by simp) ?_
    refine AllReadyH.cons rfl (fun K hK => ?_) AllReadyH.nil
    try simp only [List.getElem_toArray, List.getElem_cons_zero, List.getElem_cons_succ]
    have hne7 : some w2.heap.size ≠ some (w2.heap.size + 1) := by
      simp
    have hq7 := (hg7.block w2.heap.size (by simp; omega) hne7).trans hq1
    refine wp_appQ (.tmp 6) (.tmp 11) rfl w.heap.size A3 n c3 _ rfl ho7 _ w2.heap.size 0 1 1 [⟨m, ⟨none, 0, 0⟩⟩] rfl (rdQ_one (q := ⟨m, ⟨none, 0, 0⟩⟩) hq7) rfl (by have := HN.out; omega) (hB7).size ?_
    intro A9 c9 w9 ho9 hg9
    have hB9 := (ho7).grown hB7 (hB7).size hg9
    have hj9 := JBox.app hj7 ho7 hg9
    have hr9 := JBox.app hr7 ho7 hg9
    refine hK.out _ _ hj9 (fun _ => ?_)
    clear hK K
    try simp only [Act.put, List.setIfInBounds_toArray, List.set_cons_zero, List.set_cons_succ]
    have hHeld := hj9
    refine wpAnyH_take (i := 13) (v := ?_) rfl (by kernel_rfl) (by kernel_rfl) (by kernel_rfl) (fun _ _ _ h => h) (Or.inl ⟨by rfl, ?_⟩) hHeld ?_
    rotate_left
    · (intro w hSw; go_simp; (try with_reducible rfl))
    simp only [Act.put, List.getElem_toArray, List.getElem_cons_zero, List.getElem_cons_succ, List.setIfInBounds_toArray, List.set_cons_zero, List.set_cons_succ]
    refine wpAnyH_ready (rs := [14]) (by kernel_rfl) (by simp) ?_
    refine AllReadyH.cons rfl (fun K hK => ?_) AllReadyH.nil
    try simp only [List.getElem_toArray, List.getElem_cons_zero, List.getElem_cons_succ]
    have hsz := jsize A9 (n + 1) c9 m
    have hone := jone A9 (n + 1) c9 m
    refine wp_store_row 29 (.tmp 2) (.tmp 16) rfl gr _ rfl rfl 29 _ hr9 hsz rfl hone ?_
    have hjE : JBox (w9.setRow gr #[.slice A9 (n + 1) c9, .int .i64 m]) gj (some ⟨b, off, none⟩) n cc x := (setRow_other w9 gr gj _ (by have := HG.out; omega)).trans hj9
    refine hK.out _ _ hjE (fun _ => ?_)
    clear hK K
    try simp only [Act.put, List.setIfInBounds_toArray, List.set_cons_zero, List.set_cons_succ]
    refine wpAnyH_done (by kernel_rfl) ?_ _
    have hBE := below_setRow hB9 gr #[.slice A9 (n + 1) c9, .int .i64 m] (by have := HG.out; omega)
    have HF := Lib.hid (show OwnQ (w9.setRow gr #[.slice A9 (n + 1) c9, .int .i64 m]) w.heap.size A9 (n + 1) c9 (l ++ [⟨m, ⟨none, 0, 0⟩⟩]) from ⟨ho9.len, owns_keep ho9.o fun j hj => setRow_other w9 gr j _ (fun e => by
        obtain ⟨_, cur, hc⟩ := own_ty ho9.o hj
        subst e
        exact absurd (ty_same hc hr9) (by decide))⟩)
    clear hB9 hj9 hjE ho9 hg9
    refine hK0 _ _ ?_
    go_wp2_with fail
    refine bodyPost_ret (v := .agg #[.slice A9 (n + 1) c9, .int .i64 m]) ?_ rfl ⟨A9, c9, by rw [HM.out], by rw [← HM.out]; exact HF.out, hBE⟩
    exact results_cellE (ty := 29) (p := 2) (by kernel_rfl) _ _ gr 29 _ (0, 0) _ rfl (setRow_heap _ _ _ _ _ _ hr9) Try.underlying29 rfl hsz
end Go.Proofs.Ytncmfkmgaghklaa
