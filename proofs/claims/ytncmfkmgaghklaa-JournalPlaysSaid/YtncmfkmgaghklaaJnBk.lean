/- Layer 14: the document's Back. -/
import Derived.Test.YtncmfkmgaghklaaJnMark
namespace Go.Proofs.Ytncmfkmgaghklaa
open Go.RowKit Ex
set_option maxRecDepth 100000
theorem RdQ.take_ {B : Nat} {w : World} {A : Option Addr} {l : List QT} (h : RdQ B w A l) (k : Nat) : RdQ B w A (l.take k) := fun i q hq => h i q (by
  rw [List.getElem?_take] at hq
  split at hq
  · exact hq
  · cases hq)
theorem RdQ.more_ {B B' : Nat} {w : World} {A : Option Addr} {l : List QT} (h : RdQ B w A l) (hB : B ≤ B') : RdQ B' w A l := fun i q hq => by
  obtain ⟨b, off, h1, h2, h3⟩ := h i q hq
  exact ⟨b, off, h1, by omega, h3⟩
theorem OwnQ.low {W : World} {base b n c : Nat} {A : Option Addr} {l : List QT} (h : OwnQ W base A n c l) (hb : b ≤ base) : OwnQ W b A n c l := by
  refine ⟨h.len, h.o.1, ?_⟩
  rcases h.o.2 with hv | ⟨g, cap, cur, hv, hbs, rest⟩
  · exact .inl hv
  · exact .inr ⟨g, cap, cur, hv, Nat.le_trans hb hbs, rest⟩
theorem pt_elem : Try.prog.underlying 27 = some (.slice (Try.prog.elem 27)) := by kernel_rfl
theorem pt_elem_size (W : World) : (sizeOf (Try.prog.elem 27)).run Try.prog W = .ok 2 W := by kernel_rfl
theorem slice_toQ (W : World) {g o n c i : Nat} (hi : i ≤ c) : (Instr.slice 27 (.slice (some ⟨g, o, none⟩) n c) none (some (.int .i64 (i : Int))) none).run Try.prog W = .ok (.slice (some ⟨g, o, none⟩) i c) W := by
  rw [run_slice_h W 27 _ n c pt_elem .i64 (i : Int) (by omega) (by omega), pt_elem_size]
  simp only [Result.andThen_ok, sliced, Int.toNat_natCast, Nat.sub_zero]
  split
  · rfl
  · simp [Addr.add_mid]
theorem flatQ_set : ∀ (l : List QT) (i : Nat) (q : QT), i < l.length → ((flatQ l).set (i * 2) (.int .i64 q.num)).set (i * 2 + 1) q.sl.v = flatQ (l.set i q)
  | [], i, q, hi => absurd hi (by simp)
  | x :: l, 0, q, _ => by simp [flatQ, cellQ]
  | x :: l, i + 1, q, hi => by
    have ih := flatQ_set l i q (by simpa using hi)
    simp only [flatQ, List.flatMap_cons, List.set_cons_succ] at ih ⊢
    have h2 : (cellQ x).length = 2 := rfl
    rw [List.set_append_right _ _ (by rw [h2]; omega), List.set_append_right _ _ (by rw [h2]; omega), h2, show (i + 1) * 2 - 2 = i * 2 by omega, show (i + 1) * 2 + 1 - 2 = i * 2 + 1 by omega, ih]
/-- A part of the call's own rewritten. -/
theorem OwnQ.set_ {W : World} {base n c : Nat} {A : Option Addr} {l : List QT} (h : OwnQ W base A n c l) {i : Nat} (hi : i < l.length) (q : QT) :
    ∃ g, A = some ⟨g, 0, none⟩ ∧ W.there g (i * 2) 2 ∧ base ≤ g ∧ (∃ cur, W.heap[g]? = some (.cells cur 66 (0, 0))) ∧ OwnQ (W.setCells g (i * 2) (cellQ q)) base A n c (l.set i q) := by
  have hl := h.len
  rcases h.o.2 with ⟨hv, hn⟩ | ⟨g, cap, cur, hv, hb, hg, hc, hm, hs, ht⟩
  · omega
  · injection hv with h1 _ h3
    subst h1 h3
    have hg2 : (W.setCells g (i * 2) (cellQ q)).heap[g]? = some (.cells ((cur.setIfInBounds (i * 2) (.int .i64 q.num)).setIfInBounds (i * 2 + 1) q.sl.v) 66 (0, 0)) :=
      heap_setCell_same _ g (i * 2 + 1) _ _ _ (heap_setCell_same W g (i * 2) cur _ _ hg)
    refine ⟨g, rfl, fun j hj => ⟨?_, frozen_of_row W g (i * 2 + j) cur _ hg⟩, hb, ⟨cur, hg⟩, ⟨by rw [List.length_set]; exact hl, by rw [flatQ_len, List.length_set, ← hl], .inr ⟨g, c, _, rfl, hb, hg2, hc, hm, by simp [hs], ?_⟩⟩⟩
    · rw [cell_of_row W g (i * 2 + j) cur _ _ hg, Array.getElem?_eq_getElem (by rw [hs]; omega)]; rfl
    · rw [Array.toList_setIfInBounds, Array.toList_setIfInBounds, List.take_set, List.take_set, ht, flatQ_set l i q hi]
theorem take_set_last {l : List QT} {i : Nat} (hi : i < l.length) (q : QT) : (l.take (i + 1)).set i q = l.take i ++ [q] := by
  rw [List.take_succ_eq_append_getElem hi, List.set_append_right _ _ (by rw [List.length_take]; omega), List.length_take, Nat.min_eq_left (by omega), Nat.sub_self]; rfl
theorem setCells2_other (W : World) (g o : Nat) (q : QT) (k : Nat) (hk : k ≠ g) : (W.setCells g o (cellQ q)).heap[k]? = W.heap[k]? :=
  (heap_setCell_other _ ⟨g, o + 1, none⟩ k _ hk).trans (heap_setCell_other W ⟨g, o, none⟩ k _ hk)
theorem below_setCells2 {w W : World} {base : Nat} (h : Below base w W) (g o : Nat) (q : QT) (hg : base ≤ g) : Below base w (W.setCells g o (cellQ q)) :=
  ⟨h.os, h.tape, h.output, by have := h.size; simpa [World.setCells, cellQ] using this, fun k hk => (setCells2_other W g o q k (by omega)).trans (h.block k hk)⟩
theorem JBox.row {W : World} {g g' n c : Nat} {A : Option Addr} {x : Int} (h : JBox W g A n c x) (hne : g ≠ g') (cs : Array Value) : JBox (W.setRow g' cs) g A n c x := (setRow_other W g' g cs hne).trans h
theorem OwnQ.row {W : World} {base n c g m k : Nat} {A A2 : Option Addr} {l : List QT} {x : Int} (h : OwnQ W base A n c l) (hg : JBox W g A2 m k x) (cs : Array Value) : OwnQ (W.setRow g cs) base A n c l :=
  ⟨h.len, owns_keep h.o fun j hj => setRow_other W g j cs (fun e => by
    obtain ⟨_, cur, hc⟩ := own_ty h.o hj
    subst e
    exact absurd (ty_same hc hg) (by decide))⟩
set_option linter.unusedSimpArgs false in
set_option maxHeartbeats 0 in
theorem backRef_any (A : Option Addr) (n cc : Nat) (x : Int) (l : List QT) (at_ : Nat) (qt : QT) (Al : Option Addr) (nl cl : Nat) (w : World) (hR : RdQ w.heap.size w A l) (hnl : n = l.length) (hqt : l[at_]? = some qt) (hc : n ≤ cc) (hn : n ≤ 100000) :
    Calls Try.prog 24 #[.agg #[.slice A n cc, .int .i64 x], .int .i64 (at_ : Int), .slice Al nl cl] w fun en w' => ∃ A' c', en = .returned (.agg #[.slice A' (at_ + 1) c', .int .i64 x]) ∧
      OwnQ w' w.heap.size A' (at_ + 1) c' (l.take at_ ++ [⟨qt.num, ⟨Al, nl, cl⟩⟩]) ∧ Below w.heap.size w w' := by
  have hi := (List.getElem?_eq_some_iff.1 hqt).1
  obtain ⟨b, off, rfl, hbl, hra⟩ := hR at_ _ hqt
  obtain ⟨num, hnum⟩ : ∃ num, num = qt.num := ⟨_, rfl⟩
  have hn0 := hra 0 (.int .i64 qt.num) rfl
  rw [Nat.add_zero, ← hnum] at hn0
  rw [← hnum]
  have HNum := Lib.hid hn0
  have HB := Lib.hid hbl
  have HR := Lib.hid hR
  have HI := Lib.hid hi
  obtain ⟨at1, hat1⟩ : ∃ at1, at1 = at_ + 1 := ⟨_, rfl⟩
  have HN := Lib.hid (show n = l.length ∧ n ≤ 100000 ∧ at1 = (l.take at1).length ∧ at1 = at_ + 1 from ⟨hnl, hn, by rw [List.length_take]; omega, hat1⟩)
  have em : IntKind.i64.wrap ((at_ : Int) + 1) = (at1 : Int) := by rw [i64_in (by omega) (by omega)]; omega
  have hsl := fun W => slice_toQ W (g := b) (o := off) (n := n) (c := cc) (i := at1) (by omega)
  have p0 : (0 : Int) ≤ (at_ : Int) := by omega
  have p1 : (at_ : Int) < (n : Int) := by omega
  have p2 : (at_ : Int) < (at1 : Int) := by omega
  clear hn0 hra hnum hbl hR hnl hi hc hn hat1 hqt
  go_enter Try.func24, Try.ntmps24
  go_upto_region 1 with fail
  rename_i K0 hK0
  have hb0 : Below w.heap.size w (w.alloc (.cells #[.slice (some ⟨b, off, none⟩) n cc, .int .i64 x] 29)) := (Below.refl _ _).alloc (Nat.le_refl _) _
  have hb1 : Below (w.alloc (.cells #[.slice (some ⟨b, off, none⟩) n cc, .int .i64 x] 29)).heap.size (w.alloc (.cells #[.slice (some ⟨b, off, none⟩) n cc, .int .i64 x] 29)) ((w.alloc (.cells #[.slice (some ⟨b, off, none⟩) n cc, .int .i64 x] 29)).alloc (.cells #[.slice none 0 0, .int .i64 0] 29)) := (Below.refl _ _).alloc (Nat.le_refl _) _
  have hj1 : JBox ((w.alloc (.cells #[.slice (some ⟨b, off, none⟩) n cc, .int .i64 x] 29)).alloc (.cells #[.slice none 0 0, .int .i64 0] 29)) w.heap.size (some ⟨b, off, none⟩) n cc x := JBox.keep (heap_alloc_new _ _) hb1
  have hr1 : JBox ((w.alloc (.cells #[.slice (some ⟨b, off, none⟩) n cc, .int .i64 x] 29)).alloc (.cells #[.slice none 0 0, .int .i64 0] 29)) (w.heap.size + 1) none 0 0 0 := by
    have := heap_alloc_new (w.alloc (.cells #[.slice (some ⟨b, off, none⟩) n cc, .int .i64 x] 29)) (.cells #[.slice none 0 0, .int .i64 0] 29)
    rwa [World.size_alloc] at this
  have hbw := keepB hb1 hb0
  obtain ⟨w1, hw1⟩ : ∃ w1, w1 = (w.alloc (.cells #[.slice (some ⟨b, off, none⟩) n cc, .int .i64 x] 29)).alloc (.cells #[.slice none 0 0, .int .i64 0] 29) := ⟨_, rfl⟩
  rw [← hw1] at hj1 hr1 hbw
  rw [← hw1]
  obtain ⟨gj, hgj⟩ : ∃ g, g = w.heap.size := ⟨_, rfl⟩
  obtain ⟨gr, hgr⟩ : ∃ g, g = w.heap.size + 1 := ⟨_, rfl⟩
  rw [← hgr] at hr1
  rw [← hgj] at hj1
  rw [← hgj, show gj + 1 = gr by omega]
  have HG := Lib.hid (show gj = w.heap.size ∧ gr = w.heap.size + 1 from ⟨hgj, hgr⟩)
  clear hw1 hb0 hb1 hgj hgr
  have k0 : ∀ W, JBox W gj (some ⟨b, off, none⟩) n cc x → W.cell? ⟨gj, 0, none⟩ = some (.slice (some ⟨b, off, none⟩) n cc) := fun W h => cell_of_row W gj 0 _ _ _ h
  have k1 : ∀ W, JBox W gj (some ⟨b, off, none⟩) n cc x → W.cell? ⟨gj, 1, none⟩ = some (.int .i64 x) := fun W h => cell_of_row W gj 1 _ _ _ h
  refine wp_region_held_drew (S := fun W => JBox W gj (some ⟨b, off, none⟩) n cc x) (by kernel_rfl) (show JBox w1.drew gj _ n cc x from hj1) (fun hHeld => ?_)
  refine wpAnyH_take (i := 1) (v := ?_) rfl (by kernel_rfl) (by kernel_rfl) (by kernel_rfl) (fun _ _ _ h => h) (Or.inl ⟨by rfl, ?_⟩) hHeld ?_
  rotate_left
  · (intro w hSw; go_simp; (try with_reducible rfl))
  simp only [Act.put, List.getElem_toArray, List.getElem_cons_zero, List.getElem_cons_succ, List.setIfInBounds_toArray, List.set_cons_zero, List.set_cons_succ]
  refine wpAnyH_take (i := 2) (v := ?_) rfl (by kernel_rfl) (by kernel_rfl) (by kernel_rfl) (fun _ _ _ h => h) (Or.inl ⟨by rfl, ?_⟩) hHeld ?_
  rotate_left
  · (intro w hSw; go_simp; (try with_reducible rfl))
  simp only [Act.put, List.getElem_toArray, List.getElem_cons_zero, List.getElem_cons_succ, List.setIfInBounds_toArray, List.set_cons_zero, List.set_cons_succ]
  refine wpAnyH_take (i := 3) (v := ?_) rfl (by kernel_rfl) (by kernel_rfl) (by kernel_rfl) (fun _ _ _ h => h) (Or.inl ⟨by rfl, ?_⟩) hHeld ?_
  rotate_left
  · (intro w hSw; go_simp; (try with_reducible rfl))
  simp only [Act.put, List.getElem_toArray, List.getElem_cons_zero, List.getElem_cons_succ, List.setIfInBounds_toArray, List.set_cons_zero, List.set_cons_succ]
  refine wpAnyH_take (i := 4) (v := ?_) rfl (by kernel_rfl) (by kernel_rfl) (by kernel_rfl) (fun _ _ _ h => h) (Or.inl ⟨by rfl, ?_⟩) hHeld ?_
  rotate_left
  · (intro w hSw; go_simp; (try with_reducible rfl))
  simp only [Act.put, List.getElem_toArray, List.getElem_cons_zero, List.getElem_cons_succ, List.setIfInBounds_toArray, List.set_cons_zero, List.set_cons_succ]
  refine wpAnyH_take (i := 5) (v := ?_) rfl (by kernel_rfl) (by kernel_rfl) (by kernel_rfl) (fun _ _ _ h => h) (Or.inl ⟨by rfl, ?_⟩) hHeld ?_
  rotate_left
  · (intro w hSw; go_simp; (try with_reducible rfl))
  simp only [Act.put, List.getElem_toArray, List.getElem_cons_zero, List.getElem_cons_succ, List.setIfInBounds_toArray, List.set_cons_zero, List.set_cons_succ]
  refine wpAnyH_take (i := 7) (v := ?_) rfl (by kernel_rfl) (by kernel_rfl) (by kernel_rfl) (fun _ _ _ h => h) (Or.inl ⟨by rfl, ?_⟩) hHeld ?_
  rotate_left
  · (intro w hSw; go_simp; (try with_reducible rfl))
  simp only [Act.put, List.getElem_toArray, List.getElem_cons_zero, List.getElem_cons_succ, List.setIfInBounds_toArray, List.set_cons_zero, List.set_cons_succ]
  refine wpAnyH_take (i := 8) (v := ?_) rfl (by kernel_rfl) (by kernel_rfl) (by kernel_rfl) (fun _ _ _ h => h) (Or.inl ⟨by rfl, ?_⟩) hHeld ?_
  rotate_left
  · (intro w hSw; go_simp; (try with_reducible rfl))
  simp only [Act.put, List.getElem_toArray, List.getElem_cons_zero, List.getElem_cons_succ, List.setIfInBounds_toArray, List.set_cons_zero, List.set_cons_succ]
  have hB0 : Below w.heap.size w w1.drew := hbw.drew
  have hr0 : JBox w1.drew gr none 0 0 0 := hr1
  have hs0 : gr < w1.drew.heap.size := JBox.lt hr0
  obtain ⟨w2, hw2⟩ : ∃ w2, w2 = w1.drew := ⟨_, rfl⟩
  rw [← hw2] at hHeld hB0 hr0 hs0
  rw [← hw2]
  clear hw2 hj1 hr1 hbw k0 k1 hsl
  refine wpAnyH_ready (rs := [0, 10]) (by kernel_rfl) (by simp) ?_
  refine AllReadyH.cons rfl (fun K hK => ?_) (AllReadyH.cons rfl (fun K hK => ?_) AllReadyH.nil)
  all_goals (try simp only [List.getElem_toArray, List.getElem_cons_zero, List.getElem_cons_succ])
  · skip
    go_simp
    have hbE : Below (World.heap w2).size w2 (World.alloc w2 (.cells #[] 66)) := (Below.refl _ _).alloc (Nat.le_refl _) _
    have h0 := ownQ_empty w2 w.heap.size (hB0).size
    have hBe := keepB hbE hB0
    have hje := JBox.keep hHeld hbE
    have hre := JBox.keep hr0 hbE
    refine hK.out _ _ hje (fun _ => ?_)
    clear hK K
    try simp only [Act.put, List.setIfInBounds_toArray, List.set_cons_zero, List.set_cons_succ]
    have hHeld := hje
    refine wpAnyH_ready (rs := [6, 10]) (by kernel_rfl) (by simp) ?_
    refine AllReadyH.cons rfl (fun K hK => ?_) (AllReadyH.cons rfl (fun K hK => ?_) AllReadyH.nil)
    all_goals (try simp only [List.getElem_toArray, List.getElem_cons_zero, List.getElem_cons_succ])
    · skip
      refine wp_appQ (.tmp 8) (.tmp 13) rfl w.heap.size (some ⟨w2.heap.size, 0, none⟩) 0 0 [] rfl h0 w.heap.size b off at1 cc (l.take at1) rfl ((HR.out.take_ at1).below hBe) HN.out.2.2.1 (by have := HN.out; omega) (hBe).size ?_
      intro A7 c7 w7 ho7 hg7
      rw [Nat.zero_add, List.nil_append] at ho7
      try rw [Nat.zero_add]
      have hB7 := (h0).grown hBe (hBe).size hg7
      have hj7 := JBox.app hje h0 hg7
      have hr7 := JBox.app hre h0 hg7
      refine hK.out _ _ hj7 (fun _ => ?_)
      clear hK K
      try simp only [Act.put, List.setIfInBounds_toArray, List.set_cons_zero, List.set_cons_succ]
      have hHeld := hj7
      refine wpAnyH_take (i := 9) (v := ?_) rfl (by kernel_rfl) (by kernel_rfl) (by kernel_rfl) (fun _ _ _ h => h) (Or.inl ⟨by rfl, ?_⟩) hHeld ?_
      rotate_left
      · (intro w hSw; go_simp; (try with_reducible rfl))
      simp only [Act.put, List.getElem_toArray, List.getElem_cons_zero, List.getElem_cons_succ, List.setIfInBounds_toArray, List.set_cons_zero, List.set_cons_succ]
      refine wpAnyH_ready (rs := [10]) (by kernel_rfl) (by simp) ?_
      refine AllReadyH.cons rfl (fun K hK => ?_) AllReadyH.nil
      try simp only [List.getElem_toArray, List.getElem_cons_zero, List.getElem_cons_succ]
      have hs7 : gr < w7.heap.size := JBox.lt hr7
      go_simp
      have hbO : Below (World.heap w7).size w7 (World.alloc w7 (.cells #[.slice none 0 0, .int .i64 0] 29)) := (Below.refl _ _).alloc (Nat.le_refl _) _
      have hgo : JBox (World.alloc w7 (.cells #[.slice none 0 0, .int .i64 0] 29)) (World.heap w7).size none 0 0 0 := heap_alloc_new _ _
      have hBo := keepB hbO hB7
      have hjo := JBox.keep hj7 hbO
      have hro := JBox.keep hr7 hbO
      refine hK.out _ _ hjo (fun _ => ?_)
      clear hK K
      try simp only [Act.put, List.setIfInBounds_toArray, List.set_cons_zero, List.set_cons_succ]
      have hHeld := hjo
      refine wpAnyH_ready (rs := [11]) (by kernel_rfl) (by simp) ?_
      refine AllReadyH.cons rfl (fun K hK => ?_) AllReadyH.nil
      try simp only [List.getElem_toArray, List.getElem_cons_zero, List.getElem_cons_succ]
      have ho8 := ho7.below hbO
      have hsz := jsize A7 at1 c7 x
      have hone := jone A7 at1 c7 x
      refine wp_store_row 29 (.tmp 7) (.tmp 17) rfl w7.heap.size _ rfl rfl 29 _ hgo hsz rfl hone ?_
      have hlg := JBox.lt hgo
      obtain ⟨go, hgoe⟩ : ∃ go, go = w7.heap.size := ⟨_, rfl⟩
      have hgw : w.heap.size ≤ go := by rw [hgoe]; exact hB7.size
      have hnj : gj ≠ go := by rw [hgoe]; have := HG.out; have := hs7; omega
      have hnr : gr ≠ go := by rw [hgoe]; have := HG.out; have := hs7; omega
      have hjE := JBox.row hjo hnj #[.slice A7 at1 c7, .int .i64 x]
      have hrE := JBox.row hro hnr #[.slice A7 at1 c7, .int .i64 x]
      have hoE := OwnQ.row ho8 hgo #[.slice A7 at1 c7, .int .i64 x]
      have hgE : (World.setRow (w7.alloc (.cells #[.slice none 0 0, .int .i64 0] 29)) (w7.heap.size) #[.slice A7 at1 c7, .int .i64 x]).heap[w7.heap.size]? = some (.cells #[.slice A7 at1 c7, .int .i64 x] 29 (0, 0)) := setRow_heap _ _ _ _ _ _ hgo
      have hBE := below_setRow hBo go #[.slice A7 at1 c7, .int .i64 x] hgw
      rw [← hgoe] at hoE hgE ⊢
      clear hgoe hlg
      obtain ⟨wE, hwE⟩ : ∃ W, W = World.setRow (w7.alloc (.cells #[.slice none 0 0, .int .i64 0] 29)) go #[.slice A7 at1 c7, .int .i64 x] := ⟨_, rfl⟩
      rw [← hwE] at hjE hrE hoE hgE hBE ⊢
      clear hwE
      refine hK.out _ _ hjE (fun _ => ?_)
      clear hK K
      try simp only [Act.put, List.setIfInBounds_toArray, List.set_cons_zero, List.set_cons_succ]
      refine wpAnyH_done (by kernel_rfl) ?_ _
      refine hK0 _ _ ?_
      clear hK0 K0
      clear hHeld hsz hone
      go_upto_region 2 with fail
      rename_i K1 hK1
      have hgE : JBox wE.drew go A7 at1 c7 x := hgE
      have hjE : JBox wE.drew gj (some ⟨b, off, none⟩) n cc x := hjE
      have hrE : JBox wE.drew gr none 0 0 0 := hrE
      have hoE : OwnQ wE.drew w.heap.size A7 at1 c7 (l.take at1) := ⟨hoE.len, hoE.o⟩
      have hBE := hBE.drew
      obtain ⟨wD, hwD⟩ : ∃ W, W = wE.drew := ⟨_, rfl⟩
      rw [← hwD] at hgE hjE hrE hoE hBE
      have k0 : ∀ W, JBox W gj (some ⟨b, off, none⟩) n cc x ∧ JBox W go A7 at1 c7 x ∧ W.cell? ⟨b, off + at_ * 2, none⟩ = some (.int .i64 num) → W.cell? ⟨gj, 0, none⟩ = some (.slice (some ⟨b, off, none⟩) n cc) := fun W h => cell_of_row W gj 0 _ _ _ h.1
      have k1 : ∀ W, JBox W gj (some ⟨b, off, none⟩) n cc x ∧ JBox W go A7 at1 c7 x ∧ W.cell? ⟨b, off + at_ * 2, none⟩ = some (.int .i64 num) → W.cell? ⟨go, 0, none⟩ = some (.slice A7 at1 c7) := fun W h => cell_of_row W go 0 _ _ _ h.2.1
      have k2 : ∀ W, JBox W gj (some ⟨b, off, none⟩) n cc x ∧ JBox W go A7 at1 c7 x ∧ W.cell? ⟨b, off + at_ * 2, none⟩ = some (.int .i64 num) → W.cell? ⟨b, off + at_ * 2, none⟩ = some (.int .i64 num) := fun W h => h.2.2
      have hcn := hBE.cell (show (⟨b, off + at_ * 2, none⟩ : Addr).block < w.heap.size from HB.out) |>.trans HNum.out
      obtain ⟨g7, rfl, hth, hb7, ⟨cur7, hc7⟩, hset⟩ := hoE.set_ (i := at_) (by rw [List.length_take]; have := HN.out; omega) ⟨num, ⟨Al, nl, cl⟩⟩
      rw [show (l.take at1).set at_ ⟨num, ⟨Al, nl, cl⟩⟩ = l.take at_ ++ [⟨num, ⟨Al, nl, cl⟩⟩] from by rw [HN.out.2.2.2]; exact take_set_last HI.out _] at hset
      have hB2 := below_setCells2 hBE g7 (at_ * 2) ⟨num, ⟨Al, nl, cl⟩⟩ hb7
      have hn7 : ∀ {g n c : Nat} {A : Option Addr} {y : Int}, JBox wD g A n c y → g ≠ g7 := fun h e => by
        subst e
        exact absurd (ty_same hc7 h) (by decide)
      have hj2 : JBox (wD.setCells g7 (at_ * 2) (cellQ ⟨num, ⟨Al, nl, cl⟩⟩)) gj (some ⟨b, off, none⟩) n cc x := (setCells2_other wD g7 (at_ * 2) _ gj (hn7 hjE)).trans hjE
      have hr2 : JBox (wD.setCells g7 (at_ * 2) (cellQ ⟨num, ⟨Al, nl, cl⟩⟩)) gr none 0 0 0 := (setCells2_other wD g7 (at_ * 2) _ gr (hn7 hrE)).trans hrE
      have hg2 : JBox (wD.setCells g7 (at_ * 2) (cellQ ⟨num, ⟨Al, nl, cl⟩⟩)) go (some ⟨g7, 0, none⟩) at1 c7 x := (setCells2_other wD g7 (at_ * 2) _ go (hn7 hgE)).trans hgE
      refine wp_region_held_drew (S := fun W => JBox W gj (some ⟨b, off, none⟩) n cc x ∧ JBox W go (some ⟨g7, 0, none⟩) at1 c7 x ∧ W.cell? ⟨b, off + at_ * 2, none⟩ = some (.int .i64 num)) (by kernel_rfl) (by rw [← hwD]; exact ⟨hjE, hgE, hcn⟩) (fun hHeld => ?_)
      rw [← hwD] at hHeld ⊢
      refine wpAnyH_take (i := 0) (v := ?_) rfl (by kernel_rfl) (by kernel_rfl) (by kernel_rfl) (fun _ _ _ h => h) (Or.inl ⟨by rfl, ?_⟩) hHeld ?_
      rotate_left
      · (intro w hSw; go_simp; (try with_reducible rfl))
      simp only [Act.put, List.getElem_toArray, List.getElem_cons_zero, List.getElem_cons_succ, List.setIfInBounds_toArray, List.set_cons_zero, List.set_cons_succ]
      refine wpAnyH_take (i := 1) (v := ?_) rfl (by kernel_rfl) (by kernel_rfl) (by kernel_rfl) (fun _ _ _ h => h) (Or.inl ⟨by rfl, ?_⟩) hHeld ?_
      rotate_left
      · (intro w hSw; go_simp; (try with_reducible rfl))
      simp only [Act.put, List.getElem_toArray, List.getElem_cons_zero, List.getElem_cons_succ, List.setIfInBounds_toArray, List.set_cons_zero, List.set_cons_succ]
      refine wpAnyH_take (i := 2) (v := ?_) rfl (by kernel_rfl) (by kernel_rfl) (by kernel_rfl) (fun _ _ _ h => h) (Or.inl ⟨by rfl, ?_⟩) hHeld ?_
      rotate_left
      · (intro w hSw; go_simp; (try with_reducible rfl))
      simp only [Act.put, List.getElem_toArray, List.getElem_cons_zero, List.getElem_cons_succ, List.setIfInBounds_toArray, List.set_cons_zero, List.set_cons_succ]
      refine wpAnyH_take (i := 3) (v := ?_) rfl (by kernel_rfl) (by kernel_rfl) (by kernel_rfl) (fun _ _ _ h => h) (Or.inl ⟨by rfl, ?_⟩) hHeld ?_
      rotate_left
      · (intro w hSw; go_simp; (try with_reducible rfl))
      simp only [Act.put, List.getElem_toArray, List.getElem_cons_zero, List.getElem_cons_succ, List.setIfInBounds_toArray, List.set_cons_zero, List.set_cons_succ]
      refine wpAnyH_take (i := 4) (v := ?_) rfl (by kernel_rfl) (by kernel_rfl) (by kernel_rfl) (fun _ _ _ h => h) (Or.inl ⟨by rfl, ?_⟩) hHeld ?_
      rotate_left
      · (intro w hSw; go_simp; (try with_reducible rfl))
      simp only [Act.put, List.getElem_toArray, List.getElem_cons_zero, List.getElem_cons_succ, List.setIfInBounds_toArray, List.set_cons_zero, List.set_cons_succ]
      refine wpAnyH_take (i := 5) (v := ?_) rfl (by kernel_rfl) (by kernel_rfl) (by kernel_rfl) (fun _ _ _ h => h) (Or.inl ⟨by rfl, ?_⟩) hHeld ?_
      rotate_left
      · (intro w hSw; go_simp; (try with_reducible rfl))
      simp only [Act.put, List.getElem_toArray, List.getElem_cons_zero, List.getElem_cons_succ, List.setIfInBounds_toArray, List.set_cons_zero, List.set_cons_succ]
      refine wpAnyH_take (i := 6) (v := ?_) rfl (by kernel_rfl) (by kernel_rfl) (by kernel_rfl) (fun _ _ _ h => h) (Or.inl ⟨by rfl, ?_⟩) hHeld ?_
      rotate_left
      · (intro w hSw; go_simp; (try with_reducible rfl))
      simp only [Act.put, List.getElem_toArray, List.getElem_cons_zero, List.getElem_cons_succ, List.setIfInBounds_toArray, List.set_cons_zero, List.set_cons_succ]
      refine wpAnyH_take (i := 7) (v := ?_) rfl (by kernel_rfl) (by kernel_rfl) (by kernel_rfl) (fun _ _ _ h => h) (Or.inl ⟨by rfl, ?_⟩) hHeld ?_
      rotate_left
      · (intro w hSw; go_simp; (try with_reducible rfl))
      simp only [Act.put, List.getElem_toArray, List.getElem_cons_zero, List.getElem_cons_succ, List.setIfInBounds_toArray, List.set_cons_zero, List.set_cons_succ]
      refine wpAnyH_take (i := 8) (v := ?_) rfl (by kernel_rfl) (by kernel_rfl) (by kernel_rfl) (fun _ _ _ h => h) (Or.inl ⟨by rfl, ?_⟩) hHeld ?_
      rotate_left
      · (intro w hSw; go_simp; (try with_reducible rfl))
      simp only [Act.put, List.getElem_toArray, List.getElem_cons_zero, List.getElem_cons_succ, List.setIfInBounds_toArray, List.set_cons_zero, List.set_cons_succ]
      refine wpAnyH_take (i := 9) (v := ?_) rfl (by kernel_rfl) (by kernel_rfl) (by kernel_rfl) (fun _ _ _ h => h) (Or.inl ⟨by rfl, ?_⟩) hHeld ?_
      rotate_left
      · (intro w hSw; go_simp; (try with_reducible rfl))
      simp only [Act.put, List.getElem_toArray, List.getElem_cons_zero, List.getElem_cons_succ, List.setIfInBounds_toArray, List.set_cons_zero, List.set_cons_succ]
      refine wpAnyH_take (i := 10) (v := ?_) rfl (by kernel_rfl) (by kernel_rfl) (by kernel_rfl) (fun _ _ _ h => h) (Or.inl ⟨by rfl, ?_⟩) hHeld ?_
      rotate_left
      · (intro w hSw; go_simp; (try with_reducible rfl))
      simp only [Act.put, List.getElem_toArray, List.getElem_cons_zero, List.getElem_cons_succ, List.setIfInBounds_toArray, List.set_cons_zero, List.set_cons_succ]
      refine wpAnyH_take (i := 11) (v := ?_) rfl (by kernel_rfl) (by kernel_rfl) (by kernel_rfl) (fun _ _ _ h => h) (Or.inl ⟨by rfl, ?_⟩) hHeld ?_
      rotate_left
      · (intro w hSw; go_simp; (try with_reducible rfl))
      simp only [Act.put, List.getElem_toArray, List.getElem_cons_zero, List.getElem_cons_succ, List.setIfInBounds_toArray, List.set_cons_zero, List.set_cons_succ]
      clear k0 k1 k2
      refine wpAnyH_ready (rs := [12]) (by kernel_rfl) (by simp) ?_
      refine AllReadyH.cons rfl (fun K hK => ?_) AllReadyH.nil
      try simp only [List.getElem_toArray, List.getElem_cons_zero, List.getElem_cons_succ]
      have hszp : (Try.prog.info? 66).map (·.size) = some (#[Value.int .i64 num, Value.slice Al nl cl] : Array Value).size := by kernel_rfl
      have honep : (#[Value.int .i64 num, Value.slice Al nl cl] : Array Value).all (·.oneCell') = true := by simp [Value.oneCell']
      refine wp_store_mid 66 (.tmp 29) (.tmp 28) rfl g7 (at_ * 2) #[.int .i64 num, .slice Al nl cl] rfl rfl hth hszp honep ?_
      refine hK.out _ _ ⟨hj2, hg2, ?_⟩ (fun _ => ?_)
      · exact (hB2.cell (show (⟨b, off + at_ * 2, none⟩ : Addr).block < w.heap.size from HB.out)).trans HNum.out
      clear hK K
      try simp only [Act.put, List.setIfInBounds_toArray, List.set_cons_zero, List.set_cons_succ]
      refine wpAnyH_done (by kernel_rfl) ?_ _
      refine hK1 _ _ ?_
      clear hK1 K1 hHeld
      have hsz := jsize (some ⟨g7, 0, none⟩) at1 c7 x
      have hone := jone (some ⟨g7, 0, none⟩) at1 c7 x
      obtain ⟨w8, hw8⟩ : ∃ W, W = wD.setCells g7 (at_ * 2) (cellQ ⟨num, ⟨Al, nl, cl⟩⟩) := ⟨_, rfl⟩
      rw [← hw8] at hset hB2 hj2 hr2 hg2
      show Code.wp _ _ _ _ (wD.setCells g7 (at_ * 2) (cellQ ⟨num, ⟨Al, nl, cl⟩⟩))
      rw [← hw8]
      clear hw8 hwD hth hcn hjE hrE hoE hgE hBE hc7 hn7
      go_wp2_with (first
        | (refine wpList_load_row rfl 29 (.tmp 7) rfl go rfl 29 _ (0, 0) _ hg2 Try.underlying29 rfl hsz ?_)
        | (refine wpList_store_row rfl 29 (.tmp 6) (.tmp 30) rfl gr _ rfl rfl 29 _ hr2 hsz rfl hone ?_))
      have hwr : w.heap.size ≤ gr := by have := HG.out; omega
      refine bodyPost_ret (v := .agg #[.slice (some ⟨g7, 0, none⟩) at1 c7, .int .i64 x]) ?_ rfl ⟨some ⟨g7, 0, none⟩, c7, by rw [HN.out.2.2.2], ?_, below_setRow hB2 gr _ hwr⟩
      · exact results_cellE (ty := 29) (p := 6) (by kernel_rfl) _ _ gr 29 _ (0, 0) _ rfl (setRow_heap _ _ _ _ _ _ hr2) Try.underlying29 rfl hsz
      · rw [← HN.out.2.2.2]
        exact OwnQ.row hset hr2 _
    · skip
      have hse : gr < (w2.alloc (.cells #[] 66)).heap.size := JBox.lt hre
      go_simp
      have hbO : Below (World.heap (w2.alloc (.cells #[] 66))).size (w2.alloc (.cells #[] 66)) (World.alloc (w2.alloc (.cells #[] 66)) (.cells #[.slice none 0 0, .int .i64 0] 29)) := (Below.refl _ _).alloc (Nat.le_refl _) _
      have hgo : JBox (World.alloc (w2.alloc (.cells #[] 66)) (.cells #[.slice none 0 0, .int .i64 0] 29)) (World.heap (w2.alloc (.cells #[] 66))).size none 0 0 0 := heap_alloc_new _ _
      have hBo := keepB hbO hBe
      have hjo := JBox.keep hje hbO
      have hro := JBox.keep hre hbO
      refine hK.out _ _ hjo (fun _ => ?_)
      clear hK K
      try simp only [Act.put, List.setIfInBounds_toArray, List.set_cons_zero, List.set_cons_succ]
      have hHeld := hjo
      refine wpAnyH_ready (rs := [6]) (by kernel_rfl) (by simp) ?_
      refine AllReadyH.cons rfl (fun K hK => ?_) AllReadyH.nil
      try simp only [List.getElem_toArray, List.getElem_cons_zero, List.getElem_cons_succ]
      have h1 := h0.below hbO
      refine wp_appQ (.tmp 8) (.tmp 13) rfl w.heap.size (some ⟨w2.heap.size, 0, none⟩) 0 0 [] rfl h1 w.heap.size b off at1 cc (l.take at1) rfl ((HR.out.take_ at1).below hBo) HN.out.2.2.1 (by have := HN.out; omega) (hBo).size ?_
      intro A7 c7 w7 ho7 hg7
      rw [Nat.zero_add, List.nil_append] at ho7
      try rw [Nat.zero_add]
      have hB7 := (h1).grown hBo (hBo).size hg7
      have hj7 := JBox.app hjo h1 hg7
      have hr7 := JBox.app hro h1 hg7
      refine hK.out _ _ hj7 (fun _ => ?_)
      clear hK K
      try simp only [Act.put, List.setIfInBounds_toArray, List.set_cons_zero, List.set_cons_succ]
      have hHeld := hj7
      refine wpAnyH_take (i := 9) (v := ?_) rfl (by kernel_rfl) (by kernel_rfl) (by kernel_rfl) (fun _ _ _ h => h) (Or.inl ⟨by rfl, ?_⟩) hHeld ?_
      rotate_left
      · (intro w hSw; go_simp; (try with_reducible rfl))
      simp only [Act.put, List.getElem_toArray, List.getElem_cons_zero, List.getElem_cons_succ, List.setIfInBounds_toArray, List.set_cons_zero, List.set_cons_succ]
      refine wpAnyH_ready (rs := [11]) (by kernel_rfl) (by simp) ?_
      refine AllReadyH.cons rfl (fun K hK => ?_) AllReadyH.nil
      try simp only [List.getElem_toArray, List.getElem_cons_zero, List.getElem_cons_succ]
      have hg7o := JBox.app hgo h1 hg7
      rw [World.size_alloc] at hg7o hse
      have hse2 : w.heap.size ≤ w2.heap.size + 1 := Nat.le_trans hB0.size (by omega)
      have hsz := jsize A7 at1 c7 x
      have hone := jone A7 at1 c7 x
      refine wp_store_row 29 (.tmp 7) (.tmp 17) rfl (w2.heap.size + 1) _ rfl rfl 29 _ hg7o hsz rfl hone ?_
      have hlg := JBox.lt hg7o
      obtain ⟨go, hgoe⟩ : ∃ go, go = (w2.heap.size + 1) := ⟨_, rfl⟩
      have hgw : w.heap.size ≤ go := by rw [hgoe]; exact hse2
      have hnj : gj ≠ go := by rw [hgoe]; have := HG.out; have := hse; omega
      have hnr : gr ≠ go := by rw [hgoe]; have := HG.out; have := hse; omega
      have hjE := JBox.row hj7 hnj #[.slice A7 at1 c7, .int .i64 x]
      have hrE := JBox.row hr7 hnr #[.slice A7 at1 c7, .int .i64 x]
      have hoE := OwnQ.row ho7 hg7o #[.slice A7 at1 c7, .int .i64 x]
      have hgE : (World.setRow w7 ((w2.heap.size + 1)) #[.slice A7 at1 c7, .int .i64 x]).heap[(w2.heap.size + 1)]? = some (.cells #[.slice A7 at1 c7, .int .i64 x] 29 (0, 0)) := setRow_heap _ _ _ _ _ _ hg7o
      have hBE := below_setRow hB7 go #[.slice A7 at1 c7, .int .i64 x] hgw
      rw [← hgoe] at hoE hgE ⊢
      clear hgoe hlg
      obtain ⟨wE, hwE⟩ : ∃ W, W = World.setRow w7 go #[.slice A7 at1 c7, .int .i64 x] := ⟨_, rfl⟩
      rw [← hwE] at hjE hrE hoE hgE hBE ⊢
      clear hwE
      refine hK.out _ _ hjE (fun _ => ?_)
      clear hK K
      try simp only [Act.put, List.setIfInBounds_toArray, List.set_cons_zero, List.set_cons_succ]
      refine wpAnyH_done (by kernel_rfl) ?_ _
      refine hK0 _ _ ?_
      clear hK0 K0
      clear hHeld hsz hone
      go_upto_region 2 with fail
      rename_i K1 hK1
      have hgE : JBox wE.drew go A7 at1 c7 x := hgE
      have hjE : JBox wE.drew gj (some ⟨b, off, none⟩) n cc x := hjE
      have hrE : JBox wE.drew gr none 0 0 0 := hrE
      have hoE : OwnQ wE.drew w.heap.size A7 at1 c7 (l.take at1) := ⟨hoE.len, hoE.o⟩
      have hBE := hBE.drew
      obtain ⟨wD, hwD⟩ : ∃ W, W = wE.drew := ⟨_, rfl⟩
      rw [← hwD] at hgE hjE hrE hoE hBE
      have k0 : ∀ W, JBox W gj (some ⟨b, off, none⟩) n cc x ∧ JBox W go A7 at1 c7 x ∧ W.cell? ⟨b, off + at_ * 2, none⟩ = some (.int .i64 num) → W.cell? ⟨gj, 0, none⟩ = some (.slice (some ⟨b, off, none⟩) n cc) := fun W h => cell_of_row W gj 0 _ _ _ h.1
      have k1 : ∀ W, JBox W gj (some ⟨b, off, none⟩) n cc x ∧ JBox W go A7 at1 c7 x ∧ W.cell? ⟨b, off + at_ * 2, none⟩ = some (.int .i64 num) → W.cell? ⟨go, 0, none⟩ = some (.slice A7 at1 c7) := fun W h => cell_of_row W go 0 _ _ _ h.2.1
      have k2 : ∀ W, JBox W gj (some ⟨b, off, none⟩) n cc x ∧ JBox W go A7 at1 c7 x ∧ W.cell? ⟨b, off + at_ * 2, none⟩ = some (.int .i64 num) → W.cell? ⟨b, off + at_ * 2, none⟩ = some (.int .i64 num) := fun W h => h.2.2
      have hcn := hBE.cell (show (⟨b, off + at_ * 2, none⟩ : Addr).block < w.heap.size from HB.out) |>.trans HNum.out
      obtain ⟨g7, rfl, hth, hb7, ⟨cur7, hc7⟩, hset⟩ := hoE.set_ (i := at_) (by rw [List.length_take]; have := HN.out; omega) ⟨num, ⟨Al, nl, cl⟩⟩
      rw [show (l.take at1).set at_ ⟨num, ⟨Al, nl, cl⟩⟩ = l.take at_ ++ [⟨num, ⟨Al, nl, cl⟩⟩] from by rw [HN.out.2.2.2]; exact take_set_last HI.out _] at hset
      have hB2 := below_setCells2 hBE g7 (at_ * 2) ⟨num, ⟨Al, nl, cl⟩⟩ hb7
      have hn7 : ∀ {g n c : Nat} {A : Option Addr} {y : Int}, JBox wD g A n c y → g ≠ g7 := fun h e => by
        subst e
        exact absurd (ty_same hc7 h) (by decide)
      have hj2 : JBox (wD.setCells g7 (at_ * 2) (cellQ ⟨num, ⟨Al, nl, cl⟩⟩)) gj (some ⟨b, off, none⟩) n cc x := (setCells2_other wD g7 (at_ * 2) _ gj (hn7 hjE)).trans hjE
      have hr2 : JBox (wD.setCells g7 (at_ * 2) (cellQ ⟨num, ⟨Al, nl, cl⟩⟩)) gr none 0 0 0 := (setCells2_other wD g7 (at_ * 2) _ gr (hn7 hrE)).trans hrE
      have hg2 : JBox (wD.setCells g7 (at_ * 2) (cellQ ⟨num, ⟨Al, nl, cl⟩⟩)) go (some ⟨g7, 0, none⟩) at1 c7 x := (setCells2_other wD g7 (at_ * 2) _ go (hn7 hgE)).trans hgE
      refine wp_region_held_drew (S := fun W => JBox W gj (some ⟨b, off, none⟩) n cc x ∧ JBox W go (some ⟨g7, 0, none⟩) at1 c7 x ∧ W.cell? ⟨b, off + at_ * 2, none⟩ = some (.int .i64 num)) (by kernel_rfl) (by rw [← hwD]; exact ⟨hjE, hgE, hcn⟩) (fun hHeld => ?_)
      rw [← hwD] at hHeld ⊢
      refine wpAnyH_take (i := 0) (v := ?_) rfl (by kernel_rfl) (by kernel_rfl) (by kernel_rfl) (fun _ _ _ h => h) (Or.inl ⟨by rfl, ?_⟩) hHeld ?_
      rotate_left
      · (intro w hSw; go_simp; (try with_reducible rfl))
      simp only [Act.put, List.getElem_toArray, List.getElem_cons_zero, List.getElem_cons_succ, List.setIfInBounds_toArray, List.set_cons_zero, List.set_cons_succ]
      refine wpAnyH_take (i := 1) (v := ?_) rfl (by kernel_rfl) (by kernel_rfl) (by kernel_rfl) (fun _ _ _ h => h) (Or.inl ⟨by rfl, ?_⟩) hHeld ?_
      rotate_left
      · (intro w hSw; go_simp; (try with_reducible rfl))
      simp only [Act.put, List.getElem_toArray, List.getElem_cons_zero, List.getElem_cons_succ, List.setIfInBounds_toArray, List.set_cons_zero, List.set_cons_succ]
      refine wpAnyH_take (i := 2) (v := ?_) rfl (by kernel_rfl) (by kernel_rfl) (by kernel_rfl) (fun _ _ _ h => h) (Or.inl ⟨by rfl, ?_⟩) hHeld ?_
      rotate_left
      · (intro w hSw; go_simp; (try with_reducible rfl))
      simp only [Act.put, List.getElem_toArray, List.getElem_cons_zero, List.getElem_cons_succ, List.setIfInBounds_toArray, List.set_cons_zero, List.set_cons_succ]
      refine wpAnyH_take (i := 3) (v := ?_) rfl (by kernel_rfl) (by kernel_rfl) (by kernel_rfl) (fun _ _ _ h => h) (Or.inl ⟨by rfl, ?_⟩) hHeld ?_
      rotate_left
      · (intro w hSw; go_simp; (try with_reducible rfl))
      simp only [Act.put, List.getElem_toArray, List.getElem_cons_zero, List.getElem_cons_succ, List.setIfInBounds_toArray, List.set_cons_zero, List.set_cons_succ]
      refine wpAnyH_take (i := 4) (v := ?_) rfl (by kernel_rfl) (by kernel_rfl) (by kernel_rfl) (fun _ _ _ h => h) (Or.inl ⟨by rfl, ?_⟩) hHeld ?_
      rotate_left
      · (intro w hSw; go_simp; (try with_reducible rfl))
      simp only [Act.put, List.getElem_toArray, List.getElem_cons_zero, List.getElem_cons_succ, List.setIfInBounds_toArray, List.set_cons_zero, List.set_cons_succ]
      refine wpAnyH_take (i := 5) (v := ?_) rfl (by kernel_rfl) (by kernel_rfl) (by kernel_rfl) (fun _ _ _ h => h) (Or.inl ⟨by rfl, ?_⟩) hHeld ?_
      rotate_left
      · (intro w hSw; go_simp; (try with_reducible rfl))
      simp only [Act.put, List.getElem_toArray, List.getElem_cons_zero, List.getElem_cons_succ, List.setIfInBounds_toArray, List.set_cons_zero, List.set_cons_succ]
      refine wpAnyH_take (i := 6) (v := ?_) rfl (by kernel_rfl) (by kernel_rfl) (by kernel_rfl) (fun _ _ _ h => h) (Or.inl ⟨by rfl, ?_⟩) hHeld ?_
      rotate_left
      · (intro w hSw; go_simp; (try with_reducible rfl))
      simp only [Act.put, List.getElem_toArray, List.getElem_cons_zero, List.getElem_cons_succ, List.setIfInBounds_toArray, List.set_cons_zero, List.set_cons_succ]
      refine wpAnyH_take (i := 7) (v := ?_) rfl (by kernel_rfl) (by kernel_rfl) (by kernel_rfl) (fun _ _ _ h => h) (Or.inl ⟨by rfl, ?_⟩) hHeld ?_
      rotate_left
      · (intro w hSw; go_simp; (try with_reducible rfl))
      simp only [Act.put, List.getElem_toArray, List.getElem_cons_zero, List.getElem_cons_succ, List.setIfInBounds_toArray, List.set_cons_zero, List.set_cons_succ]
      refine wpAnyH_take (i := 8) (v := ?_) rfl (by kernel_rfl) (by kernel_rfl) (by kernel_rfl) (fun _ _ _ h => h) (Or.inl ⟨by rfl, ?_⟩) hHeld ?_
      rotate_left
      · (intro w hSw; go_simp; (try with_reducible rfl))
      simp only [Act.put, List.getElem_toArray, List.getElem_cons_zero, List.getElem_cons_succ, List.setIfInBounds_toArray, List.set_cons_zero, List.set_cons_succ]
      refine wpAnyH_take (i := 9) (v := ?_) rfl (by kernel_rfl) (by kernel_rfl) (by kernel_rfl) (fun _ _ _ h => h) (Or.inl ⟨by rfl, ?_⟩) hHeld ?_
      rotate_left
      · (intro w hSw; go_simp; (try with_reducible rfl))
      simp only [Act.put, List.getElem_toArray, List.getElem_cons_zero, List.getElem_cons_succ, List.setIfInBounds_toArray, List.set_cons_zero, List.set_cons_succ]
      refine wpAnyH_take (i := 10) (v := ?_) rfl (by kernel_rfl) (by kernel_rfl) (by kernel_rfl) (fun _ _ _ h => h) (Or.inl ⟨by rfl, ?_⟩) hHeld ?_
      rotate_left
      · (intro w hSw; go_simp; (try with_reducible rfl))
      simp only [Act.put, List.getElem_toArray, List.getElem_cons_zero, List.getElem_cons_succ, List.setIfInBounds_toArray, List.set_cons_zero, List.set_cons_succ]
      refine wpAnyH_take (i := 11) (v := ?_) rfl (by kernel_rfl) (by kernel_rfl) (by kernel_rfl) (fun _ _ _ h => h) (Or.inl ⟨by rfl, ?_⟩) hHeld ?_
      rotate_left
      · (intro w hSw; go_simp; (try with_reducible rfl))
      simp only [Act.put, List.getElem_toArray, List.getElem_cons_zero, List.getElem_cons_succ, List.setIfInBounds_toArray, List.set_cons_zero, List.set_cons_succ]
      clear k0 k1 k2
      refine wpAnyH_ready (rs := [12]) (by kernel_rfl) (by simp) ?_
      refine AllReadyH.cons rfl (fun K hK => ?_) AllReadyH.nil
      try simp only [List.getElem_toArray, List.getElem_cons_zero, List.getElem_cons_succ]
      have hszp : (Try.prog.info? 66).map (·.size) = some (#[Value.int .i64 num, Value.slice Al nl cl] : Array Value).size := by kernel_rfl
      have honep : (#[Value.int .i64 num, Value.slice Al nl cl] : Array Value).all (·.oneCell') = true := by simp [Value.oneCell']
      refine wp_store_mid 66 (.tmp 29) (.tmp 28) rfl g7 (at_ * 2) #[.int .i64 num, .slice Al nl cl] rfl rfl hth hszp honep ?_
      refine hK.out _ _ ⟨hj2, hg2, ?_⟩ (fun _ => ?_)
      · exact (hB2.cell (show (⟨b, off + at_ * 2, none⟩ : Addr).block < w.heap.size from HB.out)).trans HNum.out
      clear hK K
      try simp only [Act.put, List.setIfInBounds_toArray, List.set_cons_zero, List.set_cons_succ]
      refine wpAnyH_done (by kernel_rfl) ?_ _
      refine hK1 _ _ ?_
      clear hK1 K1 hHeld
      have hsz := jsize (some ⟨g7, 0, none⟩) at1 c7 x
      have hone := jone (some ⟨g7, 0, none⟩) at1 c7 x
      obtain ⟨w8, hw8⟩ : ∃ W, W = wD.setCells g7 (at_ * 2) (cellQ ⟨num, ⟨Al, nl, cl⟩⟩) := ⟨_, rfl⟩
      rw [← hw8] at hset hB2 hj2 hr2 hg2
      show Code.wp _ _ _ _ (wD.setCells g7 (at_ * 2) (cellQ ⟨num, ⟨Al, nl, cl⟩⟩))
      rw [← hw8]
      clear hw8 hwD hth hcn hjE hrE hoE hgE hBE hc7 hn7
      go_wp2_with (first
        | (refine wpList_load_row rfl 29 (.tmp 7) rfl go rfl 29 _ (0, 0) _ hg2 Try.underlying29 rfl hsz ?_)
        | (refine wpList_store_row rfl 29 (.tmp 6) (.tmp 30) rfl gr _ rfl rfl 29 _ hr2 hsz rfl hone ?_))
      have hwr : w.heap.size ≤ gr := by have := HG.out; omega
      refine bodyPost_ret (v := .agg #[.slice (some ⟨g7, 0, none⟩) at1 c7, .int .i64 x]) ?_ rfl ⟨some ⟨g7, 0, none⟩, c7, by rw [HN.out.2.2.2], ?_, below_setRow hB2 gr _ hwr⟩
      · exact results_cellE (ty := 29) (p := 6) (by kernel_rfl) _ _ gr 29 _ (0, 0) _ rfl (setRow_heap _ _ _ _ _ _ hr2) Try.underlying29 rfl hsz
      · rw [← HN.out.2.2.2]
        exact OwnQ.row hset hr2 _
  · skip
    go_simp
    have hbO : Below (World.heap w2).size w2 (World.alloc w2 (.cells #[.slice none 0 0, .int .i64 0] 29)) := (Below.refl _ _).alloc (Nat.le_refl _) _
    have hgo : JBox (World.alloc w2 (.cells #[.slice none 0 0, .int .i64 0] 29)) (World.heap w2).size none 0 0 0 := heap_alloc_new _ _
    have hBo := keepB hbO hB0
    have hjo := JBox.keep hHeld hbO
    have hro := JBox.keep hr0 hbO
    refine hK.out _ _ hjo (fun _ => ?_)
    clear hK K
    try simp only [Act.put, List.setIfInBounds_toArray, List.set_cons_zero, List.set_cons_succ]
    have hHeld := hjo
    refine wpAnyH_ready (rs := [0]) (by kernel_rfl) (by simp) ?_
    refine AllReadyH.cons rfl (fun K hK => ?_) AllReadyH.nil
    try simp only [List.getElem_toArray, List.getElem_cons_zero, List.getElem_cons_succ]
    go_simp
    have hbE : Below (World.heap (w2.alloc (.cells #[.slice none 0 0, .int .i64 0] 29))).size (w2.alloc (.cells #[.slice none 0 0, .int .i64 0] 29)) (World.alloc (w2.alloc (.cells #[.slice none 0 0, .int .i64 0] 29)) (.cells #[] 66)) := (Below.refl _ _).alloc (Nat.le_refl _) _
    have h0 := ownQ_empty (w2.alloc (.cells #[.slice none 0 0, .int .i64 0] 29)) w.heap.size (hBo).size
    have hBe := keepB hbE hBo
    have hje := JBox.keep hjo hbE
    have hre := JBox.keep hro hbE
    refine hK.out _ _ hje (fun _ => ?_)
    clear hK K
    try simp only [Act.put, List.setIfInBounds_toArray, List.set_cons_zero, List.set_cons_succ]
    have hHeld := hje
    refine wpAnyH_ready (rs := [6]) (by kernel_rfl) (by simp) ?_
    refine AllReadyH.cons rfl (fun K hK => ?_) AllReadyH.nil
    try simp only [List.getElem_toArray, List.getElem_cons_zero, List.getElem_cons_succ]
    have hgo1 := JBox.keep hgo hbE
    rw [World.size_alloc] at h0
    refine wp_appQ (.tmp 8) (.tmp 13) rfl w.heap.size (some ⟨(w2.heap.size + 1), 0, none⟩) 0 0 [] rfl h0 w.heap.size b off at1 cc (l.take at1) rfl ((HR.out.take_ at1).below hBe) HN.out.2.2.1 (by have := HN.out; omega) (hBe).size ?_
    intro A7 c7 w7 ho7 hg7
    rw [Nat.zero_add, List.nil_append] at ho7
    try rw [Nat.zero_add]
    have hB7 := (h0).grown hBe (hBe).size hg7
    have hj7 := JBox.app hje h0 hg7
    have hr7 := JBox.app hre h0 hg7
    refine hK.out _ _ hj7 (fun _ => ?_)
    clear hK K
    try simp only [Act.put, List.setIfInBounds_toArray, List.set_cons_zero, List.set_cons_succ]
    have hHeld := hj7
    refine wpAnyH_take (i := 9) (v := ?_) rfl (by kernel_rfl) (by kernel_rfl) (by kernel_rfl) (fun _ _ _ h => h) (Or.inl ⟨by rfl, ?_⟩) hHeld ?_
    rotate_left
    · (intro w hSw; go_simp; (try with_reducible rfl))
    simp only [Act.put, List.getElem_toArray, List.getElem_cons_zero, List.getElem_cons_succ, List.setIfInBounds_toArray, List.set_cons_zero, List.set_cons_succ]
    refine wpAnyH_ready (rs := [11]) (by kernel_rfl) (by simp) ?_
    refine AllReadyH.cons rfl (fun K hK => ?_) AllReadyH.nil
    try simp only [List.getElem_toArray, List.getElem_cons_zero, List.getElem_cons_succ]
    have hg7o := JBox.app hgo1 h0 hg7
    have hsz := jsize A7 at1 c7 x
    have hone := jone A7 at1 c7 x
    refine wp_store_row 29 (.tmp 7) (.tmp 17) rfl w2.heap.size _ rfl rfl 29 _ hg7o hsz rfl hone ?_
    have hlg := JBox.lt hg7o
    obtain ⟨go, hgoe⟩ : ∃ go, go = w2.heap.size := ⟨_, rfl⟩
    have hgw : w.heap.size ≤ go := by rw [hgoe]; exact hB0.size
    have hnj : gj ≠ go := by rw [hgoe]; have := HG.out; have := hs0; omega
    have hnr : gr ≠ go := by rw [hgoe]; have := HG.out; have := hs0; omega
    have hjE := JBox.row hj7 hnj #[.slice A7 at1 c7, .int .i64 x]
    have hrE := JBox.row hr7 hnr #[.slice A7 at1 c7, .int .i64 x]
    have hoE := OwnQ.row ho7 hg7o #[.slice A7 at1 c7, .int .i64 x]
    have hgE : (World.setRow w7 (w2.heap.size) #[.slice A7 at1 c7, .int .i64 x]).heap[w2.heap.size]? = some (.cells #[.slice A7 at1 c7, .int .i64 x] 29 (0, 0)) := setRow_heap _ _ _ _ _ _ hg7o
    have hBE := below_setRow hB7 go #[.slice A7 at1 c7, .int .i64 x] hgw
    rw [← hgoe] at hoE hgE ⊢
    clear hgoe hlg
    obtain ⟨wE, hwE⟩ : ∃ W, W = World.setRow w7 go #[.slice A7 at1 c7, .int .i64 x] := ⟨_, rfl⟩
    rw [← hwE] at hjE hrE hoE hgE hBE ⊢
    clear hwE
    refine hK.out _ _ hjE (fun _ => ?_)
    clear hK K
    try simp only [Act.put, List.setIfInBounds_toArray, List.set_cons_zero, List.set_cons_succ]
    refine wpAnyH_done (by kernel_rfl) ?_ _
    refine hK0 _ _ ?_
    clear hK0 K0
    clear hHeld hsz hone
    go_upto_region 2 with fail
    rename_i K1 hK1
    have hgE : JBox wE.drew go A7 at1 c7 x := hgE
    have hjE : JBox wE.drew gj (some ⟨b, off, none⟩) n cc x := hjE
    have hrE : JBox wE.drew gr none 0 0 0 := hrE
    have hoE : OwnQ wE.drew w.heap.size A7 at1 c7 (l.take at1) := ⟨hoE.len, hoE.o⟩
    have hBE := hBE.drew
    obtain ⟨wD, hwD⟩ : ∃ W, W = wE.drew := ⟨_, rfl⟩
    rw [← hwD] at hgE hjE hrE hoE hBE
    have k0 : ∀ W, JBox W gj (some ⟨b, off, none⟩) n cc x ∧ JBox W go A7 at1 c7 x ∧ W.cell? ⟨b, off + at_ * 2, none⟩ = some (.int .i64 num) → W.cell? ⟨gj, 0, none⟩ = some (.slice (some ⟨b, off, none⟩) n cc) := fun W h => cell_of_row W gj 0 _ _ _ h.1
    have k1 : ∀ W, JBox W gj (some ⟨b, off, none⟩) n cc x ∧ JBox W go A7 at1 c7 x ∧ W.cell? ⟨b, off + at_ * 2, none⟩ = some (.int .i64 num) → W.cell? ⟨go, 0, none⟩ = some (.slice A7 at1 c7) := fun W h => cell_of_row W go 0 _ _ _ h.2.1
    have k2 : ∀ W, JBox W gj (some ⟨b, off, none⟩) n cc x ∧ JBox W go A7 at1 c7 x ∧ W.cell? ⟨b, off + at_ * 2, none⟩ = some (.int .i64 num) → W.cell? ⟨b, off + at_ * 2, none⟩ = some (.int .i64 num) := fun W h => h.2.2
    have hcn := hBE.cell (show (⟨b, off + at_ * 2, none⟩ : Addr).block < w.heap.size from HB.out) |>.trans HNum.out
    obtain ⟨g7, rfl, hth, hb7, ⟨cur7, hc7⟩, hset⟩ := hoE.set_ (i := at_) (by rw [List.length_take]; have := HN.out; omega) ⟨num, ⟨Al, nl, cl⟩⟩
    rw [show (l.take at1).set at_ ⟨num, ⟨Al, nl, cl⟩⟩ = l.take at_ ++ [⟨num, ⟨Al, nl, cl⟩⟩] from by rw [HN.out.2.2.2]; exact take_set_last HI.out _] at hset
    have hB2 := below_setCells2 hBE g7 (at_ * 2) ⟨num, ⟨Al, nl, cl⟩⟩ hb7
    have hn7 : ∀ {g n c : Nat} {A : Option Addr} {y : Int}, JBox wD g A n c y → g ≠ g7 := fun h e => by
      subst e
      exact absurd (ty_same hc7 h) (by decide)
    have hj2 : JBox (wD.setCells g7 (at_ * 2) (cellQ ⟨num, ⟨Al, nl, cl⟩⟩)) gj (some ⟨b, off, none⟩) n cc x := (setCells2_other wD g7 (at_ * 2) _ gj (hn7 hjE)).trans hjE
    have hr2 : JBox (wD.setCells g7 (at_ * 2) (cellQ ⟨num, ⟨Al, nl, cl⟩⟩)) gr none 0 0 0 := (setCells2_other wD g7 (at_ * 2) _ gr (hn7 hrE)).trans hrE
    have hg2 : JBox (wD.setCells g7 (at_ * 2) (cellQ ⟨num, ⟨Al, nl, cl⟩⟩)) go (some ⟨g7, 0, none⟩) at1 c7 x := (setCells2_other wD g7 (at_ * 2) _ go (hn7 hgE)).trans hgE
    refine wp_region_held_drew (S := fun W => JBox W gj (some ⟨b, off, none⟩) n cc x ∧ JBox W go (some ⟨g7, 0, none⟩) at1 c7 x ∧ W.cell? ⟨b, off + at_ * 2, none⟩ = some (.int .i64 num)) (by kernel_rfl) (by rw [← hwD]; exact ⟨hjE, hgE, hcn⟩) (fun hHeld => ?_)
    rw [← hwD] at hHeld ⊢
    refine wpAnyH_take (i := 0) (v := ?_) rfl (by kernel_rfl) (by kernel_rfl) (by kernel_rfl) (fun _ _ _ h => h) (Or.inl ⟨by rfl, ?_⟩) hHeld ?_
    rotate_left
    · (intro w hSw; go_simp; (try with_reducible rfl))
    simp only [Act.put, List.getElem_toArray, List.getElem_cons_zero, List.getElem_cons_succ, List.setIfInBounds_toArray, List.set_cons_zero, List.set_cons_succ]
    refine wpAnyH_take (i := 1) (v := ?_) rfl (by kernel_rfl) (by kernel_rfl) (by kernel_rfl) (fun _ _ _ h => h) (Or.inl ⟨by rfl, ?_⟩) hHeld ?_
    rotate_left
    · (intro w hSw; go_simp; (try with_reducible rfl))
    simp only [Act.put, List.getElem_toArray, List.getElem_cons_zero, List.getElem_cons_succ, List.setIfInBounds_toArray, List.set_cons_zero, List.set_cons_succ]
    refine wpAnyH_take (i := 2) (v := ?_) rfl (by kernel_rfl) (by kernel_rfl) (by kernel_rfl) (fun _ _ _ h => h) (Or.inl ⟨by rfl, ?_⟩) hHeld ?_
    rotate_left
    · (intro w hSw; go_simp; (try with_reducible rfl))
    simp only [Act.put, List.getElem_toArray, List.getElem_cons_zero, List.getElem_cons_succ, List.setIfInBounds_toArray, List.set_cons_zero, List.set_cons_succ]
    refine wpAnyH_take (i := 3) (v := ?_) rfl (by kernel_rfl) (by kernel_rfl) (by kernel_rfl) (fun _ _ _ h => h) (Or.inl ⟨by rfl, ?_⟩) hHeld ?_
    rotate_left
    · (intro w hSw; go_simp; (try with_reducible rfl))
    simp only [Act.put, List.getElem_toArray, List.getElem_cons_zero, List.getElem_cons_succ, List.setIfInBounds_toArray, List.set_cons_zero, List.set_cons_succ]
    refine wpAnyH_take (i := 4) (v := ?_) rfl (by kernel_rfl) (by kernel_rfl) (by kernel_rfl) (fun _ _ _ h => h) (Or.inl ⟨by rfl, ?_⟩) hHeld ?_
    rotate_left
    · (intro w hSw; go_simp; (try with_reducible rfl))
    simp only [Act.put, List.getElem_toArray, List.getElem_cons_zero, List.getElem_cons_succ, List.setIfInBounds_toArray, List.set_cons_zero, List.set_cons_succ]
    refine wpAnyH_take (i := 5) (v := ?_) rfl (by kernel_rfl) (by kernel_rfl) (by kernel_rfl) (fun _ _ _ h => h) (Or.inl ⟨by rfl, ?_⟩) hHeld ?_
    rotate_left
    · (intro w hSw; go_simp; (try with_reducible rfl))
    simp only [Act.put, List.getElem_toArray, List.getElem_cons_zero, List.getElem_cons_succ, List.setIfInBounds_toArray, List.set_cons_zero, List.set_cons_succ]
    refine wpAnyH_take (i := 6) (v := ?_) rfl (by kernel_rfl) (by kernel_rfl) (by kernel_rfl) (fun _ _ _ h => h) (Or.inl ⟨by rfl, ?_⟩) hHeld ?_
    rotate_left
    · (intro w hSw; go_simp; (try with_reducible rfl))
    simp only [Act.put, List.getElem_toArray, List.getElem_cons_zero, List.getElem_cons_succ, List.setIfInBounds_toArray, List.set_cons_zero, List.set_cons_succ]
    refine wpAnyH_take (i := 7) (v := ?_) rfl (by kernel_rfl) (by kernel_rfl) (by kernel_rfl) (fun _ _ _ h => h) (Or.inl ⟨by rfl, ?_⟩) hHeld ?_
    rotate_left
    · (intro w hSw; go_simp; (try with_reducible rfl))
    simp only [Act.put, List.getElem_toArray, List.getElem_cons_zero, List.getElem_cons_succ, List.setIfInBounds_toArray, List.set_cons_zero, List.set_cons_succ]
    refine wpAnyH_take (i := 8) (v := ?_) rfl (by kernel_rfl) (by kernel_rfl) (by kernel_rfl) (fun _ _ _ h => h) (Or.inl ⟨by rfl, ?_⟩) hHeld ?_
    rotate_left
    · (intro w hSw; go_simp; (try with_reducible rfl))
    simp only [Act.put, List.getElem_toArray, List.getElem_cons_zero, List.getElem_cons_succ, List.setIfInBounds_toArray, List.set_cons_zero, List.set_cons_succ]
    refine wpAnyH_take (i := 9) (v := ?_) rfl (by kernel_rfl) (by kernel_rfl) (by kernel_rfl) (fun _ _ _ h => h) (Or.inl ⟨by rfl, ?_⟩) hHeld ?_
    rotate_left
    · (intro w hSw; go_simp; (try with_reducible rfl))
    simp only [Act.put, List.getElem_toArray, List.getElem_cons_zero, List.getElem_cons_succ, List.setIfInBounds_toArray, List.set_cons_zero, List.set_cons_succ]
    refine wpAnyH_take (i := 10) (v := ?_) rfl (by kernel_rfl) (by kernel_rfl) (by kernel_rfl) (fun _ _ _ h => h) (Or.inl ⟨by rfl, ?_⟩) hHeld ?_
    rotate_left
    · (intro w hSw; go_simp; (try with_reducible rfl))
    simp only [Act.put, List.getElem_toArray, List.getElem_cons_zero, List.getElem_cons_succ, List.setIfInBounds_toArray, List.set_cons_zero, List.set_cons_succ]
    refine wpAnyH_take (i := 11) (v := ?_) rfl (by kernel_rfl) (by kernel_rfl) (by kernel_rfl) (fun _ _ _ h => h) (Or.inl ⟨by rfl, ?_⟩) hHeld ?_
    rotate_left
    · (intro w hSw; go_simp; (try with_reducible rfl))
    simp only [Act.put, List.getElem_toArray, List.getElem_cons_zero, List.getElem_cons_succ, List.setIfInBounds_toArray, List.set_cons_zero, List.set_cons_succ]
    clear k0 k1 k2
    refine wpAnyH_ready (rs := [12]) (by kernel_rfl) (by simp) ?_
    refine AllReadyH.cons rfl (fun K hK => ?_) AllReadyH.nil
    try simp only [List.getElem_toArray, List.getElem_cons_zero, List.getElem_cons_succ]
    have hszp : (Try.prog.info? 66).map (·.size) = some (#[Value.int .i64 num, Value.slice Al nl cl] : Array Value).size := by kernel_rfl
    have honep : (#[Value.int .i64 num, Value.slice Al nl cl] : Array Value).all (·.oneCell') = true := by simp [Value.oneCell']
    refine wp_store_mid 66 (.tmp 29) (.tmp 28) rfl g7 (at_ * 2) #[.int .i64 num, .slice Al nl cl] rfl rfl hth hszp honep ?_
    refine hK.out _ _ ⟨hj2, hg2, ?_⟩ (fun _ => ?_)
    · exact (hB2.cell (show (⟨b, off + at_ * 2, none⟩ : Addr).block < w.heap.size from HB.out)).trans HNum.out
    clear hK K
    try simp only [Act.put, List.setIfInBounds_toArray, List.set_cons_zero, List.set_cons_succ]
    refine wpAnyH_done (by kernel_rfl) ?_ _
    refine hK1 _ _ ?_
    clear hK1 K1 hHeld
    have hsz := jsize (some ⟨g7, 0, none⟩) at1 c7 x
    have hone := jone (some ⟨g7, 0, none⟩) at1 c7 x
    obtain ⟨w8, hw8⟩ : ∃ W, W = wD.setCells g7 (at_ * 2) (cellQ ⟨num, ⟨Al, nl, cl⟩⟩) := ⟨_, rfl⟩
    rw [← hw8] at hset hB2 hj2 hr2 hg2
    show Code.wp _ _ _ _ (wD.setCells g7 (at_ * 2) (cellQ ⟨num, ⟨Al, nl, cl⟩⟩))
    rw [← hw8]
    clear hw8 hwD hth hcn hjE hrE hoE hgE hBE hc7 hn7
    go_wp2_with (first
      | (refine wpList_load_row rfl 29 (.tmp 7) rfl go rfl 29 _ (0, 0) _ hg2 Try.underlying29 rfl hsz ?_)
      | (refine wpList_store_row rfl 29 (.tmp 6) (.tmp 30) rfl gr _ rfl rfl 29 _ hr2 hsz rfl hone ?_))
    have hwr : w.heap.size ≤ gr := by have := HG.out; omega
    refine bodyPost_ret (v := .agg #[.slice (some ⟨g7, 0, none⟩) at1 c7, .int .i64 x]) ?_ rfl ⟨some ⟨g7, 0, none⟩, c7, by rw [HN.out.2.2.2], ?_, below_setRow hB2 gr _ hwr⟩
    · exact results_cellE (ty := 29) (p := 6) (by kernel_rfl) _ _ gr 29 _ (0, 0) _ rfl (setRow_heap _ _ _ _ _ _ hr2) Try.underlying29 rfl hsz
    · rw [← HN.out.2.2.2]
      exact OwnQ.row hset hr2 _
end Go.Proofs.Ytncmfkmgaghklaa
