/- Layer 12: a state that an event changes, in the making. -/
import Derived.Test.YtmhabodijmnldaaDoorEvCopy
import Derived.Test.YtmhabodijmnldaaDoorEvMath
import Derived.Test.YtmhabodijmnldaaDoorEvInv
import Derived.Test.YtmhabodijmnldaaDoorEvRef
import Derived.Test.YtmhabodijmnldaaDoorStBox
import Derived.Test.YtmhabodijmnldaaDoorStTwo
import Derived.Test.YtmhabodijmnldaaDoorObApp
import Derived.Test.YtmhabodijmnldaaDoorAppG
import Derived.OneCell
namespace Go.Proofs.YtmhabodijmnldaaDoor
open Go.RowKit Ex
set_option maxRecDepth 100000
/-- The blocks of a state's slices. -/
def OwnB (O : SlT) (L : Nat → SlT) (j : Nat) : Prop := O.v.ownBlock = some j ∨ ∃ z, z < 11 ∧ (L z).v.ownBlock = some j
/-- Where the boxes stand: the event's, the result's, the state's. -/
structure ApB (w : World) (ge gr gs : Nat) : Prop where
  e : w.heap.size ≤ ge
  r : ge < gr
  s : gr < gs
structure AP (w : World) (ge gr gs : Nat) (e : EvT) (s : StT) (O : SlT) (L : Nat → SlT) (W : World) : Prop where
  b : Below w.heap.size w W
  e : EvB W ge e
  r : StAt W gr st0
  a : StAt W gs (stC O L s.pl s.gm)
  o : OwnS W w.heap.size s O L
  ne : ∀ j, OwnB O L j → j ≠ ge ∧ j ≠ gr ∧ j ≠ gs
section
variable {w : World} {ge gr gs : Nat} {e : EvT} {s : StT} {O : SlT} {L : Nat → SlT} {W W' : World}
theorem AP.keep (h : AP w ge gr gs e s O L W) (hb : Below W.heap.size W W') : AP w ge gr gs e s O L W' := ⟨keepB hb h.b, h.e.keep hb, h.r.keep hb, h.a.keep hb, h.o.below hb, h.ne⟩
theorem AP.drew (h : AP w ge gr gs e s O L W) : AP w ge gr gs e s O L W.drew := h.keep (Below.refl _ _).drew
theorem OwnS.but (h : OwnS W w.heap.size s O L) {g : Nat} (hne : ∀ j, OwnB O L j → j ≠ g) (i : Nat) (v : Value) : OwnS (W.setCell ⟨g, i, none⟩ v) w.heap.size s O L :=
  ⟨h.on, owns_keep h.o fun j hj => heap_setCell_other W ⟨g, i, none⟩ j v (by simpa using hne j (.inl hj)), fun z hz => ⟨(h.l z hz).1, owns_keep (h.l z hz).2 fun j hj => heap_setCell_other W ⟨g, i, none⟩ j v (by simpa using hne j (.inr ⟨z, hz, hj⟩))⟩, h.d⟩
/-- The players' and the game's numbers. -/
theorem AP.nums (h : AP w ge gr gs e s O L W) (hB : ApB w ge gr gs) (i : Nat) (v : Value) {p q : Nat → Int} (hc : (stC O L s.pl s.gm).setIfInBounds i v = stC O L p q) : AP w ge gr gs e ⟨s.objs, s.lists, p, q⟩ O L (W.setCell ⟨gs, i, none⟩ v) := by
  obtain ⟨b1, b2, b3⟩ := hB
  have ho := h.o.but (g := gs) (fun j hj => (h.ne j hj).2.2) i v
  refine ⟨h.b.setCell (by simp; omega) _, h.e.far (by omega) i v, (heap_setCell_other W ⟨gs, i, none⟩ gr v (by simp; omega)).trans h.r, ?_, ⟨ho.on, ho.o, ho.l, ho.d⟩, h.ne⟩
  unfold StAt
  rw [heap_setCell_same W gs i _ _ _ h.a, hc]
end
theorem flatO_set : ∀ (os : List (Nat → Int)) (i j : Nat) (x : Int), i < os.length → j < 18 → (flatO os).set (i * 18 + j) (.int .i64 x) = flatO (setO os i j x)
  | [], i, j, x, h, _ => by simp at h
  | o :: l, 0, j, x, _, hj => by
    simp only [flatO, setO, List.flatMap_cons, Nat.zero_mul, Nat.zero_add, List.set_cons_zero, List.getD_cons_zero]
    rw [List.set_append_left _ _ (by rw [Array.length_toList, arr_size]; exact hj), ← arr_set, Array.toList_setIfInBounds]
  | o :: l, i + 1, j, x, h, hj => by
    have ih := flatO_set l i j x (by simpa using h) hj
    simp only [flatO, setO, List.flatMap_cons, List.set_cons_succ, List.getD_cons_succ] at ih ⊢
    rw [List.set_append_right _ _ (by rw [Array.length_toList, arr_size]; omega), Array.length_toList, arr_size, show (i + 1) * 18 + j - 18 = i * 18 + j by omega, ih]
theorem owns_set {W : World} {base n c : Nat} {A : Option Addr} {os : List (Nat → Int)} (h : W.ownsRow base 49 18 (.slice A n c) n (flatO os)) {i j : Nat} (hi : i < os.length) (hj : j < 18) :
    ∃ g, A = some ⟨g, 0, none⟩ ∧ W.cell? ⟨g, i * 18 + j, none⟩ = some (.int .i64 (os[i] j)) ∧ W.frozen? ⟨g, i * 18 + j, none⟩ = false ∧ base ≤ g ∧
      ∀ x : Int, (W.setCell ⟨g, i * 18 + j, none⟩ (.int .i64 x)).ownsRow base 49 18 (.slice A n c) n (flatO (setO os i j x)) := by
  have hl := h.1
  rw [flatO_len] at hl
  rcases h.2 with ⟨hv, hn⟩ | ⟨g, cap, cur, hv, hb, hg, hc, hm, hs, ht⟩
  · omega
  · injection hv with h1 _ h3
    subst h1 h3
    have hlt : i * 18 + j < n * 18 := by omega
    have hat := flatO_at i os[i] (List.getElem?_eq_getElem hi) j (.int .i64 (os[i] j)) (by rw [Array.getElem?_toList, arr_get .i64 18 _ hj])
    refine ⟨g, rfl, ?_, frozen_of_row W g (i * 18 + j) cur _ hg, hb, fun x => ?_⟩
    · rw [cell_of_row W g (i * 18 + j) cur _ _ hg, ← Array.getElem?_toList, ← hat, ← ht, List.getElem?_take_of_lt hlt]
    · refine ⟨by rw [flatO_len, setO_len]; exact hl, .inr ⟨g, c, cur.setIfInBounds (i * 18 + j) (.int .i64 x), rfl, hb, heap_setCell_same W g (i * 18 + j) _ _ _ hg, hc, hm, by rw [Array.size_setIfInBounds]; exact hs, ?_⟩⟩
      rw [Array.toList_setIfInBounds, List.take_set, ht, flatO_set os i j x hi hj]
section
variable {w : World} {ge gr gs : Nat} {e : EvT} {s : StT} {L : Nat → SlT} {W : World} {g n c : Nat}
/-- An object's number is written. -/
theorem AP.setO (h : AP w ge gr gs e s ⟨some ⟨g, 0, none⟩, n, c⟩ L W) (q : Nat) {i j : Nat} (hi : i < s.objs.length) (hj : j < 18) (hq : q = i * 18 + j) (x : Int) : AP w ge gr gs e { s with objs := setO s.objs i j x } ⟨some ⟨g, 0, none⟩, n, c⟩ L (W.setCell ⟨g, q, none⟩ (.int .i64 x)) := by
  subst hq
  have ho : W.ownsRow w.heap.size 49 18 (.slice (some ⟨g, 0, none⟩) n c) n (flatO s.objs) := h.o.o
  obtain ⟨g', e', hcell, hfr, hb, hset⟩ := owns_set ho hi hj
  obtain rfl : g = g' := by injection e' with e'; injection e'
  obtain ⟨n1, n2, n3⟩ := h.ne g (.inl rfl)
  refine ⟨h.b.setCell (by simpa using hb) _, h.e.far (Ne.symm n1) _ _, (heap_setCell_other W ⟨g, i * 18 + j, none⟩ gr _ (by simpa using Ne.symm n2)).trans h.r, (heap_setCell_other W ⟨g, i * 18 + j, none⟩ gs _ (by simpa using Ne.symm n3)).trans h.a, ?_, h.ne⟩
  refine ⟨?_, hset x, fun z hz => ⟨(h.o.l z hz).1, owns_keep (h.o.l z hz).2 fun k hk => heap_setCell_other W ⟨g, i * 18 + j, none⟩ k _ ?_⟩, h.o.d⟩
  · show n = (Go.Proofs.YtmhabodijmnldaaDoor.setO s.objs i j x).length
    rw [setO_len]; exact h.o.on
  · intro e
    have e : k = g := by simpa using e
    subst e
    rcases (h.o.l z hz).2.2 with ⟨hv, _⟩ | ⟨g2, cap, cur, hv, _, hg2, _⟩
    · have hk' : (Value.slice (L z).A (L z).n (L z).c).ownBlock = some k := hk
      rw [hv] at hk'; cases hk'
    · have hk' : (Value.slice (L z).A (L z).n (L z).c).ownBlock = some k := hk
      rw [hv] at hk'
      injection hk' with hk'
      have hk' : g2 = k := hk'
      subst hk'
      rcases ho.2 with ⟨hv, _⟩ | ⟨g3, cap3, cur3, hv3, _, hg3, _⟩
      · cases hv
      · injection hv3 with h1
        injection h1 with h1
        injection h1 with h1
        subst h1
        rw [hg2] at hg3
        injection hg3 with hg3
        injection hg3 with _ ht
        exact absurd ht (by decide)
end
section
variable {w : World} {ge gr gs : Nat} {e : EvT} {s : StT} {O : SlT} {L : Nat → SlT} {W W' : World}
/-- Other objects. -/
theorem AP.objs (h : AP w ge gr gs e s O L W) (hB : ApB w ge gr gs) (hg : W.grownBy W' O.v.ownBlock) {O' : SlT} {os : List (Nat → Int)} (ho : W'.ownsRow w.heap.size 49 18 O'.v O'.n (flatO os)) (hn : O'.n = os.length) :
    AP w ge gr gs e { s with objs := os } O' L (W'.setCell ⟨gs, 0, none⟩ O'.v) := by
  obtain ⟨b1, b2, b3⟩ := hB
  have hne : ∀ g, g = ge ∨ g = gr ∨ g = gs → some g ≠ O.v.ownBlock := fun g hg e => by
    have := h.ne g (.inl e.symm); omega
  have heW : W'.heap[ge]? = W.heap[ge]? := hg.block ge h.e.lt (hne ge (.inl rfl))
  have hrW : W'.heap[gr]? = W.heap[gr]? := hg.block gr h.r.lt (hne gr (.inr (.inl rfl)))
  have haW : W'.heap[gs]? = W.heap[gs]? := hg.block gs h.a.lt (hne gs (.inr (.inr rfl)))
  have hnew : ∀ j, O'.v.ownBlock = some j → j ≠ ge ∧ j ≠ gr ∧ j ≠ gs := fun j hj => by
    obtain ⟨_, cur, hc⟩ := own_ty ho hj
    refine ⟨?_, ?_, ?_⟩
    · rintro rfl; exact absurd (ty_same hc (heW.trans h.e)) (by decide)
    · rintro rfl; exact absurd (ty_same hc (hrW.trans h.r)) (by decide)
    · rintro rfl; exact absurd (ty_same hc (haW.trans h.a)) (by decide)
  refine ⟨(h.b.grown hg h.b.size (fun k hk => (own_ty h.o.o hk).1)).setCell (by simp; omega) _, (heap_setCell_other W' ⟨gs, 0, none⟩ ge _ (by simp; omega)).trans (heW.trans h.e), (heap_setCell_other W' ⟨gs, 0, none⟩ gr _ (by simp; omega)).trans (hrW.trans h.r), ?_, ⟨hn, ?_, fun z hz => ⟨(h.o.l z hz).1, ?_⟩, h.o.d⟩, ?_⟩
  · unfold StAt
    rw [heap_setCell_same W' gs 0 _ _ _ (haW.trans h.a), stC_set_objs]
  · exact owns_keep ho fun j hj => heap_setCell_other W' ⟨gs, 0, none⟩ j _ (by simpa using (hnew j hj).2.2)
  · refine owns_keep (h.o.l z hz).2 fun j hj => ?_
    obtain ⟨_, cur, hc⟩ := own_ty (h.o.l z hz).2 hj
    have h1 : some j ≠ O.v.ownBlock := fun e => by
      obtain ⟨_, cur2, hc2⟩ := own_ty h.o.o e.symm
      exact absurd (ty_same hc hc2) (by decide)
    exact (heap_setCell_other W' ⟨gs, 0, none⟩ j _ (by simpa using (h.ne j (.inr ⟨z, hz, hj⟩)).2.2)).trans (hg.block j (Array.getElem?_eq_some_iff.1 hc).1 h1)
  · rintro j (hj | ⟨z, hz, hj⟩)
    · exact hnew j hj
    · exact h.ne j (.inr ⟨z, hz, hj⟩)
/-- Another list. -/
theorem AP.list (h : AP w ge gr gs e s O L W) (hB : ApB w ge gr gs) {z : Nat} (hz : z < 11) (hg : W.grownBy W' (L z).v.ownBlock) {y : SlT} {l : List Int} (hy : Own .i64 3 W' w.heap.size y.A y.n y.c l) (hat : ∀ j, y.v.ownBlock = some j → W.heap.size ≤ j ∨ (L z).v.ownBlock = some j) :
    AP w ge gr gs e { s with lists := updL s.lists z l } O (updS L z y) (W'.setCell ⟨gs, 1 + z, none⟩ y.v) := by
  obtain ⟨b1, b2, b3⟩ := hB
  have hne : ∀ g, g = ge ∨ g = gr ∨ g = gs → some g ≠ (L z).v.ownBlock := fun g hg e => by
    have := h.ne g (.inr ⟨z, hz, e.symm⟩); omega
  have heW : W'.heap[ge]? = W.heap[ge]? := hg.block ge h.e.lt (hne ge (.inl rfl))
  have hrW : W'.heap[gr]? = W.heap[gr]? := hg.block gr h.r.lt (hne gr (.inr (.inl rfl)))
  have haW : W'.heap[gs]? = W.heap[gs]? := hg.block gs h.a.lt (hne gs (.inr (.inr rfl)))
  have hnew : ∀ j, y.v.ownBlock = some j → j ≠ ge ∧ j ≠ gr ∧ j ≠ gs := fun j hj => by
    obtain ⟨_, cur, hc⟩ := own_ty hy.2 hj
    refine ⟨?_, ?_, ?_⟩
    · rintro rfl; exact absurd (ty_same hc (heW.trans h.e)) (by decide)
    · rintro rfl; exact absurd (ty_same hc (hrW.trans h.r)) (by decide)
    · rintro rfl; exact absurd (ty_same hc (haW.trans h.a)) (by decide)
  have hset : ∀ j, j ≠ gs → (W'.setCell ⟨gs, 1 + z, none⟩ y.v).heap[j]? = W'.heap[j]? := fun j hj => heap_setCell_other W' ⟨gs, 1 + z, none⟩ j _ (by simpa using hj)
  have hdis : ∀ x, x < 11 → x ≠ z → ∀ j, (L x).v.ownBlock = some j → y.v.ownBlock ≠ some j := fun x hx hxz j hj e => by
    rcases hat j e with h1 | h1
    · have := (Array.getElem?_eq_some_iff.1 (own_ty (h.o.l x hx).2 hj).2.choose_spec).1; omega
    · exact h.o.d x hx z hz hxz j hj h1
  refine ⟨(h.b.grown hg h.b.size (fun k hk => (own_ty (h.o.l z hz).2 hk).1)).setCell (by simp; omega) _, (hset ge (by omega)).trans (heW.trans h.e), (hset gr (by omega)).trans (hrW.trans h.r), ?_, ⟨h.o.on, ?_, fun x hx => ?_, fun x hx x' hx' hxx j hj => ?_⟩, ?_⟩
  · unfold StAt
    rw [heap_setCell_same W' gs (1 + z) _ _ _ (haW.trans h.a), stC_set_list _ _ _ _ _ hz]
  · refine owns_keep h.o.o fun j hj => ?_
    obtain ⟨_, cur, hc⟩ := own_ty h.o.o hj
    have h1 : some j ≠ (L z).v.ownBlock := fun e => by
      obtain ⟨_, cur2, hc2⟩ := own_ty (h.o.l z hz).2 e.symm
      exact absurd (ty_same hc hc2) (by decide)
    exact (hset j (h.ne j (.inl hj)).2.2).trans (hg.block j (Array.getElem?_eq_some_iff.1 hc).1 h1)
  · show Own .i64 3 _ w.heap.size (updS L z y x).A (updS L z y x).n (updS L z y x).c (updL s.lists z l x)
    by_cases ex : x = z
    · subst ex
      rw [updL_at]
      simp only [updS, if_pos]
      exact ⟨hy.1, owns_keep hy.2 fun j hj => hset j (hnew j hj).2.2⟩
    · rw [updL_ne _ ex]
      simp only [updS, if_neg ex]
      refine ⟨(h.o.l x hx).1, owns_keep (h.o.l x hx).2 fun j hj => ?_⟩
      obtain ⟨_, cur, hc⟩ := own_ty (h.o.l x hx).2 hj
      exact (hset j (h.ne j (.inr ⟨x, hx, hj⟩)).2.2).trans (hg.block j (Array.getElem?_eq_some_iff.1 hc).1 (fun e => h.o.d x hx z hz ex j hj e.symm))
  · by_cases ex : x = z
    · subst ex
      have hx'z : ¬ x' = x := fun e => hxx e.symm
      simp only [updS, if_pos] at hj
      simp only [updS, if_neg hx'z]
      intro h2
      exact hdis x' hx' hx'z j h2 hj
    · simp only [updS, if_neg ex] at hj
      by_cases ex' : x' = z
      · subst ex'
        simp only [updS, if_pos]
        exact hdis x hx ex j hj
      · simp only [updS, if_neg ex']
        exact h.o.d x hx x' hx' hxx j hj
  · rintro j (hj | ⟨x, hx, hj⟩)
    · exact h.ne j (.inl hj)
    · by_cases ex : x = z
      · subst ex; simp only [updS, if_pos] at hj; exact hnew j hj
      · simp only [updS, if_neg ex] at hj; exact h.ne j (.inr ⟨x, hx, hj⟩)
end
theorem build_oz (W : World) : (Instr.build 49 #[]).run Tryd.prog W = .ok (.agg (arr .i64 18 fun _ => 0)) W := by kernel_rfl
theorem wpList_buildO0 {ops : Array Oper} {rest : List Oper} {o : Oper} {a : Act} {w : World} {Q : Exit → Act → World → Prop} (hg : o.guard = none) (ho : o.op = .build 49 #[])
    (hK : wpList Tryd.prog ops Q rest (a.put o.dst (.agg (arr .i64 18 fun _ => 0))) w) : wpList Tryd.prog ops Q (o :: rest) a w := by
  refine wpList_plain hg fun K' hK' => ?_
  unfold Oper.wp
  simp [execOp, ho, build_oz, Result.andThen]
  exact hK' _ _ hK
theorem made_upd (a b c : Int) : updI (updI (updI (updI (updI (updI (fun _ => 0) 0 a) 1 b) 2 b) 3 10) 13 c) 17 3 = madeO a b c := by
  funext i
  unfold updI madeO
  by_cases h0 : i = 0
  · subst h0; rfl
  by_cases h1 : i = 1
  · subst h1; rfl
  by_cases h2 : i = 2
  · subst h2; rfl
  by_cases h3 : i = 3
  · subst h3; rfl
  by_cases h13 : i = 13
  · subst h13; rfl
  by_cases h17 : i = 17
  · subst h17; rfl
  simp [h0, h1, h2, h3, h13, h17]
theorem owns_take {W : World} {base k n c m : Nat} {e : TypeId} {A : Option Addr} {xs : List Value} (h : W.ownsRow base e k (.slice A n c) n xs) (hm : m ≤ n) : W.ownsRow base e k (.slice A m c) m (xs.take (m * k)) := by
  refine ⟨by rw [List.length_take, h.1]; exact Nat.min_eq_left (Nat.mul_le_mul_right k hm), ?_⟩
  rcases h.2 with ⟨hv, hn⟩ | ⟨g, cap, cur, hv, hb, hg, hc, hx, hs, ht⟩
  · injection hv with h1 _ h3
    subst h1 h3 hn
    obtain rfl : m = 0 := by omega
    exact .inl ⟨rfl, rfl⟩
  · injection hv with h1 _ h3
    subst h1 h3
    exact .inr ⟨g, c, cur, rfl, hb, hg, by omega, hx, hs, by rw [← ht, List.take_take, Nat.min_eq_left (Nat.mul_le_mul_right k hm)]⟩
theorem flatO_take : ∀ (os : List (Nat → Int)) (m : Nat), (flatO os).take (m * 18) = flatO (os.take m)
  | [], m => by simp [flatO]
  | o :: l, 0 => by simp [flatO]
  | o :: l, m + 1 => by
    have ih := flatO_take l m
    simp only [flatO, List.flatMap_cons, List.take_succ_cons] at ih ⊢
    rw [List.take_append, Array.length_toList, arr_size, show (m + 1) * 18 - 18 = m * 18 by omega, ih, List.take_of_length_le (by rw [Array.length_toList, arr_size]; omega)]
theorem Own.take_ {k : IntKind} {e : TypeId} {w : World} {base n c m : Nat} {A : Option Addr} {l : List Int} (h : Own k e w base A n c l) (hm : m ≤ n) : Own k e w base A m c (l.take m) := by
  refine ⟨by rw [List.length_take, h.1]; exact Nat.min_eq_left hm, ?_⟩
  have := owns_take h.2 hm
  rwa [Nat.mul_one, ← List.map_take] at this
theorem cut_objs (g n c m : Nat) (hm : m ≤ c) (hc : 0 < c) (W : World) : (Instr.slice 22 (.slice (some ⟨g, 0, none⟩) n c) none (some (.int .i64 (m : Int))) none).run Tryd.prog W = .ok (.slice (some ⟨g, 0, none⟩) m c) W := by
  rw [run_slice_h W 22 (some ⟨g, 0, none⟩) n c (by kernel_rfl) .i64 (m : Int) (by omega) (by omega), show (sizeOf (Tryd.prog.elem 22)).run Tryd.prog W = .ok 18 W by kernel_rfl]
  simp only [Result.andThen_ok, sliced, Int.toNat_natCast, Nat.sub_zero, Nat.zero_mul]
  rw [if_neg (by omega)]; rfl
theorem cut_ints (g n c m : Nat) (hm : m ≤ c) (hc : 0 < c) (W : World) : (Instr.slice 23 (.slice (some ⟨g, 0, none⟩) n c) none (some (.int .i64 (m : Int))) none).run Tryd.prog W = .ok (.slice (some ⟨g, 0, none⟩) m c) W := by
  rw [run_slice_h W 23 (some ⟨g, 0, none⟩) n c (by kernel_rfl) .i64 (m : Int) (by omega) (by omega), show (sizeOf (Tryd.prog.elem 23)).run Tryd.prog W = .ok 1 W by kernel_rfl]
  simp only [Result.andThen_ok, sliced, Int.toNat_natCast, Nat.sub_zero, Nat.zero_mul]
  rw [if_neg (by omega)]; rfl
theorem own_form {W : World} {base n c k : Nat} {e : TypeId} {A : Option Addr} {xs : List Value} (h : W.ownsRow base e k (.slice A n c) n xs) (hn : 0 < n) : ∃ g, A = some ⟨g, 0, none⟩ ∧ n ≤ c := by
  rcases h.2 with ⟨_, h0⟩ | ⟨g, cap, cur, hv, _, _, hc, _⟩
  · omega
  · injection hv with h1 _ h3
    exact ⟨g, h1, by rw [h3]; exact hc⟩
theorem mem_rmL {l : List Int} {i : Nat} {n : Int} (h : n ∈ rmL l i) : n ∈ l := by
  unfold rmL at h
  rcases List.mem_append.1 h with h | h
  · exact List.mem_of_mem_take h
  · exact List.mem_of_mem_drop h
theorem mem_insL {l : List Int} {i : Nat} {x n : Int} (h : n ∈ insL l i x) : n = x ∨ n ∈ l := by
  unfold insL at h
  rcases List.mem_append.1 h with h | h
  · exact .inr (List.mem_of_mem_take h)
  · rcases List.mem_cons.1 h with h | h
    · exact .inl h
    · exact .inr (List.mem_of_mem_drop h)
/-- What the reference's Apply answers. -/
def ApR (w : World) (r : StT × Int) (en : Ending) (w' : World) : Prop := ∃ cs O L, en = .returned (.tuple #[.agg cs, .int .i64 r.2]) ∧ ReadsS w'.heap.size w' cs r.1 O L ∧ OwnS w' w.heap.size r.1 O L ∧ Below w.heap.size w w'
/-- A state's numbers. -/
structure I64S (s : StT) : Prop where
  o : ∀ o ∈ s.objs, ∀ i < 18, N64 (o i)
  l : ∀ z < 11, ∀ n ∈ s.lists z, N64 n
  p : ∀ i < 18, N64 (s.pl i)
  g : ∀ i < 7, N64 (s.gm i)
theorem ReadsS.i64 {B : Nat} {w : World} {cs : Array Value} {s : StT} {O : SlT} {L : Nat → SlT} (h : ReadsS B w cs s O L) : I64S s := ⟨h.ow, h.lw, h.pw, h.gw⟩
theorem I64S.setO {s : StT} (h : I64S s) {i : Nat} (hi : i < s.objs.length) (j : Nat) {x : Int} (hx : N64 x) : I64S { s with objs := setO s.objs i j x } := by
  refine ⟨fun o ho k hk => ?_, h.l, h.p, h.g⟩
  have ho : o ∈ Go.Proofs.YtmhabodijmnldaaDoor.setO s.objs i j x := ho
  unfold Go.Proofs.YtmhabodijmnldaaDoor.setO at ho
  rcases List.mem_or_eq_of_mem_set ho with h1 | rfl
  · exact h.o o h1 k hk
  · unfold updI
    split
    · exact hx
    · rw [getD_in _ hi]; exact h.o _ (List.getElem_mem hi) k hk
theorem AP.final {w : World} {ge gr gs : Nat} {e : EvT} {s : StT} {O : SlT} {L : Nat → SlT} {W : World} (h : AP w ge gr gs e s O L W) (hI : I64S s) (cs : Array Value) : ReadsS (W.setRow gr cs).heap.size (W.setRow gr cs) (stC O L s.pl s.gm) s O L := by
  have ho : OwnS (W.setRow gr cs) w.heap.size s O L :=
    ⟨h.o.on, owns_keep h.o.o fun j hj => setRow_other W gr j cs (h.ne j (.inl hj)).2.1, fun z hz => ⟨(h.o.l z hz).1, owns_keep (h.o.l z hz).2 fun j hj => setRow_other W gr j cs (h.ne j (.inr ⟨z, hz, hj⟩)).2.1⟩, h.o.d⟩
  exact ho.reads hI.o hI.l hI.p hI.g
theorem own_zero (W : World) (base : Nat) : OwnS W base sT0 nilS (fun _ => nilS) :=
  ⟨rfl, obj_nil W base, fun z _ => (Own.nil W).base_le (Nat.le_refl _), fun y _ z _ _ j hj => by cases hj⟩
theorem AP.finalO {w : World} {ge gr gs : Nat} {e : EvT} {s : StT} {O : SlT} {L : Nat → SlT} {W : World} (h : AP w ge gr gs e s O L W) (cs : Array Value) : OwnS (W.setRow gr cs) w.heap.size s O L :=
  ⟨h.o.on, owns_keep h.o.o fun j hj => setRow_other W gr j cs (h.ne j (.inl hj)).2.1, fun z hz => ⟨(h.o.l z hz).1, owns_keep (h.o.l z hz).2 fun j hj => setRow_other W gr j cs (h.ne j (.inr ⟨z, hz, hj⟩)).2.1⟩, h.o.d⟩
theorem st0_size' : (Tryd.prog.info? 29).map (·.size) = some st0.size := by rw [show st0.size = 37 from stC_size _ _ _ _]; exact size37
theorem st0_one' : st0.all (·.oneCell') = true := stC_one _ _ _ _
end Go.Proofs.YtmhabodijmnldaaDoor
