/- Layer 12: a state in blocks of the call's own, each list in one of its own: may be written into and appended to. -/
import Derived.Test.YtplfblccaeligaaDoorShG4
namespace Go.Proofs.YtplfblccaeligaaDoor
open Go.RowKit Ex
set_option maxRecDepth 100000
/-- A state's slices are the call's own. -/
structure OwnS (W : World) (base : Nat) (s : StT) (O : SlT) (L : Nat → SlT) : Prop where
  on : O.n = s.objs.length
  o : W.ownsRow base 37 18 O.v O.n (flatO s.objs)
  l : ∀ z < 11, Own .i64 3 W base (L z).A (L z).n (L z).c (s.lists z)
  d : ∀ y < 11, ∀ z < 11, y ≠ z → ∀ j, (L y).v.ownBlock = some j → (L z).v.ownBlock ≠ some j
section
variable {W W' : World} {base : Nat} {s : StT} {O : SlT} {L : Nat → SlT}
theorem OwnS.keep (h : OwnS W base s O L) (hb : ∀ j, base ≤ j → j < W.heap.size → W'.heap[j]? = W.heap[j]?) : OwnS W' base s O L :=
  ⟨h.on, owns_keep h.o fun j hj => hb j (h.o.lt j hj).1 (h.o.lt j hj).2, fun z hz => ⟨(h.l z hz).1, owns_keep (h.l z hz).2 fun j hj => hb j ((h.l z hz).2.lt j hj).1 ((h.l z hz).2.lt j hj).2⟩, h.d⟩
theorem OwnS.below (h : OwnS W base s O L) (hb : Below W.heap.size W W') : OwnS W' base s O L := h.keep fun j _ hj => hb.block j hj
theorem OwnS.reads (h : OwnS W base s O L) (ho : ∀ o ∈ s.objs, ∀ i < 18, N64 (o i)) (hl : ∀ z < 11, ∀ n ∈ s.lists z, N64 n) (hp : ∀ i < 18, N64 (s.pl i)) (hg : ∀ i < 7, N64 (s.gm i)) : ReadsS W.heap.size W (stC O L s.pl s.gm) s O L := by
  obtain ⟨A, c, e, hs⟩ := slO_of_own h.o h.on
  obtain ⟨A', n', c'⟩ := O
  injection e with e1 _ e3
  subst e1 e3
  exact ⟨rfl, h.on, hs.c, hs.m, hs.R, fun z hz => (h.l z hz).nums, fun z hz => (h.l z hz).cap, ho, hl, hp, hg⟩
theorem OwnS.low (h : OwnS W base s O L) {b : Nat} (hb : b ≤ base) : OwnS W b s O L := by
  refine ⟨h.on, ⟨h.o.1, ?_⟩, fun z hz => (h.l z hz).base_le hb, h.d⟩
  rcases h.o.2 with hv | ⟨g, cap, cur, hv, hbs, rest⟩
  · exact .inl hv
  · exact .inr ⟨g, cap, cur, hv, Nat.le_trans hb hbs, rest⟩
end
/-- What a copy answers: the same state, in blocks of its own. -/
def CopyO (w : World) (s : StT) (cs : Array Value) (W : World) : Prop := ∃ O L, cs = stC O L s.pl s.gm ∧ OwnS W w.heap.size s O L ∧ Below w.heap.size w W
/-- A box in the making: the first k lists are copied. -/
structure CpO (w : World) (g base : Nat) (s : StT) (L0 : Nat → SlT) (O : SlT) (L : Nat → SlT) (k : Nat) (W : World) : Prop where
  b : Below w.heap.size w W
  r : ∀ z, k ≤ z → L z = L0 z
  a : StAt W g (stC O L s.pl s.gm)
  on : O.n = s.objs.length
  o : W.ownsRow base 37 18 O.v O.n (flatO s.objs)
  l : ∀ z, z < k → Own .i64 3 W base (L z).A (L z).n (L z).c (s.lists z)
  d : ∀ y, y < k → ∀ z, z < k → y ≠ z → ∀ j, (L y).v.ownBlock = some j → (L z).v.ownBlock ≠ some j
section
variable {w : World} {g base : Nat} {s : StT} {O : SlT} {L0 L : Nat → SlT} {k : Nat} {W W' : World}
theorem CpO.keep (h : CpO w g base s L0 O L k W) (hb : Below W.heap.size W W') : CpO w g base s L0 O L k W' :=
  ⟨keepB hb h.b, h.r, h.a.keep hb, h.on, owns_keep h.o fun j hj => hb.block j (h.o.lt j hj).2, fun z hz => (h.l z hz).below hb (Nat.le_refl _), h.d⟩
theorem CpO.next (h : CpO w g base s L0 O L k W) (hk : k < 11) (hwg : w.heap.size ≤ g) (hg : g < base) {x : SlT} (hx : Own .i64 3 W base x.A x.n x.c (s.lists k)) (hd : ∀ y, y < k → ∀ j, (L y).v.ownBlock = some j → x.v.ownBlock ≠ some j) :
    CpO w g base s L0 O (updS L k x) (k + 1) (W.setCell ⟨g, 1 + k, none⟩ x.v) := by
  have hb : ∀ j, base ≤ j → (W.setCell ⟨g, 1 + k, none⟩ x.v).heap[j]? = W.heap[j]? := fun j hj => heap_setCell_other W ⟨g, 1 + k, none⟩ j _ (by simp; omega)
  have hown : ∀ {A n c l}, Own .i64 3 W base A n c l → Own .i64 3 (W.setCell ⟨g, 1 + k, none⟩ x.v) base A n c l := fun h => ⟨h.1, owns_keep h.2 fun j hj => hb j (h.2.lt j hj).1⟩
  refine ⟨h.b.setCell (by simpa using hwg) _, fun z hz => (if_neg (by omega)).trans (h.r z (by omega)), ?_, h.on, owns_keep h.o fun j hj => hb j (h.o.lt j hj).1, fun z hz => ?_, fun y hy z hz hne j hj => ?_⟩
  · unfold StAt
    rw [heap_setCell_same W g (1 + k) _ _ _ h.a, stC_set_list _ _ _ _ _ hk]
  · by_cases e : z = k
    · subst e; simp only [updS, if_pos]; exact hown hx
    · simp only [updS, if_neg e]; exact hown (h.l z (by omega))
  · by_cases ey : y = k
    · subst ey
      simp only [updS, if_pos] at hj
      have hzy : ¬ z = y := fun e => hne e.symm
      simp only [updS, if_neg hzy]
      intro h2
      exact hd z (by omega) j h2 hj
    · simp only [updS, if_neg ey] at hj
      by_cases ez : z = k
      · subst ez
        simp only [updS, if_pos]
        exact hd y (by omega) j hj
      · simp only [updS, if_neg ez]
        exact h.d y (by omega) z (by omega) hne j hj
theorem CpO.start {O1 : SlT} (hb : Below w.heap.size w W) (ha : StAt W g (stC O1 L0 s.pl s.gm)) (hwg : w.heap.size ≤ g) (hg : g < base) (hn : O.n = s.objs.length) (ho : W.ownsRow base 37 18 O.v O.n (flatO s.objs)) : CpO w g base s L0 O L0 0 (W.setCell ⟨g, 0, none⟩ O.v) := by
  refine ⟨hb.setCell (by simpa using hwg) _, fun _ _ => rfl, ?_, hn, owns_keep ho fun j hj => heap_setCell_other W ⟨g, 0, none⟩ j _ (by have := (ho.lt j hj).1; simp; omega), fun z hz => absurd hz (by omega), fun y hy => absurd hy (by omega)⟩
  unfold StAt
  rw [heap_setCell_same W g 0 _ _ _ ha, stC_set_objs]
theorem CpO.copy (h : CpO w g base s L0 O L 11 W) {r : Nat} (hr : w.heap.size ≤ r) (hrg : r < base) : CopyO w s (stC O L s.pl s.gm) (W.setRow r (stC O L s.pl s.gm)) := by
  have hb : ∀ b, base ≤ b → (W.setRow r (stC O L s.pl s.gm)).heap[b]? = W.heap[b]? := fun b hb => setRow_other W r b _ (by omega)
  have ho : OwnS W base s O L := ⟨h.on, h.o, fun z hz => h.l z hz, fun y hy z hz => h.d y hy z hz⟩
  exact ⟨O, L, rfl, (ho.keep fun j hj _ => hb j hj).low (by omega), below_setRow h.b r _ hr⟩
end
/-- append of any objects to none: with the row that is the call's own. -/
theorem wpList_appOw {ops : Array Oper} {rest : List Oper} {o : Oper} {a : Act} {w : World} {Q : Exit → Act → World → Prop} (hgd : o.guard = none) (s x : Operand)
    (ho : o.op = .call { callee := .builtin .append, args := #[s, x], argTypes := #[22, 22] })
    (base : Nat) (A : Option Addr) (c : Nat) (hs : a.eval s = .slice A 0 c) (h : w.ownsRow base 37 18 (.slice A 0 c) 0 [])
    (B : Nat) (A2 : Option Addr) (m c2 : Nat) (l : List (Nat → Int)) (hx : a.eval x = .slice A2 m c2) (hr : RdO B w A2 l) (hl : m = l.length) (hn : m ≤ 1000000) (hbase : base ≤ w.heap.size)
    (hK : ∀ A' c' w', w'.ownsRow base 37 18 (.slice A' m c') m (flatO l) → w.grownBy w' (Value.slice A 0 c).ownBlock → wpList Tryd.prog ops Q rest (a.put o.dst (.slice A' m c')) w') :
    wpList Tryd.prog ops Q (o :: rest) a w := by
  obtain ⟨i0, hi, hz0, hz1, hz2⟩ := info_parts info_obj
  rcases A2 with _ | ad
  · have hl0 : l = [] := by
      cases l with
      | nil => rfl
      | cons y r => obtain ⟨b, off, e, _⟩ := hr 0 y rfl; cases e
    subst hl0
    obtain rfl : m = 0 := hl
    have hrun : (Builtin.append_ #[22, 22] o.type #[.slice A 0 c, .slice none 0 c2]).run Tryd.prog w = .ok (.slice A 0 c) w := by
      rcases h.2 with ⟨hv, _⟩ | ⟨g, cap, cur, hv, _, _, hnc, _⟩
      · rw [hv]
        simp [Builtin.append_, run_underlying Tryd.underlying22, sizeOf, typeInfo, hi, Builtin.lenOf, Builtin.firstCells]
      · rw [hv]
        simp [Builtin.append_, run_underlying Tryd.underlying22, sizeOf, typeInfo, hi, Builtin.lenOf, Builtin.firstCells, hnc, storeCells]
    refine wpList_plain hgd fun K hK' => ?_
    unfold Oper.wp execOp
    simp only [ho, resolve, invoke, builtin, Sem.run_bind, Sem.run_pure, Result.andThen_ok, List.map_toArray, List.map_cons, List.map_nil, hs, hx, hrun]
    exact hK' _ _ (hK A c w h (World.grownBy.refl w _))
  · refine wpList_append_own_at w hgd s x 22 ho base 37 i0 _ 18 144 Tryd.underlying22 hi hz0 hz1 hz2 (show (arr .i64 18 fun _ => 0).size = 18 by rw [arr_size]) (by omega) _ 0 [] hs h ad m c2 (flatO l) hx (by rw [flatO_len, hl])
      (fun j u hj => ?_) (flatO_one l) (by unfold maxLen; omega) (by omega) hbase ?_
    · obtain ⟨o, h1, h2⟩ := flatO_of hj
      obtain ⟨b, off, ea, _, hra⟩ := hr _ _ h1
      injection ea with ea
      subst ea
      rw [Addr.add_mid, show off + j = off + j / 18 * 18 + j % 18 by omega]
      exact hra _ _ h2
    · intro v' w' hown hgr _ _
      rw [Nat.zero_add, List.nil_append] at hown
      have hform : ∃ A' c', v' = .slice A' m c' := by
        rcases hown.2 with ⟨rfl, hz⟩ | ⟨g', cap, _, rfl, _⟩
        · exact ⟨none, 0, by rw [hz]⟩
        · exact ⟨_, _, rfl⟩
      obtain ⟨A', c', rfl⟩ := hform
      exact hK A' c' w' hown hgr
end Go.Proofs.YtplfblccaeligaaDoor
