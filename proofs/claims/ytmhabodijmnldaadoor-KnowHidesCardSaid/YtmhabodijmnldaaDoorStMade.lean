/- Layer 10: copies of a state: lists and objects in blocks of the call's own. -/
import Derived.Test.YtmhabodijmnldaaDoorStPl
import Derived.Test.YtmhabodijmnldaaDoorMine
import Derived.Maps.AppendAt
namespace Go.Proofs.YtmhabodijmnldaaDoor
open Go.RowKit Ex
set_option maxRecDepth 100000
/-- A list in blocks of the call's own. -/
structure SlR (W : World) (base : Nat) (x : SlT) (l : List Int) : Prop where
  N : Nums .i64 W W.heap.size x.A x.n l
  c : x.n ≤ x.c
  f : MineA W base x.A
/-- Objects in blocks of the call's own. -/
structure SlO (W : World) (base : Nat) (x : SlT) (l : List (Nat → Int)) : Prop where
  R : RdO W.heap.size W x.A l
  n : x.n = l.length
  c : x.n ≤ x.c
  m : x.c ≤ maxLen
  f : MineA W base x.A
section
variable {W W' : World} {base : Nat} {x : SlT}
theorem SlR.stay {l : List Int} (h : SlR W base x l) (hs : W.heap.size ≤ W'.heap.size) (hb : ∀ b, base ≤ b → W'.heap[b]? = W.heap[b]?) : SlR W' base x l := by
  refine ⟨⟨h.N.len, fun j u hu => ?_⟩, h.c, h.f.stay fun b h1 _ => hb b h1⟩
  obtain ⟨a, ea, h1, hcell⟩ := h.N.2 j u hu
  obtain ⟨g, o, cs, t, e, h3, h4⟩ := h.f a ea
  exact ⟨a, ea, by omega, (World.cell?_of_block (by rw [addr_block, e]; exact hb _ h3)).trans hcell⟩
theorem SlO.stay {l : List (Nat → Int)} (h : SlO W base x l) (hs : W.heap.size ≤ W'.heap.size) (hb : ∀ b, base ≤ b → W'.heap[b]? = W.heap[b]?) : SlO W' base x l := by
  refine ⟨fun j o ho => ?_, h.n, h.c, h.m, h.f.stay fun b h1 _ => hb b h1⟩
  obtain ⟨b, off, ea, h1, hra⟩ := h.R j o ho
  obtain ⟨g, o2, cs, t, e, h3, h4⟩ := h.f _ ea
  injection e with e1 e2
  subst e1
  exact ⟨b, off, ea, by omega, fun k u hu => (World.cell?_of_block (hb b h3)).trans (hra k u hu)⟩
theorem MineA.keep {w w' : World} {base : Nat} {A : Option Addr} (h : MineA w base A) (hb : Below w.heap.size w w') : MineA w' base A := h.stay fun b _ h2 => hb.block b h2
theorem SlR.keep {l : List Int} (h : SlR W base x l) (hb : Below W.heap.size W W') : SlR W' base x l := ⟨(h.N.below hb).more hb.size, h.c, h.f.keep hb⟩
theorem SlO.keep {l : List (Nat → Int)} (h : SlO W base x l) (hb : Below W.heap.size W W') : SlO W' base x l := ⟨(h.R.below hb).more hb.size, h.n, h.c, h.m, h.f.keep hb⟩
theorem SlR.set_ {l : List Int} (h : SlR W base x l) {g : Nat} (hg : g < base) (i : Nat) (v : Value) : SlR (W.setCell ⟨g, i, none⟩ v) base x l :=
  h.stay (by simp [World.setCell]) fun b hb => heap_setCell_other W ⟨g, i, none⟩ b v (by simp; omega)
theorem SlO.set_ {l : List (Nat → Int)} (h : SlO W base x l) {g : Nat} (hg : g < base) (i : Nat) (v : Value) : SlO (W.setCell ⟨g, i, none⟩ v) base x l :=
  h.stay (by simp [World.setCell]) fun b hb => heap_setCell_other W ⟨g, i, none⟩ b v (by simp; omega)
end
theorem Own.slR {w : World} {base n c : Nat} {A : Option Addr} {l : List Int} (h : Own .i64 3 w base A n c l) : SlR w base ⟨A, n, c⟩ l := ⟨h.nums, h.cap, (Mine.of_own h).A⟩
/-- All cells of objects. -/
def flatO (l : List (Nat → Int)) : List Value := l.flatMap fun o => (arr .i64 18 o).toList
theorem flatO_len (l : List (Nat → Int)) : (flatO l).length = l.length * 18 := by
  induction l with
  | nil => rfl
  | cons x l ih => simp only [flatO, List.flatMap_cons, List.length_append, Array.length_toList, arr_size, List.length_cons] at ih ⊢; omega
theorem flatO_at : ∀ {l : List (Nat → Int)} (i : Nat) (o : Nat → Int), l[i]? = some o → ∀ j v, (arr .i64 18 o).toList[j]? = some v → (flatO l)[i * 18 + j]? = some v
  | [], i, o, h, _, _, _ => by simp at h
  | x :: l, 0, o, h, j, v, hv => by
    simp at h; subst h
    simp only [flatO, List.flatMap_cons, Nat.zero_mul, Nat.zero_add]
    rw [List.getElem?_append_left (List.getElem?_eq_some_iff.1 hv).1]; exact hv
  | x :: l, i + 1, o, h, j, v, hv => by
    have ih := flatO_at (l := l) i o (by simpa using h) j v hv
    simp only [flatO, List.flatMap_cons] at ih ⊢
    rw [List.getElem?_append_right (by rw [Array.length_toList, arr_size]; omega), Array.length_toList, arr_size, show (i + 1) * 18 + j - 18 = i * 18 + j by omega]
    exact ih
theorem flatO_of {l : List (Nat → Int)} {j : Nat} {v : Value} (h : (flatO l)[j]? = some v) : ∃ o, l[j / 18]? = some o ∧ (arr .i64 18 o).toList[j % 18]? = some v := by
  have hj : j < l.length * 18 := by rw [← flatO_len]; exact (List.getElem?_eq_some_iff.1 h).1
  have hq : j / 18 < l.length := by omega
  refine ⟨l[j / 18], List.getElem?_eq_getElem hq, ?_⟩
  have hr : j % 18 < (arr .i64 18 l[j / 18]).toList.length := by rw [Array.length_toList, arr_size]; omega
  rw [List.getElem?_eq_getElem hr]
  have := flatO_at (j / 18) _ (List.getElem?_eq_getElem hq) (j % 18) _ (List.getElem?_eq_getElem hr)
  rw [show j / 18 * 18 + j % 18 = j by omega] at this
  exact this.symm.trans h
theorem flatO_one (l : List (Nat → Int)) : ∀ u ∈ flatO l, u.oneCell' = true := fun u hu => by
  obtain ⟨o, _, h⟩ := List.mem_flatMap.1 hu
  obtain ⟨i, hi, rfl⟩ := List.getElem_of_mem h
  have h1 := Array.all_eq_true'.1 (arr_one .i64 18 o) ((arr .i64 18 o).toList[i]) (by simp)
  exact h1
theorem info_obj : (Tryd.prog.info? 49).map (fun i => (i.zero, i.size, i.bytes)) = some (some (.agg (arr .i64 18 fun _ => 0)), 18, 144) := by kernel_rfl
theorem st_info_int : (Tryd.prog.info? 3).map (fun i => (i.zero, i.size, i.bytes)) = some (some (.int .i64 0), 1, 8) := by kernel_rfl
theorem slO_of_own {w : World} {base : Nat} {v : Value} {n : Nat} {l : List (Nat → Int)} (h : w.ownsRow base 49 18 v n (flatO l)) (hn : n = l.length) : ∃ A c, v = .slice A n c ∧ SlO w base ⟨A, n, c⟩ l := by
  have h' := h
  rcases h.2 with ⟨rfl, hz⟩ | ⟨g, cap, cur, rfl, hb, hg, hc, hm, _⟩
  · subst hz
    have hl : l = [] := List.length_eq_zero_iff.1 hn.symm
    subst hl
    exact ⟨none, 0, rfl, ⟨fun i o hi => by simp at hi, rfl, Nat.le_refl _, Nat.zero_le _, fun a ha => by cases ha⟩⟩
  · refine ⟨some ⟨g, 0, none⟩, cap, rfl, ⟨fun i o hi => ⟨g, 0, rfl, (Array.getElem?_eq_some_iff.1 hg).1, fun j u hu => ?_⟩, hn, hc, hm, ?_⟩⟩
    · have := h'.cells (g := g) rfl (i * 18 + j) u (flatO_at i o hi j u hu)
      rw [Addr.add_mid, ← Nat.add_assoc] at this
      exact this
    · exact fun a ha => ⟨g, 0, cur, _, (Option.some.inj ha).symm, hb, hg⟩
/-- append of any objects to none. -/
theorem wpList_appO {ops : Array Oper} {rest : List Oper} {o : Oper} {a : Act} {w : World} {Q : Exit → Act → World → Prop} (hgd : o.guard = none) (s x : Operand)
    (ho : o.op = .call { callee := .builtin .append, args := #[s, x], argTypes := #[22, 22] })
    (base : Nat) (A : Option Addr) (c : Nat) (hs : a.eval s = .slice A 0 c) (h : w.ownsRow base 49 18 (.slice A 0 c) 0 [])
    (B : Nat) (A2 : Option Addr) (m c2 : Nat) (l : List (Nat → Int)) (hx : a.eval x = .slice A2 m c2) (hr : RdO B w A2 l) (hl : m = l.length) (hn : m ≤ 1000000) (hbase : base ≤ w.heap.size)
    (hK : ∀ A' c' w', SlO w' base ⟨A', m, c'⟩ l → w.grownBy w' (Value.slice A 0 c).ownBlock → wpList Tryd.prog ops Q rest (a.put o.dst (.slice A' m c')) w') :
    wpList Tryd.prog ops Q (o :: rest) a w := by
  obtain ⟨i0, hi, hz0, hz1, hz2⟩ := info_parts info_obj
  rcases A2 with _ | ad
  · have hl0 : l = [] := by
      cases l with
      | nil => rfl
      | cons y r => obtain ⟨b, off, e, _⟩ := hr 0 y rfl; cases e
    subst hl0
    obtain rfl : m = 0 := hl
    have hrun : (Builtin.append_ #[22, 22] o.type #[.slice A 0 c, .slice none 0 c2]).run Tryd.prog w = .ok (.slice A 0 c) w := by
      rcases h.2 with ⟨hv, _⟩ | ⟨g, cap, cur, hv, _, _, hnc, _⟩
      · rw [hv]
        simp [Builtin.append_, run_underlying Tryd.underlying22, sizeOf, typeInfo, hi, Builtin.lenOf, Builtin.firstCells]
      · rw [hv]
        simp [Builtin.append_, run_underlying Tryd.underlying22, sizeOf, typeInfo, hi, Builtin.lenOf, Builtin.firstCells, hnc, storeCells]
    obtain ⟨A', c', e, hso⟩ := slO_of_own (l := []) h rfl
    injection e with e1 _ e3
    subst e1 e3
    refine wpList_plain hgd fun K hK' => ?_
    unfold Oper.wp execOp
    simp only [ho, resolve, invoke, builtin, Sem.run_bind, Sem.run_pure, Result.andThen_ok, List.map_toArray, List.map_cons, List.map_nil, hs, hx, hrun]
    exact hK' _ _ (hK A c w hso (World.grownBy.refl w _))
  · refine wpList_append_own_at w hgd s x 22 ho base 49 i0 _ 18 144 Tryd.underlying22 hi hz0 hz1 hz2 (show (arr .i64 18 fun _ => 0).size = 18 by rw [arr_size]) (by omega) _ 0 [] hs h ad m c2 (flatO l) hx (by rw [flatO_len, hl])
      (fun j u hj => ?_) (flatO_one l) (by unfold maxLen; omega) (by omega) hbase ?_
    · obtain ⟨o, h1, h2⟩ := flatO_of hj
      obtain ⟨b, off, ea, _, hra⟩ := hr _ _ h1
      injection ea with ea
      subst ea
      rw [Addr.add_mid, show off + j = off + j / 18 * 18 + j % 18 by omega]
      exact hra _ _ h2
    · intro v' w' hown hgr _ _
      rw [Nat.zero_add, List.nil_append] at hown
      obtain ⟨A', c', rfl, hso⟩ := slO_of_own hown hl
      exact hK A' c' w' hso hgr
theorem obj_nil (w : World) (base : Nat) : w.ownsRow base 49 18 (.slice none 0 0) 0 [] := World.ownsRow_nil w base _ 18
theorem obj_empty (w : World) (base : Nat) (hb : base ≤ w.heap.size) : (w.alloc (.cells #[] 49)).ownsRow base 49 18 (.slice (some ⟨w.heap.size, 0, none⟩) 0 0) 0 [] :=
  World.ownsRow_made w #[] 0 hb (by unfold maxLen; omega) (by simp)
/-- A list's place is written in a state's cells. -/
def updS (L : Nat → SlT) (z : Nat) (x : SlT) : Nat → SlT := fun i => if i = z then x else L i
theorem stC_set_objs (O x : SlT) (L : Nat → SlT) (p g : Nat → Int) : (stC O L p g).setIfInBounds 0 x.v = stC x L p g := by
  refine Array.ext (by simp [stC_size]) fun i h1 h2 => ?_
  rw [← Option.some_inj, ← Array.getElem?_eq_getElem, ← Array.getElem?_eq_getElem, Array.getElem?_setIfInBounds]
  have hi : i < 37 := by simpa [stC_size] using h2
  by_cases e : 0 = i
  · subst e; rw [if_pos rfl, stC_objs]; simp [stC_size]
  · rw [if_neg e]
    by_cases e2 : i < 12
    · obtain ⟨z, rfl⟩ : ∃ z, i = 1 + z := ⟨i - 1, by omega⟩
      rw [stC_list _ _ _ _ (by omega), stC_list _ _ _ _ (by omega)]
    · by_cases e3 : i < 30
      · obtain ⟨z, rfl⟩ : ∃ z, i = 12 + z := ⟨i - 12, by omega⟩
        rw [stC_pl _ _ _ _ (by omega), stC_pl _ _ _ _ (by omega)]
      · obtain ⟨z, rfl⟩ : ∃ z, i = 30 + z := ⟨i - 30, by omega⟩
        rw [stC_gm _ _ _ _ (by omega), stC_gm _ _ _ _ (by omega)]
theorem stC_set_list (O x : SlT) (L : Nat → SlT) (p g : Nat → Int) {z : Nat} (hz : z < 11) : (stC O L p g).setIfInBounds (1 + z) x.v = stC O (updS L z x) p g := by
  refine Array.ext (by simp [stC_size]) fun i h1 h2 => ?_
  rw [← Option.some_inj, ← Array.getElem?_eq_getElem, ← Array.getElem?_eq_getElem, Array.getElem?_setIfInBounds]
  have hi : i < 37 := by simpa [stC_size] using h2
  by_cases e : 1 + z = i
  · subst e; rw [if_pos rfl, stC_list _ _ _ _ hz]; simp [stC_size, updS]; omega
  · rw [if_neg e]
    by_cases e0 : i = 0
    · subst e0; rw [stC_objs, stC_objs]
    by_cases e2 : i < 12
    · obtain ⟨y, rfl⟩ : ∃ y, i = 1 + y := ⟨i - 1, by omega⟩
      rw [stC_list _ _ _ _ (by omega), stC_list _ _ _ _ (by omega), updS, if_neg (by omega)]
    · by_cases e3 : i < 30
      · obtain ⟨y, rfl⟩ : ∃ y, i = 12 + y := ⟨i - 12, by omega⟩
        rw [stC_pl _ _ _ _ (by omega), stC_pl _ _ _ _ (by omega)]
      · obtain ⟨y, rfl⟩ : ∃ y, i = 30 + y := ⟨i - 30, by omega⟩
        rw [stC_gm _ _ _ _ (by omega), stC_gm _ _ _ _ (by omega)]
theorem stC_set_pl (O : SlT) (L : Nat → SlT) (p g : Nat → Int) {j : Nat} (hj : j < 18) (x : Int) : (stC O L p g).setIfInBounds (12 + j) (.int .i64 x) = stC O L (updI p j x) g := by
  refine Array.ext (by simp [stC_size]) fun i h1 h2 => ?_
  rw [← Option.some_inj, ← Array.getElem?_eq_getElem, ← Array.getElem?_eq_getElem, Array.getElem?_setIfInBounds]
  have hi : i < 37 := by simpa [stC_size] using h2
  by_cases e : 12 + j = i
  · subst e; rw [if_pos rfl, stC_pl _ _ _ _ hj]; simp [stC_size, updI]; omega
  · rw [if_neg e]
    by_cases e0 : i = 0
    · subst e0; rw [stC_objs, stC_objs]
    by_cases e2 : i < 12
    · obtain ⟨y, rfl⟩ : ∃ y, i = 1 + y := ⟨i - 1, by omega⟩
      rw [stC_list _ _ _ _ (by omega), stC_list _ _ _ _ (by omega)]
    · by_cases e3 : i < 30
      · obtain ⟨y, rfl⟩ : ∃ y, i = 12 + y := ⟨i - 12, by omega⟩
        rw [stC_pl _ _ _ _ (by omega), stC_pl _ _ _ _ (by omega), updI, if_neg (by omega)]
      · obtain ⟨y, rfl⟩ : ∃ y, i = 30 + y := ⟨i - 30, by omega⟩
        rw [stC_gm _ _ _ _ (by omega), stC_gm _ _ _ _ (by omega)]
theorem stC_set_gm (O : SlT) (L : Nat → SlT) (p g : Nat → Int) {j : Nat} (hj : j < 7) (x : Int) : (stC O L p g).setIfInBounds (30 + j) (.int .i64 x) = stC O L p (updI g j x) := by
  refine Array.ext (by simp [stC_size]) fun i h1 h2 => ?_
  rw [← Option.some_inj, ← Array.getElem?_eq_getElem, ← Array.getElem?_eq_getElem, Array.getElem?_setIfInBounds]
  have hi : i < 37 := by simpa [stC_size] using h2
  by_cases e : 30 + j = i
  · subst e; rw [if_pos rfl, stC_gm _ _ _ _ hj]; simp [stC_size, updI]; omega
  · rw [if_neg e]
    by_cases e0 : i = 0
    · subst e0; rw [stC_objs, stC_objs]
    by_cases e2 : i < 12
    · obtain ⟨y, rfl⟩ : ∃ y, i = 1 + y := ⟨i - 1, by omega⟩
      rw [stC_list _ _ _ _ (by omega), stC_list _ _ _ _ (by omega)]
    · by_cases e3 : i < 30
      · obtain ⟨y, rfl⟩ : ∃ y, i = 12 + y := ⟨i - 12, by omega⟩
        rw [stC_pl _ _ _ _ (by omega), stC_pl _ _ _ _ (by omega)]
      · obtain ⟨y, rfl⟩ : ∃ y, i = 30 + y := ⟨i - 30, by omega⟩
        rw [stC_gm _ _ _ _ (by omega), stC_gm _ _ _ _ (by omega), updI, if_neg (by omega)]
theorem stC_congr (O : SlT) (L : Nat → SlT) {p p' q q' : Nat → Int} (h : ∀ i, i < 18 → p i = p' i) (h' : ∀ i, i < 7 → q i = q' i) : stC O L p q = stC O L p' q' := by
  unfold stC; rw [arr_congr h, arr_congr h']
/-- A box in the making: the first k lists are copied. -/
structure CpS (w : World) (g base : Nat) (s : StT) (L0 : Nat → SlT) (O : SlT) (L : Nat → SlT) (k : Nat) (W : World) : Prop where
  b : Below w.heap.size w W
  r : ∀ z, k ≤ z → L z = L0 z
  a : StAt W g (stC O L s.pl s.gm)
  o : SlO W base O s.objs
  l : ∀ z, z < k → SlR W base (L z) (s.lists z)
section
variable {w : World} {g base : Nat} {s : StT} {O : SlT} {L0 L : Nat → SlT} {k : Nat} {W W' : World}
theorem CpS.keep (h : CpS w g base s L0 O L k W) (hb : Below W.heap.size W W') : CpS w g base s L0 O L k W' := ⟨keepB hb h.b, h.r, h.a.keep hb, h.o.keep hb, fun z hz => (h.l z hz).keep hb⟩
theorem CpS.next (h : CpS w g base s L0 O L k W) (hk : k < 11) (hwg : w.heap.size ≤ g) (hg : g < base) {x : SlT} (hx : SlR W base x (s.lists k)) : CpS w g base s L0 O (updS L k x) (k + 1) (W.setCell ⟨g, 1 + k, none⟩ x.v) := by
  refine ⟨h.b.setCell (by simpa using hwg) _, fun z hz => (if_neg (by omega)).trans (h.r z (by omega)), ?_, h.o.set_ hg _ _, fun z hz => ?_⟩
  · unfold StAt
    rw [heap_setCell_same W g (1 + k) _ _ _ h.a, stC_set_list _ _ _ _ _ hk]
  · by_cases e : z = k
    · subst e; simp only [updS, if_pos]; exact hx.set_ hg _ _
    · simp only [updS, if_neg e]; exact (h.l z (by omega)).set_ hg _ _
theorem CpS.start {O1 : SlT} (hb : Below w.heap.size w W) (ha : StAt W g (stC O1 L0 s.pl s.gm)) (hwg : w.heap.size ≤ g) (hg : g < base) (ho : SlO W base O s.objs) : CpS w g base s L0 O L0 0 (W.setCell ⟨g, 0, none⟩ O.v) := by
  refine ⟨hb.setCell (by simpa using hwg) _, fun _ _ => rfl, ?_, ho.set_ hg _ _, fun z hz => absurd hz (by omega)⟩
  unfold StAt
  rw [heap_setCell_same W g 0 _ _ _ ha, stC_set_objs]
end
/-- What a copy answers: the same state, in blocks of its own. -/
def CopyR (w : World) (s : StT) (cs : Array Value) (W : World) : Prop := ∃ O L, ReadsS W.heap.size W cs s O L ∧ MineA W w.heap.size O.A ∧ (∀ z < 11, MineA W w.heap.size (L z).A) ∧ Below w.heap.size w W
theorem CpS.copy {w : World} {g base : Nat} {s : StT} {O : SlT} {L0 L : Nat → SlT} {W : World} (h : CpS w g base s L0 O L 11 W) (hR : ∀ o ∈ s.objs, ∀ i < 18, N64 (o i)) (hl : ∀ z < 11, ∀ x ∈ s.lists z, N64 x) (hp : ∀ i < 18, N64 (s.pl i)) (hgm : ∀ i < 7, N64 (s.gm i))
    {r : Nat} (hr : w.heap.size ≤ r) (hrg : r < base) : CopyR w s (stC O L s.pl s.gm) (W.setRow r (stC O L s.pl s.gm)) := by
  have hb : ∀ b, base ≤ b → (W.setRow r (stC O L s.pl s.gm)).heap[b]? = W.heap[b]? := fun b hb => setRow_other W r b _ (by omega)
  have hs : W.heap.size ≤ (W.setRow r (stC O L s.pl s.gm)).heap.size := by simp
  have ho := h.o.stay hs hb
  have hls := fun z hz => (h.l z hz).stay hs hb
  exact ⟨O, L, ⟨rfl, ho.n, ho.c, ho.m, ho.R, fun z hz => (hls z hz).N, fun z hz => (hls z hz).c, hR, hl, hp, hgm⟩, ho.f.base_le (by omega), fun z hz => (hls z hz).f.base_le (by omega), below_setRow h.b r _ hr⟩
end Go.Proofs.YtmhabodijmnldaaDoor
