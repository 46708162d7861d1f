/- A list of numbers in blocks of the call's own, that may be written into. Layer 10: copies of a state: lists and objects in blocks of the call's own. Layer 11: a state in the making: its box, what lies in it; how the reference's Parse goes on, step by step. Layer 11: how a parse goes on, step by step: plain facts. Layer 11: the reference's Parse. -/
import Derived.Test.YtihbdbgmijkjmaaDoorSl
import Derived.Test.YtihbdbgmijkjmaaDoorBase0
import Derived.Deep.MidRow
import Derived.Test.YtihbdbgmijkjmaaDoorStC1
import Derived.Maps.AppendAt
import Derived.Test.YtihbdbgmijkjmaaDoorCanMath3
import Derived.Test.YtihbdbgmijkjmaaDoorCanRef
import Derived.Deep.Cut
import Derived.Test.YtihbdbgmijkjmaaDoorPackObj
import Derived.Test.YtihbdbgmijkjmaaDoorReg
import Derived.Deep.DeepCutAuto
namespace Go.Proofs.YtihbdbgmijkjmaaDoor
open Go.RowKit
/-- A list in blocks from base on, that may be written into. -/
def Mine (w : World) (base : Nat) (A : Option Addr) (n c : Nat) (l : List Int) : Prop :=
  Nums .i64 w w.heap.size A n l ∧ n ≤ c ∧ ∀ a, A = some a → ∃ g o cs t, a = ⟨g, o, none⟩ ∧ base ≤ g ∧ w.heap[g]? = some (.cells cs t (0, 0))
theorem Mine.of_own {w : World} {base : Nat} {A : Option Addr} {n c : Nat} {l : List Int} (h : Own .i64 3 w base A n c l) : Mine w base A n c l := by
  refine ⟨h.nums, h.cap, fun a ha => ?_⟩
  rcases h.2.2 with ⟨hv, _⟩ | ⟨g, cap, cur, hv, hb, hg, _⟩
  · injection hv with h1; rw [h1] at ha; cases ha
  · injection hv with h1
    rw [h1] at ha
    injection ha with ha
    exact ⟨g, 0, _, _, ha.symm, hb, hg⟩
theorem Mine.len {w : World} {base : Nat} {A : Option Addr} {n c : Nat} {l : List Int} (h : Mine w base A n c l) : l.length = n := h.1.len
theorem Mine.keep {w w' : World} {base : Nat} {A : Option Addr} {n c : Nat} {l : List Int} (h : Mine w base A n c l) (hb : Below w.heap.size w w') : Mine w' base A n c l := by
  refine ⟨(h.1.below hb).more hb.size, h.2.1, fun a ha => ?_⟩
  obtain ⟨g, o, cs, t, e, h1, h2⟩ := h.2.2 a ha
  exact ⟨g, o, cs, t, e, h1, (hb.block g (Array.getElem?_eq_some_iff.1 h2).1).trans h2⟩
/-- A number of it is written. -/
theorem Mine.set_ {w : World} {base g o n c : Nat} {l : List Int} (h : Mine w base (some ⟨g, o, none⟩) n c l) (i : Nat) (v : Int) : Mine (w.setCell ⟨g, o + i, none⟩ (.int .i64 v)) base (some ⟨g, o, none⟩) n c (l.set i v) := by
  obtain ⟨⟨hl, hN⟩, hc, hA⟩ := h
  obtain ⟨g', o', cs, t, e, h1, h2⟩ := hA _ rfl
  injection e with e1 e2
  subst e1 e2
  refine ⟨⟨by rw [List.length_set]; exact hl, fun j u hu => ⟨_, rfl, by simp [World.setCell]; exact (Array.getElem?_eq_some_iff.1 h2).1, ?_⟩⟩, hc, fun a ha => ⟨g, o, _, t, (Option.some.inj ha).symm, h1, heap_setCell_same w g (o + i) _ _ _ h2⟩⟩
  rw [Addr.add_mid]
  by_cases e : i = j
  · subst e
    have hj : i < l.length := by rw [← List.length_set (i := i) (a := v)]; exact (List.getElem?_eq_some_iff.1 hu).1
    rw [List.getElem?_set_self hj] at hu
    injection hu with hu
    subst hu
    obtain ⟨a, ea, _, hcell⟩ := hN i _ (List.getElem?_eq_getElem hj)
    injection ea with ea
    subst ea
    rw [Addr.add_mid] at hcell
    exact World.cell?_setCell_same (h := hcell) ..
  · rw [List.getElem?_set_ne e] at hu
    obtain ⟨a, ea, _, hcell⟩ := hN j u hu
    injection ea with ea
    subst ea
    rw [Addr.add_mid] at hcell
    rw [World.cell?_setCell_other (h := by intro h; injection h with h1 h2; omega)]
    exact hcell
theorem Mine.other {w : World} {base : Nat} {A : Option Addr} {n c : Nat} {l : List Int} (h : Mine w base A n c l) {g q : Nat} (hg : g < base) (v : Value) : Mine (w.setCell ⟨g, q, none⟩ v) base A n c l := by
  obtain ⟨⟨hl, hN⟩, hc, hA⟩ := h
  refine ⟨⟨hl, fun j u hu => ?_⟩, hc, fun a ha => ?_⟩
  · obtain ⟨a, ea, hb, hcell⟩ := hN j u hu
    obtain ⟨g', o', cs, t, e, h1, h2⟩ := hA a ea
    refine ⟨a, ea, by simpa [World.setCell] using hb, ?_⟩
    rw [World.cell?_setCell_other (h := by
      intro h
      have := congrArg Addr.block h
      rw [addr_block, e] at this
      simp at this
      omega)]
    exact hcell
  · obtain ⟨g', o', cs, t, e, h1, h2⟩ := hA a ha
    exact ⟨g', o', cs, t, e, h1, (heap_setCell_other w ⟨g, q, none⟩ g' v (by simp; omega)).trans h2⟩
/-- All of these blocks stay. -/
def MineA (w : World) (base : Nat) (A : Option Addr) : Prop := ∀ a, A = some a → ∃ g o cs t, a = ⟨g, o, none⟩ ∧ base ≤ g ∧ w.heap[g]? = some (.cells cs t (0, 0))
theorem MineA.stay {w w' : World} {base : Nat} {A : Option Addr} (h : MineA w base A) (hb : ∀ b, base ≤ b → b < w.heap.size → w'.heap[b]? = w.heap[b]?) : MineA w' base A := fun a ha => by
  obtain ⟨g, o, cs, t, e, h1, h2⟩ := h a ha
  exact ⟨g, o, cs, t, e, h1, (hb g h1 (Array.getElem?_eq_some_iff.1 h2).1).trans h2⟩
theorem MineA.base_le {w : World} {base b : Nat} {A : Option Addr} (h : MineA w base A) (hb : b ≤ base) : MineA w b A := fun a ha => by
  obtain ⟨g, o, cs, t, e, h1, h2⟩ := h a ha
  exact ⟨g, o, cs, t, e, by omega, h2⟩
theorem Mine.A {w : World} {base : Nat} {A : Option Addr} {n c : Nat} {l : List Int} (h : Mine w base A n c l) : MineA w base A := h.2.2
theorem Mine.stay {w w' : World} {base : Nat} {A : Option Addr} {n c : Nat} {l : List Int} (h : Mine w base A n c l) (hs : w.heap.size ≤ w'.heap.size) (hb : ∀ b, base ≤ b → b < w.heap.size → w'.heap[b]? = w.heap[b]?) : Mine w' base A n c l := by
  refine ⟨⟨h.1.1, fun i u hu => ?_⟩, h.2.1, MineA.stay h.A hb⟩
  obtain ⟨a, ea, h1, h2⟩ := h.1.2 i u hu
  obtain ⟨g, o, cs, t, e, h3, h4⟩ := h.2.2 a ea
  refine ⟨a, ea, by omega, ?_⟩
  have hg : (a.add i).block = g := by rw [addr_block, e]
  exact (World.cell?_of_block (by rw [hg]; exact hb g h3 (Array.getElem?_eq_some_iff.1 h4).1)).trans h2
end Go.Proofs.YtihbdbgmijkjmaaDoor
namespace Go.Proofs.YtihbdbgmijkjmaaDoor
open Go.RowKit Ex
set_option maxRecDepth 100000
/-- A list in blocks of the call's own. -/
structure SlR (W : World) (base : Nat) (x : SlT) (l : List Int) : Prop where
  N : Nums .i64 W W.heap.size x.A x.n l
  c : x.n ≤ x.c
  f : MineA W base x.A
/-- Objects in blocks of the call's own. -/
structure SlO (W : World) (base : Nat) (x : SlT) (l : List (Nat → Int)) : Prop where
  R : RdO W.heap.size W x.A l
  n : x.n = l.length
  c : x.n ≤ x.c
  m : x.c ≤ maxLen
  f : MineA W base x.A
section
variable {W W' : World} {base : Nat} {x : SlT}
theorem SlR.stay {l : List Int} (h : SlR W base x l) (hs : W.heap.size ≤ W'.heap.size) (hb : ∀ b, base ≤ b → W'.heap[b]? = W.heap[b]?) : SlR W' base x l := by
  refine ⟨⟨h.N.len, fun j u hu => ?_⟩, h.c, h.f.stay fun b h1 _ => hb b h1⟩
  obtain ⟨a, ea, h1, hcell⟩ := h.N.2 j u hu
  obtain ⟨g, o, cs, t, e, h3, h4⟩ := h.f a ea
  exact ⟨a, ea, by omega, (World.cell?_of_block (by rw [addr_block, e]; exact hb _ h3)).trans hcell⟩
theorem SlO.stay {l : List (Nat → Int)} (h : SlO W base x l) (hs : W.heap.size ≤ W'.heap.size) (hb : ∀ b, base ≤ b → W'.heap[b]? = W.heap[b]?) : SlO W' base x l := by
  refine ⟨fun j o ho => ?_, h.n, h.c, h.m, h.f.stay fun b h1 _ => hb b h1⟩
  obtain ⟨b, off, ea, h1, hra⟩ := h.R j o ho
  obtain ⟨g, o2, cs, t, e, h3, h4⟩ := h.f _ ea
  injection e with e1 e2
  subst e1
  exact ⟨b, off, ea, by omega, fun k u hu => (World.cell?_of_block (hb b h3)).trans (hra k u hu)⟩
theorem MineA.keep {w w' : World} {base : Nat} {A : Option Addr} (h : MineA w base A) (hb : Below w.heap.size w w') : MineA w' base A := h.stay fun b _ h2 => hb.block b h2
theorem SlR.keep {l : List Int} (h : SlR W base x l) (hb : Below W.heap.size W W') : SlR W' base x l := ⟨(h.N.below hb).more hb.size, h.c, h.f.keep hb⟩
theorem SlO.keep {l : List (Nat → Int)} (h : SlO W base x l) (hb : Below W.heap.size W W') : SlO W' base x l := ⟨(h.R.below hb).more hb.size, h.n, h.c, h.m, h.f.keep hb⟩
theorem SlR.set_ {l : List Int} (h : SlR W base x l) {g : Nat} (hg : g < base) (i : Nat) (v : Value) : SlR (W.setCell ⟨g, i, none⟩ v) base x l :=
  h.stay (by simp [World.setCell]) fun b hb => heap_setCell_other W ⟨g, i, none⟩ b v (by simp; omega)
theorem SlO.set_ {l : List (Nat → Int)} (h : SlO W base x l) {g : Nat} (hg : g < base) (i : Nat) (v : Value) : SlO (W.setCell ⟨g, i, none⟩ v) base x l :=
  h.stay (by simp [World.setCell]) fun b hb => heap_setCell_other W ⟨g, i, none⟩ b v (by simp; omega)
end
theorem Own.slR {w : World} {base n c : Nat} {A : Option Addr} {l : List Int} (h : Own .i64 3 w base A n c l) : SlR w base ⟨A, n, c⟩ l := ⟨h.nums, h.cap, (Mine.of_own h).A⟩
/-- All cells of objects. -/
def flatO (l : List (Nat → Int)) : List Value := l.flatMap fun o => (arr .i64 18 o).toList
theorem flatO_len (l : List (Nat → Int)) : (flatO l).length = l.length * 18 := by
  induction l with
  | nil => rfl
  | cons x l ih => simp only [flatO, List.flatMap_cons, List.length_append, Array.length_toList, arr_size, List.length_cons] at ih ⊢; omega
theorem flatO_at : ∀ {l : List (Nat → Int)} (i : Nat) (o : Nat → Int), l[i]? = some o → ∀ j v, (arr .i64 18 o).toList[j]? = some v → (flatO l)[i * 18 + j]? = some v
  | [], i, o, h, _, _, _ => by simp at h
  | x :: l, 0, o, h, j, v, hv => by
    simp at h; subst h
    simp only [flatO, List.flatMap_cons, Nat.zero_mul, Nat.zero_add]
    rw [List.getElem?_append_left (List.getElem?_eq_some_iff.1 hv).1]; exact hv
  | x :: l, i + 1, o, h, j, v, hv => by
    have ih := flatO_at (l := l) i o (by simpa using h) j v hv
    simp only [flatO, List.flatMap_cons] at ih ⊢
    rw [List.getElem?_append_right (by rw [Array.length_toList, arr_size]; omega), Array.length_toList, arr_size, show (i + 1) * 18 + j - 18 = i * 18 + j by omega]
    exact ih
theorem flatO_of {l : List (Nat → Int)} {j : Nat} {v : Value} (h : (flatO l)[j]? = some v) : ∃ o, l[j / 18]? = some o ∧ (arr .i64 18 o).toList[j % 18]? = some v := by
  have hj : j < l.length * 18 := by rw [← flatO_len]; exact (List.getElem?_eq_some_iff.1 h).1
  have hq : j / 18 < l.length := by omega
  refine ⟨l[j / 18], List.getElem?_eq_getElem hq, ?_⟩
  have hr : j % 18 < (arr .i64 18 l[j / 18]).toList.length := by rw [Array.length_toList, arr_size]; omega
  rw [List.getElem?_eq_getElem hr]
  have := flatO_at (j / 18) _ (List.getElem?_eq_getElem hq) (j % 18) _ (List.getElem?_eq_getElem hr)
  rw [show j / 18 * 18 + j % 18 = j by omega] at this
  exact this.symm.trans h
theorem flatO_one (l : List (Nat → Int)) : ∀ u ∈ flatO l, u.oneCell' = true := fun u hu => by
  obtain ⟨o, _, h⟩ := List.mem_flatMap.1 hu
  obtain ⟨i, hi, rfl⟩ := List.getElem_of_mem h
  have h1 := Array.all_eq_true'.1 (arr_one .i64 18 o) ((arr .i64 18 o).toList[i]) (by simp)
  exact h1
theorem info_obj : (Tryd.prog.info? 56).map (fun i => (i.zero, i.size, i.bytes)) = some (some (.agg (arr .i64 18 fun _ => 0)), 18, 144) := by kernel_rfl
theorem st_info_int : (Tryd.prog.info? 3).map (fun i => (i.zero, i.size, i.bytes)) = some (some (.int .i64 0), 1, 8) := by kernel_rfl
theorem slO_of_own {w : World} {base : Nat} {v : Value} {n : Nat} {l : List (Nat → Int)} (h : w.ownsRow base 56 18 v n (flatO l)) (hn : n = l.length) : ∃ A c, v = .slice A n c ∧ SlO w base ⟨A, n, c⟩ l := by
  have h' := h
  rcases h.2 with ⟨rfl, hz⟩ | ⟨g, cap, cur, rfl, hb, hg, hc, hm, _⟩
  · subst hz
    have hl : l = [] := List.length_eq_zero_iff.1 hn.symm
    subst hl
    exact ⟨none, 0, rfl, ⟨fun i o hi => by simp at hi, rfl, Nat.le_refl _, Nat.zero_le _, fun a ha => by cases ha⟩⟩
  · refine ⟨some ⟨g, 0, none⟩, cap, rfl, ⟨fun i o hi => ⟨g, 0, rfl, (Array.getElem?_eq_some_iff.1 hg).1, fun j u hu => ?_⟩, hn, hc, hm, ?_⟩⟩
    · have := h'.cells (g := g) rfl (i * 18 + j) u (flatO_at i o hi j u hu)
      rw [Addr.add_mid, ← Nat.add_assoc] at this
      exact this
    · exact fun a ha => ⟨g, 0, cur, _, (Option.some.inj ha).symm, hb, hg⟩
/-- append of any objects to none. -/
theorem wpList_appO {ops : Array Oper} {rest : List Oper} {o : Oper} {a : Act} {w : World} {Q : Exit → Act → World → Prop} (hgd : o.guard = none) (s x : Operand)
    (ho : o.op = .call { callee := .builtin .append, args := #[s, x], argTypes := #[22, 22] })
    (base : Nat) (A : Option Addr) (c : Nat) (hs : a.eval s = .slice A 0 c) (h : w.ownsRow base 56 18 (.slice A 0 c) 0 [])
    (B : Nat) (A2 : Option Addr) (m c2 : Nat) (l : List (Nat → Int)) (hx : a.eval x = .slice A2 m c2) (hr : RdO B w A2 l) (hl : m = l.length) (hn : m ≤ 1000000) (hbase : base ≤ w.heap.size)
    (hK : ∀ A' c' w', SlO w' base ⟨A', m, c'⟩ l → w.grownBy w' (Value.slice A 0 c).ownBlock → wpList Tryd.prog ops Q rest (a.put o.dst (.slice A' m c')) w') :
    wpList Tryd.prog ops Q (o :: rest) a w := by
  obtain ⟨i0, hi, hz0, hz1, hz2⟩ := info_parts info_obj
  rcases A2 with _ | ad
  · have hl0 : l = [] := by
      cases l with
      | nil => rfl
      | cons y r => obtain ⟨b, off, e, _⟩ := hr 0 y rfl; cases e
    subst hl0
    obtain rfl : m = 0 := hl
    have hrun : (Builtin.append_ #[22, 22] o.type #[.slice A 0 c, .slice none 0 c2]).run Tryd.prog w = .ok (.slice A 0 c) w := by
      rcases h.2 with ⟨hv, _⟩ | ⟨g, cap, cur, hv, _, _, hnc, _⟩
      · rw [hv]
        simp [Builtin.append_, run_underlying Tryd.underlying22, sizeOf, typeInfo, hi, Builtin.lenOf, Builtin.firstCells]
      · rw [hv]
        simp [Builtin.append_, run_underlying Tryd.underlying22, sizeOf, typeInfo, hi, Builtin.lenOf, Builtin.firstCells, hnc, storeCells]
    obtain ⟨A', c', e, hso⟩ := slO_of_own (l := []) h rfl
    injection e with e1 _ e3
    subst e1 e3
    refine wpList_plain hgd fun K hK' => ?_
    unfold Oper.wp execOp
    simp only [ho, resolve, invoke, builtin, Sem.run_bind, Sem.run_pure, Result.andThen_ok, List.map_toArray, List.map_cons, List.map_nil, hs, hx, hrun]
    exact hK' _ _ (hK A c w hso (World.grownBy.refl w _))
  · refine wpList_append_own_at w hgd s x 22 ho base 56 i0 _ 18 144 Tryd.underlying22 hi hz0 hz1 hz2 (show (arr .i64 18 fun _ => 0).size = 18 by rw [arr_size]) (by omega) _ 0 [] hs h ad m c2 (flatO l) hx (by rw [flatO_len, hl])
      (fun j u hj => ?_) (flatO_one l) (by unfold maxLen; omega) (by omega) hbase ?_
    · obtain ⟨o, h1, h2⟩ := flatO_of hj
      obtain ⟨b, off, ea, _, hra⟩ := hr _ _ h1
      injection ea with ea
      subst ea
      rw [Addr.add_mid, show off + j = off + j / 18 * 18 + j % 18 by omega]
      exact hra _ _ h2
    · intro v' w' hown hgr _ _
      rw [Nat.zero_add, List.nil_append] at hown
      obtain ⟨A', c', rfl, hso⟩ := slO_of_own hown hl
      exact hK A' c' w' hso hgr
theorem obj_nil (w : World) (base : Nat) : w.ownsRow base 56 18 (.slice none 0 0) 0 [] := World.ownsRow_nil w base _ 18
theorem obj_empty (w : World) (base : Nat) (hb : base ≤ w.heap.size) : (w.alloc (.cells #[] 56)).ownsRow base 56 18 (.slice (some ⟨w.heap.size, 0, none⟩) 0 0) 0 [] :=
  World.ownsRow_made w #[] 0 hb (by unfold maxLen; omega) (by simp)
/-- A list's place is written in a state's cells. -/
def updS (L : Nat → SlT) (z : Nat) (x : SlT) : Nat → SlT := fun i => if i = z then x else L i
theorem stC_set_objs (O x : SlT) (L : Nat → SlT) (p g : Nat → Int) : (stC O L p g).setIfInBounds 0 x.v = stC x L p g := by
  refine Array.ext (by simp [stC_size]) fun i h1 h2 => ?_
  rw [← Option.some_inj, ← Array.getElem?_eq_getElem, ← Array.getElem?_eq_getElem, Array.getElem?_setIfInBounds]
  have hi : i < 37 := by simpa [stC_size] using h2
  by_cases e : 0 = i
  · subst e; rw [if_pos rfl, stC_objs]; simp [stC_size]
  · rw [if_neg e]
    by_cases e2 : i < 12
    · obtain ⟨z, rfl⟩ : ∃ z, i = 1 + z := ⟨i - 1, by omega⟩
      rw [stC_list _ _ _ _ (by omega), stC_list _ _ _ _ (by omega)]
    · by_cases e3 : i < 30
      · obtain ⟨z, rfl⟩ : ∃ z, i = 12 + z := ⟨i - 12, by omega⟩
        rw [stC_pl _ _ _ _ (by omega), stC_pl _ _ _ _ (by omega)]
      · obtain ⟨z, rfl⟩ : ∃ z, i = 30 + z := ⟨i - 30, by omega⟩
        rw [stC_gm _ _ _ _ (by omega), stC_gm _ _ _ _ (by omega)]
theorem stC_set_list (O x : SlT) (L : Nat → SlT) (p g : Nat → Int) {z : Nat} (hz : z < 11) : (stC O L p g).setIfInBounds (1 + z) x.v = stC O (updS L z x) p g := by
  refine Array.ext (by simp [stC_size]) fun i h1 h2 => ?_
  rw [← Option.some_inj, ← Array.getElem?_eq_getElem, ← Array.getElem?_eq_getElem, Array.getElem?_setIfInBounds]
  have hi : i < 37 := by simpa [stC_size] using h2
  by_cases e : 1 + z = i
  · subst e; rw [if_pos rfl, stC_list _ _ _ _ hz]; simp [stC_size, updS]; omega
  · rw [if_neg e]
    by_cases e0 : i = 0
    · subst e0; rw [stC_objs, stC_objs]
    by_cases e2 : i < 12
    · obtain ⟨y, rfl⟩ : ∃ y, i = 1 + y := ⟨i - 1, by omega⟩
      rw [stC_list _ _ _ _ (by omega), stC_list _ _ _ _ (by omega), updS, if_neg (by omega)]
    · by_cases e3 : i < 30
      · obtain ⟨y, rfl⟩ : ∃ y, i = 12 + y := ⟨i - 12, by omega⟩
        rw [stC_pl _ _ _ _ (by omega), stC_pl _ _ _ _ (by omega)]
      · obtain ⟨y, rfl⟩ : ∃ y, i = 30 + y := ⟨i - 30, by omega⟩
        rw [stC_gm _ _ _ _ (by omega), stC_gm _ _ _ _ (by omega)]
/-- A box in the making: the first k lists are copied. -/
structure CpS (w : World) (g base : Nat) (s : StT) (L0 : Nat → SlT) (O : SlT) (L : Nat → SlT) (k : Nat) (W : World) : Prop where
  b : Below w.heap.size w W
  r : ∀ z, k ≤ z → L z = L0 z
  a : StAt W g (stC O L s.pl s.gm)
  o : SlO W base O s.objs
  l : ∀ z, z < k → SlR W base (L z) (s.lists z)
section
variable {w : World} {g base : Nat} {s : StT} {O : SlT} {L0 L : Nat → SlT} {k : Nat} {W W' : World}
theorem CpS.keep (h : CpS w g base s L0 O L k W) (hb : Below W.heap.size W W') : CpS w g base s L0 O L k W' := ⟨keepB hb h.b, h.r, h.a.keep hb, h.o.keep hb, fun z hz => (h.l z hz).keep hb⟩
theorem CpS.next (h : CpS w g base s L0 O L k W) (hk : k < 11) (hwg : w.heap.size ≤ g) (hg : g < base) {x : SlT} (hx : SlR W base x (s.lists k)) : CpS w g base s L0 O (updS L k x) (k + 1) (W.setCell ⟨g, 1 + k, none⟩ x.v) := by
  refine ⟨h.b.setCell (by simpa using hwg) _, fun z hz => (if_neg (by omega)).trans (h.r z (by omega)), ?_, h.o.set_ hg _ _, fun z hz => ?_⟩
  · unfold StAt
    rw [heap_setCell_same W g (1 + k) _ _ _ h.a, stC_set_list _ _ _ _ _ hk]
  · by_cases e : z = k
    · subst e; simp only [updS, if_pos]; exact hx.set_ hg _ _
    · simp only [updS, if_neg e]; exact (h.l z (by omega)).set_ hg _ _
theorem CpS.start {O1 : SlT} (hb : Below w.heap.size w W) (ha : StAt W g (stC O1 L0 s.pl s.gm)) (hwg : w.heap.size ≤ g) (hg : g < base) (ho : SlO W base O s.objs) : CpS w g base s L0 O L0 0 (W.setCell ⟨g, 0, none⟩ O.v) := by
  refine ⟨hb.setCell (by simpa using hwg) _, fun _ _ => rfl, ?_, ho.set_ hg _ _, fun z hz => absurd hz (by omega)⟩
  unfold StAt
  rw [heap_setCell_same W g 0 _ _ _ ha, stC_set_objs]
end
/-- What a copy answers: the same state, in blocks of its own. -/
def CopyR (w : World) (s : StT) (cs : Array Value) (W : World) : Prop := ∃ O L, ReadsS W.heap.size W cs s O L ∧ MineA W w.heap.size O.A ∧ (∀ z < 11, MineA W w.heap.size (L z).A) ∧ Below w.heap.size w W
theorem CpS.copy {w : World} {g base : Nat} {s : StT} {O : SlT} {L0 L : Nat → SlT} {W : World} (h : CpS w g base s L0 O L 11 W) (hR : ∀ o ∈ s.objs, ∀ i < 18, N64 (o i)) (hl : ∀ z < 11, ∀ x ∈ s.lists z, N64 x) (hp : ∀ i < 18, N64 (s.pl i)) (hgm : ∀ i < 7, N64 (s.gm i))
    {r : Nat} (hr : w.heap.size ≤ r) (hrg : r < base) : CopyR w s (stC O L s.pl s.gm) (W.setRow r (stC O L s.pl s.gm)) := by
  have hb : ∀ b, base ≤ b → (W.setRow r (stC O L s.pl s.gm)).heap[b]? = W.heap[b]? := fun b hb => setRow_other W r b _ (by omega)
  have hs : W.heap.size ≤ (W.setRow r (stC O L s.pl s.gm)).heap.size := by simp
  have ho := h.o.stay hs hb
  have hls := fun z hz => (h.l z hz).stay hs hb
  exact ⟨O, L, ⟨rfl, ho.n, ho.c, ho.m, ho.R, fun z hz => (hls z hz).N, fun z hz => (hls z hz).c, hR, hl, hp, hgm⟩, ho.f.base_le (by omega), fun z hz => (hls z hz).f.base_le (by omega), below_setRow h.b r _ hr⟩
end Go.Proofs.YtihbdbgmijkjmaaDoor
namespace Go.Proofs.YtihbdbgmijkjmaaDoor
open Go.RowKit Ex Px Wx
set_option maxRecDepth 100000
theorem stC_set_pl (O : SlT) (L : Nat → SlT) (p g : Nat → Int) {j : Nat} (hj : j < 18) (x : Int) : (stC O L p g).setIfInBounds (12 + j) (.int .i64 x) = stC O L (updI p j x) g := by
  refine Array.ext (by simp [stC_size]) fun i h1 h2 => ?_
  rw [← Option.some_inj, ← Array.getElem?_eq_getElem, ← Array.getElem?_eq_getElem, Array.getElem?_setIfInBounds]
  have hi : i < 37 := by simpa [stC_size] using h2
  by_cases e : 12 + j = i
  · subst e; rw [if_pos rfl, stC_pl _ _ _ _ hj]; simp [stC_size, updI]; omega
  · rw [if_neg e]
    by_cases e0 : i = 0
    · subst e0; rw [stC_objs, stC_objs]
    by_cases e2 : i < 12
    · obtain ⟨y, rfl⟩ : ∃ y, i = 1 + y := ⟨i - 1, by omega⟩
      rw [stC_list _ _ _ _ (by omega), stC_list _ _ _ _ (by omega)]
    · by_cases e3 : i < 30
      · obtain ⟨y, rfl⟩ : ∃ y, i = 12 + y := ⟨i - 12, by omega⟩
        rw [stC_pl _ _ _ _ (by omega), stC_pl _ _ _ _ (by omega), updI, if_neg (by omega)]
      · obtain ⟨y, rfl⟩ : ∃ y, i = 30 + y := ⟨i - 30, by omega⟩
        rw [stC_gm _ _ _ _ (by omega), stC_gm _ _ _ _ (by omega)]
theorem stC_set_gm (O : SlT) (L : Nat → SlT) (p g : Nat → Int) {j : Nat} (hj : j < 7) (x : Int) : (stC O L p g).setIfInBounds (30 + j) (.int .i64 x) = stC O L p (updI g j x) := by
  refine Array.ext (by simp [stC_size]) fun i h1 h2 => ?_
  rw [← Option.some_inj, ← Array.getElem?_eq_getElem, ← Array.getElem?_eq_getElem, Array.getElem?_setIfInBounds]
  have hi : i < 37 := by simpa [stC_size] using h2
  by_cases e : 30 + j = i
  · subst e; rw [if_pos rfl, stC_gm _ _ _ _ hj]; simp [stC_size, updI]; omega
  · rw [if_neg e]
    by_cases e0 : i = 0
    · subst e0; rw [stC_objs, stC_objs]
    by_cases e2 : i < 12
    · obtain ⟨y, rfl⟩ : ∃ y, i = 1 + y := ⟨i - 1, by omega⟩
      rw [stC_list _ _ _ _ (by omega), stC_list _ _ _ _ (by omega)]
    · by_cases e3 : i < 30
      · obtain ⟨y, rfl⟩ : ∃ y, i = 12 + y := ⟨i - 12, by omega⟩
        rw [stC_pl _ _ _ _ (by omega), stC_pl _ _ _ _ (by omega)]
      · obtain ⟨y, rfl⟩ : ∃ y, i = 30 + y := ⟨i - 30, by omega⟩
        rw [stC_gm _ _ _ _ (by omega), stC_gm _ _ _ _ (by omega), updI, if_neg (by omega)]
/-- The result's box and one of zeros stand; a state is laid in the box g. -/
structure PW (w : World) (g2 g4 g : Nat) (s : StT) (O : SlT) (L : Nat → SlT) (W : World) : Prop where
  b : Below w.heap.size w W
  r : StAt W g2 st0
  n : StAt W g4 st0
  a : StAt W g (stC O L s.pl s.gm)
  o : W.ownsRow (g + 1) 56 18 O.v O.n (flatO s.objs)
  on : O.n = s.objs.length
  l : ∀ z < 11, SlR W (g + 1) (L z) (s.lists z)
/-- Where the boxes stand. -/
structure PB (w : World) (g2 g4 g : Nat) : Prop where
  h2 : w.heap.size ≤ g2
  h4 : g2 < g4
  h : g4 < g
section
variable {w : World} {g2 g4 g : Nat} {s : StT} {O : SlT} {L : Nat → SlT} {W W' : World}
theorem PW.keep (h : PW w g2 g4 g s O L W) (hb : Below W.heap.size W W') : PW w g2 g4 g s O L W' := by
  refine ⟨keepB hb h.b, h.r.keep hb, h.n.keep hb, h.a.keep hb, ?_, h.on, fun z hz => (h.l z hz).keep hb⟩
  refine ⟨h.o.1, ?_⟩
  rcases h.o.2 with hv | ⟨k, cap, cur, hv, hbs, hg, rest⟩
  · exact .inl hv
  · exact .inr ⟨k, cap, cur, hv, hbs, (hb.block k (Array.getElem?_eq_some_iff.1 hg).1).trans hg, rest⟩
theorem PW.lt (h : PW w g2 g4 g s O L W) : g < W.heap.size := h.a.lt
theorem PW.write (h : PW w g2 g4 g s O L W) (hB : PB w g2 g4 g) (i : Nat) (v : Value) {O' : SlT} {L' : Nat → SlT} {p' q' : Nat → Int} (hc : (stC O L s.pl s.gm).setIfInBounds i v = stC O' L' p' q') : StAt (W.setCell ⟨g, i, none⟩ v) g (stC O' L' p' q') ∧ Below w.heap.size w (W.setCell ⟨g, i, none⟩ v) ∧ StAt (W.setCell ⟨g, i, none⟩ v) g2 st0 ∧ StAt (W.setCell ⟨g, i, none⟩ v) g4 st0 ∧
    (∀ b, g + 1 ≤ b → (W.setCell ⟨g, i, none⟩ v).heap[b]? = W.heap[b]?) ∧ (W.setCell ⟨g, i, none⟩ v).heap.size = W.heap.size := by
  obtain ⟨b2, b4, b5⟩ := hB
  refine ⟨?_, h.b.setCell (by simp; omega) _, (heap_setCell_other W ⟨g, i, none⟩ g2 v (by simp; omega)).trans h.r, (heap_setCell_other W ⟨g, i, none⟩ g4 v (by simp; omega)).trans h.n, fun b hb => heap_setCell_other W ⟨g, i, none⟩ b v (by simp; omega), by simp [World.setCell]⟩
  unfold StAt
  rw [heap_setCell_same W g i _ _ _ h.a, hc]
theorem owns_stay {base : Nat} {v : Value} {n : Nat} {xs : List Value} (h : W.ownsRow base 56 18 v n xs) (hb : ∀ b, base ≤ b → W'.heap[b]? = W.heap[b]?) : W'.ownsRow base 56 18 v n xs := by
  refine ⟨h.1, ?_⟩
  rcases h.2 with hv | ⟨k, cap, cur, hv, hbs, hg, rest⟩
  · exact .inl hv
  · exact .inr ⟨k, cap, cur, hv, hbs, (hb k hbs).trans hg, rest⟩
theorem PW.setObjs (h : PW w g2 g4 g s O L W) (hB : PB w g2 g4 g) {O' : SlT} {os : List (Nat → Int)} (ho : W.ownsRow (g + 1) 56 18 O'.v O'.n (flatO os)) (hn : O'.n = os.length) : PW w g2 g4 g { s with objs := os } O' L (W.setCell ⟨g, 0, none⟩ O'.v) := by
  obtain ⟨h1, h2, h3, h4, h5, h6⟩ := h.write hB 0 O'.v (stC_set_objs _ _ _ _ _)
  exact ⟨h2, h3, h4, h1, owns_stay ho h5, hn, fun z hz => (h.l z hz).stay (by omega) h5⟩
theorem PW.setList (h : PW w g2 g4 g s O L W) (hB : PB w g2 g4 g) {z : Nat} (hz : z < 11) {x : SlT} {l : List Int} (hx : SlR W (g + 1) x l) : PW w g2 g4 g { s with lists := fun i => if i = z then l else s.lists i } O (updS L z x) (W.setCell ⟨g, 1 + z, none⟩ x.v) := by
  obtain ⟨h1, h2, h3, h4, h5, h6⟩ := h.write hB (1 + z) x.v (stC_set_list _ _ _ _ _ hz)
  refine ⟨h2, h3, h4, h1, owns_stay h.o h5, h.on, fun y hy => ?_⟩
  by_cases e : y = z
  · subst e; simp only [updS, if_pos]; exact hx.stay (by omega) h5
  · simp only [updS, if_neg e]; exact (h.l y hy).stay (by omega) h5
theorem PW.setPl (h : PW w g2 g4 g s O L W) (hB : PB w g2 g4 g) {j : Nat} (hj : j < 18) (x : Int) : PW w g2 g4 g { s with pl := updI s.pl j x } O L (W.setCell ⟨g, 12 + j, none⟩ (.int .i64 x)) := by
  obtain ⟨h1, h2, h3, h4, h5, h6⟩ := h.write hB (12 + j) (.int .i64 x) (stC_set_pl _ _ _ _ hj x)
  exact ⟨h2, h3, h4, h1, owns_stay h.o h5, h.on, fun z hz => (h.l z hz).stay (by omega) h5⟩
theorem PW.setGm (h : PW w g2 g4 g s O L W) (hB : PB w g2 g4 g) {j : Nat} (hj : j < 7) (x : Int) : PW w g2 g4 g { s with gm := updI s.gm j x } O L (W.setCell ⟨g, 30 + j, none⟩ (.int .i64 x)) := by
  obtain ⟨h1, h2, h3, h4, h5, h6⟩ := h.write hB (30 + j) (.int .i64 x) (stC_set_gm _ _ _ _ hj x)
  exact ⟨h2, h3, h4, h1, owns_stay h.o h5, h.on, fun z hz => (h.l z hz).stay (by omega) h5⟩
theorem PW.reads (h : PW w g2 g4 g s O L W) (ho : ∀ o ∈ s.objs, ∀ i < 18, N64 (o i)) (hl : ∀ z < 11, ∀ x ∈ s.lists z, N64 x) (hp : ∀ i < 18, N64 (s.pl i)) (hg : ∀ i < 7, N64 (s.gm i)) : ReadsS W.heap.size W (stC O L s.pl s.gm) s O L := by
  obtain ⟨A, c, e, hs⟩ := slO_of_own h.o h.on
  obtain ⟨A', n', c'⟩ := O
  injection e with e1 _ e3
  subst e1 e3
  exact ⟨rfl, h.on, hs.c, hs.m, hs.R, fun z hz => (h.l z hz).N, fun z hz => (h.l z hz).c, ho, hl, hp, hg⟩
end
theorem PW.final {w : World} {g2 g4 g : Nat} {s : StT} {O : SlT} {L : Nat → SlT} {W : World} (h : PW w g2 g4 g s O L W) (hB : PB w g2 g4 g) (cs : Array Value) (ho : ∀ o ∈ s.objs, ∀ i < 18, N64 (o i)) (hl : ∀ z < 11, ∀ x ∈ s.lists z, N64 x) (hp : ∀ i < 18, N64 (s.pl i)) (hg : ∀ i < 7, N64 (s.gm i)) : ReadsS (W.setRow g2 cs).heap.size (W.setRow g2 cs) (stC O L s.pl s.gm) s O L := by
  have hb : ∀ b, g + 1 ≤ b → (W.setRow g2 cs).heap[b]? = W.heap[b]? := fun b hb => setRow_other W g2 b _ (by have := hB.h4; have := hB.h; omega)
  obtain ⟨A, c, e, hs⟩ := slO_of_own (owns_stay h.o hb) h.on
  obtain ⟨A', n', c'⟩ := O
  injection e with e1 _ e3
  subst e1 e3
  have hls := fun z hz => (h.l z hz).stay (W' := W.setRow g2 cs) (by simp) hb
  exact ⟨rfl, h.on, hs.c, hs.m, hs.R, fun z hz => (hls z hz).N, fun z hz => (hls z hz).c, ho, hl, hp, hg⟩
theorem stC_congr (O : SlT) (L : Nat → SlT) {p p' q q' : Nat → Int} (h : ∀ i, i < 18 → p i = p' i) (h' : ∀ i, i < 7 → q i = q' i) : stC O L p q = stC O L p' q' := by
  unfold stC; rw [arr_congr h, arr_congr h']
theorem PW.congr {w : World} {g2 g4 g : Nat} {s : StT} {O : SlT} {L : Nat → SlT} {W : World} (h : PW w g2 g4 g s O L W) {p' q' : Nat → Int} (hp : ∀ i, i < 18 → s.pl i = p' i) (hq : ∀ i, i < 7 → s.gm i = q' i) : PW w g2 g4 g ⟨s.objs, s.lists, p', q'⟩ O L W :=
  ⟨h.b, h.r, h.n, by have := h.a; rw [stC_congr O L hp hq] at this; exact this, h.o, h.on, h.l⟩
theorem flat_posC (s : List Int) : s.length ≤ (s.flatMap bts).length := by
  induction s with
  | nil => simp
  | cons x s ih => rw [List.flatMap_cons, List.length_append, List.length_cons]; have := (bts_len x).1; omega
/-- append of one object to objects of the call's own. -/
theorem wpList_appO1 {ops : Array Oper} {rest : List Oper} {o : Oper} {a : Act} {w : World} {Q : Exit → Act → World → Prop} (hgd : o.guard = none) (s x : Operand)
    (ho : o.op = .call { callee := .builtin .append, args := #[s, x], argTypes := #[22, 22] })
    (base : Nat) (A : Option Addr) (n c : Nat) (l : List (Nat → Int)) (hs : a.eval s = .slice A n c) (h : w.ownsRow base 56 18 (.slice A n c) n (flatO l))
    (g c2 : Nat) (f : Nat → Int) (hx : a.eval x = .slice (some ⟨g, 0, none⟩) 1 c2) (hr : ObAt w g f) (hn : n ≤ 1000000) (hbase : base ≤ w.heap.size)
    (hK : ∀ A' c' w', w'.ownsRow base 56 18 (.slice A' (n + 1) c') (n + 1) (flatO (l ++ [f])) → w.grownBy w' (Value.slice A n c).ownBlock → wpList Tryd.prog ops Q rest (a.put o.dst (.slice A' (n + 1) c')) w') :
    wpList Tryd.prog ops Q (o :: rest) a w := by
  obtain ⟨i0, hi, hz0, hz1, hz2⟩ := info_parts info_obj
  refine wpList_append_own_at w hgd s x 22 ho base 56 i0 _ 18 144 Tryd.underlying22 hi hz0 hz1 hz2 (show (arr .i64 18 fun _ => 0).size = 18 by rw [arr_size]) (by omega) _ n (flatO l) hs h ⟨g, 0, none⟩ 1 c2 (flatO [f]) hx (by rw [flatO_len]; rfl)
    (fun j u hj => ?_) (flatO_one [f]) (by unfold maxLen; omega) (by omega) hbase ?_
  · rw [Addr.add_mid, Nat.zero_add, cell_of_row w g j _ _ _ hr, ← Array.getElem?_toList]
    simpa [flatO] using hj
  · intro v' w' hown hgr _ _
    rw [← show flatO (l ++ [f]) = flatO l ++ flatO [f] by simp [flatO]] at hown
    have hform : ∃ A' c', v' = .slice A' (n + 1) c' := by
      rcases hown.2 with ⟨rfl, hz⟩ | ⟨g', cap, _, rfl, _⟩
      · omega
      · exact ⟨_, _, rfl⟩
    obtain ⟨A', c', rfl⟩ := hform
    exact hK A' c' w' hown hgr
theorem PW.grownBox {w : World} {g2 g4 g : Nat} {s : StT} {O : SlT} {L : Nat → SlT} {W W' : World} (h : PW w g2 g4 g s O L W) (hg : W.grownBy W' O.v.ownBlock) : StAt W' g (stC O L s.pl s.gm) :=
  (hg.block g h.lt (fun e => by have := (h.o.lt g e.symm).1; omega)).trans h.a
theorem buildSlice_of (f : Nat → Int) (W : World) : (Instr.buildSlice 22 1 #[(0, .agg (arr .i64 18 f))]).run Tryd.prog W = .ok (.slice (some ⟨W.heap.size, 0, none⟩) 1 1) (W.alloc (.cells (arr .i64 18 f) 56)) := by kernel_rfl
theorem wpList_buildSliceOf {ops : Array Oper} {rest : List Oper} {o : Oper} {a : Act} {w : World} {Q : Exit → Act → World → Prop} (hg : o.guard = none) (x : Operand) (ho : o.op = .buildSlice 22 1 #[(0, x)]) (f : Nat → Int)
    (hx : a.eval x = .agg (arr .i64 18 f)) (hK : wpList Tryd.prog ops Q rest (a.put o.dst (.slice (some ⟨w.heap.size, 0, none⟩) 1 1)) (w.alloc (.cells (arr .i64 18 f) 56))) : wpList Tryd.prog ops Q (o :: rest) a w := by
  refine wpList_plain hg fun K' hK' => ?_
  unfold Oper.wp
  simp [execOp, ho, hx, buildSlice_of, Result.andThen]
  exact hK' _ _ hK
theorem PW.grown {w : World} {g2 g4 g : Nat} {s : StT} {O : SlT} {L : Nat → SlT} {W W' : World} (h : PW w g2 g4 g s O L W) (hB : PB w g2 g4 g) (hg : W.grownBy W' O.v.ownBlock) (hnil : ∀ z < 11, L z = nilS ∧ s.lists z = []) {O' : SlT} {os : List (Nat → Int)} (ho : W'.ownsRow (g + 1) 56 18 O'.v O'.n (flatO os)) (hn : O'.n = os.length) :
    PW w g2 g4 g { s with objs := os } O' L (W'.setCell ⟨g, 0, none⟩ O'.v) := by
  have hne : ∀ k, k ≤ g → some k ≠ O.v.ownBlock := fun k hk e => by
    have := (h.o.lt k e.symm).1; omega
  have hk : ∀ k, k ≤ g → W'.heap[k]? = W.heap[k]? := fun k hk => hg.block k (by have := h.lt; omega) (hne k hk)
  obtain ⟨b2, b4, b5⟩ := hB
  have hb : Below w.heap.size w W' := h.b.grown hg h.b.size (fun k e => by have := (h.o.lt k e).1; omega)
  refine ⟨hb.setCell (by simp; omega) _, (heap_setCell_other W' ⟨g, 0, none⟩ g2 _ (by simp; omega)).trans ((hk g2 (by omega)).trans h.r), (heap_setCell_other W' ⟨g, 0, none⟩ g4 _ (by simp; omega)).trans ((hk g4 (by omega)).trans h.n), ?_, owns_stay ho fun b hb => heap_setCell_other W' ⟨g, 0, none⟩ b _ (by simp; omega), hn, fun z hz => ?_⟩
  · unfold StAt
    rw [heap_setCell_same W' g 0 _ _ _ ((hk g (Nat.le_refl _)).trans h.a), stC_set_objs]
  · obtain ⟨e1, e2⟩ := hnil z hz
    show SlR _ (g + 1) (L z) (s.lists z)
    rw [e1, e2]
    exact ⟨Nums.none_, Nat.le_refl _, fun a ha => by cases ha⟩
end Go.Proofs.YtihbdbgmijkjmaaDoor
namespace Go.Proofs.YtihbdbgmijkjmaaDoor
open Go.RowKit Ex Px Wx
section
variable {l : List Int} {n : Int} {k : Nat} {e : Int}
theorem more_one_ok (h : tk l = (n, k, 0)) : more 1 l 0 [] = ([n], k, 0) := by
  rw [more_ok (by rw [List.drop_zero]; exact h)]; simp [more]
theorem more_one_bad (h : tk l = (n, k, e)) (he : e ≠ 0) : more 1 l 0 [] = ([], 0, e) := more_bad (by rw [List.drop_zero]; exact h) he
theorem parse_e1 (h : tk l = (n, k, e)) (he : e ≠ 0) : parseS l = (sT0, e) := by rw [parseS, h]; simp [he]
theorem parse_e2 (h : tk l = (n, k, 0)) (hn : n < 0) : parseS l = (sT0, 1) := by rw [parseS, h]; simp [hn]
theorem parse_e3 (h : tk l = (n, k, 0)) (hn : 400 < n) : parseS l = (sT0, 5) := by
  rw [parseS, h]; simp only [ne_eq, not_true_eq_false, if_false]; rw [if_neg (by omega), if_pos hn]
set_option linter.unusedSimpArgs false in
theorem parse_go (h : tk l = (n, k, 0)) (h0 : ¬ n < 0) (h1 : ¬ 400 < n) {os : List (Nat → Int)} {r : List Int} {e : Int} (hq : pO n.toNat (l.drop k) [] = (os, r, e)) : parseS l = if e ≠ 0 then (sT0, e) else parse2 os r := by
  rw [parseS, h]; simp only [ne_eq, not_true_eq_false, if_false]; rw [if_neg h0, if_neg h1, hq]
variable {m : Nat} {acc : List (Nat → Int)} {x : List Int} {k2 : Nat}
theorem pO_e1 (h : tk l = (n, k, e)) (he : e ≠ 0) : pO (m + 1) l acc = ([], [], e) := by rw [pO, h]; simp [he]
set_option linter.unusedSimpArgs false in
theorem pO_e2 (h : tk l = (n, k, 0)) (hn : n < 0 ∨ 4294967295 < n) : pO (m + 1) l acc = ([], [], 1) := by
  rw [pO, h]; simp only [ne_eq, not_true_eq_false, if_false]; rw [if_pos hn]
theorem pO_e3 (h : tk l = (n, k, 0)) (hn : ¬ (n < 0 ∨ 4294967295 < n)) (hm : more 9 (l.drop k) 0 [] = (x, k2, e)) (he : e ≠ 0) : pO (m + 1) l acc = ([], [], e) := by
  rw [pO, h]; simp only [ne_eq, not_true_eq_false, if_false]; rw [if_neg hn, hm]; simp [he]
set_option linter.unusedSimpArgs false in
theorem pO_e4 (h : tk l = (n, k, 0)) (hn : ¬ (n < 0 ∨ 4294967295 < n)) (hm : more 9 (l.drop k) 0 [] = (x, k2, 0)) (hb : 2097152 ≤ n) : pO (m + 1) l acc = ([], [], 2) := by
  rw [pO, h]; simp only [ne_eq, not_true_eq_false, if_false]; rw [if_neg hn, hm]; simp [hb]
set_option linter.unusedSimpArgs false in
theorem pO_ok (h : tk l = (n, k, 0)) (hn : ¬ (n < 0 ∨ 4294967295 < n)) (hm : more 9 (l.drop k) 0 [] = (x, k2, 0)) (hb : ¬ 2097152 ≤ n) : pO (m + 1) l acc = pO m ((l.drop k).drop k2) (acc ++ [objF n fun i => x.getD i 0]) := by
  rw [pO, h]; simp only [ne_eq, not_true_eq_false, if_false]; rw [if_neg hn, hm]; simp only [ne_eq, not_true_eq_false, if_false]; rw [if_neg hb]
variable {z : Nat} {L : Nat → List Int}
theorem pL_bad (h : tl l 400 = (x, k, e)) (he : e ≠ 0) : pL (m + 1) z l L = (fun _ => [], [], e) := by rw [pL, h]; simp [he]
theorem pL_ok (h : tl l 400 = (x, k, 0)) : pL (m + 1) z l L = pL m (z + 1) (l.drop k) (fun i => if i = z then x else L i) := by rw [pL, h]; simp
variable {os : List (Nat → Int)}
theorem parse2_go {r : List Int} (hq : pL 11 0 l (fun _ => []) = (L, r, e)) : parse2 os l = if e ≠ 0 then (sT0, e) else parse3 os L r := by rw [parse2, hq]
theorem parse3_e1 (hm : more 25 l 0 [] = (x, k, e)) (he : e ≠ 0) : parse3 os L l = (sT0, e) := by rw [parse3, hm]; simp [he]
theorem parse3_e2 (hm : more 25 l 0 [] = (x, k, 0)) (hk : k < l.length) : parse3 os L l = (sT0, 3) := by
  rw [parse3, hm]; simp only [ne_eq, not_true_eq_false, if_false]; rw [if_pos hk]
theorem parse3_e3 (hm : more 25 l 0 [] = (x, k, 0)) (hk : ¬ k < l.length) (hc : chkS (mkS os L x) ≠ 0) : parse3 os L l = (sT0, chkS (mkS os L x)) := by
  rw [parse3, hm]; simp only [ne_eq, not_true_eq_false, if_false]; rw [if_neg hk, if_pos hc]
theorem parse3_go (hm : more 25 l 0 [] = (x, k, 0)) (hk : ¬ k < l.length) (hc : chkS (mkS os L x) = 0) : parse3 os L l = (mkS os L x, 0) := by
  rw [parse3, hm]; simp only [ne_eq, not_true_eq_false, if_false]; rw [if_neg hk, if_neg (by simpa using hc)]
/-- What so many numbers are. -/
theorem more_is {m : Nat} (hl : byB l) (h : more m l 0 [] = (x, k, e)) : (x = [] ∧ k = 0 ∧ (e = 2 ∨ e = 7)) ∨ (e = 0 ∧ k ≤ l.length ∧ x.length = m ∧ ∀ n ∈ x, i64B n) := by
  rcases more_range m l 0 [] hl (Nat.zero_le _) (fun n hn => by cases hn) x k e h with h' | ⟨rfl, _, h7, s, hs, h8, h9, _⟩
  · exact .inl h'
  · rw [List.nil_append] at hs; subst hs; exact .inr ⟨rfl, h7, h8, h9⟩
end
end Go.Proofs.YtihbdbgmijkjmaaDoor
namespace Go.Proofs.YtihbdbgmijkjmaaDoor
open Go.RowKit Ex Px Wx
attribute [local go_sem] arr_get
set_option maxRecDepth 100000
theorem own_cells {e : TypeId} {w : World} {base n c : Nat} {A : Option Addr} {l : List Int} (h : Own .i64 e w base A n c l) (h0 : 0 < n) : ∃ g, A = some ⟨g, 0, none⟩ ∧ base ≤ g ∧ g < w.heap.size ∧ ∀ i (hi : i < l.length), w.cell? ⟨g, i, none⟩ = some (.int .i64 l[i]) := by
  rcases h.2.2 with ⟨hv, hn⟩ | ⟨g, cap, cur, hv, hb, hg, _⟩
  · omega
  · injection hv with h1
    subst h1
    refine ⟨g, rfl, hb, (Array.getElem?_eq_some_iff.1 hg).1, fun i hi => ?_⟩
    have := h.2.cells (g := g) rfl i (.int .i64 l[i]) (by rw [List.getElem?_map, List.getElem?_eq_getElem hi]; rfl)
    rw [Addr.add_mid, Nat.zero_add] at this
    exact this
theorem build9 (f : Nat → Int) (W : World) : (Instr.build 25 #[(0, .int .i64 (f 0)), (1, .int .i64 (f 1)), (2, .int .i64 (f 2)), (3, .int .i64 (f 3)), (4, .int .i64 (f 4)), (5, .int .i64 (f 5)), (6, .int .i64 (f 6)), (7, .int .i64 (f 7)), (8, .int .i64 (f 8))]).run Tryd.prog W = .ok (.agg (arr .i64 9 f)) W := by kernel_rfl
/-- What Parse answers. -/
def CanP (w : World) (l : List Int) (e : Ending) (w' : World) : Prop :=
  ∃ cs O L, e = .returned (.tuple #[.agg cs, .int .i64 (parseS l).2]) ∧ ReadsS w'.heap.size w' cs (parseS l).1 O L ∧ Below w.heap.size w w'
theorem st0_size : (Tryd.prog.info? 29).map (·.size) = some st0.size := by rw [show st0.size = 37 from stC_size _ _ _ _]; exact size37
theorem st0_one : st0.all (·.oneCell') = true := stC_one _ _ _ _
/-- What stands while players are laid. -/
structure SPl (w : World) (g2 g4 g : Nat) (acc : List (Nat → Int)) (Ls : Nat → List Int) (gm : Nat → Int) (O : SlT) (Lp : Nat → SlT) (q : Nat) (x : List Int) (W : World) : Prop where
  p : ∃ pl, PW w g2 g4 g ⟨acc, Ls, pl, gm⟩ O Lp W
  c : ∀ i (hi : i < x.length), W.cell? ⟨q, i, none⟩ = some (.int .i64 x[i])
theorem cells_set {x : List Int} {W : World} {q g : Nat} (h : ∀ i (hi : i < x.length), W.cell? ⟨q, i, none⟩ = some (.int .i64 x[i])) (hq : q ≠ g) (j : Nat) (v : Value) : ∀ i (hi : i < x.length), (W.setCell ⟨g, j, none⟩ v).cell? ⟨q, i, none⟩ = some (.int .i64 x[i]) := fun i hi => by
  rw [World.cell?_setCell_other (h := by intro e; injection e with e1 _; exact hq e1.symm)]
  exact h i hi
theorem PW.drew {w : World} {g2 g4 g : Nat} {s : StT} {O : SlT} {L : Nat → SlT} {W : World} (h : PW w g2 g4 g s O L W) : PW w g2 g4 g s O L W.drew := h.keep (Below.refl _ _).drew
set_option linter.unusedSimpArgs false in
set_option maxHeartbeats 0 in
theorem parseRef11_any (A : Option Addr) (n c : Nat) (l : List Int) (w : World) (hN : Nums .u8 w w.heap.size A n l) (hc : n ≤ c) (hb : byB l) (hn : n ≤ 1000000) :
    Calls Tryd.prog 17 #[.slice A n c] w (CanP w l) := by
  obtain rfl := hN.len
  have HN := Lib.hid hN
  have HB := Lib.hid hb
  clear hN hb
  go_enter Tryd.func17, Tryd.ntmps17
  go_upto_region 1 with fail
  rw [st0_is]
  have hz := st0_is
  have hs1 := StAt.new w st0
  have hs2 := StAt.new (w.alloc (.cells st0 29)) st0
  have hs3 := StAt.new ((w.alloc (.cells st0 29)).alloc (.cells st0 29)) st0
  have hb1 : Below (w.alloc (.cells st0 29)).heap.size (w.alloc (.cells st0 29)) ((w.alloc (.cells st0 29)).alloc (.cells st0 29)) := (Below.refl _ _).alloc (Nat.le_refl _) _
  have hb2 : Below ((w.alloc (.cells st0 29)).alloc (.cells st0 29)).heap.size ((w.alloc (.cells st0 29)).alloc (.cells st0 29)) (((w.alloc (.cells st0 29)).alloc (.cells st0 29)).alloc (.cells st0 29)) := (Below.refl _ _).alloc (Nat.le_refl _) _
  have hb0 : Below w.heap.size w (w.alloc (.cells st0 29)) := (Below.refl _ _).alloc (Nat.le_refl _) _
  have hs13 := (hs1.keep hb1).keep hb2
  have hs23 := hs2.keep hb2
  simp only [World.size_alloc, Nat.add_assoc, Nat.reduceAdd] at hs23 hs3
  have hbw := keepB hb2 (keepB hb1 hb0)
  have hsz0 := st0_size
  have hone0 := st0_one
  have h4 : (((w.alloc (.cells st0 29)).alloc (.cells st0 29)).alloc (.cells st0 29)).heap[w.heap.size + 1]? = some (.cells st0 29 (0, 0)) := hs23
  have h5 : ((((w.alloc (.cells st0 29)).alloc (.cells st0 29)).alloc (.cells st0 29)).setRow (w.heap.size + 1) st0).heap[w.heap.size + 2]? = some (.cells st0 29 (0, 0)) := (setRow_other _ _ _ _ (by omega)).trans hs3
  clear hs1 hs2 hb1 hb2 hb0
  go_upto_region 2 with (first
    | (refine wpList_build0 rfl rfl ?_)
    | (refine wpList_store_row rfl 29 (.tmp 4) (.tmp 25) rfl (w.heap.size + 1) _ rfl rfl 29 st0 h4 hsz0 rfl hone0 ?_)
    | (refine wpList_store_row rfl 29 (.tmp 5) (.tmp 26) rfl (w.heap.size + 2) _ rfl rfl 29 st0 h5 hsz0 rfl hone0 ?_))
  have HP0 := Lib.hid (show PW w w.heap.size (w.heap.size + 1) (w.heap.size + 2) ⟨[], fun _ => [], fun _ => 0, fun _ => 0⟩ nilS (fun _ => nilS) (((((w.alloc (.cells st0 29)).alloc (.cells st0 29)).alloc (.cells st0 29)).setRow (w.heap.size + 1) st0).setRow (w.heap.size + 2) st0) from by
    refine ⟨below_setRow (below_setRow hbw _ _ (by omega)) _ _ (by omega), ?_, ?_, ?_, ?_, rfl, fun z _ => ⟨Nums.none_, Nat.le_refl _, fun a ha => by cases ha⟩⟩
    · exact (setRow_other _ _ _ _ (by omega)).trans ((setRow_other _ _ _ _ (by omega)).trans hs13)
    · exact (setRow_other _ _ _ _ (by omega)).trans (setRow_heap _ _ _ _ _ _ h4)
    · exact setRow_heap _ _ _ _ _ _ h5
    · exact World.ownsRow_nil _ _ _ 18)
  obtain ⟨w5, hw5⟩ : ∃ w5, w5 = ((((w.alloc (.cells st0 29)).alloc (.cells st0 29)).alloc (.cells st0 29)).setRow (w.heap.size + 1) st0).setRow (w.heap.size + 2) st0 := ⟨_, rfl⟩
  obtain ⟨g2, hg2⟩ : ∃ g, g = w.heap.size := ⟨_, rfl⟩
  obtain ⟨g4, hg4⟩ : ∃ g, g = w.heap.size + 1 := ⟨_, rfl⟩
  obtain ⟨g, hg⟩ : ∃ g, g = w.heap.size + 2 := ⟨_, rfl⟩
  have HPB := Lib.hid (show PB w g2 g4 g from ⟨by omega, by omega, by omega⟩)
  rw [← hw5, ← hg4, ← hg] at HP0
  rw [← hw5, ← hg4, show g4 + 1 = g by omega]
  have HG2 := Lib.hid hg2
  have HP1 := Lib.hid (show PW w g2 g4 g ⟨[], fun _ => [], fun _ => 0, fun _ => 0⟩ nilS (fun _ => nilS) w5 by rw [HG2.out]; exact HP0.out)
  rw [← hg2]
  clear hw5 hg2 hg4 hg hs13 hs23 hs3 hbw h4 h5 hsz0 hone0 hz HP0
  obtain ⟨n, k, e0, ht⟩ : ∃ n k e0, tk l = (n, k, e0) := ⟨_, _, _, rfl⟩
  have hN5 := HN.out.below HP1.out.b
  have hs5 := HP1.out.b.size
  rcases tk_range HB.out ht with ⟨h1, h2, h3⟩ | ⟨h1, h2, h3, h4, h5, _⟩
  · subst h1 h2
    have hne : e0 ≠ 0 := by omega
    have h0 : (e0 != 0) = true := by rw [bne_iff_ne]; exact hne
    have HR := Lib.hid (parse_e1 ht hne)
    have hnum := numbers_any A l.length c l 1 w5 w.heap.size hN5 hc HB.out hs5 (by omega) (by omega) _ (more_one_bad ht hne)
    rw [show ((1 : Nat) : Int) = 1 from rfl] at hnum
    clear h3 hne
    go_wp2_with fail
    refine hnum.mono ?_
    rintro e w6 ⟨A6, m6, c6, rfl, _, hb6⟩
    have HP2 := Lib.hid (HP1.out.keep hb6)
    clear hnum hb6 HP1
    have hr9 := (HP2).out.r
    have hn9 := (HP2).out.n
    have hb9 := (HP2).out.b
    have hsz0 := st0_size
    have hone0 := st0_one
    go_wp2_with (first
      | (refine wpList_load_row rfl 29 (.tmp 4) rfl g4 rfl 29 _ (0, 0) _ hn9 Tryd.underlying29 rfl hsz0 ?_)
      | (refine wpList_store_row rfl 29 (.tmp 2) (.tmp 35) rfl g2 _ rfl rfl 29 st0 hr9 hsz0 rfl hone0 ?_))
    refine bodyPost_ret (v := .tuple #[.agg st0, .int .i64 e0]) ?_ rfl ⟨st0, nilS, fun _ => nilS, by rw [HR.out], by rw [HR.out]; exact reads_0 _ _, below_setRow hb9 _ _ HPB.out.h2⟩
    exact results_cell_tmp (ty := 29) (p := 2) (q := 3) (by kernel_rfl) _ _ g2 29 _ (0, 0) _ rfl (setRow_heap _ _ _ _ _ _ hr9) Tryd.underlying29 rfl hsz0
  subst h1
  have hnum := numbers_any A l.length c l 1 w5 w.heap.size hN5 hc HB.out hs5 (by omega) (by omega) _ (more_one_ok ht)
  rw [show ((1 : Nat) : Int) = 1 from rfl] at hnum
  go_wp2_with fail
  refine hnum.mono ?_
  rintro e w6 ⟨A6, m6, c6, rfl, ho6, hb6⟩
  have HP2 := Lib.hid (HP1.out.keep hb6)
  obtain rfl : m6 = 1 := by have := ho6.len; simpa using this.symm
  obtain ⟨g6, rfl, _, _, hc6⟩ := own_cells ho6 (by omega)
  have hc60 := hc6 0 (by simp)
  simp only [List.getElem_cons_zero] at hc60
  clear hnum hb6 HP1 ho6 hc6 hN5 hs5
  by_cases hn0 : n < 0
  · have d0 : decide (n < 0) = true := decide_eq_true hn0
    have HR := Lib.hid (parse_e2 ht hn0)
    clear hn0
    have hr9 := (HP2).out.r
    have hn9 := (HP2).out.n
    have hb9 := (HP2).out.b
    have hsz0 := st0_size
    have hone0 := st0_one
    go_wp2_with (first
      | (refine wpList_load_row rfl 29 (.tmp 4) rfl g4 rfl 29 _ (0, 0) _ hn9 Tryd.underlying29 rfl hsz0 ?_)
      | (refine wpList_store_row rfl 29 (.tmp 2) (.tmp 41) rfl g2 _ rfl rfl 29 st0 hr9 hsz0 rfl hone0 ?_))
    refine bodyPost_ret (v := .tuple #[.agg st0, .int .i64 1]) ?_ rfl ⟨st0, nilS, fun _ => nilS, by rw [HR.out], by rw [HR.out]; exact reads_0 _ _, below_setRow hb9 _ _ HPB.out.h2⟩
    exact results_cell_tmp (ty := 29) (p := 2) (q := 3) (by kernel_rfl) _ _ g2 29 _ (0, 0) _ rfl (setRow_heap _ _ _ _ _ _ hr9) Tryd.underlying29 rfl hsz0
  have d0 : decide (n < 0) = false := decide_eq_false hn0
  by_cases hn4 : 400 < n
  · have d4 : decide (400 < n) = true := decide_eq_true hn4
    have HR := Lib.hid (parse_e3 ht hn4)
    clear hn4
    have hr9 := (HP2).out.r
    have hn9 := (HP2).out.n
    have hb9 := (HP2).out.b
    have hsz0 := st0_size
    have hone0 := st0_one
    go_wp2_with (first
      | (refine wpList_load_row rfl 29 (.tmp 4) rfl g4 rfl 29 _ (0, 0) _ hn9 Tryd.underlying29 rfl hsz0 ?_)
      | (refine wpList_store_row rfl 29 (.tmp 2) (.tmp 46) rfl g2 _ rfl rfl 29 st0 hr9 hsz0 rfl hone0 ?_))
    refine bodyPost_ret (v := .tuple #[.agg st0, .int .i64 5]) ?_ rfl ⟨st0, nilS, fun _ => nilS, by rw [HR.out], by rw [HR.out]; exact reads_0 _ _, below_setRow hb9 _ _ HPB.out.h2⟩
    exact results_cell_tmp (ty := 29) (p := 2) (q := 3) (by kernel_rfl) _ _ g2 29 _ (0, 0) _ rfl (setRow_heap _ _ _ _ _ _ hr9) Tryd.underlying29 rfl hsz0
  have d4 : decide (400 < n) = false := decide_eq_false hn4
  obtain ⟨M, rfl⟩ := Int.eq_ofNat_of_zero_le (show 0 ≤ n by omega)
  obtain ⟨os, r, e1, hq⟩ : ∃ os r e1, pO M (l.drop k) [] = (os, r, e1) := ⟨_, _, _, rfl⟩
  have HGo := Lib.hid (parse_go ht hn0 hn4 (os := os) (r := r) (e := e1) (by rw [Int.toNat_natCast]; exact hq))
  have HQ0 := Lib.hid hq
  have HAll := Lib.hid (pO_range M _ [] (byB_drop k HB.out) os r e1 hq)
  have hM : M ≤ 400 := by omega
  have HT0 := Lib.hid ht
  clear hn0 hn4 hq h2 h4 h5 ht
  go_upto_region 10 with fail
  go_loopw [7, 9] (fun at_ i wr => ∃ m a acc O, i = .int .i64 ((m : Nat) : Int) ∧ at_ = .int .i64 ((a : Nat) : Int) ∧ m ≤ 400 ∧ a ≤ l.length ∧ acc.length + m ≤ 400 ∧ Hid (pO m (l.drop a) acc = (os, r, e1)) ∧ Hid (PW w g2 g4 g ⟨acc, fun _ => [], fun _ => 0, fun _ => 0⟩ O (fun _ => nilS) wr)) (fun _ i _ => (intOf i).toNat)
  case atStart => exact ⟨M, k, [], nilS, rfl, rfl, hM, h3, (by simpa using hM), HQ0, HP2⟩
  case round =>
    clear HP2 HQ0 hM h3
    obtain ⟨m, a, acc, O, rfl, rfl, hm, ha, hacc, HQ, HP⟩ := hrel
    by_cases hm0 : 0 < m
    · obtain ⟨m', rfl⟩ : ∃ m', m = m' + 1 := ⟨m - 1, by omega⟩
      have dm : decide ((0 : Int) < ((m' + 1 : Nat) : Int)) = true := decide_eq_true (by omega)
      have hNr := HN.out.below HP.out.b
      have hsr := HP.out.b.size
      obtain ⟨A2, hsl, hN2⟩ := cut_from (P := Tryd.prog) hNr hc ha 30 (by kernel_rfl) (fun _ => by kernel_rfl)
      obtain ⟨h, k1, e2, ht1⟩ : ∃ h k1 e2, tk (l.drop a) = (h, k1, e2) := ⟨_, _, _, rfl⟩
      rcases tk_range (byB_drop a HB.out) ht1 with ⟨g1, g3, g5⟩ | ⟨g1, g3, g5, g7, g8, _⟩
      · subst g1 g3
        have hne : e2 ≠ 0 := by omega
        have h0 : (e2 != 0) = true := by rw [bne_iff_ne]; exact hne
        have HR := Lib.hid (show parseS l = (sT0, e2) by
          have := HQ.out
          rw [pO_e1 ht1 hne] at this
          simp only [Prod.mk.injEq] at this
          rw [HGo.out, if_pos (by rw [← this.2.2]; exact hne), this.2.2])
        have hnum := numbers_any A2 (l.length - a) (c - a) (l.drop a) 1 wr w.heap.size hN2 (by omega) (byB_drop a HB.out) hsr (by omega) (by omega) _ (more_one_bad ht1 hne)
        rw [show ((1 : Nat) : Int) = 1 from rfl] at hnum
        clear hne g5
        go_wp2_with fail
        refine hnum.mono ?_
        rintro e w7 ⟨A7, m7, c7, rfl, _, hb7⟩
        have HP2 := Lib.hid (HP.out.keep hb7)
        clear hnum hb7 HP
        have hr9 := (HP2).out.r
        have hn9 := (HP2).out.n
        have hb9 := (HP2).out.b
        have hsz0 := st0_size
        have hone0 := st0_one
        go_wp2_with (first
          | (refine wpList_load_row rfl 29 (.tmp 4) rfl g4 rfl 29 _ (0, 0) _ hn9 Tryd.underlying29 rfl hsz0 ?_)
          | (refine wpList_store_row rfl 29 (.tmp 2) (.tmp 64) rfl g2 _ rfl rfl 29 st0 hr9 hsz0 rfl hone0 ?_))
        refine bodyPost_ret (v := .tuple #[.agg st0, .int .i64 e2]) ?_ rfl ⟨st0, nilS, fun _ => nilS, by rw [HR.out], by rw [HR.out]; exact reads_0 _ _, below_setRow hb9 _ _ HPB.out.h2⟩
        exact results_cell_tmp (ty := 29) (p := 2) (q := 3) (by kernel_rfl) _ _ g2 29 _ (0, 0) _ rfl (setRow_heap _ _ _ _ _ _ hr9) Tryd.underlying29 rfl hsz0
      subst g1
      rw [List.length_drop] at g5
      have hnum := numbers_any A2 (l.length - a) (c - a) (l.drop a) 1 wr w.heap.size hN2 (by omega) (byB_drop a HB.out) hsr (by omega) (by omega) _ (more_one_ok ht1)
      rw [show ((1 : Nat) : Int) = 1 from rfl] at hnum
      unfold i64B at g8
      obtain ⟨g8, g9⟩ := g8
      go_wp2_with fail
      refine hnum.mono ?_
      rintro e w7 ⟨A7, m7, c7, rfl, ho7, hb7⟩
      have HP7 := Lib.hid (HP.out.keep hb7)
      obtain rfl : m7 = 1 := by have := ho7.len; simpa using this.symm
      obtain ⟨g10, rfl, hg10, _, hc7⟩ := own_cells ho7 (by omega)
      have hc10 := hc7 0 (by simp)
      simp only [List.getElem_cons_zero] at hc10
      clear hnum hsl hN2 hNr hsr ho7 hc7
      by_cases hh0 : h < 0
      · have d1 : decide (h < 0) = true := decide_eq_true hh0
        have HR := Lib.hid (show parseS l = (sT0, 1) by
          have := HQ.out
          rw [pO_e2 ht1 (.inl hh0)] at this
          simp only [Prod.mk.injEq] at this
          rw [HGo.out, ← this.2.2]; rfl)
        clear hh0 HP hb7
        have hr9 := (HP7).out.r
        have hn9 := (HP7).out.n
        have hb9 := (HP7).out.b
        have hsz0 := st0_size
        have hone0 := st0_one
        go_wp2_with (first
          | (refine wpList_load_row rfl 29 (.tmp 4) rfl g4 rfl 29 _ (0, 0) _ hn9 Tryd.underlying29 rfl hsz0 ?_)
          | (refine wpList_store_row rfl 29 (.tmp 2) (.tmp 76) rfl g2 _ rfl rfl 29 st0 hr9 hsz0 rfl hone0 ?_))
        refine bodyPost_ret (v := .tuple #[.agg st0, .int .i64 1]) ?_ rfl ⟨st0, nilS, fun _ => nilS, by rw [HR.out], by rw [HR.out]; exact reads_0 _ _, below_setRow hb9 _ _ HPB.out.h2⟩
        exact results_cell_tmp (ty := 29) (p := 2) (q := 3) (by kernel_rfl) _ _ g2 29 _ (0, 0) _ rfl (setRow_heap _ _ _ _ _ _ hr9) Tryd.underlying29 rfl hsz0
      have d1 : decide (h < 0) = false := decide_eq_false hh0
      by_cases hh1 : 4294967295 < h
      · have d2 : decide (4294967295 < h) = true := decide_eq_true hh1
        have HR := Lib.hid (show parseS l = (sT0, 1) by
          have := HQ.out
          rw [pO_e2 ht1 (.inr hh1)] at this
          simp only [Prod.mk.injEq] at this
          rw [HGo.out, ← this.2.2]; rfl)
        clear hh1 HP hb7
        have hr9 := (HP7).out.r
        have hn9 := (HP7).out.n
        have hb9 := (HP7).out.b
        have hsz0 := st0_size
        have hone0 := st0_one
        go_wp2_with (first
          | (refine wpList_load_row rfl 29 (.tmp 4) rfl g4 rfl 29 _ (0, 0) _ hn9 Tryd.underlying29 rfl hsz0 ?_)
          | (refine wpList_store_row rfl 29 (.tmp 2) (.tmp 76) rfl g2 _ rfl rfl 29 st0 hr9 hsz0 rfl hone0 ?_))
        refine bodyPost_ret (v := .tuple #[.agg st0, .int .i64 1]) ?_ rfl ⟨st0, nilS, fun _ => nilS, by rw [HR.out], by rw [HR.out]; exact reads_0 _ _, below_setRow hb9 _ _ HPB.out.h2⟩
        exact results_cell_tmp (ty := 29) (p := 2) (q := 3) (by kernel_rfl) _ _ g2 29 _ (0, 0) _ rfl (setRow_heap _ _ _ _ _ _ hr9) Tryd.underlying29 rfl hsz0
      have d2 : decide (4294967295 < h) = false := decide_eq_false hh1
      obtain ⟨x, k2, e3, hmo⟩ : ∃ x k2 e3, more 9 ((l.drop a).drop k1) 0 [] = (x, k2, e3) := ⟨_, _, _, rfl⟩
      have hdd : (l.drop a).drop k1 = l.drop (a + k1) := List.drop_drop
      have hak : a + k1 ≤ l.length := by omega
      have hN7 := HN.out.below HP7.out.b
      have hs7 := HP7.out.b.size
      obtain ⟨A3, hsl3, hN3⟩ := cut_from (P := Tryd.prog) hN7 hc hak 30 (by kernel_rfl) (fun _ => by kernel_rfl)
      have hwa : IntKind.i64.wrap ((a : Int) + (k1 : Int)) = ((a + k1 : Nat) : Int) := by rw [i64_in (by omega) (by omega)]; omega
      obtain ⟨a1, ha1⟩ : ∃ a1, a1 = a + k1 := ⟨_, rfl⟩
      rw [← ha1] at hdd hak hsl3 hN3 hwa
      have hmo1 := hmo
      rw [hdd] at hmo1
      have HA1 := Lib.hid ha1
      have HDD := Lib.hid hdd
      rcases more_is (byB_drop a1 HB.out) hmo1 with ⟨hx0, hk0, he3⟩ | ⟨rfl, hk2, hx9, hxi⟩
      · subst hx0 hk0
        have hne : e3 ≠ 0 := by omega
        have h0 : (e3 != 0) = true := by rw [bne_iff_ne]; exact hne
        have HR := Lib.hid (show parseS l = (sT0, e3) by
          have := HQ.out
          rw [pO_e3 ht1 (by omega) hmo hne] at this
          simp only [Prod.mk.injEq] at this
          rw [HGo.out, if_pos (by rw [← this.2.2]; exact hne), this.2.2])
        have hnum := numbers_any A3 (l.length - a1) (c - a1) (l.drop a1) 9 w7 w.heap.size hN3 (by omega) (byB_drop a1 HB.out) hs7 (by omega) (by omega) _ hmo1
        rw [show ((9 : Nat) : Int) = 9 from rfl] at hnum
        clear hne he3 hmo hmo1 ha1 hdd hh0 hh1 hb7 HP
        go_wp2_with fail
        refine hnum.mono ?_
        rintro e w8 ⟨A8, m8, c8, rfl, _, hb8⟩
        have HP2 := Lib.hid (HP7.out.keep hb8)
        clear hnum hb8
        have hr9 := (HP2).out.r
        have hn9 := (HP2).out.n
        have hb9 := (HP2).out.b
        have hsz0 := st0_size
        have hone0 := st0_one
        go_wp2_with (first
          | (refine wpList_load_row rfl 29 (.tmp 4) rfl g4 rfl 29 _ (0, 0) _ hn9 Tryd.underlying29 rfl hsz0 ?_)
          | (refine wpList_store_row rfl 29 (.tmp 2) (.tmp 90) rfl g2 _ rfl rfl 29 st0 hr9 hsz0 rfl hone0 ?_))
        refine bodyPost_ret (v := .tuple #[.agg st0, .int .i64 e3]) ?_ rfl ⟨st0, nilS, fun _ => nilS, by rw [HR.out], by rw [HR.out]; exact reads_0 _ _, below_setRow hb9 _ _ HPB.out.h2⟩
        exact results_cell_tmp (ty := 29) (p := 2) (q := 3) (by kernel_rfl) _ _ g2 29 _ (0, 0) _ rfl (setRow_heap _ _ _ _ _ _ hr9) Tryd.underlying29 rfl hsz0
      have hnum := numbers_any A3 (l.length - a1) (c - a1) (l.drop a1) 9 w7 w.heap.size hN3 (by omega) (byB_drop a1 HB.out) hs7 (by omega) (by omega) _ hmo1
      rw [show ((9 : Nat) : Int) = 9 from rfl] at hnum
      have hh : ¬ (h < 0 ∨ 4294967295 < h) := by omega
      have HHr := Lib.hid hh
      have HMo := Lib.hid hmo
      rw [List.length_drop] at hk2
      clear hmo hmo1 ha1 hdd hh
      go_wp2_with fail
      refine hnum.mono ?_
      rintro e w8 ⟨A8, m8, c8, rfl, ho8, hb8⟩
      have HP8 := Lib.hid (HP7.out.keep hb8)
      obtain rfl : m8 = 9 := by have h9 : x.length = m8 := ho8.len; omega
      obtain ⟨g13, rfl, _, _, hc8⟩ := own_cells ho8 (by omega)
      have hc18 := (hb8.cell (p := ⟨g10, 0, none⟩) (World.block_lt_of_cell? w7 _ hc10)).trans hc10
      have hwa2 : IntKind.i64.wrap ((a1 : Int) + (k2 : Int)) = ((a1 + k2 : Nat) : Int) := by rw [i64_in (by omega) (by omega)]; omega
      obtain ⟨a2, ha2⟩ : ∃ a2, a2 = a1 + k2 := ⟨_, rfl⟩
      have ha2l : a2 ≤ l.length := by omega
      rw [← ha2] at hwa2
      have HA2 := Lib.hid ha2
      clear hnum hsl3 hN3 hN7 hs7 ho8 hb7 hb8 HP HP7 hc10 ha2 hh0 hh1
      go_upto_region 22 with fail
      obtain ⟨rr, hrr⟩ : ∃ rr : Nat → Int, rr = fun i => x.getD i 0 := ⟨_, rfl⟩
      have hcs : ∀ i, i < 9 → ∀ W, Below w8.heap.size w8 W → W.cell? ⟨g13, i, none⟩ = some (.int .i64 (rr i)) := fun i hi W hW => by
        have h1 := hc8 i (by omega)
        rw [hrr]
        show _ = some (Value.int .i64 (x.getD i 0))
        rw [List.getD_eq_getElem?_getD, List.getElem?_eq_getElem (by omega), Option.getD_some]
        exact (hW.cell (World.block_lt_of_cell? w8 _ h1)).trans h1
      have c0 := hcs 0 (by omega)
      have c1 := hcs 1 (by omega)
      have c2 := hcs 2 (by omega)
      have c3 := hcs 3 (by omega)
      have c4 := hcs 4 (by omega)
      have c5 := hcs 5 (by omega)
      have c6' := hcs 6 (by omega)
      have c7' := hcs 7 (by omega)
      have c8' := hcs 8 (by omega)
      have HRr := Lib.hid hrr
      clear hrr hcs hc8
      refine region_below (by kernel_rfl) (fun hHeld => ?_)
      refine wpAnyH_take (i := 0) (v := ?_) rfl (by kernel_rfl) (by kernel_rfl) (by kernel_rfl) (fun _ _ _ h => h) (Or.inl ⟨by rfl, ?_⟩) hHeld ?_
      rotate_left
      · (intro w hSw; go_simp; (try with_reducible rfl))
      simp only [Act.put, List.getElem_toArray, List.getElem_cons_zero, List.getElem_cons_succ, List.setIfInBounds_toArray, List.set_cons_zero, List.set_cons_succ]
      refine wpAnyH_take (i := 1) (v := ?_) rfl (by kernel_rfl) (by kernel_rfl) (by kernel_rfl) (fun _ _ _ h => h) (Or.inl ⟨by rfl, ?_⟩) hHeld ?_
      rotate_left
      · (intro w hSw; go_simp; (try with_reducible rfl))
      simp only [Act.put, List.getElem_toArray, List.getElem_cons_zero, List.getElem_cons_succ, List.setIfInBounds_toArray, List.set_cons_zero, List.set_cons_succ]
      refine wpAnyH_take (i := 2) (v := ?_) rfl (by kernel_rfl) (by kernel_rfl) (by kernel_rfl) (fun _ _ _ h => h) (Or.inl ⟨by rfl, ?_⟩) hHeld ?_
      rotate_left
      · (intro w hSw; go_simp; (try with_reducible rfl))
      simp only [Act.put, List.getElem_toArray, List.getElem_cons_zero, List.getElem_cons_succ, List.setIfInBounds_toArray, List.set_cons_zero, List.set_cons_succ]
      refine wpAnyH_take (i := 3) (v := ?_) rfl (by kernel_rfl) (by kernel_rfl) (by kernel_rfl) (fun _ _ _ h => h) (Or.inl ⟨by rfl, ?_⟩) hHeld ?_
      rotate_left
      · (intro w hSw; go_simp; (try with_reducible rfl))
      simp only [Act.put, List.getElem_toArray, List.getElem_cons_zero, List.getElem_cons_succ, List.setIfInBounds_toArray, List.set_cons_zero, List.set_cons_succ]
      refine wpAnyH_take (i := 4) (v := ?_) rfl (by kernel_rfl) (by kernel_rfl) (by kernel_rfl) (fun _ _ _ h => h) (Or.inl ⟨by rfl, ?_⟩) hHeld ?_
      rotate_left
      · (intro w hSw; go_simp; (try with_reducible rfl))
      simp only [Act.put, List.getElem_toArray, List.getElem_cons_zero, List.getElem_cons_succ, List.setIfInBounds_toArray, List.set_cons_zero, List.set_cons_succ]
      refine wpAnyH_take (i := 5) (v := ?_) rfl (by kernel_rfl) (by kernel_rfl) (by kernel_rfl) (fun _ _ _ h => h) (Or.inl ⟨by rfl, ?_⟩) hHeld ?_
      rotate_left
      · (intro w hSw; go_simp; (try with_reducible rfl))
      simp only [Act.put, List.getElem_toArray, List.getElem_cons_zero, List.getElem_cons_succ, List.setIfInBounds_toArray, List.set_cons_zero, List.set_cons_succ]
      refine wpAnyH_take (i := 6) (v := ?_) rfl (by kernel_rfl) (by kernel_rfl) (by kernel_rfl) (fun _ _ _ h => h) (Or.inl ⟨by rfl, ?_⟩) hHeld ?_
      rotate_left
      · (intro w hSw; go_simp; (try with_reducible rfl))
      simp only [Act.put, List.getElem_toArray, List.getElem_cons_zero, List.getElem_cons_succ, List.setIfInBounds_toArray, List.set_cons_zero, List.set_cons_succ]
      refine wpAnyH_take (i := 7) (v := ?_) rfl (by kernel_rfl) (by kernel_rfl) (by kernel_rfl) (fun _ _ _ h => h) (Or.inl ⟨by rfl, ?_⟩) hHeld ?_
      rotate_left
      · (intro w hSw; go_simp; (try with_reducible rfl))
      simp only [Act.put, List.getElem_toArray, List.getElem_cons_zero, List.getElem_cons_succ, List.setIfInBounds_toArray, List.set_cons_zero, List.set_cons_succ]
      refine wpAnyH_take (i := 8) (v := ?_) rfl (by kernel_rfl) (by kernel_rfl) (by kernel_rfl) (fun _ _ _ h => h) (Or.inl ⟨by rfl, ?_⟩) hHeld ?_
      rotate_left
      · (intro w hSw; go_simp; (try with_reducible rfl))
      simp only [Act.put, List.getElem_toArray, List.getElem_cons_zero, List.getElem_cons_succ, List.setIfInBounds_toArray, List.set_cons_zero, List.set_cons_succ]
      refine wpAnyH_take (i := 9) (v := ?_) rfl (by kernel_rfl) (by kernel_rfl) (by kernel_rfl) (fun _ _ _ h => h) (Or.inl ⟨by rfl, ?_⟩) hHeld ?_
      rotate_left
      · (intro w hSw; go_simp; (try with_reducible rfl))
      simp only [Act.put, List.getElem_toArray, List.getElem_cons_zero, List.getElem_cons_succ, List.setIfInBounds_toArray, List.set_cons_zero, List.set_cons_succ]
      refine wpAnyH_take (i := 10) (v := ?_) rfl (by kernel_rfl) (by kernel_rfl) (by kernel_rfl) (fun _ _ _ h => h) (Or.inl ⟨by rfl, ?_⟩) hHeld ?_
      rotate_left
      · (intro w hSw; go_simp; (try with_reducible rfl))
      simp only [Act.put, List.getElem_toArray, List.getElem_cons_zero, List.getElem_cons_succ, List.setIfInBounds_toArray, List.set_cons_zero, List.set_cons_succ]
      refine wpAnyH_take (i := 11) (v := ?_) rfl (by kernel_rfl) (by kernel_rfl) (by kernel_rfl) (fun _ _ _ h => h) (Or.inl ⟨by rfl, ?_⟩) hHeld ?_
      rotate_left
      · (intro w hSw; go_simp; (try with_reducible rfl))
      simp only [Act.put, List.getElem_toArray, List.getElem_cons_zero, List.getElem_cons_succ, List.setIfInBounds_toArray, List.set_cons_zero, List.set_cons_succ]
      refine wpAnyH_take (i := 12) (v := ?_) rfl (by kernel_rfl) (by kernel_rfl) (by kernel_rfl) (fun _ _ _ h => h) (Or.inl ⟨by rfl, ?_⟩) hHeld ?_
      rotate_left
      · (intro w hSw; go_simp; (try with_reducible rfl))
      simp only [Act.put, List.getElem_toArray, List.getElem_cons_zero, List.getElem_cons_succ, List.setIfInBounds_toArray, List.set_cons_zero, List.set_cons_succ]
      refine wpAnyH_take (i := 13) (v := ?_) rfl (by kernel_rfl) (by kernel_rfl) (by kernel_rfl) (fun _ _ _ h => h) (Or.inl ⟨by rfl, ?_⟩) hHeld ?_
      rotate_left
      · (intro w hSw; go_simp; (try with_reducible rfl))
      simp only [Act.put, List.getElem_toArray, List.getElem_cons_zero, List.getElem_cons_succ, List.setIfInBounds_toArray, List.set_cons_zero, List.set_cons_succ]
      refine wpAnyH_take (i := 14) (v := ?_) rfl (by kernel_rfl) (by kernel_rfl) (by kernel_rfl) (fun _ _ _ h => h) (Or.inl ⟨by rfl, ?_⟩) hHeld ?_
      rotate_left
      · (intro w hSw; go_simp; (try with_reducible rfl))
      simp only [Act.put, List.getElem_toArray, List.getElem_cons_zero, List.getElem_cons_succ, List.setIfInBounds_toArray, List.set_cons_zero, List.set_cons_succ]
      refine wpAnyH_take (i := 15) (v := ?_) rfl (by kernel_rfl) (by kernel_rfl) (by kernel_rfl) (fun _ _ _ h => h) (Or.inl ⟨by rfl, ?_⟩) hHeld ?_
      rotate_left
      · (intro w hSw; go_simp; (try with_reducible rfl))
      simp only [Act.put, List.getElem_toArray, List.getElem_cons_zero, List.getElem_cons_succ, List.setIfInBounds_toArray, List.set_cons_zero, List.set_cons_succ]
      refine wpAnyH_take (i := 16) (v := ?_) rfl (by kernel_rfl) (by kernel_rfl) (by kernel_rfl) (fun _ _ _ h => h) (Or.inl ⟨by rfl, ?_⟩) hHeld ?_
      rotate_left
      · (intro w hSw; go_simp; (try with_reducible rfl))
      simp only [Act.put, List.getElem_toArray, List.getElem_cons_zero, List.getElem_cons_succ, List.setIfInBounds_toArray, List.set_cons_zero, List.set_cons_succ]
      refine wpAnyH_take (i := 17) (v := ?_) rfl (by kernel_rfl) (by kernel_rfl) (by kernel_rfl) (fun _ _ _ h => h) (Or.inl ⟨by rfl, ?_⟩) hHeld ?_
      rotate_left
      · (intro w hSw; go_simp; (try with_reducible rfl))
      simp only [Act.put, List.getElem_toArray, List.getElem_cons_zero, List.getElem_cons_succ, List.setIfInBounds_toArray, List.set_cons_zero, List.set_cons_succ]
      refine wpAnyH_take (i := 18) (v := ?_) rfl (by kernel_rfl) (by kernel_rfl) (by kernel_rfl) (fun _ _ _ h => h) (Or.inl ⟨by rfl, ?_⟩) hHeld ?_
      rotate_left
      · (intro w hSw; go_simp; (try with_reducible rfl))
      simp only [Act.put, List.getElem_toArray, List.getElem_cons_zero, List.getElem_cons_succ, List.setIfInBounds_toArray, List.set_cons_zero, List.set_cons_succ]
      refine wpAnyH_take (i := 19) (v := ?_) rfl (by kernel_rfl) (by kernel_rfl) (by kernel_rfl) (fun _ _ _ h => h) (Or.inl ⟨by rfl, ?_⟩) hHeld ?_
      rotate_left
      · (intro w hSw; go_simp; (try with_reducible rfl))
      simp only [Act.put, List.getElem_toArray, List.getElem_cons_zero, List.getElem_cons_succ, List.setIfInBounds_toArray, List.set_cons_zero, List.set_cons_succ]
      refine wpAnyH_take (i := 20) (v := ?_) rfl (by kernel_rfl) (by kernel_rfl) (by kernel_rfl) (fun _ _ _ h => h) (Or.inl ⟨by rfl, ?_⟩) hHeld ?_
      rotate_left
      · (intro w hSw; go_simp; (try with_reducible rfl))
      simp only [Act.put, List.getElem_toArray, List.getElem_cons_zero, List.getElem_cons_succ, List.setIfInBounds_toArray, List.set_cons_zero, List.set_cons_succ]
      refine wpAnyH_take (i := 21) (v := ?_) rfl (by kernel_rfl) (by kernel_rfl) (by kernel_rfl) (fun _ _ _ h => h) (Or.inl ⟨by rfl, ?_⟩) hHeld ?_
      rotate_left
      · (intro w hSw; go_simp; (try with_reducible rfl))
      simp only [Act.put, List.getElem_toArray, List.getElem_cons_zero, List.getElem_cons_succ, List.setIfInBounds_toArray, List.set_cons_zero, List.set_cons_succ]
      refine wpAnyH_take (i := 22) (v := ?_) rfl (by kernel_rfl) (by kernel_rfl) (by kernel_rfl) (fun _ _ _ h => h) (Or.inl ⟨by rfl, ?_⟩) hHeld ?_
      rotate_left
      · (intro w hSw; go_simp; (try with_reducible rfl))
      simp only [Act.put, List.getElem_toArray, List.getElem_cons_zero, List.getElem_cons_succ, List.setIfInBounds_toArray, List.set_cons_zero, List.set_cons_succ]
      refine wpAnyH_take (i := 23) (v := ?_) rfl (by kernel_rfl) (by kernel_rfl) (by kernel_rfl) (fun _ _ _ h => h) (Or.inl ⟨by rfl, ?_⟩) hHeld ?_
      rotate_left
      · (intro w hSw; go_simp; (try with_reducible rfl))
      simp only [Act.put, List.getElem_toArray, List.getElem_cons_zero, List.getElem_cons_succ, List.setIfInBounds_toArray, List.set_cons_zero, List.set_cons_succ]
      refine wpAnyH_take (i := 24) (v := ?_) rfl (by kernel_rfl) (by kernel_rfl) (by kernel_rfl) (fun _ _ _ h => h) (Or.inl ⟨by rfl, ?_⟩) hHeld ?_
      rotate_left
      · (intro w hSw; go_simp; (try with_reducible rfl))
      simp only [Act.put, List.getElem_toArray, List.getElem_cons_zero, List.getElem_cons_succ, List.setIfInBounds_toArray, List.set_cons_zero, List.set_cons_succ]
      refine wpAnyH_take (i := 25) (v := ?_) rfl (by kernel_rfl) (by kernel_rfl) (by kernel_rfl) (fun _ _ _ h => h) (Or.inl ⟨by rfl, ?_⟩) hHeld ?_
      rotate_left
      · (intro w hSw; go_simp; (try with_reducible rfl))
      simp only [Act.put, List.getElem_toArray, List.getElem_cons_zero, List.getElem_cons_succ, List.setIfInBounds_toArray, List.set_cons_zero, List.set_cons_succ]
      refine wpAnyH_take (i := 26) (v := ?_) rfl (by kernel_rfl) (by kernel_rfl) (by kernel_rfl) (fun _ _ _ h => h) (Or.inl ⟨by rfl, ?_⟩) hHeld ?_
      rotate_left
      · (intro w hSw; go_simp; (try with_reducible rfl))
      simp only [Act.put, List.getElem_toArray, List.getElem_cons_zero, List.getElem_cons_succ, List.setIfInBounds_toArray, List.set_cons_zero, List.set_cons_succ]
      refine wpAnyH_take (i := 27) (v := .agg (arr .i64 9 rr)) rfl (by kernel_rfl) (by kernel_rfl) (by kernel_rfl) (fun _ _ _ h => h) (Or.inl ⟨by rfl, fun W hW => by simp [execOp, build9, Result.andThen, Act.eval]⟩) hHeld ?_
      simp only [Act.put, List.getElem_toArray, List.getElem_cons_zero, List.getElem_cons_succ, List.setIfInBounds_toArray, List.set_cons_zero, List.set_cons_succ]
      have hz9 := st_zero9
      refine wpAnyH_ready (rs := [28]) (by kernel_rfl) (by simp) ?_
      refine AllReadyH.cons rfl (fun K hK => ?_) AllReadyH.nil
      simp only [List.getElem_toArray, List.getElem_cons_zero, List.getElem_cons_succ]
      go_simp
      have hS1 : Below w8.heap.size w8 (w8.alloc (.cells (arr .i64 9 fun _ => 0) 25)).drew := ((Below.refl _ _).alloc (Nat.le_refl _) _).drew
      refine hK.out _ _ hS1 (fun _ => ?_)
      clear hK K
      try simp only [Act.put, List.setIfInBounds_toArray, List.set_cons_zero, List.set_cons_succ]
      have hnew : (w8.alloc (.cells (arr .i64 9 fun _ => 0) 25)).drew.heap[w8.heap.size]? = some (.cells (arr .i64 9 fun _ => 0) 25 (0, 0)) := heap_alloc_new w8 _
      have hsr : (Tryd.prog.info? 25).map (·.size) = some (arr .i64 9 rr).size := by rw [arr_size]; exact st_size9
      refine wpAnyH_ready (rs := [29]) (by kernel_rfl) (by simp) ?_
      refine AllReadyH.cons rfl (fun K hK => ?_) AllReadyH.nil
      simp only [List.getElem_toArray, List.getElem_cons_zero, List.getElem_cons_succ]
      refine wp_store_row 25 (.tmp 14) (.tmp 122) rfl w8.heap.size _ rfl rfl 25 _ hnew hsr (by rw [arr_size, arr_size]) (arr_one .i64 9 rr) ?_
      have hS2 : Below w8.heap.size w8 ((w8.alloc (.cells (arr .i64 9 fun _ => 0) 25)).drew.setRow w8.heap.size (arr .i64 9 rr)) := below_setRow hS1 _ _ (Nat.le_refl _)
      have hA9 : ArrAt .i64 9 25 ((w8.alloc (.cells (arr .i64 9 fun _ => 0) 25)).drew.setRow w8.heap.size (arr .i64 9 rr)) w8.heap.size rr := setRow_heap _ _ _ _ _ _ hnew
      refine hK.out _ _ hS2 (fun _ => ?_)
      try simp only [Act.put, List.setIfInBounds_toArray, List.set_cons_zero, List.set_cons_succ]
      clear hK K c0 c1 c2 c3 c4 c5 c6' c7' c8' hHeld hS1 hnew hz9
      obtain ⟨w9, hw9⟩ : ∃ w9, w9 = (w8.alloc (.cells (arr .i64 9 fun _ => 0) 25)).drew.setRow w8.heap.size (arr .i64 9 rr) := ⟨_, rfl⟩
      obtain ⟨g14, hg14⟩ : ∃ g14, g14 = w8.heap.size := ⟨_, rfl⟩
      rw [← hw9] at hS2 hA9
      rw [← hg14] at hA9
      rw [← hw9, ← hg14]
      have HP9 := Lib.hid (HP8.out.keep hS2)
      have hc19 := (hS2.cell (p := ⟨g10, 0, none⟩) (World.block_lt_of_cell? w8 _ hc18)).trans hc18
      clear hw9 hg14 hS2 HP8 hc18
      refine wpAnyH_done (by kernel_rfl) ?_ _
      go_upto_region 23 with fail
      obtain ⟨f, e5, hobj, hfe⟩ : ∃ (f : Nat → Int) (e5 : Int), (∀ W, Calls Tryd.prog 31 #[.int .u32 h, .agg (arr .i64 9 rr)] W fun e W' => e = .returned (.tuple #[.agg (arr .i64 18 f), .int .i64 e5]) ∧ Below W.heap.size W W') ∧ ((h < 2097152 ∧ e5 = 0 ∧ f = objF h rr) ∨ (2097152 ≤ h ∧ e5 = 2)) := by
        by_cases hs : h < 2097152
        · refine ⟨objF h rr, 0, fun W => (objectRef_any h (by have := HHr.out; omega) (by have := HHr.out; omega) rr W).mono fun e W' hp => ?_, .inl ⟨hs, rfl, rfl⟩⟩
          rcases hp.1 with ⟨_, he⟩ | ⟨hno, _⟩
          · exact ⟨he, hp.2⟩
          · omega
        · refine ⟨fun _ => 0, 2, fun W => (objectRef_any h (by have := HHr.out; omega) (by have := HHr.out; omega) rr W).mono fun e W' hp => ?_, .inr ⟨by omega, rfl⟩⟩
          rcases hp.1 with ⟨hno, _⟩ | ⟨_, he⟩
          · omega
          · exact ⟨he, hp.2⟩
      have HOb := Lib.hid hobj
      have HFe := Lib.hid hfe
      clear hobj hfe
      have hwu : IntKind.u32.wrap h = h := by rw [IntKind.wrap_u32]; have := HHr.out; omega
      have hsx : (Tryd.prog.info? 56).map (·.size) = some (arr .i64 18 f).size := by rw [arr_size]; exact st_size18
      go_cut [12, 15] (fun s12 s15 wx => ∃ g15, s15 = .pointer (some ⟨g15, 0, none⟩) ∧ s12 = .int .i64 e5 ∧ ObAt wx g15 f ∧ Below w9.heap.size w9 wx)
      case first =>
        have hz18 := st_zero18
        have hcq : ∀ W, Below w9.heap.size w9 W → W.cell? ⟨g10, 0, none⟩ = some (.int .i64 h) := fun W hW => (hW.cell (World.block_lt_of_cell? w9 _ hc19)).trans hc19
        refine wp_region_held_drew (S := fun W => Below w9.heap.size w9 W) (by kernel_rfl) (Below.refl _ _).drew (fun hHeld => ?_)
        refine wpAnyH_take (i := 0) (v := ?_) rfl (by kernel_rfl) (by kernel_rfl) (by kernel_rfl) (fun _ _ _ h => h) (Or.inl ⟨by rfl, ?_⟩) hHeld ?_
        rotate_left
        · (intro w hSw; go_simp; (try with_reducible rfl))
        simp only [Act.put, List.getElem_toArray, List.getElem_cons_zero, List.getElem_cons_succ, List.setIfInBounds_toArray, List.set_cons_zero, List.set_cons_succ]
        refine wpAnyH_take (i := 1) (v := ?_) rfl (by kernel_rfl) (by kernel_rfl) (by kernel_rfl) (fun _ _ _ h => h) (Or.inl ⟨by rfl, ?_⟩) hHeld ?_
        rotate_left
        · (intro w hSw; go_simp; (try with_reducible rfl))
        simp only [Act.put, List.getElem_toArray, List.getElem_cons_zero, List.getElem_cons_succ, List.setIfInBounds_toArray, List.set_cons_zero, List.set_cons_succ]
        refine wpAnyH_take (i := 2) (v := ?_) rfl (by kernel_rfl) (by kernel_rfl) (by kernel_rfl) (fun _ _ _ h => h) (Or.inl ⟨by rfl, ?_⟩) hHeld ?_
        rotate_left
        · (intro w hSw; go_simp; (try with_reducible rfl))
        simp only [Act.put, List.getElem_toArray, List.getElem_cons_zero, List.getElem_cons_succ, List.setIfInBounds_toArray, List.set_cons_zero, List.set_cons_succ]
        refine wpAnyH_take (i := 3) (v := ?_) rfl (by kernel_rfl) (by kernel_rfl) (by kernel_rfl) (fun _ _ _ h => h) (Or.inl ⟨by rfl, ?_⟩) hHeld ?_
        rotate_left
        · (intro w hSw; go_simp; (try with_reducible rfl))
        simp only [Act.put, List.getElem_toArray, List.getElem_cons_zero, List.getElem_cons_succ, List.setIfInBounds_toArray, List.set_cons_zero, List.set_cons_succ]
        refine wpAnyH_take (i := 4) (v := .agg (arr .i64 9 rr)) rfl (by kernel_rfl) (by kernel_rfl) (by kernel_rfl) (fun _ _ _ h => h) (yieldsIf_load (by rfl) 25 (.tmp 14) rfl g14 rfl (fun W hW => (hW.block g14 (Array.getElem?_eq_some_iff.1 hA9).1).trans hA9) Tryd.underlying25 st_size9) hHeld ?_
        simp only [Act.put, List.getElem_toArray, List.getElem_cons_zero, List.getElem_cons_succ, List.setIfInBounds_toArray, List.set_cons_zero, List.set_cons_succ]
        refine wpAnyH_ready (rs := [5, 9]) (by kernel_rfl) (by simp) ?_
        refine AllReadyH.cons rfl (fun K hK => ?_) (AllReadyH.cons rfl (fun K hK => ?_) AllReadyH.nil)
        all_goals simp only [List.getElem_toArray, List.getElem_cons_zero, List.getElem_cons_succ]
        all_goals go_simp
        · refine (HOb.out _).mono ?_
          rintro e w10 ⟨rfl, hb10⟩
          go_wp2_with fail
          have hH10 := keepB hb10 hHeld
          refine hK.out _ _ hH10 (fun _ => ?_)
          clear hK K
          try simp only [Act.put, List.setIfInBounds_toArray, List.set_cons_zero, List.set_cons_succ]
          replace hHeld := hH10
          refine wpAnyH_take (i := 6) (v := ?_) rfl (by kernel_rfl) (by kernel_rfl) (by kernel_rfl) (fun _ _ _ h => h) (Or.inl ⟨by rfl, ?_⟩) hHeld ?_
          rotate_left
          · (intro w hSw; go_simp; (try with_reducible rfl))
          simp only [Act.put, List.getElem_toArray, List.getElem_cons_zero, List.getElem_cons_succ, List.setIfInBounds_toArray, List.set_cons_zero, List.set_cons_succ]
          refine wpAnyH_take (i := 7) (v := ?_) rfl (by kernel_rfl) (by kernel_rfl) (by kernel_rfl) (fun _ _ _ h => h) (Or.inl ⟨by rfl, ?_⟩) hHeld ?_
          rotate_left
          · (intro w hSw; go_simp; (try with_reducible rfl))
          simp only [Act.put, List.getElem_toArray, List.getElem_cons_zero, List.getElem_cons_succ, List.setIfInBounds_toArray, List.set_cons_zero, List.set_cons_succ]
          refine wpAnyH_take (i := 8) (v := ?_) rfl (by kernel_rfl) (by kernel_rfl) (by kernel_rfl) (fun _ _ _ h => h) (Or.inl ⟨by rfl, ?_⟩) hHeld ?_
          rotate_left
          · (intro w hSw; go_simp; (try with_reducible rfl))
          simp only [Act.put, List.getElem_toArray, List.getElem_cons_zero, List.getElem_cons_succ, List.setIfInBounds_toArray, List.set_cons_zero, List.set_cons_succ]
          refine wpAnyH_ready (rs := [9]) (by kernel_rfl) (by simp) ?_
          refine AllReadyH.cons rfl (fun K hK => ?_) AllReadyH.nil
          simp only [List.getElem_toArray, List.getElem_cons_zero, List.getElem_cons_succ]
          go_simp
          have hS1 : Below w9.heap.size w9 (w10.alloc (.cells (arr .i64 18 fun _ => 0) 56)) := keepB ((Below.refl _ _).alloc (Nat.le_refl _) _) hHeld
          refine hK.out _ _ hS1 (fun _ => ?_)
          clear hK K
          try simp only [Act.put, List.setIfInBounds_toArray, List.set_cons_zero, List.set_cons_succ]
          have hnew : (w10.alloc (.cells (arr .i64 18 fun _ => 0) 56)).heap[w10.heap.size]? = some (.cells (arr .i64 18 fun _ => 0) 56 (0, 0)) := heap_alloc_new w10 _
          refine wpAnyH_ready (rs := [10]) (by kernel_rfl) (by simp) ?_
          refine AllReadyH.cons rfl (fun K hK => ?_) AllReadyH.nil
          simp only [List.getElem_toArray, List.getElem_cons_zero, List.getElem_cons_succ]
          refine wp_store_row 56 (.tmp 15) (.tmp 130) rfl w10.heap.size _ rfl rfl 56 _ hnew hsx (by rw [arr_size, arr_size]) (arr_one .i64 18 f) ?_
          have hS2 : Below w9.heap.size w9 ((w10.alloc (.cells (arr .i64 18 fun _ => 0) 56)).setRow w10.heap.size (arr .i64 18 f)) := below_setRow hS1 _ _ hHeld.size
          refine hK.out _ _ hS2 (fun _ => ?_)
          try simp only [Act.put, List.setIfInBounds_toArray, List.set_cons_zero, List.set_cons_succ]
          clear hK K
          replace hHeld := hS2
          refine wpAnyH_take (i := 11) (v := ?_) rfl (by kernel_rfl) (by kernel_rfl) (by kernel_rfl) (fun _ _ _ h => h) (Or.inl ⟨by rfl, ?_⟩) hHeld ?_
          rotate_left
          · (intro w hSw; go_simp; (try with_reducible rfl))
          simp only [Act.put, List.getElem_toArray, List.getElem_cons_zero, List.getElem_cons_succ, List.setIfInBounds_toArray, List.set_cons_zero, List.set_cons_succ]
          refine wpAnyH_done (by kernel_rfl) ?_ _
          go_step
          go_step
          go_meet
          exact ⟨w10.heap.size, rfl, rfl, setRow_heap _ _ _ _ _ _ hnew, hS2⟩
        · have hS1 : Below w9.heap.size w9 (w9.alloc (.cells (arr .i64 18 fun _ => 0) 56)).drew := ((Below.refl _ _).alloc (Nat.le_refl _) _).drew
          refine hK.out _ _ hS1 (fun _ => ?_)
          clear hK K
          try simp only [Act.put, List.setIfInBounds_toArray, List.set_cons_zero, List.set_cons_succ]
          have hnew : (w9.alloc (.cells (arr .i64 18 fun _ => 0) 56)).drew.heap[w9.heap.size]? = some (.cells (arr .i64 18 fun _ => 0) 56 (0, 0)) := heap_alloc_new w9 _
          refine wpAnyH_ready (rs := [5]) (by kernel_rfl) (by simp) ?_
          refine AllReadyH.cons rfl (fun K hK => ?_) AllReadyH.nil
          simp only [List.getElem_toArray, List.getElem_cons_zero, List.getElem_cons_succ]
          go_simp
          refine (HOb.out _).mono ?_
          rintro e w10 ⟨rfl, hb10⟩
          go_wp2_with fail
          have hH10 := keepB hb10 hS1
          have hnew := (hb10.block w9.heap.size (Array.getElem?_eq_some_iff.1 hnew).1).trans hnew
          refine hK.out _ _ hH10 (fun _ => ?_)
          clear hK K
          try simp only [Act.put, List.setIfInBounds_toArray, List.set_cons_zero, List.set_cons_succ]
          replace hHeld := hH10
          refine wpAnyH_take (i := 6) (v := ?_) rfl (by kernel_rfl) (by kernel_rfl) (by kernel_rfl) (fun _ _ _ h => h) (Or.inl ⟨by rfl, ?_⟩) hHeld ?_
          rotate_left
          · (intro w hSw; go_simp; (try with_reducible rfl))
          simp only [Act.put, List.getElem_toArray, List.getElem_cons_zero, List.getElem_cons_succ, List.setIfInBounds_toArray, List.set_cons_zero, List.set_cons_succ]
          refine wpAnyH_take (i := 7) (v := ?_) rfl (by kernel_rfl) (by kernel_rfl) (by kernel_rfl) (fun _ _ _ h => h) (Or.inl ⟨by rfl, ?_⟩) hHeld ?_
          rotate_left
          · (intro w hSw; go_simp; (try with_reducible rfl))
          simp only [Act.put, List.getElem_toArray, List.getElem_cons_zero, List.getElem_cons_succ, List.setIfInBounds_toArray, List.set_cons_zero, List.set_cons_succ]
          refine wpAnyH_take (i := 8) (v := ?_) rfl (by kernel_rfl) (by kernel_rfl) (by kernel_rfl) (fun _ _ _ h => h) (Or.inl ⟨by rfl, ?_⟩) hHeld ?_
          rotate_left
          · (intro w hSw; go_simp; (try with_reducible rfl))
          simp only [Act.put, List.getElem_toArray, List.getElem_cons_zero, List.getElem_cons_succ, List.setIfInBounds_toArray, List.set_cons_zero, List.set_cons_succ]
          refine wpAnyH_ready (rs := [10]) (by kernel_rfl) (by simp) ?_
          refine AllReadyH.cons rfl (fun K hK => ?_) AllReadyH.nil
          simp only [List.getElem_toArray, List.getElem_cons_zero, List.getElem_cons_succ]
          refine wp_store_row 56 (.tmp 15) (.tmp 130) rfl w9.heap.size _ rfl rfl 56 _ hnew hsx (by rw [arr_size, arr_size]) (arr_one .i64 18 f) ?_
          have hS2 : Below w9.heap.size w9 (w10.setRow w9.heap.size (arr .i64 18 f)) := below_setRow hH10 _ _ (Nat.le_refl _)
          refine hK.out _ _ hS2 (fun _ => ?_)
          try simp only [Act.put, List.setIfInBounds_toArray, List.set_cons_zero, List.set_cons_succ]
          clear hK K
          replace hHeld := hS2
          refine wpAnyH_take (i := 11) (v := ?_) rfl (by kernel_rfl) (by kernel_rfl) (by kernel_rfl) (fun _ _ _ h => h) (Or.inl ⟨by rfl, ?_⟩) hHeld ?_
          rotate_left
          · (intro w hSw; go_simp; (try with_reducible rfl))
          simp only [Act.put, List.getElem_toArray, List.getElem_cons_zero, List.getElem_cons_succ, List.setIfInBounds_toArray, List.set_cons_zero, List.set_cons_succ]
          refine wpAnyH_done (by kernel_rfl) ?_ _
          go_step
          go_step
          go_meet
          exact ⟨w9.heap.size, rfl, rfl, setRow_heap _ _ _ _ _ _ hnew, hS2⟩
      case rest =>
        obtain ⟨g15, rfl, rfl, hE, hb9⟩ := hcut
        have HPc := Lib.hid (HP9.out.keep hb9)
        clear HP9 hc19 hA9 hb9 hwu
        rcases HFe.out with ⟨hh2, he5, hff⟩ | ⟨hh2, he5⟩
        case inr =>
          subst he5
          have HR := Lib.hid (show parseS l = (sT0, 2) by
            have := HQ.out
            rw [pO_e4 ht1 HHr.out HMo.out hh2] at this
            simp only [Prod.mk.injEq] at this
            rw [HGo.out, ← this.2.2]; rfl)
          clear hh2 hE
          have hr9 := (HPc).out.r
          have hn9 := (HPc).out.n
          have hb9 := (HPc).out.b
          have hsz0 := st0_size
          have hone0 := st0_one
          go_wp2_with (first
            | (refine wpList_load_row rfl 29 (.tmp 4) rfl g4 rfl 29 _ (0, 0) _ hn9 Tryd.underlying29 rfl hsz0 ?_)
            | (refine wpList_store_row rfl 29 (.tmp 2) (.tmp 134) rfl g2 _ rfl rfl 29 st0 hr9 hsz0 rfl hone0 ?_))
          refine bodyPost_ret (v := .tuple #[.agg st0, .int .i64 2]) ?_ rfl ⟨st0, nilS, fun _ => nilS, by rw [HR.out], by rw [HR.out]; exact reads_0 _ _, below_setRow hb9 _ _ HPB.out.h2⟩
          exact results_cell_tmp (ty := 29) (p := 2) (q := 3) (by kernel_rfl) _ _ g2 29 _ (0, 0) _ rfl (setRow_heap _ _ _ _ _ _ hr9) Tryd.underlying29 rfl hsz0
        subst he5
        have HQ2 := Lib.hid (show pO m' (l.drop a2) (acc ++ [f]) = (os, r, e1) by
          have := HQ.out
          rw [pO_ok ht1 HHr.out HMo.out (by omega)] at this
          rw [hff, HRr.out, ← this, HDD.out, List.drop_drop, ← HA2.out])
        clear hh2 hff HFe HOb
        obtain ⟨Ao, no, co⟩ := O
        have hcs : wc.cell? ⟨g, 0, none⟩ = some (.slice Ao no co) := (HPc.out.a.cell 0).trans (stC_objs _ _ _ _)
        have hno : no ≤ 400 := by have : no = acc.length := HPc.out.on; omega
        have hgl := HPc.out.lt
        have hsx15 : (Tryd.prog.info? 56).map (·.size) = some (arr .i64 18 f).size := hsx
        have hbx : Below wc.heap.size wc (wc.alloc (.cells (arr .i64 18 f) 56)) := (Below.refl _ _).alloc (Nat.le_refl _) _
        have HPd := Lib.hid (HPc.out.keep hbx)
        have hod := HPd.out.o
        have hbd : g + 1 ≤ (wc.alloc (.cells (arr .i64 18 f) 56)).heap.size := HPd.out.lt
        have hEd : ObAt (wc.alloc (.cells (arr .i64 18 f) 56)) wc.heap.size f := heap_alloc_new _ _
        clear hbx
        go_wp2_with (first
          | (refine wpList_load_row rfl 56 (.tmp 15) rfl g15 rfl 56 _ (0, 0) _ hE Tryd.underlying56 rfl hsx15 ?_)
          | (refine wpList_buildSliceOf rfl (.tmp 138) rfl f rfl ?_)
          | (at_builtin; refine wpList_appO1 rfl (.tmp 137) (.tmp 139) rfl (g + 1) Ao no co acc rfl hod wc.heap.size 1 f rfl hEd (by omega) hbd ?_; intro A16 c16 w16 ho16 hg16; have hst16 := HPd.out.grownBox hg16; have hf16 := frozen_of_row w16 g 0 _ _ hst16; have hcs16 := (hst16.cell 0).trans (stC_objs _ _ _ _)))
        have hno1 : no = acc.length := HPc.out.on
        have HP16 := Lib.hid (HPd.out.grown HPB.out hg16 (fun z _ => ⟨rfl, rfl⟩) (O' := ⟨A16, no + 1, c16⟩) (os := acc ++ [f]) ho16 (by rw [List.length_append, hno1]; rfl))
        have hla : (acc ++ [f]).length + m' ≤ 400 := by rw [List.length_append]; simp; omega
        clear hst16 hf16 hcs16 hg16 ho16 hod hEd hbd HPd
        go_roundw
        case rel => exact ⟨m', a2, acc ++ [f], ⟨A16, no + 1, c16⟩, rfl, rfl, by omega, ha2l, hla, HQ2, HP16⟩
        case measure => simp [intOf]
    · obtain rfl : m = 0 := by omega
      have hq := HQ.out
      simp only [pO, Prod.mk.injEq] at hq
      obtain ⟨rfl, hr, rfl⟩ := hq
      rcases HAll.out with ⟨_, _, h1⟩ | ⟨_, hbr, ns, hns, _, hok, _⟩
      · exact absurd rfl h1
      rw [List.nil_append] at hns
      subst hns
      rw [← hr] at HGo
      have HG3 := Lib.hid (show parseS l = parse2 acc (l.drop a) by rw [HGo.out]; rfl)
      have HOk := Lib.hid hok
      clear hr hbr hok HAll HQ HGo hm0
      obtain ⟨L', r2, e3, hu⟩ : ∃ L' r2 e3, pL 11 0 (l.drop a) (fun _ => []) = (L', r2, e3) := ⟨_, _, _, rfl⟩
      have HG4 := Lib.hid (show parseS l = if e3 ≠ 0 then (sT0, e3) else parse3 acc L' r2 by rw [HG3.out, parse2_go hu])
      have HU0 := Lib.hid (show pL (11 - 0) 0 (l.drop a) (fun _ => []) = (L', r2, e3) from hu)
      have HU := Lib.hid hu
      have HByA := Lib.hid (byB_drop a HB.out)
      clear hu HG3
      rw [show ((0 : Nat) : Int) = 0 from rfl]
      go_upto_region 28 with fail
      go_loopw [7, 16] (fun at_ i wr => ∃ z a Ls Lp, i = .int .i64 ((z : Nat) : Int) ∧ at_ = .int .i64 ((a : Nat) : Int) ∧ z ≤ 11 ∧ a ≤ l.length ∧ Hid (pL (11 - z) z (l.drop a) Ls = (L', r2, e3)) ∧ Hid (PW w g2 g4 g ⟨acc, Ls, fun _ => 0, fun _ => 0⟩ O Lp wr) ∧ Hid (∀ y, (Ls y).length ≤ 1000000)) (fun _ i _ => 11 - (intOf i).toNat)
      case atStart => exact ⟨0, a, fun _ => [], fun _ => nilS, rfl, rfl, by omega, ha, HU0, HP, fun _ => Nat.zero_le _⟩
      case round =>
        clear HP HU0 ha
        obtain ⟨z, a', Ls, Lp, rfl, rfl, hz, ha, HQ, HP, HLn⟩ := hrel
        by_cases hz11 : z < 11
        · have hdz : decide ((z : Int) < 11) = true := by simp; omega
          have p0 : (0 : Int) ≤ (z : Int) := by omega
          have p1 : (z : Int) < 11 := by omega
          have hNr := HN.out.below HP.out.b
          have hsr := HP.out.b.size
          obtain ⟨A2, hsl, hN2⟩ := cut_from (P := Tryd.prog) hNr hc ha 30 (by kernel_rfl) (fun _ => by kernel_rfl)
          obtain ⟨x, k1, e2, ht1⟩ : ∃ x k1 e2, tl (l.drop a') 400 = (x, k1, e2) := ⟨_, _, _, rfl⟩
          have htk := takeListRef_gen A2 (l.length - a') (c - a') (l.drop a') 400 wr w.heap.size hN2 (by omega) (byB_drop a' HB.out) hsr (by omega) _ ht1
          have hgl := HP.out.lt
          rcases tl_range (byB_drop a' HB.out) 400 ht1 with ⟨hx0, hk0, he⟩ | ⟨rfl, hk1, hxi, hlx⟩
          · subst hx0 hk0
            have hne : e2 ≠ 0 := by omega
            have h0 : (e2 != 0) = true := by rw [bne_iff_ne]; exact hne
            have HR := Lib.hid (show parseS l = (sT0, e2) by
              have := HQ.out
              rw [show 11 - z = (10 - z) + 1 by omega, pL_bad ht1 hne] at this
              simp only [Prod.mk.injEq] at this
              rw [HG4.out, if_pos (by rw [← this.2.2]; exact hne), this.2.2])
            clear hne he
            go_wp2_with fail
            refine htk.mono ?_
            rintro e w8 ⟨A8, m8, c8, rfl, _, hb8⟩
            have HP2 := Lib.hid (HP.out.keep hb8)
            clear htk hb8 HP
            have hr9 := (HP2).out.r
            have hn9 := (HP2).out.n
            have hb9 := (HP2).out.b
            have hsz0 := st0_size
            have hone0 := st0_one
            go_wp2_with (first
              | (refine wpList_load_row rfl 29 (.tmp 4) rfl g4 rfl 29 _ (0, 0) _ hn9 Tryd.underlying29 rfl hsz0 ?_)
              | (refine wpList_store_row rfl 29 (.tmp 2) (.tmp 156) rfl g2 _ rfl rfl 29 st0 hr9 hsz0 rfl hone0 ?_))
            refine bodyPost_ret (v := .tuple #[.agg st0, .int .i64 e2]) ?_ rfl ⟨st0, nilS, fun _ => nilS, by rw [HR.out], by rw [HR.out]; exact reads_0 _ _, below_setRow hb9 _ _ HPB.out.h2⟩
            exact results_cell_tmp (ty := 29) (p := 2) (q := 3) (by kernel_rfl) _ _ g2 29 _ (0, 0) _ rfl (setRow_heap _ _ _ _ _ _ hr9) Tryd.underlying29 rfl hsz0
          rw [List.length_drop] at hk1
          have HLn2 := Lib.hid (show ∀ y, ((fun i => if i = z then x else Ls i) y).length ≤ 1000000 from fun y => by
            by_cases e : y = z
            · simp only [if_pos e]
              have h1 := congrArg List.length hlx
              rw [List.length_append, List.length_drop, lst, List.length_append] at h1
              have := flat_posC x
              omega
            · simp only [if_neg e]; exact HLn.out y)
          clear hlx
          have HQ2 := Lib.hid (show pL (11 - (z + 1)) (z + 1) (l.drop (a' + k1)) (fun i => if i = z then x else Ls i) = (L', r2, e3) by
            have := HQ.out
            rw [show 11 - z = (11 - (z + 1)) + 1 by omega, pL_ok ht1, List.drop_drop] at this
            exact this)
          go_wp2_with fail
          refine htk.mono ?_
          rintro e w8 ⟨A8, m8, c8, rfl, ho8, hb8⟩
          have HP8 := Lib.hid (HP.out.keep hb8)
          have hcs8 := (HP8.out.a.cell (1 + z)).trans (stC_list _ _ _ _ hz11)
          have hf8 := frozen_of_row w8 g (1 + z) _ _ HP8.out.a
          have HPs := Lib.hid (HP8.out.setList HPB.out hz11 (x := ⟨A8, m8, c8⟩) (l := x) (ho8.base_le (show g + 1 ≤ wr.heap.size from hgl)).slR)
          clear htk hsl hN2 hNr hsr ho8 hb8 HP
          go_wp2_with fail
          clear hcs8 hf8
          go_roundw
          case rel => exact ⟨z + 1, a' + k1, _, _, by go_num, by go_num, by omega, by omega, HQ2, HPs, HLn2⟩
          case measure => simp [intOf]; omega
        · obtain rfl : z = 11 := by omega
          have hq := HQ.out
          simp only [Nat.sub_self, pL, Prod.mk.injEq] at hq
          obtain ⟨rfl, hr, rfl⟩ := hq
          subst hr
          have HG5 := Lib.hid (show parseS l = parse3 acc Ls (l.drop a') by rw [HG4.out]; rfl)
          have HLi := Lib.hid (pL_i64 HByA.out HU.out).2.1
          clear HG4 HQ HU HByA hz11
          rw [show ((11 : Nat) : Int) = 11 from rfl]
          have hNr := HN.out.below HP.out.b
          have hsr := HP.out.b.size
          obtain ⟨A2, hsl, hN2⟩ := cut_from (P := Tryd.prog) hNr hc ha 30 (by kernel_rfl) (fun _ => by kernel_rfl)
          obtain ⟨x, k2, e3, hmo⟩ : ∃ x k2 e3, more 25 (l.drop a') 0 [] = (x, k2, e3) := ⟨_, _, _, rfl⟩
          have hnum := numbers_any A2 (l.length - a') (c - a') (l.drop a') 25 wr w.heap.size hN2 (by omega) (byB_drop a' HB.out) hsr (by omega) (by omega) _ hmo
          rw [show ((25 : Nat) : Int) = 25 from rfl] at hnum
          have hgl := HP.out.lt
          rcases more_is (byB_drop a' HB.out) hmo with ⟨hx0, hk0, he3⟩ | ⟨rfl, hk2, hx25, hxi⟩
          · subst hx0 hk0
            have hne : e3 ≠ 0 := by omega
            have h0 : (e3 != 0) = true := by rw [bne_iff_ne]; exact hne
            have HR := Lib.hid (show parseS l = (sT0, e3) by rw [HG5.out]; exact parse3_e1 hmo hne)
            clear hne he3
            go_wp2_with fail
            refine hnum.mono ?_
            rintro e w8 ⟨A8, m8, c8, rfl, _, hb8⟩
            have HP2 := Lib.hid (HP.out.keep hb8)
            clear hnum hb8 HP
            have hr9 := (HP2).out.r
            have hn9 := (HP2).out.n
            have hb9 := (HP2).out.b
            have hsz0 := st0_size
            have hone0 := st0_one
            go_wp2_with (first
              | (refine wpList_load_row rfl 29 (.tmp 4) rfl g4 rfl 29 _ (0, 0) _ hn9 Tryd.underlying29 rfl hsz0 ?_)
              | (refine wpList_store_row rfl 29 (.tmp 2) (.tmp 175) rfl g2 _ rfl rfl 29 st0 hr9 hsz0 rfl hone0 ?_))
            refine bodyPost_ret (v := .tuple #[.agg st0, .int .i64 e3]) ?_ rfl ⟨st0, nilS, fun _ => nilS, by rw [HR.out], by rw [HR.out]; exact reads_0 _ _, below_setRow hb9 _ _ HPB.out.h2⟩
            exact results_cell_tmp (ty := 29) (p := 2) (q := 3) (by kernel_rfl) _ _ g2 29 _ (0, 0) _ rfl (setRow_heap _ _ _ _ _ _ hr9) Tryd.underlying29 rfl hsz0
          have HMo := Lib.hid hmo
          have HXi := Lib.hid hxi
          have hk2' : k2 ≤ l.length - a' := by rw [List.length_drop] at hk2; exact hk2
          clear hmo hxi
          go_wp2_with fail
          refine hnum.mono ?_
          rintro e w8 ⟨A8, m8, c8, rfl, ho8, hb8⟩
          have HP8 := Lib.hid (HP.out.keep hb8)
          obtain rfl : m8 = 25 := by have h9 : x.length = m8 := ho8.len; omega
          obtain ⟨g20, rfl, hg20, _, hc8⟩ := own_cells ho8 (by omega)
          have HC0 := Lib.hid hc8
          have hgne : g20 ≠ g := by omega
          have HPl0 := Lib.hid (show ∀ j, j < 0 → (fun _ => (0 : Int)) j = x.getD j 0 ∧ (fun _ => (0 : Int)) (9 + j) = x.getD (9 + j) 0 from fun j hj => absurd hj (by omega))
          clear hnum hsl hN2 hNr hsr ho8 hb8 HP hc8
          go_upto_region 39 with fail
          go_loopw [22] (fun i wr => ∃ (k : Nat) (pl : Nat → Int), i = .int .i64 ((k : Nat) : Int) ∧ k ≤ 9 ∧ Hid (PW w g2 g4 g ⟨acc, Ls, pl, fun _ => 0⟩ O Lp wr) ∧ Hid (∀ i (hi : i < x.length), wr.cell? ⟨g20, i, none⟩ = some (.int .i64 x[i])) ∧ Hid (∀ j, j < k → pl j = x.getD j 0 ∧ pl (9 + j) = x.getD (9 + j) 0)) (fun i _ => 9 - (intOf i).toNat)
          case atStart => exact ⟨0, fun _ => 0, rfl, by omega, HP8, HC0, HPl0⟩
          case round =>
            clear HP8 HC0 HPl0
            obtain ⟨j, pl, rfl, hj, HP, HC, HPl⟩ := hrel
            by_cases hj9 : j < 9
            · have hdj : decide ((j : Int) < 9) = true := by simp; omega
              have p0 : (0 : Int) ≤ (j : Int) := by omega
              have p1 : (j : Int) < 25 := by omega
              have p2 : (j : Int) < 9 := by omega
              obtain ⟨q, hq⟩ : ∃ q, q = 9 + j := ⟨_, rfl⟩
              have hwq : IntKind.i64.wrap (9 + (j : Int)) = (q : Int) := by rw [i64_in (by omega) (by omega)]; omega
              have q0 : (0 : Int) ≤ (q : Int) := by omega
              have q1 : (q : Int) < 25 := by omega
              obtain ⟨y, hy⟩ : ∃ y, y = x[j]'(by omega) := ⟨_, rfl⟩
              obtain ⟨v, hv⟩ : ∃ v, v = x[q]'(by omega) := ⟨_, rfl⟩
              have cy : ∀ W, SPl w g2 g4 g acc Ls (fun _ => 0) O Lp g20 x W → W.cell? ⟨g20, j, none⟩ = some (.int .i64 y) := fun W hW => by rw [hy]; exact hW.c j (by omega)
              have cv : ∀ W, SPl w g2 g4 g acc Ls (fun _ => 0) O Lp g20 x W → W.cell? ⟨g20, q, none⟩ = some (.int .i64 v) := fun W hW => by rw [hv]; exact hW.c q (by omega)
              have HQj := Lib.hid (show q = 9 + j ∧ y = x.getD j 0 ∧ v = x.getD (9 + j) 0 from ⟨hq, by rw [hy, List.getD_eq_getElem?_getD, List.getElem?_eq_getElem (by omega), Option.getD_some], by rw [hv, ← hq, List.getD_eq_getElem?_getD, List.getElem?_eq_getElem (by omega), Option.getD_some]⟩)
              clear hq hy hv
              have HP2 := Lib.hid (HP.out.setPl HPB.out (show j < 18 by omega) y)
              have HP3 := Lib.hid (HP2.out.setPl HPB.out (show q < 18 by have := HQj.out.1; omega) v)
              have hC2 := cells_set HC.out hgne (12 + j) (.int .i64 y)
              have hC3 := cells_set hC2 hgne (12 + q) (.int .i64 v)
              have hS1 : SPl w g2 g4 g acc Ls (fun _ => 0) O Lp g20 x wr.drew := ⟨⟨_, HP.out.drew⟩, fun i hi => HC.out i hi⟩
              have hS2 : SPl w g2 g4 g acc Ls (fun _ => 0) O Lp g20 x (wr.setCell ⟨g, 12 + j, none⟩ (.int .i64 y)).drew := ⟨⟨_, HP2.out.drew⟩, fun i hi => hC2 i hi⟩
              have hS3 : SPl w g2 g4 g acc Ls (fun _ => 0) O Lp g20 x ((wr.setCell ⟨g, 12 + j, none⟩ (.int .i64 y)).setCell ⟨g, 12 + q, none⟩ (.int .i64 v)).drew := ⟨⟨_, HP3.out.drew⟩, fun i hi => hC3 i hi⟩
              have HP4 := Lib.hid HP3.out.drew
              have HC4 := Lib.hid hS3.c
              have HPl2 := Lib.hid (show ∀ j', j' < j + 1 → updI (updI pl j y) q v j' = x.getD j' 0 ∧ updI (updI pl j y) q v (9 + j') = x.getD (9 + j') 0 from fun j' hj' => by
                obtain ⟨e1, e2, e3⟩ := HQj.out
                by_cases e : j' = j
                · subst e
                  simp only [updI]
                  rw [if_neg (by omega), if_pos trivial, if_pos (by omega)]
                  exact ⟨e2, e3⟩
                · have := HPl.out j' (by omega)
                  simp only [updI]
                  rw [if_neg (by omega), if_neg (by omega), if_neg (by omega), if_neg (by omega)]
                  exact this)
              have c1 := (HP.out.a.cell (12 + j)).trans (stC_pl _ _ _ _ (by omega))
              have f1 := frozen_of_row wr g (12 + j) _ _ HP.out.a
              have c2 := (HP2.out.a.cell (12 + q)).trans (stC_pl _ _ _ _ (by have := HQj.out.1; omega))
              have f2 := frozen_of_row (wr.setCell ⟨g, 12 + j, none⟩ (.int .i64 y)) g (12 + q) _ _ HP2.out.a
              have eq9 : 12 + q = 21 + j := by have := HQj.out.1; omega
              rw [eq9] at c2 f2 hS3 HP4 HC4
              clear eq9 HP3 hC3
              go_upto_region 41 with fail
              refine wp_region_held_drew (S := SPl w g2 g4 g acc Ls (fun _ => 0) O Lp g20 x) (by kernel_rfl) hS1 (fun hHeld => ?_)
              refine wpAnyH_take (i := 0) (v := ?_) rfl (by kernel_rfl) (by kernel_rfl) (by kernel_rfl) (fun _ _ _ h => h) (Or.inl ⟨by rfl, ?_⟩) hHeld ?_
              rotate_left
              · (intro w hSw; go_simp; (try with_reducible rfl))
              simp only [Act.put, List.getElem_toArray, List.getElem_cons_zero, List.getElem_cons_succ, List.setIfInBounds_toArray, List.set_cons_zero, List.set_cons_succ]
              refine wpAnyH_take (i := 1) (v := ?_) rfl (by kernel_rfl) (by kernel_rfl) (by kernel_rfl) (fun _ _ _ h => h) (Or.inl ⟨by rfl, ?_⟩) hHeld ?_
              rotate_left
              · (intro w hSw; go_simp; (try with_reducible rfl))
              simp only [Act.put, List.getElem_toArray, List.getElem_cons_zero, List.getElem_cons_succ, List.setIfInBounds_toArray, List.set_cons_zero, List.set_cons_succ]
              refine wpAnyH_take (i := 2) (v := ?_) rfl (by kernel_rfl) (by kernel_rfl) (by kernel_rfl) (fun _ _ _ h => h) (Or.inl ⟨by rfl, ?_⟩) hHeld ?_
              rotate_left
              · (intro w hSw; go_simp; (try with_reducible rfl))
              simp only [Act.put, List.getElem_toArray, List.getElem_cons_zero, List.getElem_cons_succ, List.setIfInBounds_toArray, List.set_cons_zero, List.set_cons_succ]
              refine wpAnyH_take (i := 3) (v := ?_) rfl (by kernel_rfl) (by kernel_rfl) (by kernel_rfl) (fun _ _ _ h => h) (Or.inl ⟨by rfl, ?_⟩) hHeld ?_
              rotate_left
              · (intro w hSw; go_simp; (try with_reducible rfl))
              simp only [Act.put, List.getElem_toArray, List.getElem_cons_zero, List.getElem_cons_succ, List.setIfInBounds_toArray, List.set_cons_zero, List.set_cons_succ]
              refine wpAnyH_take (i := 4) (v := ?_) rfl (by kernel_rfl) (by kernel_rfl) (by kernel_rfl) (fun _ _ _ h => h) (Or.inl ⟨by rfl, ?_⟩) hHeld ?_
              rotate_left
              · (intro w hSw; go_simp; (try with_reducible rfl))
              simp only [Act.put, List.getElem_toArray, List.getElem_cons_zero, List.getElem_cons_succ, List.setIfInBounds_toArray, List.set_cons_zero, List.set_cons_succ]
              refine wpAnyH_take (i := 5) (v := ?_) rfl (by kernel_rfl) (by kernel_rfl) (by kernel_rfl) (fun _ _ _ h => h) (Or.inl ⟨by rfl, ?_⟩) hHeld ?_
              rotate_left
              · (intro w hSw; go_simp; (try with_reducible rfl))
              simp only [Act.put, List.getElem_toArray, List.getElem_cons_zero, List.getElem_cons_succ, List.setIfInBounds_toArray, List.set_cons_zero, List.set_cons_succ]
              refine wpAnyH_take (i := 6) (v := ?_) rfl (by kernel_rfl) (by kernel_rfl) (by kernel_rfl) (fun _ _ _ h => h) (Or.inl ⟨by rfl, ?_⟩) hHeld ?_
              rotate_left
              · (intro w hSw; go_simp; (try with_reducible rfl))
              simp only [Act.put, List.getElem_toArray, List.getElem_cons_zero, List.getElem_cons_succ, List.setIfInBounds_toArray, List.set_cons_zero, List.set_cons_succ]
              refine wpAnyH_take (i := 7) (v := ?_) rfl (by kernel_rfl) (by kernel_rfl) (by kernel_rfl) (fun _ _ _ h => h) (Or.inl ⟨by rfl, ?_⟩) hHeld ?_
              rotate_left
              · (intro w hSw; go_simp; (try with_reducible rfl))
              simp only [Act.put, List.getElem_toArray, List.getElem_cons_zero, List.getElem_cons_succ, List.setIfInBounds_toArray, List.set_cons_zero, List.set_cons_succ]
              refine wpAnyH_take (i := 8) (v := ?_) rfl (by kernel_rfl) (by kernel_rfl) (by kernel_rfl) (fun _ _ _ h => h) (Or.inl ⟨by rfl, ?_⟩) hHeld ?_
              rotate_left
              · (intro w hSw; go_simp; (try with_reducible rfl))
              simp only [Act.put, List.getElem_toArray, List.getElem_cons_zero, List.getElem_cons_succ, List.setIfInBounds_toArray, List.set_cons_zero, List.set_cons_succ]
              refine wpAnyH_take (i := 9) (v := ?_) rfl (by kernel_rfl) (by kernel_rfl) (by kernel_rfl) (fun _ _ _ h => h) (Or.inl ⟨by rfl, ?_⟩) hHeld ?_
              rotate_left
              · (intro w hSw; go_simp; (try with_reducible rfl))
              simp only [Act.put, List.getElem_toArray, List.getElem_cons_zero, List.getElem_cons_succ, List.setIfInBounds_toArray, List.set_cons_zero, List.set_cons_succ]
              refine wpAnyH_take (i := 10) (v := ?_) rfl (by kernel_rfl) (by kernel_rfl) (by kernel_rfl) (fun _ _ _ h => h) (Or.inl ⟨by rfl, ?_⟩) hHeld ?_
              rotate_left
              · (intro w hSw; go_simp; (try with_reducible rfl))
              simp only [Act.put, List.getElem_toArray, List.getElem_cons_zero, List.getElem_cons_succ, List.setIfInBounds_toArray, List.set_cons_zero, List.set_cons_succ]
              refine wpAnyH_take (i := 11) (v := ?_) rfl (by kernel_rfl) (by kernel_rfl) (by kernel_rfl) (fun _ _ _ h => h) (Or.inl ⟨by rfl, ?_⟩) hHeld ?_
              rotate_left
              · (intro w hSw; go_simp; (try with_reducible rfl))
              simp only [Act.put, List.getElem_toArray, List.getElem_cons_zero, List.getElem_cons_succ, List.setIfInBounds_toArray, List.set_cons_zero, List.set_cons_succ]
              refine wpAnyH_take (i := 12) (v := ?_) rfl (by kernel_rfl) (by kernel_rfl) (by kernel_rfl) (fun _ _ _ h => h) (Or.inl ⟨by rfl, ?_⟩) hHeld ?_
              rotate_left
              · (intro w hSw; go_simp; (try with_reducible rfl))
              simp only [Act.put, List.getElem_toArray, List.getElem_cons_zero, List.getElem_cons_succ, List.setIfInBounds_toArray, List.set_cons_zero, List.set_cons_succ]
              refine wpAnyH_take (i := 13) (v := ?_) rfl (by kernel_rfl) (by kernel_rfl) (by kernel_rfl) (fun _ _ _ h => h) (Or.inl ⟨by rfl, ?_⟩) hHeld ?_
              rotate_left
              · (intro w hSw; go_simp; (try with_reducible rfl))
              simp only [Act.put, List.getElem_toArray, List.getElem_cons_zero, List.getElem_cons_succ, List.setIfInBounds_toArray, List.set_cons_zero, List.set_cons_succ]
              refine wpAnyH_take (i := 15) (v := ?_) rfl (by kernel_rfl) (by kernel_rfl) (by kernel_rfl) (fun _ _ _ h => h) (Or.inl ⟨by rfl, ?_⟩) hHeld ?_
              rotate_left
              · (intro w hSw; go_simp; (try with_reducible rfl))
              simp only [Act.put, List.getElem_toArray, List.getElem_cons_zero, List.getElem_cons_succ, List.setIfInBounds_toArray, List.set_cons_zero, List.set_cons_succ]
              refine wpAnyH_take (i := 16) (v := ?_) rfl (by kernel_rfl) (by kernel_rfl) (by kernel_rfl) (fun _ _ _ h => h) (Or.inl ⟨by rfl, ?_⟩) hHeld ?_
              rotate_left
              · (intro w hSw; go_simp; (try with_reducible rfl))
              simp only [Act.put, List.getElem_toArray, List.getElem_cons_zero, List.getElem_cons_succ, List.setIfInBounds_toArray, List.set_cons_zero, List.set_cons_succ]
              refine wpAnyH_ready (rs := [14]) (by kernel_rfl) (by simp) ?_
              refine AllReadyH.cons rfl (fun K hK => ?_) AllReadyH.nil
              simp only [List.getElem_toArray, List.getElem_cons_zero, List.getElem_cons_succ]
              go_simp
              refine hK.out _ _ hS2 (fun _ => ?_)
              clear hK K
              try simp only [Act.put, List.setIfInBounds_toArray, List.set_cons_zero, List.set_cons_succ]
              replace hHeld := hS2
              refine wpAnyH_take (i := 17) (v := ?_) rfl (by kernel_rfl) (by kernel_rfl) (by kernel_rfl) (fun _ _ _ h => h) (Or.inl ⟨by rfl, ?_⟩) hHeld ?_
              rotate_left
              · (intro w hSw; go_simp; (try with_reducible rfl))
              simp only [Act.put, List.getElem_toArray, List.getElem_cons_zero, List.getElem_cons_succ, List.setIfInBounds_toArray, List.set_cons_zero, List.set_cons_succ]
              refine wpAnyH_ready (rs := [18]) (by kernel_rfl) (by simp) ?_
              refine AllReadyH.cons rfl (fun K hK => ?_) AllReadyH.nil
              simp only [List.getElem_toArray, List.getElem_cons_zero, List.getElem_cons_succ]
              go_simp
              refine hK.out _ _ hS3 (fun _ => ?_)
              try simp only [Act.put, List.setIfInBounds_toArray, List.set_cons_zero, List.set_cons_succ]
              clear hK K c1 f1 c2 f2 cy cv hHeld hS1 hS2 hS3 hC2
              refine wpAnyH_done (by kernel_rfl) ?_ _
              go_wp2_with fail
              go_roundw
              case rel => exact ⟨j + 1, _, by go_num, by omega, HP4, HC4, HPl2⟩
              case measure => simp [intOf]; omega
            · obtain rfl : j = 9 := by omega
              rw [show ((9 : Nat) : Int) = 9 from rfl]
              have HPl9 := Lib.hid (show ∀ i, i < 18 → pl i = x.getD i 0 from fun i hi => by
                by_cases e : i < 9
                · exact (HPl.out i e).1
                · have := (HPl.out (i - 9) (by omega)).2
                  rw [show 9 + (i - 9) = i by omega] at this
                  exact this)
              have HG0 := Lib.hid (show ∀ j, j < 0 → (fun _ => (0 : Int)) j = x.getD (18 + j) 0 from fun j hj => absurd hj (by omega))
              clear HPl hj9
              go_upto_region 43 with fail
              go_loopw [23] (fun i wr => ∃ (k : Nat) (gm : Nat → Int), i = .int .i64 ((k : Nat) : Int) ∧ k ≤ 7 ∧ Hid (PW w g2 g4 g ⟨acc, Ls, pl, gm⟩ O Lp wr) ∧ Hid (∀ i (hi : i < x.length), wr.cell? ⟨g20, i, none⟩ = some (.int .i64 x[i])) ∧ Hid (∀ j, j < k → gm j = x.getD (18 + j) 0)) (fun i _ => 7 - (intOf i).toNat)
              case atStart => exact ⟨0, fun _ => 0, rfl, by omega, HP, HC, HG0⟩
              case round =>
                clear HP HC HG0
                obtain ⟨j, gm, rfl, hj, HP, HC, HGm⟩ := hrel
                by_cases hj7 : j < 7
                · have hdj : decide ((j : Int) < 7) = true := by simp; omega
                  have p0 : (0 : Int) ≤ (j : Int) := by omega
                  have p1 : (j : Int) < 7 := by omega
                  obtain ⟨q, hq⟩ : ∃ q, q = 18 + j := ⟨_, rfl⟩
                  have hwq : IntKind.i64.wrap (18 + (j : Int)) = (q : Int) := by rw [i64_in (by omega) (by omega)]; omega
                  have q0 : (0 : Int) ≤ (q : Int) := by omega
                  have q1 : (q : Int) < 25 := by omega
                  have hcq := HC.out q (by omega)
                  obtain ⟨v, hv⟩ : ∃ v, v = x[q]'(by omega) := ⟨_, rfl⟩
                  rw [← hv] at hcq
                  have HVq := Lib.hid (show v = x.getD (18 + j) 0 by rw [hv, ← hq, List.getD_eq_getElem?_getD, List.getElem?_eq_getElem (by omega), Option.getD_some])
                  clear hq hv
                  have c1 := (HP.out.a.cell (30 + j)).trans (stC_gm _ _ _ _ hj7)
                  have f1 := frozen_of_row wr g (30 + j) _ _ HP.out.a
                  have HP2 := Lib.hid (HP.out.setGm HPB.out hj7 v)
                  have HC2 := Lib.hid (cells_set HC.out hgne (30 + j) (.int .i64 v))
                  have HGm2 := Lib.hid (show ∀ j', j' < j + 1 → updI gm j v j' = x.getD (18 + j') 0 from fun j' hj' => by
                    by_cases e : j' = j
                    · subst e; simp only [updI]; rw [if_pos trivial]; exact HVq.out
                    · simp only [updI]; rw [if_neg e]; exact HGm.out j' (by omega))
                  go_wp2_with fail
                  clear c1 f1 hcq
                  go_roundw
                  case rel => exact ⟨j + 1, _, by go_num, by omega, HP2, HC2, HGm2⟩
                  case measure => simp [intOf]; omega
                · obtain rfl : j = 7 := by omega
                  rw [show ((7 : Nat) : Int) = 7 from rfl]
                  have HPm := Lib.hid (show PW w g2 g4 g (mkS acc Ls x) O Lp wr from HP.out.congr (fun i hi => HPl9.out i hi) (fun i hi => HGm.out i hi))
                  have hwa : IntKind.i64.wrap ((a' : Int) + (k2 : Int)) = ((a' + k2 : Nat) : Int) := by rw [i64_in (by omega) (by omega)]; omega
                  obtain ⟨b, hb⟩ : ∃ b, b = a' + k2 := ⟨_, rfl⟩
                  rw [← hb] at hwa
                  have HBb := Lib.hid hb
                  clear hb hj7 HP HC HGm HPl9
                  by_cases hbl : b < l.length
                  · have dl : decide (b < l.length) = true := decide_eq_true hbl
                    have HR := Lib.hid (show parseS l = (sT0, 3) by
                      rw [HG5.out]
                      exact parse3_e2 HMo.out (by rw [List.length_drop]; have := HBb.out; omega))
                    clear hbl
                    have hr9 := (HPm).out.r
                    have hn9 := (HPm).out.n
                    have hb9 := (HPm).out.b
                    have hsz0 := st0_size
                    have hone0 := st0_one
                    go_wp2_with (first
                      | (refine wpList_load_row rfl 29 (.tmp 4) rfl g4 rfl 29 _ (0, 0) _ hn9 Tryd.underlying29 rfl hsz0 ?_)
                      | (refine wpList_store_row rfl 29 (.tmp 2) (.tmp 216) rfl g2 _ rfl rfl 29 st0 hr9 hsz0 rfl hone0 ?_))
                    refine bodyPost_ret (v := .tuple #[.agg st0, .int .i64 3]) ?_ rfl ⟨st0, nilS, fun _ => nilS, by rw [HR.out], by rw [HR.out]; exact reads_0 _ _, below_setRow hb9 _ _ HPB.out.h2⟩
                    exact results_cell_tmp (ty := 29) (p := 2) (q := 3) (by kernel_rfl) _ _ g2 29 _ (0, 0) _ rfl (setRow_heap _ _ _ _ _ _ hr9) Tryd.underlying29 rfl hsz0
                  have dl : decide (b < l.length) = false := decide_eq_false hbl
                  have hnk : ¬ k2 < (l.drop a').length := by rw [List.length_drop]; have := HBb.out; omega
                  have HNk := Lib.hid hnk
                  clear hbl hnk
                  have hoI : ∀ o ∈ (mkS acc Ls x).objs, ∀ i < 18, N64 (o i) := fun o ho i hi => (HOk.out o ho).2 i hi
                  have hlI : ∀ z < 11, ∀ n ∈ (mkS acc Ls x).lists z, N64 n := fun z hz n hn => HLi.out z hz n hn
                  have hxI : ∀ i, i < 25 → N64 (x.getD i 0) := fun i hi => by
                    rw [List.getD_eq_getElem?_getD, List.getElem?_eq_getElem (by omega), Option.getD_some]
                    exact HXi.out _ (List.getElem_mem _)
                  have hpI : ∀ i < 18, N64 ((mkS acc Ls x).pl i) := fun i hi => hxI i (by omega)
                  have hgI : ∀ i < 7, N64 ((mkS acc Ls x).gm i) := fun i hi => hxI (18 + i) (by omega)
                  have HI := Lib.hid (show _ ∧ _ ∧ _ ∧ _ from ⟨hoI, hlI, hpI, hgI⟩)
                  have hck := st_checkRef_any (mkS acc Ls x) O Lp _ wr wr.heap.size (HPm.out.reads hoI hlI hpI hgI) (Nat.le_refl _) (show acc.length ≤ 1000000 by omega) (fun z _ => HLn.out z)
                  have HRd := Lib.hid (fun cs => HPm.out.final HPB.out cs hoI hlI hpI hgI)
                  obtain ⟨s, hs⟩ : ∃ s, s = mkS acc Ls x := ⟨_, rfl⟩
                  rw [← hs] at HPm hck HRd HI
                  have HS := Lib.hid hs
                  clear hs hoI hlI hpI hgI hxI
                  have hst := HPm.out.a
                  obtain ⟨cs, hcs⟩ : ∃ cs, cs = stC O Lp s.pl s.gm := ⟨_, rfl⟩
                  rw [← hcs] at hst hck HRd
                  have hsz9 : (Tryd.prog.info? 29).map (·.size) = some cs.size := by rw [hcs, stC_size]; exact size37
                  have hs9 : st0.size = cs.size := by rw [hcs, stC_size, show st0.size = 37 from stC_size _ _ _ _]
                  have hone9 : cs.all (·.oneCell') = true := by rw [hcs]; exact stC_one _ _ _ _
                  have HCs := Lib.hid hcs
                  clear hcs
                  go_wp2_with (refine wpList_load_row rfl 29 (.tmp 5) rfl g rfl 29 _ (0, 0) _ hst Tryd.underlying29 rfl hsz9 ?_)
                  refine hck.mono ?_
                  rintro e w9 ⟨rfl, hb9⟩
                  have HPn := Lib.hid (HPm.out.keep hb9)
                  clear hck HRd hst hb9
                  obtain ⟨q, hq⟩ : ∃ q, q = chkS s := ⟨_, rfl⟩
                  rw [← hq]
                  have HQc := Lib.hid (show q = chkS (mkS acc Ls x) by rw [hq, HS.out])
                  clear hq
                  by_cases hq0 : q = 0
                  case neg =>
                    have h0 : (q != 0) = true := by rw [bne_iff_ne]; exact hq0
                    have HR := Lib.hid (show parseS l = (sT0, q) by
                      rw [HG5.out, HQc.out]
                      exact parse3_e3 HMo.out HNk.out (by rw [← HQc.out]; exact hq0))
                    clear hq0 HPm
                    have hr9 := (HPn).out.r
                    have hn9 := (HPn).out.n
                    have hb9 := (HPn).out.b
                    have hsz0 := st0_size
                    have hone0 := st0_one
                    go_wp2_with (first
                      | (refine wpList_load_row rfl 29 (.tmp 4) rfl g4 rfl 29 _ (0, 0) _ hn9 Tryd.underlying29 rfl hsz0 ?_)
                      | (refine wpList_store_row rfl 29 (.tmp 2) (.tmp 221) rfl g2 _ rfl rfl 29 st0 hr9 hsz0 rfl hone0 ?_))
                    refine bodyPost_ret (v := .tuple #[.agg st0, .int .i64 q]) ?_ rfl ⟨st0, nilS, fun _ => nilS, by rw [HR.out], by rw [HR.out]; exact reads_0 _ _, below_setRow hb9 _ _ HPB.out.h2⟩
                    exact results_cell_tmp (ty := 29) (p := 2) (q := 3) (by kernel_rfl) _ _ g2 29 _ (0, 0) _ rfl (setRow_heap _ _ _ _ _ _ hr9) Tryd.underlying29 rfl hsz0
                  subst hq0
                  have HR := Lib.hid (show parseS l = (s, 0) by
                    rw [HG5.out, HS.out]
                    exact parse3_go HMo.out HNk.out HQc.out.symm)
                  have hst := HPn.out.a
                  rw [← HCs.out] at hst
                  have hr9 := HPn.out.r
                  have hbw := HPn.out.b
                  clear HPm
                  go_wp2_with (first
                    | (refine wpList_load_row rfl 29 (.tmp 5) rfl g rfl 29 _ (0, 0) _ hst Tryd.underlying29 rfl hsz9 ?_)
                    | (refine wpList_store_row rfl 29 (.tmp 2) (.tmp 223) rfl g2 _ rfl rfl 29 st0 hr9 hsz9 hs9 hone9 ?_))
                  refine bodyPost_ret (v := .tuple #[.agg cs, .int .i64 0]) ?_ rfl ⟨cs, O, Lp, by rw [HR.out], ?_, below_setRow hbw _ _ HPB.out.h2⟩
                  · exact results_cell_tmp (ty := 29) (p := 2) (q := 3) (by kernel_rfl) _ _ g2 29 _ (0, 0) _ rfl (setRow_heap _ _ _ _ _ _ hr9) Tryd.underlying29 rfl hsz9
                  · rw [HR.out]
                    have := HPn.out.final HPB.out cs HI.out.1 HI.out.2.1 HI.out.2.2.1 HI.out.2.2.2
                    rw [← HCs.out] at this
                    exact this
end Go.Proofs.YtihbdbgmijkjmaaDoor
