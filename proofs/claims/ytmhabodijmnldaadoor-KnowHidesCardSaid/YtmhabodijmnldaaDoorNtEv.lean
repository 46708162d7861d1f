/- Layer 13: lists of events in memory. -/
import Derived.Test.YtmhabodijmnldaaDoorEvInv
import Derived.Maps.AppendAt
namespace Go.Proofs.YtmhabodijmnldaaDoor
open Go.RowKit Ex
set_option maxRecDepth 100000
theorem evC_size (e : EvT) : (evC e).size = 6 := rfl
/-- Events that stand one behind the other. -/
def RdV (B : Nat) (w : World) (A : Option Addr) (l : List EvT) : Prop := ∀ (i : Nat) (e : EvT), l[i]? = some e → ∃ b off, A = some ⟨b, off, none⟩ ∧ b < B ∧ w.rangeAt b (off + i * 6) (evC e).toList
/-- A slice that reads as events. -/
structure Evs (B : Nat) (w : World) (A : Option Addr) (n : Nat) (l : List EvT) : Prop where
  n : n = l.length
  r : RdV B w A l
  i : ∀ e ∈ l, EvI e
section
variable {B B' n : Nat} {w w' : World} {A : Option Addr} {l : List EvT}
theorem RdV.below (h : RdV B w A l) (hb : Below B w w') : RdV B w' A l := fun i o hi => by
  obtain ⟨b, off, h1, h2, h3⟩ := h i o hi
  exact ⟨b, off, h1, h2, range_below hb h2 h3⟩
theorem RdV.more (h : RdV B w A l) (hB : B ≤ B') : RdV B' w A l := fun i o hi => by
  obtain ⟨b, off, h1, h2, h3⟩ := h i o hi
  exact ⟨b, off, h1, by omega, h3⟩
theorem RdV.at_ (h : RdV B w A l) {i : Nat} (hi : i < l.length) : ∃ b off, A = some ⟨b, off, none⟩ ∧ b < B ∧ w.rangeAt b (off + i * 6) (evC l[i]).toList := h i _ (List.getElem?_eq_getElem hi)
theorem RdV.none_ : RdV B w A [] := fun i o hi => by simp at hi
theorem RdV.take_ (h : RdV B w A l) (m : Nat) : RdV B w A (l.take m) := fun i e hi => h i e (by
  rw [List.getElem?_take] at hi
  split at hi
  · exact hi
  · cases hi)
theorem Evs.below (h : Evs B w A n l) (hb : Below B w w') : Evs B w' A n l := ⟨h.n, h.r.below hb, h.i⟩
theorem Evs.more (h : Evs B w A n l) (hB : B ≤ B') : Evs B' w A n l := ⟨h.n, h.r.more hB, h.i⟩
theorem Evs.grow (h : Evs w.heap.size w A n l) (hb : Below w.heap.size w w') : Evs w'.heap.size w' A n l := (h.below hb).more hb.size
theorem Evs.nil : Evs B w A 0 [] := ⟨rfl, RdV.none_, fun e he => by cases he⟩
end
/-- All cells of events. -/
def flatV (l : List EvT) : List Value := l.flatMap fun o => (evC o).toList
theorem flatV_len (l : List EvT) : (flatV l).length = l.length * 6 := by
  induction l with
  | nil => rfl
  | cons x l ih => simp only [flatV, List.flatMap_cons, List.length_append, Array.length_toList, evC_size, List.length_cons] at ih ⊢; omega
theorem flatV_at : ∀ {l : List EvT} (i : Nat) (o : EvT), l[i]? = some o → ∀ j v, (evC o).toList[j]? = some v → (flatV l)[i * 6 + j]? = some v
  | [], i, o, h, _, _, _ => by simp at h
  | x :: l, 0, o, h, j, v, hv => by
    simp at h; subst h
    simp only [flatV, List.flatMap_cons, Nat.zero_mul, Nat.zero_add]
    rw [List.getElem?_append_left (List.getElem?_eq_some_iff.1 hv).1]; exact hv
  | x :: l, i + 1, o, h, j, v, hv => by
    have ih := flatV_at (l := l) i o (by simpa using h) j v hv
    simp only [flatV, List.flatMap_cons] at ih ⊢
    rw [List.getElem?_append_right (by rw [Array.length_toList, evC_size]; omega), Array.length_toList, evC_size, show (i + 1) * 6 + j - 6 = i * 6 + j by omega]
    exact ih
theorem flatV_of {l : List EvT} {j : Nat} {v : Value} (h : (flatV l)[j]? = some v) : ∃ o, l[j / 6]? = some o ∧ (evC o).toList[j % 6]? = some v := by
  have hj : j < l.length * 6 := by rw [← flatV_len]; exact (List.getElem?_eq_some_iff.1 h).1
  have hq : j / 6 < l.length := by omega
  refine ⟨l[j / 6], List.getElem?_eq_getElem hq, ?_⟩
  have hr : j % 6 < (evC l[j / 6]).toList.length := by rw [Array.length_toList, evC_size]; omega
  rw [List.getElem?_eq_getElem hr]
  have := flatV_at (j / 6) _ (List.getElem?_eq_getElem hq) (j % 6) _ (List.getElem?_eq_getElem hr)
  rw [show j / 6 * 6 + j % 6 = j by omega] at this
  exact this.symm.trans h
theorem flatV_one (l : List EvT) : ∀ u ∈ flatV l, u.oneCell' = true := fun u hu => by
  obtain ⟨o, _, h⟩ := List.mem_flatMap.1 hu
  obtain ⟨i, hi, rfl⟩ := List.getElem_of_mem h
  have h1 := Array.all_eq_true'.1 (evC_one o) ((evC o).toList[i]) (by simp)
  exact h1
theorem flatV_app (a b : List EvT) : flatV (a ++ b) = flatV a ++ flatV b := by simp [flatV]
theorem info_ev : (Tryd.prog.info? 53).map (fun i => (i.zero, i.size, i.bytes)) = some (some (.agg (evC ev0)), 6, 48) := by kernel_rfl
/-- Events in a block of the call's own. -/
structure OwnV (W : World) (base : Nat) (A : Option Addr) (n c : Nat) (l : List EvT) : Prop where
  len : n = l.length
  o : W.ownsRow base 53 6 (.slice A n c) n (flatV l)
section
variable {W W' w : World} {base b n c : Nat} {A : Option Addr} {l : List EvT}
theorem OwnV.cap (h : OwnV W base A n c l) : n ≤ c ∧ c ≤ maxLen := by
  rcases h.o.2 with ⟨hv, hz⟩ | ⟨g, cap, cur, hv, hb, hg, hc, hm, _⟩
  · injection hv with _ _ h3
    subst h3 hz
    exact ⟨Nat.le_refl _, Nat.zero_le _⟩
  · injection hv with _ _ h3
    subst h3
    exact ⟨hc, hm⟩
theorem OwnV.rd (h : OwnV W base A n c l) : RdV W.heap.size W A l := by
  rcases h.o.2 with ⟨hv, hz⟩ | ⟨g, cap, cur, hv, hb, hg, _⟩
  · subst hz
    obtain rfl : l = [] := List.length_eq_zero_iff.1 h.len.symm
    exact RdV.none_
  · injection hv with h1 _ h3
    subst h1
    intro i o hi
    refine ⟨g, 0, rfl, (Array.getElem?_eq_some_iff.1 hg).1, fun j u hu => ?_⟩
    have := h.o.cells (g := g) rfl (i * 6 + j) u (flatV_at i o hi j u hu)
    rw [Addr.add_mid, ← Nat.add_assoc] at this
    exact this
theorem OwnV.evs (h : OwnV W base A n c l) (hi : ∀ e ∈ l, EvI e) : Evs W.heap.size W A n l := ⟨h.len, h.rd, hi⟩
theorem OwnV.below (h : OwnV W base A n c l) (hb : Below W.heap.size W W') : OwnV W' base A n c l := ⟨h.len, owns_keep h.o fun j hj => hb.block j (h.o.lt j hj).2⟩
theorem OwnV.low (h : OwnV W base A n c l) (hb : b ≤ base) : OwnV W b A n c l := by
  refine ⟨h.len, h.o.1, ?_⟩
  rcases h.o.2 with hv | ⟨g, cap, cur, hv, hbs, rest⟩
  · exact .inl hv
  · exact .inr ⟨g, cap, cur, hv, Nat.le_trans hb hbs, rest⟩
theorem OwnV.grown (h : OwnV W base A n c l) (hb : Below base w W) (hbs : base ≤ W.heap.size) (hg : W.grownBy W' (Value.slice A n c).ownBlock) : Below base w W' :=
  hb.grown hg hbs (fun j hj => (h.o.lt j hj).1)
end
theorem ownV_nil (w : World) (base : Nat) : OwnV w base none 0 0 [] := ⟨rfl, rfl, .inl ⟨rfl, rfl⟩⟩
theorem ownV_empty (w : World) (base : Nat) (hb : base ≤ w.heap.size) : OwnV (w.alloc (.cells #[] 53)) base (some ⟨w.heap.size, 0, none⟩) 0 0 [] :=
  ⟨rfl, rfl, .inr ⟨w.heap.size, 0, #[], rfl, hb, heap_alloc_new _ _, Nat.le_refl _, by simp, by simp, by simp [flatV]⟩⟩
/-- append of any events to events of the call's own, with where they lie then. -/
theorem run_appV {w : World} (ty : TypeId) (base : Nat) (A : Option Addr) (n c : Nat) (l : List EvT) (h : OwnV w base A n c l)
    (B : Nat) (A2 : Option Addr) (m c2 : Nat) (l2 : List EvT) (hr : RdV B w A2 l2) (hl : m = l2.length) (hn : n + m ≤ 1000000) (hbase : base ≤ w.heap.size) :
    ∃ A' c' w', (Builtin.append_ #[44, 44] ty #[.slice A n c, .slice A2 m c2]).run Tryd.prog w = .ok (.slice A' (n + m) c') w' ∧ OwnV w' base A' (n + m) c' (l ++ l2) ∧ w.grownBy w' (Value.slice A n c).ownBlock ∧
      ((Value.slice A' (n + m) c').ownBlock = (Value.slice A n c).ownBlock ∨ (Value.slice A' (n + m) c').ownBlock = some w.heap.size) := by
  obtain ⟨i0, hi, hz0, hz1, hz2⟩ := info_parts info_ev
  rcases A2 with _ | ad
  · have hl0 : l2 = [] := by
      cases l2 with
      | nil => rfl
      | cons y r => obtain ⟨b, off, e, _⟩ := hr 0 y rfl; cases e
    subst hl0
    obtain rfl : m = 0 := hl
    refine ⟨A, c, w, ?_, by rw [List.append_nil]; exact h, World.grownBy.refl w _, .inl rfl⟩
    rcases h.o.2 with ⟨hv, hn0⟩ | ⟨g, cap, cur, hv, _, _, hnc, _⟩
    · rw [Nat.add_zero, hv]
      simp [Builtin.append_, run_underlying Tryd.underlying44, sizeOf, typeInfo, hi, Builtin.lenOf, Builtin.firstCells]
    · rw [Nat.add_zero, hv]
      simp [Builtin.append_, run_underlying Tryd.underlying44, sizeOf, typeInfo, hi, Builtin.lenOf, Builtin.firstCells, hnc, storeCells]
  · obtain ⟨v', w', hrun, hown, hgr, _, hat⟩ := run_append_own_at (P := Tryd.prog) w base 44 ty 53 i0 _ 6 48 Tryd.underlying44 hi hz0 hz1 hz2 (evC_size ev0) (by omega) _ n (flatV l) h.o ad m c2 (flatV l2) (by rw [flatV_len, hl])
      (fun j u hj => by
        obtain ⟨o, h1, h2⟩ := flatV_of hj
        obtain ⟨b, off, ea, _, hra⟩ := hr _ _ h1
        injection ea with ea
        subst ea
        rw [Addr.add_mid, show off + j = off + j / 6 * 6 + j % 6 by omega]
        exact hra _ _ h2) (flatV_one l2) (by unfold maxLen; omega) (by omega) hbase
    rw [← flatV_app] at hown
    have hform : ∃ A' c', v' = .slice A' (n + m) c' := by
      rcases hown.2 with ⟨rfl, hz⟩ | ⟨g', cap, _, rfl, _⟩
      · exact ⟨none, 0, by rw [hz]⟩
      · exact ⟨_, _, rfl⟩
    obtain ⟨A', c', rfl⟩ := hform
    exact ⟨A', c', w', hrun, ⟨by rw [List.length_append, ← hl, ← h.len], hown⟩, hgr, hat⟩
theorem wp_appV {o : Oper} {a : Act} {w : World} {K : Act → World → Prop} {Q : Exit → Act → World → Prop} (s x : Operand)
    (ho : o.op = .call { callee := .builtin .append, args := #[s, x], argTypes := #[44, 44] })
    (base : Nat) (A : Option Addr) (n c : Nat) (l : List EvT) (hs : a.eval s = .slice A n c) (h : OwnV w base A n c l)
    (B : Nat) (A2 : Option Addr) (m c2 : Nat) (l2 : List EvT) (hx : a.eval x = .slice A2 m c2) (hr : RdV B w A2 l2) (hl : m = l2.length) (hn : n + m ≤ 1000000) (hbase : base ≤ w.heap.size)
    (hK : ∀ A' c' w', OwnV w' base A' (n + m) c' (l ++ l2) → w.grownBy w' (Value.slice A n c).ownBlock → ((Value.slice A' (n + m) c').ownBlock = (Value.slice A n c).ownBlock ∨ (Value.slice A' (n + m) c').ownBlock = some w.heap.size) → K (a.put o.dst (.slice A' (n + m) c')) w') :
    o.wp Tryd.prog a w K Q := by
  obtain ⟨A', c', w', hrun, h1, h2, h3⟩ := run_appV o.type base A n c l h B A2 m c2 l2 hr hl hn hbase
  unfold Oper.wp execOp
  simp only [ho, resolve, invoke, builtin, Sem.run_bind, Sem.run_pure, Result.andThen_ok, List.map_toArray, List.map_cons, List.map_nil, hs, hx, hrun]
  exact hK A' c' w' h1 h2 h3
theorem wpList_appVG {ops : Array Oper} {rest : List Oper} {o : Oper} {a : Act} {w : World} {Q : Exit → Act → World → Prop} (hgd : o.guard = none) (s x : Operand)
    (ho : o.op = .call { callee := .builtin .append, args := #[s, x], argTypes := #[44, 44] })
    (base : Nat) (A : Option Addr) (n c : Nat) (l : List EvT) (hs : a.eval s = .slice A n c) (h : OwnV w base A n c l)
    (B : Nat) (A2 : Option Addr) (m c2 : Nat) (l2 : List EvT) (hx : a.eval x = .slice A2 m c2) (hr : RdV B w A2 l2) (hl : m = l2.length) (hn : n + m ≤ 1000000) (hbase : base ≤ w.heap.size)
    (hK : ∀ A' c' w', OwnV w' base A' (n + m) c' (l ++ l2) → w.grownBy w' (Value.slice A n c).ownBlock → ((Value.slice A' (n + m) c').ownBlock = (Value.slice A n c).ownBlock ∨ (Value.slice A' (n + m) c').ownBlock = some w.heap.size) → wpList Tryd.prog ops Q rest (a.put o.dst (.slice A' (n + m) c')) w') :
    wpList Tryd.prog ops Q (o :: rest) a w :=
  wpList_plain hgd fun _ hK' => wp_appV s x ho base A n c l hs h B A2 m c2 l2 hx hr hl hn hbase fun A' c' w' h1 h2 h3 => hK' _ _ (hK A' c' w' h1 h2 h3)
/-- append of any events to events of the call's own. -/
theorem wpList_appV {ops : Array Oper} {rest : List Oper} {o : Oper} {a : Act} {w : World} {Q : Exit → Act → World → Prop} (hgd : o.guard = none) (s x : Operand)
    (ho : o.op = .call { callee := .builtin .append, args := #[s, x], argTypes := #[44, 44] })
    (base : Nat) (A : Option Addr) (n c : Nat) (l : List EvT) (hs : a.eval s = .slice A n c) (h : OwnV w base A n c l)
    (B : Nat) (A2 : Option Addr) (m c2 : Nat) (l2 : List EvT) (hx : a.eval x = .slice A2 m c2) (hr : RdV B w A2 l2) (hl : m = l2.length) (hn : n + m ≤ 1000000) (hbase : base ≤ w.heap.size)
    (hK : ∀ A' c' w', OwnV w' base A' (n + m) c' (l ++ l2) → w.grownBy w' (Value.slice A n c).ownBlock → wpList Tryd.prog ops Q rest (a.put o.dst (.slice A' (n + m) c')) w') :
    wpList Tryd.prog ops Q (o :: rest) a w :=
  wpList_appVG hgd s x ho base A n c l hs h B A2 m c2 l2 hx hr hl hn hbase fun A' c' w' h1 h2 _ => hK A' c' w' h1 h2
/-- An event's own block of one. -/
theorem rdV_one {w : World} {g : Nat} {e : EvT} (h : EvB w g e) : RdV w.heap.size w (some ⟨g, 0, none⟩) [e] := fun i o hi => by
  cases i with
  | succ i => simp at hi
  | zero =>
    obtain rfl : e = o := by simpa using hi
    refine ⟨g, 0, rfl, h.lt, fun j v hv => ?_⟩
    rw [Array.getElem?_toList] at hv
    rw [show 0 + 0 * 6 + j = j by omega, cell_of_row w g j _ _ _ h]
    exact hv
theorem buildSlice_ev (e : EvT) (W : World) : (Instr.buildSlice 44 1 #[(0, evV e)]).run Tryd.prog W = .ok (.slice (some ⟨W.heap.size, 0, none⟩) 1 1) (W.alloc (.cells (evC e) 53)) := by obtain ⟨k, a, b, c, d, f⟩ := e; kernel_rfl
theorem wpList_buildSliceEv {ops : Array Oper} {rest : List Oper} {o : Oper} {a : Act} {w : World} {Q : Exit → Act → World → Prop} (hg : o.guard = none) (x : Operand) (ho : o.op = .buildSlice 44 1 #[(0, x)]) (e : EvT)
    (hx : a.eval x = evV e) (hK : wpList Tryd.prog ops Q rest (a.put o.dst (.slice (some ⟨w.heap.size, 0, none⟩) 1 1)) (w.alloc (.cells (evC e) 53))) : wpList Tryd.prog ops Q (o :: rest) a w := by
  refine wpList_plain hg fun K' hK' => ?_
  unfold Oper.wp
  simp [execOp, ho, hx, buildSlice_ev, Result.andThen]
  exact hK' _ _ hK
/-- An event within, loaded whole. -/
theorem load_evm {ops : Array Oper} {rest : List Oper} {op : Oper} {a : Act} {w : World} {Q : Exit → Act → World → Prop} (hgd : op.guard = none) (x : Operand) (ho : op.op = .load 53 x)
    (b o : Nat) (hx : a.eval x = .pointer (some ⟨b, o, none⟩)) (e : EvT) (h : w.rangeAt b o (evC e).toList)
    (hK : wpList Tryd.prog ops Q rest (a.put op.dst (evV e)) w) : wpList Tryd.prog ops Q (op :: rest) a w := by
  refine wpList_load_mid hgd 53 x ho b o hx (evC e).toList _ h Tryd.underlying53 rfl (by rw [Array.length_toList]; exact ev_size e) ?_
  rw [Array.toArray_toList]
  exact hK
theorem yields_evm {ops : Array Oper} {S : World → Prop} {op : Oper} {a : Act} (hw : Region.wanted op (yielded ops a.tmps) = true) (x : Operand) (ho : op.op = .load 53 x)
    (b o : Nat) (hx : a.eval x = .pointer (some ⟨b, o, none⟩)) (e : EvT) (hS : ∀ w, S w → w.rangeAt b o (evC e).toList) : YieldsIf Tryd.prog ops S op (evV e) a := by
  have h := yieldsIf_load_mid (P := Tryd.prog) (S := S) hw 53 x ho b o hx (evC e).toList _ hS Tryd.underlying53 rfl (by rw [Array.length_toList]; exact ev_size e)
  rw [Array.toArray_toList] at h
  exact h
theorem neq_evv (x : EvT) (W : World) : (binOp .neq 53 (evV x) (evV x)).run Tryd.prog W = .ok (.bool false) W := by
  obtain ⟨k, a, b, c, d, f⟩ := x
  unfold evV
  go_simp
theorem range_ev_cell {w : World} {b o : Nat} {e : EvT} (h : w.rangeAt b o (evC e).toList) {j : Nat} (hj : j < 6) : w.cell? ⟨b, o + j, none⟩ = (evC e)[j]? := by
  have h1 : j < (evC e).toList.length := hj
  rw [h j _ (List.getElem?_eq_getElem h1), ← List.getElem?_eq_getElem h1, Array.getElem?_toList]
theorem invE_i {e : EvT} (h : EvI e) : EvI (invE e) := by
  unfold invE
  split
  · exact ⟨show N64 (5 : Int) from by unfold N64; omega, h.a, h.b, h.c, h.d, h.e⟩
  split
  · exact ⟨show N64 (0 : Int) from by unfold N64; omega, h.a, h.b, h.c, h.d, h.e⟩
  split
  · exact ⟨show N64 (1 : Int) from by unfold N64; omega, h.a, h.d, h.e, h.b, h.c⟩
  split
  · exact ⟨h.k, h.a, h.b, h.d, h.c, h.e⟩
  · exact h
end Go.Proofs.YtmhabodijmnldaaDoor
