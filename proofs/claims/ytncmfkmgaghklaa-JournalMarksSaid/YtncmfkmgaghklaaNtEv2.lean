/- Layer 13: lists of events: made with room, cut, a field of one written. -/
import Derived.Test.YtncmfkmgaghklaaNtEv
import Derived.OwnWalk
namespace Go.Proofs.Ytncmfkmgaghklaa
open Go.RowKit Ex
set_option maxRecDepth 100000
/-- make of none, with room. -/
theorem wpList_mkV {ops : Array Oper} {rest : List Oper} {o : Oper} {a : Act} {w : World} {Q : Exit → Act → World → Prop}
    (hg : o.guard = none) (l c : Operand) (hop : o.op = Op.makeSlice 31 l c) (base n : Nat) (hl : a.eval l = .int .i64 0) (hc : a.eval c = .int .i64 (n : Int)) (hn : n ≤ 1000000) (hbase : base ≤ w.heap.size)
    (hK : ∀ w', OwnV w' base (some ⟨w.heap.size, 0, none⟩) 0 n [] → w.grownBy w' none → wpList Try.prog ops Q rest (a.put o.dst (.slice (some ⟨w.heap.size, 0, none⟩) 0 n)) w') : wpList Try.prog ops Q (o :: rest) a w := by
  obtain ⟨i0, hi, hz0, hz1, hz2⟩ := info_parts info_ev
  exact wpList_make_own w hg l c 31 hop base 41 i0 _ 6 Try.underlying31 hi hz0 hz1 .i64 .i64 n n hl hc rfl (by rw [hz2]; omega) (by unfold maxLen; omega) hbase
    (fun w' r1 r2 => hK w' ⟨rfl, r1⟩ r2)
theorem RdV.cut {B : Nat} {w : World} {A : Option Addr} {l : List EvT} (h : RdV B w A l) (i : Nat) : RdV B w (A.map (·.add (i * 6))) (l.drop i) := fun j o hj => by
  rw [List.getElem?_drop] at hj
  obtain ⟨b, off, rfl, hb, hra⟩ := h _ _ hj
  refine ⟨b, off + i * 6, by simp [Addr.add_mid], hb, ?_⟩
  rw [show off + i * 6 + j * 6 = off + (i + j) * 6 by omega]
  exact hra
theorem RdV.nil_of {B : Nat} {w : World} {l : List EvT} (h : RdV B w none l) : l = [] := by
  cases l with
  | nil => rfl
  | cons y r => obtain ⟨b, off, e, _⟩ := h 0 y rfl; cases e
theorem ev_elem : Try.prog.underlying 31 = some (.slice (Try.prog.elem 31)) := by kernel_rfl
theorem ev_elem_size (W : World) : (sizeOf (Try.prog.elem 31)).run Try.prog W = .ok 6 W := by kernel_rfl
/-- 'l[i:j]': somewhere, reading as what is cut out. -/
theorem cutV {B n c : Nat} {w : World} {A : Option Addr} {l : List EvT} (h : RdV B w A l) (hn : n = l.length) (hc : n ≤ c) {i j : Nat} (hij : i ≤ j) (hj : j ≤ n) :
    ∃ A', (∀ W, (Instr.slice 31 (.slice A n c) (some (.int .i64 (i : Int))) (some (.int .i64 (j : Int))) none).run Try.prog W = .ok (.slice A' (j - i) (c - i)) W) ∧ RdV B w A' ((l.drop i).take (j - i)) := by
  refine ⟨if c = i then A else A.map (·.add (i * 6)), fun W => ?_, ?_⟩
  · rw [run_slice_lh W 31 A n c ev_elem .i64 .i64 (i : Int) (j : Int) (by omega) (by omega) (by omega), ev_elem_size]
    simp only [Result.andThen_ok, sliced, Int.toNat_natCast]
  · split
    · have e : (l.drop i).take (j - i) = [] := by
        have : l.drop i = [] := List.drop_eq_nil_of_le (by omega)
        rw [this, List.take_nil]
      rw [e]; exact RdV.none_
    · exact (h.cut i).take_ _
theorem cutV_from {B n c : Nat} {w : World} {A : Option Addr} {l : List EvT} (h : RdV B w A l) (hn : n = l.length) (hc : n ≤ c) {i : Nat} (hi : i ≤ n) :
    ∃ A', (∀ W, (Instr.slice 31 (.slice A n c) (some (.int .i64 (i : Int))) none none).run Try.prog W = .ok (.slice A' (n - i) (c - i)) W) ∧ RdV B w A' (l.drop i) := by
  refine ⟨if c = i then A else A.map (·.add (i * 6)), fun W => ?_, ?_⟩
  · rw [run_slice_l W 31 A n c ev_elem .i64 (i : Int) (by omega) (by omega), ev_elem_size]
    simp only [Result.andThen_ok, sliced, Int.toNat_natCast]
  · split
    · have e : l.drop i = [] := List.drop_eq_nil_of_le (by omega)
      rw [e]; exact RdV.none_
    · exact h.cut i
theorem flatV_set : ∀ (l : List EvT) (i : Nat) (e : EvT) (j : Nat) (v : Value) (hi : i < l.length), j < 6 → (evC l[i]).setIfInBounds j v = evC e → (flatV l).set (i * 6 + j) v = flatV (l.set i e)
  | [], i, e, j, v, hi, _, _ => absurd hi (by simp)
  | x :: l, 0, e, j, v, hi, hj, he => by
    simp only [flatV, List.flatMap_cons, List.set_cons_zero, Nat.zero_mul, Nat.zero_add]
    rw [List.set_append_left _ _ (by rw [Array.length_toList, evC_size]; exact hj), ← Array.toList_setIfInBounds]
    have he : (evC x).setIfInBounds j v = evC e := he
    rw [he]
  | x :: l, i + 1, e, j, v, hi, hj, he => by
    have ih := flatV_set l i e j v (by simpa using hi) hj (by simpa using he)
    simp only [flatV, List.flatMap_cons, List.set_cons_succ] at ih ⊢
    rw [List.set_append_right _ _ (by rw [Array.length_toList, evC_size]; omega), Array.length_toList, evC_size, show (i + 1) * 6 + j - 6 = i * 6 + j by omega, ih]
/-- A field of an event of the call's own is read, and written. -/
theorem OwnV.set_ {W : World} {base n c : Nat} {A : Option Addr} {l : List EvT} (h : OwnV W base A n c l) {i j : Nat} (hi : i < l.length) (hj : j < 6) :
    ∃ g, A = some ⟨g, 0, none⟩ ∧ W.cell? ⟨g, i * 6 + j, none⟩ = (evC l[i])[j]? ∧ W.frozen? ⟨g, i * 6 + j, none⟩ = false ∧ base ≤ g ∧ g < W.heap.size ∧
      ∀ (v : Value) (e : EvT), (evC l[i]).setIfInBounds j v = evC e → OwnV (W.setCell ⟨g, i * 6 + j, none⟩ v) base A n c (l.set i e) := by
  have hl := h.o.1
  rw [flatV_len] at hl
  rcases h.o.2 with ⟨hv, hn⟩ | ⟨g, cap, cur, hv, hb, hg, hc, hm, hs, ht⟩
  · omega
  · injection hv with h1 _ h3
    subst h1 h3
    have hlt : i * 6 + j < n * 6 := by omega
    have hj' : j < (evC l[i]).toList.length := hj
    have hat := flatV_at i l[i] (List.getElem?_eq_getElem hi) j _ (List.getElem?_eq_getElem hj')
    refine ⟨g, rfl, ?_, frozen_of_row W g (i * 6 + j) cur _ hg, hb, (Array.getElem?_eq_some_iff.1 hg).1, fun v e he => ?_⟩
    · rw [cell_of_row W g (i * 6 + j) cur _ _ hg, ← Array.getElem?_toList, ← Array.getElem?_toList, List.getElem?_eq_getElem hj', ← hat, ← ht, List.getElem?_take_of_lt hlt]
    · refine ⟨by rw [List.length_set]; exact h.len, by rw [flatV_len, List.length_set]; exact hl, .inr ⟨g, c, cur.setIfInBounds (i * 6 + j) v, rfl, hb, heap_setCell_same W g (i * 6 + j) _ _ _ hg, hc, hm, by rw [Array.size_setIfInBounds]; exact hs, ?_⟩⟩
      rw [Array.toList_setIfInBounds, List.take_set, ht, flatV_set l i e j v hi hj he]
/-- Events in the making. -/
structure VB (w : World) (A : Option Addr) (m c : Nat) (l : List EvT) (W : World) : Prop where
  own : OwnV W w.heap.size A m c l
  b : Below w.heap.size w W
end Go.Proofs.Ytncmfkmgaghklaa
