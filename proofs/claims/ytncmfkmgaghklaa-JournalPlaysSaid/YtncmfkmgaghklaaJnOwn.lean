/- Layer 14: lists of the document's parts in blocks of a call's own. -/
import Derived.Test.YtncmfkmgaghklaaJnPtR
import Derived.Test.YtncmfkmgaghklaaSlArg
namespace Go.Proofs.Ytncmfkmgaghklaa
open Go.RowKit Ex
set_option maxRecDepth 100000
namespace Ex
/-- A part as it lies: its number, where its events lie. -/
structure QT where
  num : Int
  sl : SlT
end Ex
open Ex
def cellQ (q : QT) : List Value := [.int .i64 q.num, q.sl.v]
def flatQ (qs : List QT) : List Value := qs.flatMap cellQ
theorem flatQ_len (l : List QT) : (flatQ l).length = l.length * 2 := by
  induction l with
  | nil => rfl
  | cons x l ih => simp only [flatQ, List.flatMap_cons, List.length_append, cellQ, List.length_cons, List.length_nil] at ih ⊢; omega
theorem flatQ_at : ∀ {l : List QT} (i : Nat) (q : QT), l[i]? = some q → ∀ j v, (cellQ q)[j]? = some v → (flatQ l)[i * 2 + j]? = some v
  | [], i, o, h, _, _, _ => by simp at h
  | x :: l, 0, o, h, j, v, hv => by
    simp at h; subst h
    simp only [flatQ, List.flatMap_cons, Nat.zero_mul, Nat.zero_add]
    rw [List.getElem?_append_left (List.getElem?_eq_some_iff.1 hv).1]; exact hv
  | x :: l, i + 1, o, h, j, v, hv => by
    have ih := flatQ_at (l := l) i o (by simpa using h) j v hv
    simp only [flatQ, List.flatMap_cons] at ih ⊢
    rw [List.getElem?_append_right (by simp [cellQ]; omega), show (i + 1) * 2 + j - (cellQ x).length = i * 2 + j by simp [cellQ]; omega]
    exact ih
theorem flatQ_of {l : List QT} {j : Nat} {v : Value} (h : (flatQ l)[j]? = some v) : ∃ q, l[j / 2]? = some q ∧ (cellQ q)[j % 2]? = some v := by
  have hj : j < l.length * 2 := by rw [← flatQ_len]; exact (List.getElem?_eq_some_iff.1 h).1
  have hq : j / 2 < l.length := by omega
  refine ⟨l[j / 2], List.getElem?_eq_getElem hq, ?_⟩
  have hr : j % 2 < (cellQ l[j / 2]).length := by simp [cellQ]; omega
  rw [List.getElem?_eq_getElem hr]
  have := flatQ_at (j / 2) _ (List.getElem?_eq_getElem hq) (j % 2) _ (List.getElem?_eq_getElem hr)
  rw [show j / 2 * 2 + j % 2 = j by omega] at this
  exact this.symm.trans h
theorem flatQ_one (l : List QT) : ∀ u ∈ flatQ l, u.oneCell' = true := fun u hu => by
  obtain ⟨q, _, h⟩ := List.mem_flatMap.1 hu
  simp only [cellQ, List.mem_cons, List.not_mem_nil, or_false] at h
  rcases h with rfl | rfl <;> rfl
theorem flatQ_app (a b : List QT) : flatQ (a ++ b) = flatQ a ++ flatQ b := by simp [flatQ]
theorem info_part : (Try.prog.info? 66).map (fun i => (i.zero, i.size, i.bytes)) = some (some (.agg #[.int .i64 0, .slice none 0 0]), 2, 32) := by kernel_rfl
/-- Parts in a block of the call's own. -/
structure OwnQ (W : World) (base : Nat) (A : Option Addr) (n c : Nat) (l : List QT) : Prop where
  len : n = l.length
  o : W.ownsRow base 66 2 (.slice A n c) n (flatQ l)
/-- What the parts hold. -/
structure PtQ (B : Nat) (w : World) (qs : List QT) (ps : List (Int × List EvT)) : Prop where
  len : qs.length = ps.length
  at_ : ∀ (i : Nat) (q : QT) (p : Int × List EvT), qs[i]? = some q → ps[i]? = some p → q.num = p.1 ∧ q.sl.n ≤ q.sl.c ∧ Evs B w q.sl.A q.sl.n p.2
  i : ∀ p ∈ ps, N64 p.1
/-- Cells that read as parts. -/
def RdQ (B : Nat) (w : World) (A : Option Addr) (l : List QT) : Prop := ∀ (i : Nat) (q : QT), l[i]? = some q → ∃ b off, A = some ⟨b, off, none⟩ ∧ b < B ∧ w.rangeAt b (off + i * 2) (cellQ q)
section
variable {W W' : World} {base B n c : Nat} {A : Option Addr} {l : List QT} {ps : List (Int × List EvT)}
theorem OwnQ.rd (h : OwnQ W base A n c l) : RdQ W.heap.size W A l := by
  rcases h.o.2 with ⟨hv, hz⟩ | ⟨g, cap, cur, hv, hb, hg, _⟩
  · subst hz
    obtain rfl : l = [] := List.length_eq_zero_iff.1 h.len.symm
    exact fun i q hi => by simp at hi
  · injection hv with h1 _ h3
    subst h1
    intro i o hi
    refine ⟨g, 0, rfl, (Array.getElem?_eq_some_iff.1 hg).1, fun j u hu => ?_⟩
    have := h.o.cells (g := g) rfl (i * 2 + j) u (flatQ_at i o hi j u hu)
    rw [Addr.add_mid, ← Nat.add_assoc] at this
    exact this
theorem OwnQ.below (h : OwnQ W base A n c l) (hb : Below W.heap.size W W') : OwnQ W' base A n c l := ⟨h.len, owns_keep h.o fun j hj => hb.block j (h.o.lt j hj).2⟩
theorem PtQ.below (h : PtQ B W l ps) (hb : Below B W W') : PtQ B W' l ps := ⟨h.len, fun i q p hq hp => by
  obtain ⟨h1, h2, h3⟩ := h.at_ i q p hq hp
  exact ⟨h1, h2, h3.below hb⟩, h.i⟩
/-- Parts read. -/
theorem ptR_of (hr : RdQ B W A l) (h : PtQ B W l ps) (hn : n = l.length) : PtR B W A n ps := by
  refine ⟨hn.trans h.len, fun i p hp => ?_, h.i⟩
  have hil : i < l.length := by rw [h.len]; exact (List.getElem?_eq_some_iff.1 hp).1
  obtain ⟨h1, h2, h3⟩ := h.at_ i _ p (List.getElem?_eq_getElem hil) hp
  obtain ⟨b, off, ea, hb, hra⟩ := hr i _ (List.getElem?_eq_getElem hil)
  refine ⟨b, off, l[i].sl.A, l[i].sl.n, l[i].sl.c, ea, hb, ?_, ?_, h2, h3⟩
  · have := hra 0 (.int .i64 l[i].num) rfl
    rw [Nat.add_zero] at this
    rw [this, h1]
  · exact hra 1 _ rfl
/-- How parts lie that read. -/
theorem PtR.lie (h : PtR B W A n ps) : ∃ l, RdQ B W A l ∧ PtQ B W l ps ∧ n = l.length := by
  have hx : ∀ i : Nat, i < ps.length → ∃ q : QT, ∃ b off, A = some ⟨b, off, none⟩ ∧ b < B ∧ W.rangeAt b (off + i * 2) (cellQ q) ∧ ∀ p, ps[i]? = some p → q.num = p.1 ∧ q.sl.n ≤ q.sl.c ∧ Evs B W q.sl.A q.sl.n p.2 := fun i hi => by
    obtain ⟨b, off, A', n', c', h1, h2, h3, h4, h5, h6⟩ := h.r i _ (List.getElem?_eq_getElem hi)
    refine ⟨⟨ps[i].1, ⟨A', n', c'⟩⟩, b, off, h1, h2, fun j v hv => ?_, fun p hp => ?_⟩
    · match j, hv with
      | 0, hv => simp [cellQ] at hv; rw [← hv]; exact h3
      | 1, hv => simp [cellQ] at hv; rw [← hv]; exact h4
      | j + 2, hv => simp [cellQ] at hv
    · rw [List.getElem?_eq_getElem hi] at hp
      injection hp with hp
      subst hp
      exact ⟨rfl, h5, h6⟩
  obtain ⟨l, hll, hlp⟩ := list_of' ps.length hx
  refine ⟨l, fun i q hq => ?_, ⟨hll, fun i q p hq hp => ?_, h.i⟩, h.n.trans hll.symm⟩
  · obtain ⟨b, off, h1, h2, h3, _⟩ := hlp i q hq
    exact ⟨b, off, h1, h2, h3⟩
  · obtain ⟨b, off, _, _, _, h4⟩ := hlp i q hq
    exact h4 p hp
end
theorem ownQ_empty (w : World) (base : Nat) (hb : base ≤ w.heap.size) : OwnQ (w.alloc (.cells #[] 66)) base (some ⟨w.heap.size, 0, none⟩) 0 0 [] :=
  ⟨rfl, rfl, .inr ⟨w.heap.size, 0, #[], rfl, hb, heap_alloc_new _ _, Nat.le_refl _, by simp, by simp, by simp [flatQ]⟩⟩
/-- append of any parts to parts of the call's own. -/
theorem wpList_appQ {ops : Array Oper} {rest : List Oper} {o : Oper} {a : Act} {w : World} {Q : Exit → Act → World → Prop} (hgd : o.guard = none) (s x : Operand)
    (ho : o.op = .call { callee := .builtin .append, args := #[s, x], argTypes := #[27, 27] })
    (base : Nat) (A : Option Addr) (n c : Nat) (l : List QT) (hs : a.eval s = .slice A n c) (h : OwnQ w base A n c l)
    (B : Nat) (b2 o2 m c2 : Nat) (l2 : List QT) (hx : a.eval x = .slice (some ⟨b2, o2, none⟩) m c2) (hr : RdQ B w (some ⟨b2, o2, none⟩) l2) (hl : m = l2.length) (hn : n + m ≤ 1000000) (hbase : base ≤ w.heap.size)
    (hK : ∀ A' c' w', OwnQ w' base A' (n + m) c' (l ++ l2) → w.grownBy w' (Value.slice A n c).ownBlock → wpList Try.prog ops Q rest (a.put o.dst (.slice A' (n + m) c')) w') :
    wpList Try.prog ops Q (o :: rest) a w := by
  obtain ⟨i0, hi, hz0, hz1, hz2⟩ := info_parts info_part
  refine wpList_append_own_at w hgd s x 27 ho base 66 i0 _ 2 32 Try.underlying27 hi hz0 hz1 hz2 rfl (by omega) _ n (flatQ l) hs h.o ⟨b2, o2, none⟩ m c2 (flatQ l2) hx (by rw [flatQ_len, hl])
    (fun j u hj => ?_) (flatQ_one l2) (by unfold maxLen; omega) (by omega) hbase ?_
  · obtain ⟨q, h1, h2⟩ := flatQ_of hj
    obtain ⟨b, off, ea, _, hra⟩ := hr _ _ h1
    injection ea with ea
    injection ea with e1 e2
    subst e1 e2
    rw [Addr.add_mid, show o2 + j = o2 + j / 2 * 2 + j % 2 by omega]
    exact hra _ _ h2
  · intro v' w' hown hgr _ _
    rw [← flatQ_app] at hown
    have hform : ∃ A' c', v' = .slice A' (n + m) c' := by
      rcases hown.2 with ⟨rfl, hz⟩ | ⟨g', cap, _, rfl, _⟩
      · exact ⟨none, 0, by rw [hz]⟩
      · exact ⟨_, _, rfl⟩
    obtain ⟨A', c', rfl⟩ := hform
    exact hK A' c' w' ⟨by rw [List.length_append, ← hl, ← h.len], hown⟩ hgr
end Go.Proofs.Ytncmfkmgaghklaa
