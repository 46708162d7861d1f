/- Layer 14: the document's journal in blocks of its own (G): it stands whatever becomes of others. -/
import Derived.Test.YtncmfkmgaghklaaJnFd
namespace Go.Proofs.Ytncmfkmgaghklaa
open Go.RowKit Ex
set_option maxRecDepth 100000
theorem range_same {w w' : World} {b o : Nat} {cs : List Value} (h : w.rangeAt b o cs) (hb : w'.heap[b]? = w.heap[b]?) : w'.rangeAt b o cs := fun j v hv => (World.cell?_of_block (a := ⟨b, o + j, none⟩) hb).trans (h j v hv)
/-- Events that lie in such blocks. -/
structure EvG (G : Nat → Prop) (w : World) (A : Option Addr) (n : Nat) (l : List EvT) : Prop where
  n : n = l.length
  r : ∀ (i : Nat) (e : EvT), l[i]? = some e → ∃ b off, A = some ⟨b, off, none⟩ ∧ G b ∧ w.rangeAt b (off + i * 6) (evC e).toList
  i : ∀ e ∈ l, EvI e
/-- What parts hold, in such blocks. -/
structure PtG (G : Nat → Prop) (w : World) (qs : List QT) (ps : List (Int × List EvT)) : Prop where
  len : qs.length = ps.length
  at_ : ∀ (i : Nat) (q : QT) (p : Int × List EvT), qs[i]? = some q → ps[i]? = some p → q.num = p.1 ∧ q.sl.n ≤ q.sl.c ∧ EvG G w q.sl.A q.sl.n p.2
  i : ∀ p ∈ ps, N64 p.1
/-- The document's journal. -/
structure MG (G : Nat → Prop) (w : World) (A : Option Addr) (n c : Nat) (qs : List QT) (P : PT) : Prop where
  lt : ∀ k, G k → k < w.heap.size
  c : n ≤ c
  n : n = qs.length
  r : ∀ (i : Nat) (q : QT), qs[i]? = some q → ∃ b off, A = some ⟨b, off, none⟩ ∧ G b ∧ w.rangeAt b (off + i * 2) (cellQ q)
  p : PtG G w qs (allPs P)
section
variable {G G' : Nat → Prop} {w w' W : World} {A : Option Addr} {n c base B : Nat} {l : List EvT} {qs : List QT} {ps : List (Int × List EvT)} {P : PT}
theorem EvG.evs (h : EvG G w A n l) (hG : ∀ k, G k → k < B) : Evs B w A n l := ⟨h.n, fun i e hi => by
  obtain ⟨b, off, h1, h2, h3⟩ := h.r i e hi
  exact ⟨b, off, h1, hG b h2, h3⟩, h.i⟩
theorem EvG.stay (h : EvG G w A n l) (hs : ∀ k, G k → w'.heap[k]? = w.heap[k]?) : EvG G w' A n l := ⟨h.n, fun i e hi => by
  obtain ⟨b, off, h1, h2, h3⟩ := h.r i e hi
  exact ⟨b, off, h1, h2, range_same h3 (hs b h2)⟩, h.i⟩
theorem EvG.wide (h : EvG G w A n l) (hg : ∀ k, G k → G' k) : EvG G' w A n l := ⟨h.n, fun i e hi => by
  obtain ⟨b, off, h1, h2, h3⟩ := h.r i e hi
  exact ⟨b, off, h1, hg b h2, h3⟩, h.i⟩
theorem EvG.nil : EvG G w A 0 [] := ⟨rfl, fun i e hi => by simp at hi, fun e he => by cases he⟩
theorem OwnV.evG (h : OwnV W base A n c l) (hi : ∀ e ∈ l, EvI e) : EvG (fun k => base ≤ k ∧ k < W.heap.size) W A n l := ⟨h.len, fun i e hl => (by
  obtain ⟨b, off, h1, h2, h3⟩ := h.rd i e hl
  exact ⟨b, off, h1, ⟨(h.o.lt b (by subst h1; rfl)).1, h2⟩, h3⟩), hi⟩
theorem PtG.ptQ (h : PtG G w qs ps) (hG : ∀ k, G k → k < B) : PtQ B w qs ps := ⟨h.len, fun i q p hq hp => by
  obtain ⟨h1, h2, h3⟩ := h.at_ i q p hq hp
  exact ⟨h1, h2, h3.evs hG⟩, h.i⟩
theorem PtG.stay (h : PtG G w qs ps) (hs : ∀ k, G k → w'.heap[k]? = w.heap[k]?) : PtG G w' qs ps := ⟨h.len, fun i q p hq hp => by
  obtain ⟨h1, h2, h3⟩ := h.at_ i q p hq hp
  exact ⟨h1, h2, h3.stay hs⟩, h.i⟩
theorem PtG.wide (h : PtG G w qs ps) (hg : ∀ k, G k → G' k) : PtG G' w qs ps := ⟨h.len, fun i q p hq hp => by
  obtain ⟨h1, h2, h3⟩ := h.at_ i q p hq hp
  exact ⟨h1, h2, h3.wide hg⟩, h.i⟩
theorem PtG.nil : PtG G w [] [] := ⟨rfl, fun i q p hq _ => by simp at hq, fun p hp => by cases hp⟩
theorem PtG.snoc {q : QT} {p : Int × List EvT} (h : PtG G w qs ps) (h1 : q.num = p.1) (h2 : q.sl.n ≤ q.sl.c) (h3 : EvG G w q.sl.A q.sl.n p.2) (h4 : N64 p.1) : PtG G w (qs ++ [q]) (ps ++ [p]) := by
  refine ⟨by simp [h.len], fun i q' p' hq hp => ?_, fun p' hp => ?_⟩
  · by_cases hi : i < qs.length
    · rw [List.getElem?_append_left hi] at hq
      rw [List.getElem?_append_left (by rw [← h.len]; exact hi)] at hp
      exact h.at_ i q' p' hq hp
    · rw [List.getElem?_append_right (by omega)] at hq
      rw [List.getElem?_append_right (by rw [← h.len]; omega), ← h.len] at hp
      have h0 : i - qs.length = 0 := by have := (List.getElem?_eq_some_iff.1 hq).1; simp at this; omega
      rw [h0] at hq hp
      obtain rfl : q = q' := by simpa using hq
      obtain rfl : p = p' := by simpa using hp
      exact ⟨h1, h2, h3⟩
  · rcases List.mem_append.1 hp with hp | hp
    · exact h.i p' hp
    · obtain rfl : p' = p := by simpa using hp
      exact h4
theorem PtG.take_ (h : PtG G w qs ps) (k : Nat) : PtG G w (qs.take k) (ps.take k) := ⟨by simp [h.len], fun i q p hq hp => (by
  rw [List.getElem?_take] at hq hp
  split at hq
  · rename_i hi
    rw [if_pos hi] at hp
    exact h.at_ i q p hq hp
  · cases hq), fun p hp => h.i p (List.mem_of_mem_take hp)⟩
theorem OwnQ.rG (h : OwnQ W base A n c qs) : ∀ (i : Nat) (q : QT), qs[i]? = some q → ∃ b off, A = some ⟨b, off, none⟩ ∧ (base ≤ b ∧ b < W.heap.size) ∧ W.rangeAt b (off + i * 2) (cellQ q) := fun i q hq => by
  obtain ⟨b, off, h1, h2, h3⟩ := h.rd i q hq
  exact ⟨b, off, h1, ⟨(h.o.lt b (by subst h1; rfl)).1, h2⟩, h3⟩
theorem MG.rdQ (h : MG G w A n c qs P) : RdQ w.heap.size w A qs := fun i q hq => by
  obtain ⟨b, off, h1, h2, h3⟩ := h.r i q hq
  exact ⟨b, off, h1, h.lt b h2, h3⟩
theorem MG.ptR (h : MG G w A n c qs P) : PtR w.heap.size w A n (allPs P) := ptR_of h.rdQ (h.p.ptQ h.lt) h.n
theorem MG.stay (h : MG G w A n c qs P) (hw : w.heap.size ≤ w'.heap.size) (hs : ∀ k, G k → w'.heap[k]? = w.heap[k]?) : MG G w' A n c qs P :=
  ⟨fun k hk => Nat.lt_of_lt_of_le (h.lt k hk) hw, h.c, h.n, fun i q hq => by
    obtain ⟨b, off, h1, h2, h3⟩ := h.r i q hq
    exact ⟨b, off, h1, h2, range_same h3 (hs b h2)⟩, h.p.stay hs⟩
theorem MG.below (h : MG G w A n c qs P) (hb : Below w.heap.size w w') : MG G w' A n c qs P := h.stay hb.size fun k hk => hb.block k (h.lt k hk)
/-- The blocks of a journal that was made of an older one. -/
def NewG (G : Nat → Prop) (w w' : World) (k : Nat) : Prop := k < w'.heap.size ∧ (G k ∨ w.heap.size ≤ k)
theorem newG_old (hlt : ∀ k, G k → k < w.heap.size) (hb : Below w.heap.size w w') : ∀ k, G k → NewG G w w' k := fun k hk => ⟨Nat.lt_of_lt_of_le (hlt k hk) hb.size, .inl hk⟩
theorem newG_new : ∀ k, w.heap.size ≤ k ∧ k < w'.heap.size → NewG G w w' k := fun _ hk => ⟨hk.2, .inr hk.1⟩
theorem MG.made {A' : Option Addr} {n' c' : Nat} {qs' : List QT} {P' : PT} (hc : n' ≤ c') (ho : OwnQ w' w.heap.size A' n' c' qs') (hp : PtG (NewG G w w') w' qs' (allPs P')) : MG (NewG G w w') w' A' n' c' qs' P' :=
  ⟨fun _ hk => hk.1, hc, ho.len, fun i q hq => by
    obtain ⟨b, off, h1, h2, h3⟩ := ho.rG i q hq
    exact ⟨b, off, h1, newG_new b h2, h3⟩, hp⟩
/-- A checkpoint more. -/
theorem MG.mark {A' : Option Addr} {c' : Nat} (h : MG G w A n c qs P) (hl : N64 (P.last + 1)) (hb : Below w.heap.size w w') (ho : OwnQ w' w.heap.size A' (n + 1) c' (qs ++ [⟨P.last + 1, ⟨none, 0, 0⟩⟩])) :
    MG (NewG G w w') w' A' (n + 1) c' (qs ++ [⟨P.last + 1, ⟨none, 0, 0⟩⟩]) (markP P) :=
  MG.made ho.cap ho (((h.below hb).p.wide (newG_old h.lt hb)).snoc (q := ⟨P.last + 1, ⟨none, 0, 0⟩⟩) (p := (P.last + 1, [])) rfl (Nat.le_refl _) EvG.nil hl)
/-- Behind a checkpoint stands just that list. -/
theorem MG.back {A' Al : Option Addr} {c' nl cl i : Nat} {x : Int} {qt : QT} {ev : List EvT} (h : MG G w A n c qs P) (hi : idxP P.r x = some i) (hq : qs[i + 1]? = some qt) (hb : Below w.heap.size w w')
    (ho : OwnQ w' w.heap.size A' (i + 1 + 1) c' (qs.take (i + 1) ++ [⟨qt.num, ⟨Al, nl, cl⟩⟩])) (hc : nl ≤ cl) (hv : EvG (NewG G w w') w' Al nl ev) :
    MG (NewG G w w') w' A' (i + 1 + 1) c' (qs.take (i + 1) ++ [⟨qt.num, ⟨Al, nl, cl⟩⟩]) (backP P x i ev) := by
  obtain ⟨lx, hx⟩ := idx_at hi
  have hp : (allPs P)[i + 1]? = some (x, lx) := hx
  have hnum := (h.p.at_ _ _ _ hq hp).1
  refine MG.made ho.cap ho ?_
  have e : allPs (backP P x i ev) = (allPs P).take (i + 1) ++ [(x, ev)] := rfl
  rw [e]
  exact (((h.below hb).p.wide (newG_old h.lt hb)).take_ (i + 1)).snoc (q := ⟨qt.num, ⟨Al, nl, cl⟩⟩) (p := (x, ev)) hnum hc hv (h.p.i (x, lx) (List.mem_of_getElem? hp))
end
/-- The parts behind more events. -/
theorem appLast_at : ∀ (r : List (Int × List EvT)) (l : List EvT) (i : Nat), (appLast r l)[i]? = r[i]?.map fun p => (p.1, if i + 1 = r.length then p.2 ++ l else p.2)
  | [], l, i => by simp [appLast]
  | p :: r, l, i => by
    simp only [appLast]
    by_cases hr : r = []
    · subst hr
      rw [if_pos rfl]
      cases i with
      | zero => simp
      | succ i => simp
    · rw [if_neg hr]
      cases i with
      | zero =>
        simp [hr]
      | succ i =>
        simp only [List.getElem?_cons_succ, List.length_cons]
        rw [appLast_at r l i]
        simp
theorem add_at (P : PT) (l : List EvT) (i : Nat) : (allPs (addP P l))[i]? = (allPs P)[i]?.map fun p => (p.1, if i + 1 = (allPs P).length then p.2 ++ l else p.2) := by
  unfold addP allPs
  by_cases hr : P.r = []
  · rw [if_pos hr, hr]
    cases i with
    | zero => simp
    | succ i => simp
  · rw [if_neg hr]
    cases i with
    | zero =>
      simp [hr]
    | succ i =>
      simp only [List.getElem?_cons_succ, List.length_cons]
      rw [appLast_at P.r l i]
      simp
theorem add_len (P : PT) (l : List EvT) : (allPs (addP P l)).length = (allPs P).length := by
  refine Nat.le_antisymm (Nat.le_of_not_lt fun h => ?_) (Nat.le_of_not_lt fun h => ?_)
  · have := add_at P l (allPs P).length
    rw [List.getElem?_eq_getElem h, List.getElem?_eq_none (Nat.le_refl _)] at this; cases this
  · have := add_at P l (allPs (addP P l)).length
    rw [List.getElem?_eq_none (Nat.le_refl _), List.getElem?_eq_getElem h] at this; cases this
theorem add_last (P : PT) (l : List EvT) : (addP P l).last = P.last := by unfold addP; split <;> rfl
end Go.Proofs.Ytncmfkmgaghklaa
