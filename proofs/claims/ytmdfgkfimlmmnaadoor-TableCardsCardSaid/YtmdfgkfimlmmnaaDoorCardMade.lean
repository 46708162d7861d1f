/- Layer 7: a card that a call makes, in blocks of its own, and what is left of its shape when it is written into. -/
import Derived.Test.YtmdfgkfimlmmnaaDoorCard
import Derived.Test.YtmdfgkfimlmmnaaDoorTreeMade
namespace Go.Proofs.YtmdfgkfimlmmnaaDoor
open Go.RowKit Ex Mx
/-- Fourteen cells read as an ability, what is within it in blocks of Q. -/
def ReadsAQ (Q : Nat → Prop) (w : World) (d : Nat) (cs : Array Value) (a : AbT) : Prop := In64 a.when_ ∧ Wide a.cost ∧ In64 a.target ∧ ∃ xs, cs = abC a xs ∧ ReadsQ Q w d xs a.do_
def RdAQ (Q : Nat → Prop) (w : World) (d : Nat) (A : Option Addr) (l : List AbT) : Prop := ∀ (i : Nat) (a : AbT), l[i]? = some a → ∃ b o ys, A = some ⟨b, o * 14, none⟩ ∧ Q b ∧ (∃ cur, w.heap[b]? = some (.cells cur 48 (0, 0))) ∧ w.rangeAt b (o * 14 + i * 14) ys.toList ∧ ReadsAQ Q w d ys a
/-- Thirteen cells read as a card, what is within it in blocks of Q. -/
def ReadsCQ (Q : Nat → Prop) (w : World) (d : Nat) (cs : Array Value) (c : CardT) : Prop := In64 c.kind ∧ In64 c.colour ∧ Wide c.cost ∧ In64 c.power ∧ In64 c.tough ∧ In64 c.says ∧
  ∃ A cc, cs = cardC c A c.abs.length cc ∧ c.abs.length ≤ cc ∧ cc ≤ maxLen ∧ RdAQ Q w d A c.abs
section
variable {Q Q' : Nat → Prop} {w w' : World} {d B : Nat} {cs : Array Value}
theorem ReadsAQ.keep {a : AbT} (hb : ∀ b, Q b → w'.heap[b]? = w.heap[b]?) (hq : ∀ b, Q b → Q' b) (h : ReadsAQ Q w d cs a) : ReadsAQ Q' w' d cs a := by
  obtain ⟨h1, h2, h3, xs, e, hr⟩ := h
  exact ⟨h1, h2, h3, xs, e, hr.keep hb hq⟩
theorem RdAQ.keep {A : Option Addr} {l : List AbT} (hb : ∀ b, Q b → w'.heap[b]? = w.heap[b]?) (hq : ∀ b, Q b → Q' b) (h : RdAQ Q w d A l) : RdAQ Q' w' d A l := fun i a hi => by
  obtain ⟨b, o, ys, h1, h2, ⟨cur, h3⟩, h4, h5⟩ := h i a hi
  exact ⟨b, o, ys, h1, hq b h2, ⟨cur, by rw [hb b h2]; exact h3⟩, fun j v hv => by rw [World.cell?_of_block (hb b h2)]; exact h4 j v hv, h5.keep hb hq⟩
theorem ReadsCQ.keep {c : CardT} (hb : ∀ b, Q b → w'.heap[b]? = w.heap[b]?) (hq : ∀ b, Q b → Q' b) (h : ReadsCQ Q w d cs c) : ReadsCQ Q' w' d cs c := by
  obtain ⟨h1, h2, h3, h4, h5, h6, A, cc, e, hl, hc, hx⟩ := h
  exact ⟨h1, h2, h3, h4, h5, h6, A, cc, e, hl, hc, hx.keep hb hq⟩
theorem ReadsAQ.reads {a : AbT} (hq : ∀ b, Q b → b < B) (h : ReadsAQ Q w d cs a) : ReadsA B w d cs a := by
  obtain ⟨h1, h2, h3, xs, e, hr⟩ := h
  exact ⟨h1, h2, h3, xs, e, hr.reads hq⟩
theorem ReadsCQ.reads {c : CardT} (hq : ∀ b, Q b → b < B) (h : ReadsCQ Q w d cs c) : ReadsC B w d cs c := by
  obtain ⟨h1, h2, h3, h4, h5, h6, A, cc, e, hl, hc, hx⟩ := h
  exact ⟨h1, h2, h3, h4, h5, h6, A, cc, e, hl, hc, fun i a hi => by
    obtain ⟨b, o, ys, g1, g2, _, g4, g5⟩ := hx i a hi
    exact ⟨b, o * 14, ys, g1, hq b g2, g4, g5.reads hq⟩⟩
end
/-- The shape of a list of abilities that is written into: where its numbers lie, and the lists within. -/
def SpC (Q : Nat → Prop) (w : World) (A : Option Addr) (k : Nat) : Prop := ∀ i, i < k → ∃ b o, A = some ⟨b, o * 14, none⟩ ∧ Q b ∧ (∃ cur, w.heap[b]? = some (.cells cur 48 (0, 0))) ∧ (∃ wh : Int, w.cell? ⟨b, (o + i) * 14, none⟩ = some (.int .i64 wh)) ∧
  ∃ A2 k2 c2, w.cell? ⟨b, (o + i) * 14 + 13, none⟩ = some (.slice A2 k2 c2) ∧ k2 ≤ 1000 ∧ ∀ j, j < k2 → ∃ b2 o2, A2 = some ⟨b2, o2 * 5, none⟩ ∧ Q b2 ∧ (∃ cur, w.heap[b2]? = some (.cells cur 46 (0, 0))) ∧ ∃ n : Int, w.cell? ⟨b2, (o2 + j) * 5 + 1, none⟩ = some (.int .i64 n)
theorem typed_set {w : World} {b : Nat} {t : TypeId} (h : ∃ cur, w.heap[b]? = some (.cells cur t (0, 0))) (g q : Nat) (v : Value) : ∃ cur, (w.setCell ⟨g, q, none⟩ v).heap[b]? = some (.cells cur t (0, 0)) := by
  obtain ⟨cur, h⟩ := h
  by_cases e : b = g
  · subst e
    exact ⟨_, heap_setCell_same w b q _ _ v h⟩
  · exact ⟨cur, (heap_setCell_other w ⟨g, q, none⟩ b v (by simpa using e)).trans h⟩
theorem typed_ne {w : World} {b g : Nat} (h : ∃ cur, w.heap[b]? = some (.cells cur 48 (0, 0))) (h' : ∃ cur, w.heap[g]? = some (.cells cur 46 (0, 0))) : b ≠ g := by
  intro e
  subst e
  obtain ⟨c1, h1⟩ := h
  obtain ⟨c2, h2⟩ := h'
  rw [h1] at h2
  simp at h2
/-- A number of it is written: its shape stays. -/
theorem SpC.set_ {Q : Nat → Prop} {w : World} {A : Option Addr} {k : Nat} (h : SpC Q w A k) (g q : Nat) (x old : Int) (hold : w.cell? ⟨g, q, none⟩ = some (.int .i64 old))
    (hp : ((∃ cur, w.heap[g]? = some (.cells cur 48 (0, 0))) ∧ ∃ m, q = m * 14) ∨ ((∃ cur, w.heap[g]? = some (.cells cur 46 (0, 0))) ∧ ∃ m, q = m * 5 + 1)) :
    SpC Q (w.setCell ⟨g, q, none⟩ (.int .i64 x)) A k := by
  have num : ∀ (b p : Nat), (∃ n : Int, w.cell? ⟨b, p, none⟩ = some (.int .i64 n)) → ∃ n : Int, (w.setCell ⟨g, q, none⟩ (.int .i64 x)).cell? ⟨b, p, none⟩ = some (.int .i64 n) := fun b p ⟨n, hn⟩ => by
    by_cases e : b = g ∧ p = q
    · obtain ⟨rfl, rfl⟩ := e
      exact ⟨x, World.cell?_setCell_same (h := hold) ..⟩
    · exact ⟨n, by rw [World.cell?_setCell_other (h := by intro h; injection h with h1 h2; exact e ⟨h1.symm, h2.symm⟩)]; exact hn⟩
  intro i hi
  obtain ⟨b, o, h1, h2, h3, h4, A2, k2, c2, h5, h6, h7⟩ := h i hi
  refine ⟨b, o, h1, h2, typed_set h3 g q _, num _ _ h4, A2, k2, c2, ?_, h6, fun j hj => ?_⟩
  · rw [World.cell?_setCell_other (h := by
      intro e
      injection e with e1 e2
      subst e1
      rcases hp with ⟨_, m, hm⟩ | ⟨ht, _⟩
      · omega
      · exact typed_ne h3 ht rfl)]
    exact h5
  · obtain ⟨b2, o2, g1, g2, g3, g4⟩ := h7 j hj
    exact ⟨b2, o2, g1, g2, typed_set g3 g q _, num _ _ g4⟩
/-- What is made has that shape. -/
theorem ReadsQ.subs {Q : Nat → Prop} {w : World} {d : Nat} {xs : Array Value} {t : ET} (h : ReadsQ Q w d xs t) : ∃ A2 c2, xs[4]? = some (.slice A2 t.subs.length c2) ∧ ∀ j, j < t.subs.length → ∃ b2 o2, A2 = some ⟨b2, o2 * 5, none⟩ ∧ Q b2 ∧ (∃ cur, w.heap[b2]? = some (.cells cur 46 (0, 0))) ∧ ∃ n : Int, w.cell? ⟨b2, (o2 + j) * 5 + 1, none⟩ = some (.int .i64 n) := by
  cases d with
  | zero => exact absurd h id
  | succ d =>
    cases t with
    | node op n m who l =>
      obtain ⟨_, _, _, _, A, c, rfl, _, _, hx⟩ := h
      refine ⟨A, c, rfl, fun j hj => ?_⟩
      obtain ⟨b, o, ys, h1, h2, h4, h3, h5⟩ := hx j _ (List.getElem?_eq_getElem hj)
      obtain ⟨Ax, cx, rfl⟩ := h5.shape
      have hj' : j < l.length := hj
      refine ⟨b, o, h1, h2, h3, (l[j]'hj').n, ?_⟩
      have := h4 1 (.int .i64 (l[j]'hj').n) rfl
      rw [show (o + j) * 5 + 1 = o * 5 + j * 5 + 1 by omega]
      exact this
theorem RdAQ.shape {Q : Nat → Prop} {w : World} {d : Nat} {A : Option Addr} {l : List AbT} (h : RdAQ Q w d A l) (hs : ∀ (i : Nat) (a : AbT), l[i]? = some a → sizeT a.do_ ≤ 300) : SpC Q w A l.length := fun i hi => by
  obtain ⟨b, o, ys, h1, h2, h3, h4, _, _, _, xs, hye, hr⟩ := h i _ (List.getElem?_eq_getElem hi)
  obtain ⟨A2, c2, h5, h6⟩ := hr.subs
  have hsz := hs i _ (List.getElem?_eq_getElem hi)
  have hlen : l[i].do_.subs.length ≤ 300 := by
    have h1 := sizeL_len l[i].do_.subs
    have h2 : sizeT l[i].do_ = 1 + sizeL l[i].do_.subs := by cases l[i].do_; simp [sizeT, ET.subs]
    omega
  refine ⟨b, o, h1, h2, h3, ⟨l[i].when_, ?_⟩, A2, _, c2, ?_, by omega, h6⟩
  · have := h4 0 _ (by rw [hye, Array.getElem?_toList]; exact ab_when)
    rw [show (o + i) * 14 = o * 14 + i * 14 by omega]
    exact this
  · have := h4 13 _ (by rw [hye, Array.getElem?_toList]; exact (ab_op 4).trans h5)
    rw [show (o + i) * 14 + 13 = o * 14 + i * 14 + 13 by omega]
    exact this
end Go.Proofs.YtmdfgkfimlmmnaaDoor
