/- Layer 7: two copies of one card, each in blocks of its own, and what stays of them while one is written into. -/
import Derived.Test.YtnlhblnkckkeiaaCardSaid
namespace Go.Proofs.Ytnlhblnkckkeiaa
open Go.RowKit Ex Mx
section
variable {Q : Nat → Prop} {w : World} {d : Nat} {cs : Array Value} {c : CardT}
theorem ReadsCQ.size (h : ReadsCQ Q w d cs c) : cs.size = 13 := by
  obtain ⟨_, _, _, _, _, _, A, cc, rfl, _⟩ := h
  simp [cardC, arr_size]
theorem ReadsCQ.one (h : ReadsCQ Q w d cs c) : cs.all (·.oneCell') = true := by
  obtain ⟨_, _, _, _, _, _, A, cc, rfl, _⟩ := h
  have h2 := arr_one .i64 6 c.cost
  simp only [cardC, Array.all_append, h2]; simp [Value.oneCell']
theorem ReadsCQ.info (h : ReadsCQ Q w d cs c) : (Try.prog.info? 26).map (·.size) = some cs.size := by rw [h.size]; exact size13
end
/-- Two boxes with two cards that read as c, in blocks apart from each other. -/
def Two (w4 : World) (c : CardT) (p q : Value) (W : World) : Prop :=
  ∃ (g5 g6 d1 d3 : Nat) (cs1 cs3 : Array Value) (Q1 Q3 : Nat → Prop), p = .pointer (some ⟨g5, 0, none⟩) ∧ q = .pointer (some ⟨g6, 0, none⟩) ∧ CdAt W g5 cs1 ∧ CdAt W g6 cs3 ∧ ReadsCQ Q1 W d1 cs1 c ∧ ReadsCQ Q3 W d3 cs3 c ∧
    Below w4.heap.size w4 W ∧ (∀ b, Q1 b → w4.heap.size ≤ b ∧ b < W.heap.size ∧ b ≠ g5 ∧ b ≠ g6 ∧ ¬ Q3 b) ∧ (∀ b, Q3 b → w4.heap.size ≤ b ∧ b < W.heap.size ∧ b ≠ g5 ∧ b ≠ g6) ∧ w4.heap.size ≤ g5
theorem two_fin {w4 W : World} {c : CardT} {g5 g6 d1 d3 : Nat} {cs1 cs3 : Array Value} {Q1 Q3 : Nat → Prop} (h1 : ReadsCQ Q1 W d1 cs1 c) (h3 : ReadsCQ Q3 W d3 cs3 c) (hx : CdAt W g5 zeroD) (hx' : CdAt W g6 zeroD) (hB : Below w4.heap.size w4 W)
    (hne : g5 ≠ g6) (hq1 : ∀ b, Q1 b → w4.heap.size ≤ b ∧ b < W.heap.size ∧ b ≠ g5 ∧ b ≠ g6 ∧ ¬ Q3 b) (hq3 : ∀ b, Q3 b → w4.heap.size ≤ b ∧ b < W.heap.size ∧ b ≠ g5 ∧ b ≠ g6) (hg5 : w4.heap.size ≤ g5) (hg6 : w4.heap.size ≤ g6) :
    Two w4 c (.pointer (some ⟨g5, 0, none⟩)) (.pointer (some ⟨g6, 0, none⟩)) ((W.setRow g5 cs1).setRow g6 cs3) := by
  have keep : ∀ b, b ≠ g5 → b ≠ g6 → ((W.setRow g5 cs1).setRow g6 cs3).heap[b]? = W.heap[b]? := fun b n1 n2 => (setRow_other _ _ _ _ n2).trans (setRow_other _ _ _ _ n1)
  refine ⟨g5, g6, d1, d3, cs1, cs3, Q1, Q3, rfl, rfl, ?_, ?_, h1.keep (fun b hb => keep b (hq1 b hb).2.2.1 (hq1 b hb).2.2.2.1) (fun _ h => h), h3.keep (fun b hb => keep b (hq3 b hb).2.2.1 (hq3 b hb).2.2.2) (fun _ h => h),
    below_setRow (below_setRow hB _ _ hg5) _ _ hg6, fun b hb => ?_, fun b hb => ?_, hg5⟩
  · exact (setRow_other _ _ _ _ hne).trans (setRow_heap _ _ _ _ _ _ hx)
  · exact setRow_heap _ _ _ _ _ _ ((setRow_other _ _ _ _ (Ne.symm hne)).trans hx')
  · have := hq1 b hb; simp only [setRow_size]; exact this
  · have := hq3 b hb; simp only [setRow_size]; exact this
/-- The shape of a list of effects whose numbers are written. -/
def SpI (Q : Nat → Prop) (w : World) (A2 : Option Addr) (k2 : Nat) : Prop := ∀ j, j < k2 → ∃ b2 o2, A2 = some ⟨b2, o2 * 5, none⟩ ∧ Q b2 ∧ (∃ cur, w.heap[b2]? = some (.cells cur 42 (0, 0))) ∧ ∃ n : Int, w.cell? ⟨b2, (o2 + j) * 5 + 1, none⟩ = some (.int .i64 n)
theorem SpI.set_ {Q : Nat → Prop} {w : World} {A2 : Option Addr} {k2 : Nat} (h : SpI Q w A2 k2) (g q : Nat) (x old : Int) (hold : w.cell? ⟨g, q, none⟩ = some (.int .i64 old)) : SpI Q (w.setCell ⟨g, q, none⟩ (.int .i64 x)) A2 k2 := fun j hj => by
  obtain ⟨b2, o2, g1, g2, g3, n, hn⟩ := h j hj
  refine ⟨b2, o2, g1, g2, typed_set g3 g q _, ?_⟩
  by_cases e : b2 = g ∧ (o2 + j) * 5 + 1 = q
  · obtain ⟨rfl, rfl⟩ := e
    exact ⟨x, World.cell?_setCell_same (h := hold) ..⟩
  · exact ⟨n, by rw [World.cell?_setCell_other (h := by intro h; injection h with h1 h2; exact e ⟨h1.symm, h2.symm⟩)]; exact hn⟩
/-- What stands while the first is written into. -/
structure LpS (w4 : World) (N : Nat) (c : CardT) (g5 g6 d3 : Nat) (cs1 cs3 : Array Value) (Q1 Q3 : Nat → Prop) (A : Option Addr) (W : World) : Prop where
  sp : SpC Q1 W A c.abs.length
  cd : CdAt W g5 cs1
  cd' : CdAt W g6 cs3
  rd : ReadsCQ Q3 W d3 cs3 c
  b : Below w4.heap.size w4 W
  sz : N ≤ W.heap.size
theorem LpS.set_ {w4 : World} {N : Nat} {c : CardT} {g5 g6 d3 : Nat} {cs1 cs3 : Array Value} {Q1 Q3 : Nat → Prop} {A : Option Addr} {W : World} (h : LpS w4 N c g5 g6 d3 cs1 cs3 Q1 Q3 A W) (hq : ∀ b, Q1 b → w4.heap.size ≤ b ∧ b ≠ g5 ∧ b ≠ g6 ∧ ¬ Q3 b)
    (g q : Nat) (x old : Int) (hg : Q1 g) (hold : W.cell? ⟨g, q, none⟩ = some (.int .i64 old))
    (hp : ((∃ cur, W.heap[g]? = some (.cells cur 44 (0, 0))) ∧ ∃ m, q = m * 14) ∨ ((∃ cur, W.heap[g]? = some (.cells cur 42 (0, 0))) ∧ ∃ m, q = m * 5 + 1)) :
    LpS w4 N c g5 g6 d3 cs1 cs3 Q1 Q3 A (W.setCell ⟨g, q, none⟩ (.int .i64 x)) := by
  obtain ⟨h1, h2, h3, h4⟩ := hq g hg
  have keep : ∀ b, b ≠ g → (W.setCell ⟨g, q, none⟩ (.int .i64 x)).heap[b]? = W.heap[b]? := fun b n => heap_setCell_other W ⟨g, q, none⟩ b _ (by simpa using n)
  exact ⟨h.sp.set_ g q x old hold hp, (keep _ (Ne.symm h2)).trans h.cd, (keep _ (Ne.symm h3)).trans h.cd', h.rd.keep (fun b hb => keep b (fun e => h4 (e ▸ hb))) (fun _ h => h), h.b.setCell h1 _, by simpa [World.setCell] using h.sz⟩
theorem SpC.keep {Q : Nat → Prop} {w w' : World} {A : Option Addr} {k : Nat} (h : SpC Q w A k) (hb : ∀ b, Q b → w'.heap[b]? = w.heap[b]?) : SpC Q w' A k := fun i hi => by
  obtain ⟨b, o, h1, h2, h3, h4, A2, k2, c2, h5, h6, h7⟩ := h i hi
  refine ⟨b, o, h1, h2, by rw [hb b h2]; exact h3, by rw [World.cell?_of_block (hb b h2)]; exact h4, A2, k2, c2, by rw [World.cell?_of_block (hb b h2)]; exact h5, h6, fun j hj => ?_⟩
  obtain ⟨b2, o2, g1, g2, g3, g4⟩ := h7 j hj
  exact ⟨b2, o2, g1, g2, by rw [hb b2 g2]; exact g3, by rw [World.cell?_of_block (hb b2 g2)]; exact g4⟩
theorem LpS.below {w4 : World} {N : Nat} {c : CardT} {g5 g6 d3 : Nat} {cs1 cs3 : Array Value} {Q1 Q3 : Nat → Prop} {A : Option Addr} {W W' : World} (h : LpS w4 N c g5 g6 d3 cs1 cs3 Q1 Q3 A W) (hb : Below W.heap.size W W') (h1 : ∀ b, Q1 b → b < W.heap.size) (h3 : ∀ b, Q3 b → b < W.heap.size) :
    LpS w4 N c g5 g6 d3 cs1 cs3 Q1 Q3 A W' :=
  ⟨h.sp.keep (fun b q => hb.block b (h1 b q)), h.cd.keep hb, h.cd'.keep hb, h.rd.keep (fun b q => hb.block b (h3 b q)) (fun _ q => q), keepB hb h.b, Nat.le_trans h.sz hb.size⟩
end Go.Proofs.Ytnlhblnkckkeiaa
