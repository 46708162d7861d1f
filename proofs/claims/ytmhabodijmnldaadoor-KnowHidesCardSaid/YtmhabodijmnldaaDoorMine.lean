/- A list of numbers in blocks of the call's own, that may be written into. -/
import Derived.Test.YtmhabodijmnldaaDoorSl
import Derived.Test.YtmhabodijmnldaaDoorBase0
import Derived.Deep.MidRow
namespace Go.Proofs.YtmhabodijmnldaaDoor
open Go.RowKit
/-- A list in blocks from base on, that may be written into. -/
def Mine (w : World) (base : Nat) (A : Option Addr) (n c : Nat) (l : List Int) : Prop :=
  Nums .i64 w w.heap.size A n l ∧ n ≤ c ∧ ∀ a, A = some a → ∃ g o cs t, a = ⟨g, o, none⟩ ∧ base ≤ g ∧ w.heap[g]? = some (.cells cs t (0, 0))
theorem Mine.of_own {w : World} {base : Nat} {A : Option Addr} {n c : Nat} {l : List Int} (h : Own .i64 3 w base A n c l) : Mine w base A n c l := by
  refine ⟨h.nums, h.cap, fun a ha => ?_⟩
  rcases h.2.2 with ⟨hv, _⟩ | ⟨g, cap, cur, hv, hb, hg, _⟩
  · injection hv with h1; rw [h1] at ha; cases ha
  · injection hv with h1
    rw [h1] at ha
    injection ha with ha
    exact ⟨g, 0, _, _, ha.symm, hb, hg⟩
theorem Mine.len {w : World} {base : Nat} {A : Option Addr} {n c : Nat} {l : List Int} (h : Mine w base A n c l) : l.length = n := h.1.len
theorem Mine.keep {w w' : World} {base : Nat} {A : Option Addr} {n c : Nat} {l : List Int} (h : Mine w base A n c l) (hb : Below w.heap.size w w') : Mine w' base A n c l := by
  refine ⟨(h.1.below hb).more hb.size, h.2.1, fun a ha => ?_⟩
  obtain ⟨g, o, cs, t, e, h1, h2⟩ := h.2.2 a ha
  exact ⟨g, o, cs, t, e, h1, (hb.block g (Array.getElem?_eq_some_iff.1 h2).1).trans h2⟩
/-- A number of it is written. -/
theorem Mine.set_ {w : World} {base g o n c : Nat} {l : List Int} (h : Mine w base (some ⟨g, o, none⟩) n c l) (i : Nat) (v : Int) : Mine (w.setCell ⟨g, o + i, none⟩ (.int .i64 v)) base (some ⟨g, o, none⟩) n c (l.set i v) := by
  obtain ⟨⟨hl, hN⟩, hc, hA⟩ := h
  obtain ⟨g', o', cs, t, e, h1, h2⟩ := hA _ rfl
  injection e with e1 e2
  subst e1 e2
  refine ⟨⟨by rw [List.length_set]; exact hl, fun j u hu => ⟨_, rfl, by simp [World.setCell]; exact (Array.getElem?_eq_some_iff.1 h2).1, ?_⟩⟩, hc, fun a ha => ⟨g, o, _, t, (Option.some.inj ha).symm, h1, heap_setCell_same w g (o + i) _ _ _ h2⟩⟩
  rw [Addr.add_mid]
  by_cases e : i = j
  · subst e
    have hj : i < l.length := by rw [← List.length_set (i := i) (a := v)]; exact (List.getElem?_eq_some_iff.1 hu).1
    rw [List.getElem?_set_self hj] at hu
    injection hu with hu
    subst hu
    obtain ⟨a, ea, _, hcell⟩ := hN i _ (List.getElem?_eq_getElem hj)
    injection ea with ea
    subst ea
    rw [Addr.add_mid] at hcell
    exact World.cell?_setCell_same (h := hcell) ..
  · rw [List.getElem?_set_ne e] at hu
    obtain ⟨a, ea, _, hcell⟩ := hN j u hu
    injection ea with ea
    subst ea
    rw [Addr.add_mid] at hcell
    rw [World.cell?_setCell_other (h := by intro h; injection h with h1 h2; omega)]
    exact hcell
theorem Mine.other {w : World} {base : Nat} {A : Option Addr} {n c : Nat} {l : List Int} (h : Mine w base A n c l) {g q : Nat} (hg : g < base) (v : Value) : Mine (w.setCell ⟨g, q, none⟩ v) base A n c l := by
  obtain ⟨⟨hl, hN⟩, hc, hA⟩ := h
  refine ⟨⟨hl, fun j u hu => ?_⟩, hc, fun a ha => ?_⟩
  · obtain ⟨a, ea, hb, hcell⟩ := hN j u hu
    obtain ⟨g', o', cs, t, e, h1, h2⟩ := hA a ea
    refine ⟨a, ea, by simpa [World.setCell] using hb, ?_⟩
    rw [World.cell?_setCell_other (h := by
      intro h
      have := congrArg Addr.block h
      rw [addr_block, e] at this
      simp at this
      omega)]
    exact hcell
  · obtain ⟨g', o', cs, t, e, h1, h2⟩ := hA a ha
    exact ⟨g', o', cs, t, e, h1, (heap_setCell_other w ⟨g, q, none⟩ g' v (by simp; omega)).trans h2⟩
/-- All of these blocks stay. -/
def MineA (w : World) (base : Nat) (A : Option Addr) : Prop := ∀ a, A = some a → ∃ g o cs t, a = ⟨g, o, none⟩ ∧ base ≤ g ∧ w.heap[g]? = some (.cells cs t (0, 0))
theorem MineA.stay {w w' : World} {base : Nat} {A : Option Addr} (h : MineA w base A) (hb : ∀ b, base ≤ b → b < w.heap.size → w'.heap[b]? = w.heap[b]?) : MineA w' base A := fun a ha => by
  obtain ⟨g, o, cs, t, e, h1, h2⟩ := h a ha
  exact ⟨g, o, cs, t, e, h1, (hb g h1 (Array.getElem?_eq_some_iff.1 h2).1).trans h2⟩
theorem MineA.base_le {w : World} {base b : Nat} {A : Option Addr} (h : MineA w base A) (hb : b ≤ base) : MineA w b A := fun a ha => by
  obtain ⟨g, o, cs, t, e, h1, h2⟩ := h a ha
  exact ⟨g, o, cs, t, e, by omega, h2⟩
theorem Mine.A {w : World} {base : Nat} {A : Option Addr} {n c : Nat} {l : List Int} (h : Mine w base A n c l) : MineA w base A := h.2.2
theorem Mine.stay {w w' : World} {base : Nat} {A : Option Addr} {n c : Nat} {l : List Int} (h : Mine w base A n c l) (hs : w.heap.size ≤ w'.heap.size) (hb : ∀ b, base ≤ b → b < w.heap.size → w'.heap[b]? = w.heap[b]?) : Mine w' base A n c l := by
  refine ⟨⟨h.1.1, fun i u hu => ?_⟩, h.2.1, MineA.stay h.A hb⟩
  obtain ⟨a, ea, h1, h2⟩ := h.1.2 i u hu
  obtain ⟨g, o, cs, t, e, h3, h4⟩ := h.2.2 a ea
  refine ⟨a, ea, by omega, ?_⟩
  have hg : (a.add i).block = g := by rw [addr_block, e]
  exact (World.cell?_of_block (by rw [hg]; exact hb g h3 (Array.getElem?_eq_some_iff.1 h4).1)).trans h2
end Go.Proofs.YtmhabodijmnldaaDoor
