/- Layer 9: what list's calls answer, as one statement: the laws' walks take it, the code's walks prove it. -/
import Derived.Test.YtcnfpjghjdmefaaLstRef2
namespace Go.Proofs.Ytcnfpjghjdmefaa
open Go.RowKit Ex
set_option maxRecDepth 100000
/-- A list in blocks from base on, that may be written into. -/
def Mine (w : World) (base : Nat) (A : Option Addr) (n c : Nat) (l : List Int) : Prop :=
  Nums .i64 w w.heap.size A n l ∧ n ≤ c ∧ ∀ a, A = some a → ∃ g o cs t, a = ⟨g, o, none⟩ ∧ base ≤ g ∧ w.heap[g]? = some (.cells cs t (0, 0))
theorem Mine.of_own {w : World} {base : Nat} {A : Option Addr} {n c : Nat} {l : List Int} (h : Own .i64 3 w base A n c l) : Mine w base A n c l := by
  refine ⟨h.nums, h.cap, fun a ha => ?_⟩
  rcases h.2.2 with ⟨hv, _⟩ | ⟨g, cap, cur, hv, hb, hg, _⟩
  · injection hv with h1; rw [h1] at ha; cases ha
  · injection hv with h1
    rw [h1] at ha
    injection ha with ha
    exact ⟨g, 0, _, _, ha.symm, hb, hg⟩
theorem Mine.len {w : World} {base : Nat} {A : Option Addr} {n c : Nat} {l : List Int} (h : Mine w base A n c l) : l.length = n := h.1.len
theorem Mine.keep {w w' : World} {base : Nat} {A : Option Addr} {n c : Nat} {l : List Int} (h : Mine w base A n c l) (hb : Below w.heap.size w w') : Mine w' base A n c l := by
  refine ⟨(h.1.below hb).more hb.size, h.2.1, fun a ha => ?_⟩
  obtain ⟨g, o, cs, t, e, h1, h2⟩ := h.2.2 a ha
  exact ⟨g, o, cs, t, e, h1, (hb.block g (Array.getElem?_eq_some_iff.1 h2).1).trans h2⟩
/-- A number of it is written. -/
theorem Mine.set_ {w : World} {base g o n c : Nat} {l : List Int} (h : Mine w base (some ⟨g, o, none⟩) n c l) (i : Nat) (v : Int) : Mine (w.setCell ⟨g, o + i, none⟩ (.int .i64 v)) base (some ⟨g, o, none⟩) n c (l.set i v) := by
  obtain ⟨⟨hl, hN⟩, hc, hA⟩ := h
  obtain ⟨g', o', cs, t, e, h1, h2⟩ := hA _ rfl
  injection e with e1 e2
  subst e1 e2
  refine ⟨⟨by rw [List.length_set]; exact hl, fun j u hu => ⟨_, rfl, by simp [World.setCell]; exact (Array.getElem?_eq_some_iff.1 h2).1, ?_⟩⟩, hc, fun a ha => ⟨g, o, _, t, (Option.some.inj ha).symm, h1, heap_setCell_same w g (o + i) _ _ _ h2⟩⟩
  rw [Addr.add_mid]
  by_cases e : i = j
  · subst e
    have hj : i < l.length := by rw [← List.length_set (i := i) (a := v)]; exact (List.getElem?_eq_some_iff.1 hu).1
    rw [List.getElem?_set_self hj] at hu
    injection hu with hu
    subst hu
    obtain ⟨a, ea, _, hcell⟩ := hN i _ (List.getElem?_eq_getElem hj)
    injection ea with ea
    subst ea
    rw [Addr.add_mid] at hcell
    exact World.cell?_setCell_same (h := hcell) ..
  · rw [List.getElem?_set_ne e] at hu
    obtain ⟨a, ea, _, hcell⟩ := hN j u hu
    injection ea with ea
    subst ea
    rw [Addr.add_mid] at hcell
    rw [World.cell?_setCell_other (h := by intro h; injection h with h1 h2; omega)]
    exact hcell
theorem Mine.other {w : World} {base : Nat} {A : Option Addr} {n c : Nat} {l : List Int} (h : Mine w base A n c l) {g q : Nat} (hg : g < base) (v : Value) : Mine (w.setCell ⟨g, q, none⟩ v) base A n c l := by
  obtain ⟨⟨hl, hN⟩, hc, hA⟩ := h
  refine ⟨⟨hl, fun j u hu => ?_⟩, hc, fun a ha => ?_⟩
  · obtain ⟨a, ea, hb, hcell⟩ := hN j u hu
    obtain ⟨g', o', cs, t, e, h1, h2⟩ := hA a ea
    refine ⟨a, ea, by simpa [World.setCell] using hb, ?_⟩
    rw [World.cell?_setCell_other (h := by
      intro h
      have := congrArg Addr.block h
      rw [addr_block, e] at this
      simp at this
      omega)]
    exact hcell
  · obtain ⟨g', o', cs, t, e, h1, h2⟩ := hA a ha
    exact ⟨g', o', cs, t, e, h1, (heap_setCell_other w ⟨g, q, none⟩ g' v (by simp; omega)).trans h2⟩
/-- A list as it comes in. -/
structure LsIn (w : World) (A : Option Addr) (n c : Nat) (l : List Int) : Prop where
  N : Nums .i64 w w.heap.size A n l
  cap : n ≤ c
  few : n ≤ 1000
  wf : ∀ x ∈ l, -9223372036854775808 ≤ x ∧ x ≤ 9223372036854775807
abbrev I64 (x : Int) : Prop := -9223372036854775808 ≤ x ∧ x ≤ 9223372036854775807
theorem LsIn.grow {w w' : World} {A : Option Addr} {n c : Nat} {l : List Int} (h : LsIn w A n c l) (hb : Below w.heap.size w w') : LsIn w' A n c l := ⟨(h.N.below hb).more hb.size, h.cap, h.few, h.wf⟩
/-- An answer: a list, if there is one; else none, and the error k. -/
def LstR (ok : Prop) (l : List Int) (k : Int) (w : World) (e : Ending) (w' : World) : Prop := Below w.heap.size w w' ∧
  ((ok ∧ ∃ A n c, e = .returned (.tuple #[.slice A n c, .nilIface]) ∧ Mine w' w.heap.size A n c l) ∨ (¬ ok ∧ ∃ A c, e = .returned (.tuple #[.slice A 0 c, errV k])))
def Within (n : Nat) (x : Int) : Prop := 0 ≤ x ∧ x < n
/-- What Remove answers: the list without a place, and what stood there. -/
def RemR (n : Nat) (p : Int) (l : List Int) (w : World) (e : Ending) (w' : World) : Prop := Below w.heap.size w w' ∧
  ((Within n p ∧ ∃ A' n' c', e = .returned (.tuple #[.slice A' n' c', .int .i64 (l.getD p.toNat 0), .nilIface]) ∧ Mine w' w.heap.size A' n' c' (rmL l p.toNat)) ∨ (¬ Within n p ∧ ∃ A' c', e = .returned (.tuple #[.slice A' 0 c', .int .i64 0, errV 1])))
/-- In every world that keeps what stands in z. -/
structure LstSaid (z : World) : Prop where
  ins : ∀ (A : Option Addr) (n c : Nat) (l : List Int) (p x : Int) (w : World), LsIn w A n c l → I64 p → I64 x → Below z.heap.size z w →
    Calls Try.prog 8 #[.slice A n c, .int .i64 p, .int .i64 x] w (LstR (Within (n + 1) p) (insL l p.toNat x) 1 w)
  rem : ∀ (A : Option Addr) (n c : Nat) (l : List Int) (p : Int) (w : World), LsIn w A n c l → I64 p → Below z.heap.size z w →
    Calls Try.prog 9 #[.slice A n c, .int .i64 p] w (RemR n p l w)
  idx : ∀ (A : Option Addr) (n c : Nat) (l : List Int) (x : Int) (w : World), LsIn w A n c l → I64 x → Below z.heap.size z w →
    Calls Try.prog 15 #[.slice A n c, .int .i64 x] w fun e w' => e = .returned (.int .i64 (idxL l x)) ∧ Below w.heap.size w w'
  mov : ∀ (A : Option Addr) (n c : Nat) (l : List Int) (p q : Int) (w : World), LsIn w A n c l → I64 p → I64 q → Below z.heap.size z w →
    Calls Try.prog 14 #[.slice A n c, .int .i64 p, .int .i64 q] w (LstR (Within n p ∧ Within n q) (mvL l p.toNat q.toNat) 1 w)
  deal : ∀ (A A2 : Option Addr) (n c n2 c2 : Nat) (l o : List Int) (w : World), LsIn w A n c l → LsIn w A2 n2 c2 o → Below z.heap.size z w →
    Calls Try.prog 19 #[.slice A n c, .slice A2 n2 c2] w (LstR (dealOk l.length o) (dealL l o) 2 w)
  once : ∀ (A : Option Addr) (n c : Nat) (l : List Int) (w : World), LsIn w A n c l → Below z.heap.size z w →
    Calls Try.prog 17 #[.slice A n c] w fun e w' => e = .returned (.bool (decide l.Nodup)) ∧ Below w.heap.size w w'
  rev : ∀ (A : Option Addr) (n c : Nat) (l : List Int) (w : World), LsIn w A n c l → Below z.heap.size z w →
    Calls Try.prog 21 #[.slice A n c] w fun e w' => Below w.heap.size w w' ∧ ∃ A' n' c', e = .returned (.slice A' n' c') ∧ Mine w' w.heap.size A' n' c' l.reverse
end Go.Proofs.Ytcnfpjghjdmefaa
