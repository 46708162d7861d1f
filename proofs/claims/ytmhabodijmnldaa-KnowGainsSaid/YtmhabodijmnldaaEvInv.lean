/- Layer 12: the reference's Invert. -/
import Derived.Test.YtmhabodijmnldaaEvT
import Derived.Test.YtmhabodijmnldaaReg
import Derived.Deep.Cut
import Derived.WalkMore
namespace Go.Proofs.Ytmhabodijmnldaa
open Go.RowKit Ex
set_option maxRecDepth 100000
/-- An event's six cells. -/
def evC (e : EvT) : Array Value := #[.int .i64 e.k, .int .i64 e.a, .int .i64 e.b, .int .i64 e.c, .int .i64 e.d, .int .i64 e.e]
def EvB (w : World) (g : Nat) (e : EvT) : Prop := w.heap[g]? = some (.cells (evC e) 44 (0, 0))
theorem evC_one (e : EvT) : (evC e).all (·.oneCell') = true := by simp [evC, Value.oneCell']
theorem ev_size (e : EvT) : (Try.prog.info? 44).map (·.size) = some (evC e).size := by kernel_rfl
def ev0 : EvT := ⟨0, 0, 0, 0, 0, 0⟩
theorem ev_box (wr : World) (e : EvT) : ∃ w3, w3 = (wr.alloc (.cells (evC ev0) 44)).setRow wr.heap.size (evC e) ∧ EvB w3 wr.heap.size e ∧ Below wr.heap.size wr w3 := by
  refine ⟨_, rfl, ?_, below_setRow ((Below.refl _ _).alloc (Nat.le_refl _) _) _ _ (Nat.le_refl _)⟩
  unfold EvB
  exact setRow_heap _ _ _ _ _ _ (heap_alloc_new _ _)
theorem ev0_is : #[Value.int .i64 0, .int .i64 0, .int .i64 0, .int .i64 0, .int .i64 0, .int .i64 0] = evC ev0 := rfl
theorem EvB.cells {w : World} {g : Nat} {e : EvT} (h : EvB w g e) : w.cell? ⟨g, 0, none⟩ = some (.int .i64 e.k) ∧ w.cell? ⟨g, 1, none⟩ = some (.int .i64 e.a) ∧ w.cell? ⟨g, 2, none⟩ = some (.int .i64 e.b) ∧ w.cell? ⟨g, 3, none⟩ = some (.int .i64 e.c) ∧ w.cell? ⟨g, 4, none⟩ = some (.int .i64 e.d) ∧ w.cell? ⟨g, 5, none⟩ = some (.int .i64 e.e) :=
  ⟨cell_of_row w g 0 _ _ _ h, cell_of_row w g 1 _ _ _ h, cell_of_row w g 2 _ _ _ h, cell_of_row w g 3 _ _ _ h, cell_of_row w g 4 _ _ _ h, cell_of_row w g 5 _ _ _ h⟩
theorem EvB.lt {w : World} {g : Nat} {e : EvT} (h : EvB w g e) : g < w.heap.size := (Array.getElem?_eq_some_iff.1 h).1
theorem EvB.keep {w w' : World} {g : Nat} {e : EvT} (h : EvB w g e) (hb : Below w.heap.size w w') : EvB w' g e := (hb.block g h.lt).trans h
theorem results_cellE {P : Program} {fn : Func} {p : Tmp} {ty : TypeId} (h : fn.results = #[.cell p ty]) (tmps : Array Value) (w : World) (g : Nat) (t : TypeId) (cs : Array Value) (fr : Nat × Nat) (d : TypeDesc)
    (hp : tmps.getD p undef = .pointer (some ⟨g, 0, none⟩)) (hg : w.heap[g]? = some (.cells cs t fr))
    (hu : P.underlying ty = some d) (hd : (match d with | .struct _ | .array _ _ => true | _ => false) = true) (hi : (P.info? ty).map (·.size) = some cs.size) :
    (results fn tmps).run P w = .ok (.agg cs) w := by
  have hp' : tmps[p]?.getD undef = .pointer (some ⟨g, 0, none⟩) := by simpa using hp
  simp [results, h, hp', asAddr, run_loadVar_row w g t ty cs fr d hg hu hd hi]
theorem EvB.set_ {w : World} {g : Nat} {e e' : EvT} (h : EvB w g e) (i : Nat) (v : Value) (he : (evC e).setIfInBounds i v = evC e') : EvB (w.setCell ⟨g, i, none⟩ v) g e' := by
  unfold EvB
  rw [heap_setCell_same w g i _ _ _ h, he]
theorem EvB.far {w : World} {g g' : Nat} {e : EvT} (h : EvB w g e) (hg : g ≠ g') (i : Nat) (v : Value) : EvB (w.setCell ⟨g', i, none⟩ v) g e :=
  (heap_setCell_other w ⟨g', i, none⟩ g v (by simpa using hg)).trans h
end Go.Proofs.Ytmhabodijmnldaa
