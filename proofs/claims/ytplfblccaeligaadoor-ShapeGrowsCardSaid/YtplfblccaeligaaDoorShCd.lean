/- Layer 17: a card that is answered; a number of an object in a list. -/
import Derived.Test.YtplfblccaeligaaDoorShMath
import Derived.Test.YtplfblccaeligaaDoorCq
import Derived.Test.YtplfblccaeligaaDoorShG4
namespace Go.Proofs.YtplfblccaeligaaDoor
open Go.RowKit Ex Mx
set_option maxRecDepth 100000
/-- A number of an object in a list. -/
theorem obj_num {B : Nat} {w : World} {A : Option Addr} {l : List (Nat → Int)} (h : RdO B w A l) {k : Nat} {o : Nat → Int} (ho : l[k]? = some o) : ∃ b off, A = some ⟨b, off, none⟩ ∧ b < B ∧ ∀ j, j < 18 → w.cell? ⟨b, off + k * 18 + j, none⟩ = some (.int .i64 (o j)) := by
  obtain ⟨b, off, e, hb, hr⟩ := h k o ho
  refine ⟨b, off, e, hb, fun j hj => ?_⟩
  have hjl : j < (arr .i64 18 o).toList.length := by rw [Array.length_toList, arr_size]; exact hj
  refine hr j (.int .i64 (o j)) ?_
  rw [Array.getElem?_toList]
  exact arr_get _ _ _ hj
theorem results_cellS {P : Program} {fn : Func} {p : Tmp} {ty : TypeId} (h : fn.results = #[.cell p ty]) (tmps : Array Value) (w : World) (g : Nat) (t : TypeId) (cs : Array Value) (fr : Nat × Nat) (d : TypeDesc)
    (hp : tmps.getD p undef = .pointer (some ⟨g, 0, none⟩)) (hg : w.heap[g]? = some (.cells cs t fr))
    (hu : P.underlying ty = some d) (hd : (match d with | .struct _ | .array _ _ => true | _ => false) = true) (hi : (P.info? ty).map (·.size) = some cs.size) :
    (results fn tmps).run P w = .ok (.agg cs) w := by
  have hp' : tmps[p]?.getD undef = .pointer (some ⟨g, 0, none⟩) := by simpa using hp
  simp [results, h, hp', asAddr, run_loadVar_row w g t ty cs fr d hg hu hd hi]
theorem card_kind (c : CardT) (A : Option Addr) (k cc : Nat) (W : World) : (Instr.field 55 (.agg (cardC c A k cc)) 0).run Tryd.prog W = .ok (.int .i64 c.kind) W := by
  unfold cardC
  rw [arr6]; kernel_rfl
theorem card_list (c : CardT) (A : Option Addr) (k cc : Nat) (W : World) : (Instr.field 55 (.agg (cardC c A k cc)) 7).run Tryd.prog W = .ok (.slice A k cc) W := by
  unfold cardC
  rw [arr6]; kernel_rfl
/-- A card that is answered. -/
def CdP (c : CardT) (w : World) (en : Ending) (w' : World) : Prop := ∃ cs, en = .returned (.agg cs) ∧ ReadsCQ (fun b => w.heap.size ≤ b ∧ b < w'.heap.size) w' 2 cs c ∧ Below w.heap.size w w'
end Go.Proofs.YtplfblccaeligaaDoor
