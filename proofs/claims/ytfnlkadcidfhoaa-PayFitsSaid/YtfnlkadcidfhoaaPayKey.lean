/- Layer 5: the keys of the map that ways are kept in. -/
import Derived.Test.YtfnlkadcidfhoaaPayCount
import Derived.Maps.OwnSet
import Derived.Maps.OwnOps
import Derived.DeepKeys4
namespace Go.Proofs.Ytfnlkadcidfhoaa
open Go.RowKit Mx Yx
/-- A room, and what is owed. -/
def keyF (f : Nat → Int) (s : Int) : Nat → Int := fun i => if i < 6 then f i else s
def keyV (f : Nat → Int) (s : Int) : Value := .agg (arr .i64 7 (keyF f s))
theorem laidOpen : laidOutB Try.prog = true := by kernel_rfl
theorem rowOpen : (51 : TypeId) < Try.prog.types.size := of_decide_eq_true (by kernel_rfl)
theorem wideOpen : (match Try.prog.underlying 51 with | some (.array _ _) | some (.struct _) => true | _ => false) = true := by kernel_rfl
theorem lawOpen : Go.Maps.Keyed Try.prog 51 := Go.Maps.Keyed.of_law (deep_law_laid laidOpen (m := 3) (by omega) rowOpen (by kernel_rfl) wideOpen)
theorem typesOpen : ∃ m, Try.prog.types.size = m + 2 := ⟨Try.prog.types.size - 2, by kernel_rfl⟩
theorem keyTypeOpen : Try.prog.keyType 51 = true := by kernel_rfl
theorem cellsOpen : Try.prog.cellsOf 51 = 7 := by kernel_rfl
theorem cellsCost : Try.prog.cellsOf 23 = 6 := by kernel_rfl
theorem cellsInt : Try.prog.cellsOf 3 = 1 := by kernel_rfl
theorem arr7 (g : Nat → Int) : (arr .i64 7 g).toList = [.int .i64 (g 0), .int .i64 (g 1), .int .i64 (g 2), .int .i64 (g 3), .int .i64 (g 4), .int .i64 (g 5), .int .i64 (g 6)] := by
  unfold arr; simp [List.range_succ]
theorem i64_wf {x : Int} (h0 : -9223372036854775808 ≤ x) (h1 : x ≤ 9223372036854775807) : (Lit.int .i64 x).wf = true := by
  simp [Lit.wf, IntKind.min, IntKind.max, IntKind.signed, IntKind.bits]; omega
theorem key_of (g : Nat → Int) (h : ∀ i, i < 7 → -9223372036854775808 ≤ g i ∧ g i ≤ 9223372036854775807) : ∃ l, keyOf Try.prog 51 (.agg (arr .i64 7 g)) = some l := by
  have h0 := i64_wf (h 0 (by omega)).1 (h 0 (by omega)).2
  have h1 := i64_wf (h 1 (by omega)).1 (h 1 (by omega)).2
  have h2 := i64_wf (h 2 (by omega)).1 (h 2 (by omega)).2
  have h3 := i64_wf (h 3 (by omega)).1 (h 3 (by omega)).2
  have h4 := i64_wf (h 4 (by omega)).1 (h 4 (by omega)).2
  have h5 := i64_wf (h 5 (by omega)).1 (h 5 (by omega)).2
  have h6 := i64_wf (h 6 (by omega)).1 (h 6 (by omega)).2
  obtain ⟨m, hm⟩ := typesOpen
  have hf : (Value.agg (arr .i64 7 g)).formed Try.prog 51 = true := by
    simp [Value.formed, Try.underlying51, cellsOpen, arr_size]
  unfold keyOf
  simp only [Try.underlying51]
  rw [if_pos (by simp [keyTypeOpen, hf]), hm]
  simp only [Value.cells, arr7]
  unfold Program.keyLits
  simp [Try.underlying51, cellsOpen, cellsCost, cellsInt]
  unfold Program.keyLits
  simp [Try.underlying23, Try.underlying3, cellsCost, cellsInt]
  simp [Program.keyLits, Try.underlying3, List.range_succ, h0, h1, h2, h3, h4, h5, h6]
end Go.Proofs.Ytfnlkadcidfhoaa
