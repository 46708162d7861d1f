/- Layer 3: what the landed pack's calls answer, in every world that keeps the tables as the row lists them. -/
import Derived.Test.YtbnmajajnjphpaaDoorPackD
import Derived.Test.YtbnmajajnjphpaaDoorPackLaws3
import Derived.Test.YtbnmajajnjphpaaDoorPackLaws4
namespace Go.Proofs.YtbnmajajnjphpaaDoor
open Go.RowKit Px Bx
theorem headSaid_of {z : World} (T : TabP z) : HeadSaid z where
  head o w hr hz := head_any T o w hr hz
  short n w h0 h1 _ := (short_is n w h0 h1).mono fun _ _ ⟨h, hw⟩ => ⟨h, hw ▸ Below.refl _ _⟩
  pair a b w ha hb _ := (pair_is a b w ha hb).mono fun _ _ ⟨h, hw⟩ => ⟨h, hw ▸ Below.refl _ _⟩
  halves x w h0 h1 _ := (halves_is x w h0 h1).mono fun _ _ ⟨h, hw⟩ => ⟨h, hw ▸ Below.refl _ _⟩
theorem packSaid_of {z : World} (T : TabP z) (O : TabO z) : PackSaid z where
  toHeadSaid := headSaid_of T
  rest o w hz := rest_any O o w hz
  object x r w h0 h1 hz := object_any T O x r w h0 h1 hz
theorem headSaid {W : World} (h : laidMetH Tryd.prog Rows.packShortsRow.laid W) : HeadSaid W :=
  headSaid_of (laid_cells h 8 0 0 (by kernel_rfl) (by simp [partsV]))
theorem packSaid {W : World} (h : laidMetH Tryd.prog Rows.packHeadsRow.laid W) : PackSaid W :=
  packSaid_of (laid_cells h 8 0 0 (by kernel_rfl) (by simp [partsV])) (laid_cells h 8 1 1 (by kernel_rfl) (by simp [othersV]))
end Go.Proofs.YtbnmajajnjphpaaDoor
