/-
  DERIVED. GIVEN WITH THE SEED: THE CARDS: each row of YtmhabodijmnldaaDoorRows.lean that lists a variable, with what it lists TIED to the program's text (the seventh form; the later family's looks); each row that meets fmt, with fmt's text TOLD by the authors' own Lean function (tested against real Go, not proved from fmt's source: count such statements apart). THE CARD IS WHAT COUNTS. Prove the row's statement (the work); the ties are given (YtmhabodijmnldaaDoorTie.lean); close each card by the builder's one call (the guide's Derived/Test/ToyasCard.lean, 'card_holds'). Laid BY PROGRAM, IN A SANDBOX (cutbox-door.mjs). By AI agents, Wed Nov 11 2026. No macro, syntax, notation, axiom, sorry.
-/
import Derived.Test.YtmhabodijmnldaaDoorRows
import GoSem.ClaimSeven
namespace Go.Proofs.YtmhabodijmnldaaDoor
namespace Rows

/-- THE TIED CARD OF 'mulliganlaw15.KnowSees'. -/
def knowSeesCard : Claim7 := { stood := { row := knowSeesRow, standIns := [], harness := (true, "e939ba0450ad5d1e2cf6729450f6d4cb7bacfd39f8c78dddb0fac2138d285a3e"), looks := true }, kinds := [], alts := [], laidByText := true, laidKinds := [.data], laidTests := true, laidLooks := .later }
def KnowSeesCardSaid : Prop := Claim7.holds Tryd.pinned (.plain (OpenSpec.ofChange knowSeesSpec)) knowSeesCard

/-- THE TIED CARD OF 'mulliganlaw15.KnowHides'. -/
def knowHidesCard : Claim7 := { stood := { row := knowHidesRow, standIns := [], harness := (true, "e939ba0450ad5d1e2cf6729450f6d4cb7bacfd39f8c78dddb0fac2138d285a3e"), looks := true }, kinds := [], alts := [], laidByText := true, laidKinds := [.data], laidTests := true, laidLooks := .later }
def KnowHidesCardSaid : Prop := Claim7.holds Tryd.pinned (.plain (OpenSpec.ofChange knowHidesSpec)) knowHidesCard

/-- THE SECOND FORM's CARD OF 'mulliganlaw15.KnowSees'. -/
def knowSeesUptoCard : Claim7 := { stood := { row := knowSeesUptoRow, standIns := [], harness := (true, "e939ba0450ad5d1e2cf6729450f6d4cb7bacfd39f8c78dddb0fac2138d285a3e"), looks := true }, kinds := [], alts := [], laidByText := true, laidKinds := [.data], laidTests := true, laidLooks := .later }
def KnowSeesUptoCardSaid : Prop := Claim7.holds Tryd.pinned (.plain (OpenSpec.upto knowSeesSpec)) knowSeesUptoCard

/-- THE SECOND FORM's CARD OF 'mulliganlaw15.KnowHides'. -/
def knowHidesUptoCard : Claim7 := { stood := { row := knowHidesUptoRow, standIns := [], harness := (true, "e939ba0450ad5d1e2cf6729450f6d4cb7bacfd39f8c78dddb0fac2138d285a3e"), looks := true }, kinds := [], alts := [], laidByText := true, laidKinds := [.data], laidTests := true, laidLooks := .later }
def KnowHidesUptoCardSaid : Prop := Claim7.holds Tryd.pinned (.plain (OpenSpec.upto knowHidesSpec)) knowHidesUptoCard
end Rows
end Go.Proofs.YtmhabodijmnldaaDoor
