/-
  DERIVED. GIVEN WITH THE SEED: THE CARDS: each row of YtplfblccaeligaaDoorRows.lean that lists a variable, with what it lists TIED to the program's text (the seventh form; the later family's looks); each row that meets fmt, with fmt's text TOLD by the authors' own Lean function (tested against real Go, not proved from fmt's source: count such statements apart). THE CARD IS WHAT COUNTS. Prove the row's statement (the work); the ties are given (YtplfblccaeligaaDoorTie.lean); close each card by the builder's one call (the guide's Derived/Test/ToyasCard.lean, 'card_holds'). Laid BY PROGRAM, IN A SANDBOX (cutbox-door.mjs). By AI agents, Wed Nov 11 2026. No macro, syntax, notation, axiom, sorry.
-/
import Derived.Test.YtplfblccaeligaaDoorRows
import GoSem.ClaimSeven
namespace Go.Proofs.YtplfblccaeligaaDoor
namespace Rows

/-- THE TIED CARD OF 'mulliganlaw17.ShapeOf'. -/
def shapeOfCard : Claim7 := { stood := { row := shapeOfRow, standIns := [], harness := (true, "82d5df09656ba3089b8191ee8c381af63a2c46aeede294a73a6000077cf93939"), looks := true }, kinds := [], alts := [], laidByText := true, laidKinds := [.data], laidTests := true, laidLooks := .later }
def ShapeOfCardSaid : Prop := Claim7.holds Tryd.pinned (.plain (OpenSpec.ofChange shapeOfSpec)) shapeOfCard

/-- THE TIED CARD OF 'mulliganlaw17.ShapeHas'. -/
def shapeHasCard : Claim7 := { stood := { row := shapeHasRow, standIns := [], harness := (true, "82d5df09656ba3089b8191ee8c381af63a2c46aeede294a73a6000077cf93939"), looks := true }, kinds := [], alts := [], laidByText := true, laidKinds := [.data], laidTests := true, laidLooks := .later }
def ShapeHasCardSaid : Prop := Claim7.holds Tryd.pinned (.plain (OpenSpec.ofChange shapeHasSpec)) shapeHasCard

/-- THE TIED CARD OF 'mulliganlaw17.ShapePlain'. -/
def shapePlainCard : Claim7 := { stood := { row := shapePlainRow, standIns := [], harness := (true, "82d5df09656ba3089b8191ee8c381af63a2c46aeede294a73a6000077cf93939"), looks := true }, kinds := [], alts := [], laidByText := true, laidKinds := [.data], laidTests := true, laidLooks := .later }
def ShapePlainCardSaid : Prop := Claim7.holds Tryd.pinned (.plain (OpenSpec.ofChange shapePlainSpec)) shapePlainCard

/-- THE TIED CARD OF 'mulliganlaw17.ShapeGrows'. -/
def shapeGrowsCard : Claim7 := { stood := { row := shapeGrowsRow, standIns := [], harness := (true, "82d5df09656ba3089b8191ee8c381af63a2c46aeede294a73a6000077cf93939"), looks := true }, kinds := [], alts := [], laidByText := true, laidKinds := [.data], laidTests := true, laidLooks := .later }
def ShapeGrowsCardSaid : Prop := Claim7.holds Tryd.pinned (.plain (OpenSpec.ofChange shapeGrowsSpec)) shapeGrowsCard

/-- THE SECOND FORM's CARD OF 'mulliganlaw17.ShapeOf'. -/
def shapeOfUptoCard : Claim7 := { stood := { row := shapeOfUptoRow, standIns := [], harness := (true, "82d5df09656ba3089b8191ee8c381af63a2c46aeede294a73a6000077cf93939"), looks := true }, kinds := [], alts := [], laidByText := true, laidKinds := [.data], laidTests := true, laidLooks := .later }
def ShapeOfUptoCardSaid : Prop := Claim7.holds Tryd.pinned (.plain (OpenSpec.upto shapeOfSpec)) shapeOfUptoCard

/-- THE SECOND FORM's CARD OF 'mulliganlaw17.ShapeHas'. -/
def shapeHasUptoCard : Claim7 := { stood := { row := shapeHasUptoRow, standIns := [], harness := (true, "82d5df09656ba3089b8191ee8c381af63a2c46aeede294a73a6000077cf93939"), looks := true }, kinds := [], alts := [], laidByText := true, laidKinds := [.data], laidTests := true, laidLooks := .later }
def ShapeHasUptoCardSaid : Prop := Claim7.holds Tryd.pinned (.plain (OpenSpec.upto shapeHasSpec)) shapeHasUptoCard

/-- THE SECOND FORM's CARD OF 'mulliganlaw17.ShapePlain'. -/
def shapePlainUptoCard : Claim7 := { stood := { row := shapePlainUptoRow, standIns := [], harness := (true, "82d5df09656ba3089b8191ee8c381af63a2c46aeede294a73a6000077cf93939"), looks := true }, kinds := [], alts := [], laidByText := true, laidKinds := [.data], laidTests := true, laidLooks := .later }
def ShapePlainUptoCardSaid : Prop := Claim7.holds Tryd.pinned (.plain (OpenSpec.upto shapePlainSpec)) shapePlainUptoCard

/-- THE SECOND FORM's CARD OF 'mulliganlaw17.ShapeGrows'. -/
def shapeGrowsUptoCard : Claim7 := { stood := { row := shapeGrowsUptoRow, standIns := [], harness := (true, "82d5df09656ba3089b8191ee8c381af63a2c46aeede294a73a6000077cf93939"), looks := true }, kinds := [], alts := [], laidByText := true, laidKinds := [.data], laidTests := true, laidLooks := .later }
def ShapeGrowsUptoCardSaid : Prop := Claim7.holds Tryd.pinned (.plain (OpenSpec.upto shapeGrowsSpec)) shapeGrowsUptoCard
end Rows
end Go.Proofs.YtplfblccaeligaaDoor
