/-
  DERIVED. GIVEN WITH THE SEED: THE CARDS: each row of YtkchpfifngknaaaDoorRows.lean that lists a variable, with what it lists TIED to the program's text (the seventh form; the later family's looks); each row that meets fmt, with fmt's text TOLD by the authors' own Lean function (tested against real Go, not proved from fmt's source: count such statements apart). THE CARD IS WHAT COUNTS. Prove the row's statement (the work); the ties are given (YtkchpfifngknaaaDoorTie.lean); close each card by the builder's one call (the guide's Derived/Test/ToyasCard.lean, 'card_holds'). Laid BY PROGRAM, IN A SANDBOX (cutbox-door.mjs). By AI agents, Wed Nov 11 2026. No macro, syntax, notation, axiom, sorry.
-/
import Derived.Test.YtkchpfifngknaaaDoorRows
import GoSem.ClaimSeven
namespace Go.Proofs.YtkchpfifngknaaaDoor
namespace Rows

/-- THE TIED CARD OF 'mulliganlaw10.StateChecks'. -/
def stateChecksCard : Claim7 := { stood := { row := stateChecksRow, standIns := [], harness := (true, "9c5d019d7d1e6a3ebe648b68d0c6eb88c24b3a9981c0d147386623ee277bb4fc"), looks := true }, kinds := [], alts := [], laidByText := true, laidKinds := [.data], laidTests := true, laidLooks := .later }
def StateChecksCardSaid : Prop := Claim7.holds Tryd.pinned (.plain (OpenSpec.ofChange stateChecksSpec)) stateChecksCard

/-- THE TIED CARD OF 'mulliganlaw10.StateSame'. -/
def stateSameCard : Claim7 := { stood := { row := stateSameRow, standIns := [], harness := (true, "9c5d019d7d1e6a3ebe648b68d0c6eb88c24b3a9981c0d147386623ee277bb4fc"), looks := true }, kinds := [], alts := [], laidByText := true, laidKinds := [.data], laidTests := true, laidLooks := .later }
def StateSameCardSaid : Prop := Claim7.holds Tryd.pinned (.plain (OpenSpec.ofChange stateSameSpec)) stateSameCard

/-- THE TIED CARD OF 'mulliganlaw10.StateZones'. -/
def stateZonesCard : Claim7 := { stood := { row := stateZonesRow, standIns := [], harness := (true, "9c5d019d7d1e6a3ebe648b68d0c6eb88c24b3a9981c0d147386623ee277bb4fc"), looks := true }, kinds := [], alts := [], laidByText := true, laidKinds := [.data], laidTests := true, laidLooks := .later }
def StateZonesCardSaid : Prop := Claim7.holds Tryd.pinned (.plain (OpenSpec.ofChange stateZonesSpec)) stateZonesCard

/-- THE TIED CARD OF 'mulliganlaw10.StateSides'. -/
def stateSidesCard : Claim7 := { stood := { row := stateSidesRow, standIns := [], harness := (true, "9c5d019d7d1e6a3ebe648b68d0c6eb88c24b3a9981c0d147386623ee277bb4fc"), looks := true }, kinds := [], alts := [], laidByText := true, laidKinds := [.data], laidTests := true, laidLooks := .later }
def StateSidesCardSaid : Prop := Claim7.holds Tryd.pinned (.plain (OpenSpec.ofChange stateSidesSpec)) stateSidesCard

/-- THE SECOND FORM's CARD OF 'mulliganlaw10.StateChecks'. -/
def stateChecksUptoCard : Claim7 := { stood := { row := stateChecksUptoRow, standIns := [], harness := (true, "9c5d019d7d1e6a3ebe648b68d0c6eb88c24b3a9981c0d147386623ee277bb4fc"), looks := true }, kinds := [], alts := [], laidByText := true, laidKinds := [.data], laidTests := true, laidLooks := .later }
def StateChecksUptoCardSaid : Prop := Claim7.holds Tryd.pinned (.plain (OpenSpec.upto stateChecksSpec)) stateChecksUptoCard

/-- THE SECOND FORM's CARD OF 'mulliganlaw10.StateSame'. -/
def stateSameUptoCard : Claim7 := { stood := { row := stateSameUptoRow, standIns := [], harness := (true, "9c5d019d7d1e6a3ebe648b68d0c6eb88c24b3a9981c0d147386623ee277bb4fc"), looks := true }, kinds := [], alts := [], laidByText := true, laidKinds := [.data], laidTests := true, laidLooks := .later }
def StateSameUptoCardSaid : Prop := Claim7.holds Tryd.pinned (.plain (OpenSpec.upto stateSameSpec)) stateSameUptoCard

/-- THE SECOND FORM's CARD OF 'mulliganlaw10.StateZones'. -/
def stateZonesUptoCard : Claim7 := { stood := { row := stateZonesUptoRow, standIns := [], harness := (true, "9c5d019d7d1e6a3ebe648b68d0c6eb88c24b3a9981c0d147386623ee277bb4fc"), looks := true }, kinds := [], alts := [], laidByText := true, laidKinds := [.data], laidTests := true, laidLooks := .later }
def StateZonesUptoCardSaid : Prop := Claim7.holds Tryd.pinned (.plain (OpenSpec.upto stateZonesSpec)) stateZonesUptoCard

/-- THE SECOND FORM's CARD OF 'mulliganlaw10.StateSides'. -/
def stateSidesUptoCard : Claim7 := { stood := { row := stateSidesUptoRow, standIns := [], harness := (true, "9c5d019d7d1e6a3ebe648b68d0c6eb88c24b3a9981c0d147386623ee277bb4fc"), looks := true }, kinds := [], alts := [], laidByText := true, laidKinds := [.data], laidTests := true, laidLooks := .later }
def StateSidesUptoCardSaid : Prop := Claim7.holds Tryd.pinned (.plain (OpenSpec.upto stateSidesSpec)) stateSidesUptoCard
end Rows
end Go.Proofs.YtkchpfifngknaaaDoor
