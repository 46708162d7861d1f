/-
  DERIVED. GIVEN WITH THE SEED: THE CARDS: each row of YtmdfgkfimlmmnaaDoorRows.lean that lists a variable, with what it lists TIED to the program's text (the seventh form; the later family's looks); each row that meets fmt, with fmt's text TOLD by the authors' own Lean function (tested against real Go, not proved from fmt's source: count such statements apart). THE CARD IS WHAT COUNTS. Prove the row's statement (the work); the ties are given (YtmdfgkfimlmmnaaDoorTie.lean); close each card by the builder's one call (the guide's Derived/Test/ToyasCard.lean, 'card_holds'). Laid BY PROGRAM, IN A SANDBOX (cutbox-door.mjs). By AI agents, Wed Nov 11 2026. No macro, syntax, notation, axiom, sorry.
-/
import Derived.Test.YtmdfgkfimlmmnaaDoorRows
import GoSem.ClaimSeven
namespace Go.Proofs.YtmdfgkfimlmmnaaDoor
namespace Rows

/-- THE TIED CARD OF 'mulliganlaw08.TableCards'. -/
def tableCardsCard : Claim7 := { stood := { row := tableCardsRow, standIns := [], harness := (true, "5255d83020b9243f054dabdf31064d9e9cf16f3134c800b4e41c889c6b971e0b"), looks := true }, kinds := [], alts := [], laidByText := true, laidKinds := [.data, .data, .data], laidTests := true, laidLooks := .later }
def TableCardsCardSaid : Prop := Claim7.holds Tryd.pinned (.plain (OpenSpec.ofChange tableCardsSpec)) tableCardsCard

/-- THE TIED CARD OF 'mulliganlaw08.TableAll'. -/
def tableAllCard : Claim7 := { stood := { row := tableAllRow, standIns := [], harness := (true, "5255d83020b9243f054dabdf31064d9e9cf16f3134c800b4e41c889c6b971e0b"), looks := true }, kinds := [], alts := [], laidByText := true, laidKinds := [.data, .data, .data], laidTests := true, laidLooks := .later }
def TableAllCardSaid : Prop := Claim7.holds Tryd.pinned (.plain (OpenSpec.ofChange tableAllSpec)) tableAllCard

/-- THE TIED CARD OF 'mulliganlaw08.TableNames'. -/
def tableNamesCard : Claim7 := { stood := { row := tableNamesRow, standIns := [], harness := (true, "5255d83020b9243f054dabdf31064d9e9cf16f3134c800b4e41c889c6b971e0b"), looks := true }, kinds := [], alts := [], laidByText := true, laidKinds := [.data, .data, .data, .sentinel, .sentinel], laidTests := true, laidLooks := .later }
def TableNamesCardSaid : Prop := Claim7.holds Tryd.pinned (.plain (OpenSpec.ofChange tableNamesSpec)) tableNamesCard

/-- THE TIED CARD OF 'mulliganlaw08.TableDecks'. -/
def tableDecksCard : Claim7 := { stood := { row := tableDecksRow, standIns := [], harness := (true, "5255d83020b9243f054dabdf31064d9e9cf16f3134c800b4e41c889c6b971e0b"), looks := true }, kinds := [], alts := [], laidByText := true, laidKinds := [.data, .data, .data], laidTests := true, laidLooks := .later }
def TableDecksCardSaid : Prop := Claim7.holds Tryd.pinned (.plain (OpenSpec.ofChange tableDecksSpec)) tableDecksCard

/-- THE SECOND FORM's CARD OF 'mulliganlaw08.TableCards'. -/
def tableCardsUptoCard : Claim7 := { stood := { row := tableCardsUptoRow, standIns := [], harness := (true, "5255d83020b9243f054dabdf31064d9e9cf16f3134c800b4e41c889c6b971e0b"), looks := true }, kinds := [], alts := [], laidByText := true, laidKinds := [.data, .data, .data], laidTests := true, laidLooks := .later }
def TableCardsUptoCardSaid : Prop := Claim7.holds Tryd.pinned (.plain (OpenSpec.upto tableCardsSpec)) tableCardsUptoCard

/-- THE SECOND FORM's CARD OF 'mulliganlaw08.TableAll'. -/
def tableAllUptoCard : Claim7 := { stood := { row := tableAllUptoRow, standIns := [], harness := (true, "5255d83020b9243f054dabdf31064d9e9cf16f3134c800b4e41c889c6b971e0b"), looks := true }, kinds := [], alts := [], laidByText := true, laidKinds := [.data, .data, .data], laidTests := true, laidLooks := .later }
def TableAllUptoCardSaid : Prop := Claim7.holds Tryd.pinned (.plain (OpenSpec.upto tableAllSpec)) tableAllUptoCard

/-- THE SECOND FORM's CARD OF 'mulliganlaw08.TableNames'. -/
def tableNamesUptoCard : Claim7 := { stood := { row := tableNamesUptoRow, standIns := [], harness := (true, "5255d83020b9243f054dabdf31064d9e9cf16f3134c800b4e41c889c6b971e0b"), looks := true }, kinds := [], alts := [], laidByText := true, laidKinds := [.data, .data, .data, .sentinel, .sentinel], laidTests := true, laidLooks := .later }
def TableNamesUptoCardSaid : Prop := Claim7.holds Tryd.pinned (.plain (OpenSpec.upto tableNamesSpec)) tableNamesUptoCard

/-- THE SECOND FORM's CARD OF 'mulliganlaw08.TableDecks'. -/
def tableDecksUptoCard : Claim7 := { stood := { row := tableDecksUptoRow, standIns := [], harness := (true, "5255d83020b9243f054dabdf31064d9e9cf16f3134c800b4e41c889c6b971e0b"), looks := true }, kinds := [], alts := [], laidByText := true, laidKinds := [.data, .data, .data], laidTests := true, laidLooks := .later }
def TableDecksUptoCardSaid : Prop := Claim7.holds Tryd.pinned (.plain (OpenSpec.upto tableDecksSpec)) tableDecksUptoCard
end Rows
end Go.Proofs.YtmdfgkfimlmmnaaDoor
