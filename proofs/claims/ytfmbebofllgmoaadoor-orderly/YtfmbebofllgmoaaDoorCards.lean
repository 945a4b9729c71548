/-
  DERIVED. GIVEN WITH THE SEED: THE CARDS: each row of YtfmbebofllgmoaaDoorRows.lean that lists a variable, with what it lists TIED to the program's text (the seventh form; the later family's looks); each row that meets fmt, with fmt's text TOLD by the authors' own Lean function (tested against real Go, not proved from fmt's source: count such statements apart). THE CARD IS WHAT COUNTS. Prove the row's statement (the work); the ties are given (YtfmbebofllgmoaaDoorTie.lean); close each card by the builder's one call (the guide's Derived/Test/ToyasCard.lean, 'card_holds'). Laid BY PROGRAM, IN A SANDBOX (cutbox-door.mjs). By AI agents, Wed Nov 11 2026. No macro, syntax, notation, axiom, sorry.
-/
import Derived.Test.YtfmbebofllgmoaaDoorRows
import GoSem.ClaimSeven
namespace Go.Proofs.YtfmbebofllgmoaaDoor
namespace Rows

/-- THE TIED CARD OF 'rerunkeep.Orderly'. -/
def orderlyCard : Claim7 := { stood := { row := orderlyRow, standIns := [], harness := (true, "725380e6ec5fc7dac6a33ff9bd16918ab3c0ae8b8247a524313b5d048a3dff5e"), looks := false }, kinds := [], alts := [], laidByText := true, laidKinds := [.data], laidTests := true, laidLooks := .later }
def OrderlyCardSaid : Prop := Claim7.holds Tryd.pinned (.plain (OpenSpec.ofChange orderlySpec)) orderlyCard

/-- THE SECOND FORM's CARD OF 'rerunkeep.Orderly'. -/
def orderlyUptoCard : Claim7 := { stood := { row := orderlyUptoRow, standIns := [], harness := (true, "725380e6ec5fc7dac6a33ff9bd16918ab3c0ae8b8247a524313b5d048a3dff5e"), looks := false }, kinds := [], alts := [], laidByText := true, laidKinds := [.data], laidTests := true, laidLooks := .later }
def OrderlyUptoCardSaid : Prop := Claim7.holds Tryd.pinned (.plain (OpenSpec.upto orderlySpec)) orderlyUptoCard
end Rows
end Go.Proofs.YtfmbebofllgmoaaDoor
