/-
  DERIVED. GIVEN WITH THE SEED: THE CARDS: each row of YtfmbebofllgmoaaGreatDoorRows.lean that lists a variable, with what it lists TIED to the program's text (the seventh form; the later family's looks); each row that meets fmt, with fmt's text TOLD by the authors' own Lean function (tested against real Go, not proved from fmt's source: count such statements apart). THE CARD IS WHAT COUNTS. Prove the row's statement (the work); the ties are given (YtfmbebofllgmoaaGreatDoorTie.lean); close each card by the builder's one call (the guide's Derived/Test/ToyasCard.lean, 'card_holds'). Laid BY PROGRAM, IN A SANDBOX (cutbox-door.mjs). By AI agents, Wed Nov 11 2026. No macro, syntax, notation, axiom, sorry.
-/
import Derived.Test.YtfmbebofllgmoaaGreatDoorRows
import GoSem.ClaimSeven
namespace Go.Proofs.YtfmbebofllgmoaaGreatDoor
namespace Rows

/-- THE TIED CARD OF 'rerunlaw.Checks'. -/
def checksCard : Claim7 := { stood := { row := checksRow, standIns := [], harness := (true, "4dc33e2123ebf25519b8464239bbbd6ea0ff11787910c0b307f5ca2a3942a77d"), looks := false }, kinds := [], alts := [], laidByText := true, laidKinds := [.data], laidTests := true, laidLooks := .later }
def ChecksCardSaid : Prop := Claim7.holds Tryz.pinned (.plain (OpenSpec.ofChange checksSpec)) checksCard

/-- THE TIED CARD OF 'rerunlaw.Records'. -/
def recordsCard : Claim7 := { stood := { row := recordsRow, standIns := [], harness := (true, "4dc33e2123ebf25519b8464239bbbd6ea0ff11787910c0b307f5ca2a3942a77d"), looks := false }, kinds := [], alts := [], laidByText := true, laidKinds := [.data], laidTests := true, laidLooks := .later }
def RecordsCardSaid : Prop := Claim7.holds Tryz.pinned (.plain (OpenSpec.ofChange recordsSpec)) recordsCard

/-- THE TIED CARD OF 'rerunlaw.Reads'. -/
def readsCard : Claim7 := { stood := { row := readsRow, standIns := [], harness := (true, "4dc33e2123ebf25519b8464239bbbd6ea0ff11787910c0b307f5ca2a3942a77d"), looks := false }, kinds := [], alts := [], laidByText := true, laidKinds := [.data], laidTests := true, laidLooks := .later }
def ReadsCardSaid : Prop := Claim7.holds Tryz.pinned (.plain (OpenSpec.ofChange readsSpec)) readsCard

/-- THE TIED CARD OF 'rerunlaw.Replays'. -/
def replaysCard : Claim7 := { stood := { row := replaysRow, standIns := [], harness := (true, "4dc33e2123ebf25519b8464239bbbd6ea0ff11787910c0b307f5ca2a3942a77d"), looks := false }, kinds := [], alts := [], laidByText := true, laidKinds := [.data], laidTests := true, laidLooks := .later }
def ReplaysCardSaid : Prop := Claim7.holds Tryz.pinned (.plain (OpenSpec.ofChange replaysSpec)) replaysCard

/-- THE TIED CARD OF 'rerunkeep.Same'. -/
def sameCard : Claim7 := { stood := { row := sameRow, standIns := [], harness := (true, "4dc33e2123ebf25519b8464239bbbd6ea0ff11787910c0b307f5ca2a3942a77d"), looks := false }, kinds := [], alts := [], laidByText := true, laidKinds := [.data], laidTests := true, laidLooks := .later }
def SameCardSaid : Prop := Claim7.holds Tryz.pinned (.plain (OpenSpec.ofChange sameSpec)) sameCard

/-- THE TIED CARD OF 'rerunkeep.Torn'. -/
def tornCard : Claim7 := { stood := { row := tornRow, standIns := [], harness := (true, "4dc33e2123ebf25519b8464239bbbd6ea0ff11787910c0b307f5ca2a3942a77d"), looks := false }, kinds := [], alts := [], laidByText := true, laidKinds := [.data], laidTests := true, laidLooks := .later }
def TornCardSaid : Prop := Claim7.holds Tryz.pinned (.plain (OpenSpec.ofChange tornSpec)) tornCard

/-- THE TIED CARD OF 'rerunkeep.Harmed'. -/
def harmedCard : Claim7 := { stood := { row := harmedRow, standIns := [], harness := (true, "4dc33e2123ebf25519b8464239bbbd6ea0ff11787910c0b307f5ca2a3942a77d"), looks := false }, kinds := [], alts := [], laidByText := true, laidKinds := [.data], laidTests := true, laidLooks := .later }
def HarmedCardSaid : Prop := Claim7.holds Tryz.pinned (.plain (OpenSpec.ofChange harmedSpec)) harmedCard

/-- THE TIED CARD OF 'rerunkeep.Other'. -/
def otherCard : Claim7 := { stood := { row := otherRow, standIns := [], harness := (true, "4dc33e2123ebf25519b8464239bbbd6ea0ff11787910c0b307f5ca2a3942a77d"), looks := false }, kinds := [], alts := [], laidByText := true, laidKinds := [.data], laidTests := true, laidLooks := .later }
def OtherCardSaid : Prop := Claim7.holds Tryz.pinned (.plain (OpenSpec.ofChange otherSpec)) otherCard

/-- THE TIED CARD OF 'rerunlaw.All'. -/
def allCard : Claim7 := { stood := { row := allRow, standIns := [], harness := (true, "4dc33e2123ebf25519b8464239bbbd6ea0ff11787910c0b307f5ca2a3942a77d"), looks := false }, kinds := [], alts := [], laidByText := true, laidKinds := [.data], laidTests := true, laidLooks := .later }
def AllCardSaid : Prop := Claim7.holds Tryz.pinned (.plain (OpenSpec.ofChange allSpec)) allCard

/-- THE SECOND FORM's CARD OF 'rerunlaw.Checks'. -/
def checksUptoCard : Claim7 := { stood := { row := checksUptoRow, standIns := [], harness := (true, "4dc33e2123ebf25519b8464239bbbd6ea0ff11787910c0b307f5ca2a3942a77d"), looks := false }, kinds := [], alts := [], laidByText := true, laidKinds := [.data], laidTests := true, laidLooks := .later }
def ChecksUptoCardSaid : Prop := Claim7.holds Tryz.pinned (.plain (OpenSpec.upto checksSpec)) checksUptoCard

/-- THE SECOND FORM's CARD OF 'rerunlaw.Records'. -/
def recordsUptoCard : Claim7 := { stood := { row := recordsUptoRow, standIns := [], harness := (true, "4dc33e2123ebf25519b8464239bbbd6ea0ff11787910c0b307f5ca2a3942a77d"), looks := false }, kinds := [], alts := [], laidByText := true, laidKinds := [.data], laidTests := true, laidLooks := .later }
def RecordsUptoCardSaid : Prop := Claim7.holds Tryz.pinned (.plain (OpenSpec.upto recordsSpec)) recordsUptoCard

/-- THE SECOND FORM's CARD OF 'rerunlaw.Reads'. -/
def readsUptoCard : Claim7 := { stood := { row := readsUptoRow, standIns := [], harness := (true, "4dc33e2123ebf25519b8464239bbbd6ea0ff11787910c0b307f5ca2a3942a77d"), looks := false }, kinds := [], alts := [], laidByText := true, laidKinds := [.data], laidTests := true, laidLooks := .later }
def ReadsUptoCardSaid : Prop := Claim7.holds Tryz.pinned (.plain (OpenSpec.upto readsSpec)) readsUptoCard

/-- THE SECOND FORM's CARD OF 'rerunlaw.Replays'. -/
def replaysUptoCard : Claim7 := { stood := { row := replaysUptoRow, standIns := [], harness := (true, "4dc33e2123ebf25519b8464239bbbd6ea0ff11787910c0b307f5ca2a3942a77d"), looks := false }, kinds := [], alts := [], laidByText := true, laidKinds := [.data], laidTests := true, laidLooks := .later }
def ReplaysUptoCardSaid : Prop := Claim7.holds Tryz.pinned (.plain (OpenSpec.upto replaysSpec)) replaysUptoCard

/-- THE SECOND FORM's CARD OF 'rerunkeep.Same'. -/
def sameUptoCard : Claim7 := { stood := { row := sameUptoRow, standIns := [], harness := (true, "4dc33e2123ebf25519b8464239bbbd6ea0ff11787910c0b307f5ca2a3942a77d"), looks := false }, kinds := [], alts := [], laidByText := true, laidKinds := [.data], laidTests := true, laidLooks := .later }
def SameUptoCardSaid : Prop := Claim7.holds Tryz.pinned (.plain (OpenSpec.upto sameSpec)) sameUptoCard

/-- THE SECOND FORM's CARD OF 'rerunkeep.Torn'. -/
def tornUptoCard : Claim7 := { stood := { row := tornUptoRow, standIns := [], harness := (true, "4dc33e2123ebf25519b8464239bbbd6ea0ff11787910c0b307f5ca2a3942a77d"), looks := false }, kinds := [], alts := [], laidByText := true, laidKinds := [.data], laidTests := true, laidLooks := .later }
def TornUptoCardSaid : Prop := Claim7.holds Tryz.pinned (.plain (OpenSpec.upto tornSpec)) tornUptoCard

/-- THE SECOND FORM's CARD OF 'rerunkeep.Harmed'. -/
def harmedUptoCard : Claim7 := { stood := { row := harmedUptoRow, standIns := [], harness := (true, "4dc33e2123ebf25519b8464239bbbd6ea0ff11787910c0b307f5ca2a3942a77d"), looks := false }, kinds := [], alts := [], laidByText := true, laidKinds := [.data], laidTests := true, laidLooks := .later }
def HarmedUptoCardSaid : Prop := Claim7.holds Tryz.pinned (.plain (OpenSpec.upto harmedSpec)) harmedUptoCard

/-- THE SECOND FORM's CARD OF 'rerunkeep.Other'. -/
def otherUptoCard : Claim7 := { stood := { row := otherUptoRow, standIns := [], harness := (true, "4dc33e2123ebf25519b8464239bbbd6ea0ff11787910c0b307f5ca2a3942a77d"), looks := false }, kinds := [], alts := [], laidByText := true, laidKinds := [.data], laidTests := true, laidLooks := .later }
def OtherUptoCardSaid : Prop := Claim7.holds Tryz.pinned (.plain (OpenSpec.upto otherSpec)) otherUptoCard

/-- THE SECOND FORM's CARD OF 'rerunlaw.All'. -/
def allUptoCard : Claim7 := { stood := { row := allUptoRow, standIns := [], harness := (true, "4dc33e2123ebf25519b8464239bbbd6ea0ff11787910c0b307f5ca2a3942a77d"), looks := false }, kinds := [], alts := [], laidByText := true, laidKinds := [.data], laidTests := true, laidLooks := .later }
def AllUptoCardSaid : Prop := Claim7.holds Tryz.pinned (.plain (OpenSpec.upto allSpec)) allUptoCard
end Rows
end Go.Proofs.YtfmbebofllgmoaaGreatDoor
