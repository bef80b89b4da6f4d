/-
  DERIVED. GIVEN WITH THE SEED: THE CARDS: each row of YtclhgmopphhalaaGreatDoorRows.lean that lists a variable, with what it lists TIED to the program's text (the seventh form; the later family's looks); each row that meets fmt, with fmt's text TOLD by the authors' own Lean function (tested against real Go, not proved from fmt's source: count such statements apart). THE CARD IS WHAT COUNTS. Prove the row's statement (the work); the ties are given (YtclhgmopphhalaaGreatDoorTie.lean); close each card by the builder's one call (the guide's Derived/Test/ToyasCard.lean, 'card_holds'). Laid BY PROGRAM, IN A SANDBOX (cutbox-door.mjs). By AI agents, Wed Nov 11 2026. No macro, syntax, notation, axiom, sorry.
-/
import Derived.Test.YtclhgmopphhalaaGreatDoorRows
import GoSem.ClaimSeven
namespace Go.Proofs.YtclhgmopphhalaaGreatDoor
namespace Rows

/-- THE TIED CARD OF 'fencepostlaw04.ValidTells'. -/
def validTellsCard : Claim7 := { stood := { row := validTellsRow, standIns := [], harness := (true, "8671aff9819a85aae04859cf67208c912e2915ec172652c0011182181bd1f63c"), looks := true }, kinds := [], alts := [], laidByText := true, laidKinds := [.handle, .data], laidTests := true, laidLooks := .later }
def ValidTellsCardSaid : Prop := Claim7.holds Tryz.pinned (.plain (OpenSpec.ofChange validTellsSpec)) validTellsCard

/-- THE TIED CARD OF 'fencepostlaw04.ValidLabels'. -/
def validLabelsCard : Claim7 := { stood := { row := validLabelsRow, standIns := [], harness := (true, "8671aff9819a85aae04859cf67208c912e2915ec172652c0011182181bd1f63c"), looks := true }, kinds := [], alts := [], laidByText := true, laidKinds := [.handle, .data], laidTests := true, laidLooks := .later }
def ValidLabelsCardSaid : Prop := Claim7.holds Tryz.pinned (.plain (OpenSpec.ofChange validLabelsSpec)) validLabelsCard

/-- THE TIED CARD OF 'fencepostlaw04.ValidLocs'. -/
def validLocsCard : Claim7 := { stood := { row := validLocsRow, standIns := [], harness := (true, "8671aff9819a85aae04859cf67208c912e2915ec172652c0011182181bd1f63c"), looks := true }, kinds := [], alts := [], laidByText := true, laidKinds := [.handle, .data], laidTests := true, laidLooks := .later }
def ValidLocsCardSaid : Prop := Claim7.holds Tryz.pinned (.plain (OpenSpec.ofChange validLocsSpec)) validLocsCard

/-- THE TIED CARD OF 'fencepostlaw04.ValidThreads'. -/
def validThreadsCard : Claim7 := { stood := { row := validThreadsRow, standIns := [], harness := (true, "8671aff9819a85aae04859cf67208c912e2915ec172652c0011182181bd1f63c"), looks := true }, kinds := [], alts := [], laidByText := true, laidKinds := [.handle, .data], laidTests := true, laidLooks := .later }
def ValidThreadsCardSaid : Prop := Claim7.holds Tryz.pinned (.plain (OpenSpec.ofChange validThreadsSpec)) validThreadsCard

/-- THE TIED CARD OF 'fencepostlaw04.ValidFirst'. -/
def validFirstCard : Claim7 := { stood := { row := validFirstRow, standIns := [], harness := (true, "8671aff9819a85aae04859cf67208c912e2915ec172652c0011182181bd1f63c"), looks := true }, kinds := [], alts := [], laidByText := true, laidKinds := [.handle, .data], laidTests := true, laidLooks := .later }
def ValidFirstCardSaid : Prop := Claim7.holds Tryz.pinned (.plain (OpenSpec.ofChange validFirstSpec)) validFirstCard

/-- THE TIED CARD OF 'fencepostlaw04.ValidFences'. -/
def validFencesCard : Claim7 := { stood := { row := validFencesRow, standIns := [], harness := (true, "8671aff9819a85aae04859cf67208c912e2915ec172652c0011182181bd1f63c"), looks := true }, kinds := [], alts := [], laidByText := true, laidKinds := [.handle, .data], laidTests := true, laidLooks := .later }
def ValidFencesCardSaid : Prop := Claim7.holds Tryz.pinned (.plain (OpenSpec.ofChange validFencesSpec)) validFencesCard

/-- THE SECOND FORM's CARD OF 'fencepostlaw04.ValidTells'. -/
def validTellsUptoCard : Claim7 := { stood := { row := validTellsUptoRow, standIns := [], harness := (true, "8671aff9819a85aae04859cf67208c912e2915ec172652c0011182181bd1f63c"), looks := true }, kinds := [], alts := [], laidByText := true, laidKinds := [.handle, .data], laidTests := true, laidLooks := .later }
def ValidTellsUptoCardSaid : Prop := Claim7.holds Tryz.pinned (.plain (OpenSpec.upto validTellsSpec)) validTellsUptoCard

/-- THE SECOND FORM's CARD OF 'fencepostlaw04.ValidLabels'. -/
def validLabelsUptoCard : Claim7 := { stood := { row := validLabelsUptoRow, standIns := [], harness := (true, "8671aff9819a85aae04859cf67208c912e2915ec172652c0011182181bd1f63c"), looks := true }, kinds := [], alts := [], laidByText := true, laidKinds := [.handle, .data], laidTests := true, laidLooks := .later }
def ValidLabelsUptoCardSaid : Prop := Claim7.holds Tryz.pinned (.plain (OpenSpec.upto validLabelsSpec)) validLabelsUptoCard

/-- THE SECOND FORM's CARD OF 'fencepostlaw04.ValidLocs'. -/
def validLocsUptoCard : Claim7 := { stood := { row := validLocsUptoRow, standIns := [], harness := (true, "8671aff9819a85aae04859cf67208c912e2915ec172652c0011182181bd1f63c"), looks := true }, kinds := [], alts := [], laidByText := true, laidKinds := [.handle, .data], laidTests := true, laidLooks := .later }
def ValidLocsUptoCardSaid : Prop := Claim7.holds Tryz.pinned (.plain (OpenSpec.upto validLocsSpec)) validLocsUptoCard

/-- THE SECOND FORM's CARD OF 'fencepostlaw04.ValidThreads'. -/
def validThreadsUptoCard : Claim7 := { stood := { row := validThreadsUptoRow, standIns := [], harness := (true, "8671aff9819a85aae04859cf67208c912e2915ec172652c0011182181bd1f63c"), looks := true }, kinds := [], alts := [], laidByText := true, laidKinds := [.handle, .data], laidTests := true, laidLooks := .later }
def ValidThreadsUptoCardSaid : Prop := Claim7.holds Tryz.pinned (.plain (OpenSpec.upto validThreadsSpec)) validThreadsUptoCard

/-- THE SECOND FORM's CARD OF 'fencepostlaw04.ValidFirst'. -/
def validFirstUptoCard : Claim7 := { stood := { row := validFirstUptoRow, standIns := [], harness := (true, "8671aff9819a85aae04859cf67208c912e2915ec172652c0011182181bd1f63c"), looks := true }, kinds := [], alts := [], laidByText := true, laidKinds := [.handle, .data], laidTests := true, laidLooks := .later }
def ValidFirstUptoCardSaid : Prop := Claim7.holds Tryz.pinned (.plain (OpenSpec.upto validFirstSpec)) validFirstUptoCard

/-- THE SECOND FORM's CARD OF 'fencepostlaw04.ValidFences'. -/
def validFencesUptoCard : Claim7 := { stood := { row := validFencesUptoRow, standIns := [], harness := (true, "8671aff9819a85aae04859cf67208c912e2915ec172652c0011182181bd1f63c"), looks := true }, kinds := [], alts := [], laidByText := true, laidKinds := [.handle, .data], laidTests := true, laidLooks := .later }
def ValidFencesUptoCardSaid : Prop := Claim7.holds Tryz.pinned (.plain (OpenSpec.upto validFencesSpec)) validFencesUptoCard
end Rows
end Go.Proofs.YtclhgmopphhalaaGreatDoor
