/-
  DERIVED. GIVEN WITH THE SEED: THE CARDS: each row of YtiikhjifjdpgdaaDoorRows.lean that lists a variable, with what it lists TIED to the program's text (the seventh form; the later family's looks); each row that meets fmt, with fmt's text TOLD by the authors' own Lean function (tested against real Go, not proved from fmt's source: count such statements apart). THE CARD IS WHAT COUNTS. Prove the row's statement (the work); the ties are given (YtiikhjifjdpgdaaDoorTie.lean); close each card by the builder's one call (the guide's Derived/Test/ToyasCard.lean, 'card_holds'). Laid BY PROGRAM, IN A SANDBOX (cutbox-door.mjs). By AI agents, Wed Nov 11 2026. No macro, syntax, notation, axiom, sorry.
-/
import Derived.Test.YtiikhjifjdpgdaaDoorRows
import GoSem.ClaimSeven
namespace Go.Proofs.YtiikhjifjdpgdaaDoor
namespace Rows

/-- THE TIED CARD OF 'macaroonlaw10.AlgebraStays'. -/
def algebraStaysCard : Claim7 := { stood := { row := algebraStaysRow, standIns := [], harness := (true, "002251fd1d8421179ea22efd9d0adccfdd94aee38e6937c75e35bca634011c18"), looks := false }, kinds := [], alts := [], laidByText := true, laidKinds := [.data, .data], laidTests := true, laidLooks := .later }
def AlgebraStaysCardSaid : Prop := Claim7.holds Tryd.pinned (.plain (OpenSpec.ofChange algebraStaysSpec)) algebraStaysCard

/-- THE TIED CARD OF 'macaroonlaw13.ChainFree'. -/
def chainFreeCard : Claim7 := { stood := { row := chainFreeRow, standIns := [], harness := (true, "002251fd1d8421179ea22efd9d0adccfdd94aee38e6937c75e35bca634011c18"), looks := false }, kinds := [], alts := [], laidByText := true, laidKinds := [.data, .data], laidTests := true, laidLooks := .later }
def ChainFreeCardSaid : Prop := Claim7.holds Tryd.pinned (.plain (OpenSpec.ofChange chainFreeSpec)) chainFreeCard

/-- THE TIED CARD OF 'macaroonlaw14.TicketBlank'. -/
def ticketBlankCard : Claim7 := { stood := { row := ticketBlankRow, standIns := [], harness := (true, "002251fd1d8421179ea22efd9d0adccfdd94aee38e6937c75e35bca634011c18"), looks := false }, kinds := [], alts := [], laidByText := true, laidKinds := [.data, .data], laidTests := true, laidLooks := .later }
def TicketBlankCardSaid : Prop := Claim7.holds Tryd.pinned (.plain (OpenSpec.ofChange ticketBlankSpec)) ticketBlankCard

/-- THE TIED CARD OF 'macaroonlaw14.TicketOpen'. -/
def ticketOpenCard : Claim7 := { stood := { row := ticketOpenRow, standIns := [], harness := (true, "002251fd1d8421179ea22efd9d0adccfdd94aee38e6937c75e35bca634011c18"), looks := false }, kinds := [], alts := [], laidByText := true, laidKinds := [.data, .data], laidTests := true, laidLooks := .later }
def TicketOpenCardSaid : Prop := Claim7.holds Tryd.pinned (.plain (OpenSpec.ofChange ticketOpenSpec)) ticketOpenCard

/-- THE TIED CARD OF 'macaroonlaw14.TicketBack'. -/
def ticketBackCard : Claim7 := { stood := { row := ticketBackRow, standIns := [], harness := (true, "002251fd1d8421179ea22efd9d0adccfdd94aee38e6937c75e35bca634011c18"), looks := false }, kinds := [], alts := [], laidByText := true, laidKinds := [.data, .data], laidTests := true, laidLooks := .later }
def TicketBackCardSaid : Prop := Claim7.holds Tryd.pinned (.plain (OpenSpec.ofChange ticketBackSpec)) ticketBackCard

/-- THE SECOND FORM's CARD OF 'macaroonlaw10.AlgebraStays'. -/
def algebraStaysUptoCard : Claim7 := { stood := { row := algebraStaysUptoRow, standIns := [], harness := (true, "002251fd1d8421179ea22efd9d0adccfdd94aee38e6937c75e35bca634011c18"), looks := false }, kinds := [], alts := [], laidByText := true, laidKinds := [.data, .data], laidTests := true, laidLooks := .later }
def AlgebraStaysUptoCardSaid : Prop := Claim7.holds Tryd.pinned (.plain (OpenSpec.upto algebraStaysSpec)) algebraStaysUptoCard

/-- THE SECOND FORM's CARD OF 'macaroonlaw13.ChainFree'. -/
def chainFreeUptoCard : Claim7 := { stood := { row := chainFreeUptoRow, standIns := [], harness := (true, "002251fd1d8421179ea22efd9d0adccfdd94aee38e6937c75e35bca634011c18"), looks := false }, kinds := [], alts := [], laidByText := true, laidKinds := [.data, .data], laidTests := true, laidLooks := .later }
def ChainFreeUptoCardSaid : Prop := Claim7.holds Tryd.pinned (.plain (OpenSpec.upto chainFreeSpec)) chainFreeUptoCard

/-- THE SECOND FORM's CARD OF 'macaroonlaw14.TicketBlank'. -/
def ticketBlankUptoCard : Claim7 := { stood := { row := ticketBlankUptoRow, standIns := [], harness := (true, "002251fd1d8421179ea22efd9d0adccfdd94aee38e6937c75e35bca634011c18"), looks := false }, kinds := [], alts := [], laidByText := true, laidKinds := [.data, .data], laidTests := true, laidLooks := .later }
def TicketBlankUptoCardSaid : Prop := Claim7.holds Tryd.pinned (.plain (OpenSpec.upto ticketBlankSpec)) ticketBlankUptoCard

/-- THE SECOND FORM's CARD OF 'macaroonlaw14.TicketOpen'. -/
def ticketOpenUptoCard : Claim7 := { stood := { row := ticketOpenUptoRow, standIns := [], harness := (true, "002251fd1d8421179ea22efd9d0adccfdd94aee38e6937c75e35bca634011c18"), looks := false }, kinds := [], alts := [], laidByText := true, laidKinds := [.data, .data], laidTests := true, laidLooks := .later }
def TicketOpenUptoCardSaid : Prop := Claim7.holds Tryd.pinned (.plain (OpenSpec.upto ticketOpenSpec)) ticketOpenUptoCard

/-- THE SECOND FORM's CARD OF 'macaroonlaw14.TicketBack'. -/
def ticketBackUptoCard : Claim7 := { stood := { row := ticketBackUptoRow, standIns := [], harness := (true, "002251fd1d8421179ea22efd9d0adccfdd94aee38e6937c75e35bca634011c18"), looks := false }, kinds := [], alts := [], laidByText := true, laidKinds := [.data, .data], laidTests := true, laidLooks := .later }
def TicketBackUptoCardSaid : Prop := Claim7.holds Tryd.pinned (.plain (OpenSpec.upto ticketBackSpec)) ticketBackUptoCard
end Rows
end Go.Proofs.YtiikhjifjdpgdaaDoor
