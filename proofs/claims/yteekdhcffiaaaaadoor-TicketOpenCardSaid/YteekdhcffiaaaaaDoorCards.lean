/-
  DERIVED. GIVEN WITH THE SEED: THE CARDS: each row of YteekdhcffiaaaaaDoorRows.lean that lists a variable, with what it lists TIED to the program's text (the seventh form; the later family's looks); each row that meets fmt, with fmt's text TOLD by the authors' own Lean function (tested against real Go, not proved from fmt's source: count such statements apart). THE CARD IS WHAT COUNTS. Prove the row's statement (the work); the ties are given (YteekdhcffiaaaaaDoorTie.lean); close each card by the builder's one call (the guide's Derived/Test/ToyasCard.lean, 'card_holds'). Laid BY PROGRAM, IN A SANDBOX (cutbox-door.mjs). By AI agents, Wed Nov 11 2026. No macro, syntax, notation, axiom, sorry.
-/
import Derived.Test.YteekdhcffiaaaaaDoorRows
import GoSem.ClaimSeven
namespace Go.Proofs.YteekdhcffiaaaaaDoor
namespace Rows

/-- THE TIED CARD OF 'macaroonlaw14.TicketBlank'. -/
def ticketBlankCard : Claim7 := { stood := { row := ticketBlankRow, standIns := [], harness := (true, "b9d525cb3c4a57076ad88d38dbf354e63df6ea48fd6ba0ebe45c0643a381f974"), looks := false }, kinds := [], alts := [], laidByText := true, laidKinds := [.data, .data], laidTests := true, laidLooks := .later }
def TicketBlankCardSaid : Prop := Claim7.holds Tryd.pinned (.plain (OpenSpec.ofChange ticketBlankSpec)) ticketBlankCard

/-- THE TIED CARD OF 'macaroonlaw14.TicketOpen'. -/
def ticketOpenCard : Claim7 := { stood := { row := ticketOpenRow, standIns := [], harness := (true, "b9d525cb3c4a57076ad88d38dbf354e63df6ea48fd6ba0ebe45c0643a381f974"), looks := false }, kinds := [], alts := [], laidByText := true, laidKinds := [.data, .data], laidTests := true, laidLooks := .later }
def TicketOpenCardSaid : Prop := Claim7.holds Tryd.pinned (.plain (OpenSpec.ofChange ticketOpenSpec)) ticketOpenCard

/-- THE SECOND FORM's CARD OF 'macaroonlaw14.TicketBlank'. -/
def ticketBlankUptoCard : Claim7 := { stood := { row := ticketBlankUptoRow, standIns := [], harness := (true, "b9d525cb3c4a57076ad88d38dbf354e63df6ea48fd6ba0ebe45c0643a381f974"), looks := false }, kinds := [], alts := [], laidByText := true, laidKinds := [.data, .data], laidTests := true, laidLooks := .later }
def TicketBlankUptoCardSaid : Prop := Claim7.holds Tryd.pinned (.plain (OpenSpec.upto ticketBlankSpec)) ticketBlankUptoCard

/-- THE SECOND FORM's CARD OF 'macaroonlaw14.TicketOpen'. -/
def ticketOpenUptoCard : Claim7 := { stood := { row := ticketOpenUptoRow, standIns := [], harness := (true, "b9d525cb3c4a57076ad88d38dbf354e63df6ea48fd6ba0ebe45c0643a381f974"), looks := false }, kinds := [], alts := [], laidByText := true, laidKinds := [.data, .data], laidTests := true, laidLooks := .later }
def TicketOpenUptoCardSaid : Prop := Claim7.holds Tryd.pinned (.plain (OpenSpec.upto ticketOpenSpec)) ticketOpenUptoCard
end Rows
end Go.Proofs.YteekdhcffiaaaaaDoor
