/-
  DERIVED. GIVEN WITH THE SEED: THE CARDS: each row of YtknhnkmooaopmaaDoorRows.lean that lists a variable, with what it lists TIED to the program's text (the seventh form; the later family's looks); each row that meets fmt, with fmt's text TOLD by the authors' own Lean function (tested against real Go, not proved from fmt's source: count such statements apart). THE CARD IS WHAT COUNTS. Prove the row's statement (the work); the ties are given (YtknhnkmooaopmaaDoorTie.lean); close each card by the builder's one call (the guide's Derived/Test/ToyasCard.lean, 'card_holds'). Laid BY PROGRAM, IN A SANDBOX (cutbox-door.mjs). By AI agents, Wed Nov 11 2026. No macro, syntax, notation, axiom, sorry.
-/
import Derived.Test.YtknhnkmooaopmaaDoorRows
import GoSem.ClaimSeven
namespace Go.Proofs.YtknhnkmooaopmaaDoor
namespace Rows

/-- THE TIED CARD OF 'macaroonlaw10.AlgebraStays'. -/
def algebraStaysCard : Claim7 := { stood := { row := algebraStaysRow, standIns := [], harness := (true, "3974f881acbd4b59697616dc9a9aba55556458d3f536456b369d6fa8bff83ebe"), looks := false }, kinds := [], alts := [], laidByText := true, laidKinds := [.data, .data], laidTests := true, laidLooks := .later }
def AlgebraStaysCardSaid : Prop := Claim7.holds Tryd.pinned (.plain (OpenSpec.ofChange algebraStaysSpec)) algebraStaysCard

/-- THE TIED CARD OF 'macaroonlaw11.BoxSeal'. -/
def boxSealCard : Claim7 := { stood := { row := boxSealRow, standIns := [], harness := (true, "3974f881acbd4b59697616dc9a9aba55556458d3f536456b369d6fa8bff83ebe"), looks := false }, kinds := [], alts := [], laidByText := true, laidKinds := [.data, .data], laidTests := true, laidLooks := .later }
def BoxSealCardSaid : Prop := Claim7.holds Tryd.pinned (.plain (OpenSpec.ofChange boxSealSpec)) boxSealCard

/-- THE TIED CARD OF 'macaroonlaw11.BoxOpen'. -/
def boxOpenCard : Claim7 := { stood := { row := boxOpenRow, standIns := [], harness := (true, "3974f881acbd4b59697616dc9a9aba55556458d3f536456b369d6fa8bff83ebe"), looks := false }, kinds := [], alts := [], laidByText := true, laidKinds := [.data, .data], laidTests := true, laidLooks := .later }
def BoxOpenCardSaid : Prop := Claim7.holds Tryd.pinned (.plain (OpenSpec.ofChange boxOpenSpec)) boxOpenCard

/-- THE SECOND FORM's CARD OF 'macaroonlaw10.AlgebraStays'. -/
def algebraStaysUptoCard : Claim7 := { stood := { row := algebraStaysUptoRow, standIns := [], harness := (true, "3974f881acbd4b59697616dc9a9aba55556458d3f536456b369d6fa8bff83ebe"), looks := false }, kinds := [], alts := [], laidByText := true, laidKinds := [.data, .data], laidTests := true, laidLooks := .later }
def AlgebraStaysUptoCardSaid : Prop := Claim7.holds Tryd.pinned (.plain (OpenSpec.upto algebraStaysSpec)) algebraStaysUptoCard

/-- THE SECOND FORM's CARD OF 'macaroonlaw11.BoxSeal'. -/
def boxSealUptoCard : Claim7 := { stood := { row := boxSealUptoRow, standIns := [], harness := (true, "3974f881acbd4b59697616dc9a9aba55556458d3f536456b369d6fa8bff83ebe"), looks := false }, kinds := [], alts := [], laidByText := true, laidKinds := [.data, .data], laidTests := true, laidLooks := .later }
def BoxSealUptoCardSaid : Prop := Claim7.holds Tryd.pinned (.plain (OpenSpec.upto boxSealSpec)) boxSealUptoCard

/-- THE SECOND FORM's CARD OF 'macaroonlaw11.BoxOpen'. -/
def boxOpenUptoCard : Claim7 := { stood := { row := boxOpenUptoRow, standIns := [], harness := (true, "3974f881acbd4b59697616dc9a9aba55556458d3f536456b369d6fa8bff83ebe"), looks := false }, kinds := [], alts := [], laidByText := true, laidKinds := [.data, .data], laidTests := true, laidLooks := .later }
def BoxOpenUptoCardSaid : Prop := Claim7.holds Tryd.pinned (.plain (OpenSpec.upto boxOpenSpec)) boxOpenUptoCard
end Rows
end Go.Proofs.YtknhnkmooaopmaaDoor
