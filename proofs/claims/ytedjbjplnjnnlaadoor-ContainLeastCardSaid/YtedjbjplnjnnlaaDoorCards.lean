/-
  DERIVED. GIVEN WITH THE SEED: THE CARDS: each row of YtedjbjplnjnnlaaDoorRows.lean that lists a variable, with what it lists TIED to the program's text (the seventh form; the later family's looks); each row that meets fmt, with fmt's text TOLD by the authors' own Lean function (tested against real Go, not proved from fmt's source: count such statements apart). THE CARD IS WHAT COUNTS. Prove the row's statement (the work); the ties are given (YtedjbjplnjnnlaaDoorTie.lean); close each card by the builder's one call (the guide's Derived/Test/ToyasCard.lean, 'card_holds'). Laid BY PROGRAM, IN A SANDBOX (cutbox-door.mjs). By AI agents, Wed Nov 11 2026. No macro, syntax, notation, axiom, sorry.
-/
import Derived.Test.YtedjbjplnjnnlaaDoorRows
import GoSem.ClaimSeven
namespace Go.Proofs.YtedjbjplnjnnlaaDoor
namespace Rows

/-- THE TIED CARD OF 'macaroonlaw09.ContainWithin'. -/
def containWithinCard : Claim7 := { stood := { row := containWithinRow, standIns := [], harness := (true, "7173769290ac2108aea015e33dbee14e5f8081d0e86e23dd102a66445dcf2241"), looks := false }, kinds := [], alts := [], laidByText := true, laidKinds := [.data], laidTests := true, laidLooks := .later }
def ContainWithinCardSaid : Prop := Claim7.holds Tryd.pinned (.plain (OpenSpec.ofChange containWithinSpec)) containWithinCard

/-- THE TIED CARD OF 'macaroonlaw09.ContainLeast'. -/
def containLeastCard : Claim7 := { stood := { row := containLeastRow, standIns := [], harness := (true, "7173769290ac2108aea015e33dbee14e5f8081d0e86e23dd102a66445dcf2241"), looks := false }, kinds := [], alts := [], laidByText := true, laidKinds := [.data], laidTests := true, laidLooks := .later }
def ContainLeastCardSaid : Prop := Claim7.holds Tryd.pinned (.plain (OpenSpec.ofChange containLeastSpec)) containLeastCard

/-- THE TIED CARD OF 'macaroonlaw09.ContainWitness'. -/
def containWitnessCard : Claim7 := { stood := { row := containWitnessRow, standIns := [], harness := (true, "7173769290ac2108aea015e33dbee14e5f8081d0e86e23dd102a66445dcf2241"), looks := false }, kinds := [], alts := [], laidByText := true, laidKinds := [.data], laidTests := true, laidLooks := .later }
def ContainWitnessCardSaid : Prop := Claim7.holds Tryd.pinned (.plain (OpenSpec.ofChange containWitnessSpec)) containWitnessCard

/-- THE TIED CARD OF 'macaroonlaw09.ContainShown'. -/
def containShownCard : Claim7 := { stood := { row := containShownRow, standIns := [], harness := (true, "7173769290ac2108aea015e33dbee14e5f8081d0e86e23dd102a66445dcf2241"), looks := false }, kinds := [], alts := [], laidByText := true, laidKinds := [.data], laidTests := true, laidLooks := .later }
def ContainShownCardSaid : Prop := Claim7.holds Tryd.pinned (.plain (OpenSpec.ofChange containShownSpec)) containShownCard

/-- THE TIED CARD OF 'macaroonlaw09.ContainFirst'. -/
def containFirstCard : Claim7 := { stood := { row := containFirstRow, standIns := [], harness := (true, "7173769290ac2108aea015e33dbee14e5f8081d0e86e23dd102a66445dcf2241"), looks := false }, kinds := [], alts := [], laidByText := true, laidKinds := [.data], laidTests := true, laidLooks := .later }
def ContainFirstCardSaid : Prop := Claim7.holds Tryd.pinned (.plain (OpenSpec.ofChange containFirstSpec)) containFirstCard

/-- THE TIED CARD OF 'macaroonlaw09.ContainOrder'. -/
def containOrderCard : Claim7 := { stood := { row := containOrderRow, standIns := [], harness := (true, "7173769290ac2108aea015e33dbee14e5f8081d0e86e23dd102a66445dcf2241"), looks := false }, kinds := [], alts := [], laidByText := true, laidKinds := [.data], laidTests := true, laidLooks := .later }
def ContainOrderCardSaid : Prop := Claim7.holds Tryd.pinned (.plain (OpenSpec.ofChange containOrderSpec)) containOrderCard

/-- THE SECOND FORM's CARD OF 'macaroonlaw09.ContainWithin'. -/
def containWithinUptoCard : Claim7 := { stood := { row := containWithinUptoRow, standIns := [], harness := (true, "7173769290ac2108aea015e33dbee14e5f8081d0e86e23dd102a66445dcf2241"), looks := false }, kinds := [], alts := [], laidByText := true, laidKinds := [.data], laidTests := true, laidLooks := .later }
def ContainWithinUptoCardSaid : Prop := Claim7.holds Tryd.pinned (.plain (OpenSpec.upto containWithinSpec)) containWithinUptoCard

/-- THE SECOND FORM's CARD OF 'macaroonlaw09.ContainLeast'. -/
def containLeastUptoCard : Claim7 := { stood := { row := containLeastUptoRow, standIns := [], harness := (true, "7173769290ac2108aea015e33dbee14e5f8081d0e86e23dd102a66445dcf2241"), looks := false }, kinds := [], alts := [], laidByText := true, laidKinds := [.data], laidTests := true, laidLooks := .later }
def ContainLeastUptoCardSaid : Prop := Claim7.holds Tryd.pinned (.plain (OpenSpec.upto containLeastSpec)) containLeastUptoCard

/-- THE SECOND FORM's CARD OF 'macaroonlaw09.ContainWitness'. -/
def containWitnessUptoCard : Claim7 := { stood := { row := containWitnessUptoRow, standIns := [], harness := (true, "7173769290ac2108aea015e33dbee14e5f8081d0e86e23dd102a66445dcf2241"), looks := false }, kinds := [], alts := [], laidByText := true, laidKinds := [.data], laidTests := true, laidLooks := .later }
def ContainWitnessUptoCardSaid : Prop := Claim7.holds Tryd.pinned (.plain (OpenSpec.upto containWitnessSpec)) containWitnessUptoCard

/-- THE SECOND FORM's CARD OF 'macaroonlaw09.ContainShown'. -/
def containShownUptoCard : Claim7 := { stood := { row := containShownUptoRow, standIns := [], harness := (true, "7173769290ac2108aea015e33dbee14e5f8081d0e86e23dd102a66445dcf2241"), looks := false }, kinds := [], alts := [], laidByText := true, laidKinds := [.data], laidTests := true, laidLooks := .later }
def ContainShownUptoCardSaid : Prop := Claim7.holds Tryd.pinned (.plain (OpenSpec.upto containShownSpec)) containShownUptoCard

/-- THE SECOND FORM's CARD OF 'macaroonlaw09.ContainFirst'. -/
def containFirstUptoCard : Claim7 := { stood := { row := containFirstUptoRow, standIns := [], harness := (true, "7173769290ac2108aea015e33dbee14e5f8081d0e86e23dd102a66445dcf2241"), looks := false }, kinds := [], alts := [], laidByText := true, laidKinds := [.data], laidTests := true, laidLooks := .later }
def ContainFirstUptoCardSaid : Prop := Claim7.holds Tryd.pinned (.plain (OpenSpec.upto containFirstSpec)) containFirstUptoCard

/-- THE SECOND FORM's CARD OF 'macaroonlaw09.ContainOrder'. -/
def containOrderUptoCard : Claim7 := { stood := { row := containOrderUptoRow, standIns := [], harness := (true, "7173769290ac2108aea015e33dbee14e5f8081d0e86e23dd102a66445dcf2241"), looks := false }, kinds := [], alts := [], laidByText := true, laidKinds := [.data], laidTests := true, laidLooks := .later }
def ContainOrderUptoCardSaid : Prop := Claim7.holds Tryd.pinned (.plain (OpenSpec.upto containOrderSpec)) containOrderUptoCard
end Rows
end Go.Proofs.YtedjbjplnjnnlaaDoor
