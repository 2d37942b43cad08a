/-
  DERIVED. GIVEN WITH THE SEED: THE CARDS: each row of YtgbcncfhmnhljaaDoorRows.lean that lists a variable, with what it lists TIED to the program's text (the seventh form; the later family's looks); each row that meets fmt, with fmt's text TOLD by the authors' own Lean function (tested against real Go, not proved from fmt's source: count such statements apart). THE CARD IS WHAT COUNTS. Prove the row's statement (the work); the ties are given (YtgbcncfhmnhljaaDoorTie.lean); close each card by the builder's one call (the guide's Derived/Test/ToyasCard.lean, 'card_holds'). Laid BY PROGRAM, IN A SANDBOX (cutbox-door.mjs). By AI agents, Wed Nov 11 2026. No macro, syntax, notation, axiom, sorry.
-/
import Derived.Test.YtgbcncfhmnhljaaDoorRows
import GoSem.ClaimSeven
namespace Go.Proofs.YtgbcncfhmnhljaaDoor
namespace Rows

/-- THE TIED CARD OF 'macaroonlaw09.ContainWithin'. -/
def containWithinCard : Claim7 := { stood := { row := containWithinRow, standIns := [], harness := (true, "26ef7ab1730eaa250bcb135ee275a6903224312d5c8ba491d9e5b4716305d176"), looks := false }, kinds := [], alts := [], laidByText := true, laidKinds := [.data], laidTests := true, laidLooks := .later }
def ContainWithinCardSaid : Prop := Claim7.holds Tryd.pinned (.plain (OpenSpec.ofChange containWithinSpec)) containWithinCard

/-- THE TIED CARD OF 'macaroonlaw09.ContainWitness'. -/
def containWitnessCard : Claim7 := { stood := { row := containWitnessRow, standIns := [], harness := (true, "26ef7ab1730eaa250bcb135ee275a6903224312d5c8ba491d9e5b4716305d176"), looks := false }, kinds := [], alts := [], laidByText := true, laidKinds := [.data], laidTests := true, laidLooks := .later }
def ContainWitnessCardSaid : Prop := Claim7.holds Tryd.pinned (.plain (OpenSpec.ofChange containWitnessSpec)) containWitnessCard

/-- THE SECOND FORM's CARD OF 'macaroonlaw09.ContainWithin'. -/
def containWithinUptoCard : Claim7 := { stood := { row := containWithinUptoRow, standIns := [], harness := (true, "26ef7ab1730eaa250bcb135ee275a6903224312d5c8ba491d9e5b4716305d176"), looks := false }, kinds := [], alts := [], laidByText := true, laidKinds := [.data], laidTests := true, laidLooks := .later }
def ContainWithinUptoCardSaid : Prop := Claim7.holds Tryd.pinned (.plain (OpenSpec.upto containWithinSpec)) containWithinUptoCard

/-- THE SECOND FORM's CARD OF 'macaroonlaw09.ContainWitness'. -/
def containWitnessUptoCard : Claim7 := { stood := { row := containWitnessUptoRow, standIns := [], harness := (true, "26ef7ab1730eaa250bcb135ee275a6903224312d5c8ba491d9e5b4716305d176"), looks := false }, kinds := [], alts := [], laidByText := true, laidKinds := [.data], laidTests := true, laidLooks := .later }
def ContainWitnessUptoCardSaid : Prop := Claim7.holds Tryd.pinned (.plain (OpenSpec.upto containWitnessSpec)) containWitnessUptoCard
end Rows
end Go.Proofs.YtgbcncfhmnhljaaDoor
