/-
  DERIVED. GIVEN WITH THE SEED: THE CARDS: each row of YtodmfippjcfbbaaDoorRows.lean that lists a variable, with what it lists TIED to the program's text (the seventh form; the later family's looks); each row that meets fmt, with fmt's text TOLD by the authors' own Lean function (tested against real Go, not proved from fmt's source: count such statements apart). THE CARD IS WHAT COUNTS. Prove the row's statement (the work); the ties are given (YtodmfippjcfbbaaDoorTie.lean); close each card by the builder's one call (the guide's Derived/Test/ToyasCard.lean, 'card_holds'). Laid BY PROGRAM, IN A SANDBOX (cutbox-door.mjs). By AI agents, Wed Nov 11 2026. No macro, syntax, notation, axiom, sorry.
-/
import Derived.Test.YtodmfippjcfbbaaDoorRows
import GoSem.ClaimSeven
namespace Go.Proofs.YtodmfippjcfbbaaDoor
namespace Rows

/-- THE TIED CARD OF 'macaroonlaw10.AlgebraStays'. -/
def algebraStaysCard : Claim7 := { stood := { row := algebraStaysRow, standIns := [], harness := (true, "f32f1f3418c92878c10132815efe60fb714d4bc653e1f1032fa0438a27f7f907"), looks := false }, kinds := [], alts := [], laidByText := true, laidKinds := [.data, .data], laidTests := true, laidLooks := .later }
def AlgebraStaysCardSaid : Prop := Claim7.holds Tryd.pinned (.plain (OpenSpec.ofChange algebraStaysSpec)) algebraStaysCard

/-- THE TIED CARD OF 'macaroonlaw13.ChainMint'. -/
def chainMintCard : Claim7 := { stood := { row := chainMintRow, standIns := [], harness := (true, "f32f1f3418c92878c10132815efe60fb714d4bc653e1f1032fa0438a27f7f907"), looks := false }, kinds := [], alts := [], laidByText := true, laidKinds := [.data, .data], laidTests := true, laidLooks := .later }
def ChainMintCardSaid : Prop := Claim7.holds Tryd.pinned (.plain (OpenSpec.ofChange chainMintSpec)) chainMintCard

/-- THE TIED CARD OF 'macaroonlaw13.ChainFree'. -/
def chainFreeCard : Claim7 := { stood := { row := chainFreeRow, standIns := [], harness := (true, "f32f1f3418c92878c10132815efe60fb714d4bc653e1f1032fa0438a27f7f907"), looks := false }, kinds := [], alts := [], laidByText := true, laidKinds := [.data, .data], laidTests := true, laidLooks := .later }
def ChainFreeCardSaid : Prop := Claim7.holds Tryd.pinned (.plain (OpenSpec.ofChange chainFreeSpec)) chainFreeCard

/-- THE SECOND FORM's CARD OF 'macaroonlaw10.AlgebraStays'. -/
def algebraStaysUptoCard : Claim7 := { stood := { row := algebraStaysUptoRow, standIns := [], harness := (true, "f32f1f3418c92878c10132815efe60fb714d4bc653e1f1032fa0438a27f7f907"), looks := false }, kinds := [], alts := [], laidByText := true, laidKinds := [.data, .data], laidTests := true, laidLooks := .later }
def AlgebraStaysUptoCardSaid : Prop := Claim7.holds Tryd.pinned (.plain (OpenSpec.upto algebraStaysSpec)) algebraStaysUptoCard

/-- THE SECOND FORM's CARD OF 'macaroonlaw13.ChainMint'. -/
def chainMintUptoCard : Claim7 := { stood := { row := chainMintUptoRow, standIns := [], harness := (true, "f32f1f3418c92878c10132815efe60fb714d4bc653e1f1032fa0438a27f7f907"), looks := false }, kinds := [], alts := [], laidByText := true, laidKinds := [.data, .data], laidTests := true, laidLooks := .later }
def ChainMintUptoCardSaid : Prop := Claim7.holds Tryd.pinned (.plain (OpenSpec.upto chainMintSpec)) chainMintUptoCard

/-- THE SECOND FORM's CARD OF 'macaroonlaw13.ChainFree'. -/
def chainFreeUptoCard : Claim7 := { stood := { row := chainFreeUptoRow, standIns := [], harness := (true, "f32f1f3418c92878c10132815efe60fb714d4bc653e1f1032fa0438a27f7f907"), looks := false }, kinds := [], alts := [], laidByText := true, laidKinds := [.data, .data], laidTests := true, laidLooks := .later }
def ChainFreeUptoCardSaid : Prop := Claim7.holds Tryd.pinned (.plain (OpenSpec.upto chainFreeSpec)) chainFreeUptoCard
end Rows
end Go.Proofs.YtodmfippjcfbbaaDoor
