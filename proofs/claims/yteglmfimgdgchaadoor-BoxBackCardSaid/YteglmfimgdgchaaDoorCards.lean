/-
  DERIVED. GIVEN WITH THE SEED: THE CARDS: each row of YteglmfimgdgchaaDoorRows.lean that lists a variable, with what it lists TIED to the program's text (the seventh form; the later family's looks); each row that meets fmt, with fmt's text TOLD by the authors' own Lean function (tested against real Go, not proved from fmt's source: count such statements apart). THE CARD IS WHAT COUNTS. Prove the row's statement (the work); the ties are given (YteglmfimgdgchaaDoorTie.lean); close each card by the builder's one call (the guide's Derived/Test/ToyasCard.lean, 'card_holds'). Laid BY PROGRAM, IN A SANDBOX (cutbox-door.mjs). By AI agents, Wed Nov 11 2026. No macro, syntax, notation, axiom, sorry.
-/
import Derived.Test.YteglmfimgdgchaaDoorRows
import GoSem.ClaimSeven
namespace Go.Proofs.YteglmfimgdgchaaDoor
namespace Rows

/-- THE TIED CARD OF 'macaroonlaw10.AlgebraKey'. -/
def algebraKeyCard : Claim7 := { stood := { row := algebraKeyRow, standIns := [], harness := (true, "31b2d30fd59d4f8ee865bb9f0f582e295e43d2367c708a09c4b2203d67f85f21"), looks := false }, kinds := [], alts := [], laidByText := true, laidKinds := [.data, .data], laidTests := true, laidLooks := .later }
def AlgebraKeyCardSaid : Prop := Claim7.holds Tryd.pinned (.plain (OpenSpec.ofChange algebraKeySpec)) algebraKeyCard

/-- THE TIED CARD OF 'macaroonlaw10.AlgebraMac'. -/
def algebraMacCard : Claim7 := { stood := { row := algebraMacRow, standIns := [], harness := (true, "31b2d30fd59d4f8ee865bb9f0f582e295e43d2367c708a09c4b2203d67f85f21"), looks := false }, kinds := [], alts := [], laidByText := true, laidKinds := [.data, .data], laidTests := true, laidLooks := .later }
def AlgebraMacCardSaid : Prop := Claim7.holds Tryd.pinned (.plain (OpenSpec.ofChange algebraMacSpec)) algebraMacCard

/-- THE TIED CARD OF 'macaroonlaw10.AlgebraLook'. -/
def algebraLookCard : Claim7 := { stood := { row := algebraLookRow, standIns := [], harness := (true, "31b2d30fd59d4f8ee865bb9f0f582e295e43d2367c708a09c4b2203d67f85f21"), looks := false }, kinds := [], alts := [], laidByText := true, laidKinds := [.data, .data], laidTests := true, laidLooks := .later }
def AlgebraLookCardSaid : Prop := Claim7.holds Tryd.pinned (.plain (OpenSpec.ofChange algebraLookSpec)) algebraLookCard

/-- THE TIED CARD OF 'macaroonlaw10.AlgebraFound'. -/
def algebraFoundCard : Claim7 := { stood := { row := algebraFoundRow, standIns := [], harness := (true, "31b2d30fd59d4f8ee865bb9f0f582e295e43d2367c708a09c4b2203d67f85f21"), looks := false }, kinds := [], alts := [], laidByText := true, laidKinds := [.data, .data], laidTests := true, laidLooks := .later }
def AlgebraFoundCardSaid : Prop := Claim7.holds Tryd.pinned (.plain (OpenSpec.ofChange algebraFoundSpec)) algebraFoundCard

/-- THE TIED CARD OF 'macaroonlaw10.AlgebraFree'. -/
def algebraFreeCard : Claim7 := { stood := { row := algebraFreeRow, standIns := [], harness := (true, "31b2d30fd59d4f8ee865bb9f0f582e295e43d2367c708a09c4b2203d67f85f21"), looks := false }, kinds := [], alts := [], laidByText := true, laidKinds := [.data, .data], laidTests := true, laidLooks := .later }
def AlgebraFreeCardSaid : Prop := Claim7.holds Tryd.pinned (.plain (OpenSpec.ofChange algebraFreeSpec)) algebraFreeCard

/-- THE TIED CARD OF 'macaroonlaw10.AlgebraStays'. -/
def algebraStaysCard : Claim7 := { stood := { row := algebraStaysRow, standIns := [], harness := (true, "31b2d30fd59d4f8ee865bb9f0f582e295e43d2367c708a09c4b2203d67f85f21"), looks := false }, kinds := [], alts := [], laidByText := true, laidKinds := [.data, .data], laidTests := true, laidLooks := .later }
def AlgebraStaysCardSaid : Prop := Claim7.holds Tryd.pinned (.plain (OpenSpec.ofChange algebraStaysSpec)) algebraStaysCard

/-- THE TIED CARD OF 'macaroonlaw11.BoxSeal'. -/
def boxSealCard : Claim7 := { stood := { row := boxSealRow, standIns := [], harness := (true, "31b2d30fd59d4f8ee865bb9f0f582e295e43d2367c708a09c4b2203d67f85f21"), looks := false }, kinds := [], alts := [], laidByText := true, laidKinds := [.data, .data], laidTests := true, laidLooks := .later }
def BoxSealCardSaid : Prop := Claim7.holds Tryd.pinned (.plain (OpenSpec.ofChange boxSealSpec)) boxSealCard

/-- THE TIED CARD OF 'macaroonlaw11.BoxOpen'. -/
def boxOpenCard : Claim7 := { stood := { row := boxOpenRow, standIns := [], harness := (true, "31b2d30fd59d4f8ee865bb9f0f582e295e43d2367c708a09c4b2203d67f85f21"), looks := false }, kinds := [], alts := [], laidByText := true, laidKinds := [.data, .data], laidTests := true, laidLooks := .later }
def BoxOpenCardSaid : Prop := Claim7.holds Tryd.pinned (.plain (OpenSpec.ofChange boxOpenSpec)) boxOpenCard

/-- THE TIED CARD OF 'macaroonlaw11.BoxBack'. -/
def boxBackCard : Claim7 := { stood := { row := boxBackRow, standIns := [], harness := (true, "31b2d30fd59d4f8ee865bb9f0f582e295e43d2367c708a09c4b2203d67f85f21"), looks := false }, kinds := [], alts := [], laidByText := true, laidKinds := [.data, .data], laidTests := true, laidLooks := .later }
def BoxBackCardSaid : Prop := Claim7.holds Tryd.pinned (.plain (OpenSpec.ofChange boxBackSpec)) boxBackCard

/-- THE TIED CARD OF 'macaroonlaw11.BoxFree'. -/
def boxFreeCard : Claim7 := { stood := { row := boxFreeRow, standIns := [], harness := (true, "31b2d30fd59d4f8ee865bb9f0f582e295e43d2367c708a09c4b2203d67f85f21"), looks := false }, kinds := [], alts := [], laidByText := true, laidKinds := [.data, .data], laidTests := true, laidLooks := .later }
def BoxFreeCardSaid : Prop := Claim7.holds Tryd.pinned (.plain (OpenSpec.ofChange boxFreeSpec)) boxFreeCard

/-- THE SECOND FORM's CARD OF 'macaroonlaw10.AlgebraKey'. -/
def algebraKeyUptoCard : Claim7 := { stood := { row := algebraKeyUptoRow, standIns := [], harness := (true, "31b2d30fd59d4f8ee865bb9f0f582e295e43d2367c708a09c4b2203d67f85f21"), looks := false }, kinds := [], alts := [], laidByText := true, laidKinds := [.data, .data], laidTests := true, laidLooks := .later }
def AlgebraKeyUptoCardSaid : Prop := Claim7.holds Tryd.pinned (.plain (OpenSpec.upto algebraKeySpec)) algebraKeyUptoCard

/-- THE SECOND FORM's CARD OF 'macaroonlaw10.AlgebraMac'. -/
def algebraMacUptoCard : Claim7 := { stood := { row := algebraMacUptoRow, standIns := [], harness := (true, "31b2d30fd59d4f8ee865bb9f0f582e295e43d2367c708a09c4b2203d67f85f21"), looks := false }, kinds := [], alts := [], laidByText := true, laidKinds := [.data, .data], laidTests := true, laidLooks := .later }
def AlgebraMacUptoCardSaid : Prop := Claim7.holds Tryd.pinned (.plain (OpenSpec.upto algebraMacSpec)) algebraMacUptoCard

/-- THE SECOND FORM's CARD OF 'macaroonlaw10.AlgebraLook'. -/
def algebraLookUptoCard : Claim7 := { stood := { row := algebraLookUptoRow, standIns := [], harness := (true, "31b2d30fd59d4f8ee865bb9f0f582e295e43d2367c708a09c4b2203d67f85f21"), looks := false }, kinds := [], alts := [], laidByText := true, laidKinds := [.data, .data], laidTests := true, laidLooks := .later }
def AlgebraLookUptoCardSaid : Prop := Claim7.holds Tryd.pinned (.plain (OpenSpec.upto algebraLookSpec)) algebraLookUptoCard

/-- THE SECOND FORM's CARD OF 'macaroonlaw10.AlgebraFound'. -/
def algebraFoundUptoCard : Claim7 := { stood := { row := algebraFoundUptoRow, standIns := [], harness := (true, "31b2d30fd59d4f8ee865bb9f0f582e295e43d2367c708a09c4b2203d67f85f21"), looks := false }, kinds := [], alts := [], laidByText := true, laidKinds := [.data, .data], laidTests := true, laidLooks := .later }
def AlgebraFoundUptoCardSaid : Prop := Claim7.holds Tryd.pinned (.plain (OpenSpec.upto algebraFoundSpec)) algebraFoundUptoCard

/-- THE SECOND FORM's CARD OF 'macaroonlaw10.AlgebraFree'. -/
def algebraFreeUptoCard : Claim7 := { stood := { row := algebraFreeUptoRow, standIns := [], harness := (true, "31b2d30fd59d4f8ee865bb9f0f582e295e43d2367c708a09c4b2203d67f85f21"), looks := false }, kinds := [], alts := [], laidByText := true, laidKinds := [.data, .data], laidTests := true, laidLooks := .later }
def AlgebraFreeUptoCardSaid : Prop := Claim7.holds Tryd.pinned (.plain (OpenSpec.upto algebraFreeSpec)) algebraFreeUptoCard

/-- THE SECOND FORM's CARD OF 'macaroonlaw10.AlgebraStays'. -/
def algebraStaysUptoCard : Claim7 := { stood := { row := algebraStaysUptoRow, standIns := [], harness := (true, "31b2d30fd59d4f8ee865bb9f0f582e295e43d2367c708a09c4b2203d67f85f21"), looks := false }, kinds := [], alts := [], laidByText := true, laidKinds := [.data, .data], laidTests := true, laidLooks := .later }
def AlgebraStaysUptoCardSaid : Prop := Claim7.holds Tryd.pinned (.plain (OpenSpec.upto algebraStaysSpec)) algebraStaysUptoCard

/-- THE SECOND FORM's CARD OF 'macaroonlaw11.BoxSeal'. -/
def boxSealUptoCard : Claim7 := { stood := { row := boxSealUptoRow, standIns := [], harness := (true, "31b2d30fd59d4f8ee865bb9f0f582e295e43d2367c708a09c4b2203d67f85f21"), looks := false }, kinds := [], alts := [], laidByText := true, laidKinds := [.data, .data], laidTests := true, laidLooks := .later }
def BoxSealUptoCardSaid : Prop := Claim7.holds Tryd.pinned (.plain (OpenSpec.upto boxSealSpec)) boxSealUptoCard

/-- THE SECOND FORM's CARD OF 'macaroonlaw11.BoxOpen'. -/
def boxOpenUptoCard : Claim7 := { stood := { row := boxOpenUptoRow, standIns := [], harness := (true, "31b2d30fd59d4f8ee865bb9f0f582e295e43d2367c708a09c4b2203d67f85f21"), looks := false }, kinds := [], alts := [], laidByText := true, laidKinds := [.data, .data], laidTests := true, laidLooks := .later }
def BoxOpenUptoCardSaid : Prop := Claim7.holds Tryd.pinned (.plain (OpenSpec.upto boxOpenSpec)) boxOpenUptoCard

/-- THE SECOND FORM's CARD OF 'macaroonlaw11.BoxBack'. -/
def boxBackUptoCard : Claim7 := { stood := { row := boxBackUptoRow, standIns := [], harness := (true, "31b2d30fd59d4f8ee865bb9f0f582e295e43d2367c708a09c4b2203d67f85f21"), looks := false }, kinds := [], alts := [], laidByText := true, laidKinds := [.data, .data], laidTests := true, laidLooks := .later }
def BoxBackUptoCardSaid : Prop := Claim7.holds Tryd.pinned (.plain (OpenSpec.upto boxBackSpec)) boxBackUptoCard

/-- THE SECOND FORM's CARD OF 'macaroonlaw11.BoxFree'. -/
def boxFreeUptoCard : Claim7 := { stood := { row := boxFreeUptoRow, standIns := [], harness := (true, "31b2d30fd59d4f8ee865bb9f0f582e295e43d2367c708a09c4b2203d67f85f21"), looks := false }, kinds := [], alts := [], laidByText := true, laidKinds := [.data, .data], laidTests := true, laidLooks := .later }
def BoxFreeUptoCardSaid : Prop := Claim7.holds Tryd.pinned (.plain (OpenSpec.upto boxFreeSpec)) boxFreeUptoCard
end Rows
end Go.Proofs.YteglmfimgdgchaaDoor
