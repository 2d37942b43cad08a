/-
  No cell of these rows narrows 'for every input' (looked for: loops, veiled, ifaces, maps, wideKeys, modest, calm, conditions, laid).
  DERIVED. THE GIVEN ROWS OF THIS SEAT. 4 by the template 'for every input the law returns true; each argument reads behind the call as it read before'; 0 by the template 'total and deterministic' (their statements: YtknhnkmooaopmaaTotals.lean).
  GIVEN WITH THE SEED: the statements are not yours to turn. If you find one false, say at which input.
  Laid BY PROGRAM, IN A SANDBOX (cutbox-rows.mjs): the forced cells as the released guide's own fill.sh prints them over the translation c743288d87558b6a… (all of the seat's roots in one cut). By AI agents, Wed Nov 11 2026. No macro, syntax, notation, axiom, sorry.
-/
import Derived.Test.YtknhnkmooaopmaaChecked
import GoSem.Claim
import GoSem.ClaimJoined
import GoSem.ClaimMapViews
import Derived.JoinedTies
import Derived.KernelRfl
namespace Go.Proofs.Ytknhnkmooaopmaa
/- THE CELL 'sum', in the pinned program and in every row, IS THE sha256 OF THE DUMP (.gsa) THAT YtknhnkmooaopmaaProg.lean LOADS. Nothing in Lean hashes anything: it is a label: what it is worth is what the hold of that sum in a sandbox is worth. -/
noncomputable def Try.pinned : Pinned := { name := "ytknhnkmooaopmaa", sum := "c743288d87558b6a952aee9ef231a9dde33d3a5581354cf9bdc7da948b5cfd26", checked := Try.checked }
namespace Rows
def none {H : Type} : Left H := { results := [], args := [] }

/-- 'macaroonlaw12.CaveatValid': WHATEVER THE INPUT: true; the input reads as it did. -/
def caveatValidSpec : ChangeSpec := { name := "caveatValid", fn := fun _ => fun
  | [d1, d2, d3, d4, d5] => { results := [.lit (.bool true)], args := [d1, d2, d3, d4, d5] }
  | _ => none }
def caveatValidRow : OpenClaim := { program := "ytknhnkmooaopmaa", sum := "c743288d87558b6a952aee9ef231a9dde33d3a5581354cf9bdc7da948b5cfd26", func := "macaroon/macaroonlaw12.CaveatValid", spec := "caveatValid", unfollowed := true, recurses := true, apart := false }
def CaveatValidSaid : Prop := caveatValidRow.holds Try.pinned (OpenSpec.ofChange caveatValidSpec)

/-- ITS FALSE NEIGHBOUR: 'it returns false'. Refute it at one input. -/
def caveatValidWrong : ChangeSpec := { name := "caveatValid", fn := fun _ => fun
  | [d1, d2, d3, d4, d5] => { results := [.lit (.bool false)], args := [d1, d2, d3, d4, d5] }
  | _ => none }
def CaveatValidWrongFalsely : Prop := caveatValidRow.holds Try.pinned (OpenSpec.ofChange caveatValidWrong)

/-- 'macaroonlaw12.CaveatCode': WHATEVER THE INPUT: true; the input reads as it did. -/
def caveatCodeSpec : ChangeSpec := { name := "caveatCode", fn := fun _ => fun
  | [d1, d2, d3, d4, d5, d6] => { results := [.lit (.bool true)], args := [d1, d2, d3, d4, d5, d6] }
  | _ => none }
def caveatCodeRow : OpenClaim := { program := "ytknhnkmooaopmaa", sum := "c743288d87558b6a952aee9ef231a9dde33d3a5581354cf9bdc7da948b5cfd26", func := "macaroon/macaroonlaw12.CaveatCode", spec := "caveatCode", unfollowed := true, recurses := true, apart := false }
def CaveatCodeSaid : Prop := caveatCodeRow.holds Try.pinned (OpenSpec.ofChange caveatCodeSpec)

/-- ITS FALSE NEIGHBOUR: 'it returns false'. Refute it at one input. -/
def caveatCodeWrong : ChangeSpec := { name := "caveatCode", fn := fun _ => fun
  | [d1, d2, d3, d4, d5, d6] => { results := [.lit (.bool false)], args := [d1, d2, d3, d4, d5, d6] }
  | _ => none }
def CaveatCodeWrongFalsely : Prop := caveatCodeRow.holds Try.pinned (OpenSpec.ofChange caveatCodeWrong)

/-- 'macaroonlaw12.CaveatBack': WHATEVER THE INPUT: true; the input reads as it did. -/
def caveatBackSpec : ChangeSpec := { name := "caveatBack", fn := fun _ => fun
  | [d1, d2] => { results := [.lit (.bool true)], args := [d1, d2] }
  | _ => none }
def caveatBackRow : OpenClaim := { program := "ytknhnkmooaopmaa", sum := "c743288d87558b6a952aee9ef231a9dde33d3a5581354cf9bdc7da948b5cfd26", func := "macaroon/macaroonlaw12.CaveatBack", spec := "caveatBack", unfollowed := true, recurses := true, apart := false }
def CaveatBackSaid : Prop := caveatBackRow.holds Try.pinned (OpenSpec.ofChange caveatBackSpec)

/-- ITS FALSE NEIGHBOUR: 'it returns false'. Refute it at one input. -/
def caveatBackWrong : ChangeSpec := { name := "caveatBack", fn := fun _ => fun
  | [d1, d2] => { results := [.lit (.bool false)], args := [d1, d2] }
  | _ => none }
def CaveatBackWrongFalsely : Prop := caveatBackRow.holds Try.pinned (OpenSpec.ofChange caveatBackWrong)

/-- 'macaroonlaw12.CaveatUnique': WHATEVER THE INPUT: true; the input reads as it did. -/
def caveatUniqueSpec : ChangeSpec := { name := "caveatUnique", fn := fun _ => fun
  | [d1, d2, d3, d4, d5] => { results := [.lit (.bool true)], args := [d1, d2, d3, d4, d5] }
  | _ => none }
def caveatUniqueRow : OpenClaim := { program := "ytknhnkmooaopmaa", sum := "c743288d87558b6a952aee9ef231a9dde33d3a5581354cf9bdc7da948b5cfd26", func := "macaroon/macaroonlaw12.CaveatUnique", spec := "caveatUnique", unfollowed := true, recurses := true, apart := false }
def CaveatUniqueSaid : Prop := caveatUniqueRow.holds Try.pinned (OpenSpec.ofChange caveatUniqueSpec)

/-- ITS FALSE NEIGHBOUR: 'it returns false'. Refute it at one input. -/
def caveatUniqueWrong : ChangeSpec := { name := "caveatUnique", fn := fun _ => fun
  | [d1, d2, d3, d4, d5] => { results := [.lit (.bool false)], args := [d1, d2, d3, d4, d5] }
  | _ => none }
def CaveatUniqueWrongFalsely : Prop := caveatUniqueRow.holds Try.pinned (OpenSpec.ofChange caveatUniqueWrong)

/- THE SECOND FORM. 'bulk': how many values and letters a reading holds, each counted each time it is reached (what is shared counts as often as it is met; a slice's spare places count too). A statement '..UptoSaid' is the law's where the arguments, and the package variables that the reading takes, are together of bulk at most 1048576: NARROWER than '..Said'. Prove '..Said' where nothing that the law and all that it calls make is longer than what came in: it says more and counts as full. Else prove '..UptoSaid'. A law counts once. -/
mutual
def uptoBulk {H : Type} : DataW H → Nat
  | .lit (.string bytes) => bytes.length + 1
  | .lit _ => 1
  | .nil => 1
  | .ptr d => uptoBulk d + 1
  | .slice elems spare => uptoBulkAll elems + uptoBulkAll spare + 1
  | .agg parts => uptoBulkAll parts + 1
  | .iface _ d => uptoBulk d + 1
  | .map entries => uptoBulkEntries entries + 1
  | .held _ => 1
def uptoBulkAll {H : Type} : List (DataW H) → Nat
  | [] => 0
  | d :: r => uptoBulk d + uptoBulkAll r
def uptoBulkEntries {H : Type} : List (Lit × DataW H) → Nat
  | [] => 0
  | x :: r => uptoBulkEntry x + uptoBulkEntries r
def uptoBulkEntry {H : Type} : Lit × DataW H → Nat
  | (.string bytes, d) => bytes.length + uptoBulk d + 1
  | (_, d) => uptoBulk d + 1
 end
def uptoSmall : (H : Type) → List (DataW H) → Bool := fun _ ds => decide (uptoBulkAll ds ≤ 1048576)
def OpenSpec.upto (s : _root_.Go.ChangeSpec) : _root_.Go.OpenSpec := { _root_.Go.OpenSpec.ofChange s with cond := some uptoSmall }

/-- 'macaroonlaw12.CaveatValid', WHERE WHAT IT READS IS OF BULK AT MOST 1048576: true; the input reads as it did. -/
def caveatValidUptoRow : OpenClaim := { program := "ytknhnkmooaopmaa", sum := "c743288d87558b6a952aee9ef231a9dde33d3a5581354cf9bdc7da948b5cfd26", func := "macaroon/macaroonlaw12.CaveatValid", spec := "caveatValid", unfollowed := true, recurses := true, apart := false, narrowed := true }
def CaveatValidUptoSaid : Prop := caveatValidUptoRow.holds Try.pinned (OpenSpec.upto caveatValidSpec)

/-- 'macaroonlaw12.CaveatCode', WHERE WHAT IT READS IS OF BULK AT MOST 1048576: true; the input reads as it did. -/
def caveatCodeUptoRow : OpenClaim := { program := "ytknhnkmooaopmaa", sum := "c743288d87558b6a952aee9ef231a9dde33d3a5581354cf9bdc7da948b5cfd26", func := "macaroon/macaroonlaw12.CaveatCode", spec := "caveatCode", unfollowed := true, recurses := true, apart := false, narrowed := true }
def CaveatCodeUptoSaid : Prop := caveatCodeUptoRow.holds Try.pinned (OpenSpec.upto caveatCodeSpec)

/-- 'macaroonlaw12.CaveatBack', WHERE WHAT IT READS IS OF BULK AT MOST 1048576: true; the input reads as it did. -/
def caveatBackUptoRow : OpenClaim := { program := "ytknhnkmooaopmaa", sum := "c743288d87558b6a952aee9ef231a9dde33d3a5581354cf9bdc7da948b5cfd26", func := "macaroon/macaroonlaw12.CaveatBack", spec := "caveatBack", unfollowed := true, recurses := true, apart := false, narrowed := true }
def CaveatBackUptoSaid : Prop := caveatBackUptoRow.holds Try.pinned (OpenSpec.upto caveatBackSpec)

/-- 'macaroonlaw12.CaveatUnique', WHERE WHAT IT READS IS OF BULK AT MOST 1048576: true; the input reads as it did. -/
def caveatUniqueUptoRow : OpenClaim := { program := "ytknhnkmooaopmaa", sum := "c743288d87558b6a952aee9ef231a9dde33d3a5581354cf9bdc7da948b5cfd26", func := "macaroon/macaroonlaw12.CaveatUnique", spec := "caveatUnique", unfollowed := true, recurses := true, apart := false, narrowed := true }
def CaveatUniqueUptoSaid : Prop := caveatUniqueUptoRow.holds Try.pinned (OpenSpec.upto caveatUniqueSpec)

end Rows
end Go.Proofs.Ytknhnkmooaopmaa
