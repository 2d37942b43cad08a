/-
  No cell of these rows narrows 'for every input' (looked for: loops, veiled, ifaces, maps, wideKeys, modest, calm, conditions, laid).
  DERIVED. THE GIVEN ROWS OF THIS SEAT. 5 by the template 'for every input the law returns true; each argument reads behind the call as it read before'; 0 by the template 'total and deterministic' (their statements: YtedjbjplnjnnlaaTotals.lean).
  GIVEN WITH THE SEED: the statements are not yours to turn. If you find one false, say at which input.
  Laid BY PROGRAM, IN A SANDBOX (cutbox-rows.mjs): the forced cells as the released guide's own fill.sh prints them over the translation 01725ac5166a53a8… (all of the seat's roots in one cut). By AI agents, Wed Nov 11 2026. No macro, syntax, notation, axiom, sorry.
-/
import Derived.Test.YtedjbjplnjnnlaaChecked
import GoSem.Claim
import GoSem.ClaimJoined
import GoSem.ClaimMapViews
import Derived.JoinedTies
import Derived.KernelRfl
namespace Go.Proofs.Ytedjbjplnjnnlaa
/- THE CELL 'sum', in the pinned program and in every row, IS THE sha256 OF THE DUMP (.gsa) THAT YtedjbjplnjnnlaaProg.lean LOADS. Nothing in Lean hashes anything: it is a label: what it is worth is what the hold of that sum in a sandbox is worth. -/
noncomputable def Try.pinned : Pinned := { name := "ytedjbjplnjnnlaa", sum := "01725ac5166a53a86619f1fcd43768589b7eb381313d2dad6fee44e87c6dbfc3", checked := Try.checked }
namespace Rows
def none {H : Type} : Left H := { results := [], args := [] }

/-- 'macaroonlaw08.AuthorityValid': WHATEVER THE INPUT: true; the input reads as it did. -/
def authorityValidSpec : ChangeSpec := { name := "authorityValid", fn := fun _ => fun
  | [d1, d2, d3] => { results := [.lit (.bool true)], args := [d1, d2, d3] }
  | _ => none }
def authorityValidRow : OpenClaim := { program := "ytedjbjplnjnnlaa", sum := "01725ac5166a53a86619f1fcd43768589b7eb381313d2dad6fee44e87c6dbfc3", func := "macaroon/macaroonlaw08.AuthorityValid", spec := "authorityValid", unfollowed := true, recurses := true, apart := false }
def AuthorityValidSaid : Prop := authorityValidRow.holds Try.pinned (OpenSpec.ofChange authorityValidSpec)

/-- ITS FALSE NEIGHBOUR: 'it returns false'. Refute it at one input. -/
def authorityValidWrong : ChangeSpec := { name := "authorityValid", fn := fun _ => fun
  | [d1, d2, d3] => { results := [.lit (.bool false)], args := [d1, d2, d3] }
  | _ => none }
def AuthorityValidWrongFalsely : Prop := authorityValidRow.holds Try.pinned (OpenSpec.ofChange authorityValidWrong)

/-- 'macaroonlaw08.AuthorityOf': WHATEVER THE INPUT: true; the input reads as it did. -/
def authorityOfSpec : ChangeSpec := { name := "authorityOf", fn := fun _ => fun
  | [d1, d2, d3] => { results := [.lit (.bool true)], args := [d1, d2, d3] }
  | _ => none }
def authorityOfRow : OpenClaim := { program := "ytedjbjplnjnnlaa", sum := "01725ac5166a53a86619f1fcd43768589b7eb381313d2dad6fee44e87c6dbfc3", func := "macaroon/macaroonlaw08.AuthorityOf", spec := "authorityOf", unfollowed := true, recurses := true, apart := false }
def AuthorityOfSaid : Prop := authorityOfRow.holds Try.pinned (OpenSpec.ofChange authorityOfSpec)

/-- ITS FALSE NEIGHBOUR: 'it returns false'. Refute it at one input. -/
def authorityOfWrong : ChangeSpec := { name := "authorityOf", fn := fun _ => fun
  | [d1, d2, d3] => { results := [.lit (.bool false)], args := [d1, d2, d3] }
  | _ => none }
def AuthorityOfWrongFalsely : Prop := authorityOfRow.holds Try.pinned (OpenSpec.ofChange authorityOfWrong)

/-- 'macaroonlaw08.AuthorityContains': WHATEVER THE INPUT: true; the input reads as it did. -/
def authorityContainsSpec : ChangeSpec := { name := "authorityContains", fn := fun _ => fun
  | [d1, d2, d3, d4] => { results := [.lit (.bool true)], args := [d1, d2, d3, d4] }
  | _ => none }
def authorityContainsRow : OpenClaim := { program := "ytedjbjplnjnnlaa", sum := "01725ac5166a53a86619f1fcd43768589b7eb381313d2dad6fee44e87c6dbfc3", func := "macaroon/macaroonlaw08.AuthorityContains", spec := "authorityContains", unfollowed := true, recurses := true, apart := false }
def AuthorityContainsSaid : Prop := authorityContainsRow.holds Try.pinned (OpenSpec.ofChange authorityContainsSpec)

/-- ITS FALSE NEIGHBOUR: 'it returns false'. Refute it at one input. -/
def authorityContainsWrong : ChangeSpec := { name := "authorityContains", fn := fun _ => fun
  | [d1, d2, d3, d4] => { results := [.lit (.bool false)], args := [d1, d2, d3, d4] }
  | _ => none }
def AuthorityContainsWrongFalsely : Prop := authorityContainsRow.holds Try.pinned (OpenSpec.ofChange authorityContainsWrong)

/-- 'macaroonlaw08.AuthorityMeet': WHATEVER THE INPUT: true; the input reads as it did. -/
def authorityMeetSpec : ChangeSpec := { name := "authorityMeet", fn := fun _ => fun
  | [d1, d2, d3] => { results := [.lit (.bool true)], args := [d1, d2, d3] }
  | _ => none }
def authorityMeetRow : OpenClaim := { program := "ytedjbjplnjnnlaa", sum := "01725ac5166a53a86619f1fcd43768589b7eb381313d2dad6fee44e87c6dbfc3", func := "macaroon/macaroonlaw08.AuthorityMeet", spec := "authorityMeet", unfollowed := true, recurses := true, apart := false }
def AuthorityMeetSaid : Prop := authorityMeetRow.holds Try.pinned (OpenSpec.ofChange authorityMeetSpec)

/-- ITS FALSE NEIGHBOUR: 'it returns false'. Refute it at one input. -/
def authorityMeetWrong : ChangeSpec := { name := "authorityMeet", fn := fun _ => fun
  | [d1, d2, d3] => { results := [.lit (.bool false)], args := [d1, d2, d3] }
  | _ => none }
def AuthorityMeetWrongFalsely : Prop := authorityMeetRow.holds Try.pinned (OpenSpec.ofChange authorityMeetWrong)

/-- 'macaroonlaw08.AuthorityLattice': WHATEVER THE INPUT: true; the input reads as it did. -/
def authorityLatticeSpec : ChangeSpec := { name := "authorityLattice", fn := fun _ => fun
  | [d1, d2] => { results := [.lit (.bool true)], args := [d1, d2] }
  | _ => none }
def authorityLatticeRow : OpenClaim := { program := "ytedjbjplnjnnlaa", sum := "01725ac5166a53a86619f1fcd43768589b7eb381313d2dad6fee44e87c6dbfc3", func := "macaroon/macaroonlaw08.AuthorityLattice", spec := "authorityLattice", unfollowed := true, recurses := true, apart := false }
def AuthorityLatticeSaid : Prop := authorityLatticeRow.holds Try.pinned (OpenSpec.ofChange authorityLatticeSpec)

/-- ITS FALSE NEIGHBOUR: 'it returns false'. Refute it at one input. -/
def authorityLatticeWrong : ChangeSpec := { name := "authorityLattice", fn := fun _ => fun
  | [d1, d2] => { results := [.lit (.bool false)], args := [d1, d2] }
  | _ => none }
def AuthorityLatticeWrongFalsely : Prop := authorityLatticeRow.holds Try.pinned (OpenSpec.ofChange authorityLatticeWrong)

/- THE SECOND FORM. 'bulk': how many values and letters a reading holds, each counted each time it is reached (what is shared counts as often as it is met; a slice's spare places count too). A statement '..UptoSaid' is the law's where the arguments, and the package variables that the reading takes, are together of bulk at most 1048576: NARROWER than '..Said'. Prove '..Said' where nothing that the law and all that it calls make is longer than what came in: it says more and counts as full. Else prove '..UptoSaid'. A law counts once. -/
mutual
def uptoBulk {H : Type} : DataW H → Nat
  | .lit (.string bytes) => bytes.length + 1
  | .lit _ => 1
  | .nil => 1
  | .ptr d => uptoBulk d + 1
  | .slice elems spare => uptoBulkAll elems + uptoBulkAll spare + 1
  | .agg parts => uptoBulkAll parts + 1
  | .iface _ d => uptoBulk d + 1
  | .map entries => uptoBulkEntries entries + 1
  | .held _ => 1
def uptoBulkAll {H : Type} : List (DataW H) → Nat
  | [] => 0
  | d :: r => uptoBulk d + uptoBulkAll r
def uptoBulkEntries {H : Type} : List (Lit × DataW H) → Nat
  | [] => 0
  | x :: r => uptoBulkEntry x + uptoBulkEntries r
def uptoBulkEntry {H : Type} : Lit × DataW H → Nat
  | (.string bytes, d) => bytes.length + uptoBulk d + 1
  | (_, d) => uptoBulk d + 1
 end
def uptoSmall : (H : Type) → List (DataW H) → Bool := fun _ ds => decide (uptoBulkAll ds ≤ 1048576)
def OpenSpec.upto (s : _root_.Go.ChangeSpec) : _root_.Go.OpenSpec := { _root_.Go.OpenSpec.ofChange s with cond := some uptoSmall }

/-- 'macaroonlaw08.AuthorityValid', WHERE WHAT IT READS IS OF BULK AT MOST 1048576: true; the input reads as it did. -/
def authorityValidUptoRow : OpenClaim := { program := "ytedjbjplnjnnlaa", sum := "01725ac5166a53a86619f1fcd43768589b7eb381313d2dad6fee44e87c6dbfc3", func := "macaroon/macaroonlaw08.AuthorityValid", spec := "authorityValid", unfollowed := true, recurses := true, apart := false, narrowed := true }
def AuthorityValidUptoSaid : Prop := authorityValidUptoRow.holds Try.pinned (OpenSpec.upto authorityValidSpec)

/-- 'macaroonlaw08.AuthorityOf', WHERE WHAT IT READS IS OF BULK AT MOST 1048576: true; the input reads as it did. -/
def authorityOfUptoRow : OpenClaim := { program := "ytedjbjplnjnnlaa", sum := "01725ac5166a53a86619f1fcd43768589b7eb381313d2dad6fee44e87c6dbfc3", func := "macaroon/macaroonlaw08.AuthorityOf", spec := "authorityOf", unfollowed := true, recurses := true, apart := false, narrowed := true }
def AuthorityOfUptoSaid : Prop := authorityOfUptoRow.holds Try.pinned (OpenSpec.upto authorityOfSpec)

/-- 'macaroonlaw08.AuthorityContains', WHERE WHAT IT READS IS OF BULK AT MOST 1048576: true; the input reads as it did. -/
def authorityContainsUptoRow : OpenClaim := { program := "ytedjbjplnjnnlaa", sum := "01725ac5166a53a86619f1fcd43768589b7eb381313d2dad6fee44e87c6dbfc3", func := "macaroon/macaroonlaw08.AuthorityContains", spec := "authorityContains", unfollowed := true, recurses := true, apart := false, narrowed := true }
def AuthorityContainsUptoSaid : Prop := authorityContainsUptoRow.holds Try.pinned (OpenSpec.upto authorityContainsSpec)

/-- 'macaroonlaw08.AuthorityMeet', WHERE WHAT IT READS IS OF BULK AT MOST 1048576: true; the input reads as it did. -/
def authorityMeetUptoRow : OpenClaim := { program := "ytedjbjplnjnnlaa", sum := "01725ac5166a53a86619f1fcd43768589b7eb381313d2dad6fee44e87c6dbfc3", func := "macaroon/macaroonlaw08.AuthorityMeet", spec := "authorityMeet", unfollowed := true, recurses := true, apart := false, narrowed := true }
def AuthorityMeetUptoSaid : Prop := authorityMeetUptoRow.holds Try.pinned (OpenSpec.upto authorityMeetSpec)

/-- 'macaroonlaw08.AuthorityLattice', WHERE WHAT IT READS IS OF BULK AT MOST 1048576: true; the input reads as it did. -/
def authorityLatticeUptoRow : OpenClaim := { program := "ytedjbjplnjnnlaa", sum := "01725ac5166a53a86619f1fcd43768589b7eb381313d2dad6fee44e87c6dbfc3", func := "macaroon/macaroonlaw08.AuthorityLattice", spec := "authorityLattice", unfollowed := true, recurses := true, apart := false, narrowed := true }
def AuthorityLatticeUptoSaid : Prop := authorityLatticeUptoRow.holds Try.pinned (OpenSpec.upto authorityLatticeSpec)

end Rows
end Go.Proofs.Ytedjbjplnjnnlaa
