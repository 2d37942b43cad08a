/-
  No cell of these rows narrows 'for every input' (looked for: loops, veiled, ifaces, maps, wideKeys, modest, calm, conditions, laid).
  DERIVED. THE GIVEN ROWS OF THIS SEAT. 5 by the template 'for every input the law returns true; each argument reads behind the call as it read before'; 0 by the template 'total and deterministic' (their statements: YtbbkjdckogcbgaaTotals.lean).
  GIVEN WITH THE SEED: the statements are not yours to turn. If you find one false, say at which input.
  Laid BY PROGRAM, IN A SANDBOX (cutbox-rows.mjs): the forced cells as the released guide's own fill.sh prints them over the translation cde95b3b3c9de1a7… (all of the seat's roots in one cut). By AI agents, Wed Nov 11 2026. No macro, syntax, notation, axiom, sorry.
-/
import Derived.Test.YtbbkjdckogcbgaaChecked
import GoSem.Claim
import GoSem.ClaimJoined
import GoSem.ClaimMapViews
import Derived.JoinedTies
import Derived.KernelRfl
namespace Go.Proofs.Ytbbkjdckogcbgaa
/- THE CELL 'sum', in the pinned program and in every row, IS THE sha256 OF THE DUMP (.gsa) THAT YtbbkjdckogcbgaaProg.lean LOADS. Nothing in Lean hashes anything: it is a label: what it is worth is what the hold of that sum in a sandbox is worth. -/
noncomputable def Try.pinned : Pinned := { name := "ytbbkjdckogcbgaa", sum := "cde95b3b3c9de1a72157a9542e4beffcf50678c255ae423748d2afbf6695a7f2", checked := Try.checked }
namespace Rows
def none {H : Type} : Left H := { results := [], args := [] }

/-- 'macaroonlaw07.HoldsValid': WHATEVER THE INPUT: true; the input reads as it did. -/
def holdsValidSpec : ChangeSpec := { name := "holdsValid", fn := fun _ => fun
  | [d1, d2, d3, d4] => { results := [.lit (.bool true)], args := [d1, d2, d3, d4] }
  | _ => none }
def holdsValidRow : OpenClaim := { program := "ytbbkjdckogcbgaa", sum := "cde95b3b3c9de1a72157a9542e4beffcf50678c255ae423748d2afbf6695a7f2", func := "macaroon/macaroonlaw07.HoldsValid", spec := "holdsValid", unfollowed := true, recurses := true, apart := false }
def HoldsValidSaid : Prop := holdsValidRow.holds Try.pinned (OpenSpec.ofChange holdsValidSpec)

/-- ITS FALSE NEIGHBOUR: 'it returns false'. Refute it at one input. -/
def holdsValidWrong : ChangeSpec := { name := "holdsValid", fn := fun _ => fun
  | [d1, d2, d3, d4] => { results := [.lit (.bool false)], args := [d1, d2, d3, d4] }
  | _ => none }
def HoldsValidWrongFalsely : Prop := holdsValidRow.holds Try.pinned (OpenSpec.ofChange holdsValidWrong)

/-- 'macaroonlaw07.HoldsOne': WHATEVER THE INPUT: true; the input reads as it did. -/
def holdsOneSpec : ChangeSpec := { name := "holdsOne", fn := fun _ => fun
  | [d1, d2, d3] => { results := [.lit (.bool true)], args := [d1, d2, d3] }
  | _ => none }
def holdsOneRow : OpenClaim := { program := "ytbbkjdckogcbgaa", sum := "cde95b3b3c9de1a72157a9542e4beffcf50678c255ae423748d2afbf6695a7f2", func := "macaroon/macaroonlaw07.HoldsOne", spec := "holdsOne", unfollowed := true, recurses := true, apart := false }
def HoldsOneSaid : Prop := holdsOneRow.holds Try.pinned (OpenSpec.ofChange holdsOneSpec)

/-- ITS FALSE NEIGHBOUR: 'it returns false'. Refute it at one input. -/
def holdsOneWrong : ChangeSpec := { name := "holdsOne", fn := fun _ => fun
  | [d1, d2, d3] => { results := [.lit (.bool false)], args := [d1, d2, d3] }
  | _ => none }
def HoldsOneWrongFalsely : Prop := holdsOneRow.holds Try.pinned (OpenSpec.ofChange holdsOneWrong)

/-- 'macaroonlaw07.HoldsAll': WHATEVER THE INPUT: true; the input reads as it did. -/
def holdsAllSpec : ChangeSpec := { name := "holdsAll", fn := fun _ => fun
  | [d1, d2, d3] => { results := [.lit (.bool true)], args := [d1, d2, d3] }
  | _ => none }
def holdsAllRow : OpenClaim := { program := "ytbbkjdckogcbgaa", sum := "cde95b3b3c9de1a72157a9542e4beffcf50678c255ae423748d2afbf6695a7f2", func := "macaroon/macaroonlaw07.HoldsAll", spec := "holdsAll", unfollowed := true, recurses := true, apart := false }
def HoldsAllSaid : Prop := holdsAllRow.holds Try.pinned (OpenSpec.ofChange holdsAllSpec)

/-- ITS FALSE NEIGHBOUR: 'it returns false'. Refute it at one input. -/
def holdsAllWrong : ChangeSpec := { name := "holdsAll", fn := fun _ => fun
  | [d1, d2, d3] => { results := [.lit (.bool false)], args := [d1, d2, d3] }
  | _ => none }
def HoldsAllWrongFalsely : Prop := holdsAllRow.holds Try.pinned (OpenSpec.ofChange holdsAllWrong)

/-- 'macaroonlaw07.HoldsMore': WHATEVER THE INPUT: true; the input reads as it did. -/
def holdsMoreSpec : ChangeSpec := { name := "holdsMore", fn := fun _ => fun
  | [d1, d2] => { results := [.lit (.bool true)], args := [d1, d2] }
  | _ => none }
def holdsMoreRow : OpenClaim := { program := "ytbbkjdckogcbgaa", sum := "cde95b3b3c9de1a72157a9542e4beffcf50678c255ae423748d2afbf6695a7f2", func := "macaroon/macaroonlaw07.HoldsMore", spec := "holdsMore", unfollowed := true, recurses := true, apart := false }
def HoldsMoreSaid : Prop := holdsMoreRow.holds Try.pinned (OpenSpec.ofChange holdsMoreSpec)

/-- ITS FALSE NEIGHBOUR: 'it returns false'. Refute it at one input. -/
def holdsMoreWrong : ChangeSpec := { name := "holdsMore", fn := fun _ => fun
  | [d1, d2] => { results := [.lit (.bool false)], args := [d1, d2] }
  | _ => none }
def HoldsMoreWrongFalsely : Prop := holdsMoreRow.holds Try.pinned (OpenSpec.ofChange holdsMoreWrong)

/-- 'macaroonlaw07.HoldsDaily': WHATEVER THE INPUT: true; the input reads as it did. -/
def holdsDailySpec : ChangeSpec := { name := "holdsDaily", fn := fun _ => fun
  | [d1, d2, d3] => { results := [.lit (.bool true)], args := [d1, d2, d3] }
  | _ => none }
def holdsDailyRow : OpenClaim := { program := "ytbbkjdckogcbgaa", sum := "cde95b3b3c9de1a72157a9542e4beffcf50678c255ae423748d2afbf6695a7f2", func := "macaroon/macaroonlaw07.HoldsDaily", spec := "holdsDaily", unfollowed := true, recurses := true, apart := false }
def HoldsDailySaid : Prop := holdsDailyRow.holds Try.pinned (OpenSpec.ofChange holdsDailySpec)

/-- ITS FALSE NEIGHBOUR: 'it returns false'. Refute it at one input. -/
def holdsDailyWrong : ChangeSpec := { name := "holdsDaily", fn := fun _ => fun
  | [d1, d2, d3] => { results := [.lit (.bool false)], args := [d1, d2, d3] }
  | _ => none }
def HoldsDailyWrongFalsely : Prop := holdsDailyRow.holds Try.pinned (OpenSpec.ofChange holdsDailyWrong)

/- THE SECOND FORM. 'bulk': how many values and letters a reading holds, each counted each time it is reached (what is shared counts as often as it is met; a slice's spare places count too). A statement '..UptoSaid' is the law's where the arguments, and the package variables that the reading takes, are together of bulk at most 1048576: NARROWER than '..Said'. Prove '..Said' where nothing that the law and all that it calls make is longer than what came in: it says more and counts as full. Else prove '..UptoSaid'. A law counts once. -/
mutual
def uptoBulk {H : Type} : DataW H → Nat
  | .lit (.string bytes) => bytes.length + 1
  | .lit _ => 1
  | .nil => 1
  | .ptr d => uptoBulk d + 1
  | .slice elems spare => uptoBulkAll elems + uptoBulkAll spare + 1
  | .agg parts => uptoBulkAll parts + 1
  | .iface _ d => uptoBulk d + 1
  | .map entries => uptoBulkEntries entries + 1
  | .held _ => 1
def uptoBulkAll {H : Type} : List (DataW H) → Nat
  | [] => 0
  | d :: r => uptoBulk d + uptoBulkAll r
def uptoBulkEntries {H : Type} : List (Lit × DataW H) → Nat
  | [] => 0
  | x :: r => uptoBulkEntry x + uptoBulkEntries r
def uptoBulkEntry {H : Type} : Lit × DataW H → Nat
  | (.string bytes, d) => bytes.length + uptoBulk d + 1
  | (_, d) => uptoBulk d + 1
 end
def uptoSmall : (H : Type) → List (DataW H) → Bool := fun _ ds => decide (uptoBulkAll ds ≤ 1048576)
def OpenSpec.upto (s : _root_.Go.ChangeSpec) : _root_.Go.OpenSpec := { _root_.Go.OpenSpec.ofChange s with cond := some uptoSmall }

/-- 'macaroonlaw07.HoldsValid', WHERE WHAT IT READS IS OF BULK AT MOST 1048576: true; the input reads as it did. -/
def holdsValidUptoRow : OpenClaim := { program := "ytbbkjdckogcbgaa", sum := "cde95b3b3c9de1a72157a9542e4beffcf50678c255ae423748d2afbf6695a7f2", func := "macaroon/macaroonlaw07.HoldsValid", spec := "holdsValid", unfollowed := true, recurses := true, apart := false, narrowed := true }
def HoldsValidUptoSaid : Prop := holdsValidUptoRow.holds Try.pinned (OpenSpec.upto holdsValidSpec)

/-- 'macaroonlaw07.HoldsOne', WHERE WHAT IT READS IS OF BULK AT MOST 1048576: true; the input reads as it did. -/
def holdsOneUptoRow : OpenClaim := { program := "ytbbkjdckogcbgaa", sum := "cde95b3b3c9de1a72157a9542e4beffcf50678c255ae423748d2afbf6695a7f2", func := "macaroon/macaroonlaw07.HoldsOne", spec := "holdsOne", unfollowed := true, recurses := true, apart := false, narrowed := true }
def HoldsOneUptoSaid : Prop := holdsOneUptoRow.holds Try.pinned (OpenSpec.upto holdsOneSpec)

/-- 'macaroonlaw07.HoldsAll', WHERE WHAT IT READS IS OF BULK AT MOST 1048576: true; the input reads as it did. -/
def holdsAllUptoRow : OpenClaim := { program := "ytbbkjdckogcbgaa", sum := "cde95b3b3c9de1a72157a9542e4beffcf50678c255ae423748d2afbf6695a7f2", func := "macaroon/macaroonlaw07.HoldsAll", spec := "holdsAll", unfollowed := true, recurses := true, apart := false, narrowed := true }
def HoldsAllUptoSaid : Prop := holdsAllUptoRow.holds Try.pinned (OpenSpec.upto holdsAllSpec)

/-- 'macaroonlaw07.HoldsMore', WHERE WHAT IT READS IS OF BULK AT MOST 1048576: true; the input reads as it did. -/
def holdsMoreUptoRow : OpenClaim := { program := "ytbbkjdckogcbgaa", sum := "cde95b3b3c9de1a72157a9542e4beffcf50678c255ae423748d2afbf6695a7f2", func := "macaroon/macaroonlaw07.HoldsMore", spec := "holdsMore", unfollowed := true, recurses := true, apart := false, narrowed := true }
def HoldsMoreUptoSaid : Prop := holdsMoreUptoRow.holds Try.pinned (OpenSpec.upto holdsMoreSpec)

/-- 'macaroonlaw07.HoldsDaily', WHERE WHAT IT READS IS OF BULK AT MOST 1048576: true; the input reads as it did. -/
def holdsDailyUptoRow : OpenClaim := { program := "ytbbkjdckogcbgaa", sum := "cde95b3b3c9de1a72157a9542e4beffcf50678c255ae423748d2afbf6695a7f2", func := "macaroon/macaroonlaw07.HoldsDaily", spec := "holdsDaily", unfollowed := true, recurses := true, apart := false, narrowed := true }
def HoldsDailyUptoSaid : Prop := holdsDailyUptoRow.holds Try.pinned (OpenSpec.upto holdsDailySpec)

end Rows
end Go.Proofs.Ytbbkjdckogcbgaa
