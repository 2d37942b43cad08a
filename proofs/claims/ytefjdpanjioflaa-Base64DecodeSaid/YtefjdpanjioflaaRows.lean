/-
  No cell of these rows narrows 'for every input' (looked for: loops, veiled, ifaces, maps, wideKeys, modest, calm, conditions, laid).
  DERIVED. THE GIVEN ROWS OF THIS SEAT. 4 by the template 'for every input the law returns true; each argument reads behind the call as it read before'; 0 by the template 'total and deterministic' (their statements: YtefjdpanjioflaaTotals.lean).
  GIVEN WITH THE SEED: the statements are not yours to turn. If you find one false, say at which input.
  Laid BY PROGRAM, IN A SANDBOX (cutbox-rows.mjs): the forced cells as the released guide's own fill.sh prints them over the translation 87aee157ac7a6906… (all of the seat's roots in one cut). By AI agents, Wed Nov 11 2026. No macro, syntax, notation, axiom, sorry.
-/
import Derived.Test.YtefjdpanjioflaaChecked
import GoSem.Claim
import GoSem.ClaimJoined
import GoSem.ClaimMapViews
import Derived.JoinedTies
import Derived.KernelRfl
namespace Go.Proofs.Ytefjdpanjioflaa
/- THE CELL 'sum', in the pinned program and in every row, IS THE sha256 OF THE DUMP (.gsa) THAT YtefjdpanjioflaaProg.lean LOADS. Nothing in Lean hashes anything: it is a label: what it is worth is what the hold of that sum in a sandbox is worth. -/
noncomputable def Try.pinned : Pinned := { name := "ytefjdpanjioflaa", sum := "87aee157ac7a69067b24b571b1ab69a3be51dc98b3d2a88729beebba7ee14451", checked := Try.checked }
namespace Rows
def none {H : Type} : Left H := { results := [], args := [] }

/-- 'macaroonlaw05.Base64Encode': WHATEVER THE INPUT: true; the input reads as it did. -/
def base64EncodeSpec : ChangeSpec := { name := "base64Encode", fn := fun _ => fun
  | [d1, d2] => { results := [.lit (.bool true)], args := [d1, d2] }
  | _ => none }
def base64EncodeRow : OpenClaim := { program := "ytefjdpanjioflaa", sum := "87aee157ac7a69067b24b571b1ab69a3be51dc98b3d2a88729beebba7ee14451", func := "macaroon/macaroonlaw05.Base64Encode", spec := "base64Encode", apart := false }
def Base64EncodeSaid : Prop := base64EncodeRow.holds Try.pinned (OpenSpec.ofChange base64EncodeSpec)

/-- ITS FALSE NEIGHBOUR: 'it returns false'. Refute it at one input. -/
def base64EncodeWrong : ChangeSpec := { name := "base64Encode", fn := fun _ => fun
  | [d1, d2] => { results := [.lit (.bool false)], args := [d1, d2] }
  | _ => none }
def Base64EncodeWrongFalsely : Prop := base64EncodeRow.holds Try.pinned (OpenSpec.ofChange base64EncodeWrong)

/-- 'macaroonlaw05.Base64Decode': WHATEVER THE INPUT: true; the input reads as it did. -/
def base64DecodeSpec : ChangeSpec := { name := "base64Decode", fn := fun _ => fun
  | [d1, d2, d3, d4, d5] => { results := [.lit (.bool true)], args := [d1, d2, d3, d4, d5] }
  | _ => none }
def base64DecodeRow : OpenClaim := { program := "ytefjdpanjioflaa", sum := "87aee157ac7a69067b24b571b1ab69a3be51dc98b3d2a88729beebba7ee14451", func := "macaroon/macaroonlaw05.Base64Decode", spec := "base64Decode", apart := false }
def Base64DecodeSaid : Prop := base64DecodeRow.holds Try.pinned (OpenSpec.ofChange base64DecodeSpec)

/-- ITS FALSE NEIGHBOUR: 'it returns false'. Refute it at one input. -/
def base64DecodeWrong : ChangeSpec := { name := "base64Decode", fn := fun _ => fun
  | [d1, d2, d3, d4, d5] => { results := [.lit (.bool false)], args := [d1, d2, d3, d4, d5] }
  | _ => none }
def Base64DecodeWrongFalsely : Prop := base64DecodeRow.holds Try.pinned (OpenSpec.ofChange base64DecodeWrong)

/-- 'macaroonlaw05.Base64Back': WHATEVER THE INPUT: true; the input reads as it did. -/
def base64BackSpec : ChangeSpec := { name := "base64Back", fn := fun _ => fun
  | [d] => { results := [.lit (.bool true)], args := [d] }
  | _ => none }
def base64BackRow : OpenClaim := { program := "ytefjdpanjioflaa", sum := "87aee157ac7a69067b24b571b1ab69a3be51dc98b3d2a88729beebba7ee14451", func := "macaroon/macaroonlaw05.Base64Back", spec := "base64Back", apart := false }
def Base64BackSaid : Prop := base64BackRow.holds Try.pinned (OpenSpec.ofChange base64BackSpec)

/-- ITS FALSE NEIGHBOUR: 'it returns false'. Refute it at one input. -/
def base64BackWrong : ChangeSpec := { name := "base64Back", fn := fun _ => fun
  | [d] => { results := [.lit (.bool false)], args := [d] }
  | _ => none }
def Base64BackWrongFalsely : Prop := base64BackRow.holds Try.pinned (OpenSpec.ofChange base64BackWrong)

/-- 'macaroonlaw05.Base64Unique': WHATEVER THE INPUT: true; the input reads as it did. -/
def base64UniqueSpec : ChangeSpec := { name := "base64Unique", fn := fun _ => fun
  | [d1, d2, d3] => { results := [.lit (.bool true)], args := [d1, d2, d3] }
  | _ => none }
def base64UniqueRow : OpenClaim := { program := "ytefjdpanjioflaa", sum := "87aee157ac7a69067b24b571b1ab69a3be51dc98b3d2a88729beebba7ee14451", func := "macaroon/macaroonlaw05.Base64Unique", spec := "base64Unique", apart := false }
def Base64UniqueSaid : Prop := base64UniqueRow.holds Try.pinned (OpenSpec.ofChange base64UniqueSpec)

/-- ITS FALSE NEIGHBOUR: 'it returns false'. Refute it at one input. -/
def base64UniqueWrong : ChangeSpec := { name := "base64Unique", fn := fun _ => fun
  | [d1, d2, d3] => { results := [.lit (.bool false)], args := [d1, d2, d3] }
  | _ => none }
def Base64UniqueWrongFalsely : Prop := base64UniqueRow.holds Try.pinned (OpenSpec.ofChange base64UniqueWrong)

/- THE SECOND FORM. 'bulk': how many values and letters a reading holds, each counted each time it is reached (what is shared counts as often as it is met; a slice's spare places count too). A statement '..UptoSaid' is the law's where the arguments, and the package variables that the reading takes, are together of bulk at most 1048576: NARROWER than '..Said'. Prove '..Said' where nothing that the law and all that it calls make is longer than what came in: it says more and counts as full. Else prove '..UptoSaid'. A law counts once. -/
mutual
def uptoBulk {H : Type} : DataW H → Nat
  | .lit (.string bytes) => bytes.length + 1
  | .lit _ => 1
  | .nil => 1
  | .ptr d => uptoBulk d + 1
  | .slice elems spare => uptoBulkAll elems + uptoBulkAll spare + 1
  | .agg parts => uptoBulkAll parts + 1
  | .iface _ d => uptoBulk d + 1
  | .map entries => uptoBulkEntries entries + 1
  | .held _ => 1
def uptoBulkAll {H : Type} : List (DataW H) → Nat
  | [] => 0
  | d :: r => uptoBulk d + uptoBulkAll r
def uptoBulkEntries {H : Type} : List (Lit × DataW H) → Nat
  | [] => 0
  | x :: r => uptoBulkEntry x + uptoBulkEntries r
def uptoBulkEntry {H : Type} : Lit × DataW H → Nat
  | (.string bytes, d) => bytes.length + uptoBulk d + 1
  | (_, d) => uptoBulk d + 1
 end
def uptoSmall : (H : Type) → List (DataW H) → Bool := fun _ ds => decide (uptoBulkAll ds ≤ 1048576)
def OpenSpec.upto (s : _root_.Go.ChangeSpec) : _root_.Go.OpenSpec := { _root_.Go.OpenSpec.ofChange s with cond := some uptoSmall }

/-- 'macaroonlaw05.Base64Encode', WHERE WHAT IT READS IS OF BULK AT MOST 1048576: true; the input reads as it did. -/
def base64EncodeUptoRow : OpenClaim := { program := "ytefjdpanjioflaa", sum := "87aee157ac7a69067b24b571b1ab69a3be51dc98b3d2a88729beebba7ee14451", func := "macaroon/macaroonlaw05.Base64Encode", spec := "base64Encode", apart := false, narrowed := true }
def Base64EncodeUptoSaid : Prop := base64EncodeUptoRow.holds Try.pinned (OpenSpec.upto base64EncodeSpec)

/-- 'macaroonlaw05.Base64Decode', WHERE WHAT IT READS IS OF BULK AT MOST 1048576: true; the input reads as it did. -/
def base64DecodeUptoRow : OpenClaim := { program := "ytefjdpanjioflaa", sum := "87aee157ac7a69067b24b571b1ab69a3be51dc98b3d2a88729beebba7ee14451", func := "macaroon/macaroonlaw05.Base64Decode", spec := "base64Decode", apart := false, narrowed := true }
def Base64DecodeUptoSaid : Prop := base64DecodeUptoRow.holds Try.pinned (OpenSpec.upto base64DecodeSpec)

/-- 'macaroonlaw05.Base64Back', WHERE WHAT IT READS IS OF BULK AT MOST 1048576: true; the input reads as it did. -/
def base64BackUptoRow : OpenClaim := { program := "ytefjdpanjioflaa", sum := "87aee157ac7a69067b24b571b1ab69a3be51dc98b3d2a88729beebba7ee14451", func := "macaroon/macaroonlaw05.Base64Back", spec := "base64Back", apart := false, narrowed := true }
def Base64BackUptoSaid : Prop := base64BackUptoRow.holds Try.pinned (OpenSpec.upto base64BackSpec)

/-- 'macaroonlaw05.Base64Unique', WHERE WHAT IT READS IS OF BULK AT MOST 1048576: true; the input reads as it did. -/
def base64UniqueUptoRow : OpenClaim := { program := "ytefjdpanjioflaa", sum := "87aee157ac7a69067b24b571b1ab69a3be51dc98b3d2a88729beebba7ee14451", func := "macaroon/macaroonlaw05.Base64Unique", spec := "base64Unique", apart := false, narrowed := true }
def Base64UniqueUptoSaid : Prop := base64UniqueUptoRow.holds Try.pinned (OpenSpec.upto base64UniqueSpec)

end Rows
end Go.Proofs.Ytefjdpanjioflaa
