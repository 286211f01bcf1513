/-
  NARROWER THAN 'FOR EVERY INPUT', by the rows' own cells (each row's printed sentence says how): Encoded: laid · Decoded: laid · Heads: laid · Floats: laid.
  DERIVED. THE GIVEN ROWS OF THIS SEAT. 4 by the template 'for every input the law returns true; each argument reads behind the call as it read before'; 0 by the template 'total and deterministic' (their statements: YtfcnbdhpdpcmgaaDoorTotals.lean).
  GIVEN WITH THE SEED: the statements are not yours to turn. If you find one false, say at which input.
  Laid BY PROGRAM, IN A SANDBOX (cutbox-rows.mjs): the forced cells as the released guide's own fill.sh prints them over the translation d7ad6cf7d3fde0b5… (all of the seat's roots in one cut). By AI agents, Wed Nov 11 2026. No macro, syntax, notation, axiom, sorry.
-/
import Derived.Test.YtfcnbdhpdpcmgaaDoorChecked
import GoSem.Claim
import GoSem.ClaimJoined
import GoSem.ClaimMapViews
import Derived.JoinedTies
import Derived.KernelRfl
namespace Go.Proofs.YtfcnbdhpdpcmgaaDoor
/- THE CELL 'sum', in the pinned program and in every row, IS THE sha256 OF THE DUMP (.gsa) THAT YtfcnbdhpdpcmgaaDoorProg.lean LOADS. Nothing in Lean hashes anything: it is a label: what it is worth is what the hold of that sum in a sandbox is worth. -/
noncomputable def Tryd.pinned : Pinned := { name := "ytfcnbdhpdpcmgaadoor", sum := "d7ad6cf7d3fde0b5988f034a3b65c8caaf4ca82d855c7ffa66696e8a538cffd4", checked := Tryd.checked }
namespace Rows
def none {H : Type} : Left H := { results := [], args := [] }

/- WHAT THE LISTED PACKAGE-LEVEL VARIABLES READ AS WHEN THE CALL BEGINS. Each datum BY PROGRAM (the guide's laid-datum.mjs) off the statement by which the dump's own 'gosem.cut.vars' lays the variable. In a bare row this is a premise. The card (YtfcnbdhpdpcmgaaDoorCards.lean) ties it to the program's text. -/
def laid_signet_values_wide {H : Type} : DataW H := .agg [.lit (.int .i64 11), .lit (.int .i64 52)]
def laid_signet_values_narrow {H : Type} : DataW H := .agg [.agg [.lit (.int .i64 5), .lit (.int .i64 10)], .agg [.lit (.int .i64 8), .lit (.int .i64 23)]]
def laid_signet_values_headKinds {H : Type} : DataW H := .agg [.lit (.int .u8 0), .lit (.int .u8 1), .lit (.int .u8 2), .lit (.int .u8 3), .lit (.int .u8 4), .lit (.int .u8 5), .lit (.int .u8 6), .lit (.int .u8 7), .lit (.int .u8 7)]

/-- 'signetkeep.Encoded': WHATEVER THE INPUT: true; the input reads as it did. -/
def encodedSpec : ChangeSpec := { name := "encoded", fn := fun _ => fun
  | [d1, d2] => { results := [.lit (.bool true)], args := [d1, d2] }
  | _ => none }
def encodedRow : OpenClaim := { program := "ytfcnbdhpdpcmgaadoor", sum := "d7ad6cf7d3fde0b5988f034a3b65c8caaf4ca82d855c7ffa66696e8a538cffd4", func := "signet/signetkeep.Encoded", spec := "encoded", inPlace := ["internal/bytealg.Compare", "internal/bytealg.abigen_runtime_cmpstring"], unfollowed := true, recurses := true, named := ["signet/values.headKinds", "signet/values.narrow", "signet/values.wide"], apart := false, laid := [("signet/values.wide", laid_signet_values_wide), ("signet/values.narrow", laid_signet_values_narrow), ("signet/values.headKinds", laid_signet_values_headKinds)] }
def EncodedSaid : Prop := encodedRow.holds Tryd.pinned (OpenSpec.ofChange encodedSpec)

/-- ITS FALSE NEIGHBOUR: 'it returns false'. Refute it at one input. -/
def encodedWrong : ChangeSpec := { name := "encoded", fn := fun _ => fun
  | [d1, d2] => { results := [.lit (.bool false)], args := [d1, d2] }
  | _ => none }
def EncodedWrongFalsely : Prop := encodedRow.holds Tryd.pinned (OpenSpec.ofChange encodedWrong)

/-- 'signetkeep.Decoded': WHATEVER THE INPUT: true; the input reads as it did. -/
def decodedSpec : ChangeSpec := { name := "decoded", fn := fun _ => fun
  | [d] => { results := [.lit (.bool true)], args := [d] }
  | _ => none }
def decodedRow : OpenClaim := { program := "ytfcnbdhpdpcmgaadoor", sum := "d7ad6cf7d3fde0b5988f034a3b65c8caaf4ca82d855c7ffa66696e8a538cffd4", func := "signet/signetkeep.Decoded", spec := "decoded", inPlace := ["internal/bytealg.Compare", "internal/bytealg.abigen_runtime_cmpstring"], unfollowed := true, recurses := true, named := ["signet/values.headKinds", "signet/values.narrow", "signet/values.wide"], apart := false, laid := [("signet/values.wide", laid_signet_values_wide), ("signet/values.narrow", laid_signet_values_narrow), ("signet/values.headKinds", laid_signet_values_headKinds)] }
def DecodedSaid : Prop := decodedRow.holds Tryd.pinned (OpenSpec.ofChange decodedSpec)

/-- ITS FALSE NEIGHBOUR: 'it returns false'. Refute it at one input. -/
def decodedWrong : ChangeSpec := { name := "decoded", fn := fun _ => fun
  | [d] => { results := [.lit (.bool false)], args := [d] }
  | _ => none }
def DecodedWrongFalsely : Prop := decodedRow.holds Tryd.pinned (OpenSpec.ofChange decodedWrong)

/-- 'signetkeep.Heads': WHATEVER THE INPUT: true; the input reads as it did. -/
def headsSpec : ChangeSpec := { name := "heads", fn := fun _ => fun
  | [d1, d2, d3] => { results := [.lit (.bool true)], args := [d1, d2, d3] }
  | _ => none }
def headsRow : OpenClaim := { program := "ytfcnbdhpdpcmgaadoor", sum := "d7ad6cf7d3fde0b5988f034a3b65c8caaf4ca82d855c7ffa66696e8a538cffd4", func := "signet/signetkeep.Heads", spec := "heads", inPlace := ["internal/bytealg.Compare", "internal/bytealg.abigen_runtime_cmpstring"], unfollowed := true, recurses := true, named := ["signet/values.headKinds", "signet/values.narrow", "signet/values.wide"], apart := false, laid := [("signet/values.wide", laid_signet_values_wide), ("signet/values.narrow", laid_signet_values_narrow), ("signet/values.headKinds", laid_signet_values_headKinds)] }
def HeadsSaid : Prop := headsRow.holds Tryd.pinned (OpenSpec.ofChange headsSpec)

/-- ITS FALSE NEIGHBOUR: 'it returns false'. Refute it at one input. -/
def headsWrong : ChangeSpec := { name := "heads", fn := fun _ => fun
  | [d1, d2, d3] => { results := [.lit (.bool false)], args := [d1, d2, d3] }
  | _ => none }
def HeadsWrongFalsely : Prop := headsRow.holds Tryd.pinned (OpenSpec.ofChange headsWrong)

/-- 'signetkeep.Floats': WHATEVER THE INPUT: true; the input reads as it did. -/
def floatsSpec : ChangeSpec := { name := "floats", fn := fun _ => fun
  | [d1, d2] => { results := [.lit (.bool true)], args := [d1, d2] }
  | _ => none }
def floatsRow : OpenClaim := { program := "ytfcnbdhpdpcmgaadoor", sum := "d7ad6cf7d3fde0b5988f034a3b65c8caaf4ca82d855c7ffa66696e8a538cffd4", func := "signet/signetkeep.Floats", spec := "floats", inPlace := ["internal/bytealg.Compare", "internal/bytealg.abigen_runtime_cmpstring"], unfollowed := true, recurses := true, named := ["signet/values.headKinds", "signet/values.narrow", "signet/values.wide"], apart := false, laid := [("signet/values.wide", laid_signet_values_wide), ("signet/values.narrow", laid_signet_values_narrow), ("signet/values.headKinds", laid_signet_values_headKinds)] }
def FloatsSaid : Prop := floatsRow.holds Tryd.pinned (OpenSpec.ofChange floatsSpec)

/-- ITS FALSE NEIGHBOUR: 'it returns false'. Refute it at one input. -/
def floatsWrong : ChangeSpec := { name := "floats", fn := fun _ => fun
  | [d1, d2] => { results := [.lit (.bool false)], args := [d1, d2] }
  | _ => none }
def FloatsWrongFalsely : Prop := floatsRow.holds Tryd.pinned (OpenSpec.ofChange floatsWrong)

/- THE SECOND FORM. 'bulk': how many values and letters a reading holds, each counted each time it is reached (what is shared counts as often as it is met; a slice's spare places count too). A statement '..UptoSaid' is the law's where the arguments, and the package variables that the reading takes, are together of bulk at most 1048576: NARROWER than '..Said'. Prove '..Said' where nothing that the law and all that it calls make is longer than what came in: it says more and counts as full. Else prove '..UptoSaid'. A law counts once. -/
mutual
def uptoBulk {H : Type} : DataW H → Nat
  | .lit (.string bytes) => bytes.length + 1
  | .lit _ => 1
  | .nil => 1
  | .ptr d => uptoBulk d + 1
  | .slice elems spare => uptoBulkAll elems + uptoBulkAll spare + 1
  | .agg parts => uptoBulkAll parts + 1
  | .iface _ d => uptoBulk d + 1
  | .map entries => uptoBulkEntries entries + 1
  | .held _ => 1
def uptoBulkAll {H : Type} : List (DataW H) → Nat
  | [] => 0
  | d :: r => uptoBulk d + uptoBulkAll r
def uptoBulkEntries {H : Type} : List (Lit × DataW H) → Nat
  | [] => 0
  | x :: r => uptoBulkEntry x + uptoBulkEntries r
def uptoBulkEntry {H : Type} : Lit × DataW H → Nat
  | (.string bytes, d) => bytes.length + uptoBulk d + 1
  | (_, d) => uptoBulk d + 1
 end
def uptoSmall : (H : Type) → List (DataW H) → Bool := fun _ ds => decide (uptoBulkAll ds ≤ 1048576)
def OpenSpec.upto (s : _root_.Go.ChangeSpec) : _root_.Go.OpenSpec := { _root_.Go.OpenSpec.ofChange s with cond := some uptoSmall }

/-- 'signetkeep.Encoded', WHERE WHAT IT READS IS OF BULK AT MOST 1048576: true; the input reads as it did. -/
def encodedUptoRow : OpenClaim := { program := "ytfcnbdhpdpcmgaadoor", sum := "d7ad6cf7d3fde0b5988f034a3b65c8caaf4ca82d855c7ffa66696e8a538cffd4", func := "signet/signetkeep.Encoded", spec := "encoded", inPlace := ["internal/bytealg.Compare", "internal/bytealg.abigen_runtime_cmpstring"], unfollowed := true, recurses := true, named := ["signet/values.headKinds", "signet/values.narrow", "signet/values.wide"], apart := false, laid := [("signet/values.wide", laid_signet_values_wide), ("signet/values.narrow", laid_signet_values_narrow), ("signet/values.headKinds", laid_signet_values_headKinds)], narrowed := true }
def EncodedUptoSaid : Prop := encodedUptoRow.holds Tryd.pinned (OpenSpec.upto encodedSpec)

/-- 'signetkeep.Decoded', WHERE WHAT IT READS IS OF BULK AT MOST 1048576: true; the input reads as it did. -/
def decodedUptoRow : OpenClaim := { program := "ytfcnbdhpdpcmgaadoor", sum := "d7ad6cf7d3fde0b5988f034a3b65c8caaf4ca82d855c7ffa66696e8a538cffd4", func := "signet/signetkeep.Decoded", spec := "decoded", inPlace := ["internal/bytealg.Compare", "internal/bytealg.abigen_runtime_cmpstring"], unfollowed := true, recurses := true, named := ["signet/values.headKinds", "signet/values.narrow", "signet/values.wide"], apart := false, laid := [("signet/values.wide", laid_signet_values_wide), ("signet/values.narrow", laid_signet_values_narrow), ("signet/values.headKinds", laid_signet_values_headKinds)], narrowed := true }
def DecodedUptoSaid : Prop := decodedUptoRow.holds Tryd.pinned (OpenSpec.upto decodedSpec)

/-- 'signetkeep.Heads', WHERE WHAT IT READS IS OF BULK AT MOST 1048576: true; the input reads as it did. -/
def headsUptoRow : OpenClaim := { program := "ytfcnbdhpdpcmgaadoor", sum := "d7ad6cf7d3fde0b5988f034a3b65c8caaf4ca82d855c7ffa66696e8a538cffd4", func := "signet/signetkeep.Heads", spec := "heads", inPlace := ["internal/bytealg.Compare", "internal/bytealg.abigen_runtime_cmpstring"], unfollowed := true, recurses := true, named := ["signet/values.headKinds", "signet/values.narrow", "signet/values.wide"], apart := false, laid := [("signet/values.wide", laid_signet_values_wide), ("signet/values.narrow", laid_signet_values_narrow), ("signet/values.headKinds", laid_signet_values_headKinds)], narrowed := true }
def HeadsUptoSaid : Prop := headsUptoRow.holds Tryd.pinned (OpenSpec.upto headsSpec)

/-- 'signetkeep.Floats', WHERE WHAT IT READS IS OF BULK AT MOST 1048576: true; the input reads as it did. -/
def floatsUptoRow : OpenClaim := { program := "ytfcnbdhpdpcmgaadoor", sum := "d7ad6cf7d3fde0b5988f034a3b65c8caaf4ca82d855c7ffa66696e8a538cffd4", func := "signet/signetkeep.Floats", spec := "floats", inPlace := ["internal/bytealg.Compare", "internal/bytealg.abigen_runtime_cmpstring"], unfollowed := true, recurses := true, named := ["signet/values.headKinds", "signet/values.narrow", "signet/values.wide"], apart := false, laid := [("signet/values.wide", laid_signet_values_wide), ("signet/values.narrow", laid_signet_values_narrow), ("signet/values.headKinds", laid_signet_values_headKinds)], narrowed := true }
def FloatsUptoSaid : Prop := floatsUptoRow.holds Tryd.pinned (OpenSpec.upto floatsSpec)

end Rows
end Go.Proofs.YtfcnbdhpdpcmgaaDoor
