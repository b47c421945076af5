/-
  NARROWER THAN 'FOR EVERY INPUT', by the rows' own cells (each row's printed sentence says how): JsonGets: loops, laid · ClaimPrints: laid · ClaimReads: laid · ClaimPushed: laid · ClaimFields: loops, laid · ClaimBack: laid.
  DERIVED. THE GIVEN ROWS OF THIS SEAT. 6 by the template 'for every input the law returns true; each argument reads behind the call as it read before'; 0 by the template 'total and deterministic' (their statements: YtjfgmgkhinehaaaGreatDoorTotals.lean).
  GIVEN WITH THE SEED: the statements are not yours to turn. If you find one false, say at which input.
  Laid BY PROGRAM, IN A SANDBOX (cutbox-rows.mjs): the forced cells as the released guide's own fill.sh prints them over the translation ac81756966612962… (all of the seat's roots in one cut). By AI agents, Wed Nov 11 2026. No macro, syntax, notation, axiom, sorry.
-/
import Derived.Test.YtjfgmgkhinehaaaGreatDoorChecked
import GoSem.Claim
import GoSem.ClaimJoined
import GoSem.ClaimMapViews
import Derived.JoinedTies
import Derived.KernelRfl
namespace Go.Proofs.YtjfgmgkhinehaaaGreatDoor
/- THE CELL 'sum', in the pinned program and in every row, IS THE sha256 OF THE DUMP (.gsa) THAT YtjfgmgkhinehaaaGreatDoorProg.lean LOADS. Nothing in Lean hashes anything: it is a label: what it is worth is what the hold of that sum in a sandbox is worth. -/
noncomputable def Tryz.pinned : Pinned := { name := "ytjfgmgkhinehaaagreatdoor", sum := "ac8175696661296213471b2c09d6a83c71fc1febef95c87c553ab769eefd9c69", checked := Tryz.checked }
namespace Rows
def none {H : Type} : Left H := { results := [], args := [] }

/- WHAT THE LISTED PACKAGE-LEVEL VARIABLES READ AS WHEN THE CALL BEGINS. Each datum BY PROGRAM (the guide's laid-datum.mjs) off the statement by which the dump's own 'gosem.cut.vars' lays the variable. In a bare row this is a premise. The card (YtjfgmgkhinehaaaGreatDoorCards.lean) ties it to the program's text. -/
def laid_errors_errorType {H : Type} : DataW H := .iface "internal/reflectlite.rtype" (.agg [.ptr (.lit (.string [101, 114, 114, 111, 114]))])
def laid_warrant_utf_firstMarks {H : Type} : DataW H := .agg [.lit (.int .i64 0), .lit (.int .i64 0), .lit (.int .i64 192), .lit (.int .i64 224), .lit (.int .i64 240)]

/-- 'warrantlaw05.JsonGets': WHATEVER THE INPUT: true; the input reads as it did. -/
def jsonGetsSpec : ChangeSpec := { name := "jsonGets", fn := fun _ => fun
  | [d1, d2, d3] => { results := [.lit (.bool true)], args := [d1, d2, d3] }
  | _ => none }
def jsonGetsRow : OpenClaim := { program := "ytjfgmgkhinehaaagreatdoor", sum := "ac8175696661296213471b2c09d6a83c71fc1febef95c87c553ab769eefd9c69", func := "warrant/warrantlaw05.JsonGets", spec := "jsonGets", inPlace := ["internal/bytealg.IndexByteString", "internal/reflectlite.ValueOf", "(internal/reflectlite.Value).Type", "(internal/reflectlite.Value).IsNil", "internal/reflectlite.TypeOf", "(internal/reflectlite.Value).Elem", "(internal/reflectlite.Value).Set", "internal/abi.NoEscape", "internal/bytealg.abigen_runtime_cmpstring"], unfollowed := true, recurses := true, named := ["warrant/utf.firstMarks", "errors.errorType"], loops := true, apart := false, laid := [("errors.errorType", laid_errors_errorType), ("warrant/utf.firstMarks", laid_warrant_utf_firstMarks)] }
def JsonGetsSaid : Prop := jsonGetsRow.holds Tryz.pinned (OpenSpec.ofChange jsonGetsSpec)

/-- ITS FALSE NEIGHBOUR: 'it returns false'. Refute it at one input. -/
def jsonGetsWrong : ChangeSpec := { name := "jsonGets", fn := fun _ => fun
  | [d1, d2, d3] => { results := [.lit (.bool false)], args := [d1, d2, d3] }
  | _ => none }
def JsonGetsWrongFalsely : Prop := jsonGetsRow.holds Tryz.pinned (OpenSpec.ofChange jsonGetsWrong)

/-- 'warrantlaw09.ClaimPrints': WHATEVER THE INPUT: true; the input reads as it did. -/
def claimPrintsSpec : ChangeSpec := { name := "claimPrints", fn := fun _ => fun
  | [d] => { results := [.lit (.bool true)], args := [d] }
  | _ => none }
def claimPrintsRow : OpenClaim := { program := "ytjfgmgkhinehaaagreatdoor", sum := "ac8175696661296213471b2c09d6a83c71fc1febef95c87c553ab769eefd9c69", func := "warrant/warrantlaw09.ClaimPrints", spec := "claimPrints", inPlace := ["internal/bytealg.IndexByteString", "internal/reflectlite.ValueOf", "(internal/reflectlite.Value).Type", "(internal/reflectlite.Value).IsNil", "internal/reflectlite.TypeOf", "(internal/reflectlite.Value).Elem", "(internal/reflectlite.Value).Set", "internal/abi.NoEscape", "internal/bytealg.abigen_runtime_cmpstring", "internal/bytealg.IndexString"], unfollowed := true, recurses := true, named := ["warrant/utf.firstMarks", "errors.errorType", "internal/bytealg.MaxLen"], apart := false, laid := [("errors.errorType", laid_errors_errorType), ("warrant/utf.firstMarks", laid_warrant_utf_firstMarks)] }
def ClaimPrintsSaid : Prop := claimPrintsRow.holds Tryz.pinned (OpenSpec.ofChange claimPrintsSpec)

/-- ITS FALSE NEIGHBOUR: 'it returns false'. Refute it at one input. -/
def claimPrintsWrong : ChangeSpec := { name := "claimPrints", fn := fun _ => fun
  | [d] => { results := [.lit (.bool false)], args := [d] }
  | _ => none }
def ClaimPrintsWrongFalsely : Prop := claimPrintsRow.holds Tryz.pinned (OpenSpec.ofChange claimPrintsWrong)

/-- 'warrantlaw09.ClaimReads': WHATEVER THE INPUT: true; the input reads as it did. -/
def claimReadsSpec : ChangeSpec := { name := "claimReads", fn := fun _ => fun
  | [d] => { results := [.lit (.bool true)], args := [d] }
  | _ => none }
def claimReadsRow : OpenClaim := { program := "ytjfgmgkhinehaaagreatdoor", sum := "ac8175696661296213471b2c09d6a83c71fc1febef95c87c553ab769eefd9c69", func := "warrant/warrantlaw09.ClaimReads", spec := "claimReads", inPlace := ["internal/bytealg.IndexByteString", "internal/reflectlite.ValueOf", "(internal/reflectlite.Value).Type", "(internal/reflectlite.Value).IsNil", "internal/reflectlite.TypeOf", "(internal/reflectlite.Value).Elem", "(internal/reflectlite.Value).Set", "internal/abi.NoEscape", "internal/bytealg.abigen_runtime_cmpstring", "internal/bytealg.IndexString"], unfollowed := true, recurses := true, named := ["warrant/utf.firstMarks", "errors.errorType", "internal/bytealg.MaxLen"], apart := false, laid := [("errors.errorType", laid_errors_errorType), ("warrant/utf.firstMarks", laid_warrant_utf_firstMarks)] }
def ClaimReadsSaid : Prop := claimReadsRow.holds Tryz.pinned (OpenSpec.ofChange claimReadsSpec)

/-- ITS FALSE NEIGHBOUR: 'it returns false'. Refute it at one input. -/
def claimReadsWrong : ChangeSpec := { name := "claimReads", fn := fun _ => fun
  | [d] => { results := [.lit (.bool false)], args := [d] }
  | _ => none }
def ClaimReadsWrongFalsely : Prop := claimReadsRow.holds Tryz.pinned (OpenSpec.ofChange claimReadsWrong)

/-- 'warrantlaw09.ClaimPushed': WHATEVER THE INPUT: true; the input reads as it did. -/
def claimPushedSpec : ChangeSpec := { name := "claimPushed", fn := fun _ => fun
  | [d1, d2] => { results := [.lit (.bool true)], args := [d1, d2] }
  | _ => none }
def claimPushedRow : OpenClaim := { program := "ytjfgmgkhinehaaagreatdoor", sum := "ac8175696661296213471b2c09d6a83c71fc1febef95c87c553ab769eefd9c69", func := "warrant/warrantlaw09.ClaimPushed", spec := "claimPushed", inPlace := ["internal/bytealg.IndexByteString", "internal/reflectlite.ValueOf", "(internal/reflectlite.Value).Type", "(internal/reflectlite.Value).IsNil", "internal/reflectlite.TypeOf", "(internal/reflectlite.Value).Elem", "(internal/reflectlite.Value).Set", "internal/abi.NoEscape", "internal/bytealg.abigen_runtime_cmpstring", "internal/bytealg.IndexString"], unfollowed := true, recurses := true, named := ["warrant/utf.firstMarks", "errors.errorType", "internal/bytealg.MaxLen"], apart := false, laid := [("errors.errorType", laid_errors_errorType), ("warrant/utf.firstMarks", laid_warrant_utf_firstMarks)] }
def ClaimPushedSaid : Prop := claimPushedRow.holds Tryz.pinned (OpenSpec.ofChange claimPushedSpec)

/-- ITS FALSE NEIGHBOUR: 'it returns false'. Refute it at one input. -/
def claimPushedWrong : ChangeSpec := { name := "claimPushed", fn := fun _ => fun
  | [d1, d2] => { results := [.lit (.bool false)], args := [d1, d2] }
  | _ => none }
def ClaimPushedWrongFalsely : Prop := claimPushedRow.holds Tryz.pinned (OpenSpec.ofChange claimPushedWrong)

/-- 'warrantlaw09.ClaimFields': WHATEVER THE INPUT: true; the input reads as it did. -/
def claimFieldsSpec : ChangeSpec := { name := "claimFields", fn := fun _ => fun
  | [d1, d2] => { results := [.lit (.bool true)], args := [d1, d2] }
  | _ => none }
def claimFieldsRow : OpenClaim := { program := "ytjfgmgkhinehaaagreatdoor", sum := "ac8175696661296213471b2c09d6a83c71fc1febef95c87c553ab769eefd9c69", func := "warrant/warrantlaw09.ClaimFields", spec := "claimFields", inPlace := ["internal/bytealg.IndexByteString", "internal/reflectlite.ValueOf", "(internal/reflectlite.Value).Type", "(internal/reflectlite.Value).IsNil", "internal/reflectlite.TypeOf", "(internal/reflectlite.Value).Elem", "(internal/reflectlite.Value).Set", "internal/abi.NoEscape", "internal/bytealg.abigen_runtime_cmpstring", "internal/bytealg.IndexString"], unfollowed := true, recurses := true, named := ["warrant/utf.firstMarks", "errors.errorType", "internal/bytealg.MaxLen"], loops := true, apart := false, laid := [("errors.errorType", laid_errors_errorType), ("warrant/utf.firstMarks", laid_warrant_utf_firstMarks)] }
def ClaimFieldsSaid : Prop := claimFieldsRow.holds Tryz.pinned (OpenSpec.ofChange claimFieldsSpec)

/-- ITS FALSE NEIGHBOUR: 'it returns false'. Refute it at one input. -/
def claimFieldsWrong : ChangeSpec := { name := "claimFields", fn := fun _ => fun
  | [d1, d2] => { results := [.lit (.bool false)], args := [d1, d2] }
  | _ => none }
def ClaimFieldsWrongFalsely : Prop := claimFieldsRow.holds Tryz.pinned (OpenSpec.ofChange claimFieldsWrong)

/-- 'warrantlaw09.ClaimBack': WHATEVER THE INPUT: true; the input reads as it did. -/
def claimBackSpec : ChangeSpec := { name := "claimBack", fn := fun _ => fun
  | [d] => { results := [.lit (.bool true)], args := [d] }
  | _ => none }
def claimBackRow : OpenClaim := { program := "ytjfgmgkhinehaaagreatdoor", sum := "ac8175696661296213471b2c09d6a83c71fc1febef95c87c553ab769eefd9c69", func := "warrant/warrantlaw09.ClaimBack", spec := "claimBack", inPlace := ["internal/bytealg.IndexByteString", "internal/reflectlite.ValueOf", "(internal/reflectlite.Value).Type", "(internal/reflectlite.Value).IsNil", "internal/reflectlite.TypeOf", "(internal/reflectlite.Value).Elem", "(internal/reflectlite.Value).Set", "internal/abi.NoEscape", "internal/bytealg.abigen_runtime_cmpstring", "internal/bytealg.IndexString"], unfollowed := true, recurses := true, named := ["warrant/utf.firstMarks", "errors.errorType", "internal/bytealg.MaxLen"], apart := false, laid := [("errors.errorType", laid_errors_errorType), ("warrant/utf.firstMarks", laid_warrant_utf_firstMarks)] }
def ClaimBackSaid : Prop := claimBackRow.holds Tryz.pinned (OpenSpec.ofChange claimBackSpec)

/-- ITS FALSE NEIGHBOUR: 'it returns false'. Refute it at one input. -/
def claimBackWrong : ChangeSpec := { name := "claimBack", fn := fun _ => fun
  | [d] => { results := [.lit (.bool false)], args := [d] }
  | _ => none }
def ClaimBackWrongFalsely : Prop := claimBackRow.holds Tryz.pinned (OpenSpec.ofChange claimBackWrong)

/- THE SECOND FORM. 'bulk': how many values and letters a reading holds, each counted each time it is reached (what is shared counts as often as it is met; a slice's spare places count too). A statement '..UptoSaid' is the law's where the arguments, and the package variables that the reading takes, are together of bulk at most 1048576: NARROWER than '..Said'. Prove '..Said' where nothing that the law and all that it calls make is longer than what came in: it says more and counts as full. Else prove '..UptoSaid'. A law counts once. -/
mutual
def uptoBulk {H : Type} : DataW H → Nat
  | .lit (.string bytes) => bytes.length + 1
  | .lit _ => 1
  | .nil => 1
  | .ptr d => uptoBulk d + 1
  | .slice elems spare => uptoBulkAll elems + uptoBulkAll spare + 1
  | .agg parts => uptoBulkAll parts + 1
  | .iface _ d => uptoBulk d + 1
  | .map entries => uptoBulkEntries entries + 1
  | .held _ => 1
def uptoBulkAll {H : Type} : List (DataW H) → Nat
  | [] => 0
  | d :: r => uptoBulk d + uptoBulkAll r
def uptoBulkEntries {H : Type} : List (Lit × DataW H) → Nat
  | [] => 0
  | x :: r => uptoBulkEntry x + uptoBulkEntries r
def uptoBulkEntry {H : Type} : Lit × DataW H → Nat
  | (.string bytes, d) => bytes.length + uptoBulk d + 1
  | (_, d) => uptoBulk d + 1
 end
def uptoSmall : (H : Type) → List (DataW H) → Bool := fun _ ds => decide (uptoBulkAll ds ≤ 1048576)
def OpenSpec.upto (s : _root_.Go.ChangeSpec) : _root_.Go.OpenSpec := { _root_.Go.OpenSpec.ofChange s with cond := some uptoSmall }

/-- 'warrantlaw05.JsonGets', WHERE WHAT IT READS IS OF BULK AT MOST 1048576: true; the input reads as it did. -/
def jsonGetsUptoRow : OpenClaim := { program := "ytjfgmgkhinehaaagreatdoor", sum := "ac8175696661296213471b2c09d6a83c71fc1febef95c87c553ab769eefd9c69", func := "warrant/warrantlaw05.JsonGets", spec := "jsonGets", inPlace := ["internal/bytealg.IndexByteString", "internal/reflectlite.ValueOf", "(internal/reflectlite.Value).Type", "(internal/reflectlite.Value).IsNil", "internal/reflectlite.TypeOf", "(internal/reflectlite.Value).Elem", "(internal/reflectlite.Value).Set", "internal/abi.NoEscape", "internal/bytealg.abigen_runtime_cmpstring"], unfollowed := true, recurses := true, named := ["warrant/utf.firstMarks", "errors.errorType"], loops := true, apart := false, laid := [("errors.errorType", laid_errors_errorType), ("warrant/utf.firstMarks", laid_warrant_utf_firstMarks)], narrowed := true }
def JsonGetsUptoSaid : Prop := jsonGetsUptoRow.holds Tryz.pinned (OpenSpec.upto jsonGetsSpec)

/-- 'warrantlaw09.ClaimPrints', WHERE WHAT IT READS IS OF BULK AT MOST 1048576: true; the input reads as it did. -/
def claimPrintsUptoRow : OpenClaim := { program := "ytjfgmgkhinehaaagreatdoor", sum := "ac8175696661296213471b2c09d6a83c71fc1febef95c87c553ab769eefd9c69", func := "warrant/warrantlaw09.ClaimPrints", spec := "claimPrints", inPlace := ["internal/bytealg.IndexByteString", "internal/reflectlite.ValueOf", "(internal/reflectlite.Value).Type", "(internal/reflectlite.Value).IsNil", "internal/reflectlite.TypeOf", "(internal/reflectlite.Value).Elem", "(internal/reflectlite.Value).Set", "internal/abi.NoEscape", "internal/bytealg.abigen_runtime_cmpstring", "internal/bytealg.IndexString"], unfollowed := true, recurses := true, named := ["warrant/utf.firstMarks", "errors.errorType", "internal/bytealg.MaxLen"], apart := false, laid := [("errors.errorType", laid_errors_errorType), ("warrant/utf.firstMarks", laid_warrant_utf_firstMarks)], narrowed := true }
def ClaimPrintsUptoSaid : Prop := claimPrintsUptoRow.holds Tryz.pinned (OpenSpec.upto claimPrintsSpec)

/-- 'warrantlaw09.ClaimReads', WHERE WHAT IT READS IS OF BULK AT MOST 1048576: true; the input reads as it did. -/
def claimReadsUptoRow : OpenClaim := { program := "ytjfgmgkhinehaaagreatdoor", sum := "ac8175696661296213471b2c09d6a83c71fc1febef95c87c553ab769eefd9c69", func := "warrant/warrantlaw09.ClaimReads", spec := "claimReads", inPlace := ["internal/bytealg.IndexByteString", "internal/reflectlite.ValueOf", "(internal/reflectlite.Value).Type", "(internal/reflectlite.Value).IsNil", "internal/reflectlite.TypeOf", "(internal/reflectlite.Value).Elem", "(internal/reflectlite.Value).Set", "internal/abi.NoEscape", "internal/bytealg.abigen_runtime_cmpstring", "internal/bytealg.IndexString"], unfollowed := true, recurses := true, named := ["warrant/utf.firstMarks", "errors.errorType", "internal/bytealg.MaxLen"], apart := false, laid := [("errors.errorType", laid_errors_errorType), ("warrant/utf.firstMarks", laid_warrant_utf_firstMarks)], narrowed := true }
def ClaimReadsUptoSaid : Prop := claimReadsUptoRow.holds Tryz.pinned (OpenSpec.upto claimReadsSpec)

/-- 'warrantlaw09.ClaimPushed', WHERE WHAT IT READS IS OF BULK AT MOST 1048576: true; the input reads as it did. -/
def claimPushedUptoRow : OpenClaim := { program := "ytjfgmgkhinehaaagreatdoor", sum := "ac8175696661296213471b2c09d6a83c71fc1febef95c87c553ab769eefd9c69", func := "warrant/warrantlaw09.ClaimPushed", spec := "claimPushed", inPlace := ["internal/bytealg.IndexByteString", "internal/reflectlite.ValueOf", "(internal/reflectlite.Value).Type", "(internal/reflectlite.Value).IsNil", "internal/reflectlite.TypeOf", "(internal/reflectlite.Value).Elem", "(internal/reflectlite.Value).Set", "internal/abi.NoEscape", "internal/bytealg.abigen_runtime_cmpstring", "internal/bytealg.IndexString"], unfollowed := true, recurses := true, named := ["warrant/utf.firstMarks", "errors.errorType", "internal/bytealg.MaxLen"], apart := false, laid := [("errors.errorType", laid_errors_errorType), ("warrant/utf.firstMarks", laid_warrant_utf_firstMarks)], narrowed := true }
def ClaimPushedUptoSaid : Prop := claimPushedUptoRow.holds Tryz.pinned (OpenSpec.upto claimPushedSpec)

/-- 'warrantlaw09.ClaimFields', WHERE WHAT IT READS IS OF BULK AT MOST 1048576: true; the input reads as it did. -/
def claimFieldsUptoRow : OpenClaim := { program := "ytjfgmgkhinehaaagreatdoor", sum := "ac8175696661296213471b2c09d6a83c71fc1febef95c87c553ab769eefd9c69", func := "warrant/warrantlaw09.ClaimFields", spec := "claimFields", inPlace := ["internal/bytealg.IndexByteString", "internal/reflectlite.ValueOf", "(internal/reflectlite.Value).Type", "(internal/reflectlite.Value).IsNil", "internal/reflectlite.TypeOf", "(internal/reflectlite.Value).Elem", "(internal/reflectlite.Value).Set", "internal/abi.NoEscape", "internal/bytealg.abigen_runtime_cmpstring", "internal/bytealg.IndexString"], unfollowed := true, recurses := true, named := ["warrant/utf.firstMarks", "errors.errorType", "internal/bytealg.MaxLen"], loops := true, apart := false, laid := [("errors.errorType", laid_errors_errorType), ("warrant/utf.firstMarks", laid_warrant_utf_firstMarks)], narrowed := true }
def ClaimFieldsUptoSaid : Prop := claimFieldsUptoRow.holds Tryz.pinned (OpenSpec.upto claimFieldsSpec)

/-- 'warrantlaw09.ClaimBack', WHERE WHAT IT READS IS OF BULK AT MOST 1048576: true; the input reads as it did. -/
def claimBackUptoRow : OpenClaim := { program := "ytjfgmgkhinehaaagreatdoor", sum := "ac8175696661296213471b2c09d6a83c71fc1febef95c87c553ab769eefd9c69", func := "warrant/warrantlaw09.ClaimBack", spec := "claimBack", inPlace := ["internal/bytealg.IndexByteString", "internal/reflectlite.ValueOf", "(internal/reflectlite.Value).Type", "(internal/reflectlite.Value).IsNil", "internal/reflectlite.TypeOf", "(internal/reflectlite.Value).Elem", "(internal/reflectlite.Value).Set", "internal/abi.NoEscape", "internal/bytealg.abigen_runtime_cmpstring", "internal/bytealg.IndexString"], unfollowed := true, recurses := true, named := ["warrant/utf.firstMarks", "errors.errorType", "internal/bytealg.MaxLen"], apart := false, laid := [("errors.errorType", laid_errors_errorType), ("warrant/utf.firstMarks", laid_warrant_utf_firstMarks)], narrowed := true }
def ClaimBackUptoSaid : Prop := claimBackUptoRow.holds Tryz.pinned (OpenSpec.upto claimBackSpec)

end Rows
end Go.Proofs.YtjfgmgkhinehaaaGreatDoor
