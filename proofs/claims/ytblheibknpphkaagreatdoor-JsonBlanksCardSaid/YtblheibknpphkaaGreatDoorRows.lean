/-
  NARROWER THAN 'FOR EVERY INPUT', by the rows' own cells (each row's printed sentence says how): JsonParses: laid · JsonPrints: loops, laid · JsonBack: loops, laid · JsonBlanks: laid · JsonGets: loops, laid · JsonSame: loops, laid · JsonOrder: loops, laid.
  DERIVED. THE GIVEN ROWS OF THIS SEAT. 7 by the template 'for every input the law returns true; each argument reads behind the call as it read before'; 0 by the template 'total and deterministic' (their statements: YtblheibknpphkaaGreatDoorTotals.lean).
  GIVEN WITH THE SEED: the statements are not yours to turn. If you find one false, say at which input.
  Laid BY PROGRAM, IN A SANDBOX (cutbox-rows.mjs): the forced cells as the released guide's own fill.sh prints them over the translation c2b2c93997719b1c… (all of the seat's roots in one cut). By AI agents, Wed Nov 11 2026. No macro, syntax, notation, axiom, sorry.
-/
import Derived.Test.YtblheibknpphkaaGreatDoorChecked
import GoSem.Claim
import GoSem.ClaimJoined
import GoSem.ClaimMapViews
import Derived.JoinedTies
import Derived.KernelRfl
namespace Go.Proofs.YtblheibknpphkaaGreatDoor
/- THE CELL 'sum', in the pinned program and in every row, IS THE sha256 OF THE DUMP (.gsa) THAT YtblheibknpphkaaGreatDoorProg.lean LOADS. Nothing in Lean hashes anything: it is a label: what it is worth is what the hold of that sum in a sandbox is worth. -/
noncomputable def Tryz.pinned : Pinned := { name := "ytblheibknpphkaagreatdoor", sum := "c2b2c93997719b1c0fd56aa21722fdb18b1c5d84a54600a094e82e16cabc05f8", checked := Tryz.checked }
namespace Rows
def none {H : Type} : Left H := { results := [], args := [] }

/- WHAT THE LISTED PACKAGE-LEVEL VARIABLES READ AS WHEN THE CALL BEGINS. Each datum BY PROGRAM (the guide's laid-datum.mjs) off the statement by which the dump's own 'gosem.cut.vars' lays the variable. In a bare row this is a premise. The card (YtblheibknpphkaaGreatDoorCards.lean) ties it to the program's text. -/
def laid_errors_errorType {H : Type} : DataW H := .iface "internal/reflectlite.rtype" (.agg [.ptr (.lit (.string [101, 114, 114, 111, 114]))])
def laid_warrant_utf_firstMarks {H : Type} : DataW H := .agg [.lit (.int .i64 0), .lit (.int .i64 0), .lit (.int .i64 192), .lit (.int .i64 224), .lit (.int .i64 240)]

/-- 'warrantlaw05.JsonParses': WHATEVER THE INPUT: true; the input reads as it did. -/
def jsonParsesSpec : ChangeSpec := { name := "jsonParses", fn := fun _ => fun
  | [d] => { results := [.lit (.bool true)], args := [d] }
  | _ => none }
def jsonParsesRow : OpenClaim := { program := "ytblheibknpphkaagreatdoor", sum := "c2b2c93997719b1c0fd56aa21722fdb18b1c5d84a54600a094e82e16cabc05f8", func := "warrant/warrantlaw05.JsonParses", spec := "jsonParses", inPlace := ["internal/bytealg.IndexByteString", "internal/reflectlite.ValueOf", "(internal/reflectlite.Value).Type", "(internal/reflectlite.Value).IsNil", "internal/reflectlite.TypeOf", "(internal/reflectlite.Value).Elem", "(internal/reflectlite.Value).Set", "internal/abi.NoEscape", "internal/bytealg.abigen_runtime_cmpstring"], unfollowed := true, recurses := true, named := ["warrant/utf.firstMarks", "errors.errorType"], apart := false, laid := [("errors.errorType", laid_errors_errorType), ("warrant/utf.firstMarks", laid_warrant_utf_firstMarks)] }
def JsonParsesSaid : Prop := jsonParsesRow.holds Tryz.pinned (OpenSpec.ofChange jsonParsesSpec)

/-- ITS FALSE NEIGHBOUR: 'it returns false'. Refute it at one input. -/
def jsonParsesWrong : ChangeSpec := { name := "jsonParses", fn := fun _ => fun
  | [d] => { results := [.lit (.bool false)], args := [d] }
  | _ => none }
def JsonParsesWrongFalsely : Prop := jsonParsesRow.holds Tryz.pinned (OpenSpec.ofChange jsonParsesWrong)

/-- 'warrantlaw05.JsonPrints': WHATEVER THE INPUT: true; the input reads as it did. -/
def jsonPrintsSpec : ChangeSpec := { name := "jsonPrints", fn := fun _ => fun
  | [d] => { results := [.lit (.bool true)], args := [d] }
  | _ => none }
def jsonPrintsRow : OpenClaim := { program := "ytblheibknpphkaagreatdoor", sum := "c2b2c93997719b1c0fd56aa21722fdb18b1c5d84a54600a094e82e16cabc05f8", func := "warrant/warrantlaw05.JsonPrints", spec := "jsonPrints", inPlace := ["internal/bytealg.IndexByteString", "internal/reflectlite.ValueOf", "(internal/reflectlite.Value).Type", "(internal/reflectlite.Value).IsNil", "internal/reflectlite.TypeOf", "(internal/reflectlite.Value).Elem", "(internal/reflectlite.Value).Set", "internal/abi.NoEscape", "internal/bytealg.abigen_runtime_cmpstring"], unfollowed := true, recurses := true, named := ["warrant/utf.firstMarks", "errors.errorType"], loops := true, apart := false, laid := [("errors.errorType", laid_errors_errorType), ("warrant/utf.firstMarks", laid_warrant_utf_firstMarks)] }
def JsonPrintsSaid : Prop := jsonPrintsRow.holds Tryz.pinned (OpenSpec.ofChange jsonPrintsSpec)

/-- ITS FALSE NEIGHBOUR: 'it returns false'. Refute it at one input. -/
def jsonPrintsWrong : ChangeSpec := { name := "jsonPrints", fn := fun _ => fun
  | [d] => { results := [.lit (.bool false)], args := [d] }
  | _ => none }
def JsonPrintsWrongFalsely : Prop := jsonPrintsRow.holds Tryz.pinned (OpenSpec.ofChange jsonPrintsWrong)

/-- 'warrantlaw05.JsonBack': WHATEVER THE INPUT: true; the input reads as it did. -/
def jsonBackSpec : ChangeSpec := { name := "jsonBack", fn := fun _ => fun
  | [d1, d2] => { results := [.lit (.bool true)], args := [d1, d2] }
  | _ => none }
def jsonBackRow : OpenClaim := { program := "ytblheibknpphkaagreatdoor", sum := "c2b2c93997719b1c0fd56aa21722fdb18b1c5d84a54600a094e82e16cabc05f8", func := "warrant/warrantlaw05.JsonBack", spec := "jsonBack", inPlace := ["internal/bytealg.IndexByteString", "internal/reflectlite.ValueOf", "(internal/reflectlite.Value).Type", "(internal/reflectlite.Value).IsNil", "internal/reflectlite.TypeOf", "(internal/reflectlite.Value).Elem", "(internal/reflectlite.Value).Set", "internal/abi.NoEscape", "internal/bytealg.abigen_runtime_cmpstring"], unfollowed := true, recurses := true, named := ["warrant/utf.firstMarks", "errors.errorType"], loops := true, apart := false, laid := [("errors.errorType", laid_errors_errorType), ("warrant/utf.firstMarks", laid_warrant_utf_firstMarks)] }
def JsonBackSaid : Prop := jsonBackRow.holds Tryz.pinned (OpenSpec.ofChange jsonBackSpec)

/-- ITS FALSE NEIGHBOUR: 'it returns false'. Refute it at one input. -/
def jsonBackWrong : ChangeSpec := { name := "jsonBack", fn := fun _ => fun
  | [d1, d2] => { results := [.lit (.bool false)], args := [d1, d2] }
  | _ => none }
def JsonBackWrongFalsely : Prop := jsonBackRow.holds Tryz.pinned (OpenSpec.ofChange jsonBackWrong)

/-- 'warrantlaw05.JsonBlanks': WHATEVER THE INPUT: true; the input reads as it did. -/
def jsonBlanksSpec : ChangeSpec := { name := "jsonBlanks", fn := fun _ => fun
  | [d1, d2, d3] => { results := [.lit (.bool true)], args := [d1, d2, d3] }
  | _ => none }
def jsonBlanksRow : OpenClaim := { program := "ytblheibknpphkaagreatdoor", sum := "c2b2c93997719b1c0fd56aa21722fdb18b1c5d84a54600a094e82e16cabc05f8", func := "warrant/warrantlaw05.JsonBlanks", spec := "jsonBlanks", inPlace := ["internal/bytealg.IndexByteString", "internal/reflectlite.ValueOf", "(internal/reflectlite.Value).Type", "(internal/reflectlite.Value).IsNil", "internal/reflectlite.TypeOf", "(internal/reflectlite.Value).Elem", "(internal/reflectlite.Value).Set", "internal/abi.NoEscape", "internal/bytealg.abigen_runtime_cmpstring"], unfollowed := true, recurses := true, named := ["warrant/utf.firstMarks", "errors.errorType"], apart := false, laid := [("errors.errorType", laid_errors_errorType), ("warrant/utf.firstMarks", laid_warrant_utf_firstMarks)] }
def JsonBlanksSaid : Prop := jsonBlanksRow.holds Tryz.pinned (OpenSpec.ofChange jsonBlanksSpec)

/-- ITS FALSE NEIGHBOUR: 'it returns false'. Refute it at one input. -/
def jsonBlanksWrong : ChangeSpec := { name := "jsonBlanks", fn := fun _ => fun
  | [d1, d2, d3] => { results := [.lit (.bool false)], args := [d1, d2, d3] }
  | _ => none }
def JsonBlanksWrongFalsely : Prop := jsonBlanksRow.holds Tryz.pinned (OpenSpec.ofChange jsonBlanksWrong)

/-- 'warrantlaw05.JsonGets': WHATEVER THE INPUT: true; the input reads as it did. -/
def jsonGetsSpec : ChangeSpec := { name := "jsonGets", fn := fun _ => fun
  | [d1, d2, d3] => { results := [.lit (.bool true)], args := [d1, d2, d3] }
  | _ => none }
def jsonGetsRow : OpenClaim := { program := "ytblheibknpphkaagreatdoor", sum := "c2b2c93997719b1c0fd56aa21722fdb18b1c5d84a54600a094e82e16cabc05f8", func := "warrant/warrantlaw05.JsonGets", spec := "jsonGets", inPlace := ["internal/bytealg.IndexByteString", "internal/reflectlite.ValueOf", "(internal/reflectlite.Value).Type", "(internal/reflectlite.Value).IsNil", "internal/reflectlite.TypeOf", "(internal/reflectlite.Value).Elem", "(internal/reflectlite.Value).Set", "internal/abi.NoEscape", "internal/bytealg.abigen_runtime_cmpstring"], unfollowed := true, recurses := true, named := ["warrant/utf.firstMarks", "errors.errorType"], loops := true, apart := false, laid := [("errors.errorType", laid_errors_errorType), ("warrant/utf.firstMarks", laid_warrant_utf_firstMarks)] }
def JsonGetsSaid : Prop := jsonGetsRow.holds Tryz.pinned (OpenSpec.ofChange jsonGetsSpec)

/-- ITS FALSE NEIGHBOUR: 'it returns false'. Refute it at one input. -/
def jsonGetsWrong : ChangeSpec := { name := "jsonGets", fn := fun _ => fun
  | [d1, d2, d3] => { results := [.lit (.bool false)], args := [d1, d2, d3] }
  | _ => none }
def JsonGetsWrongFalsely : Prop := jsonGetsRow.holds Tryz.pinned (OpenSpec.ofChange jsonGetsWrong)

/-- 'warrantlaw05.JsonSame': WHATEVER THE INPUT: true; the input reads as it did. -/
def jsonSameSpec : ChangeSpec := { name := "jsonSame", fn := fun _ => fun
  | [d1, d2] => { results := [.lit (.bool true)], args := [d1, d2] }
  | _ => none }
def jsonSameRow : OpenClaim := { program := "ytblheibknpphkaagreatdoor", sum := "c2b2c93997719b1c0fd56aa21722fdb18b1c5d84a54600a094e82e16cabc05f8", func := "warrant/warrantlaw05.JsonSame", spec := "jsonSame", inPlace := ["internal/bytealg.IndexByteString", "internal/reflectlite.ValueOf", "(internal/reflectlite.Value).Type", "(internal/reflectlite.Value).IsNil", "internal/reflectlite.TypeOf", "(internal/reflectlite.Value).Elem", "(internal/reflectlite.Value).Set", "internal/abi.NoEscape", "internal/bytealg.abigen_runtime_cmpstring"], unfollowed := true, recurses := true, named := ["warrant/utf.firstMarks", "errors.errorType"], loops := true, apart := false, laid := [("errors.errorType", laid_errors_errorType), ("warrant/utf.firstMarks", laid_warrant_utf_firstMarks)] }
def JsonSameSaid : Prop := jsonSameRow.holds Tryz.pinned (OpenSpec.ofChange jsonSameSpec)

/-- ITS FALSE NEIGHBOUR: 'it returns false'. Refute it at one input. -/
def jsonSameWrong : ChangeSpec := { name := "jsonSame", fn := fun _ => fun
  | [d1, d2] => { results := [.lit (.bool false)], args := [d1, d2] }
  | _ => none }
def JsonSameWrongFalsely : Prop := jsonSameRow.holds Tryz.pinned (OpenSpec.ofChange jsonSameWrong)

/-- 'warrantlaw05.JsonOrder': WHATEVER THE INPUT: true; the input reads as it did. -/
def jsonOrderSpec : ChangeSpec := { name := "jsonOrder", fn := fun _ => fun
  | [d1, d2, d3] => { results := [.lit (.bool true)], args := [d1, d2, d3] }
  | _ => none }
def jsonOrderRow : OpenClaim := { program := "ytblheibknpphkaagreatdoor", sum := "c2b2c93997719b1c0fd56aa21722fdb18b1c5d84a54600a094e82e16cabc05f8", func := "warrant/warrantlaw05.JsonOrder", spec := "jsonOrder", inPlace := ["internal/bytealg.IndexByteString", "internal/reflectlite.ValueOf", "(internal/reflectlite.Value).Type", "(internal/reflectlite.Value).IsNil", "internal/reflectlite.TypeOf", "(internal/reflectlite.Value).Elem", "(internal/reflectlite.Value).Set", "internal/abi.NoEscape", "internal/bytealg.abigen_runtime_cmpstring"], unfollowed := true, recurses := true, named := ["warrant/utf.firstMarks", "errors.errorType"], loops := true, apart := false, laid := [("errors.errorType", laid_errors_errorType), ("warrant/utf.firstMarks", laid_warrant_utf_firstMarks)] }
def JsonOrderSaid : Prop := jsonOrderRow.holds Tryz.pinned (OpenSpec.ofChange jsonOrderSpec)

/-- ITS FALSE NEIGHBOUR: 'it returns false'. Refute it at one input. -/
def jsonOrderWrong : ChangeSpec := { name := "jsonOrder", fn := fun _ => fun
  | [d1, d2, d3] => { results := [.lit (.bool false)], args := [d1, d2, d3] }
  | _ => none }
def JsonOrderWrongFalsely : Prop := jsonOrderRow.holds Tryz.pinned (OpenSpec.ofChange jsonOrderWrong)

/- THE SECOND FORM. 'bulk': how many values and letters a reading holds, each counted each time it is reached (what is shared counts as often as it is met; a slice's spare places count too). A statement '..UptoSaid' is the law's where the arguments, and the package variables that the reading takes, are together of bulk at most 1048576: NARROWER than '..Said'. Prove '..Said' where nothing that the law and all that it calls make is longer than what came in: it says more and counts as full. Else prove '..UptoSaid'. A law counts once. -/
mutual
def uptoBulk {H : Type} : DataW H → Nat
  | .lit (.string bytes) => bytes.length + 1
  | .lit _ => 1
  | .nil => 1
  | .ptr d => uptoBulk d + 1
  | .slice elems spare => uptoBulkAll elems + uptoBulkAll spare + 1
  | .agg parts => uptoBulkAll parts + 1
  | .iface _ d => uptoBulk d + 1
  | .map entries => uptoBulkEntries entries + 1
  | .held _ => 1
def uptoBulkAll {H : Type} : List (DataW H) → Nat
  | [] => 0
  | d :: r => uptoBulk d + uptoBulkAll r
def uptoBulkEntries {H : Type} : List (Lit × DataW H) → Nat
  | [] => 0
  | x :: r => uptoBulkEntry x + uptoBulkEntries r
def uptoBulkEntry {H : Type} : Lit × DataW H → Nat
  | (.string bytes, d) => bytes.length + uptoBulk d + 1
  | (_, d) => uptoBulk d + 1
 end
def uptoSmall : (H : Type) → List (DataW H) → Bool := fun _ ds => decide (uptoBulkAll ds ≤ 1048576)
def OpenSpec.upto (s : _root_.Go.ChangeSpec) : _root_.Go.OpenSpec := { _root_.Go.OpenSpec.ofChange s with cond := some uptoSmall }

/-- 'warrantlaw05.JsonParses', WHERE WHAT IT READS IS OF BULK AT MOST 1048576: true; the input reads as it did. -/
def jsonParsesUptoRow : OpenClaim := { program := "ytblheibknpphkaagreatdoor", sum := "c2b2c93997719b1c0fd56aa21722fdb18b1c5d84a54600a094e82e16cabc05f8", func := "warrant/warrantlaw05.JsonParses", spec := "jsonParses", inPlace := ["internal/bytealg.IndexByteString", "internal/reflectlite.ValueOf", "(internal/reflectlite.Value).Type", "(internal/reflectlite.Value).IsNil", "internal/reflectlite.TypeOf", "(internal/reflectlite.Value).Elem", "(internal/reflectlite.Value).Set", "internal/abi.NoEscape", "internal/bytealg.abigen_runtime_cmpstring"], unfollowed := true, recurses := true, named := ["warrant/utf.firstMarks", "errors.errorType"], apart := false, laid := [("errors.errorType", laid_errors_errorType), ("warrant/utf.firstMarks", laid_warrant_utf_firstMarks)], narrowed := true }
def JsonParsesUptoSaid : Prop := jsonParsesUptoRow.holds Tryz.pinned (OpenSpec.upto jsonParsesSpec)

/-- 'warrantlaw05.JsonPrints', WHERE WHAT IT READS IS OF BULK AT MOST 1048576: true; the input reads as it did. -/
def jsonPrintsUptoRow : OpenClaim := { program := "ytblheibknpphkaagreatdoor", sum := "c2b2c93997719b1c0fd56aa21722fdb18b1c5d84a54600a094e82e16cabc05f8", func := "warrant/warrantlaw05.JsonPrints", spec := "jsonPrints", inPlace := ["internal/bytealg.IndexByteString", "internal/reflectlite.ValueOf", "(internal/reflectlite.Value).Type", "(internal/reflectlite.Value).IsNil", "internal/reflectlite.TypeOf", "(internal/reflectlite.Value).Elem", "(internal/reflectlite.Value).Set", "internal/abi.NoEscape", "internal/bytealg.abigen_runtime_cmpstring"], unfollowed := true, recurses := true, named := ["warrant/utf.firstMarks", "errors.errorType"], loops := true, apart := false, laid := [("errors.errorType", laid_errors_errorType), ("warrant/utf.firstMarks", laid_warrant_utf_firstMarks)], narrowed := true }
def JsonPrintsUptoSaid : Prop := jsonPrintsUptoRow.holds Tryz.pinned (OpenSpec.upto jsonPrintsSpec)

/-- 'warrantlaw05.JsonBack', WHERE WHAT IT READS IS OF BULK AT MOST 1048576: true; the input reads as it did. -/
def jsonBackUptoRow : OpenClaim := { program := "ytblheibknpphkaagreatdoor", sum := "c2b2c93997719b1c0fd56aa21722fdb18b1c5d84a54600a094e82e16cabc05f8", func := "warrant/warrantlaw05.JsonBack", spec := "jsonBack", inPlace := ["internal/bytealg.IndexByteString", "internal/reflectlite.ValueOf", "(internal/reflectlite.Value).Type", "(internal/reflectlite.Value).IsNil", "internal/reflectlite.TypeOf", "(internal/reflectlite.Value).Elem", "(internal/reflectlite.Value).Set", "internal/abi.NoEscape", "internal/bytealg.abigen_runtime_cmpstring"], unfollowed := true, recurses := true, named := ["warrant/utf.firstMarks", "errors.errorType"], loops := true, apart := false, laid := [("errors.errorType", laid_errors_errorType), ("warrant/utf.firstMarks", laid_warrant_utf_firstMarks)], narrowed := true }
def JsonBackUptoSaid : Prop := jsonBackUptoRow.holds Tryz.pinned (OpenSpec.upto jsonBackSpec)

/-- 'warrantlaw05.JsonBlanks', WHERE WHAT IT READS IS OF BULK AT MOST 1048576: true; the input reads as it did. -/
def jsonBlanksUptoRow : OpenClaim := { program := "ytblheibknpphkaagreatdoor", sum := "c2b2c93997719b1c0fd56aa21722fdb18b1c5d84a54600a094e82e16cabc05f8", func := "warrant/warrantlaw05.JsonBlanks", spec := "jsonBlanks", inPlace := ["internal/bytealg.IndexByteString", "internal/reflectlite.ValueOf", "(internal/reflectlite.Value).Type", "(internal/reflectlite.Value).IsNil", "internal/reflectlite.TypeOf", "(internal/reflectlite.Value).Elem", "(internal/reflectlite.Value).Set", "internal/abi.NoEscape", "internal/bytealg.abigen_runtime_cmpstring"], unfollowed := true, recurses := true, named := ["warrant/utf.firstMarks", "errors.errorType"], apart := false, laid := [("errors.errorType", laid_errors_errorType), ("warrant/utf.firstMarks", laid_warrant_utf_firstMarks)], narrowed := true }
def JsonBlanksUptoSaid : Prop := jsonBlanksUptoRow.holds Tryz.pinned (OpenSpec.upto jsonBlanksSpec)

/-- 'warrantlaw05.JsonGets', WHERE WHAT IT READS IS OF BULK AT MOST 1048576: true; the input reads as it did. -/
def jsonGetsUptoRow : OpenClaim := { program := "ytblheibknpphkaagreatdoor", sum := "c2b2c93997719b1c0fd56aa21722fdb18b1c5d84a54600a094e82e16cabc05f8", func := "warrant/warrantlaw05.JsonGets", spec := "jsonGets", inPlace := ["internal/bytealg.IndexByteString", "internal/reflectlite.ValueOf", "(internal/reflectlite.Value).Type", "(internal/reflectlite.Value).IsNil", "internal/reflectlite.TypeOf", "(internal/reflectlite.Value).Elem", "(internal/reflectlite.Value).Set", "internal/abi.NoEscape", "internal/bytealg.abigen_runtime_cmpstring"], unfollowed := true, recurses := true, named := ["warrant/utf.firstMarks", "errors.errorType"], loops := true, apart := false, laid := [("errors.errorType", laid_errors_errorType), ("warrant/utf.firstMarks", laid_warrant_utf_firstMarks)], narrowed := true }
def JsonGetsUptoSaid : Prop := jsonGetsUptoRow.holds Tryz.pinned (OpenSpec.upto jsonGetsSpec)

/-- 'warrantlaw05.JsonSame', WHERE WHAT IT READS IS OF BULK AT MOST 1048576: true; the input reads as it did. -/
def jsonSameUptoRow : OpenClaim := { program := "ytblheibknpphkaagreatdoor", sum := "c2b2c93997719b1c0fd56aa21722fdb18b1c5d84a54600a094e82e16cabc05f8", func := "warrant/warrantlaw05.JsonSame", spec := "jsonSame", inPlace := ["internal/bytealg.IndexByteString", "internal/reflectlite.ValueOf", "(internal/reflectlite.Value).Type", "(internal/reflectlite.Value).IsNil", "internal/reflectlite.TypeOf", "(internal/reflectlite.Value).Elem", "(internal/reflectlite.Value).Set", "internal/abi.NoEscape", "internal/bytealg.abigen_runtime_cmpstring"], unfollowed := true, recurses := true, named := ["warrant/utf.firstMarks", "errors.errorType"], loops := true, apart := false, laid := [("errors.errorType", laid_errors_errorType), ("warrant/utf.firstMarks", laid_warrant_utf_firstMarks)], narrowed := true }
def JsonSameUptoSaid : Prop := jsonSameUptoRow.holds Tryz.pinned (OpenSpec.upto jsonSameSpec)

/-- 'warrantlaw05.JsonOrder', WHERE WHAT IT READS IS OF BULK AT MOST 1048576: true; the input reads as it did. -/
def jsonOrderUptoRow : OpenClaim := { program := "ytblheibknpphkaagreatdoor", sum := "c2b2c93997719b1c0fd56aa21722fdb18b1c5d84a54600a094e82e16cabc05f8", func := "warrant/warrantlaw05.JsonOrder", spec := "jsonOrder", inPlace := ["internal/bytealg.IndexByteString", "internal/reflectlite.ValueOf", "(internal/reflectlite.Value).Type", "(internal/reflectlite.Value).IsNil", "internal/reflectlite.TypeOf", "(internal/reflectlite.Value).Elem", "(internal/reflectlite.Value).Set", "internal/abi.NoEscape", "internal/bytealg.abigen_runtime_cmpstring"], unfollowed := true, recurses := true, named := ["warrant/utf.firstMarks", "errors.errorType"], loops := true, apart := false, laid := [("errors.errorType", laid_errors_errorType), ("warrant/utf.firstMarks", laid_warrant_utf_firstMarks)], narrowed := true }
def JsonOrderUptoSaid : Prop := jsonOrderUptoRow.holds Tryz.pinned (OpenSpec.upto jsonOrderSpec)

end Rows
end Go.Proofs.YtblheibknpphkaaGreatDoor
