/-
  NARROWER THAN 'FOR EVERY INPUT', by the rows' own cells (each row's printed sentence says how): PolParses: laid · PolPrints: loops, laid · PolSame: loops, laid · PolJoins: laid · CheckKinds: loops, laid · CheckAlone: loops, laid.
  DERIVED. THE GIVEN ROWS OF THIS SEAT. 6 by the template 'for every input the law returns true; each argument reads behind the call as it read before'; 0 by the template 'total and deterministic' (their statements: YtcjfealalokjaaaGreatDoorTotals.lean).
  GIVEN WITH THE SEED: the statements are not yours to turn. If you find one false, say at which input.
  Laid BY PROGRAM, IN A SANDBOX (cutbox-rows.mjs): the forced cells as the released guide's own fill.sh prints them over the translation 155162b4ce67c3c9… (all of the seat's roots in one cut). By AI agents, Wed Nov 11 2026. No macro, syntax, notation, axiom, sorry.
-/
import Derived.Test.YtcjfealalokjaaaGreatDoorChecked
import GoSem.Claim
import GoSem.ClaimJoined
import GoSem.ClaimMapViews
import Derived.JoinedTies
import Derived.KernelRfl
namespace Go.Proofs.YtcjfealalokjaaaGreatDoor
/- THE CELL 'sum', in the pinned program and in every row, IS THE sha256 OF THE DUMP (.gsa) THAT YtcjfealalokjaaaGreatDoorProg.lean LOADS. Nothing in Lean hashes anything: it is a label: what it is worth is what the hold of that sum in a sandbox is worth. -/
noncomputable def Tryz.pinned : Pinned := { name := "ytcjfealalokjaaagreatdoor", sum := "155162b4ce67c3c90975d79e3f6391efa15aa7126630943dc6165bea05a7f303", checked := Tryz.checked }
namespace Rows
def none {H : Type} : Left H := { results := [], args := [] }

/- WHAT THE LISTED PACKAGE-LEVEL VARIABLES READ AS WHEN THE CALL BEGINS. Each datum BY PROGRAM (the guide's laid-datum.mjs) off the statement by which the dump's own 'gosem.cut.vars' lays the variable. In a bare row this is a premise. The card (YtcjfealalokjaaaGreatDoorCards.lean) ties it to the program's text. -/
def laid_errors_errorType {H : Type} : DataW H := .iface "internal/reflectlite.rtype" (.agg [.ptr (.lit (.string [101, 114, 114, 111, 114]))])
def laid_warrant_utf_firstMarks {H : Type} : DataW H := .agg [.lit (.int .i64 0), .lit (.int .i64 0), .lit (.int .i64 192), .lit (.int .i64 224), .lit (.int .i64 240)]

/-- 'warrantlaw12.PolParses': WHATEVER THE INPUT: true; the input reads as it did. -/
def polParsesSpec : ChangeSpec := { name := "polParses", fn := fun _ => fun
  | [d] => { results := [.lit (.bool true)], args := [d] }
  | _ => none }
def polParsesRow : OpenClaim := { program := "ytcjfealalokjaaagreatdoor", sum := "155162b4ce67c3c90975d79e3f6391efa15aa7126630943dc6165bea05a7f303", func := "warrant/warrantlaw12.PolParses", spec := "polParses", inPlace := ["internal/bytealg.IndexByteString", "internal/bytealg.IndexString", "internal/abi.NoEscape", "internal/reflectlite.ValueOf", "(internal/reflectlite.Value).Type", "(internal/reflectlite.Value).IsNil", "internal/reflectlite.TypeOf", "(internal/reflectlite.Value).Elem", "(internal/reflectlite.Value).Set"], unfollowed := true, recurses := true, named := ["internal/bytealg.MaxLen", "warrant/utf.firstMarks", "errors.errorType"], apart := false, laid := [("errors.errorType", laid_errors_errorType), ("warrant/utf.firstMarks", laid_warrant_utf_firstMarks)] }
def PolParsesSaid : Prop := polParsesRow.holds Tryz.pinned (OpenSpec.ofChange polParsesSpec)

/-- ITS FALSE NEIGHBOUR: 'it returns false'. Refute it at one input. -/
def polParsesWrong : ChangeSpec := { name := "polParses", fn := fun _ => fun
  | [d] => { results := [.lit (.bool false)], args := [d] }
  | _ => none }
def PolParsesWrongFalsely : Prop := polParsesRow.holds Tryz.pinned (OpenSpec.ofChange polParsesWrong)

/-- 'warrantlaw12.PolPrints': WHATEVER THE INPUT: true; the input reads as it did. -/
def polPrintsSpec : ChangeSpec := { name := "polPrints", fn := fun _ => fun
  | [d] => { results := [.lit (.bool true)], args := [d] }
  | _ => none }
def polPrintsRow : OpenClaim := { program := "ytcjfealalokjaaagreatdoor", sum := "155162b4ce67c3c90975d79e3f6391efa15aa7126630943dc6165bea05a7f303", func := "warrant/warrantlaw12.PolPrints", spec := "polPrints", inPlace := ["internal/bytealg.IndexByteString", "internal/bytealg.IndexString", "internal/abi.NoEscape", "internal/reflectlite.ValueOf", "(internal/reflectlite.Value).Type", "(internal/reflectlite.Value).IsNil", "internal/reflectlite.TypeOf", "(internal/reflectlite.Value).Elem", "(internal/reflectlite.Value).Set"], unfollowed := true, recurses := true, named := ["internal/bytealg.MaxLen", "warrant/utf.firstMarks", "errors.errorType"], loops := true, apart := false, laid := [("errors.errorType", laid_errors_errorType), ("warrant/utf.firstMarks", laid_warrant_utf_firstMarks)] }
def PolPrintsSaid : Prop := polPrintsRow.holds Tryz.pinned (OpenSpec.ofChange polPrintsSpec)

/-- ITS FALSE NEIGHBOUR: 'it returns false'. Refute it at one input. -/
def polPrintsWrong : ChangeSpec := { name := "polPrints", fn := fun _ => fun
  | [d] => { results := [.lit (.bool false)], args := [d] }
  | _ => none }
def PolPrintsWrongFalsely : Prop := polPrintsRow.holds Tryz.pinned (OpenSpec.ofChange polPrintsWrong)

/-- 'warrantlaw12.PolSame': WHATEVER THE INPUT: true; the input reads as it did. -/
def polSameSpec : ChangeSpec := { name := "polSame", fn := fun _ => fun
  | [d1, d2] => { results := [.lit (.bool true)], args := [d1, d2] }
  | _ => none }
def polSameRow : OpenClaim := { program := "ytcjfealalokjaaagreatdoor", sum := "155162b4ce67c3c90975d79e3f6391efa15aa7126630943dc6165bea05a7f303", func := "warrant/warrantlaw12.PolSame", spec := "polSame", inPlace := ["internal/bytealg.IndexByteString", "internal/bytealg.IndexString", "internal/abi.NoEscape"], unfollowed := true, recurses := true, named := ["internal/bytealg.MaxLen", "warrant/utf.firstMarks"], loops := true, apart := false, laid := [("warrant/utf.firstMarks", laid_warrant_utf_firstMarks)] }
def PolSameSaid : Prop := polSameRow.holds Tryz.pinned (OpenSpec.ofChange polSameSpec)

/-- ITS FALSE NEIGHBOUR: 'it returns false'. Refute it at one input. -/
def polSameWrong : ChangeSpec := { name := "polSame", fn := fun _ => fun
  | [d1, d2] => { results := [.lit (.bool false)], args := [d1, d2] }
  | _ => none }
def PolSameWrongFalsely : Prop := polSameRow.holds Tryz.pinned (OpenSpec.ofChange polSameWrong)

/-- 'warrantlaw12.PolJoins': WHATEVER THE INPUT: true; the input reads as it did. -/
def polJoinsSpec : ChangeSpec := { name := "polJoins", fn := fun _ => fun
  | [d1, d2] => { results := [.lit (.bool true)], args := [d1, d2] }
  | _ => none }
def polJoinsRow : OpenClaim := { program := "ytcjfealalokjaaagreatdoor", sum := "155162b4ce67c3c90975d79e3f6391efa15aa7126630943dc6165bea05a7f303", func := "warrant/warrantlaw12.PolJoins", spec := "polJoins", inPlace := ["internal/bytealg.IndexByteString", "internal/bytealg.IndexString", "internal/abi.NoEscape", "internal/reflectlite.ValueOf", "(internal/reflectlite.Value).Type", "(internal/reflectlite.Value).IsNil", "internal/reflectlite.TypeOf", "(internal/reflectlite.Value).Elem", "(internal/reflectlite.Value).Set"], unfollowed := true, recurses := true, named := ["internal/bytealg.MaxLen", "warrant/utf.firstMarks", "errors.errorType"], apart := false, laid := [("errors.errorType", laid_errors_errorType), ("warrant/utf.firstMarks", laid_warrant_utf_firstMarks)] }
def PolJoinsSaid : Prop := polJoinsRow.holds Tryz.pinned (OpenSpec.ofChange polJoinsSpec)

/-- ITS FALSE NEIGHBOUR: 'it returns false'. Refute it at one input. -/
def polJoinsWrong : ChangeSpec := { name := "polJoins", fn := fun _ => fun
  | [d1, d2] => { results := [.lit (.bool false)], args := [d1, d2] }
  | _ => none }
def PolJoinsWrongFalsely : Prop := polJoinsRow.holds Tryz.pinned (OpenSpec.ofChange polJoinsWrong)

/-- 'warrantlaw13.CheckKinds': WHATEVER THE INPUT: true; the input reads as it did. -/
def checkKindsSpec : ChangeSpec := { name := "checkKinds", fn := fun _ => fun
  | [d] => { results := [.lit (.bool true)], args := [d] }
  | _ => none }
def checkKindsRow : OpenClaim := { program := "ytcjfealalokjaaagreatdoor", sum := "155162b4ce67c3c90975d79e3f6391efa15aa7126630943dc6165bea05a7f303", func := "warrant/warrantlaw13.CheckKinds", spec := "checkKinds", inPlace := ["internal/bytealg.IndexByteString", "internal/bytealg.IndexString", "internal/abi.NoEscape", "internal/reflectlite.ValueOf", "(internal/reflectlite.Value).Type", "(internal/reflectlite.Value).IsNil", "internal/reflectlite.TypeOf", "(internal/reflectlite.Value).Elem", "(internal/reflectlite.Value).Set"], unfollowed := true, recurses := true, named := ["internal/bytealg.MaxLen", "warrant/utf.firstMarks", "errors.errorType"], loops := true, apart := false, laid := [("errors.errorType", laid_errors_errorType), ("warrant/utf.firstMarks", laid_warrant_utf_firstMarks)] }
def CheckKindsSaid : Prop := checkKindsRow.holds Tryz.pinned (OpenSpec.ofChange checkKindsSpec)

/-- ITS FALSE NEIGHBOUR: 'it returns false'. Refute it at one input. -/
def checkKindsWrong : ChangeSpec := { name := "checkKinds", fn := fun _ => fun
  | [d] => { results := [.lit (.bool false)], args := [d] }
  | _ => none }
def CheckKindsWrongFalsely : Prop := checkKindsRow.holds Tryz.pinned (OpenSpec.ofChange checkKindsWrong)

/-- 'warrantlaw13.CheckAlone': WHATEVER THE INPUT: true; the input reads as it did. -/
def checkAloneSpec : ChangeSpec := { name := "checkAlone", fn := fun _ => fun
  | [d] => { results := [.lit (.bool true)], args := [d] }
  | _ => none }
def checkAloneRow : OpenClaim := { program := "ytcjfealalokjaaagreatdoor", sum := "155162b4ce67c3c90975d79e3f6391efa15aa7126630943dc6165bea05a7f303", func := "warrant/warrantlaw13.CheckAlone", spec := "checkAlone", inPlace := ["internal/bytealg.IndexByteString", "internal/bytealg.IndexString", "internal/abi.NoEscape", "internal/reflectlite.ValueOf", "(internal/reflectlite.Value).Type", "(internal/reflectlite.Value).IsNil", "internal/reflectlite.TypeOf", "(internal/reflectlite.Value).Elem", "(internal/reflectlite.Value).Set"], unfollowed := true, recurses := true, named := ["internal/bytealg.MaxLen", "warrant/utf.firstMarks", "errors.errorType"], loops := true, apart := false, laid := [("errors.errorType", laid_errors_errorType), ("warrant/utf.firstMarks", laid_warrant_utf_firstMarks)] }
def CheckAloneSaid : Prop := checkAloneRow.holds Tryz.pinned (OpenSpec.ofChange checkAloneSpec)

/-- ITS FALSE NEIGHBOUR: 'it returns false'. Refute it at one input. -/
def checkAloneWrong : ChangeSpec := { name := "checkAlone", fn := fun _ => fun
  | [d] => { results := [.lit (.bool false)], args := [d] }
  | _ => none }
def CheckAloneWrongFalsely : Prop := checkAloneRow.holds Tryz.pinned (OpenSpec.ofChange checkAloneWrong)

/- THE SECOND FORM. 'bulk': how many values and letters a reading holds, each counted each time it is reached (what is shared counts as often as it is met; a slice's spare places count too). A statement '..UptoSaid' is the law's where the arguments, and the package variables that the reading takes, are together of bulk at most 1048576: NARROWER than '..Said'. Prove '..Said' where nothing that the law and all that it calls make is longer than what came in: it says more and counts as full. Else prove '..UptoSaid'. A law counts once. -/
mutual
def uptoBulk {H : Type} : DataW H → Nat
  | .lit (.string bytes) => bytes.length + 1
  | .lit _ => 1
  | .nil => 1
  | .ptr d => uptoBulk d + 1
  | .slice elems spare => uptoBulkAll elems + uptoBulkAll spare + 1
  | .agg parts => uptoBulkAll parts + 1
  | .iface _ d => uptoBulk d + 1
  | .map entries => uptoBulkEntries entries + 1
  | .held _ => 1
def uptoBulkAll {H : Type} : List (DataW H) → Nat
  | [] => 0
  | d :: r => uptoBulk d + uptoBulkAll r
def uptoBulkEntries {H : Type} : List (Lit × DataW H) → Nat
  | [] => 0
  | x :: r => uptoBulkEntry x + uptoBulkEntries r
def uptoBulkEntry {H : Type} : Lit × DataW H → Nat
  | (.string bytes, d) => bytes.length + uptoBulk d + 1
  | (_, d) => uptoBulk d + 1
 end
def uptoSmall : (H : Type) → List (DataW H) → Bool := fun _ ds => decide (uptoBulkAll ds ≤ 1048576)
def OpenSpec.upto (s : _root_.Go.ChangeSpec) : _root_.Go.OpenSpec := { _root_.Go.OpenSpec.ofChange s with cond := some uptoSmall }

/-- 'warrantlaw12.PolParses', WHERE WHAT IT READS IS OF BULK AT MOST 1048576: true; the input reads as it did. -/
def polParsesUptoRow : OpenClaim := { program := "ytcjfealalokjaaagreatdoor", sum := "155162b4ce67c3c90975d79e3f6391efa15aa7126630943dc6165bea05a7f303", func := "warrant/warrantlaw12.PolParses", spec := "polParses", inPlace := ["internal/bytealg.IndexByteString", "internal/bytealg.IndexString", "internal/abi.NoEscape", "internal/reflectlite.ValueOf", "(internal/reflectlite.Value).Type", "(internal/reflectlite.Value).IsNil", "internal/reflectlite.TypeOf", "(internal/reflectlite.Value).Elem", "(internal/reflectlite.Value).Set"], unfollowed := true, recurses := true, named := ["internal/bytealg.MaxLen", "warrant/utf.firstMarks", "errors.errorType"], apart := false, laid := [("errors.errorType", laid_errors_errorType), ("warrant/utf.firstMarks", laid_warrant_utf_firstMarks)], narrowed := true }
def PolParsesUptoSaid : Prop := polParsesUptoRow.holds Tryz.pinned (OpenSpec.upto polParsesSpec)

/-- 'warrantlaw12.PolPrints', WHERE WHAT IT READS IS OF BULK AT MOST 1048576: true; the input reads as it did. -/
def polPrintsUptoRow : OpenClaim := { program := "ytcjfealalokjaaagreatdoor", sum := "155162b4ce67c3c90975d79e3f6391efa15aa7126630943dc6165bea05a7f303", func := "warrant/warrantlaw12.PolPrints", spec := "polPrints", inPlace := ["internal/bytealg.IndexByteString", "internal/bytealg.IndexString", "internal/abi.NoEscape", "internal/reflectlite.ValueOf", "(internal/reflectlite.Value).Type", "(internal/reflectlite.Value).IsNil", "internal/reflectlite.TypeOf", "(internal/reflectlite.Value).Elem", "(internal/reflectlite.Value).Set"], unfollowed := true, recurses := true, named := ["internal/bytealg.MaxLen", "warrant/utf.firstMarks", "errors.errorType"], loops := true, apart := false, laid := [("errors.errorType", laid_errors_errorType), ("warrant/utf.firstMarks", laid_warrant_utf_firstMarks)], narrowed := true }
def PolPrintsUptoSaid : Prop := polPrintsUptoRow.holds Tryz.pinned (OpenSpec.upto polPrintsSpec)

/-- 'warrantlaw12.PolSame', WHERE WHAT IT READS IS OF BULK AT MOST 1048576: true; the input reads as it did. -/
def polSameUptoRow : OpenClaim := { program := "ytcjfealalokjaaagreatdoor", sum := "155162b4ce67c3c90975d79e3f6391efa15aa7126630943dc6165bea05a7f303", func := "warrant/warrantlaw12.PolSame", spec := "polSame", inPlace := ["internal/bytealg.IndexByteString", "internal/bytealg.IndexString", "internal/abi.NoEscape"], unfollowed := true, recurses := true, named := ["internal/bytealg.MaxLen", "warrant/utf.firstMarks"], loops := true, apart := false, laid := [("warrant/utf.firstMarks", laid_warrant_utf_firstMarks)], narrowed := true }
def PolSameUptoSaid : Prop := polSameUptoRow.holds Tryz.pinned (OpenSpec.upto polSameSpec)

/-- 'warrantlaw12.PolJoins', WHERE WHAT IT READS IS OF BULK AT MOST 1048576: true; the input reads as it did. -/
def polJoinsUptoRow : OpenClaim := { program := "ytcjfealalokjaaagreatdoor", sum := "155162b4ce67c3c90975d79e3f6391efa15aa7126630943dc6165bea05a7f303", func := "warrant/warrantlaw12.PolJoins", spec := "polJoins", inPlace := ["internal/bytealg.IndexByteString", "internal/bytealg.IndexString", "internal/abi.NoEscape", "internal/reflectlite.ValueOf", "(internal/reflectlite.Value).Type", "(internal/reflectlite.Value).IsNil", "internal/reflectlite.TypeOf", "(internal/reflectlite.Value).Elem", "(internal/reflectlite.Value).Set"], unfollowed := true, recurses := true, named := ["internal/bytealg.MaxLen", "warrant/utf.firstMarks", "errors.errorType"], apart := false, laid := [("errors.errorType", laid_errors_errorType), ("warrant/utf.firstMarks", laid_warrant_utf_firstMarks)], narrowed := true }
def PolJoinsUptoSaid : Prop := polJoinsUptoRow.holds Tryz.pinned (OpenSpec.upto polJoinsSpec)

/-- 'warrantlaw13.CheckKinds', WHERE WHAT IT READS IS OF BULK AT MOST 1048576: true; the input reads as it did. -/
def checkKindsUptoRow : OpenClaim := { program := "ytcjfealalokjaaagreatdoor", sum := "155162b4ce67c3c90975d79e3f6391efa15aa7126630943dc6165bea05a7f303", func := "warrant/warrantlaw13.CheckKinds", spec := "checkKinds", inPlace := ["internal/bytealg.IndexByteString", "internal/bytealg.IndexString", "internal/abi.NoEscape", "internal/reflectlite.ValueOf", "(internal/reflectlite.Value).Type", "(internal/reflectlite.Value).IsNil", "internal/reflectlite.TypeOf", "(internal/reflectlite.Value).Elem", "(internal/reflectlite.Value).Set"], unfollowed := true, recurses := true, named := ["internal/bytealg.MaxLen", "warrant/utf.firstMarks", "errors.errorType"], loops := true, apart := false, laid := [("errors.errorType", laid_errors_errorType), ("warrant/utf.firstMarks", laid_warrant_utf_firstMarks)], narrowed := true }
def CheckKindsUptoSaid : Prop := checkKindsUptoRow.holds Tryz.pinned (OpenSpec.upto checkKindsSpec)

/-- 'warrantlaw13.CheckAlone', WHERE WHAT IT READS IS OF BULK AT MOST 1048576: true; the input reads as it did. -/
def checkAloneUptoRow : OpenClaim := { program := "ytcjfealalokjaaagreatdoor", sum := "155162b4ce67c3c90975d79e3f6391efa15aa7126630943dc6165bea05a7f303", func := "warrant/warrantlaw13.CheckAlone", spec := "checkAlone", inPlace := ["internal/bytealg.IndexByteString", "internal/bytealg.IndexString", "internal/abi.NoEscape", "internal/reflectlite.ValueOf", "(internal/reflectlite.Value).Type", "(internal/reflectlite.Value).IsNil", "internal/reflectlite.TypeOf", "(internal/reflectlite.Value).Elem", "(internal/reflectlite.Value).Set"], unfollowed := true, recurses := true, named := ["internal/bytealg.MaxLen", "warrant/utf.firstMarks", "errors.errorType"], loops := true, apart := false, laid := [("errors.errorType", laid_errors_errorType), ("warrant/utf.firstMarks", laid_warrant_utf_firstMarks)], narrowed := true }
def CheckAloneUptoSaid : Prop := checkAloneUptoRow.holds Tryz.pinned (OpenSpec.upto checkAloneSpec)

end Rows
end Go.Proofs.YtcjfealalokjaaaGreatDoor
