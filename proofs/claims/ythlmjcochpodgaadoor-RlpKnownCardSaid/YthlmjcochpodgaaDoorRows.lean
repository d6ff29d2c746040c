/-
  NARROWER THAN 'FOR EVERY INPUT', by the rows' own cells (each row's printed sentence says how): RlpKnown: laid · RlpCuts: loops, laid · RlpLists: loops, laid · RlpApart: loops, laid · RlpEncodes: loops, laid · RlpDecodes: laid · RlpBack: loops, laid · RlpNumbers: loops, laid.
  DERIVED. THE GIVEN ROWS OF THIS SEAT. 8 by the template 'for every input the law returns true; each argument reads behind the call as it read before'; 0 by the template 'total and deterministic' (their statements: YthlmjcochpodgaaDoorTotals.lean).
  GIVEN WITH THE SEED: the statements are not yours to turn. If you find one false, say at which input.
  Laid BY PROGRAM, IN A SANDBOX (cutbox-rows.mjs): the forced cells as the released guide's own fill.sh prints them over the translation a2425b72cd9b698f… (all of the seat's roots in one cut). By AI agents, Wed Nov 11 2026. No macro, syntax, notation, axiom, sorry.
-/
import Derived.Test.YthlmjcochpodgaaDoorChecked
import GoSem.Claim
import GoSem.ClaimJoined
import GoSem.ClaimMapViews
import Derived.JoinedTies
import Derived.KernelRfl
namespace Go.Proofs.YthlmjcochpodgaaDoor
/- THE CELL 'sum', in the pinned program and in every row, IS THE sha256 OF THE DUMP (.gsa) THAT YthlmjcochpodgaaDoorProg.lean LOADS. Nothing in Lean hashes anything: it is a label: what it is worth is what the hold of that sum in a sandbox is worth. -/
noncomputable def Tryd.pinned : Pinned := { name := "ythlmjcochpodgaadoor", sum := "a2425b72cd9b698fca516ea9e3530f39881f667b5547c6ec9913596ea3b4f64b", checked := Tryd.checked }
namespace Rows
def none {H : Type} : Left H := { results := [], args := [] }

/- WHAT THE LISTED PACKAGE-LEVEL VARIABLES READ AS WHEN THE CALL BEGINS. Each datum BY PROGRAM (the guide's laid-datum.mjs) off the statement by which the dump's own 'gosem.cut.vars' lays the variable. In a bare row this is a premise. The card (YthlmjcochpodgaaDoorCards.lean) ties it to the program's text. -/
def laid_errors_errorType {H : Type} : DataW H := .iface "internal/reflectlite.rtype" (.agg [.ptr (.lit (.string [101, 114, 114, 111, 114]))])

/-- 'mootlaw03.RlpKnown': WHATEVER THE INPUT: true; the input reads as it did. -/
def rlpKnownSpec : ChangeSpec := { name := "rlpKnown", fn := fun _ => fun
  | [] => { results := [.lit (.bool true)], args := [] }
  | _ => none }
def rlpKnownRow : OpenClaim := { program := "ythlmjcochpodgaadoor", sum := "a2425b72cd9b698fca516ea9e3530f39881f667b5547c6ec9913596ea3b4f64b", func := "moot/mootlaw03.RlpKnown", spec := "rlpKnown", inPlace := ["internal/reflectlite.ValueOf", "(internal/reflectlite.Value).Type", "(internal/reflectlite.Value).IsNil", "internal/reflectlite.TypeOf", "(internal/reflectlite.Value).Elem", "(internal/reflectlite.Value).Set"], unfollowed := true, recurses := true, named := ["errors.errorType"], apart := false, laid := [("errors.errorType", laid_errors_errorType)] }
def RlpKnownSaid : Prop := rlpKnownRow.holds Tryd.pinned (OpenSpec.ofChange rlpKnownSpec)

/-- ITS FALSE NEIGHBOUR: 'it returns false'. Refute it at one input. -/
def rlpKnownWrong : ChangeSpec := { name := "rlpKnown", fn := fun _ => fun
  | [] => { results := [.lit (.bool false)], args := [] }
  | _ => none }
def RlpKnownWrongFalsely : Prop := rlpKnownRow.holds Tryd.pinned (OpenSpec.ofChange rlpKnownWrong)

/-- 'mootlaw03.RlpCuts': WHATEVER THE INPUT: true; the input reads as it did. -/
def rlpCutsSpec : ChangeSpec := { name := "rlpCuts", fn := fun _ => fun
  | [d1, d2, d3] => { results := [.lit (.bool true)], args := [d1, d2, d3] }
  | _ => none }
def rlpCutsRow : OpenClaim := { program := "ythlmjcochpodgaadoor", sum := "a2425b72cd9b698fca516ea9e3530f39881f667b5547c6ec9913596ea3b4f64b", func := "moot/mootlaw03.RlpCuts", spec := "rlpCuts", inPlace := ["internal/reflectlite.ValueOf", "(internal/reflectlite.Value).Type", "(internal/reflectlite.Value).IsNil", "internal/reflectlite.TypeOf", "(internal/reflectlite.Value).Elem", "(internal/reflectlite.Value).Set"], unfollowed := true, recurses := true, named := ["errors.errorType"], loops := true, apart := false, laid := [("errors.errorType", laid_errors_errorType)] }
def RlpCutsSaid : Prop := rlpCutsRow.holds Tryd.pinned (OpenSpec.ofChange rlpCutsSpec)

/-- ITS FALSE NEIGHBOUR: 'it returns false'. Refute it at one input. -/
def rlpCutsWrong : ChangeSpec := { name := "rlpCuts", fn := fun _ => fun
  | [d1, d2, d3] => { results := [.lit (.bool false)], args := [d1, d2, d3] }
  | _ => none }
def RlpCutsWrongFalsely : Prop := rlpCutsRow.holds Tryd.pinned (OpenSpec.ofChange rlpCutsWrong)

/-- 'mootlaw03.RlpLists': WHATEVER THE INPUT: true; the input reads as it did. -/
def rlpListsSpec : ChangeSpec := { name := "rlpLists", fn := fun _ => fun
  | [d] => { results := [.lit (.bool true)], args := [d] }
  | _ => none }
def rlpListsRow : OpenClaim := { program := "ythlmjcochpodgaadoor", sum := "a2425b72cd9b698fca516ea9e3530f39881f667b5547c6ec9913596ea3b4f64b", func := "moot/mootlaw03.RlpLists", spec := "rlpLists", inPlace := ["internal/reflectlite.ValueOf", "(internal/reflectlite.Value).Type", "(internal/reflectlite.Value).IsNil", "internal/reflectlite.TypeOf", "(internal/reflectlite.Value).Elem", "(internal/reflectlite.Value).Set"], unfollowed := true, recurses := true, named := ["errors.errorType"], loops := true, apart := false, laid := [("errors.errorType", laid_errors_errorType)] }
def RlpListsSaid : Prop := rlpListsRow.holds Tryd.pinned (OpenSpec.ofChange rlpListsSpec)

/-- ITS FALSE NEIGHBOUR: 'it returns false'. Refute it at one input. -/
def rlpListsWrong : ChangeSpec := { name := "rlpLists", fn := fun _ => fun
  | [d] => { results := [.lit (.bool false)], args := [d] }
  | _ => none }
def RlpListsWrongFalsely : Prop := rlpListsRow.holds Tryd.pinned (OpenSpec.ofChange rlpListsWrong)

/-- 'mootlaw03.RlpApart': WHATEVER THE INPUT: true; the input reads as it did. -/
def rlpApartSpec : ChangeSpec := { name := "rlpApart", fn := fun _ => fun
  | [d1, d2] => { results := [.lit (.bool true)], args := [d1, d2] }
  | _ => none }
def rlpApartRow : OpenClaim := { program := "ythlmjcochpodgaadoor", sum := "a2425b72cd9b698fca516ea9e3530f39881f667b5547c6ec9913596ea3b4f64b", func := "moot/mootlaw03.RlpApart", spec := "rlpApart", inPlace := ["internal/reflectlite.ValueOf", "(internal/reflectlite.Value).Type", "(internal/reflectlite.Value).IsNil", "internal/reflectlite.TypeOf", "(internal/reflectlite.Value).Elem", "(internal/reflectlite.Value).Set"], unfollowed := true, recurses := true, named := ["errors.errorType"], loops := true, apart := false, laid := [("errors.errorType", laid_errors_errorType)] }
def RlpApartSaid : Prop := rlpApartRow.holds Tryd.pinned (OpenSpec.ofChange rlpApartSpec)

/-- ITS FALSE NEIGHBOUR: 'it returns false'. Refute it at one input. -/
def rlpApartWrong : ChangeSpec := { name := "rlpApart", fn := fun _ => fun
  | [d1, d2] => { results := [.lit (.bool false)], args := [d1, d2] }
  | _ => none }
def RlpApartWrongFalsely : Prop := rlpApartRow.holds Tryd.pinned (OpenSpec.ofChange rlpApartWrong)

/-- 'mootlaw03.RlpEncodes': WHATEVER THE INPUT: true; the input reads as it did. -/
def rlpEncodesSpec : ChangeSpec := { name := "rlpEncodes", fn := fun _ => fun
  | [d] => { results := [.lit (.bool true)], args := [d] }
  | _ => none }
def rlpEncodesRow : OpenClaim := { program := "ythlmjcochpodgaadoor", sum := "a2425b72cd9b698fca516ea9e3530f39881f667b5547c6ec9913596ea3b4f64b", func := "moot/mootlaw03.RlpEncodes", spec := "rlpEncodes", inPlace := ["internal/reflectlite.ValueOf", "(internal/reflectlite.Value).Type", "(internal/reflectlite.Value).IsNil", "internal/reflectlite.TypeOf", "(internal/reflectlite.Value).Elem", "(internal/reflectlite.Value).Set"], unfollowed := true, recurses := true, named := ["errors.errorType"], loops := true, apart := false, laid := [("errors.errorType", laid_errors_errorType)] }
def RlpEncodesSaid : Prop := rlpEncodesRow.holds Tryd.pinned (OpenSpec.ofChange rlpEncodesSpec)

/-- ITS FALSE NEIGHBOUR: 'it returns false'. Refute it at one input. -/
def rlpEncodesWrong : ChangeSpec := { name := "rlpEncodes", fn := fun _ => fun
  | [d] => { results := [.lit (.bool false)], args := [d] }
  | _ => none }
def RlpEncodesWrongFalsely : Prop := rlpEncodesRow.holds Tryd.pinned (OpenSpec.ofChange rlpEncodesWrong)

/-- 'mootlaw03.RlpDecodes': WHATEVER THE INPUT: true; the input reads as it did. -/
def rlpDecodesSpec : ChangeSpec := { name := "rlpDecodes", fn := fun _ => fun
  | [d] => { results := [.lit (.bool true)], args := [d] }
  | _ => none }
def rlpDecodesRow : OpenClaim := { program := "ythlmjcochpodgaadoor", sum := "a2425b72cd9b698fca516ea9e3530f39881f667b5547c6ec9913596ea3b4f64b", func := "moot/mootlaw03.RlpDecodes", spec := "rlpDecodes", inPlace := ["internal/reflectlite.ValueOf", "(internal/reflectlite.Value).Type", "(internal/reflectlite.Value).IsNil", "internal/reflectlite.TypeOf", "(internal/reflectlite.Value).Elem", "(internal/reflectlite.Value).Set"], unfollowed := true, recurses := true, named := ["errors.errorType"], apart := false, laid := [("errors.errorType", laid_errors_errorType)] }
def RlpDecodesSaid : Prop := rlpDecodesRow.holds Tryd.pinned (OpenSpec.ofChange rlpDecodesSpec)

/-- ITS FALSE NEIGHBOUR: 'it returns false'. Refute it at one input. -/
def rlpDecodesWrong : ChangeSpec := { name := "rlpDecodes", fn := fun _ => fun
  | [d] => { results := [.lit (.bool false)], args := [d] }
  | _ => none }
def RlpDecodesWrongFalsely : Prop := rlpDecodesRow.holds Tryd.pinned (OpenSpec.ofChange rlpDecodesWrong)

/-- 'mootlaw03.RlpBack': WHATEVER THE INPUT: true; the input reads as it did. -/
def rlpBackSpec : ChangeSpec := { name := "rlpBack", fn := fun _ => fun
  | [d1, d2, d3] => { results := [.lit (.bool true)], args := [d1, d2, d3] }
  | _ => none }
def rlpBackRow : OpenClaim := { program := "ythlmjcochpodgaadoor", sum := "a2425b72cd9b698fca516ea9e3530f39881f667b5547c6ec9913596ea3b4f64b", func := "moot/mootlaw03.RlpBack", spec := "rlpBack", inPlace := ["internal/reflectlite.ValueOf", "(internal/reflectlite.Value).Type", "(internal/reflectlite.Value).IsNil", "internal/reflectlite.TypeOf", "(internal/reflectlite.Value).Elem", "(internal/reflectlite.Value).Set"], unfollowed := true, recurses := true, named := ["errors.errorType"], loops := true, apart := false, laid := [("errors.errorType", laid_errors_errorType)] }
def RlpBackSaid : Prop := rlpBackRow.holds Tryd.pinned (OpenSpec.ofChange rlpBackSpec)

/-- ITS FALSE NEIGHBOUR: 'it returns false'. Refute it at one input. -/
def rlpBackWrong : ChangeSpec := { name := "rlpBack", fn := fun _ => fun
  | [d1, d2, d3] => { results := [.lit (.bool false)], args := [d1, d2, d3] }
  | _ => none }
def RlpBackWrongFalsely : Prop := rlpBackRow.holds Tryd.pinned (OpenSpec.ofChange rlpBackWrong)

/-- 'mootlaw03.RlpNumbers': WHATEVER THE INPUT: true; the input reads as it did. -/
def rlpNumbersSpec : ChangeSpec := { name := "rlpNumbers", fn := fun _ => fun
  | [d1, d2] => { results := [.lit (.bool true)], args := [d1, d2] }
  | _ => none }
def rlpNumbersRow : OpenClaim := { program := "ythlmjcochpodgaadoor", sum := "a2425b72cd9b698fca516ea9e3530f39881f667b5547c6ec9913596ea3b4f64b", func := "moot/mootlaw03.RlpNumbers", spec := "rlpNumbers", inPlace := ["internal/reflectlite.ValueOf", "(internal/reflectlite.Value).Type", "(internal/reflectlite.Value).IsNil", "internal/reflectlite.TypeOf", "(internal/reflectlite.Value).Elem", "(internal/reflectlite.Value).Set"], unfollowed := true, recurses := true, named := ["errors.errorType"], loops := true, apart := false, laid := [("errors.errorType", laid_errors_errorType)] }
def RlpNumbersSaid : Prop := rlpNumbersRow.holds Tryd.pinned (OpenSpec.ofChange rlpNumbersSpec)

/-- ITS FALSE NEIGHBOUR: 'it returns false'. Refute it at one input. -/
def rlpNumbersWrong : ChangeSpec := { name := "rlpNumbers", fn := fun _ => fun
  | [d1, d2] => { results := [.lit (.bool false)], args := [d1, d2] }
  | _ => none }
def RlpNumbersWrongFalsely : Prop := rlpNumbersRow.holds Tryd.pinned (OpenSpec.ofChange rlpNumbersWrong)

/- THE SECOND FORM. 'bulk': how many values and letters a reading holds, each counted each time it is reached (what is shared counts as often as it is met; a slice's spare places count too). A statement '..UptoSaid' is the law's where the arguments, and the package variables that the reading takes, are together of bulk at most 1048576: NARROWER than '..Said'. Prove '..Said' where nothing that the law and all that it calls make is longer than what came in: it says more and counts as full. Else prove '..UptoSaid'. A law counts once. -/
mutual
def uptoBulk {H : Type} : DataW H → Nat
  | .lit (.string bytes) => bytes.length + 1
  | .lit _ => 1
  | .nil => 1
  | .ptr d => uptoBulk d + 1
  | .slice elems spare => uptoBulkAll elems + uptoBulkAll spare + 1
  | .agg parts => uptoBulkAll parts + 1
  | .iface _ d => uptoBulk d + 1
  | .map entries => uptoBulkEntries entries + 1
  | .held _ => 1
def uptoBulkAll {H : Type} : List (DataW H) → Nat
  | [] => 0
  | d :: r => uptoBulk d + uptoBulkAll r
def uptoBulkEntries {H : Type} : List (Lit × DataW H) → Nat
  | [] => 0
  | x :: r => uptoBulkEntry x + uptoBulkEntries r
def uptoBulkEntry {H : Type} : Lit × DataW H → Nat
  | (.string bytes, d) => bytes.length + uptoBulk d + 1
  | (_, d) => uptoBulk d + 1
 end
def uptoSmall : (H : Type) → List (DataW H) → Bool := fun _ ds => decide (uptoBulkAll ds ≤ 1048576)
def OpenSpec.upto (s : _root_.Go.ChangeSpec) : _root_.Go.OpenSpec := { _root_.Go.OpenSpec.ofChange s with cond := some uptoSmall }

/-- 'mootlaw03.RlpKnown', WHERE WHAT IT READS IS OF BULK AT MOST 1048576: true; the input reads as it did. -/
def rlpKnownUptoRow : OpenClaim := { program := "ythlmjcochpodgaadoor", sum := "a2425b72cd9b698fca516ea9e3530f39881f667b5547c6ec9913596ea3b4f64b", func := "moot/mootlaw03.RlpKnown", spec := "rlpKnown", inPlace := ["internal/reflectlite.ValueOf", "(internal/reflectlite.Value).Type", "(internal/reflectlite.Value).IsNil", "internal/reflectlite.TypeOf", "(internal/reflectlite.Value).Elem", "(internal/reflectlite.Value).Set"], unfollowed := true, recurses := true, named := ["errors.errorType"], apart := false, laid := [("errors.errorType", laid_errors_errorType)], narrowed := true }
def RlpKnownUptoSaid : Prop := rlpKnownUptoRow.holds Tryd.pinned (OpenSpec.upto rlpKnownSpec)

/-- 'mootlaw03.RlpCuts', WHERE WHAT IT READS IS OF BULK AT MOST 1048576: true; the input reads as it did. -/
def rlpCutsUptoRow : OpenClaim := { program := "ythlmjcochpodgaadoor", sum := "a2425b72cd9b698fca516ea9e3530f39881f667b5547c6ec9913596ea3b4f64b", func := "moot/mootlaw03.RlpCuts", spec := "rlpCuts", inPlace := ["internal/reflectlite.ValueOf", "(internal/reflectlite.Value).Type", "(internal/reflectlite.Value).IsNil", "internal/reflectlite.TypeOf", "(internal/reflectlite.Value).Elem", "(internal/reflectlite.Value).Set"], unfollowed := true, recurses := true, named := ["errors.errorType"], loops := true, apart := false, laid := [("errors.errorType", laid_errors_errorType)], narrowed := true }
def RlpCutsUptoSaid : Prop := rlpCutsUptoRow.holds Tryd.pinned (OpenSpec.upto rlpCutsSpec)

/-- 'mootlaw03.RlpLists', WHERE WHAT IT READS IS OF BULK AT MOST 1048576: true; the input reads as it did. -/
def rlpListsUptoRow : OpenClaim := { program := "ythlmjcochpodgaadoor", sum := "a2425b72cd9b698fca516ea9e3530f39881f667b5547c6ec9913596ea3b4f64b", func := "moot/mootlaw03.RlpLists", spec := "rlpLists", inPlace := ["internal/reflectlite.ValueOf", "(internal/reflectlite.Value).Type", "(internal/reflectlite.Value).IsNil", "internal/reflectlite.TypeOf", "(internal/reflectlite.Value).Elem", "(internal/reflectlite.Value).Set"], unfollowed := true, recurses := true, named := ["errors.errorType"], loops := true, apart := false, laid := [("errors.errorType", laid_errors_errorType)], narrowed := true }
def RlpListsUptoSaid : Prop := rlpListsUptoRow.holds Tryd.pinned (OpenSpec.upto rlpListsSpec)

/-- 'mootlaw03.RlpApart', WHERE WHAT IT READS IS OF BULK AT MOST 1048576: true; the input reads as it did. -/
def rlpApartUptoRow : OpenClaim := { program := "ythlmjcochpodgaadoor", sum := "a2425b72cd9b698fca516ea9e3530f39881f667b5547c6ec9913596ea3b4f64b", func := "moot/mootlaw03.RlpApart", spec := "rlpApart", inPlace := ["internal/reflectlite.ValueOf", "(internal/reflectlite.Value).Type", "(internal/reflectlite.Value).IsNil", "internal/reflectlite.TypeOf", "(internal/reflectlite.Value).Elem", "(internal/reflectlite.Value).Set"], unfollowed := true, recurses := true, named := ["errors.errorType"], loops := true, apart := false, laid := [("errors.errorType", laid_errors_errorType)], narrowed := true }
def RlpApartUptoSaid : Prop := rlpApartUptoRow.holds Tryd.pinned (OpenSpec.upto rlpApartSpec)

/-- 'mootlaw03.RlpEncodes', WHERE WHAT IT READS IS OF BULK AT MOST 1048576: true; the input reads as it did. -/
def rlpEncodesUptoRow : OpenClaim := { program := "ythlmjcochpodgaadoor", sum := "a2425b72cd9b698fca516ea9e3530f39881f667b5547c6ec9913596ea3b4f64b", func := "moot/mootlaw03.RlpEncodes", spec := "rlpEncodes", inPlace := ["internal/reflectlite.ValueOf", "(internal/reflectlite.Value).Type", "(internal/reflectlite.Value).IsNil", "internal/reflectlite.TypeOf", "(internal/reflectlite.Value).Elem", "(internal/reflectlite.Value).Set"], unfollowed := true, recurses := true, named := ["errors.errorType"], loops := true, apart := false, laid := [("errors.errorType", laid_errors_errorType)], narrowed := true }
def RlpEncodesUptoSaid : Prop := rlpEncodesUptoRow.holds Tryd.pinned (OpenSpec.upto rlpEncodesSpec)

/-- 'mootlaw03.RlpDecodes', WHERE WHAT IT READS IS OF BULK AT MOST 1048576: true; the input reads as it did. -/
def rlpDecodesUptoRow : OpenClaim := { program := "ythlmjcochpodgaadoor", sum := "a2425b72cd9b698fca516ea9e3530f39881f667b5547c6ec9913596ea3b4f64b", func := "moot/mootlaw03.RlpDecodes", spec := "rlpDecodes", inPlace := ["internal/reflectlite.ValueOf", "(internal/reflectlite.Value).Type", "(internal/reflectlite.Value).IsNil", "internal/reflectlite.TypeOf", "(internal/reflectlite.Value).Elem", "(internal/reflectlite.Value).Set"], unfollowed := true, recurses := true, named := ["errors.errorType"], apart := false, laid := [("errors.errorType", laid_errors_errorType)], narrowed := true }
def RlpDecodesUptoSaid : Prop := rlpDecodesUptoRow.holds Tryd.pinned (OpenSpec.upto rlpDecodesSpec)

/-- 'mootlaw03.RlpBack', WHERE WHAT IT READS IS OF BULK AT MOST 1048576: true; the input reads as it did. -/
def rlpBackUptoRow : OpenClaim := { program := "ythlmjcochpodgaadoor", sum := "a2425b72cd9b698fca516ea9e3530f39881f667b5547c6ec9913596ea3b4f64b", func := "moot/mootlaw03.RlpBack", spec := "rlpBack", inPlace := ["internal/reflectlite.ValueOf", "(internal/reflectlite.Value).Type", "(internal/reflectlite.Value).IsNil", "internal/reflectlite.TypeOf", "(internal/reflectlite.Value).Elem", "(internal/reflectlite.Value).Set"], unfollowed := true, recurses := true, named := ["errors.errorType"], loops := true, apart := false, laid := [("errors.errorType", laid_errors_errorType)], narrowed := true }
def RlpBackUptoSaid : Prop := rlpBackUptoRow.holds Tryd.pinned (OpenSpec.upto rlpBackSpec)

/-- 'mootlaw03.RlpNumbers', WHERE WHAT IT READS IS OF BULK AT MOST 1048576: true; the input reads as it did. -/
def rlpNumbersUptoRow : OpenClaim := { program := "ythlmjcochpodgaadoor", sum := "a2425b72cd9b698fca516ea9e3530f39881f667b5547c6ec9913596ea3b4f64b", func := "moot/mootlaw03.RlpNumbers", spec := "rlpNumbers", inPlace := ["internal/reflectlite.ValueOf", "(internal/reflectlite.Value).Type", "(internal/reflectlite.Value).IsNil", "internal/reflectlite.TypeOf", "(internal/reflectlite.Value).Elem", "(internal/reflectlite.Value).Set"], unfollowed := true, recurses := true, named := ["errors.errorType"], loops := true, apart := false, laid := [("errors.errorType", laid_errors_errorType)], narrowed := true }
def RlpNumbersUptoSaid : Prop := rlpNumbersUptoRow.holds Tryd.pinned (OpenSpec.upto rlpNumbersSpec)

end Rows
end Go.Proofs.YthlmjcochpodgaaDoor
