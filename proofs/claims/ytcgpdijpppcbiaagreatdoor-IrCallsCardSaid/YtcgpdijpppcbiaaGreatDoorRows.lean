/-
  NARROWER THAN 'FOR EVERY INPUT', by the rows' own cells (each row's printed sentence says how): IrCalls: laid · IrFuel: loops, laid.
  DERIVED. THE GIVEN ROWS OF THIS SEAT. 2 by the template 'for every input the law returns true; each argument reads behind the call as it read before'; 0 by the template 'total and deterministic' (their statements: YtcgpdijpppcbiaaGreatDoorTotals.lean).
  GIVEN WITH THE SEED: the statements are not yours to turn. If you find one false, say at which input.
  Laid BY PROGRAM, IN A SANDBOX (cutbox-rows.mjs): the forced cells as the released guide's own fill.sh prints them over the translation 07cff2726696f7b9… (all of the seat's roots in one cut). By AI agents, Wed Nov 11 2026. No macro, syntax, notation, axiom, sorry.
-/
import Derived.Test.YtcgpdijpppcbiaaGreatDoorChecked
import GoSem.Claim
import GoSem.ClaimJoined
import GoSem.ClaimMapViews
import Derived.JoinedTies
import Derived.KernelRfl
namespace Go.Proofs.YtcgpdijpppcbiaaGreatDoor
/- THE CELL 'sum', in the pinned program and in every row, IS THE sha256 OF THE DUMP (.gsa) THAT YtcgpdijpppcbiaaGreatDoorProg.lean LOADS. Nothing in Lean hashes anything: it is a label: what it is worth is what the hold of that sum in a sandbox is worth. -/
noncomputable def Tryz.pinned : Pinned := { name := "ytcgpdijpppcbiaagreatdoor", sum := "07cff2726696f7b975719425853911e08696e2bb7c0ebb1638120a245452b516", checked := Tryz.checked }
namespace Rows
def none {H : Type} : Left H := { results := [], args := [] }

/- WHAT THE LISTED PACKAGE-LEVEL VARIABLES READ AS WHEN THE CALL BEGINS. Each datum BY PROGRAM (the guide's laid-datum.mjs) off the statement by which the dump's own 'gosem.cut.vars' lays the variable. In a bare row this is a premise. The card (YtcgpdijpppcbiaaGreatDoorCards.lean) ties it to the program's text. -/
def laid_moot_keccak_constants {H : Type} : DataW H := .agg [.lit (.int .u64 1), .lit (.int .u64 32898), .lit (.int .u64 9223372036854808714), .lit (.int .u64 9223372039002292224), .lit (.int .u64 32907), .lit (.int .u64 2147483649), .lit (.int .u64 9223372039002292353), .lit (.int .u64 9223372036854808585), .lit (.int .u64 138), .lit (.int .u64 136), .lit (.int .u64 2147516425), .lit (.int .u64 2147483658), .lit (.int .u64 2147516555), .lit (.int .u64 9223372036854775947), .lit (.int .u64 9223372036854808713), .lit (.int .u64 9223372036854808579), .lit (.int .u64 9223372036854808578), .lit (.int .u64 9223372036854775936), .lit (.int .u64 32778), .lit (.int .u64 9223372039002259466), .lit (.int .u64 9223372039002292353), .lit (.int .u64 9223372036854808704), .lit (.int .u64 2147483649), .lit (.int .u64 9223372039002292232)]

/-- 'mootlaw12.IrCalls': WHATEVER THE INPUT: true; the input reads as it did. -/
def irCallsSpec : ChangeSpec := { name := "irCalls", fn := fun _ => fun
  | [d1, d2, d3, d4] => { results := [.lit (.bool true)], args := [d1, d2, d3, d4] }
  | _ => none }
def irCallsRow : OpenClaim := { program := "ytcgpdijpppcbiaagreatdoor", sum := "07cff2726696f7b975719425853911e08696e2bb7c0ebb1638120a245452b516", func := "moot/mootlaw12.IrCalls", spec := "irCalls", inPlace := ["math/bits.Add64", "internal/reflectlite.TypeOf"], unfollowed := true, recurses := true, named := ["moot/keccak.constants", "math/bits.divideError", "math/bits.overflowError"], plainKeys := false, apart := false, laid := [("moot/keccak.constants", laid_moot_keccak_constants)] }
def IrCallsSaid : Prop := irCallsRow.holds Tryz.pinned (OpenSpec.ofChange irCallsSpec)

/-- ITS FALSE NEIGHBOUR: 'it returns false'. Refute it at one input. -/
def irCallsWrong : ChangeSpec := { name := "irCalls", fn := fun _ => fun
  | [d1, d2, d3, d4] => { results := [.lit (.bool false)], args := [d1, d2, d3, d4] }
  | _ => none }
def IrCallsWrongFalsely : Prop := irCallsRow.holds Tryz.pinned (OpenSpec.ofChange irCallsWrong)

/-- 'mootlaw12.IrFuel': WHATEVER THE INPUT: true; the input reads as it did. -/
def irFuelSpec : ChangeSpec := { name := "irFuel", fn := fun _ => fun
  | [d1, d2, d3, d4] => { results := [.lit (.bool true)], args := [d1, d2, d3, d4] }
  | _ => none }
def irFuelRow : OpenClaim := { program := "ytcgpdijpppcbiaagreatdoor", sum := "07cff2726696f7b975719425853911e08696e2bb7c0ebb1638120a245452b516", func := "moot/mootlaw12.IrFuel", spec := "irFuel", inPlace := ["math/bits.Add64", "internal/reflectlite.TypeOf"], unfollowed := true, recurses := true, named := ["moot/keccak.constants", "math/bits.divideError", "math/bits.overflowError"], loops := true, plainKeys := false, apart := false, laid := [("moot/keccak.constants", laid_moot_keccak_constants)] }
def IrFuelSaid : Prop := irFuelRow.holds Tryz.pinned (OpenSpec.ofChange irFuelSpec)

/-- ITS FALSE NEIGHBOUR: 'it returns false'. Refute it at one input. -/
def irFuelWrong : ChangeSpec := { name := "irFuel", fn := fun _ => fun
  | [d1, d2, d3, d4] => { results := [.lit (.bool false)], args := [d1, d2, d3, d4] }
  | _ => none }
def IrFuelWrongFalsely : Prop := irFuelRow.holds Tryz.pinned (OpenSpec.ofChange irFuelWrong)

/- THE SECOND FORM. 'bulk': how many values and letters a reading holds, each counted each time it is reached (what is shared counts as often as it is met; a slice's spare places count too). A statement '..UptoSaid' is the law's where the arguments, and the package variables that the reading takes, are together of bulk at most 1048576: NARROWER than '..Said'. Prove '..Said' where nothing that the law and all that it calls make is longer than what came in: it says more and counts as full. Else prove '..UptoSaid'. A law counts once. -/
mutual
def uptoBulk {H : Type} : DataW H → Nat
  | .lit (.string bytes) => bytes.length + 1
  | .lit _ => 1
  | .nil => 1
  | .ptr d => uptoBulk d + 1
  | .slice elems spare => uptoBulkAll elems + uptoBulkAll spare + 1
  | .agg parts => uptoBulkAll parts + 1
  | .iface _ d => uptoBulk d + 1
  | .map entries => uptoBulkEntries entries + 1
  | .held _ => 1
def uptoBulkAll {H : Type} : List (DataW H) → Nat
  | [] => 0
  | d :: r => uptoBulk d + uptoBulkAll r
def uptoBulkEntries {H : Type} : List (Lit × DataW H) → Nat
  | [] => 0
  | x :: r => uptoBulkEntry x + uptoBulkEntries r
def uptoBulkEntry {H : Type} : Lit × DataW H → Nat
  | (.string bytes, d) => bytes.length + uptoBulk d + 1
  | (_, d) => uptoBulk d + 1
 end
def uptoSmall : (H : Type) → List (DataW H) → Bool := fun _ ds => decide (uptoBulkAll ds ≤ 1048576)
def OpenSpec.upto (s : _root_.Go.ChangeSpec) : _root_.Go.OpenSpec := { _root_.Go.OpenSpec.ofChange s with cond := some uptoSmall }

/-- 'mootlaw12.IrCalls', WHERE WHAT IT READS IS OF BULK AT MOST 1048576: true; the input reads as it did. -/
def irCallsUptoRow : OpenClaim := { program := "ytcgpdijpppcbiaagreatdoor", sum := "07cff2726696f7b975719425853911e08696e2bb7c0ebb1638120a245452b516", func := "moot/mootlaw12.IrCalls", spec := "irCalls", inPlace := ["math/bits.Add64", "internal/reflectlite.TypeOf"], unfollowed := true, recurses := true, named := ["moot/keccak.constants", "math/bits.divideError", "math/bits.overflowError"], plainKeys := false, apart := false, laid := [("moot/keccak.constants", laid_moot_keccak_constants)], narrowed := true }
def IrCallsUptoSaid : Prop := irCallsUptoRow.holds Tryz.pinned (OpenSpec.upto irCallsSpec)

/-- 'mootlaw12.IrFuel', WHERE WHAT IT READS IS OF BULK AT MOST 1048576: true; the input reads as it did. -/
def irFuelUptoRow : OpenClaim := { program := "ytcgpdijpppcbiaagreatdoor", sum := "07cff2726696f7b975719425853911e08696e2bb7c0ebb1638120a245452b516", func := "moot/mootlaw12.IrFuel", spec := "irFuel", inPlace := ["math/bits.Add64", "internal/reflectlite.TypeOf"], unfollowed := true, recurses := true, named := ["moot/keccak.constants", "math/bits.divideError", "math/bits.overflowError"], loops := true, plainKeys := false, apart := false, laid := [("moot/keccak.constants", laid_moot_keccak_constants)], narrowed := true }
def IrFuelUptoSaid : Prop := irFuelUptoRow.holds Tryz.pinned (OpenSpec.upto irFuelSpec)

end Rows
end Go.Proofs.YtcgpdijpppcbiaaGreatDoor
