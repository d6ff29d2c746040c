/-
  NARROWER THAN 'FOR EVERY INPUT', by the rows' own cells (each row's printed sentence says how): WitnessPlays: laid · WitnessNil: laid · WitnessTrees: laid · WitnessEnough: laid · WitnessApart: laid · VmStores: laid · VmOracle: laid · VmJumps: laid · VmRuns: laid · VmCodes: laid.
  DERIVED. THE GIVEN ROWS OF THIS SEAT. 10 by the template 'for every input the law returns true; each argument reads behind the call as it read before'; 0 by the template 'total and deterministic' (their statements: YtdmffnjbholkkaaDoorTotals.lean).
  GIVEN WITH THE SEED: the statements are not yours to turn. If you find one false, say at which input.
  Laid BY PROGRAM, IN A SANDBOX (cutbox-rows.mjs): the forced cells as the released guide's own fill.sh prints them over the translation 47fcf3e251acde18… (all of the seat's roots in one cut). By AI agents, Wed Nov 11 2026. No macro, syntax, notation, axiom, sorry.
-/
import Derived.Test.YtdmffnjbholkkaaDoorChecked
import GoSem.Claim
import GoSem.ClaimJoined
import GoSem.ClaimMapViews
import Derived.JoinedTies
import Derived.KernelRfl
namespace Go.Proofs.YtdmffnjbholkkaaDoor
/- THE CELL 'sum', in the pinned program and in every row, IS THE sha256 OF THE DUMP (.gsa) THAT YtdmffnjbholkkaaDoorProg.lean LOADS. Nothing in Lean hashes anything: it is a label: what it is worth is what the hold of that sum in a sandbox is worth. -/
noncomputable def Tryd.pinned : Pinned := { name := "ytdmffnjbholkkaadoor", sum := "47fcf3e251acde18f4aae5b39af9c6ed164223791d1586b4ba0d76e3969503a3", checked := Tryd.checked }
namespace Rows
def none {H : Type} : Left H := { results := [], args := [] }

/- WHAT THE LISTED PACKAGE-LEVEL VARIABLES READ AS WHEN THE CALL BEGINS. Each datum BY PROGRAM (the guide's laid-datum.mjs) off the statement by which the dump's own 'gosem.cut.vars' lays the variable. In a bare row this is a premise. The card (YtdmffnjbholkkaaDoorCards.lean) ties it to the program's text. -/
def laid_errors_errorType {H : Type} : DataW H := .iface "internal/reflectlite.rtype" (.agg [.ptr (.lit (.string [101, 114, 114, 111, 114]))])
def laid_moot_keccak_constants {H : Type} : DataW H := .agg [.lit (.int .u64 1), .lit (.int .u64 32898), .lit (.int .u64 9223372036854808714), .lit (.int .u64 9223372039002292224), .lit (.int .u64 32907), .lit (.int .u64 2147483649), .lit (.int .u64 9223372039002292353), .lit (.int .u64 9223372036854808585), .lit (.int .u64 138), .lit (.int .u64 136), .lit (.int .u64 2147516425), .lit (.int .u64 2147483658), .lit (.int .u64 2147516555), .lit (.int .u64 9223372036854775947), .lit (.int .u64 9223372036854808713), .lit (.int .u64 9223372036854808579), .lit (.int .u64 9223372036854808578), .lit (.int .u64 9223372036854775936), .lit (.int .u64 32778), .lit (.int .u64 9223372039002259466), .lit (.int .u64 9223372039002292353), .lit (.int .u64 9223372036854808704), .lit (.int .u64 2147483649), .lit (.int .u64 9223372039002292232)]

/-- 'mootlaw06.WitnessPlays': WHATEVER THE INPUT: true; the input reads as it did. -/
def witnessPlaysSpec : ChangeSpec := { name := "witnessPlays", fn := fun _ => fun
  | [d] => { results := [.lit (.bool true)], args := [d] }
  | _ => none }
def witnessPlaysRow : OpenClaim := { program := "ytdmffnjbholkkaadoor", sum := "47fcf3e251acde18f4aae5b39af9c6ed164223791d1586b4ba0d76e3969503a3", func := "moot/mootlaw06.WitnessPlays", spec := "witnessPlays", inPlace := ["internal/reflectlite.ValueOf", "(internal/reflectlite.Value).Type", "(internal/reflectlite.Value).IsNil", "internal/reflectlite.TypeOf", "(internal/reflectlite.Value).Elem", "(internal/reflectlite.Value).Set", "maps.clone"], unfollowed := true, recurses := true, named := ["moot/keccak.constants", "errors.errorType"], plainKeys := false, apart := false, laid := [("errors.errorType", laid_errors_errorType), ("moot/keccak.constants", laid_moot_keccak_constants)] }
def WitnessPlaysSaid : Prop := witnessPlaysRow.holds Tryd.pinned (OpenSpec.ofChange witnessPlaysSpec)

/-- ITS FALSE NEIGHBOUR: 'it returns false'. Refute it at one input. -/
def witnessPlaysWrong : ChangeSpec := { name := "witnessPlays", fn := fun _ => fun
  | [d] => { results := [.lit (.bool false)], args := [d] }
  | _ => none }
def WitnessPlaysWrongFalsely : Prop := witnessPlaysRow.holds Tryd.pinned (OpenSpec.ofChange witnessPlaysWrong)

/-- 'mootlaw06.WitnessNil': WHATEVER THE INPUT: true; the input reads as it did. -/
def witnessNilSpec : ChangeSpec := { name := "witnessNil", fn := fun _ => fun
  | [d1, d2, d3] => { results := [.lit (.bool true)], args := [d1, d2, d3] }
  | _ => none }
def witnessNilRow : OpenClaim := { program := "ytdmffnjbholkkaadoor", sum := "47fcf3e251acde18f4aae5b39af9c6ed164223791d1586b4ba0d76e3969503a3", func := "moot/mootlaw06.WitnessNil", spec := "witnessNil", inPlace := ["internal/reflectlite.TypeOf", "internal/reflectlite.ValueOf", "(internal/reflectlite.Value).Type", "(internal/reflectlite.Value).IsNil", "(internal/reflectlite.Value).Elem", "(internal/reflectlite.Value).Set", "maps.clone"], unfollowed := true, recurses := true, named := ["moot/keccak.constants", "errors.errorType"], plainKeys := false, apart := false, laid := [("errors.errorType", laid_errors_errorType), ("moot/keccak.constants", laid_moot_keccak_constants)] }
def WitnessNilSaid : Prop := witnessNilRow.holds Tryd.pinned (OpenSpec.ofChange witnessNilSpec)

/-- ITS FALSE NEIGHBOUR: 'it returns false'. Refute it at one input. -/
def witnessNilWrong : ChangeSpec := { name := "witnessNil", fn := fun _ => fun
  | [d1, d2, d3] => { results := [.lit (.bool false)], args := [d1, d2, d3] }
  | _ => none }
def WitnessNilWrongFalsely : Prop := witnessNilRow.holds Tryd.pinned (OpenSpec.ofChange witnessNilWrong)

/-- 'mootlaw06.WitnessTrees': WHATEVER THE INPUT: true; the input reads as it did. -/
def witnessTreesSpec : ChangeSpec := { name := "witnessTrees", fn := fun _ => fun
  | [d1, d2] => { results := [.lit (.bool true)], args := [d1, d2] }
  | _ => none }
def witnessTreesRow : OpenClaim := { program := "ytdmffnjbholkkaadoor", sum := "47fcf3e251acde18f4aae5b39af9c6ed164223791d1586b4ba0d76e3969503a3", func := "moot/mootlaw06.WitnessTrees", spec := "witnessTrees", inPlace := ["internal/reflectlite.ValueOf", "(internal/reflectlite.Value).Type", "(internal/reflectlite.Value).IsNil", "internal/reflectlite.TypeOf", "(internal/reflectlite.Value).Elem", "(internal/reflectlite.Value).Set"], unfollowed := true, recurses := true, named := ["moot/keccak.constants", "errors.errorType"], plainKeys := false, apart := false, laid := [("errors.errorType", laid_errors_errorType), ("moot/keccak.constants", laid_moot_keccak_constants)] }
def WitnessTreesSaid : Prop := witnessTreesRow.holds Tryd.pinned (OpenSpec.ofChange witnessTreesSpec)

/-- ITS FALSE NEIGHBOUR: 'it returns false'. Refute it at one input. -/
def witnessTreesWrong : ChangeSpec := { name := "witnessTrees", fn := fun _ => fun
  | [d1, d2] => { results := [.lit (.bool false)], args := [d1, d2] }
  | _ => none }
def WitnessTreesWrongFalsely : Prop := witnessTreesRow.holds Tryd.pinned (OpenSpec.ofChange witnessTreesWrong)

/-- 'mootlaw06.WitnessEnough': WHATEVER THE INPUT: true; the input reads as it did. -/
def witnessEnoughSpec : ChangeSpec := { name := "witnessEnough", fn := fun _ => fun
  | [d1, d2, d3] => { results := [.lit (.bool true)], args := [d1, d2, d3] }
  | _ => none }
def witnessEnoughRow : OpenClaim := { program := "ytdmffnjbholkkaadoor", sum := "47fcf3e251acde18f4aae5b39af9c6ed164223791d1586b4ba0d76e3969503a3", func := "moot/mootlaw06.WitnessEnough", spec := "witnessEnough", inPlace := ["internal/reflectlite.ValueOf", "(internal/reflectlite.Value).Type", "(internal/reflectlite.Value).IsNil", "internal/reflectlite.TypeOf", "(internal/reflectlite.Value).Elem", "(internal/reflectlite.Value).Set", "maps.clone"], unfollowed := true, recurses := true, named := ["moot/keccak.constants", "errors.errorType"], plainKeys := false, apart := false, laid := [("errors.errorType", laid_errors_errorType), ("moot/keccak.constants", laid_moot_keccak_constants)] }
def WitnessEnoughSaid : Prop := witnessEnoughRow.holds Tryd.pinned (OpenSpec.ofChange witnessEnoughSpec)

/-- ITS FALSE NEIGHBOUR: 'it returns false'. Refute it at one input. -/
def witnessEnoughWrong : ChangeSpec := { name := "witnessEnough", fn := fun _ => fun
  | [d1, d2, d3] => { results := [.lit (.bool false)], args := [d1, d2, d3] }
  | _ => none }
def WitnessEnoughWrongFalsely : Prop := witnessEnoughRow.holds Tryd.pinned (OpenSpec.ofChange witnessEnoughWrong)

/-- 'mootlaw06.WitnessApart': WHATEVER THE INPUT: true; the input reads as it did. -/
def witnessApartSpec : ChangeSpec := { name := "witnessApart", fn := fun _ => fun
  | [d1, d2] => { results := [.lit (.bool true)], args := [d1, d2] }
  | _ => none }
def witnessApartRow : OpenClaim := { program := "ytdmffnjbholkkaadoor", sum := "47fcf3e251acde18f4aae5b39af9c6ed164223791d1586b4ba0d76e3969503a3", func := "moot/mootlaw06.WitnessApart", spec := "witnessApart", inPlace := ["internal/reflectlite.ValueOf", "(internal/reflectlite.Value).Type", "(internal/reflectlite.Value).IsNil", "internal/reflectlite.TypeOf", "(internal/reflectlite.Value).Elem", "(internal/reflectlite.Value).Set", "maps.clone"], unfollowed := true, recurses := true, named := ["moot/keccak.constants", "errors.errorType"], plainKeys := false, apart := false, laid := [("errors.errorType", laid_errors_errorType), ("moot/keccak.constants", laid_moot_keccak_constants)] }
def WitnessApartSaid : Prop := witnessApartRow.holds Tryd.pinned (OpenSpec.ofChange witnessApartSpec)

/-- ITS FALSE NEIGHBOUR: 'it returns false'. Refute it at one input. -/
def witnessApartWrong : ChangeSpec := { name := "witnessApart", fn := fun _ => fun
  | [d1, d2] => { results := [.lit (.bool false)], args := [d1, d2] }
  | _ => none }
def WitnessApartWrongFalsely : Prop := witnessApartRow.holds Tryd.pinned (OpenSpec.ofChange witnessApartWrong)

/-- 'mootlaw10.VmStores': WHATEVER THE INPUT: true; the input reads as it did. -/
def vmStoresSpec : ChangeSpec := { name := "vmStores", fn := fun _ => fun
  | [d1, d2, d3] => { results := [.lit (.bool true)], args := [d1, d2, d3] }
  | _ => none }
def vmStoresRow : OpenClaim := { program := "ytdmffnjbholkkaadoor", sum := "47fcf3e251acde18f4aae5b39af9c6ed164223791d1586b4ba0d76e3969503a3", func := "moot/mootlaw10.VmStores", spec := "vmStores", inPlace := ["math/bits.Add64"], unfollowed := true, recurses := true, named := ["moot/keccak.constants", "math/bits.divideError", "math/bits.overflowError"], plainKeys := false, apart := false, laid := [("moot/keccak.constants", laid_moot_keccak_constants)] }
def VmStoresSaid : Prop := vmStoresRow.holds Tryd.pinned (OpenSpec.ofChange vmStoresSpec)

/-- ITS FALSE NEIGHBOUR: 'it returns false'. Refute it at one input. -/
def vmStoresWrong : ChangeSpec := { name := "vmStores", fn := fun _ => fun
  | [d1, d2, d3] => { results := [.lit (.bool false)], args := [d1, d2, d3] }
  | _ => none }
def VmStoresWrongFalsely : Prop := vmStoresRow.holds Tryd.pinned (OpenSpec.ofChange vmStoresWrong)

/-- 'mootlaw10.VmOracle': WHATEVER THE INPUT: true; the input reads as it did. -/
def vmOracleSpec : ChangeSpec := { name := "vmOracle", fn := fun _ => fun
  | [d1, d2, d3, d4] => { results := [.lit (.bool true)], args := [d1, d2, d3, d4] }
  | _ => none }
def vmOracleRow : OpenClaim := { program := "ytdmffnjbholkkaadoor", sum := "47fcf3e251acde18f4aae5b39af9c6ed164223791d1586b4ba0d76e3969503a3", func := "moot/mootlaw10.VmOracle", spec := "vmOracle", inPlace := ["math/bits.Add64"], unfollowed := true, recurses := true, named := ["moot/keccak.constants", "math/bits.divideError", "math/bits.overflowError"], plainKeys := false, apart := false, laid := [("moot/keccak.constants", laid_moot_keccak_constants)] }
def VmOracleSaid : Prop := vmOracleRow.holds Tryd.pinned (OpenSpec.ofChange vmOracleSpec)

/-- ITS FALSE NEIGHBOUR: 'it returns false'. Refute it at one input. -/
def vmOracleWrong : ChangeSpec := { name := "vmOracle", fn := fun _ => fun
  | [d1, d2, d3, d4] => { results := [.lit (.bool false)], args := [d1, d2, d3, d4] }
  | _ => none }
def VmOracleWrongFalsely : Prop := vmOracleRow.holds Tryd.pinned (OpenSpec.ofChange vmOracleWrong)

/-- 'mootlaw10.VmJumps': WHATEVER THE INPUT: true; the input reads as it did. -/
def vmJumpsSpec : ChangeSpec := { name := "vmJumps", fn := fun _ => fun
  | [d1, d2, d3, d4] => { results := [.lit (.bool true)], args := [d1, d2, d3, d4] }
  | _ => none }
def vmJumpsRow : OpenClaim := { program := "ytdmffnjbholkkaadoor", sum := "47fcf3e251acde18f4aae5b39af9c6ed164223791d1586b4ba0d76e3969503a3", func := "moot/mootlaw10.VmJumps", spec := "vmJumps", inPlace := ["math/bits.Add64"], unfollowed := true, recurses := true, named := ["moot/keccak.constants", "math/bits.divideError", "math/bits.overflowError"], plainKeys := false, apart := false, laid := [("moot/keccak.constants", laid_moot_keccak_constants)] }
def VmJumpsSaid : Prop := vmJumpsRow.holds Tryd.pinned (OpenSpec.ofChange vmJumpsSpec)

/-- ITS FALSE NEIGHBOUR: 'it returns false'. Refute it at one input. -/
def vmJumpsWrong : ChangeSpec := { name := "vmJumps", fn := fun _ => fun
  | [d1, d2, d3, d4] => { results := [.lit (.bool false)], args := [d1, d2, d3, d4] }
  | _ => none }
def VmJumpsWrongFalsely : Prop := vmJumpsRow.holds Tryd.pinned (OpenSpec.ofChange vmJumpsWrong)

/-- 'mootlaw10.VmRuns': WHATEVER THE INPUT: true; the input reads as it did. -/
def vmRunsSpec : ChangeSpec := { name := "vmRuns", fn := fun _ => fun
  | [d1, d2, d3] => { results := [.lit (.bool true)], args := [d1, d2, d3] }
  | _ => none }
def vmRunsRow : OpenClaim := { program := "ytdmffnjbholkkaadoor", sum := "47fcf3e251acde18f4aae5b39af9c6ed164223791d1586b4ba0d76e3969503a3", func := "moot/mootlaw10.VmRuns", spec := "vmRuns", inPlace := ["math/bits.Add64", "internal/reflectlite.TypeOf"], unfollowed := true, recurses := true, named := ["moot/keccak.constants", "math/bits.divideError", "math/bits.overflowError"], plainKeys := false, apart := false, laid := [("moot/keccak.constants", laid_moot_keccak_constants)] }
def VmRunsSaid : Prop := vmRunsRow.holds Tryd.pinned (OpenSpec.ofChange vmRunsSpec)

/-- ITS FALSE NEIGHBOUR: 'it returns false'. Refute it at one input. -/
def vmRunsWrong : ChangeSpec := { name := "vmRuns", fn := fun _ => fun
  | [d1, d2, d3] => { results := [.lit (.bool false)], args := [d1, d2, d3] }
  | _ => none }
def VmRunsWrongFalsely : Prop := vmRunsRow.holds Tryd.pinned (OpenSpec.ofChange vmRunsWrong)

/-- 'mootlaw10.VmCodes': WHATEVER THE INPUT: true; the input reads as it did. -/
def vmCodesSpec : ChangeSpec := { name := "vmCodes", fn := fun _ => fun
  | [d1, d2, d3, d4, d5, d6, d7] => { results := [.lit (.bool true)], args := [d1, d2, d3, d4, d5, d6, d7] }
  | _ => none }
def vmCodesRow : OpenClaim := { program := "ytdmffnjbholkkaadoor", sum := "47fcf3e251acde18f4aae5b39af9c6ed164223791d1586b4ba0d76e3969503a3", func := "moot/mootlaw10.VmCodes", spec := "vmCodes", inPlace := ["math/bits.Add64", "internal/reflectlite.ValueOf", "(internal/reflectlite.Value).Type", "(internal/reflectlite.Value).IsNil", "internal/reflectlite.TypeOf", "(internal/reflectlite.Value).Elem", "(internal/reflectlite.Value).Set"], unfollowed := true, recurses := true, named := ["moot/keccak.constants", "math/bits.divideError", "math/bits.overflowError", "errors.errorType"], plainKeys := false, apart := false, laid := [("errors.errorType", laid_errors_errorType), ("moot/keccak.constants", laid_moot_keccak_constants)] }
def VmCodesSaid : Prop := vmCodesRow.holds Tryd.pinned (OpenSpec.ofChange vmCodesSpec)

/-- ITS FALSE NEIGHBOUR: 'it returns false'. Refute it at one input. -/
def vmCodesWrong : ChangeSpec := { name := "vmCodes", fn := fun _ => fun
  | [d1, d2, d3, d4, d5, d6, d7] => { results := [.lit (.bool false)], args := [d1, d2, d3, d4, d5, d6, d7] }
  | _ => none }
def VmCodesWrongFalsely : Prop := vmCodesRow.holds Tryd.pinned (OpenSpec.ofChange vmCodesWrong)

/- THE SECOND FORM. 'bulk': how many values and letters a reading holds, each counted each time it is reached (what is shared counts as often as it is met; a slice's spare places count too). A statement '..UptoSaid' is the law's where the arguments, and the package variables that the reading takes, are together of bulk at most 1048576: NARROWER than '..Said'. Prove '..Said' where nothing that the law and all that it calls make is longer than what came in: it says more and counts as full. Else prove '..UptoSaid'. A law counts once. -/
mutual
def uptoBulk {H : Type} : DataW H → Nat
  | .lit (.string bytes) => bytes.length + 1
  | .lit _ => 1
  | .nil => 1
  | .ptr d => uptoBulk d + 1
  | .slice elems spare => uptoBulkAll elems + uptoBulkAll spare + 1
  | .agg parts => uptoBulkAll parts + 1
  | .iface _ d => uptoBulk d + 1
  | .map entries => uptoBulkEntries entries + 1
  | .held _ => 1
def uptoBulkAll {H : Type} : List (DataW H) → Nat
  | [] => 0
  | d :: r => uptoBulk d + uptoBulkAll r
def uptoBulkEntries {H : Type} : List (Lit × DataW H) → Nat
  | [] => 0
  | x :: r => uptoBulkEntry x + uptoBulkEntries r
def uptoBulkEntry {H : Type} : Lit × DataW H → Nat
  | (.string bytes, d) => bytes.length + uptoBulk d + 1
  | (_, d) => uptoBulk d + 1
 end
def uptoSmall : (H : Type) → List (DataW H) → Bool := fun _ ds => decide (uptoBulkAll ds ≤ 1048576)
def OpenSpec.upto (s : _root_.Go.ChangeSpec) : _root_.Go.OpenSpec := { _root_.Go.OpenSpec.ofChange s with cond := some uptoSmall }

/-- 'mootlaw06.WitnessPlays', WHERE WHAT IT READS IS OF BULK AT MOST 1048576: true; the input reads as it did. -/
def witnessPlaysUptoRow : OpenClaim := { program := "ytdmffnjbholkkaadoor", sum := "47fcf3e251acde18f4aae5b39af9c6ed164223791d1586b4ba0d76e3969503a3", func := "moot/mootlaw06.WitnessPlays", spec := "witnessPlays", inPlace := ["internal/reflectlite.ValueOf", "(internal/reflectlite.Value).Type", "(internal/reflectlite.Value).IsNil", "internal/reflectlite.TypeOf", "(internal/reflectlite.Value).Elem", "(internal/reflectlite.Value).Set", "maps.clone"], unfollowed := true, recurses := true, named := ["moot/keccak.constants", "errors.errorType"], plainKeys := false, apart := false, laid := [("errors.errorType", laid_errors_errorType), ("moot/keccak.constants", laid_moot_keccak_constants)], narrowed := true }
def WitnessPlaysUptoSaid : Prop := witnessPlaysUptoRow.holds Tryd.pinned (OpenSpec.upto witnessPlaysSpec)

/-- 'mootlaw06.WitnessNil', WHERE WHAT IT READS IS OF BULK AT MOST 1048576: true; the input reads as it did. -/
def witnessNilUptoRow : OpenClaim := { program := "ytdmffnjbholkkaadoor", sum := "47fcf3e251acde18f4aae5b39af9c6ed164223791d1586b4ba0d76e3969503a3", func := "moot/mootlaw06.WitnessNil", spec := "witnessNil", inPlace := ["internal/reflectlite.TypeOf", "internal/reflectlite.ValueOf", "(internal/reflectlite.Value).Type", "(internal/reflectlite.Value).IsNil", "(internal/reflectlite.Value).Elem", "(internal/reflectlite.Value).Set", "maps.clone"], unfollowed := true, recurses := true, named := ["moot/keccak.constants", "errors.errorType"], plainKeys := false, apart := false, laid := [("errors.errorType", laid_errors_errorType), ("moot/keccak.constants", laid_moot_keccak_constants)], narrowed := true }
def WitnessNilUptoSaid : Prop := witnessNilUptoRow.holds Tryd.pinned (OpenSpec.upto witnessNilSpec)

/-- 'mootlaw06.WitnessTrees', WHERE WHAT IT READS IS OF BULK AT MOST 1048576: true; the input reads as it did. -/
def witnessTreesUptoRow : OpenClaim := { program := "ytdmffnjbholkkaadoor", sum := "47fcf3e251acde18f4aae5b39af9c6ed164223791d1586b4ba0d76e3969503a3", func := "moot/mootlaw06.WitnessTrees", spec := "witnessTrees", inPlace := ["internal/reflectlite.ValueOf", "(internal/reflectlite.Value).Type", "(internal/reflectlite.Value).IsNil", "internal/reflectlite.TypeOf", "(internal/reflectlite.Value).Elem", "(internal/reflectlite.Value).Set"], unfollowed := true, recurses := true, named := ["moot/keccak.constants", "errors.errorType"], plainKeys := false, apart := false, laid := [("errors.errorType", laid_errors_errorType), ("moot/keccak.constants", laid_moot_keccak_constants)], narrowed := true }
def WitnessTreesUptoSaid : Prop := witnessTreesUptoRow.holds Tryd.pinned (OpenSpec.upto witnessTreesSpec)

/-- 'mootlaw06.WitnessEnough', WHERE WHAT IT READS IS OF BULK AT MOST 1048576: true; the input reads as it did. -/
def witnessEnoughUptoRow : OpenClaim := { program := "ytdmffnjbholkkaadoor", sum := "47fcf3e251acde18f4aae5b39af9c6ed164223791d1586b4ba0d76e3969503a3", func := "moot/mootlaw06.WitnessEnough", spec := "witnessEnough", inPlace := ["internal/reflectlite.ValueOf", "(internal/reflectlite.Value).Type", "(internal/reflectlite.Value).IsNil", "internal/reflectlite.TypeOf", "(internal/reflectlite.Value).Elem", "(internal/reflectlite.Value).Set", "maps.clone"], unfollowed := true, recurses := true, named := ["moot/keccak.constants", "errors.errorType"], plainKeys := false, apart := false, laid := [("errors.errorType", laid_errors_errorType), ("moot/keccak.constants", laid_moot_keccak_constants)], narrowed := true }
def WitnessEnoughUptoSaid : Prop := witnessEnoughUptoRow.holds Tryd.pinned (OpenSpec.upto witnessEnoughSpec)

/-- 'mootlaw06.WitnessApart', WHERE WHAT IT READS IS OF BULK AT MOST 1048576: true; the input reads as it did. -/
def witnessApartUptoRow : OpenClaim := { program := "ytdmffnjbholkkaadoor", sum := "47fcf3e251acde18f4aae5b39af9c6ed164223791d1586b4ba0d76e3969503a3", func := "moot/mootlaw06.WitnessApart", spec := "witnessApart", inPlace := ["internal/reflectlite.ValueOf", "(internal/reflectlite.Value).Type", "(internal/reflectlite.Value).IsNil", "internal/reflectlite.TypeOf", "(internal/reflectlite.Value).Elem", "(internal/reflectlite.Value).Set", "maps.clone"], unfollowed := true, recurses := true, named := ["moot/keccak.constants", "errors.errorType"], plainKeys := false, apart := false, laid := [("errors.errorType", laid_errors_errorType), ("moot/keccak.constants", laid_moot_keccak_constants)], narrowed := true }
def WitnessApartUptoSaid : Prop := witnessApartUptoRow.holds Tryd.pinned (OpenSpec.upto witnessApartSpec)

/-- 'mootlaw10.VmStores', WHERE WHAT IT READS IS OF BULK AT MOST 1048576: true; the input reads as it did. -/
def vmStoresUptoRow : OpenClaim := { program := "ytdmffnjbholkkaadoor", sum := "47fcf3e251acde18f4aae5b39af9c6ed164223791d1586b4ba0d76e3969503a3", func := "moot/mootlaw10.VmStores", spec := "vmStores", inPlace := ["math/bits.Add64"], unfollowed := true, recurses := true, named := ["moot/keccak.constants", "math/bits.divideError", "math/bits.overflowError"], plainKeys := false, apart := false, laid := [("moot/keccak.constants", laid_moot_keccak_constants)], narrowed := true }
def VmStoresUptoSaid : Prop := vmStoresUptoRow.holds Tryd.pinned (OpenSpec.upto vmStoresSpec)

/-- 'mootlaw10.VmOracle', WHERE WHAT IT READS IS OF BULK AT MOST 1048576: true; the input reads as it did. -/
def vmOracleUptoRow : OpenClaim := { program := "ytdmffnjbholkkaadoor", sum := "47fcf3e251acde18f4aae5b39af9c6ed164223791d1586b4ba0d76e3969503a3", func := "moot/mootlaw10.VmOracle", spec := "vmOracle", inPlace := ["math/bits.Add64"], unfollowed := true, recurses := true, named := ["moot/keccak.constants", "math/bits.divideError", "math/bits.overflowError"], plainKeys := false, apart := false, laid := [("moot/keccak.constants", laid_moot_keccak_constants)], narrowed := true }
def VmOracleUptoSaid : Prop := vmOracleUptoRow.holds Tryd.pinned (OpenSpec.upto vmOracleSpec)

/-- 'mootlaw10.VmJumps', WHERE WHAT IT READS IS OF BULK AT MOST 1048576: true; the input reads as it did. -/
def vmJumpsUptoRow : OpenClaim := { program := "ytdmffnjbholkkaadoor", sum := "47fcf3e251acde18f4aae5b39af9c6ed164223791d1586b4ba0d76e3969503a3", func := "moot/mootlaw10.VmJumps", spec := "vmJumps", inPlace := ["math/bits.Add64"], unfollowed := true, recurses := true, named := ["moot/keccak.constants", "math/bits.divideError", "math/bits.overflowError"], plainKeys := false, apart := false, laid := [("moot/keccak.constants", laid_moot_keccak_constants)], narrowed := true }
def VmJumpsUptoSaid : Prop := vmJumpsUptoRow.holds Tryd.pinned (OpenSpec.upto vmJumpsSpec)

/-- 'mootlaw10.VmRuns', WHERE WHAT IT READS IS OF BULK AT MOST 1048576: true; the input reads as it did. -/
def vmRunsUptoRow : OpenClaim := { program := "ytdmffnjbholkkaadoor", sum := "47fcf3e251acde18f4aae5b39af9c6ed164223791d1586b4ba0d76e3969503a3", func := "moot/mootlaw10.VmRuns", spec := "vmRuns", inPlace := ["math/bits.Add64", "internal/reflectlite.TypeOf"], unfollowed := true, recurses := true, named := ["moot/keccak.constants", "math/bits.divideError", "math/bits.overflowError"], plainKeys := false, apart := false, laid := [("moot/keccak.constants", laid_moot_keccak_constants)], narrowed := true }
def VmRunsUptoSaid : Prop := vmRunsUptoRow.holds Tryd.pinned (OpenSpec.upto vmRunsSpec)

/-- 'mootlaw10.VmCodes', WHERE WHAT IT READS IS OF BULK AT MOST 1048576: true; the input reads as it did. -/
def vmCodesUptoRow : OpenClaim := { program := "ytdmffnjbholkkaadoor", sum := "47fcf3e251acde18f4aae5b39af9c6ed164223791d1586b4ba0d76e3969503a3", func := "moot/mootlaw10.VmCodes", spec := "vmCodes", inPlace := ["math/bits.Add64", "internal/reflectlite.ValueOf", "(internal/reflectlite.Value).Type", "(internal/reflectlite.Value).IsNil", "internal/reflectlite.TypeOf", "(internal/reflectlite.Value).Elem", "(internal/reflectlite.Value).Set"], unfollowed := true, recurses := true, named := ["moot/keccak.constants", "math/bits.divideError", "math/bits.overflowError", "errors.errorType"], plainKeys := false, apart := false, laid := [("errors.errorType", laid_errors_errorType), ("moot/keccak.constants", laid_moot_keccak_constants)], narrowed := true }
def VmCodesUptoSaid : Prop := vmCodesUptoRow.holds Tryd.pinned (OpenSpec.upto vmCodesSpec)

end Rows
end Go.Proofs.YtdmffnjbholkkaaDoor
