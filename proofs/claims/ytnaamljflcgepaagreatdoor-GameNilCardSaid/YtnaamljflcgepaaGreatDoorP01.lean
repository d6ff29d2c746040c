/- Merged of Kec Row Kw Laid Err Led Led2 Led3 Led4 Led5 Led6 Led7 Led8 Kept App Led9. Own work. -/
import Derived.Below
import Derived.WalkKit
import Derived.WalkSmall
import Derived.Deep.Draws
import Derived.Laws.BitsAllLaws
import Derived.Outline
import Derived.Lib.Hide
import Derived.Test.YtnaamljflcgepaaGreatDoorRows
import Derived.LaidLaws
import Derived.LaidHandle
import Derived.LaidSub
import Derived.Stop.Joined
import Derived.ChangeVars
import Derived.RowKitTokens
import Derived.OpenShut
import Derived.LaidEql
import Derived.Stop.Asserts
import Derived.BigQuiet
import Derived.Deep.QuietTactic
import Derived.Laws.OwnMore
import Derived.OwnWalk
import Derived.Laws.AppendOwn
import Derived.Deep.RegionLaw
import Derived.Deep.DeepFit
namespace Go.Proofs.YtnaamljflcgepaaGreatDoor
set_option linter.unusedVariables false
namespace Kc
abbrev Wd64 := BitVec 64
def rotl (x : Wd64) (r : Nat) : Wd64 := x.rotateLeft r
/-- The parity of a column. -/
def par (a : Nat → Wd64) (x : Nat) : Wd64 := a x ^^^ a (x + 5) ^^^ a (x + 10) ^^^ a (x + 15) ^^^ a (x + 20)
def dd (a : Nat → Wd64) (x : Nat) : Wd64 := par a ((x + 4) % 5) ^^^ rotl (par a ((x + 1) % 5)) 1
def theta (a : Nat → Wd64) (j : Nat) : Wd64 := a j ^^^ dd a (j % 5)
/-- By how much each word is turned. -/
def turns : List Nat := [0, 1, 62, 28, 27, 36, 44, 6, 55, 20, 3, 10, 43, 25, 39, 41, 45, 15, 21, 8, 18, 2, 61, 56, 14]
/-- From where a word comes. -/
def src (k : Nat) : Nat := (3 * (k / 5) + k % 5) % 5 + 5 * (k % 5)
def rhopi (a : Nat → Wd64) (k : Nat) : Wd64 := rotl (a (src k)) (turns.getD (src k) 0)
def chi (b : Nat → Wd64) (k : Nat) : Wd64 := b k ^^^ (~~~ b (5 * (k / 5) + (k % 5 + 1) % 5) &&& b (5 * (k / 5) + (k % 5 + 2) % 5))
def iota (c : Wd64) (a : Nat → Wd64) (k : Nat) : Wd64 := if k = 0 then a 0 ^^^ c else a k
def rnd (c : Wd64) (a : Nat → Wd64) : Nat → Wd64 := iota c (chi (rhopi (theta a)))
def consts : List Wd64 := [0x1#64, 0x8082#64, 0x800000000000808a#64, 0x8000000080008000#64, 0x808b#64, 0x80000001#64, 0x8000000080008081#64, 0x8000000000008009#64,
  0x8a#64, 0x88#64, 0x80008009#64, 0x8000000a#64, 0x8000808b#64, 0x800000000000008b#64, 0x8000000000008089#64, 0x8000000000008003#64,
  0x8000000000008002#64, 0x8000000000000080#64, 0x800a#64, 0x800000008000000a#64, 0x8000000080008081#64, 0x8000000000008080#64, 0x80000001#64, 0x8000000080008008#64]
def rnds (a : Nat → Wd64) (n : Nat) : Nat → Wd64 := (consts.take n).foldl (fun a c => rnd c a) a
def perm (a : Nat → Wd64) : Nat → Wd64 := rnds a 24

end Kc
end Go.Proofs.YtnaamljflcgepaaGreatDoor
namespace Go.Proofs.YtnaamljflcgepaaGreatDoor
open Go.RowKit
theorem add_at (b off i : Nat) : (⟨b, off, none⟩ : Addr).add i = ⟨b, off + i, none⟩ := by
  cases i with
  | zero => rfl
  | succ n => rfl
theorem bcell {W w1 : World} (hb : Below W.heap.size W w1) : (∀ b o, b < W.heap.size → w1.cell? ⟨b, o, none⟩ = W.cell? ⟨b, o, none⟩) ∧ (∀ b o, b < W.heap.size → w1.frozen? ⟨b, o, none⟩ = W.frozen? ⟨b, o, none⟩) :=
  ⟨fun _ _ h => hb.cell h, fun _ _ h => hb.frozen h⟩
/-- What was done behind new blocks of the call's own. -/
theorem blo {B : Nat} {a w w' : World} (h : Below B a w) (h2 : Below w.heap.size w w') (hs : B ≤ w.heap.size) : Below B a w' := h.trans (h2.mono hs)
theorem bl {a w w' : World} (h : Below a.heap.size a w) (h2 : Below w.heap.size w w') : Below a.heap.size a w' := h.trans (h2.mono h.size)
/-- Two cells of a block. -/
theorem keep1 {W w1 : World} {b o : Nat} {x : Value} (hb : Below W.heap.size W w1) (h : W.cell? ⟨b, o, none⟩ = some x) : w1.cell? ⟨b, o, none⟩ = some x := by
  have hl : b < W.heap.size := by
    rcases Nat.lt_or_ge b W.heap.size with h1 | h1
    · exact h1
    · simp [World.cell?, Array.getElem?_eq_none h1] at h
  rw [hb.cell (p := ⟨b, o, none⟩) hl]; exact h
theorem keepF {W w1 : World} {b o : Nat} (hb : Below W.heap.size W w1) (hl : b < W.heap.size) (h : W.frozen? ⟨b, o, none⟩ = false) : w1.frozen? ⟨b, o, none⟩ = false := by
  rw [hb.frozen (p := ⟨b, o, none⟩) hl]; exact h
theorem inHeap {w : World} {b o : Nat} {x : Value} (h : w.cell? ⟨b, o, none⟩ = some x) : b < w.heap.size := by
  rcases Nat.lt_or_ge b w.heap.size with h1 | h1
  · exact h1
  · simp [World.cell?, Array.getElem?_eq_none h1] at h
end Go.Proofs.YtnaamljflcgepaaGreatDoor
namespace Go.Proofs.YtnaamljflcgepaaGreatDoor
open Go.RowKit
set_option linter.unusedVariables false
namespace Kc
/-- A word as Go's number. -/
def W (x : Wd64) : Int := (x.toNat : Int)
theorem W_shr (x : Wd64) (s : Nat) : W x / 2 ^ s = W (x >>> s) := by
  unfold W
  rw [BitVec.toNat_ushiftRight, Nat.shiftRight_eq_div_pow, Int.natCast_ediv, Int.natCast_pow]; rfl
end Kc
end Go.Proofs.YtnaamljflcgepaaGreatDoor
namespace Go.Proofs.YtnaamljflcgepaaGreatDoor
open Go.RowKit
namespace Laid
theorem etNamed : Tryz.prog.globalNamed "errors.errorType" = some 0 := by kernel_rfl
theorem rtType : (Tryz.prog.cutTypes.find? (·.1 == "internal/reflectlite.rtype")).map (·.2) = some 109 := by kernel_rfl
theorem typesSize : Tryz.prog.types.size = 252 := by kernel_rfl
theorem oneRow : ((List.range 252).filter fun t => Tryz.prog.rowNamed t [101, 114, 114, 111, 114]) = [25] := by kernel_rfl
theorem of_errors_errorType {l : List (String × DataW Unit)} {W : World} (h : laidMetH Tryz.prog l W) (hx : ("errors.errorType", Rows.laid_errors_errorType) ∈ l) : W.cell? ⟨0, 0, none⟩ = some (.iface 109 (.agg #[.pointer (some ⟨4, 25, none⟩)])) := by
  have h' := (laidMetH_iff.1 h).2
  have hm := h' _ (List.mem_filter.2 ⟨hx, by rfl⟩)
  obtain ⟨name, u, ty, e1, e2, e3, e4, e5⟩ := hm
  have en : name = [101, 114, 114, 111, 114] := (Option.some.inj e1).symm
  subst en
  obtain rfl := Option.some.inj (rtType.symm.trans e2)
  have hm : ty ∈ (List.range 252).filter fun t => Tryz.prog.rowNamed t [101, 114, 114, 111, 114] := List.mem_filter.2 ⟨List.mem_range.2 (by rw [← typesSize]; exact e3), e4⟩
  rw [oneRow] at hm
  obtain rfl := List.mem_singleton.1 hm
  have hh : typeHandle Tryz.prog 25 = .pointer (some ⟨4, 25, none⟩) := by kernel_rfl
  rw [hh] at e5
  simpa using World.var?_cell etNamed e5 0
/-- The table of the permutation's constants. -/
def KTab (w : World) : Prop := ∀ i, i < 24 → w.cell? ⟨1, i, none⟩ = some (.int .u64 (Kc.W (Kc.consts.getD i 0#64)))
end Laid
end Go.Proofs.YtnaamljflcgepaaGreatDoor
namespace Go.Proofs.YtnaamljflcgepaaGreatDoor
open Go.RowKit Go.Extern.Stop Go.Stop Go.Extern
namespace Err

section
variable {P : Program} (w : World)
theorem run_equalIn_num (d : Nat) {ti tn : TypeId} {ms : Array (String × TypeId)} {i : TypeInfo} {k : IntKind} (a b : Int)
    (hi : P.underlying ti = some (.interface ms)) (hn : P.underlying tn = some (.int k)) (hinfo : P.info? tn = some i) (hcomp : i.comparable = true) :
    (Op.equalIn (d + 2) ti (.iface tn (.int k a)) (.iface tn (.int k b))).run P w = .ok (a == b) w := by
  simp [Op.equalIn, run_underlying hi, run_underlying hn, typeInfo, hinfo, hcomp]
theorem run_eql_num {ti tn : TypeId} {ms : Array (String × TypeId)} {i : TypeInfo} {k : IntKind} (a b : Int)
    (hi : P.underlying ti = some (.interface ms)) (hn : P.underlying tn = some (.int k)) (hinfo : P.info? tn = some i) (hcomp : i.comparable = true) :
    (binOp .eql ti (.iface tn (.int k a)) (.iface tn (.int k b))).run P w = .ok (.bool (a == b)) w := by
  simp only [binOp]
  simp [Op.equal, Op.maxDepth, run_equalIn_num w 9998 a b hi hn hinfo hcomp]
end

/-! closed facts: what 'reflectlite.TypeOf(target).Comparable()' gives at such a target -/
theorem isTypeOf (v : Value) (w : World) : (Extern.ReflectliteType.typeOf #[.iface 55 v]).run Tryz.prog w = .ok (.iface 109 (.agg #[.pointer (some ⟨4, 55, none⟩)])) w := by kernel_rfl
/-- The entry of (rtype).Comparable, under a name that the walk does not open. -/
noncomputable def cmpM : Array Value → Sem Value := Extern.ReflectliteType.method fun t => do Extern.Rtype.noPackHeld "Comparable" t; pure (.bool (← typeInfo t).comparable)
theorem isComparable (w : World) : (cmpM #[.agg #[.pointer (some ⟨4, 55, none⟩)]]).run Tryz.prog w = .ok (.bool true) w := by kernel_rfl
theorem isMethodComparable (v : Value) (w : World) : (Go.method 352 109 v "Comparable").run Tryz.prog w = .ok (124, v) w := by kernel_rfl
theorem isComp : (Tryz.prog.info? 55).map (·.comparable) = some true := by kernel_rfl
theorem noIs (v : Value) (xT : TypeId) (w : World) : (Instr.typeAssert (.iface 55 v) xT 111 true).run Tryz.prog w = .ok (.tuple #[.nilIface, .bool false]) w := run_typeAssert_lacksB Tryz.underlying111 (by kernel_rfl) (by kernel_rfl) v xT w
theorem noUnwrap (v : Value) (xT : TypeId) (w : World) : (Instr.typeAssert (.iface 55 v) xT 114 true).run Tryz.prog w = .ok (.tuple #[.nilIface, .bool false]) w := run_typeAssert_lacksB Tryz.underlying114 (by kernel_rfl) (by kernel_rfl) v xT w
theorem noUnwraps (v : Value) (xT : TypeId) (w : World) : (Instr.typeAssert (.iface 55 v) xT 116 true).run Tryz.prog w = .ok (.tuple #[.nilIface, .bool false]) w := run_typeAssert_lacksB Tryz.underlying116 (by kernel_rfl) (by kernel_rfl) v xT w

/-- errors.Is of two numbers. -/
theorem is_num (m n : Int) (w : World) :
    Calls Tryz.prog 10 #[.iface 55 (.int .i64 m), .iface 55 (.int .i64 n)] w fun e w' => e = .returned (.bool (m == n)) ∧ w = w' := by
  obtain ⟨i, hi, hcmp⟩ := Option.map_eq_some_iff.1 isComp
  have h8 := @run_callFunc_extern Tryz.prog 23 _ Extern.ReflectliteType.typeOf Tryz.func23 (by kernel_rfl) (by kernel_rfl) (by kernel_rfl) (by kernel_rfl)
  have h32 := @run_callFunc_extern Tryz.prog 124 _ cmpM Tryz.func124 (by kernel_rfl) (by kernel_rfl) (by kernel_rfl) (by kernel_rfl)
  have tT := isTypeOf
  have cT := isComparable
  have mR := isMethodComparable
  have nE := noIs
  have uE := noUnwrap
  have vE := noUnwraps
  have heq := run_eql_num (P := Tryz.prog) w m n Tryz.underlying25 Tryz.underlying55 hi hcmp
  by_cases hmn : (m == n) = true
  · rw [hmn] at heq ⊢
    go_enter Tryz.func10, Tryz.ntmps10
    go_wp2
    refine wp_loop_rounds 1 ?_
    rw [rounds_succ]
    go_wp2
    go_ret
    exact ⟨rfl, rfl⟩
  · have hmn' : (m == n) = false := by simpa using hmn
    clear hmn
    rw [hmn'] at heq ⊢
    go_enter Tryz.func10, Tryz.ntmps10
    go_wp2
    refine wp_loop_rounds 1 ?_
    rw [rounds_succ]
    go_wp2
    go_ret
    exact ⟨rfl, rfl⟩
end Err
end Go.Proofs.YtnaamljflcgepaaGreatDoor
namespace Go.Proofs.YtnaamljflcgepaaGreatDoor
open Go.RowKit
set_option linter.unusedVariables false
namespace Led
end Led
end Go.Proofs.YtnaamljflcgepaaGreatDoor
namespace Go.Proofs.YtnaamljflcgepaaGreatDoor
open Go.RowKit
set_option linter.unusedVariables false
namespace Led
theorem check_ok (b : Nat) (p : Int) (w : World) (h0 : 0 ≤ p) (h1 : p < 8) :
    Calls Tryz.prog 32 #[.pointer (some ⟨b, 0, none⟩), .int .i64 p] w fun e w' => e = .returned .nilIface ∧ ∃ n, w' = w.drewN n := by
  go_enter Tryz.func32, Tryz.ntmps32
  go_wp2_with fail
  go_ret
  exact ⟨rfl, by first | exact ⟨0, rfl⟩ | exact ⟨_, rfl⟩⟩
theorem check_bad (b : Nat) (p : Int) (w : World) (h : p < 0 ∨ 8 ≤ p) :
    Calls Tryz.prog 32 #[.pointer (some ⟨b, 0, none⟩), .int .i64 p] w fun e w' => e = .returned (.iface 55 (.int .i64 2)) ∧ ∃ n, w' = w.drewN n := by
  rcases h with h | h
  · go_enter Tryz.func32, Tryz.ntmps32
    go_wp2_with fail
    go_ret
    exact ⟨rfl, by first | exact ⟨0, rfl⟩ | exact ⟨_, rfl⟩⟩
  · go_enter Tryz.func32, Tryz.ntmps32
    go_wp2_with fail
    go_ret
    exact ⟨rfl, by first | exact ⟨0, rfl⟩ | exact ⟨_, rfl⟩⟩
theorem new_is (w : World) :
    Calls Tryz.prog 41 #[] w fun e w' => e = .returned (.pointer (some ⟨w.heap.size, 0, none⟩)) ∧ ∃ t, w' = w.alloc (.cells #[.int .u64 0, .int .u64 0, .int .u64 0, .int .u64 0, .int .u64 0, .int .u64 0, .int .u64 0, .int .u64 0, .slice none 0 0, .int .u64 0, .int .u64 0, .int .u64 0] t) := by
  go_enter Tryz.func41, Tryz.ntmps41
  go_wp2_with fail
  go_ret
  exact ⟨rfl, _, rfl⟩
theorem payIn_ok (b : Nat) (p v s x : Int) (w : World) (h0 : 0 ≤ p) (h1 : p < 8) (v0 : 0 ≤ v) (s0 : 0 ≤ s) (sv : s + v ≤ 281474976710656) (x0 : 0 ≤ x) (xs : x ≤ s)
    (hs : w.cell? ⟨b, 9, none⟩ = some (.int .u64 s)) (hf : ∀ o, w.frozen? ⟨b, o, none⟩ = false) (hx : w.cell? ⟨b, p.toNat, none⟩ = some (.int .u64 x)) :
    Calls Tryz.prog 42 #[.pointer (some ⟨b, 0, none⟩), .int .i64 p, .int .u64 v] w fun e w' => e = .returned .nilIface ∧ ∃ n, w' = ((w.setCell ⟨b, 9, none⟩ (.int .u64 (s + v))).setCell ⟨b, p.toNat, none⟩ (.int .u64 (x + v))).drewN n := by
  go_enter Tryz.func42, Tryz.ntmps42
  go_wp2_with fail
  refine (check_ok b _ _ h0 h1).mono ?_
  rintro e w' ⟨rfl, q, rfl⟩
  have hf9 : (w.drewN q).frozen? ⟨b, 9, none⟩ = false := hf 9
  have hfp : ((w.drewN q).setCell ⟨b, 9, none⟩ (.int .u64 (s + v))).frozen? ⟨b, p.toNat, none⟩ = false := by
    simpa using hf p.toNat
  have hs2 : (w.drewN q).cell? ⟨b, 9, none⟩ = some (.int .u64 s) := hs
  have hx2 : (w.drewN q).cell? ⟨b, p.toNat, none⟩ = some (.int .u64 x) := hx
  have hx3 : ((w.drewN q).setCell ⟨b, 9, none⟩ (.int .u64 (s + v))).cell? ⟨b, p.toNat, none⟩ = some (.int .u64 x) := by
    rw [World.cell?_setCell_other _ _ _ _ (by simp <;> omega)]; exact hx
  go_wp2_with fail
  go_region
  go_wp2_with fail
  go_ret
  exact ⟨rfl, q + 1, by simp [World.drewN, World.drew, World.setCell] <;> rfl⟩
end Led
end Go.Proofs.YtnaamljflcgepaaGreatDoor
namespace Go.Proofs.YtnaamljflcgepaaGreatDoor
open Go.RowKit
set_option linter.unusedVariables false
namespace Led
theorem payIn_bad (b : Nat) (p v : Int) (w : World) (h : p < 0 ∨ 8 ≤ p) :
    Calls Tryz.prog 42 #[.pointer (some ⟨b, 0, none⟩), .int .i64 p, .int .u64 v] w fun e w' => e = .returned (.iface 55 (.int .i64 2)) ∧ ∃ n, w' = w.drewN n := by
  go_enter Tryz.func42, Tryz.ntmps42
  go_wp2_with fail
  refine (check_bad b _ _ h).mono ?_
  rintro e w' ⟨rfl, q, rfl⟩
  go_wp2_with fail
  go_ret
  exact ⟨rfl, _, rfl⟩
theorem payIn_more (b : Nat) (p v s : Int) (w : World) (h0 : 0 ≤ p) (h1 : p < 8) (s0 : 0 ≤ s) (s1 : s ≤ 281474976710656) (sv : 281474976710656 < s + v)
    (hs : w.cell? ⟨b, 9, none⟩ = some (.int .u64 s)) :
    Calls Tryz.prog 42 #[.pointer (some ⟨b, 0, none⟩), .int .i64 p, .int .u64 v] w fun e w' => e = .returned (.iface 55 (.int .i64 2)) ∧ ∃ n, w' = w.drewN n := by
  go_enter Tryz.func42, Tryz.ntmps42
  go_wp2_with fail
  refine (check_ok b _ _ h0 h1).mono ?_
  rintro e w' ⟨rfl, q, rfl⟩
  have hs2 : (w.drewN q).cell? ⟨b, 9, none⟩ = some (.int .u64 s) := hs
  go_wp2_with fail
  go_ret
  exact ⟨rfl, _, rfl⟩
theorem lock_bad (b : Nat) (p v : Int) (w : World) (h : p < 0 ∨ 8 ≤ p) :
    Calls Tryz.prog 20 #[.pointer (some ⟨b, 0, none⟩), .int .i64 p, .int .u64 v] w fun e w' => e = .returned (.tuple #[.int .i64 0, .iface 55 (.int .i64 2)]) ∧ ∃ n, w' = w.drewN n := by
  go_enter Tryz.func20, Tryz.ntmps20
  go_wp2_with fail
  refine (check_bad b _ _ h).mono ?_
  rintro e w' ⟨rfl, q, rfl⟩
  go_wp2_with fail
  go_ret2
  exact ⟨rfl, _, rfl⟩
theorem lock_funds (b : Nat) (p v x : Int) (w : World) (h0 : 0 ≤ p) (h1 : p < 8) (xv : x < v) (hx : w.cell? ⟨b, p.toNat, none⟩ = some (.int .u64 x)) :
    Calls Tryz.prog 20 #[.pointer (some ⟨b, 0, none⟩), .int .i64 p, .int .u64 v] w fun e w' => e = .returned (.tuple #[.int .i64 0, .iface 55 (.int .i64 21)]) ∧ ∃ n, w' = w.drewN n := by
  go_enter Tryz.func20, Tryz.ntmps20
  go_wp2_with fail
  refine (check_ok b _ _ h0 h1).mono ?_
  rintro e w' ⟨rfl, q, rfl⟩
  have hx2 : (w.drewN q).cell? ⟨b, p.toNat, none⟩ = some (.int .u64 x) := hx
  go_wp2_with fail
  go_ret2
  exact ⟨rfl, _, rfl⟩
end Led
end Go.Proofs.YtnaamljflcgepaaGreatDoor
namespace Go.Proofs.YtnaamljflcgepaaGreatDoor
open Go.RowKit
set_option linter.unusedVariables false
namespace Led
end Led
end Go.Proofs.YtnaamljflcgepaaGreatDoor
namespace Go.Proofs.YtnaamljflcgepaaGreatDoor
open Go.RowKit
set_option linter.unusedVariables false
namespace Led
end Led
end Go.Proofs.YtnaamljflcgepaaGreatDoor
namespace Go.Proofs.YtnaamljflcgepaaGreatDoor
open Go.RowKit
set_option linter.unusedVariables false
namespace Led
end Led
end Go.Proofs.YtnaamljflcgepaaGreatDoor
namespace Go.Proofs.YtnaamljflcgepaaGreatDoor
open Go.RowKit
set_option linter.unusedVariables false
namespace Led
end Led
end Go.Proofs.YtnaamljflcgepaaGreatDoor
namespace Go.Proofs.YtnaamljflcgepaaGreatDoor
open Go.RowKit
set_option linter.unusedVariables false
namespace Led
set_option maxRecDepth 100000 in
theorem lock_full (b : Nat) (p v x : Int) (A : Option Addr) (l c : Nat) (w : World) (h0 : 0 ≤ p) (h1 : p < 8) (v0 : 0 ≤ v) (xv : v ≤ x) (x1 : x ≤ 281474976710656) (hl : (65536 : Int) ≤ (l : Int))
    (hx : w.cell? ⟨b, p.toNat, none⟩ = some (.int .u64 x)) (h8 : w.cell? ⟨b, 8, none⟩ = some (.slice A l c)) :
    Calls Tryz.prog 20 #[.pointer (some ⟨b, 0, none⟩), .int .i64 p, .int .u64 v] w fun e w' => e = .returned (.tuple #[.int .i64 0, .iface 55 (.int .i64 5)]) ∧ ∃ n, w' = w.drewN n := by
  go_enter Tryz.func20, Tryz.ntmps20
  go_wp2_with fail
  refine (check_ok b _ _ h0 h1).mono ?_
  rintro e w' ⟨rfl, q, rfl⟩
  have hd : decide ((65536 : Int) ≤ (l : Int)) = true := by simpa using hl
  clear hl
  have hx2 : (w.drewN q).cell? ⟨b, p.toNat, none⟩ = some (.int .u64 x) := hx
  have h82 : (w.drewN q).cell? ⟨b, 8, none⟩ = some (.slice A l c) := h8
  go_wp2_with fail
  go_ret2
  exact ⟨rfl, _, rfl⟩
end Led
end Go.Proofs.YtnaamljflcgepaaGreatDoor
namespace Go.Proofs.YtnaamljflcgepaaGreatDoor
open Go.RowKit
structure Kept (S : Nat → Prop) (w w' : World) : Prop where
  os : w'.os = w.os
  tape : w'.tape = w.tape
  output : w'.output = w.output
  size : w.heap.size ≤ w'.heap.size
  block : ∀ k, k < w.heap.size → ¬ S k → w'.heap[k]? = w.heap[k]?
namespace Kept
variable {S T : Nat → Prop} {a b c w : World}
theorem refl (S : Nat → Prop) (w : World) : Kept S w w := ⟨rfl, rfl, rfl, Nat.le_refl _, fun _ _ _ => rfl⟩
theorem trans (h : Kept S a b) (k : Kept T b c) (hs : ∀ i, i < a.heap.size → T i → S i) : Kept S a c :=
  ⟨k.os.trans h.os, k.tape.trans h.tape, k.output.trans h.output, Nat.le_trans h.size k.size, fun i hi hn => (k.block i (Nat.lt_of_lt_of_le hi h.size) (fun ht => hn (hs i hi ht))).trans (h.block i hi hn)⟩
theorem mono (h : Kept S a b) (hs : ∀ i, i < a.heap.size → S i → T i) : Kept T a b := ⟨h.os, h.tape, h.output, h.size, fun k hk hn => h.block k hk (fun hh => hn (hs k hk hh))⟩
theorem drewN (h : Kept S a b) (n : Nat) : Kept S a (b.drewN n) := ⟨h.os, h.tape, h.output, h.size, h.block⟩
theorem drew (h : Kept S a b) : Kept S a b.drew := ⟨h.os, h.tape, h.output, h.size, h.block⟩
theorem alloc (h : Kept S a b) (o : Obj) : Kept S a (b.alloc o) :=
  ⟨h.os, h.tape, h.output, by have := h.size; simp; omega, fun k hk hn => by rw [Below.heap_alloc _ _ _ (by have := h.size; omega)]; exact h.block k hk hn⟩
theorem setCell (h : Kept S a b) {p : Addr} (hp : S p.block ∨ a.heap.size ≤ p.block) (u : Value) : Kept S a (b.setCell p u) :=
  ⟨h.os, h.tape, h.output, by have := h.size; simpa [World.setCell] using this, fun k hk hn => by
    rw [Below.heap_setCell _ _ _ _ (fun e => by subst e; rcases hp with hp | hp; exact hn hp; omega)]; exact h.block k hk hn⟩
theorem grown {row : Option Nat} (h : Kept S a b) (hg : b.grownBy c row) (hr : ∀ k, row = some k → S k ∨ a.heap.size ≤ k) : Kept S a c :=
  ⟨hg.os.trans h.os, hg.tape.trans h.tape, hg.output.trans h.output, Nat.le_trans h.size hg.size, fun k hk hn =>
    (hg.block k (by have := h.size; omega) (fun e => by rcases hr k e.symm with hs | hs; exact hn hs; omega)).trans (h.block k hk hn)⟩
theorem below {B : Nat} (h : Kept S a b) (hB : B ≤ a.heap.size) (hs : ∀ k, k < a.heap.size → S k → B ≤ k) : Below B a b :=
  ⟨h.os, h.tape, h.output, h.size, fun k hk => h.block k (by omega) (fun e => by have := hs k (by omega) e; omega)⟩
theorem ofBelow (h : Below a.heap.size a b) : Kept S a b := ⟨h.os, h.tape, h.output, h.size, fun k hk _ => h.block k hk⟩
theorem cell (h : Kept S a b) {k o : Nat} {v : Value} (hn : ¬ S k) (hc : a.cell? ⟨k, o, none⟩ = some v) : b.cell? ⟨k, o, none⟩ = some v := by
  rw [World.cell?_of_block (w := a) (h.block k (inHeap hc) hn)]; exact hc
theorem frozen (h : Kept S a b) {k o : Nat} (hn : ¬ S k) (hk : k < a.heap.size) : b.frozen? ⟨k, o, none⟩ = a.frozen? ⟨k, o, none⟩ := World.frozen?_of_block (w := a) (h.block k hk hn)
theorem row {base : Nat} {e : TypeId} {size : Nat} {v : Value} {n : Nat} {xs : List Value} (h : Kept S a b) (ho : a.ownsRow base e size v n xs) (hn : ∀ k, v.ownBlock = some k → ¬ S k) : b.ownsRow base e size v n xs := by
  refine ⟨ho.1, ?_⟩
  rcases ho.2 with hh | ⟨g, cap, cur, rfl, hb, hgg, rest⟩
  · exact .inl hh
  · refine .inr ⟨g, cap, cur, rfl, hb, ?_, rest⟩
    rw [h.block g (Array.getElem?_eq_some_iff.1 hgg).1 (hn g rfl)]; exact hgg
end Kept
theorem ownsRow_drewN {w : World} {base : Nat} {e : TypeId} {size : Nat} {v : Value} {n : Nat} {xs : List Value} (h : w.ownsRow base e size v n xs) (q : Nat) : (w.drewN q).ownsRow base e size v n xs := h
theorem ownsRow_forms {w : World} {base size n : Nat} {e : TypeId} {v : Value} {xs : List Value} (h : w.ownsRow base e size v n xs) : (v = .slice none 0 0 ∧ n = 0) ∨ ∃ g cap, v = .slice (some ⟨g, 0, none⟩) n cap ∧ base ≤ g ∧ g < w.heap.size ∧ n ≤ cap := by
  rcases h.2 with hh | ⟨g, cap, cur, rfl, hbb, hg, hn, _⟩
  · exact .inl hh
  · exact .inr ⟨g, cap, rfl, hbb, (Array.getElem?_eq_some_iff.1 hg).1, hn⟩
theorem size_setCell (w : World) (a : Addr) (v : Value) : (w.setCell a v).heap.size = w.heap.size := by simp [World.setCell]
theorem two_at {w : World} {n : Nat} (hn : n = w.heap.size) (a b : Value) (t : TypeId) : ∀ j u, [a, b][j]? = some u → (w.alloc (.cells #[a, b] t)).cell? ((⟨n, 0, none⟩ : Addr).add j) = some u := by
  subst hn; exact cell_two_new w a b t
theorem grown_cell {w w' : World} {row : Option Nat} (hg : w.grownBy w' row) {b o : Nat} (hb : b < w.heap.size) (hr : row ≠ some b) : w'.cell? ⟨b, o, none⟩ = w.cell? ⟨b, o, none⟩ :=
  World.cell?_of_block (w := w) (hg.block b hb (fun e => hr e.symm))
theorem grown_frozen {w w' : World} {row : Option Nat} (hg : w.grownBy w' row) {b o : Nat} (hb : b < w.heap.size) (hr : row ≠ some b) : w'.frozen? ⟨b, o, none⟩ = w.frozen? ⟨b, o, none⟩ :=
  World.frozen?_of_block (w := w) (hg.block b hb (fun e => hr e.symm))
end Go.Proofs.YtnaamljflcgepaaGreatDoor
namespace Go.Proofs.YtnaamljflcgepaaGreatDoor
open Go.RowKit
section
variable {P : Program} (w : World)
theorem run_append_at (base : Nat) (t ty e : TypeId) (i : TypeInfo) (z : Value) (size bytes : Nat) (ht : P.underlying t = some (.slice e)) (hi : P.info? e = some i) (hz : i.zero = some z)
    (hsize : i.size = size) (hby : i.bytes = bytes) (hzs : z.cells.size = size) (hsz : 0 < size)
    (v : Value) (n : Nat) (xs : List Value) (hown : w.ownsRow base e size v n xs)
    (a : Addr) (m c : Nat) (news : List Value) (hl : news.length = m * size) (hnews : ∀ j u, news[j]? = some u → w.cell? (a.add j) = some u) (h1 : ∀ u ∈ news, u.oneCell' = true)
    (h63 : n + m ≤ maxLen) (hbytes : (n + m) * bytes ≤ 140737488355328) (hbase : base ≤ w.heap.size) :
    ∃ v' w', (Builtin.append_ #[t, t] ty #[v, .slice (some a) m c]).run P w = .ok v' w' ∧ w'.ownsRow base e size v' (n + m) (xs ++ news) ∧ w.grownBy w' v.ownBlock ∧
      (v' = .slice none 0 0 ↔ v = .slice none 0 0 ∧ m = 0) ∧ ∀ k, v'.ownBlock = some k → v.ownBlock = some k ∨ k = w.heap.size := by
  obtain ⟨v', w', hr, h2, h3, h4⟩ := run_append_own (P := P) w base t ty e i z size bytes ht hi hz hsize hby hzs hsz v n xs hown a m c news hl hnews h1 h63 hbytes hbase
  refine ⟨v', w', hr, h2, h3, h4, ?_⟩
  have hsmall : n + m ≤ 9223372036854775807 := by simp only [maxLen] at h63; omega
  have key : ∀ (u : Value) (x : World), (Builtin.append_ #[t, t] ty #[v, .slice (some a) m c]).run P w = .ok u x → v' = u := by
    intro u x hx
    rw [hr] at hx
    injection hx
  subst hsize
  subst hby
  rcases hown.2 with ⟨rfl, rfl⟩ | ⟨g, cap, cur, rfl, hbg, hg, hnc, hcm, hcs, htake⟩
  · by_cases hm : m = 0
    · rw [h4.2 ⟨rfl, hm⟩]
      intro k hk
      simp [Value.ownBlock] at hk
    · have hr2 := run_append_nil (P := P) w t ty e i z ht hi hz a m c news hl hnews (by omega) (by omega) (by have hb := hbytes; simp only [Nat.zero_add] at hb; omega)
      rw [key _ _ hr2]
      intro k hk
      simp [Value.ownBlock] at hk
      exact .inr hk.symm
  · by_cases hroom : n + m ≤ cap
    · have hfit : n * i.size + news.length ≤ cur.size := by rw [hl, hcs, ← Nat.add_mul]; exact Nat.mul_le_mul_right _ hroom
      have hr2 := run_append_room (P := P) w t ty e i ht hi g n cap cur hg a m c news hl hnews h1 hroom hfit
      rw [key _ _ hr2]
      intro k hk
      exact .inl hk
    · have holds : ∀ j u, xs[j]? = some u → w.cell? ((⟨g, 0, none⟩ : Addr).add j) = some u := hown.cells (g := g) rfl
      have hr2 := run_append_grow (P := P) w t ty e i z ht hi hz ⟨g, 0, none⟩ n cap xs hown.1 holds a m c news hl hnews (by omega) (by omega) (growslice_fits (by omega) hbytes)
      rw [key _ _ hr2]
      intro k hk
      simp [Value.ownBlock] at hk
      exact .inr hk.symm
theorem wpList_append_at {ops : Array Oper} {rest : List Oper} {o : Oper} {a : Act} {Q : Exit → Act → World → Prop} (hgd : o.guard = none) (s x : Operand) (t : TypeId)
    (ho : o.op = .call { callee := .builtin .append, args := #[s, x], argTypes := #[t, t] })
    (base : Nat) (e : TypeId) (i : TypeInfo) (z : Value) (size bytes : Nat) (ht : P.underlying t = some (.slice e)) (hi : P.info? e = some i ∧ i.zero = some z ∧ i.size = size ∧ i.bytes = bytes)
    (hzs : z.cells.size = size) (hsz : 0 < size)
    (v : Value) (n : Nat) (xs : List Value) (hs : a.eval s = v) (hown : w.ownsRow base e size v n xs)
    (ad : Addr) (m c : Nat) (news : List Value) (hx : a.eval x = .slice (some ad) m c) (hl : news.length = m * size) (hnews : ∀ j u, news[j]? = some u → w.cell? (ad.add j) = some u) (h1 : ∀ u ∈ news, u.oneCell' = true)
    (h63 : n + m ≤ maxLen) (hbytes : (n + m) * bytes ≤ 140737488355328) (hbase : base ≤ w.heap.size)
    (h : ∀ v' w', w'.ownsRow base e size v' (n + m) (xs ++ news) → w.grownBy w' v.ownBlock → (∀ k, v'.ownBlock = some k → v.ownBlock = some k ∨ k = w.heap.size) → wpList P ops Q rest (a.put o.dst v') w') : wpList P ops Q (o :: rest) a w :=
  wpList_plain hgd fun K hK => by
    obtain ⟨v', w', hr, h2, h3, _, h4⟩ := run_append_at (P := P) w base t o.type e i z size bytes ht hi.1 hi.2.1 hi.2.2.1 hi.2.2.2 hzs hsz v n xs hown ad m c news hl hnews h1 h63 hbytes hbase
    have hh := hK _ _ (h v' w' h2 h3 h4)
    unfold Oper.wp execOp
    simp only [ho, resolve, invoke, builtin, Sem.run_bind, Sem.run_pure, Result.andThen_ok, List.map_toArray, List.map_cons, List.map_nil, hs, hx, hr]
    exact hh
/-- The same as one step of a region that draws its order. -/
theorem step_append_at {ops : Array Oper} {o : Oper} {a : Act} {K : Act → World → Prop} {Q : Exit → Act → World → Prop} {E : Prop}
    (hgd : o.guard = none) (s x : Operand) (t : TypeId) (ho : o.op = .call { callee := .builtin .append, args := #[s, x], argTypes := #[t, t] })
    (base : Nat) (e : TypeId) (i : TypeInfo) (z : Value) (size bytes : Nat) (ht : P.underlying t = some (.slice e)) (hi : P.info? e = some i ∧ i.zero = some z ∧ i.size = size ∧ i.bytes = bytes)
    (hzs : z.cells.size = size) (hsz : 0 < size)
    (v : Value) (n : Nat) (xs : List Value) (hs : a.eval s = v) (hown : w.ownsRow base e size v n xs)
    (ad : Addr) (m c : Nat) (news : List Value) (hx : a.eval x = .slice (some ad) m c) (hl : news.length = m * size) (hnews : ∀ j u, news[j]? = some u → w.cell? (ad.add j) = some u) (h1 : ∀ u ∈ news, u.oneCell' = true)
    (h63 : n + m ≤ maxLen) (hbytes : (n + m) * bytes ≤ 140737488355328) (hbase : base ≤ w.heap.size)
    (h : ∀ v' w', w'.ownsRow base e size v' (n + m) (xs ++ news) → w.grownBy w' v.ownBlock → (∀ k, v'.ownBlock = some k → v.ownBlock = some k ∨ k = w.heap.size) → K (a.put o.dst v') w') :
    if Region.wanted o (yielded ops a.tmps) = true then Oper.wp P o a w K Q else E := by
  have hw : Region.wanted o (yielded ops a.tmps) = true := by simp [Region.wanted, hgd]
  rw [if_pos hw]
  obtain ⟨v', w', hr, h2, h3, _, h4⟩ := run_append_at (P := P) w base t o.type e i z size bytes ht hi.1 hi.2.1 hi.2.2.1 hi.2.2.2 hzs hsz v n xs hown ad m c news hl hnews h1 h63 hbytes hbase
  have hh := h v' w' h2 h3 h4
  unfold Oper.wp execOp
  simp only [ho, resolve, invoke, builtin, Sem.run_bind, Sem.run_pure, Result.andThen_ok, List.map_toArray, List.map_cons, List.map_nil, hs, hx, hr]
  exact hh
end
/-- A value of the heap that owns its own block at 'b' and the block of a slice at cell 'o' of it. -/
def OwnS (w : World) (b o : Nat) (k : Nat) : Prop := k = b ∨ ∃ V, w.cell? ⟨b, o, none⟩ = some V ∧ V.ownBlock = some k
structure MovesS (b o : Nat) (w w' : World) : Prop where
  kept : Kept (OwnS w b o) w w'
  own : ∀ k, OwnS w' b o k → OwnS w b o k ∨ w.heap.size ≤ k
theorem MovesS.refl (b o : Nat) (w : World) : MovesS b o w w := ⟨Kept.refl _ _, fun _ h => .inl h⟩
theorem MovesS.trans {b o : Nat} {x y z : World} (h : MovesS b o x y) (k : MovesS b o y z) : MovesS b o x z :=
  ⟨h.kept.trans k.kept (fun i hi ho => (h.own i ho).resolve_right (by omega)), fun i ho => by
    rcases k.own i ho with ho | ho
    · exact h.own i ho
    · exact .inr (Nat.le_trans h.kept.size ho)⟩
theorem MovesS.drewN {b o : Nat} {x y : World} (h : MovesS b o x y) (n : Nat) : MovesS b o x (y.drewN n) := ⟨h.kept.drewN n, h.own⟩
theorem MovesS.ofBelow {b o : Nat} {w w' : World} {V : Value} (hV : w.cell? ⟨b, o, none⟩ = some V) (hb : Below w.heap.size w w') : MovesS b o w w' := by
  refine ⟨Kept.ofBelow hb, fun k hk => .inl ?_⟩
  rcases hk with hk | ⟨V', hV', hk⟩
  · exact .inl hk
  · rw [keep1 hb hV] at hV'; injection hV' with e; subst e; exact .inr ⟨_, hV, hk⟩
end Go.Proofs.YtnaamljflcgepaaGreatDoor
namespace Go.Proofs.YtnaamljflcgepaaGreatDoor
open Go.RowKit
set_option linter.unusedVariables false
namespace Led
theorem bondInfo : (Tryz.prog.info? 97).map (fun i => (i.zero, i.size, i.bytes)) = some (some (.agg #[.int .u64 0, .bool false]), 2, 16) := by kernel_rfl
set_option maxRecDepth 100000 in
theorem lock_ok (b : Nat) (p v x k : Int) (V : Value) (l : Nat) (xs : List Value) (w : World) (h0 : 0 ≤ p) (h1 : p < 8) (v0 : 0 ≤ v) (xv : v ≤ x) (k0 : 0 ≤ k) (x1 : x + k ≤ 281474976710656) (hl : (l : Int) < (65536 : Int)) (hf : ∀ o, w.frozen? ⟨b, o, none⟩ = false)
    (hx : w.cell? ⟨b, p.toNat, none⟩ = some (.int .u64 x)) (h8 : w.cell? ⟨b, 8, none⟩ = some V) (hk : w.cell? ⟨b, 11, none⟩ = some (.int .u64 k)) (hown : w.ownsRow (b + 1) 97 2 V l xs) :
    Calls Tryz.prog 20 #[.pointer (some ⟨b, 0, none⟩), .int .i64 p, .int .u64 v] w fun e w' => e = .returned (.tuple #[.int .i64 l, .nilIface]) ∧
      ∃ V' w1 m, w1.ownsRow (b + 1) 97 2 V' (l + 1) (xs ++ [.int .u64 v, .bool false]) ∧ Kept (fun k => k = b ∨ V.ownBlock = some k) w w1 ∧ w1.heap[b]? = ((w.setCell ⟨b, p.toNat, none⟩ (.int .u64 (x - v))).setCell ⟨b, 11, none⟩ (.int .u64 (k + v))).heap[b]? ∧
       (∀ k, V'.ownBlock = some k → V.ownBlock = some k ∨ w.heap.size ≤ k) ∧ w' = (w1.setCell ⟨b, 8, none⟩ V').drewN m := by
  have hb : b < w.heap.size := inHeap h8
  obtain ⟨i0, HI'⟩ := info_parts bondInfo
  have HI := Lib.hid HI'
  clear HI'
  obtain ⟨A, c, rfl⟩ : ∃ A c, V = .slice A l c := by
    rcases ownsRow_forms hown with ⟨rfl, rfl⟩ | ⟨g, c, rfl, _⟩
    · exact ⟨_, _, rfl⟩
    · exact ⟨_, _, rfl⟩
  have HO := Lib.hid hown
  have HB := Lib.hid hb
  clear hb
  clear hown
  go_enter Tryz.func20, Tryz.ntmps20
  go_wp2_with fail
  refine (check_ok b _ _ h0 h1).mono ?_
  rintro e w' ⟨rfl, q, rfl⟩
  have hd : decide ((65536 : Int) ≤ (l : Int)) = false := by simpa using hl

  clear hl
  have hx2 : (w.drewN q).cell? ⟨b, p.toNat, none⟩ = some (.int .u64 x) := hx
  have h82 : (w.drewN q).cell? ⟨b, 8, none⟩ = some (.slice A l c) := h8
  have hfp : (w.drewN q).frozen? ⟨b, p.toNat, none⟩ = false := hf _
  go_wp2_with fail
  go_region
  have e11 : ((w.drewN q).setCell ⟨b, p.toNat, none⟩ (.int .u64 (x - v))).cell? ⟨b, 11, none⟩ = some (.int .u64 k) := by
    rw [World.cell?_setCell_other _ _ _ _ (by simp <;> omega)]; exact hk
  have e8 : ((w.drewN q).setCell ⟨b, p.toNat, none⟩ (.int .u64 (x - v))).cell? ⟨b, 8, none⟩ = some (.slice A l c) := by
    rw [World.cell?_setCell_other _ _ _ _ (by simp <;> omega)]; exact h8
  have ef : ((w.drewN q).setCell ⟨b, p.toNat, none⟩ (.int .u64 (x - v))).frozen? ⟨b, 11, none⟩ = false := by simpa using hf 11
  have own1 : ((w.drewN q).setCell ⟨b, p.toNat, none⟩ (.int .u64 (x - v))).ownsRow (b + 1) 97 2 (.slice A l c) l xs := ownsRow_setCell_below (ownsRow_drewN HO.out q) (by simp) _
  have kep1 : Kept (fun k => k = b ∨ (Value.slice A l c).ownBlock = some k) w ((w.drewN q).setCell ⟨b, p.toNat, none⟩ (.int .u64 (x - v))) := ((Kept.refl _ w).drewN q).setCell (.inl (.inl rfl)) _
  have hkk := Lib.hid kep1
  clear kep1
  have h8b : (((w.drewN q).setCell ⟨b, p.toNat, none⟩ (.int .u64 (x - v))).setCell ⟨b, 11, none⟩ (.int .u64 (k + v))).cell? ⟨b, 8, none⟩ = some (.slice A l c) := by
    rw [World.cell?_setCell_other _ _ _ _ (by simp <;> omega)]; exact e8
  have hsz : (((w.drewN q).setCell ⟨b, p.toNat, none⟩ (.int .u64 (x - v))).setCell ⟨b, 11, none⟩ (.int .u64 (k + v))).heap.size = w.heap.size := by simp [World.setCell]
  have own2 : (((w.drewN q).setCell ⟨b, p.toNat, none⟩ (.int .u64 (x - v))).setCell ⟨b, 11, none⟩ (.int .u64 (k + v))).ownsRow (b + 1) 97 2 (.slice A l c) l xs := ownsRow_setCell_below own1 (by simp) _
  have HO2 := Lib.hid own2
  clear own1 own2
  go_wp2_with (at_builtin; refine wpList_append_at _ rfl _ _ 93 rfl (b + 1) 97 i0 (.agg #[.int .u64 0, .bool false]) 2 16 Tryz.underlying93 HI.out rfl (by decide) _ _ _ rfl (HO2.out.alloc _) ⟨w.heap.size, 0, none⟩ 1 1 [.int .u64 v, .bool false] rfl rfl ?c1 ?c2 ?c3 ?c4 ?c5 ?_)
  case c1 => exact two_at (by rw [size_setCell, size_setCell]; rfl) _ _ _
  case c2 => intro u hu; simp at hu; rcases hu with rfl | rfl <;> rfl
  case c3 => have := decide_eq_false_iff_not.1 hd; unfold maxLen; omega
  case c4 => have := decide_eq_false_iff_not.1 hd; omega
  case c5 => have := HB.out; simp [World.setCell]; omega
  intro V' w1 hown1 hgrow hwhere
  have hbw : b < ((((w.drewN (q + 1)).setCell ⟨b, p.toNat, none⟩ (.int .u64 (x - v))).setCell ⟨b, 11, none⟩ (.int .u64 (k + v))).alloc (Obj.cells #[.int .u64 v, .bool false] 97)).heap.size := by have := HB.out; simp [World.setCell]; omega
  have hne : (Value.slice A l c).ownBlock ≠ some b := by
    intro e
    have := (HO.out.lt b e).1
    omega
  have c8 := (grown_cell (o := 8) hgrow hbw hne).trans ((World.cell?_alloc_lt _ _ _ (by have := HB.out; simpa [World.setCell] using this)).trans h8b)
  have f8 : w1.frozen? ⟨b, 8, none⟩ = false := (grown_frozen (o := 8) hgrow hbw hne).trans ((World.frozen?_alloc_old _ _ _ (by have := HB.out; simp [World.setCell]; omega)).trans (by simpa using hf 8))
  obtain ⟨A', c', rfl⟩ : ∃ A c, V' = .slice A (l + 1) c := by
    rcases ownsRow_forms hown1 with ⟨rfl, h⟩ | ⟨g, c, rfl, _⟩
    · omega
    · exact ⟨_, _, rfl⟩
  have c8' : (w1.setCell ⟨b, 8, none⟩ (.slice A' (l + 1) c')).cell? ⟨b, 8, none⟩ = some (.slice A' (l + 1) c') := World.cell?_setCell_same _ _ _ c8
  have HW := Lib.hid hown1
  have HG := Lib.hid hgrow
  have HBW := Lib.hid hbw
  have HN := Lib.hid hne
  have HH := Lib.hid hwhere
  clear hown1 hgrow hbw hne hwhere
  go_wp2_with fail
  go_ret2
  have hw : wrap64 (l : Int) = l := by have := decide_eq_false_iff_not.1 hd; simp only [wrap64]; omega
  refine ⟨?_, .slice A' (l + 1) c', w1, 0, HW.out, ?_, ?_, ?_, rfl⟩
  · show Ending.returned (.tuple #[.int .i64 (wrap64 (l : Int)), .nilIface]) = _
    rw [hw]
  · exact (((hkk.out.drewN 1).setCell (.inl (.inl rfl)) _).alloc _).grown HG.out (fun k hk => .inl (.inr hk))
  · exact (HG.out.block b HBW.out (fun e => HN.out e.symm)).trans (Below.heap_alloc _ _ _ (by have := HB.out; simpa [World.setCell] using this))
  · intro k hk
    rcases HH.out k hk with h | h
    · exact .inl h
    · exact .inr (by rw [h]; simp)
end Led
end Go.Proofs.YtnaamljflcgepaaGreatDoor
