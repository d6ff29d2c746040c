/- Merged of Kec Row Kw Laid Err Qin Ya Yb Yc Yd. Own work. -/
import Derived.Below
import Derived.WalkKit
import Derived.WalkSmall
import Derived.Deep.Draws
import Derived.Laws.BitsAllLaws
import Derived.Outline
import Derived.Lib.Hide
import Derived.Test.YtbenjgncbpafbaaGreatDoorRows
import Derived.LaidLaws
import Derived.LaidHandle
import Derived.LaidSub
import Derived.Stop.Joined
import Derived.ChangeVars
import Derived.RowKitTokens
import Derived.OpenShut
import Derived.LaidEql
import Derived.Stop.Asserts
import Derived.BigQuiet
import Derived.Deep.QuietTactic
import Derived.IntWalk
import Derived.Deep.Cut
import Derived.Deep.Slices
namespace Go.Proofs.YtbenjgncbpafbaaGreatDoor
set_option linter.unusedVariables false
namespace Kc
abbrev Wd64 := BitVec 64
def rotl (x : Wd64) (r : Nat) : Wd64 := x.rotateLeft r
/-- The parity of a column. -/
def par (a : Nat → Wd64) (x : Nat) : Wd64 := a x ^^^ a (x + 5) ^^^ a (x + 10) ^^^ a (x + 15) ^^^ a (x + 20)
def dd (a : Nat → Wd64) (x : Nat) : Wd64 := par a ((x + 4) % 5) ^^^ rotl (par a ((x + 1) % 5)) 1
def theta (a : Nat → Wd64) (j : Nat) : Wd64 := a j ^^^ dd a (j % 5)
/-- By how much each word is turned. -/
def turns : List Nat := [0, 1, 62, 28, 27, 36, 44, 6, 55, 20, 3, 10, 43, 25, 39, 41, 45, 15, 21, 8, 18, 2, 61, 56, 14]
/-- From where a word comes. -/
def src (k : Nat) : Nat := (3 * (k / 5) + k % 5) % 5 + 5 * (k % 5)
def rhopi (a : Nat → Wd64) (k : Nat) : Wd64 := rotl (a (src k)) (turns.getD (src k) 0)
def chi (b : Nat → Wd64) (k : Nat) : Wd64 := b k ^^^ (~~~ b (5 * (k / 5) + (k % 5 + 1) % 5) &&& b (5 * (k / 5) + (k % 5 + 2) % 5))
def iota (c : Wd64) (a : Nat → Wd64) (k : Nat) : Wd64 := if k = 0 then a 0 ^^^ c else a k
def rnd (c : Wd64) (a : Nat → Wd64) : Nat → Wd64 := iota c (chi (rhopi (theta a)))
def consts : List Wd64 := [0x1#64, 0x8082#64, 0x800000000000808a#64, 0x8000000080008000#64, 0x808b#64, 0x80000001#64, 0x8000000080008081#64, 0x8000000000008009#64,
  0x8a#64, 0x88#64, 0x80008009#64, 0x8000000a#64, 0x8000808b#64, 0x800000000000008b#64, 0x8000000000008089#64, 0x8000000000008003#64,
  0x8000000000008002#64, 0x8000000000000080#64, 0x800a#64, 0x800000008000000a#64, 0x8000000080008081#64, 0x8000000000008080#64, 0x80000001#64, 0x8000000080008008#64]
def rnds (a : Nat → Wd64) (n : Nat) : Nat → Wd64 := (consts.take n).foldl (fun a c => rnd c a) a
def perm (a : Nat → Wd64) : Nat → Wd64 := rnds a 24

/-! ## rotl -/
theorem rotl_bit (x : Wd64) (r n : Nat) (hn : n < 64) : (rotl x r).getLsbD n = x.getLsbD ((n + 64 - r % 64) % 64) := by
  unfold rotl
  rw [BitVec.getLsbD_rotateLeft]
  by_cases h : n < r % 64
  · rw [decide_eq_true h]
    show x.getLsbD (64 - r % 64 + n) = _
    congr 1
    omega
  · rw [decide_eq_false h, decide_eq_true hn]
    show (true && x.getLsbD (n - r % 64)) = _
    rw [Bool.true_and]
    congr 1
    omega
end Kc
end Go.Proofs.YtbenjgncbpafbaaGreatDoor
namespace Go.Proofs.YtbenjgncbpafbaaGreatDoor
open Go.RowKit
def IsRow (k : IntKind) (w : World) (a : Option Addr) (len cap : Nat) (zs : List Int) : Prop :=
  (a = none ∧ len = 0 ∧ cap = 0 ∧ zs = []) ∨
  ∃ x, a = some x ∧ len ≤ cap ∧ cap ≤ maxLen ∧ zs.length = cap ∧ (∀ i, i < zs.length → w.cell? (x.add i) = some (.int k (zs.getD i 0))) ∧ ∀ n ∈ zs, (Lit.int k n).wf = true
theorem add_at (b off i : Nat) : (⟨b, off, none⟩ : Addr).add i = ⟨b, off + i, none⟩ := by
  cases i with
  | zero => rfl
  | succ n => rfl
theorem bl {a w w' : World} (h : Below a.heap.size a w) (h2 : Below w.heap.size w w') : Below a.heap.size a w' := h.trans (h2.mono h.size)
/-- Two cells of a block. -/
theorem keep1 {W w1 : World} {b o : Nat} {x : Value} (hb : Below W.heap.size W w1) (h : W.cell? ⟨b, o, none⟩ = some x) : w1.cell? ⟨b, o, none⟩ = some x := by
  have hl : b < W.heap.size := by
    rcases Nat.lt_or_ge b W.heap.size with h1 | h1
    · exact h1
    · simp [World.cell?, Array.getElem?_eq_none h1] at h
  rw [hb.cell (p := ⟨b, o, none⟩) hl]; exact h
theorem inHeap {w : World} {b o : Nat} {x : Value} (h : w.cell? ⟨b, o, none⟩ = some x) : b < w.heap.size := by
  rcases Nat.lt_or_ge b w.heap.size with h1 | h1
  · exact h1
  · simp [World.cell?, Array.getElem?_eq_none h1] at h
end Go.Proofs.YtbenjgncbpafbaaGreatDoor
namespace Go.Proofs.YtbenjgncbpafbaaGreatDoor
open Go.RowKit
set_option linter.unusedVariables false
namespace Kc
/-- A word as Go's number. -/
def W (x : Wd64) : Int := (x.toNat : Int)
theorem W_bd (x : Wd64) : 0 ≤ W x ∧ W x < 18446744073709551616 := by have := x.isLt; unfold W; omega
theorem W_xor (x y : Wd64) : bits .xor .u64 (W x) (W y) = W (x ^^^ y) := by
  unfold W; rw [u64_xor_nat _ _ x.isLt y.isLt, BitVec.toNat_xor]
theorem W_and (x y : Wd64) : bits .and .u64 (W x) (W y) = W (x &&& y) := by
  unfold W; rw [u64_and_nat _ _ x.isLt y.isLt, BitVec.toNat_and]
theorem W_or (x y : Wd64) : bits .or .u64 (W x) (W y) = W (x ||| y) := by
  unfold W; rw [u64_or_nat _ _ x.isLt y.isLt, BitVec.toNat_or]
theorem W_shl (x : Wd64) (s : Nat) (hs : s < 64) : W x * 2 ^ s % 18446744073709551616 = W (x <<< s) := by
  unfold W
  rw [BitVec.toNat_shiftLeft, Nat.shiftLeft_eq]
  have : ((x.toNat : Int) * 2 ^ s) = ((x.toNat * 2 ^ s : Nat) : Int) := by rw [Int.natCast_mul, Int.natCast_pow]; rfl
  rw [this]; rfl
theorem W_shr (x : Wd64) (s : Nat) : W x / 2 ^ s = W (x >>> s) := by
  unfold W
  rw [BitVec.toNat_ushiftRight, Nat.shiftRight_eq_div_pow, Int.natCast_ediv, Int.natCast_pow]; rfl
theorem rotl_is (x : Wd64) (s : Nat) (h0 : 0 < s) (hs : s < 64) : (x <<< s) ||| (x >>> (64 - s)) = rotl x s := by
  apply BitVec.eq_of_getLsbD_eq
  intro i hi
  rw [rotl_bit _ _ _ hi, BitVec.getLsbD_or, BitVec.getLsbD_shiftLeft, BitVec.getLsbD_ushiftRight, decide_eq_true hi]
  by_cases h : i < s
  · rw [decide_eq_true h]
    have e : 64 - s + i = (i + 64 - s % 64) % 64 := by omega
    rw [e]; simp
  · rw [decide_eq_false h]
    have e : (i + 64 - s % 64) % 64 = i - s := by omega
    rw [e, BitVec.getLsbD_of_ge x (64 - s + i) (by omega)]; simp
end Kc
end Go.Proofs.YtbenjgncbpafbaaGreatDoor
namespace Go.Proofs.YtbenjgncbpafbaaGreatDoor
open Go.RowKit
namespace Laid
theorem mem {P : Program} {w : World} {n : String} {d : DataW Unit} : ∀ {l : List (String × DataW Unit)} {ps : List MemPlace}, DataW.LaidVars P w l ps → (n, d) ∈ l →
    ∃ g t cs fuel p, P.globalNamed n = some g ∧ (P.globals[g]?).map (·.type) = some t ∧ w.var? P n = some cs ∧ DataW.trod (fun _ => ()) P w 0 (fun _ => true) false fuel t cs.toList = some (d, p) := by
  intro l
  induction l with
  | nil => intro ps h hx; cases hx
  | cons x r ih =>
    intro ps h hx
    obtain ⟨n', d'⟩ := x
    obtain ⟨g, t, cs, fuel, p, q, h1, h2, h3, h4, h5, h6⟩ := h
    rcases List.mem_cons.1 hx with e | hm
    · cases e
      exact ⟨g, t, cs, fuel, p, h1, h2, h3, h4⟩
    · exact ih h5 hm
/-- The table of the permutation's constants. -/
def KTab (w : World) : Prop := ∀ i, i < 24 → w.cell? ⟨0, i, none⟩ = some (.int .u64 (Kc.W (Kc.consts.getD i 0#64)))
theorem kNamed : Tryz.prog.globalNamed "moot/keccak.constants" = some 0 := by kernel_rfl
theorem kType : (Tryz.prog.globals[0]?).map (·.type) = some 185 := by kernel_rfl
theorem kCells : Tryz.prog.cellsOf 36 = 1 := by kernel_rfl
theorem kDatum : (Rows.laid_moot_keccak_constants : DataW Unit) = .agg (Kc.consts.map fun c => .lit (.int .u64 (Kc.W c))) := by kernel_rfl
theorem of_moot_keccak_constants {l : List (String × DataW Unit)} {W : World} (h : laidMetH Tryz.prog l W) (hx : ("moot/keccak.constants", Rows.laid_moot_keccak_constants) ∈ l) : KTab W := by
  obtain ⟨ps, hl, _⟩ := (laidMetH_iff.1 h).1
  obtain ⟨g, t, cs, fuel, p, h1, h2, h3, h4⟩ := mem hl (List.mem_filter.2 ⟨hx, by rfl⟩)
  obtain rfl := Option.some.inj (kNamed.symm.trans h1)
  obtain rfl := Option.some.inj (kType.symm.trans h2)
  obtain ⟨xs, m, rfl, hx1, hlen, hn, hel⟩ := DataW.trod_array Tryz.underlying185 h4
  rw [kDatum] at hx1
  simp only [Prod.mk.injEq, DataW.agg.injEq] at hx1
  intro j hj
  have e := hel j hj
  rw [kCells, Nat.mul_one, List.getElem?_eq_getElem (by omega)] at e
  obtain ⟨k, e1, e2, _⟩ := DataW.trod_int Tryz.underlying36 e
  have e3 : (xs.map (·.1))[j]? = some (.lit (.int .u64 k)) := by rw [List.getElem?_map, List.getElem?_eq_getElem (by omega), e2]; rfl
  have hjc : j < Kc.consts.length := hj
  rw [← hx1.1, List.getElem?_map, List.getElem?_eq_getElem hjc] at e3
  have e4 : Kc.W Kc.consts[j] = k := by have e8 := e3; simp at e8; exact e8
  have e5 : cs.toList[j]? = some (.int .u64 k) := by
    have h9 : ((cs.toList.drop j).take 1)[0]? = some (.int .u64 k) := by rw [e1]; rfl
    simpa using h9
  have e6 := World.var?_cell kNamed h3 j
  have e7 : cs[j]? = some (.int .u64 k) := by simpa using e5
  rw [List.getD_eq_getElem?_getD, List.getElem?_eq_getElem hjc]
  rw [show (some Kc.consts[j]).getD 0#64 = Kc.consts[j] by rfl, e4, ← e7]
  exact e6
end Laid
end Go.Proofs.YtbenjgncbpafbaaGreatDoor
namespace Go.Proofs.YtbenjgncbpafbaaGreatDoor
open Go.RowKit Go.Extern.Stop Go.Stop Go.Extern
namespace Err

section
variable {P : Program} (w : World)
theorem run_equalIn_num (d : Nat) {ti tn : TypeId} {ms : Array (String × TypeId)} {i : TypeInfo} {k : IntKind} (a b : Int)
    (hi : P.underlying ti = some (.interface ms)) (hn : P.underlying tn = some (.int k)) (hinfo : P.info? tn = some i) (hcomp : i.comparable = true) :
    (Op.equalIn (d + 2) ti (.iface tn (.int k a)) (.iface tn (.int k b))).run P w = .ok (a == b) w := by
  simp [Op.equalIn, run_underlying hi, run_underlying hn, typeInfo, hinfo, hcomp]
theorem run_eql_num {ti tn : TypeId} {ms : Array (String × TypeId)} {i : TypeInfo} {k : IntKind} (a b : Int)
    (hi : P.underlying ti = some (.interface ms)) (hn : P.underlying tn = some (.int k)) (hinfo : P.info? tn = some i) (hcomp : i.comparable = true) :
    (binOp .eql ti (.iface tn (.int k a)) (.iface tn (.int k b))).run P w = .ok (.bool (a == b)) w := by
  simp only [binOp]
  simp [Op.equal, Op.maxDepth, run_equalIn_num w 9998 a b hi hn hinfo hcomp]
end

/-! closed facts: what 'reflectlite.TypeOf(target).Comparable()' gives at such a target -/
theorem isTypeOf (v : Value) (w : World) : (Extern.ReflectliteType.typeOf #[.iface 34 v]).run Tryz.prog w = .ok (.iface 89 (.agg #[.pointer (some ⟨3, 34, none⟩)])) w := by kernel_rfl
/-- The entry of (rtype).Comparable, under a name that the walk does not open. -/
noncomputable def cmpM : Array Value → Sem Value := Extern.ReflectliteType.method fun t => do Extern.Rtype.noPackHeld "Comparable" t; pure (.bool (← typeInfo t).comparable)
theorem isComparable (w : World) : (cmpM #[.agg #[.pointer (some ⟨3, 34, none⟩)]]).run Tryz.prog w = .ok (.bool true) w := by kernel_rfl
theorem isMethodComparable (v : Value) (w : World) : (Go.method 324 89 v "Comparable").run Tryz.prog w = .ok (118, v) w := by kernel_rfl
theorem isComp : (Tryz.prog.info? 34).map (·.comparable) = some true := by kernel_rfl
theorem noIs (v : Value) (xT : TypeId) (w : World) : (Instr.typeAssert (.iface 34 v) xT 91 true).run Tryz.prog w = .ok (.tuple #[.nilIface, .bool false]) w := run_typeAssert_lacksB Tryz.underlying91 (by kernel_rfl) (by kernel_rfl) v xT w
theorem noUnwrap (v : Value) (xT : TypeId) (w : World) : (Instr.typeAssert (.iface 34 v) xT 94 true).run Tryz.prog w = .ok (.tuple #[.nilIface, .bool false]) w := run_typeAssert_lacksB Tryz.underlying94 (by kernel_rfl) (by kernel_rfl) v xT w
theorem noUnwraps (v : Value) (xT : TypeId) (w : World) : (Instr.typeAssert (.iface 34 v) xT 96 true).run Tryz.prog w = .ok (.tuple #[.nilIface, .bool false]) w := run_typeAssert_lacksB Tryz.underlying96 (by kernel_rfl) (by kernel_rfl) v xT w

/-- errors.Is of two numbers. -/
theorem is_num (m n : Int) (w : World) :
    Calls Tryz.prog 7 #[.iface 34 (.int .i64 m), .iface 34 (.int .i64 n)] w fun e w' => e = .returned (.bool (m == n)) ∧ w = w' := by
  obtain ⟨i, hi, hcmp⟩ := Option.map_eq_some_iff.1 isComp
  have h8 := @run_callFunc_extern Tryz.prog 13 _ Extern.ReflectliteType.typeOf Tryz.func13 (by kernel_rfl) (by kernel_rfl) (by kernel_rfl) (by kernel_rfl)
  have h32 := @run_callFunc_extern Tryz.prog 118 _ cmpM Tryz.func118 (by kernel_rfl) (by kernel_rfl) (by kernel_rfl) (by kernel_rfl)
  have tT := isTypeOf
  have cT := isComparable
  have mR := isMethodComparable
  have nE := noIs
  have uE := noUnwrap
  have vE := noUnwraps
  have heq := run_eql_num (P := Tryz.prog) w m n Tryz.underlying27 Tryz.underlying34 hi hcmp
  by_cases hmn : (m == n) = true
  · rw [hmn] at heq ⊢
    go_enter Tryz.func7, Tryz.ntmps7
    go_wp2
    refine wp_loop_rounds 1 ?_
    rw [rounds_succ]
    go_wp2
    go_ret
    exact ⟨rfl, rfl⟩
  · have hmn' : (m == n) = false := by simpa using hmn
    clear hmn
    rw [hmn'] at heq ⊢
    go_enter Tryz.func7, Tryz.ntmps7
    go_wp2
    refine wp_loop_rounds 1 ?_
    rw [rounds_succ]
    go_wp2
    go_ret
    exact ⟨rfl, rfl⟩
end Err
end Go.Proofs.YtbenjgncbpafbaaGreatDoor
namespace Go.Proofs.YtbenjgncbpafbaaGreatDoor
open Go.RowKit
set_option linter.unusedVariables false
/-- A world of the class R. -/
structure Wd (R : World → Prop) where
  val : World
  ok : R val
theorem wp_region_in {P : Program} {id : Nat} {Q : Exit → Act → World → Prop} {a : Act} {w : World} {l : List Oper} (R : World → Prop) (hm : P.follows .mixedOrders = true) (hB : Region.lexB .any l.toArray = true) (hR : R w.drew)
    (h : wpQuiet P l.toArray (fun w' => ∃ s : Wd R, w' = s.val) (fun a' => ∀ w', (∃ s : Wd R, w' = s.val) → Q .normal a' w') l a) : (Code.region id l.toArray true).wp P Q a w :=
  wp_region_quiet (C := fun w' => ∃ s : Wd R, w' = s.val) hm hB ⟨⟨_, hR⟩, rfl⟩ (by simpa using h)
/-- A contract over worlds of the class, from one that makes memory alone. -/
theorem in_of_below {P : Program} {f : FuncId} {args : Array Value} {v : Value} {R : World → Prop} (s : Wd R) (hR : ∀ y, Below s.val.heap.size s.val y → R y) (h : Calls P f args s.val fun e w' => e = .returned v ∧ Below s.val.heap.size s.val w') :
    Calls P f args s.val fun e w' => e = .returned v ∧ ∃ s' : Wd R, w' = s'.val :=
  h.mono fun e w' ⟨he, hb⟩ => ⟨he, ⟨w', hR w' hb⟩, rfl⟩
theorem in_of_same {P : Program} {f : FuncId} {args : Array Value} {v : Value} {R : World → Prop} (s : Wd R) (h : Calls P f args s.val fun e w' => e = .returned v ∧ s.val = w') :
    Calls P f args s.val fun e w' => e = .returned v ∧ ∃ s' : Wd R, w' = s'.val :=
  h.mono fun e w' ⟨he, hb⟩ => ⟨he, s, hb.symm⟩
end Go.Proofs.YtbenjgncbpafbaaGreatDoor
namespace Go.Proofs.YtbenjgncbpafbaaGreatDoor
open Go.RowKit
set_option linter.unusedVariables false
set_option linter.unusedSimpArgs false
namespace Vm
def pOp (x : Nat) : Nat := x / 2 ^ 56 % 256
def pN0 (x : Nat) : Nat := x / 2 ^ 32 % 256
def pD (x : Nat) : Nat := x / 2 ^ 52 % 16
def pA (x : Nat) : Nat := x / 2 ^ 48 % 16
def pB (x : Nat) : Nat := x / 2 ^ 44 % 16
def pC (x : Nat) : Nat := x / 2 ^ 40 % 16
/-- The number, as 32 bits with a sign. -/
def pN (x : Nat) : Int := ((x : Int) + 2147483648) % 4294967296 - 2147483648
def pOk (x : Nat) : Bool := decide (pOp x ≤ 35) && decide (pN0 x = 0)
/-- What Parts answers. -/
def partsV (x : Nat) : Value :=
  if pOk x = true then .tuple #[.int .i64 (pOp x), .int .i64 (pD x), .int .i64 (pA x), .int .i64 (pB x), .int .i64 (pC x), .int .i64 (pN x), .bool true]
  else .tuple #[.int .i64 0, .int .i64 0, .int .i64 0, .int .i64 0, .int .i64 0, .int .i64 0, .bool false]
theorem cut_walk (w : World) (q : Nat) (x : Nat) (k j : Nat) (hx : x < 18446744073709551616) (hk : k < 64) (hj : j ≤ 8) (k0 : w.cell? ⟨q, 0, none⟩ = some (.int .u64 x)) :
    Calls Tryz.prog 51 #[.int .u64 k, .int .u64 ((2 ^ j - 1 : Nat) : Int), .pointer (some ⟨q, 0, none⟩)] w fun e w' => e = .returned (.int .i64 ((x / 2 ^ k % 2 ^ j : Nat) : Int)) ∧ w = w' := by
  have hp : 2 ^ j ≤ 2 ^ 8 := Nat.pow_le_pow_right (by decide) hj
  have hpp : 0 < 2 ^ j := Nat.pow_pos (by decide)
  have hle : x / 2 ^ k ≤ x := Nat.div_le_self _ _
  have hb := u64_and_nat (x / 2 ^ k) (2 ^ j - 1) (by omega) (by omega)
  rw [Nat.and_two_pow_sub_one_eq_mod] at hb
  have hc : ((x / 2 ^ k : Nat) : Int) = (x : Int) / 2 ^ k := by rw [Int.natCast_ediv, Int.natCast_pow]; rfl
  have hw : wrap64 (((x / 2 ^ k % 2 ^ j : Nat)) : Int) = ((x / 2 ^ k % 2 ^ j : Nat) : Int) := by
    have := Nat.mod_lt (x / 2 ^ k) hpp
    generalize x / 2 ^ k % 2 ^ j = z at *
    unfold wrap64; omega
  rw [hc] at hb
  have HB := Lib.hid hb
  have HW := Lib.hid hw
  clear hb hw hc hle hpp hp
  generalize ((2 ^ j - 1 : Nat) : Int) = M at *
  generalize ((x / 2 ^ k % 2 ^ j : Nat) : Int) = R at *
  go_enter Tryz.func51, Tryz.ntmps51
  go_wp2_with (fail)
  rw [HB.out, HW.out]
  go_ret
  exact ⟨rfl, rfl⟩
theorem cut255 (w : World) (q x k : Nat) (hx : x < 18446744073709551616) (hk : k < 64) (k0 : w.cell? ⟨q, 0, none⟩ = some (.int .u64 x)) :
    Calls Tryz.prog 51 #[.int .u64 k, .int .u64 255, .pointer (some ⟨q, 0, none⟩)] w fun e w' => e = .returned (.int .i64 ((x / 2 ^ k % 256 : Nat) : Int)) ∧ w = w' := cut_walk w q x k 8 hx hk (by decide) k0
theorem cut15 (w : World) (q x k : Nat) (hx : x < 18446744073709551616) (hk : k < 64) (k0 : w.cell? ⟨q, 0, none⟩ = some (.int .u64 x)) :
    Calls Tryz.prog 51 #[.int .u64 k, .int .u64 15, .pointer (some ⟨q, 0, none⟩)] w fun e w' => e = .returned (.int .i64 ((x / 2 ^ k % 16 : Nat) : Int)) ∧ w = w' := cut_walk w q x k 4 hx hk (by decide) k0
theorem c56 (w : World) (q x : Nat) (hx : x < 18446744073709551616) (k0 : w.cell? ⟨q, 0, none⟩ = some (.int .u64 x)) :
    Calls Tryz.prog 51 #[.int .u64 56, .int .u64 255, .pointer (some ⟨q, 0, none⟩)] w fun e w' => e = .returned (.int .i64 (pOp x : Int)) ∧ w = w' := cut255 w q x 56 hx (by decide) k0
theorem c32 (w : World) (q x : Nat) (hx : x < 18446744073709551616) (k0 : w.cell? ⟨q, 0, none⟩ = some (.int .u64 x)) :
    Calls Tryz.prog 51 #[.int .u64 32, .int .u64 255, .pointer (some ⟨q, 0, none⟩)] w fun e w' => e = .returned (.int .i64 (pN0 x : Int)) ∧ w = w' := cut255 w q x 32 hx (by decide) k0
theorem c52 (w : World) (q x : Nat) (hx : x < 18446744073709551616) (k0 : w.cell? ⟨q, 0, none⟩ = some (.int .u64 x)) :
    Calls Tryz.prog 51 #[.int .u64 52, .int .u64 15, .pointer (some ⟨q, 0, none⟩)] w fun e w' => e = .returned (.int .i64 (pD x : Int)) ∧ w = w' := cut15 w q x 52 hx (by decide) k0
theorem c48 (w : World) (q x : Nat) (hx : x < 18446744073709551616) (k0 : w.cell? ⟨q, 0, none⟩ = some (.int .u64 x)) :
    Calls Tryz.prog 51 #[.int .u64 48, .int .u64 15, .pointer (some ⟨q, 0, none⟩)] w fun e w' => e = .returned (.int .i64 (pA x : Int)) ∧ w = w' := cut15 w q x 48 hx (by decide) k0
theorem c44 (w : World) (q x : Nat) (hx : x < 18446744073709551616) (k0 : w.cell? ⟨q, 0, none⟩ = some (.int .u64 x)) :
    Calls Tryz.prog 51 #[.int .u64 44, .int .u64 15, .pointer (some ⟨q, 0, none⟩)] w fun e w' => e = .returned (.int .i64 (pB x : Int)) ∧ w = w' := cut15 w q x 44 hx (by decide) k0
theorem c40 (w : World) (q x : Nat) (hx : x < 18446744073709551616) (k0 : w.cell? ⟨q, 0, none⟩ = some (.int .u64 x)) :
    Calls Tryz.prog 51 #[.int .u64 40, .int .u64 15, .pointer (some ⟨q, 0, none⟩)] w fun e w' => e = .returned (.int .i64 (pC x : Int)) ∧ w = w' := cut15 w q x 40 hx (by decide) k0
/-- A world in which the box holds the word. -/
structure Bx (W : World) (q x : Nat) (y : World) : Prop where
  cell : y.cell? ⟨q, 0, none⟩ = some (.int .u64 x)
  below : Below W.heap.size W y
set_option maxHeartbeats 1000000 in
set_option maxRecDepth 100000 in
theorem parts_walk (w : World) (x : Nat) (hx : x < 18446744073709551616) :
    Calls Tryz.prog 33 #[.int .u64 x] w fun e w' => e = .returned (partsV x) ∧ Below w.heap.size w w' := by
  have HB : Hid (Bx w w.heap.size x (w.alloc (.cells #[.int .u64 x] 36))) := Lib.hid ⟨by simp, (Below.refl _ _).alloc (Nat.le_refl _) _⟩
  have HX := Lib.hid hx
  clear hx
  have hv : Hid (partsV x = if pOk x = true then .tuple #[.int .i64 (pOp x), .int .i64 (pD x), .int .i64 (pA x), .int .i64 (pB x), .int .i64 (pC x), .int .i64 (pN x), .bool true]
    else .tuple #[.int .i64 0, .int .i64 0, .int .i64 0, .int .i64 0, .int .i64 0, .int .i64 0, .bool false]) := Lib.hid rfl
  have HP : Hid (pOk x = (decide (pOp x ≤ 35) && decide (pN0 x = 0))) := Lib.hid rfl
  have H56 := Lib.hid (fun z : Wd (Bx w w.heap.size x) => in_of_same z (Calls.mono (c56 z.val w.heap.size x HX.out z.ok.cell) fun e w' h => h))
  have H52 := Lib.hid (fun z : Wd (Bx w w.heap.size x) => in_of_same z (c52 z.val w.heap.size x HX.out z.ok.cell))
  have H48 := Lib.hid (fun z : Wd (Bx w w.heap.size x) => in_of_same z (c48 z.val w.heap.size x HX.out z.ok.cell))
  have H44 := Lib.hid (fun z : Wd (Bx w w.heap.size x) => in_of_same z (c44 z.val w.heap.size x HX.out z.ok.cell))
  have H40 := Lib.hid (fun z : Wd (Bx w w.heap.size x) => in_of_same z (c40 z.val w.heap.size x HX.out z.ok.cell))
  have C56 := Lib.hid (c56 _ w.heap.size x HX.out HB.out.cell)
  have C32 := Lib.hid (c32 _ w.heap.size x HX.out HB.out.cell)
  have HN : Hid (wrap64 (wrap32 (x : Int)) = pN x) := Lib.hid (by unfold pN wrap64 wrap32; omega)
  go_enter Tryz.func33, Tryz.ntmps33
  go_upto_region 2 with (fail)
  generalize w.alloc (.cells #[.int .u64 x] 36) = y at *
  go_upto_region 3 with (go_at_call 51; (with_reducible refine C56.out.mono ?_); rintro e y1 ⟨he, hy⟩; obtain rfl : e = _ := he; subst hy)
  by_cases h1 : pOp x ≤ 35
  · by_cases h2 : pN0 x = 0
    · have t1 : decide (35 < (pOp x : Int)) = false := by simp; omega
      have t2 : ((pN0 x : Int) != 0) = false := by simp [h2]
      have HK : Hid (pOk x = true) := Lib.hid (by rw [HP.out]; simp [h1, h2])
      clear h1 h2
      go_upto_region 5 with (go_at_call 51; (with_reducible refine C32.out.mono ?_); rintro e y1 ⟨he, hy⟩; obtain rfl : e = _ := he; subst hy)
      have NE : Nonempty (Wd (Bx w w.heap.size x)) := ⟨⟨_, HB.out⟩⟩
      have k0 : ∀ z : Wd (Bx w w.heap.size x), z.val.cell? ⟨w.heap.size, 0, none⟩ = some (.int .u64 x) := fun z => z.ok.cell
      refine wp_region_in (Bx w w.heap.size x) (by kernel_rfl) (by kernel_rfl) ⟨HB.out.cell, HB.out.below.drew⟩ ?_
      repeat (go_big_quiet_step (first | with_reducible exact H52.out _ | with_reducible exact H48.out _ | with_reducible exact H44.out _ | with_reducible exact H40.out _))
      refine wpQuiet_nil ?_
      rintro y2 ⟨z, rfl⟩
      go_wp2_with (fail)
      rw [HN.out]
      refine bodyPost_ret (v := partsV x) ?_ rfl ⟨rfl, z.ok.below⟩
      rw [hv.out, if_pos HK.out]
      simp [results, Tryz.results33, go_sem]
    · have t1 : decide (35 < (pOp x : Int)) = false := by simp; omega
      have t2 : ((pN0 x : Int) != 0) = true := by simp; omega
      have HK : Hid (¬ pOk x = true) := Lib.hid (by rw [HP.out]; simp [h2])
      clear h1 h2
      go_wp2_with (go_at_call 51; (with_reducible refine C32.out.mono ?_); rintro e y1 ⟨he, hy⟩; obtain rfl : e = _ := he; subst hy)
      refine bodyPost_ret (v := partsV x) ?_ rfl ⟨rfl, HB.out.below⟩
      rw [hv.out, if_neg HK.out]
      simp [results, Tryz.results33, go_sem]
  · have t1 : decide (35 < (pOp x : Int)) = true := by simp; omega
    have HK : Hid (¬ pOk x = true) := Lib.hid (by rw [HP.out]; simp [h1])
    clear h1
    go_wp2_with (fail)
    refine bodyPost_ret (v := partsV x) ?_ rfl ⟨rfl, HB.out.below⟩
    rw [hv.out, if_neg HK.out]
    simp [results, Tryz.results33, go_sem]
end Vm
end Go.Proofs.YtbenjgncbpafbaaGreatDoor
namespace Go.Proofs.YtbenjgncbpafbaaGreatDoor
open Go.RowKit
set_option linter.unusedVariables false
set_option linter.unusedSimpArgs false
section
variable {P : Program}
theorem wpList_indexE {ops : Array Oper} {rest : List Oper} {o : Oper} {a : Act} {w : World} {Q : Exit → Act → World → Prop} (hg : o.guard = none) (ty : TypeId) (x i : Operand) (ho : o.op = .index ty x i) (vx vi v : Value) (hx : a.eval x = vx) (hi : a.eval i = vi)
    (hl : (Instr.index ty vx vi).run P w = .ok v w) (h : wpList P ops Q rest (a.put o.dst v) w) : wpList P ops Q (o :: rest) a w :=
  wpList_plain hg fun _ hK => by
    unfold Oper.wp execOp
    simp only [ho, hx, hi]
    simp [hl, Result.andThen]
    exact hK _ _ h
end
namespace Vm
/-- Is a register one? -/
def gd (x : Int) : Prop := 0 ≤ x ∧ x ≤ 15
instance (x : Int) : Decidable (gd x) := by unfold gd; infer_instance
/-- Are these an instruction's parts? -/
def codeOk (op d a b c n : Int) : Prop := (0 ≤ op ∧ op ≤ 35 ∧ -2147483648 ≤ n ∧ n < 2147483648) ∧ gd d ∧ gd a ∧ gd b ∧ gd c
instance (op d a b c n : Int) : Decidable (codeOk op d a b c n) := by unfold codeOk; infer_instance
def codeW (op d a b c n : Int) : Int := op * 72057594037927936 + d * 4503599627370496 + a * 281474976710656 + b * 17592186044416 + c * 1099511627776 + n % 4294967296
def r4 (d a b c : Int) : Nat → Int
  | 0 => d
  | 1 => a
  | 2 => b
  | _ => c
def codeV (op d a b c n : Int) : Value := if codeOk op d a b c n then .tuple #[.int .u64 (codeW op d a b c n), .nilIface] else .tuple #[.int .u64 0, .iface 34 (.int .i64 2)]
/-- Two numbers whose bits do not meet. -/
theorem or_sum (x y k : Nat) (hx : x % 2 ^ k = 0) (hy : y < 2 ^ k) : x ||| y = x + y := by
  have h1 := Nat.div_add_mod x (2 ^ k)
  rw [hx, Nat.add_zero] at h1
  rw [← h1, Nat.mul_comm, ← Nat.shiftLeft_eq, Nat.shiftLeft_add_eq_or_of_lt hy]
theorem or_u64 (x y k : Nat) (hx : x % 2 ^ k = 0) (hy : y < 2 ^ k) (hxb : x < 18446744073709551616) (hyb : y < 18446744073709551616) : bits .or .u64 (x : Int) (y : Int) = ((x + y : Nat) : Int) := by
  rw [u64_or_nat x y hxb hyb, or_sum x y k hx hy]
/-- The parts, laid into one word. -/
theorem code_word (op d a b c n : Int) (h : codeOk op d a b c n) :
    bits .or .u64 (bits .or .u64 (bits .or .u64 (bits .or .u64 (bits .or .u64 (op * 72057594037927936) (d * 4503599627370496)) (a * 281474976710656)) (b * 17592186044416)) (c * 1099511627776)) (n % 4294967296) = codeW op d a b c n := by
  obtain ⟨⟨h1, h2, h3, h4⟩, ⟨d1, d2⟩, ⟨a1, a2⟩, ⟨b1, b2⟩, ⟨c1, c2⟩⟩ := h
  obtain ⟨o, rfl⟩ := Int.eq_ofNat_of_zero_le h1
  obtain ⟨d, rfl⟩ := Int.eq_ofNat_of_zero_le d1
  obtain ⟨a, rfl⟩ := Int.eq_ofNat_of_zero_le a1
  obtain ⟨b, rfl⟩ := Int.eq_ofNat_of_zero_le b1
  obtain ⟨c, rfl⟩ := Int.eq_ofNat_of_zero_le c1
  obtain ⟨m, hm⟩ := Int.eq_ofNat_of_zero_le (show 0 ≤ n % 4294967296 by omega)
  unfold codeW
  rw [hm]
  have hmb : m < 4294967296 := by omega
  have e1 : ((o : Nat) : Int) * 72057594037927936 = ((o * 72057594037927936 : Nat) : Int) := by omega
  have e2 : ((d : Nat) : Int) * 4503599627370496 = ((d * 4503599627370496 : Nat) : Int) := by omega
  have e3 : ((a : Nat) : Int) * 281474976710656 = ((a * 281474976710656 : Nat) : Int) := by omega
  have e4 : ((b : Nat) : Int) * 17592186044416 = ((b * 17592186044416 : Nat) : Int) := by omega
  have e5 : ((c : Nat) : Int) * 1099511627776 = ((c * 1099511627776 : Nat) : Int) := by omega
  rw [e1, e2, e3, e4, e5]
  rw [or_u64 _ _ 56 (by omega) (by omega) (by omega) (by omega), or_u64 _ _ 52 (by omega) (by omega) (by omega) (by omega), or_u64 _ _ 48 (by omega) (by omega) (by omega) (by omega), or_u64 _ _ 44 (by omega) (by omega) (by omega) (by omega), or_u64 _ _ 40 (by omega) (by omega) (by omega) (by omega)]
  omega
theorem wrap_part (x m : Int) (h0 : 0 ≤ x ∧ x ≤ 35) (h1 : 0 ≤ x * m ∧ x * m < 18446744073709551616) : IntKind.u64.wrap (IntKind.u64.wrap x * m) = x * m := by
  have e1 : IntKind.u64.wrap x = x := IntWalk.u64_in _ (by omega)
  rw [e1]
  exact IntWalk.u64_in _ (by omega)
theorem ix0 (d a b c : Int) (w : World) : (Instr.index 161 (.agg #[.int .i64 d, .int .i64 a, .int .i64 b, .int .i64 c]) (.int .i64 (0 : Nat))).run Tryz.prog w = .ok (.int .i64 d) w := by kernel_rfl
theorem ix1 (d a b c : Int) (w : World) : (Instr.index 161 (.agg #[.int .i64 d, .int .i64 a, .int .i64 b, .int .i64 c]) (.int .i64 (1 : Nat))).run Tryz.prog w = .ok (.int .i64 a) w := by kernel_rfl
theorem ix2 (d a b c : Int) (w : World) : (Instr.index 161 (.agg #[.int .i64 d, .int .i64 a, .int .i64 b, .int .i64 c]) (.int .i64 (2 : Nat))).run Tryz.prog w = .ok (.int .i64 b) w := by kernel_rfl
theorem ix3 (d a b c : Int) (w : World) : (Instr.index 161 (.agg #[.int .i64 d, .int .i64 a, .int .i64 b, .int .i64 c]) (.int .i64 (3 : Nat))).run Tryz.prog w = .ok (.int .i64 c) w := by kernel_rfl
set_option maxHeartbeats 1000000 in
set_option maxRecDepth 100000 in
theorem code_walk (w : World) (op d a b c n : Int) :
    Calls Tryz.prog 50 #[.int .i64 op, .int .i64 d, .int .i64 a, .int .i64 b, .int .i64 c, .int .i64 n] w fun e w' => e = .returned (codeV op d a b c n) ∧ w = w' := by
  have HV : Hid (codeV op d a b c n = if codeOk op d a b c n then .tuple #[.int .u64 (codeW op d a b c n), .nilIface] else .tuple #[.int .u64 0, .iface 34 (.int .i64 2)]) := Lib.hid rfl
  by_cases h1 : 0 ≤ op ∧ op ≤ 35 ∧ -2147483648 ≤ n ∧ n < 2147483648
  · have t1 : decide (op < 0) = false := by simp; omega
    have t2 : decide (35 < op) = false := by simp; omega
    have t3 : decide (n < -2147483648) = false := by simp; omega
    have t4 : decide (2147483648 ≤ n) = false := by simp; omega
    have H1 := Lib.hid h1
    clear h1
    go_enter Tryz.func50, Tryz.ntmps50
    go_upto_region 4 with (fail)
    clear t1 t2 t3 t4
    go_loopw [36] (fun t y => ∃ k : Nat, k ≤ 4 ∧ t = .int .i64 k ∧ Hid ((∀ i, i < k → gd (r4 d a b c i)) ∧ w = y)) (fun t _ => 4 - (intOf t).toNat)
    case atStart => exact ⟨0, by decide, rfl, Lib.hid ⟨fun i hi => by omega, rfl⟩⟩
    case round =>
      obtain ⟨k, hk, rfl, hp⟩ := hrel
      have HP := Lib.hid hp.out.1
      obtain rfl := hp.out.2
      clear hp
      by_cases h4 : k = 4
      · subst h4
        have hok : codeOk op d a b c n := ⟨H1.out, HP.out 0 (by decide), HP.out 1 (by decide), HP.out 2 (by decide), HP.out 3 (by decide)⟩
        have HC := Lib.hid (code_word op d a b c n hok)
        have HE := Lib.hid hok
        clear hok hk
        go_wp2_with (fail)
        refine bodyPost_ret (v := codeV op d a b c n) ?_ rfl ⟨rfl, rfl⟩
        rw [HV.out, if_pos HE.out, ← HC.out]
        have hh := HE.out
        unfold codeOk gd at hh
        have w0 := wrap_part op 72057594037927936 (by omega) (by omega)
        have w1 := wrap_part d 4503599627370496 (by omega) (by omega)
        have w2 := wrap_part a 281474976710656 (by omega) (by omega)
        have w3 := wrap_part b 17592186044416 (by omega) (by omega)
        have w4 := wrap_part c 1099511627776 (by omega) (by omega)
        rw [w0, w1, w2, w3, w4]
        simp [results, Tryz.results50, go_sem]
      · have hk3 : k = 0 ∨ k = 1 ∨ k = 2 ∨ k = 3 := by omega
        clear h4 hk
        rcases hk3 with rfl | rfl | rfl | rfl
        · have HIX := Lib.hid (ix0 d a b c w)
          by_cases hg : gd d
          · have t5 : decide (d < 0) = false := by have := hg.1; simp; omega
            have t6 : decide (15 < d) = false := by have := hg.2; simp; omega
            have HG := Lib.hid hg
            clear hg
            go_wp2_with ((with_reducible refine wpList_indexE (P := Tryz.prog) (w := w) ?_ 161 (.tmp 35) (.tmp 36) ?_ (.agg #[.int .i64 d, .int .i64 a, .int .i64 b, .int .i64 c]) (.int .i64 (0 : Nat)) (.int .i64 d) ?_ ?_ HIX.out ?_); (· exact rfl); (· exact rfl); (· exact rfl); (· exact rfl))
            go_roundw
            case rel => exact ⟨1, by decide, rfl, Lib.hid ⟨fun i hi => by
              by_cases e : i = 0
              · subst e; exact HG.out
              · exact HP.out i (by omega), trivial⟩⟩
            case measure => simp [intOf]
          · have hno : ¬ codeOk op d a b c n := fun h => hg h.2.1
            have HNO := Lib.hid hno
            by_cases h0 : d < 0
            · have t5 : decide (d < 0) = true := by simpa using h0
              clear hg hno h0
              go_wp2_with ((with_reducible refine wpList_indexE (P := Tryz.prog) (w := w) ?_ 161 (.tmp 35) (.tmp 36) ?_ (.agg #[.int .i64 d, .int .i64 a, .int .i64 b, .int .i64 c]) (.int .i64 (0 : Nat)) (.int .i64 d) ?_ ?_ HIX.out ?_); (· exact rfl); (· exact rfl); (· exact rfl); (· exact rfl))
              refine bodyPost_ret (v := codeV op d a b c n) ?_ rfl ⟨rfl, rfl⟩
              rw [HV.out, if_neg HNO.out]
              simp [results, Tryz.results50, go_sem]
            · have t5 : decide (d < 0) = false := by simpa using h0
              have t6 : decide (15 < d) = true := by simp; unfold gd at hg; omega
              clear hg hno h0
              go_wp2_with ((with_reducible refine wpList_indexE (P := Tryz.prog) (w := w) ?_ 161 (.tmp 35) (.tmp 36) ?_ (.agg #[.int .i64 d, .int .i64 a, .int .i64 b, .int .i64 c]) (.int .i64 (0 : Nat)) (.int .i64 d) ?_ ?_ HIX.out ?_); (· exact rfl); (· exact rfl); (· exact rfl); (· exact rfl))
              refine bodyPost_ret (v := codeV op d a b c n) ?_ rfl ⟨rfl, rfl⟩
              rw [HV.out, if_neg HNO.out]
              simp [results, Tryz.results50, go_sem]
        · have HIX := Lib.hid (ix1 d a b c w)
          by_cases hg : gd a
          · have t5 : decide (a < 0) = false := by have := hg.1; simp; omega
            have t6 : decide (15 < a) = false := by have := hg.2; simp; omega
            have HG := Lib.hid hg
            clear hg
            go_wp2_with ((with_reducible refine wpList_indexE (P := Tryz.prog) (w := w) ?_ 161 (.tmp 35) (.tmp 36) ?_ (.agg #[.int .i64 d, .int .i64 a, .int .i64 b, .int .i64 c]) (.int .i64 (1 : Nat)) (.int .i64 a) ?_ ?_ HIX.out ?_); (· exact rfl); (· exact rfl); (· exact rfl); (· exact rfl))
            go_roundw
            case rel => exact ⟨2, by decide, rfl, Lib.hid ⟨fun i hi => by
              by_cases e : i = 1
              · subst e; exact HG.out
              · exact HP.out i (by omega), trivial⟩⟩
            case measure => simp [intOf]
          · have hno : ¬ codeOk op d a b c n := fun h => hg h.2.2.1
            have HNO := Lib.hid hno
            by_cases h0 : a < 0
            · have t5 : decide (a < 0) = true := by simpa using h0
              clear hg hno h0
              go_wp2_with ((with_reducible refine wpList_indexE (P := Tryz.prog) (w := w) ?_ 161 (.tmp 35) (.tmp 36) ?_ (.agg #[.int .i64 d, .int .i64 a, .int .i64 b, .int .i64 c]) (.int .i64 (1 : Nat)) (.int .i64 a) ?_ ?_ HIX.out ?_); (· exact rfl); (· exact rfl); (· exact rfl); (· exact rfl))
              refine bodyPost_ret (v := codeV op d a b c n) ?_ rfl ⟨rfl, rfl⟩
              rw [HV.out, if_neg HNO.out]
              simp [results, Tryz.results50, go_sem]
            · have t5 : decide (a < 0) = false := by simpa using h0
              have t6 : decide (15 < a) = true := by simp; unfold gd at hg; omega
              clear hg hno h0
              go_wp2_with ((with_reducible refine wpList_indexE (P := Tryz.prog) (w := w) ?_ 161 (.tmp 35) (.tmp 36) ?_ (.agg #[.int .i64 d, .int .i64 a, .int .i64 b, .int .i64 c]) (.int .i64 (1 : Nat)) (.int .i64 a) ?_ ?_ HIX.out ?_); (· exact rfl); (· exact rfl); (· exact rfl); (· exact rfl))
              refine bodyPost_ret (v := codeV op d a b c n) ?_ rfl ⟨rfl, rfl⟩
              rw [HV.out, if_neg HNO.out]
              simp [results, Tryz.results50, go_sem]
        · have HIX := Lib.hid (ix2 d a b c w)
          by_cases hg : gd b
          · have t5 : decide (b < 0) = false := by have := hg.1; simp; omega
            have t6 : decide (15 < b) = false := by have := hg.2; simp; omega
            have HG := Lib.hid hg
            clear hg
            go_wp2_with ((with_reducible refine wpList_indexE (P := Tryz.prog) (w := w) ?_ 161 (.tmp 35) (.tmp 36) ?_ (.agg #[.int .i64 d, .int .i64 a, .int .i64 b, .int .i64 c]) (.int .i64 (2 : Nat)) (.int .i64 b) ?_ ?_ HIX.out ?_); (· exact rfl); (· exact rfl); (· exact rfl); (· exact rfl))
            go_roundw
            case rel => exact ⟨3, by decide, rfl, Lib.hid ⟨fun i hi => by
              by_cases e : i = 2
              · subst e; exact HG.out
              · exact HP.out i (by omega), trivial⟩⟩
            case measure => simp [intOf]
          · have hno : ¬ codeOk op d a b c n := fun h => hg h.2.2.2.1
            have HNO := Lib.hid hno
            by_cases h0 : b < 0
            · have t5 : decide (b < 0) = true := by simpa using h0
              clear hg hno h0
              go_wp2_with ((with_reducible refine wpList_indexE (P := Tryz.prog) (w := w) ?_ 161 (.tmp 35) (.tmp 36) ?_ (.agg #[.int .i64 d, .int .i64 a, .int .i64 b, .int .i64 c]) (.int .i64 (2 : Nat)) (.int .i64 b) ?_ ?_ HIX.out ?_); (· exact rfl); (· exact rfl); (· exact rfl); (· exact rfl))
              refine bodyPost_ret (v := codeV op d a b c n) ?_ rfl ⟨rfl, rfl⟩
              rw [HV.out, if_neg HNO.out]
              simp [results, Tryz.results50, go_sem]
            · have t5 : decide (b < 0) = false := by simpa using h0
              have t6 : decide (15 < b) = true := by simp; unfold gd at hg; omega
              clear hg hno h0
              go_wp2_with ((with_reducible refine wpList_indexE (P := Tryz.prog) (w := w) ?_ 161 (.tmp 35) (.tmp 36) ?_ (.agg #[.int .i64 d, .int .i64 a, .int .i64 b, .int .i64 c]) (.int .i64 (2 : Nat)) (.int .i64 b) ?_ ?_ HIX.out ?_); (· exact rfl); (· exact rfl); (· exact rfl); (· exact rfl))
              refine bodyPost_ret (v := codeV op d a b c n) ?_ rfl ⟨rfl, rfl⟩
              rw [HV.out, if_neg HNO.out]
              simp [results, Tryz.results50, go_sem]
        · have HIX := Lib.hid (ix3 d a b c w)
          by_cases hg : gd c
          · have t5 : decide (c < 0) = false := by have := hg.1; simp; omega
            have t6 : decide (15 < c) = false := by have := hg.2; simp; omega
            have HG := Lib.hid hg
            clear hg
            go_wp2_with ((with_reducible refine wpList_indexE (P := Tryz.prog) (w := w) ?_ 161 (.tmp 35) (.tmp 36) ?_ (.agg #[.int .i64 d, .int .i64 a, .int .i64 b, .int .i64 c]) (.int .i64 (3 : Nat)) (.int .i64 c) ?_ ?_ HIX.out ?_); (· exact rfl); (· exact rfl); (· exact rfl); (· exact rfl))
            go_roundw
            case rel => exact ⟨4, by decide, rfl, Lib.hid ⟨fun i hi => by
              by_cases e : i = 3
              · subst e; exact HG.out
              · exact HP.out i (by omega), trivial⟩⟩
            case measure => simp [intOf]
          · have hno : ¬ codeOk op d a b c n := fun h => hg h.2.2.2.2
            have HNO := Lib.hid hno
            by_cases h0 : c < 0
            · have t5 : decide (c < 0) = true := by simpa using h0
              clear hg hno h0
              go_wp2_with ((with_reducible refine wpList_indexE (P := Tryz.prog) (w := w) ?_ 161 (.tmp 35) (.tmp 36) ?_ (.agg #[.int .i64 d, .int .i64 a, .int .i64 b, .int .i64 c]) (.int .i64 (3 : Nat)) (.int .i64 c) ?_ ?_ HIX.out ?_); (· exact rfl); (· exact rfl); (· exact rfl); (· exact rfl))
              refine bodyPost_ret (v := codeV op d a b c n) ?_ rfl ⟨rfl, rfl⟩
              rw [HV.out, if_neg HNO.out]
              simp [results, Tryz.results50, go_sem]
            · have t5 : decide (c < 0) = false := by simpa using h0
              have t6 : decide (15 < c) = true := by simp; unfold gd at hg; omega
              clear hg hno h0
              go_wp2_with ((with_reducible refine wpList_indexE (P := Tryz.prog) (w := w) ?_ 161 (.tmp 35) (.tmp 36) ?_ (.agg #[.int .i64 d, .int .i64 a, .int .i64 b, .int .i64 c]) (.int .i64 (3 : Nat)) (.int .i64 c) ?_ ?_ HIX.out ?_); (· exact rfl); (· exact rfl); (· exact rfl); (· exact rfl))
              refine bodyPost_ret (v := codeV op d a b c n) ?_ rfl ⟨rfl, rfl⟩
              rw [HV.out, if_neg HNO.out]
              simp [results, Tryz.results50, go_sem]
  · have hno : ¬ codeOk op d a b c n := fun h => h1 h.1
    have HNO := Lib.hid hno
    have h5 : op < 0 ∨ (0 ≤ op ∧ 35 < op) ∨ (0 ≤ op ∧ op ≤ 35 ∧ n < -2147483648) ∨ (0 ≤ op ∧ op ≤ 35 ∧ -2147483648 ≤ n ∧ 2147483648 ≤ n) := by omega
    clear h1 hno
    rcases h5 with h5 | h5 | h5 | h5
    · have t1 : decide (op < 0) = true := by simpa using h5
      clear h5
      go_enter Tryz.func50, Tryz.ntmps50
      go_wp2_with (fail)
      refine bodyPost_ret (v := codeV op d a b c n) ?_ rfl ⟨rfl, rfl⟩
      rw [HV.out, if_neg HNO.out]
      simp [results, Tryz.results50, go_sem]
    · have t1 : decide (op < 0) = false := by simp; omega
      have t2 : decide (35 < op) = true := by simp; omega
      clear h5
      go_enter Tryz.func50, Tryz.ntmps50
      go_wp2_with (fail)
      refine bodyPost_ret (v := codeV op d a b c n) ?_ rfl ⟨rfl, rfl⟩
      rw [HV.out, if_neg HNO.out]
      simp [results, Tryz.results50, go_sem]
    · have t1 : decide (op < 0) = false := by simp; omega
      have t2 : decide (35 < op) = false := by simp; omega
      have t3 : decide (n < -2147483648) = true := by simp; omega
      clear h5
      go_enter Tryz.func50, Tryz.ntmps50
      go_wp2_with (fail)
      refine bodyPost_ret (v := codeV op d a b c n) ?_ rfl ⟨rfl, rfl⟩
      rw [HV.out, if_neg HNO.out]
      simp [results, Tryz.results50, go_sem]
    · have t1 : decide (op < 0) = false := by simp; omega
      have t2 : decide (35 < op) = false := by simp; omega
      have t3 : decide (n < -2147483648) = false := by simp; omega
      have t4 : decide (2147483648 ≤ n) = true := by simp; omega
      clear h5
      go_enter Tryz.func50, Tryz.ntmps50
      go_wp2_with (fail)
      refine bodyPost_ret (v := codeV op d a b c n) ?_ rfl ⟨rfl, rfl⟩
      rw [HV.out, if_neg HNO.out]
      simp [results, Tryz.results50, go_sem]
end Vm
end Go.Proofs.YtbenjgncbpafbaaGreatDoor
namespace Go.Proofs.YtbenjgncbpafbaaGreatDoor
open Go.RowKit
set_option linter.unusedVariables false
set_option linter.unusedSimpArgs false
namespace Vm
end Vm
end Go.Proofs.YtbenjgncbpafbaaGreatDoor
namespace Go.Proofs.YtbenjgncbpafbaaGreatDoor
open Go.RowKit
set_option linter.unusedVariables false
set_option linter.unusedSimpArgs false
namespace Vm
structure R5 (w : World) (q : Nat) (f : Nat → Int) : Prop where
  k0 : w.cell? ⟨q, 0, none⟩ = some (.int .i64 (f 0))
  k1 : w.cell? ⟨q, 1, none⟩ = some (.int .i64 (f 1))
  k2 : w.cell? ⟨q, 2, none⟩ = some (.int .i64 (f 2))
  k3 : w.cell? ⟨q, 3, none⟩ = some (.int .i64 (f 3))
  k4 : w.cell? ⟨q, 4, none⟩ = some (.int .i64 (f 4))
theorem R5.below {w w' : World} {q : Nat} {f : Nat → Int} (h : R5 w q f) (hb : Below w.heap.size w w') : R5 w' q f := ⟨keep1 hb h.k0, keep1 hb h.k1, keep1 hb h.k2, keep1 hb h.k3, keep1 hb h.k4⟩
theorem R5.new (w : World) (a b c d e : Int) (f : Nat → Int) (h0 : f 0 = a) (h1 : f 1 = b) (h2 : f 2 = c) (h3 : f 3 = d) (h4 : f 4 = e) :
    R5 (w.alloc (.cells #[.int .i64 a, .int .i64 b, .int .i64 c, .int .i64 d, .int .i64 e] 3)) w.heap.size f := ⟨by simp [h0], by simp [h1], by simp [h2], by simp [h3], by simp [h4]⟩
end Vm
end Go.Proofs.YtbenjgncbpafbaaGreatDoor
