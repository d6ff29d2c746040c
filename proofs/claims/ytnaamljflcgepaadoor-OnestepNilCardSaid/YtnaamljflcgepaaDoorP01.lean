/- Merged of Kec Row Kw Laid Krot Kprm Tab Kept Qin. Own work. -/
import Derived.Below
import Derived.WalkKit
import Derived.WalkSmall
import Derived.Deep.Draws
import Derived.Laws.BitsAllLaws
import Derived.Outline
import Derived.Lib.Hide
import Derived.Test.YtnaamljflcgepaaDoorRows
import Derived.LaidLaws
import Derived.LaidHandle
import Derived.LaidSub
import Derived.Stop.Joined
import Derived.ChangeVars
import Derived.RowKitTokens
import Derived.OpenShut
import Derived.LoopTactic
import Derived.Deep.Cut
import Derived.Deep.WholeRow
import Derived.Laws.Tables
import Derived.Deep.MidRow
import Derived.Laws.OwnMore
import Derived.OwnWalk
import Derived.BigQuiet
import Derived.Deep.QuietTactic
namespace Go.Proofs.YtnaamljflcgepaaDoor
set_option linter.unusedVariables false
namespace Kc
abbrev Wd64 := BitVec 64
def rotl (x : Wd64) (r : Nat) : Wd64 := x.rotateLeft r
/-- The parity of a column. -/
def par (a : Nat → Wd64) (x : Nat) : Wd64 := a x ^^^ a (x + 5) ^^^ a (x + 10) ^^^ a (x + 15) ^^^ a (x + 20)
def dd (a : Nat → Wd64) (x : Nat) : Wd64 := par a ((x + 4) % 5) ^^^ rotl (par a ((x + 1) % 5)) 1
def theta (a : Nat → Wd64) (j : Nat) : Wd64 := a j ^^^ dd a (j % 5)
/-- By how much each word is turned. -/
def turns : List Nat := [0, 1, 62, 28, 27, 36, 44, 6, 55, 20, 3, 10, 43, 25, 39, 41, 45, 15, 21, 8, 18, 2, 61, 56, 14]
/-- From where a word comes. -/
def src (k : Nat) : Nat := (3 * (k / 5) + k % 5) % 5 + 5 * (k % 5)
def rhopi (a : Nat → Wd64) (k : Nat) : Wd64 := rotl (a (src k)) (turns.getD (src k) 0)
def chi (b : Nat → Wd64) (k : Nat) : Wd64 := b k ^^^ (~~~ b (5 * (k / 5) + (k % 5 + 1) % 5) &&& b (5 * (k / 5) + (k % 5 + 2) % 5))
def iota (c : Wd64) (a : Nat → Wd64) (k : Nat) : Wd64 := if k = 0 then a 0 ^^^ c else a k
def rnd (c : Wd64) (a : Nat → Wd64) : Nat → Wd64 := iota c (chi (rhopi (theta a)))
def consts : List Wd64 := [0x1#64, 0x8082#64, 0x800000000000808a#64, 0x8000000080008000#64, 0x808b#64, 0x80000001#64, 0x8000000080008081#64, 0x8000000000008009#64,
  0x8a#64, 0x88#64, 0x80008009#64, 0x8000000a#64, 0x8000808b#64, 0x800000000000008b#64, 0x8000000000008089#64, 0x8000000000008003#64,
  0x8000000000008002#64, 0x8000000000000080#64, 0x800a#64, 0x800000008000000a#64, 0x8000000080008081#64, 0x8000000000008080#64, 0x80000001#64, 0x8000000080008008#64]
def rnds (a : Nat → Wd64) (n : Nat) : Nat → Wd64 := (consts.take n).foldl (fun a c => rnd c a) a
def perm (a : Nat → Wd64) : Nat → Wd64 := rnds a 24
/-! ## rotl -/
theorem rotl_bit (x : Wd64) (r n : Nat) (hn : n < 64) : (rotl x r).getLsbD n = x.getLsbD ((n + 64 - r % 64) % 64) := by
  unfold rotl
  rw [BitVec.getLsbD_rotateLeft]
  by_cases h : n < r % 64
  · rw [decide_eq_true h]
    show x.getLsbD (64 - r % 64 + n) = _
    congr 1
    omega
  · rw [decide_eq_false h, decide_eq_true hn]
    show (true && x.getLsbD (n - r % 64)) = _
    rw [Bool.true_and]
    congr 1
    omega
/-! ## the others -/
theorem src_lt (k : Nat) (h : k < 25) : src k < 25 := by unfold src; omega
/-- It looks at 25 words only. -/
theorem theta_cong {a b : Nat → Wd64} (h : ∀ j, j < 25 → a j = b j) : ∀ j, j < 25 → theta a j = theta b j := by
  have hp : ∀ x, x < 5 → par a x = par b x := fun x hx => by
    unfold par
    rw [h x (by omega), h (x + 5) (by omega), h (x + 10) (by omega), h (x + 15) (by omega), h (x + 20) (by omega)]
  intro j hj
  unfold theta dd
  rw [h j hj, hp _ (Nat.mod_lt _ (by decide)), hp _ (Nat.mod_lt _ (by decide))]
theorem rnd_cong {c : Wd64} {a b : Nat → Wd64} (h : ∀ j, j < 25 → a j = b j) : ∀ j, j < 25 → rnd c a j = rnd c b j := by
  have h1 := theta_cong h
  have h2 : ∀ j, j < 25 → rhopi (theta a) j = rhopi (theta b) j := fun j hj => by unfold rhopi; rw [h1 _ (src_lt j hj)]
  have h3 : ∀ j, j < 25 → chi (rhopi (theta a)) j = chi (rhopi (theta b)) j := fun j hj => by
    unfold chi; rw [h2 j hj, h2 _ (by omega), h2 _ (by omega)]
  intro j hj
  unfold rnd iota
  split
  · rw [h3 0 (by decide)]
  · exact h3 j hj
theorem fold_cong : ∀ (l : List Wd64) (a b : Nat → Wd64), (∀ j, j < 25 → a j = b j) → ∀ j, j < 25 → l.foldl (fun a c => rnd c a) a j = l.foldl (fun a c => rnd c a) b j
  | [], a, b, h => h
  | c :: l, a, b, h => fold_cong l (rnd c a) (rnd c b) (rnd_cong h)
end Kc
end Go.Proofs.YtnaamljflcgepaaDoor
namespace Go.Proofs.YtnaamljflcgepaaDoor
open Go.RowKit
theorem add_at (b off i : Nat) : (⟨b, off, none⟩ : Addr).add i = ⟨b, off + i, none⟩ := by
  cases i with
  | zero => rfl
  | succ n => rfl
theorem bl {a w w' : World} (h : Below a.heap.size a w) (h2 : Below w.heap.size w w') : Below a.heap.size a w' := h.trans (h2.mono h.size)
/-- Two cells of a block. -/
theorem keep1 {W w1 : World} {b o : Nat} {x : Value} (hb : Below W.heap.size W w1) (h : W.cell? ⟨b, o, none⟩ = some x) : w1.cell? ⟨b, o, none⟩ = some x := by
  have hl : b < W.heap.size := by
    rcases Nat.lt_or_ge b W.heap.size with h1 | h1
    · exact h1
    · simp [World.cell?, Array.getElem?_eq_none h1] at h
  rw [hb.cell (p := ⟨b, o, none⟩) hl]; exact h
theorem inHeap {w : World} {b o : Nat} {x : Value} (h : w.cell? ⟨b, o, none⟩ = some x) : b < w.heap.size := by
  rcases Nat.lt_or_ge b w.heap.size with h1 | h1
  · exact h1
  · simp [World.cell?, Array.getElem?_eq_none h1] at h
end Go.Proofs.YtnaamljflcgepaaDoor
namespace Go.Proofs.YtnaamljflcgepaaDoor
open Go.RowKit
set_option linter.unusedVariables false
namespace Kc
/-- A word as Go's number. -/
def W (x : Wd64) : Int := (x.toNat : Int)
theorem W_bd (x : Wd64) : 0 ≤ W x ∧ W x < 18446744073709551616 := by have := x.isLt; unfold W; omega
theorem W_xor (x y : Wd64) : bits .xor .u64 (W x) (W y) = W (x ^^^ y) := by
  unfold W; rw [u64_xor_nat _ _ x.isLt y.isLt, BitVec.toNat_xor]
theorem W_and (x y : Wd64) : bits .and .u64 (W x) (W y) = W (x &&& y) := by
  unfold W; rw [u64_and_nat _ _ x.isLt y.isLt, BitVec.toNat_and]
theorem W_or (x y : Wd64) : bits .or .u64 (W x) (W y) = W (x ||| y) := by
  unfold W; rw [u64_or_nat _ _ x.isLt y.isLt, BitVec.toNat_or]
theorem W_shl (x : Wd64) (s : Nat) (hs : s < 64) : W x * 2 ^ s % 18446744073709551616 = W (x <<< s) := by
  unfold W
  rw [BitVec.toNat_shiftLeft, Nat.shiftLeft_eq]
  have : ((x.toNat : Int) * 2 ^ s) = ((x.toNat * 2 ^ s : Nat) : Int) := by rw [Int.natCast_mul, Int.natCast_pow]; rfl
  rw [this]; rfl
theorem W_shr (x : Wd64) (s : Nat) : W x / 2 ^ s = W (x >>> s) := by
  unfold W
  rw [BitVec.toNat_ushiftRight, Nat.shiftRight_eq_div_pow, Int.natCast_ediv, Int.natCast_pow]; rfl
theorem rotl_is (x : Wd64) (s : Nat) (h0 : 0 < s) (hs : s < 64) : (x <<< s) ||| (x >>> (64 - s)) = rotl x s := by
  apply BitVec.eq_of_getLsbD_eq
  intro i hi
  rw [rotl_bit _ _ _ hi, BitVec.getLsbD_or, BitVec.getLsbD_shiftLeft, BitVec.getLsbD_ushiftRight, decide_eq_true hi]
  by_cases h : i < s
  · rw [decide_eq_true h]
    have e : 64 - s + i = (i + 64 - s % 64) % 64 := by omega
    rw [e]; simp
  · rw [decide_eq_false h]
    have e : (i + 64 - s % 64) % 64 = i - s := by omega
    rw [e, BitVec.getLsbD_of_ge x (64 - s + i) (by omega)]; simp
end Kc
end Go.Proofs.YtnaamljflcgepaaDoor
namespace Go.Proofs.YtnaamljflcgepaaDoor
open Go.RowKit
namespace Laid
theorem mem {P : Program} {w : World} {n : String} {d : DataW Unit} : ∀ {l : List (String × DataW Unit)} {ps : List MemPlace}, DataW.LaidVars P w l ps → (n, d) ∈ l →
    ∃ g t cs fuel p, P.globalNamed n = some g ∧ (P.globals[g]?).map (·.type) = some t ∧ w.var? P n = some cs ∧ DataW.trod (fun _ => ()) P w 0 (fun _ => true) false fuel t cs.toList = some (d, p) := by
  intro l
  induction l with
  | nil => intro ps h hx; cases hx
  | cons x r ih =>
    intro ps h hx
    obtain ⟨n', d'⟩ := x
    obtain ⟨g, t, cs, fuel, p, q, h1, h2, h3, h4, h5, h6⟩ := h
    rcases List.mem_cons.1 hx with e | hm
    · cases e
      exact ⟨g, t, cs, fuel, p, h1, h2, h3, h4⟩
    · exact ih h5 hm
/-- The table of the permutation's constants. -/
def KTab (w : World) : Prop := ∀ i, i < 24 → w.cell? ⟨0, i, none⟩ = some (.int .u64 (Kc.W (Kc.consts.getD i 0#64)))
theorem kNamed : Tryd.prog.globalNamed "moot/keccak.constants" = some 0 := by kernel_rfl
theorem kType : (Tryd.prog.globals[0]?).map (·.type) = some 152 := by kernel_rfl
theorem kCells : Tryd.prog.cellsOf 32 = 1 := by kernel_rfl
theorem kDatum : (Rows.laid_moot_keccak_constants : DataW Unit) = .agg (Kc.consts.map fun c => .lit (.int .u64 (Kc.W c))) := by kernel_rfl
theorem of_moot_keccak_constants {l : List (String × DataW Unit)} {W : World} (h : laidMetH Tryd.prog l W) (hx : ("moot/keccak.constants", Rows.laid_moot_keccak_constants) ∈ l) : KTab W := by
  obtain ⟨ps, hl, _⟩ := (laidMetH_iff.1 h).1
  obtain ⟨g, t, cs, fuel, p, h1, h2, h3, h4⟩ := mem hl (List.mem_filter.2 ⟨hx, by rfl⟩)
  obtain rfl := Option.some.inj (kNamed.symm.trans h1)
  obtain rfl := Option.some.inj (kType.symm.trans h2)
  obtain ⟨xs, m, rfl, hx1, hlen, hn, hel⟩ := DataW.trod_array Tryd.underlying152 h4
  rw [kDatum] at hx1
  simp only [Prod.mk.injEq, DataW.agg.injEq] at hx1
  intro j hj
  have e := hel j hj
  rw [kCells, Nat.mul_one, List.getElem?_eq_getElem (by omega)] at e
  obtain ⟨k, e1, e2, _⟩ := DataW.trod_int Tryd.underlying32 e
  have e3 : (xs.map (·.1))[j]? = some (.lit (.int .u64 k)) := by rw [List.getElem?_map, List.getElem?_eq_getElem (by omega), e2]; rfl
  have hjc : j < Kc.consts.length := hj
  rw [← hx1.1, List.getElem?_map, List.getElem?_eq_getElem hjc] at e3
  have e4 : Kc.W Kc.consts[j] = k := by have e8 := e3; simp at e8; exact e8
  have e5 : cs.toList[j]? = some (.int .u64 k) := by
    have h9 : ((cs.toList.drop j).take 1)[0]? = some (.int .u64 k) := by rw [e1]; rfl
    simpa using h9
  have e6 := World.var?_cell kNamed h3 j
  have e7 : cs[j]? = some (.int .u64 k) := by simpa using e5
  rw [List.getD_eq_getElem?_getD, List.getElem?_eq_getElem hjc]
  rw [show (some Kc.consts[j]).getD 0#64 = Kc.consts[j] by rfl, e4, ← e7]
  exact e6
end Laid
end Go.Proofs.YtnaamljflcgepaaDoor
namespace Go.Proofs.YtnaamljflcgepaaDoor
open Go.RowKit
set_option linter.unusedVariables false
namespace Kc
theorem wrap_nn (k : Int) (h0 : 0 ≤ k) (h1 : k < 18446744073709551616) : IntKind.u64.wrap k = k := by simp [IntKind.wrap, IntKind.bits, IntKind.signed]; omega
theorem rot_is (x : Wd64) (s : Nat) (hs0 : 0 < s) (hs : s < 64) (w : World) :
    Calls Tryd.prog 66 #[.int .u64 (W x), .int .i64 s] w fun e w' => e = .returned (.int .u64 (W (rotl x s))) ∧ w = w' := by
  have h63 : bits BinOp.and .u64 (s : Int) 63 = (s : Int) := by
    rw [show (63 : Int) = ((63 : Nat) : Int) from rfl, u64_and_nat _ _ (by omega) (by decide)]
    have : s &&& 63 = s := by rw [show (63 : Nat) = 2 ^ 6 - 1 from rfl, Nat.and_two_pow_sub_one_eq_mod]; omega
    rw [this]
  have hsi : (s : Int) < 64 := by omega
  have hsi0 : (0 : Int) < s := by omega
  have hb := W_bd x
  have hb0 := hb.1
  have hb1 := hb.2
  clear hb
  go_enter Tryd.func66, Tryd.ntmps66
  go_wp2_with fail
  go_ret
  refine ⟨?_, rfl⟩
  show Ending.returned (.int .u64 (bits BinOp.or .u64 (IntKind.u64.wrap (W x * 2 ^ s)) (W x / 2 ^ (64 - s)))) = _
  rw [show IntKind.u64.wrap (W x * 2 ^ s) = W (x <<< s) from by rw [show IntKind.u64.wrap (W x * 2 ^ s) = W x * 2 ^ s % 18446744073709551616 from by simp [IntKind.wrap, IntKind.bits, IntKind.signed]]; exact W_shl x s hs, W_shr, W_or, rotl_is x s hs0 hs]
end Kc
end Go.Proofs.YtnaamljflcgepaaDoor
namespace Go.Proofs.YtnaamljflcgepaaDoor
open Go.RowKit
set_option linter.unusedVariables false
namespace Kc
/-- 25 words as an array. -/
def arr (a : Nat → Wd64) : Array Value := ((List.range 25).map fun i => Value.int .u64 (W (a i))).toArray
theorem arr_size (a : Nat → Wd64) : (arr a).size = 25 := by simp [arr]
theorem arr_at (a : Nat → Wd64) {i : Nat} (h : i < 25) : (arr a)[i]? = some (.int .u64 (W (a i))) := by simp [arr, h]
theorem kInfo : (Tryd.prog.info? 115).map (·.size) = some 25 := by kernel_rfl
/-- A block of 25 words. -/
def IsSt (w : World) (q : Nat) (a : Nat → Wd64) : Prop := w.heap[q]? = some (.cells (arr a) 115 (0, 0))
theorem IsSt.cell {w : World} {q : Nat} {a : Nat → Wd64} (h : IsSt w q a) (i : Nat) (hi : i < 25) : w.cell? ⟨q, i, none⟩ = some (.int .u64 (W (a i))) := by
  rw [cell_of_row w q i _ _ _ h]; exact arr_at a hi
theorem IsSt.fz {w : World} {q : Nat} {a : Nat → Wd64} (h : IsSt w q a) (i : Nat) : w.frozen? ⟨q, i, none⟩ = false := frozen_of_row w q i _ _ h
def upd (a : Nat → Wd64) (i : Nat) (x : Wd64) : Nat → Wd64 := fun j => if j = i then x else a j
theorem arr_upd (a : Nat → Wd64) (i : Nat) (x : Wd64) : (arr a).setIfInBounds i (.int .u64 (W x)) = arr (upd a i x) := by
  apply Array.ext_getElem?
  intro j
  rw [Array.getElem?_setIfInBounds]
  by_cases hj : j < 25
  · rw [arr_at _ hj, arr_at _ hj, arr_size]
    by_cases e : i = j
    · subst e; simp [upd, hj]
    · have e' : ¬ j = i := fun h => e h.symm
      simp [upd, e, e']
  · rw [Array.getElem?_eq_none (by rw [arr_size]; omega), Array.getElem?_eq_none (by rw [arr_size]; omega), arr_size]
    split
    · split
      · omega
      · rfl
    · rfl
theorem IsSt.set {w : World} {q : Nat} {a : Nat → Wd64} (h : IsSt w q a) (i : Nat) (x : Wd64) : IsSt (w.setCell ⟨q, i, none⟩ (.int .u64 (W x))) q (upd a i x) := by
  unfold IsSt at *
  rw [heap_setCell_same w q i _ _ _ h, arr_upd]
theorem IsSt.keep {w : World} {q p i : Nat} {v : Value} {a : Nat → Wd64} (h : IsSt w q a) (hn : q ≠ p) : IsSt (w.setCell ⟨p, i, none⟩ v) q a := by
  unfold IsSt at *
  rw [Below.heap_setCell _ _ _ _ hn]; exact h
theorem arr_zero : arr (fun _ => 0#64) = #[.int .u64 0, .int .u64 0, .int .u64 0, .int .u64 0, .int .u64 0, .int .u64 0, .int .u64 0, .int .u64 0, .int .u64 0, .int .u64 0, .int .u64 0, .int .u64 0, .int .u64 0, .int .u64 0, .int .u64 0, .int .u64 0, .int .u64 0, .int .u64 0, .int .u64 0, .int .u64 0, .int .u64 0, .int .u64 0, .int .u64 0, .int .u64 0, .int .u64 0] := by rfl
theorem zInfo : (Tryd.prog.info? 115).map (·.size) = some (#[.int .u64 0, .int .u64 0, .int .u64 0, .int .u64 0, .int .u64 0, .int .u64 0, .int .u64 0, .int .u64 0, .int .u64 0, .int .u64 0, .int .u64 0, .int .u64 0, .int .u64 0, .int .u64 0, .int .u64 0, .int .u64 0, .int .u64 0, .int .u64 0, .int .u64 0, .int .u64 0, .int .u64 0, .int .u64 0, .int .u64 0, .int .u64 0, .int .u64 0] : Array Value).size := by kernel_rfl
theorem zOne : (#[.int .u64 0, .int .u64 0, .int .u64 0, .int .u64 0, .int .u64 0, .int .u64 0, .int .u64 0, .int .u64 0, .int .u64 0, .int .u64 0, .int .u64 0, .int .u64 0, .int .u64 0, .int .u64 0, .int .u64 0, .int .u64 0, .int .u64 0, .int .u64 0, .int .u64 0, .int .u64 0, .int .u64 0, .int .u64 0, .int .u64 0, .int .u64 0, .int .u64 0] : Array Value).all (·.oneCell') = true := by kernel_rfl
theorem st_new (w : World) (a : Nat → Wd64) : IsSt (w.alloc (.cells (arr a) 115)) w.heap.size a := heap_alloc_new w _
theorem st_old {w : World} {q : Nat} {a : Nat → Wd64} (h : IsSt w q a) (o : Obj) : IsSt (w.alloc o) q a := by
  unfold IsSt at *
  rw [Below.heap_alloc w o q (Array.getElem?_eq_some_iff.1 h).1]; exact h
structure Pm (W : World) (q0 q1 q2 : Nat) (a b : Nat → Wd64) (y : World) : Prop where
  sa : IsSt y q0 a
  sr : IsSt y q1 (fun _ => 0#64)
  sb : IsSt y q2 b
  n01 : q0 ≠ q1
  n02 : q0 ≠ q2
  n12 : q1 ≠ q2
  g0 : W.heap.size ≤ q0
  g1 : W.heap.size ≤ q1
  g2 : W.heap.size ≤ q2
  below : Below W.heap.size W y
theorem Pm.setB {W : World} {q0 q1 q2 : Nat} {a b : Nat → Wd64} {y : World} (h : Pm W q0 q1 q2 a b y) (i : Nat) (x : Wd64) : Pm W q0 q1 q2 a (upd b i x) (y.setCell ⟨q2, i, none⟩ (.int .u64 (Kc.W x))) :=
  ⟨h.sa.keep h.n02, h.sr.keep h.n12, h.sb.set i x, h.n01, h.n02, h.n12, h.g0, h.g1, h.g2, h.below.setCell h.g2 _⟩
theorem Pm.setA {W : World} {q0 q1 q2 : Nat} {a b : Nat → Wd64} {y : World} (h : Pm W q0 q1 q2 a b y) (i : Nat) (x : Wd64) : Pm W q0 q1 q2 (upd a i x) b (y.setCell ⟨q0, i, none⟩ (.int .u64 (Kc.W x))) :=
  ⟨h.sa.set i x, h.sr.keep (Ne.symm h.n01), h.sb.keep (Ne.symm h.n02), h.n01, h.n02, h.n12, h.g0, h.g1, h.g2, h.below.setCell h.g0 _⟩
theorem arr_cong {a b : Nat → Wd64} (h : ∀ i, i < 25 → a i = b i) : arr a = arr b := by
  unfold arr
  congr 1
  apply List.map_congr_left
  intro i hi
  rw [h i (by simpa using hi)]
theorem Pm.congB {W : World} {q0 q1 q2 : Nat} {a b b' : Nat → Wd64} {y : World} (h : Pm W q0 q1 q2 a b y) (e : ∀ i, i < 25 → b i = b' i) : Pm W q0 q1 q2 a b' y :=
  ⟨h.sa, h.sr, by have := h.sb; unfold IsSt at *; rw [← arr_cong e]; exact this, h.n01, h.n02, h.n12, h.g0, h.g1, h.g2, h.below⟩
theorem Pm.congA {W : World} {q0 q1 q2 : Nat} {a a' b : Nat → Wd64} {y : World} (h : Pm W q0 q1 q2 a b y) (e : ∀ i, i < 25 → a i = a' i) : Pm W q0 q1 q2 a' b y :=
  ⟨by have := h.sa; unfold IsSt at *; rw [← arr_cong e]; exact this, h.sr, h.sb, h.n01, h.n02, h.n12, h.g0, h.g1, h.g2, h.below⟩
theorem Pm.drewN {W : World} {q0 q1 q2 : Nat} {a b : Nat → Wd64} {y : World} (h : Pm W q0 q1 q2 a b y) (n : Nat) : Pm W q0 q1 q2 a b (y.drewN n) := ⟨h.sa, h.sr, h.sb, h.n01, h.n02, h.n12, h.g0, h.g1, h.g2, below_drewN h.below n⟩
theorem Pm.drew {W : World} {q0 q1 q2 : Nat} {a b : Nat → Wd64} {y : World} (h : Pm W q0 q1 q2 a b y) : Pm W q0 q1 q2 a b y.drew := ⟨h.sa, h.sr, h.sb, h.n01, h.n02, h.n12, h.g0, h.g1, h.g2, h.below.drew⟩
theorem Pm.tab {W : World} {q0 q1 q2 : Nat} {a b : Nat → Wd64} {y : World} (h : Pm W q0 q1 q2 a b y) (ht : Laid.KTab W) (i : Nat) (hi : i < 24) : y.cell? ⟨0, i, none⟩ = some (.int .u64 (Kc.W (consts.getD i 0#64))) := keep1 h.below (ht i hi)
theorem rot_at (x : Wd64) (s : Nat) (k : Int) (hk : k = (s : Int)) (hs0 : 0 < s) (hs : s < 64) (w : World) :
    Calls Tryd.prog 66 #[.int .u64 (W x), .int .i64 k] w fun e w' => e = .returned (.int .u64 (W (rotl x s))) ∧ w = w' := by
  subst hk; exact rot_is x s hs0 hs w
theorem rotl_zero (x : Wd64) : rotl x 0 = x := by
  apply BitVec.eq_of_getLsbD_eq
  intro i hi
  rw [rotl_bit _ _ _ hi]
  congr 1
  omega
/-- The rows of a state of which k are done. -/
def chiK (b c : Nat → Wd64) (r : Nat) : Nat → Wd64 := fun j => if j < r then chi b j else c j
theorem chiK_zero (b c : Nat → Wd64) : ∀ i, i < 25 → c i = chiK b c 0 i := by
  intro i _; unfold chiK; rw [if_neg (by omega)]
theorem row_ok (bb c : Nat → Wd64) (r : Nat) (h5 : r % 5 = 0) : ∀ j, j < 25 → upd (upd (upd (upd (upd (chiK bb c r) r (bb r ^^^ (~~~ bb (r + 1) &&& bb (r + 2)))) (r + 1) (bb (r + 1) ^^^ (~~~ bb (r + 2) &&& bb (r + 3)))) (r + 2) (bb (r + 2) ^^^ (~~~ bb (r + 3) &&& bb (r + 4)))) (r + 3) (bb (r + 3) ^^^ (~~~ bb (r + 4) &&& bb r))) (r + 4) (bb (r + 4) ^^^ (~~~ bb r &&& bb (r + 1))) j = chiK bb c (r + 5) j := by
  intro j _
  have e : ∀ i, i < 5 → 5 * ((r + i) / 5) = r ∧ (r + i) % 5 = i := fun i hi => by omega
  have g : ∀ i, i < 5 → chi bb (r + i) = bb (r + i) ^^^ (~~~ bb (r + (i + 1) % 5) &&& bb (r + (i + 2) % 5)) := fun i hi => by unfold chi; rw [(e i hi).1, (e i hi).2]
  unfold chiK upd
  dsimp only
  by_cases h4 : j = r + 4
  · rw [if_pos h4, if_pos (by omega), h4]; exact (g 4 (by decide)).symm
  · rw [if_neg h4]
    by_cases h3 : j = r + 3
    · rw [if_pos h3, if_pos (by omega), h3]; exact (g 3 (by decide)).symm
    · rw [if_neg h3]
      by_cases h2 : j = r + 2
      · rw [if_pos h2, if_pos (by omega), h2]; exact (g 2 (by decide)).symm
      · rw [if_neg h2]
        by_cases h1 : j = r + 1
        · rw [if_pos h1, if_pos (by omega), h1]; exact (g 1 (by decide)).symm
        · rw [if_neg h1]
          by_cases h0 : j = r
          · rw [if_pos h0, if_pos (by omega), h0]; exact (g 0 (by decide)).symm
          · rw [if_neg h0]
            by_cases hl : j < r
            · rw [if_pos hl, if_pos (by omega)]
            · rw [if_neg hl, if_neg (by omega)]
theorem all25 {P : Nat → Prop} (h : P 0 ∧ P 1 ∧ P 2 ∧ P 3 ∧ P 4 ∧ P 5 ∧ P 6 ∧ P 7 ∧ P 8 ∧ P 9 ∧ P 10 ∧ P 11 ∧ P 12 ∧ P 13 ∧ P 14 ∧ P 15 ∧ P 16 ∧ P 17 ∧ P 18 ∧ P 19 ∧ P 20 ∧ P 21 ∧ P 22 ∧ P 23 ∧ P 24) : ∀ i, i < 25 → P i := by
  intro i hi
  obtain ⟨h0, h1, h2, h3, h4, h5, h6, h7, h8, h9, h10, h11, h12, h13, h14, h15, h16, h17, h18, h19, h20, h21, h22, h23, h24⟩ := h
  have hc : i = 0 ∨ i = 1 ∨ i = 2 ∨ i = 3 ∨ i = 4 ∨ i = 5 ∨ i = 6 ∨ i = 7 ∨ i = 8 ∨ i = 9 ∨ i = 10 ∨ i = 11 ∨ i = 12 ∨ i = 13 ∨ i = 14 ∨ i = 15 ∨ i = 16 ∨ i = 17 ∨ i = 18 ∨ i = 19 ∨ i = 20 ∨ i = 21 ∨ i = 22 ∨ i = 23 ∨ i = 24 := by omega
  rcases hc with rfl | rfl | rfl | rfl | rfl | rfl | rfl | rfl | rfl | rfl | rfl | rfl | rfl | rfl | rfl | rfl | rfl | rfl | rfl | rfl | rfl | rfl | rfl | rfl | rfl <;> assumption
theorem rp0 (c : Nat → Wd64) : rhopi (theta c) 0 = (c 0 ^^^ dd c 0) := rotl_zero _
theorem rp1 (c : Nat → Wd64) : rhopi (theta c) 1 = (rotl (c 6 ^^^ dd c 1) 44) := rfl
theorem rp2 (c : Nat → Wd64) : rhopi (theta c) 2 = (rotl (c 12 ^^^ dd c 2) 43) := rfl
theorem rp3 (c : Nat → Wd64) : rhopi (theta c) 3 = (rotl (c 18 ^^^ dd c 3) 21) := rfl
theorem rp4 (c : Nat → Wd64) : rhopi (theta c) 4 = (rotl (c 24 ^^^ dd c 4) 14) := rfl
theorem rp5 (c : Nat → Wd64) : rhopi (theta c) 5 = (rotl (c 3 ^^^ dd c 3) 28) := rfl
theorem rp6 (c : Nat → Wd64) : rhopi (theta c) 6 = (rotl (c 9 ^^^ dd c 4) 20) := rfl
theorem rp7 (c : Nat → Wd64) : rhopi (theta c) 7 = (rotl (c 10 ^^^ dd c 0) 3) := rfl
theorem rp8 (c : Nat → Wd64) : rhopi (theta c) 8 = (rotl (c 16 ^^^ dd c 1) 45) := rfl
theorem rp9 (c : Nat → Wd64) : rhopi (theta c) 9 = (rotl (c 22 ^^^ dd c 2) 61) := rfl
theorem rp10 (c : Nat → Wd64) : rhopi (theta c) 10 = (rotl (c 1 ^^^ dd c 1) 1) := rfl
theorem rp11 (c : Nat → Wd64) : rhopi (theta c) 11 = (rotl (c 7 ^^^ dd c 2) 6) := rfl
theorem rp12 (c : Nat → Wd64) : rhopi (theta c) 12 = (rotl (c 13 ^^^ dd c 3) 25) := rfl
theorem rp13 (c : Nat → Wd64) : rhopi (theta c) 13 = (rotl (c 19 ^^^ dd c 4) 8) := rfl
theorem rp14 (c : Nat → Wd64) : rhopi (theta c) 14 = (rotl (c 20 ^^^ dd c 0) 18) := rfl
theorem rp15 (c : Nat → Wd64) : rhopi (theta c) 15 = (rotl (c 4 ^^^ dd c 4) 27) := rfl
theorem rp16 (c : Nat → Wd64) : rhopi (theta c) 16 = (rotl (c 5 ^^^ dd c 0) 36) := rfl
theorem rp17 (c : Nat → Wd64) : rhopi (theta c) 17 = (rotl (c 11 ^^^ dd c 1) 10) := rfl
theorem rp18 (c : Nat → Wd64) : rhopi (theta c) 18 = (rotl (c 17 ^^^ dd c 2) 15) := rfl
theorem rp19 (c : Nat → Wd64) : rhopi (theta c) 19 = (rotl (c 23 ^^^ dd c 3) 56) := rfl
theorem rp20 (c : Nat → Wd64) : rhopi (theta c) 20 = (rotl (c 2 ^^^ dd c 2) 62) := rfl
theorem rp21 (c : Nat → Wd64) : rhopi (theta c) 21 = (rotl (c 8 ^^^ dd c 3) 55) := rfl
theorem rp22 (c : Nat → Wd64) : rhopi (theta c) 22 = (rotl (c 14 ^^^ dd c 4) 39) := rfl
theorem rp23 (c : Nat → Wd64) : rhopi (theta c) 23 = (rotl (c 15 ^^^ dd c 0) 41) := rfl
theorem rp24 (c : Nat → Wd64) : rhopi (theta c) 24 = (rotl (c 21 ^^^ dd c 1) 2) := rfl
theorem chain_ok (b c : Nat → Wd64) : ∀ i, i < 25 → (upd (upd (upd (upd (upd (upd (upd (upd (upd (upd (upd (upd (upd (upd (upd (upd (upd (upd (upd (upd (upd (upd (upd (upd (upd b 0 (c 0 ^^^ dd c 0)) 10 (rotl (c 1 ^^^ dd c 1) 1)) 20 (rotl (c 2 ^^^ dd c 2) 62)) 5 (rotl (c 3 ^^^ dd c 3) 28)) 15 (rotl (c 4 ^^^ dd c 4) 27)) 16 (rotl (c 5 ^^^ dd c 0) 36)) 1 (rotl (c 6 ^^^ dd c 1) 44)) 11 (rotl (c 7 ^^^ dd c 2) 6)) 21 (rotl (c 8 ^^^ dd c 3) 55)) 6 (rotl (c 9 ^^^ dd c 4) 20)) 7 (rotl (c 10 ^^^ dd c 0) 3)) 17 (rotl (c 11 ^^^ dd c 1) 10)) 2 (rotl (c 12 ^^^ dd c 2) 43)) 12 (rotl (c 13 ^^^ dd c 3) 25)) 22 (rotl (c 14 ^^^ dd c 4) 39)) 23 (rotl (c 15 ^^^ dd c 0) 41)) 8 (rotl (c 16 ^^^ dd c 1) 45)) 18 (rotl (c 17 ^^^ dd c 2) 15)) 3 (rotl (c 18 ^^^ dd c 3) 21)) 13 (rotl (c 19 ^^^ dd c 4) 8)) 14 (rotl (c 20 ^^^ dd c 0) 18)) 24 (rotl (c 21 ^^^ dd c 1) 2)) 9 (rotl (c 22 ^^^ dd c 2) 61)) 19 (rotl (c 23 ^^^ dd c 3) 56)) 4 (rotl (c 24 ^^^ dd c 4) 14)) i = rhopi (theta c) i := by
  refine all25 ?_
  refine ⟨?_, ?_, ?_, ?_, ?_, ?_, ?_, ?_, ?_, ?_, ?_, ?_, ?_, ?_, ?_, ?_, ?_, ?_, ?_, ?_, ?_, ?_, ?_, ?_, ?_⟩
  · rw [rp0]; simp [upd]
  · rw [rp1]; simp [upd]
  · rw [rp2]; simp [upd]
  · rw [rp3]; simp [upd]
  · rw [rp4]; simp [upd]
  · rw [rp5]; simp [upd]
  · rw [rp6]; simp [upd]
  · rw [rp7]; simp [upd]
  · rw [rp8]; simp [upd]
  · rw [rp9]; simp [upd]
  · rw [rp10]; simp [upd]
  · rw [rp11]; simp [upd]
  · rw [rp12]; simp [upd]
  · rw [rp13]; simp [upd]
  · rw [rp14]; simp [upd]
  · rw [rp15]; simp [upd]
  · rw [rp16]; simp [upd]
  · rw [rp17]; simp [upd]
  · rw [rp18]; simp [upd]
  · rw [rp19]; simp [upd]
  · rw [rp20]; simp [upd]
  · rw [rp21]; simp [upd]
  · rw [rp22]; simp [upd]
  · rw [rp23]; simp [upd]
  · rw [rp24]; simp [upd]
end Kc
end Go.Proofs.YtnaamljflcgepaaDoor
namespace Go.Proofs.YtnaamljflcgepaaDoor
open Go.RowKit
set_option linter.unusedVariables false
namespace Kc
/-- n values. -/
def tab (n : Nat) (g : Nat → Value) : Array Value := ((List.range n).map g).toArray
theorem tab_size (n : Nat) (g : Nat → Value) : (tab n g).size = n := by simp [tab]
theorem tab_at {n : Nat} (g : Nat → Value) {i : Nat} (h : i < n) : (tab n g)[i]? = some (g i) := by simp [tab, h]
theorem tab_out {n : Nat} (g : Nat → Value) {i : Nat} (h : n ≤ i) : (tab n g)[i]? = none := by simp [tab, h]
theorem tab_cong {n : Nat} {f g : Nat → Value} (h : ∀ i, i < n → f i = g i) : tab n f = tab n g := by
  unfold tab
  congr 1
  apply List.map_congr_left
  intro i hi
  rw [h i (by simpa using hi)]
theorem tab_ext {n : Nat} {f g : Nat → Value} (h : tab n f = tab n g) : ∀ i, i < n → f i = g i := by
  intro i hi
  have := congrArg (fun a : Array Value => a[i]?) h
  rw [tab_at _ hi, tab_at _ hi] at this
  exact Option.some.inj this
theorem tab_one {n : Nat} {g : Nat → Value} (h : ∀ i, (g i).oneCell' = true) : (tab n g).all (·.oneCell') = true := by simp [tab]; intro i _; exact h i
def updv (g : Nat → Value) (i : Nat) (x : Value) : Nat → Value := fun j => if j = i then x else g j
theorem tab_upd {n : Nat} (g : Nat → Value) (i : Nat) (x : Value) : (tab n g).setIfInBounds i x = tab n (updv g i x) := by
  apply Array.ext_getElem?
  intro j
  rw [Array.getElem?_setIfInBounds]
  by_cases hj : j < n
  · rw [tab_at _ hj, tab_at _ hj, tab_size]
    by_cases e : i = j
    · subst e; simp [updv, hj]
    · have e' : ¬ j = i := fun h => e h.symm
      simp [updv, e, e']
  · rw [Array.getElem?_eq_none (by rw [tab_size]; omega), Array.getElem?_eq_none (by rw [tab_size]; omega), tab_size]
    split
    · split
      · omega
      · rfl
    · rfl
/-- A block that holds n values. -/
def IsTab (w : World) (q T n : Nat) (g : Nat → Value) : Prop := w.heap[q]? = some (.cells (tab n g) T (0, 0))
theorem IsTab.cell {w : World} {q T n : Nat} {g : Nat → Value} (h : IsTab w q T n g) (i : Nat) (hi : i < n) : w.cell? ⟨q, i, none⟩ = some (g i) := by
  rw [cell_of_row w q i _ _ _ h]; exact tab_at g hi
theorem IsTab.fz {w : World} {q T n : Nat} {g : Nat → Value} (h : IsTab w q T n g) (i : Nat) : w.frozen? ⟨q, i, none⟩ = false := frozen_of_row w q i _ _ h
theorem IsTab.lt {w : World} {q T n : Nat} {g : Nat → Value} (h : IsTab w q T n g) : q < w.heap.size := (Array.getElem?_eq_some_iff.1 h).1
theorem IsTab.set {w : World} {q T n : Nat} {g : Nat → Value} (h : IsTab w q T n g) (i : Nat) (x : Value) : IsTab (w.setCell ⟨q, i, none⟩ x) q T n (updv g i x) := by
  unfold IsTab at *
  rw [heap_setCell_same w q i _ _ _ h, tab_upd]
theorem IsTab.keep {w : World} {q p i T n : Nat} {v : Value} {g : Nat → Value} (h : IsTab w q T n g) (hn : q ≠ p) : IsTab (w.setCell ⟨p, i, none⟩ v) q T n g := by
  unfold IsTab at *
  rw [Below.heap_setCell _ _ _ _ hn]; exact h
theorem IsTab.cong {w : World} {q T n : Nat} {f g : Nat → Value} (h : IsTab w q T n f) (e : ∀ i, i < n → f i = g i) : IsTab w q T n g := by
  unfold IsTab at *
  rw [← tab_cong e]; exact h
theorem IsTab.drewN {w : World} {q T n : Nat} {g : Nat → Value} (h : IsTab w q T n g) (k : Nat) : IsTab (w.drewN k) q T n g := h
theorem IsTab.drew {w : World} {q T n : Nat} {g : Nat → Value} (h : IsTab w q T n g) : IsTab w.drew q T n g := h
theorem IsTab.below {W w : World} {q T n : Nat} {g : Nat → Value} (h : IsTab W q T n g) (hb : Below W.heap.size W w) : IsTab w q T n g := by
  unfold IsTab at *
  rw [hb.block q (Array.getElem?_eq_some_iff.1 h).1]; exact h
theorem IsTab.alloc {w : World} {q T n : Nat} {g : Nat → Value} (h : IsTab w q T n g) (o : Obj) : IsTab (w.alloc o) q T n g := by
  unfold IsTab at *
  rw [Below.heap_alloc w o q (Array.getElem?_eq_some_iff.1 h).1]; exact h
theorem IsTab.new (w : World) (T n : Nat) (g : Nat → Value) : IsTab (w.alloc (.cells (tab n g) T)) w.heap.size T n g := heap_alloc_new w _
theorem IsTab.row {w : World} {q T n : Nat} {f g : Nat → Value} (h : IsTab w q T n f) : IsTab (w.setRow q (tab n g)) q T n g := setRow_heap w q _ _ _ _ h
theorem IsTab.rowOther {w : World} {q p T n : Nat} {g : Nat → Value} {cs : Array Value} (h : IsTab w q T n g) (hn : q ≠ p) : IsTab (w.setRow p cs) q T n g := by
  unfold IsTab at *
  rw [setRow_other _ _ _ _ hn]; exact h
theorem below_setRow {B : Nat} {W w : World} (h : Below B W w) {q : Nat} (hq : B ≤ q) (cs : Array Value) : Below B W (w.setRow q cs) :=
  ⟨by simp; exact h.os, by simp; exact h.tape, by simp; exact h.output, by simp; exact h.size, fun k hk => by rw [setRow_other _ _ _ _ (by omega)]; exact h.block k hk⟩
/-! ## bytes -/
abbrev Bt := BitVec 8
def Bv (x : Bt) : Int := (x.toNat : Int)
theorem Bv_bd (x : Bt) : 0 ≤ Bv x ∧ Bv x < 256 := by have := x.isLt; unfold Bv; omega
theorem Bv_inj {x y : Bt} (h : Bv x = Bv y) : x = y := by unfold Bv at h; exact BitVec.eq_of_toNat_eq (by omega)
/-- The value of a word, of a byte. -/
def wv (x : Wd64) : Value := .int .u64 (W x)
def bv (x : Bt) : Value := .int .u8 (Bv x)
def words (a : Nat → Wd64) : Array Value := tab 25 fun i => wv (a i)
/-- A byte as a word. -/
def wd (x : Bt) : Wd64 := x.setWidth 64
theorem W_wd (x : Bt) : W (wd x) = Bv x := by
  unfold W wd Bv
  rw [BitVec.toNat_setWidth]
  have := x.isLt
  omega
/-- Eight bytes as a word. -/
def lane (p : Nat → Bt) (i : Nat) : Wd64 :=
  wd (p (8 * i)) ||| wd (p (8 * i + 1)) <<< 8 ||| wd (p (8 * i + 2)) <<< 16 ||| wd (p (8 * i + 3)) <<< 24 ||| wd (p (8 * i + 4)) <<< 32 ||| wd (p (8 * i + 5)) <<< 40 ||| wd (p (8 * i + 6)) <<< 48 ||| wd (p (8 * i + 7)) <<< 56
def absorbK (a : Nat → Wd64) (p : Nat → Bt) (k : Nat) : Nat → Wd64 := fun i => if i < k then a i ^^^ lane p i else a i
def absorb (a : Nat → Wd64) (p : Nat → Bt) : Nat → Wd64 := perm (absorbK a p 17)
def digest (a : Nat → Wd64) (i : Nat) : Bt := (a (i / 8) >>> (8 * (i % 8))).setWidth 8
/-- Behind k whole pieces. -/
def st (l : List Bt) : Nat → Nat → Wd64
  | 0 => fun _ => 0#64
  | k + 1 => absorb (st l k) fun j => l.getD (136 * k + j) 0#8
/-- The last piece. -/
def last (l : List Bt) : Nat → Bt := fun j =>
  (if j < l.length % 136 then l.getD (136 * (l.length / 136) + j) 0#8 else 0#8) ^^^ (if j = l.length % 136 then 1#8 else 0#8) ^^^ (if j = 135 then 128#8 else 0#8)
def sum (l : List Bt) : Nat → Bt := digest (absorb (st l (l.length / 136)) (last l))
theorem wrapW (x : Wd64) : IntKind.u64.wrap (W x) = W x := by have := W_bd x; exact wrap_nn _ this.1 this.2
theorem wrapB (x : Bt) : IntKind.u64.wrap (Bv x) = W (wd x) := by rw [← W_wd]; exact wrapW _
theorem wr_shl (x : Wd64) (s : Nat) (hs : s < 64) : IntKind.u64.wrap (W x * 2 ^ s) = W (x <<< s) := by
  rw [show IntKind.u64.wrap (W x * 2 ^ s) = W x * 2 ^ s % 18446744073709551616 from by simp [IntKind.wrap, IntKind.bits, IntKind.signed]]; exact W_shl x s hs
theorem wr_s8 (x : Wd64) : IntKind.u64.wrap (W x * 256) = W (x <<< 8) := wr_shl x 8 (by decide)
theorem wr_s16 (x : Wd64) : IntKind.u64.wrap (W x * 65536) = W (x <<< 16) := wr_shl x 16 (by decide)
theorem wr_s24 (x : Wd64) : IntKind.u64.wrap (W x * 16777216) = W (x <<< 24) := wr_shl x 24 (by decide)
theorem wr_s32 (x : Wd64) : IntKind.u64.wrap (W x * 4294967296) = W (x <<< 32) := wr_shl x 32 (by decide)
theorem wr_s40 (x : Wd64) : IntKind.u64.wrap (W x * 1099511627776) = W (x <<< 40) := wr_shl x 40 (by decide)
theorem wr_s48 (x : Wd64) : IntKind.u64.wrap (W x * 281474976710656) = W (x <<< 48) := wr_shl x 48 (by decide)
theorem wr_s56 (x : Wd64) : IntKind.u64.wrap (W x * 72057594037927936) = W (x <<< 56) := wr_shl x 56 (by decide)
theorem ktab_below {W w : World} (ht : Laid.KTab W) (h : Below W.heap.size W w) : Laid.KTab w := fun i hi => keep1 h (ht i hi)
theorem und25 : Tryd.prog.underlying 115 = some (.array 25 32) := by kernel_rfl
theorem und136' : Tryd.prog.underlying 116 = some (.array 136 5) := by kernel_rfl
theorem inf25 (g : Nat → Value) : (Tryd.prog.info? 115).map (·.size) = some (tab 25 g).size := by rw [tab_size]; exact kInfo
theorem inf136' : (Tryd.prog.info? 116).map (·.size) = some 136 := by kernel_rfl
theorem inf136 (g : Nat → Value) : (Tryd.prog.info? 116).map (·.size) = some (tab 136 g).size := by rw [tab_size]; exact inf136'
theorem one_wv (a : Nat → Wd64) (n : Nat) : (tab n fun i => wv (a i)).all (·.oneCell') = true := tab_one fun i => rfl
theorem one_bv (a : Nat → Bt) (n : Nat) : (tab n fun i => bv (a i)).all (·.oneCell') = true := tab_one fun i => rfl
/-- What the permutation is said to do. -/
def PermIs : Prop := ∀ (a : Nat → Wd64) (w : World), Laid.KTab w → Calls Tryd.prog 63 #[.agg (arr a)] w fun e w' => e = .returned (.agg (arr (perm a))) ∧ Below w.heap.size w w'
end Kc
end Go.Proofs.YtnaamljflcgepaaDoor
namespace Go.Proofs.YtnaamljflcgepaaDoor
open Go.RowKit
structure Kept (S : Nat → Prop) (w w' : World) : Prop where
  os : w'.os = w.os
  tape : w'.tape = w.tape
  output : w'.output = w.output
  size : w.heap.size ≤ w'.heap.size
  block : ∀ k, k < w.heap.size → ¬ S k → w'.heap[k]? = w.heap[k]?
namespace Kept
variable {S T : Nat → Prop} {a b c w : World}
theorem refl (S : Nat → Prop) (w : World) : Kept S w w := ⟨rfl, rfl, rfl, Nat.le_refl _, fun _ _ _ => rfl⟩
theorem trans (h : Kept S a b) (k : Kept T b c) (hs : ∀ i, i < a.heap.size → T i → S i) : Kept S a c :=
  ⟨k.os.trans h.os, k.tape.trans h.tape, k.output.trans h.output, Nat.le_trans h.size k.size, fun i hi hn => (k.block i (Nat.lt_of_lt_of_le hi h.size) (fun ht => hn (hs i hi ht))).trans (h.block i hi hn)⟩
theorem mono (h : Kept S a b) (hs : ∀ i, i < a.heap.size → S i → T i) : Kept T a b := ⟨h.os, h.tape, h.output, h.size, fun k hk hn => h.block k hk (fun hh => hn (hs k hk hh))⟩
theorem drewN (h : Kept S a b) (n : Nat) : Kept S a (b.drewN n) := ⟨h.os, h.tape, h.output, h.size, h.block⟩
theorem drew (h : Kept S a b) : Kept S a b.drew := ⟨h.os, h.tape, h.output, h.size, h.block⟩
theorem alloc (h : Kept S a b) (o : Obj) : Kept S a (b.alloc o) :=
  ⟨h.os, h.tape, h.output, by have := h.size; simp; omega, fun k hk hn => by rw [Below.heap_alloc _ _ _ (by have := h.size; omega)]; exact h.block k hk hn⟩
theorem setCell (h : Kept S a b) {p : Addr} (hp : S p.block ∨ a.heap.size ≤ p.block) (u : Value) : Kept S a (b.setCell p u) :=
  ⟨h.os, h.tape, h.output, by have := h.size; simpa [World.setCell] using this, fun k hk hn => by
    rw [Below.heap_setCell _ _ _ _ (fun e => by subst e; rcases hp with hp | hp; exact hn hp; omega)]; exact h.block k hk hn⟩
theorem grown {row : Option Nat} (h : Kept S a b) (hg : b.grownBy c row) (hr : ∀ k, row = some k → S k ∨ a.heap.size ≤ k) : Kept S a c :=
  ⟨hg.os.trans h.os, hg.tape.trans h.tape, hg.output.trans h.output, Nat.le_trans h.size hg.size, fun k hk hn =>
    (hg.block k (by have := h.size; omega) (fun e => by rcases hr k e.symm with hs | hs; exact hn hs; omega)).trans (h.block k hk hn)⟩
theorem below {B : Nat} (h : Kept S a b) (hB : B ≤ a.heap.size) (hs : ∀ k, k < a.heap.size → S k → B ≤ k) : Below B a b :=
  ⟨h.os, h.tape, h.output, h.size, fun k hk => h.block k (by omega) (fun e => by have := hs k (by omega) e; omega)⟩
theorem ofBelow (h : Below a.heap.size a b) : Kept S a b := ⟨h.os, h.tape, h.output, h.size, fun k hk _ => h.block k hk⟩
theorem cell (h : Kept S a b) {k o : Nat} {v : Value} (hn : ¬ S k) (hc : a.cell? ⟨k, o, none⟩ = some v) : b.cell? ⟨k, o, none⟩ = some v := by
  rw [World.cell?_of_block (w := a) (h.block k (inHeap hc) hn)]; exact hc
theorem frozen (h : Kept S a b) {k o : Nat} (hn : ¬ S k) (hk : k < a.heap.size) : b.frozen? ⟨k, o, none⟩ = a.frozen? ⟨k, o, none⟩ := World.frozen?_of_block (w := a) (h.block k hk hn)
theorem row {base : Nat} {e : TypeId} {size : Nat} {v : Value} {n : Nat} {xs : List Value} (h : Kept S a b) (ho : a.ownsRow base e size v n xs) (hn : ∀ k, v.ownBlock = some k → ¬ S k) : b.ownsRow base e size v n xs := by
  refine ⟨ho.1, ?_⟩
  rcases ho.2 with hh | ⟨g, cap, cur, rfl, hb, hgg, rest⟩
  · exact .inl hh
  · refine .inr ⟨g, cap, cur, rfl, hb, ?_, rest⟩
    rw [h.block g (Array.getElem?_eq_some_iff.1 hgg).1 (hn g rfl)]; exact hgg
end Kept
theorem ownsRow_base {w : World} {base base' : Nat} {e : TypeId} {size : Nat} {v : Value} {n : Nat} {xs : List Value} (h : w.ownsRow base e size v n xs) (hb : base' ≤ base) : w.ownsRow base' e size v n xs := by
  refine ⟨h.1, ?_⟩
  rcases h.2 with hh | ⟨g, cap, cur, rfl, hbb, rest⟩
  · exact .inl hh
  · exact .inr ⟨g, cap, cur, rfl, by omega, rest⟩
theorem ownsRow_forms {w : World} {base size n : Nat} {e : TypeId} {v : Value} {xs : List Value} (h : w.ownsRow base e size v n xs) : (v = .slice none 0 0 ∧ n = 0) ∨ ∃ g cap, v = .slice (some ⟨g, 0, none⟩) n cap ∧ base ≤ g ∧ g < w.heap.size ∧ n ≤ cap := by
  rcases h.2 with hh | ⟨g, cap, cur, rfl, hbb, hg, hn, _⟩
  · exact .inl hh
  · exact .inr ⟨g, cap, rfl, hbb, (Array.getElem?_eq_some_iff.1 hg).1, hn⟩
theorem size_setCell (w : World) (a : Addr) (v : Value) : (w.setCell a v).heap.size = w.heap.size := by simp [World.setCell]
end Go.Proofs.YtnaamljflcgepaaDoor
namespace Go.Proofs.YtnaamljflcgepaaDoor
open Go.RowKit
set_option linter.unusedVariables false
/-- A world of the class R. -/
structure Wd (R : World → Prop) where
  val : World
  ok : R val
theorem wp_region_in {P : Program} {id : Nat} {Q : Exit → Act → World → Prop} {a : Act} {w : World} {l : List Oper} (R : World → Prop) (hm : P.follows .mixedOrders = true) (hB : Region.lexB .any l.toArray = true) (hR : R w.drew)
    (h : wpQuiet P l.toArray (fun w' => ∃ s : Wd R, w' = s.val) (fun a' => ∀ w', (∃ s : Wd R, w' = s.val) → Q .normal a' w') l a) : (Code.region id l.toArray true).wp P Q a w :=
  wp_region_quiet (C := fun w' => ∃ s : Wd R, w' = s.val) hm hB ⟨⟨_, hR⟩, rfl⟩ (by simpa using h)
/-- A contract over worlds of the class, from one that makes memory alone. -/
theorem in_of_below {P : Program} {f : FuncId} {args : Array Value} {v : Value} {R : World → Prop} (s : Wd R) (hR : ∀ y, Below s.val.heap.size s.val y → R y) (h : Calls P f args s.val fun e w' => e = .returned v ∧ Below s.val.heap.size s.val w') :
    Calls P f args s.val fun e w' => e = .returned v ∧ ∃ s' : Wd R, w' = s'.val :=
  h.mono fun e w' ⟨he, hb⟩ => ⟨he, ⟨w', hR w' hb⟩, rfl⟩
theorem in_of_same {P : Program} {f : FuncId} {args : Array Value} {v : Value} {R : World → Prop} (s : Wd R) (h : Calls P f args s.val fun e w' => e = .returned v ∧ s.val = w') :
    Calls P f args s.val fun e w' => e = .returned v ∧ ∃ s' : Wd R, w' = s'.val :=
  h.mono fun e w' ⟨he, hb⟩ => ⟨he, s, hb.symm⟩
end Go.Proofs.YtnaamljflcgepaaDoor
