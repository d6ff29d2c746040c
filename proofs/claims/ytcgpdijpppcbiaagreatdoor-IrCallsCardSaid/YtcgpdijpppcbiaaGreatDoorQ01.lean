/- Merged of Kec Row Kw Laid Tks Ors Ot Kept Ewb Eva Krot. Own work. -/
import Derived.Below
import Derived.WalkKit
import Derived.WalkSmall
import Derived.Deep.Draws
import Derived.Laws.BitsAllLaws
import Derived.Outline
import Derived.Lib.Hide
import Derived.Test.YtcgpdijpppcbiaaGreatDoorRows
import Derived.LaidLaws
import Derived.LaidHandle
import Derived.LaidSub
import Derived.Stop.Joined
import Derived.ChangeVars
import Derived.RowKitTokens
import Derived.OpenShut
import Derived.OrdersHeld
import Derived.Deep.RegionHeld3
import Derived.StillTail
import Derived.Deep.MidRow
import Derived.Laws.OwnMore
import Derived.OwnWalk
namespace Go.Proofs.YtcgpdijpppcbiaaGreatDoor
set_option linter.unusedVariables false
namespace Kc
abbrev Wd64 := BitVec 64
def rotl (x : Wd64) (r : Nat) : Wd64 := x.rotateLeft r
/-- The parity of a column. -/
def par (a : Nat → Wd64) (x : Nat) : Wd64 := a x ^^^ a (x + 5) ^^^ a (x + 10) ^^^ a (x + 15) ^^^ a (x + 20)
def dd (a : Nat → Wd64) (x : Nat) : Wd64 := par a ((x + 4) % 5) ^^^ rotl (par a ((x + 1) % 5)) 1
def theta (a : Nat → Wd64) (j : Nat) : Wd64 := a j ^^^ dd a (j % 5)
/-- By how much each word is turned. -/
def turns : List Nat := [0, 1, 62, 28, 27, 36, 44, 6, 55, 20, 3, 10, 43, 25, 39, 41, 45, 15, 21, 8, 18, 2, 61, 56, 14]
/-- From where a word comes. -/
def src (k : Nat) : Nat := (3 * (k / 5) + k % 5) % 5 + 5 * (k % 5)
def rhopi (a : Nat → Wd64) (k : Nat) : Wd64 := rotl (a (src k)) (turns.getD (src k) 0)
def chi (b : Nat → Wd64) (k : Nat) : Wd64 := b k ^^^ (~~~ b (5 * (k / 5) + (k % 5 + 1) % 5) &&& b (5 * (k / 5) + (k % 5 + 2) % 5))
def iota (c : Wd64) (a : Nat → Wd64) (k : Nat) : Wd64 := if k = 0 then a 0 ^^^ c else a k
def rnd (c : Wd64) (a : Nat → Wd64) : Nat → Wd64 := iota c (chi (rhopi (theta a)))
def consts : List Wd64 := [0x1#64, 0x8082#64, 0x800000000000808a#64, 0x8000000080008000#64, 0x808b#64, 0x80000001#64, 0x8000000080008081#64, 0x8000000000008009#64,
  0x8a#64, 0x88#64, 0x80008009#64, 0x8000000a#64, 0x8000808b#64, 0x800000000000008b#64, 0x8000000000008089#64, 0x8000000000008003#64,
  0x8000000000008002#64, 0x8000000000000080#64, 0x800a#64, 0x800000008000000a#64, 0x8000000080008081#64, 0x8000000000008080#64, 0x80000001#64, 0x8000000080008008#64]
def rnds (a : Nat → Wd64) (n : Nat) : Nat → Wd64 := (consts.take n).foldl (fun a c => rnd c a) a
def perm (a : Nat → Wd64) : Nat → Wd64 := rnds a 24

/-! ## rotl -/
theorem rotl_bit (x : Wd64) (r n : Nat) (hn : n < 64) : (rotl x r).getLsbD n = x.getLsbD ((n + 64 - r % 64) % 64) := by
  unfold rotl
  rw [BitVec.getLsbD_rotateLeft]
  by_cases h : n < r % 64
  · rw [decide_eq_true h]
    show x.getLsbD (64 - r % 64 + n) = _
    congr 1
    omega
  · rw [decide_eq_false h, decide_eq_true hn]
    show (true && x.getLsbD (n - r % 64)) = _
    rw [Bool.true_and]
    congr 1
    omega
/-! ## the others -/
theorem src_lt (k : Nat) (h : k < 25) : src k < 25 := by unfold src; omega
/-- It looks at 25 words only. -/
theorem theta_cong {a b : Nat → Wd64} (h : ∀ j, j < 25 → a j = b j) : ∀ j, j < 25 → theta a j = theta b j := by
  have hp : ∀ x, x < 5 → par a x = par b x := fun x hx => by
    unfold par
    rw [h x (by omega), h (x + 5) (by omega), h (x + 10) (by omega), h (x + 15) (by omega), h (x + 20) (by omega)]
  intro j hj
  unfold theta dd
  rw [h j hj, hp _ (Nat.mod_lt _ (by decide)), hp _ (Nat.mod_lt _ (by decide))]
theorem rnd_cong {c : Wd64} {a b : Nat → Wd64} (h : ∀ j, j < 25 → a j = b j) : ∀ j, j < 25 → rnd c a j = rnd c b j := by
  have h1 := theta_cong h
  have h2 : ∀ j, j < 25 → rhopi (theta a) j = rhopi (theta b) j := fun j hj => by unfold rhopi; rw [h1 _ (src_lt j hj)]
  have h3 : ∀ j, j < 25 → chi (rhopi (theta a)) j = chi (rhopi (theta b)) j := fun j hj => by
    unfold chi; rw [h2 j hj, h2 _ (by omega), h2 _ (by omega)]
  intro j hj
  unfold rnd iota
  split
  · rw [h3 0 (by decide)]
  · exact h3 j hj
theorem fold_cong : ∀ (l : List Wd64) (a b : Nat → Wd64), (∀ j, j < 25 → a j = b j) → ∀ j, j < 25 → l.foldl (fun a c => rnd c a) a j = l.foldl (fun a c => rnd c a) b j
  | [], a, b, h => h
  | c :: l, a, b, h => fold_cong l (rnd c a) (rnd c b) (rnd_cong h)
end Kc
end Go.Proofs.YtcgpdijpppcbiaaGreatDoor
namespace Go.Proofs.YtcgpdijpppcbiaaGreatDoor
open Go.RowKit
theorem add_at (b off i : Nat) : (⟨b, off, none⟩ : Addr).add i = ⟨b, off + i, none⟩ := by
  cases i with
  | zero => rfl
  | succ n => rfl
theorem bl {a w w' : World} (h : Below a.heap.size a w) (h2 : Below w.heap.size w w') : Below a.heap.size a w' := h.trans (h2.mono h.size)
/-- Two cells of a block. -/
theorem keep1 {W w1 : World} {b o : Nat} {x : Value} (hb : Below W.heap.size W w1) (h : W.cell? ⟨b, o, none⟩ = some x) : w1.cell? ⟨b, o, none⟩ = some x := by
  have hl : b < W.heap.size := by
    rcases Nat.lt_or_ge b W.heap.size with h1 | h1
    · exact h1
    · simp [World.cell?, Array.getElem?_eq_none h1] at h
  rw [hb.cell (p := ⟨b, o, none⟩) hl]; exact h
theorem inHeap {w : World} {b o : Nat} {x : Value} (h : w.cell? ⟨b, o, none⟩ = some x) : b < w.heap.size := by
  rcases Nat.lt_or_ge b w.heap.size with h1 | h1
  · exact h1
  · simp [World.cell?, Array.getElem?_eq_none h1] at h
end Go.Proofs.YtcgpdijpppcbiaaGreatDoor
namespace Go.Proofs.YtcgpdijpppcbiaaGreatDoor
open Go.RowKit
set_option linter.unusedVariables false
namespace Kc
/-- A word as Go's number. -/
def W (x : Wd64) : Int := (x.toNat : Int)
theorem W_bd (x : Wd64) : 0 ≤ W x ∧ W x < 18446744073709551616 := by have := x.isLt; unfold W; omega
theorem W_xor (x y : Wd64) : bits .xor .u64 (W x) (W y) = W (x ^^^ y) := by
  unfold W; rw [u64_xor_nat _ _ x.isLt y.isLt, BitVec.toNat_xor]
theorem W_and (x y : Wd64) : bits .and .u64 (W x) (W y) = W (x &&& y) := by
  unfold W; rw [u64_and_nat _ _ x.isLt y.isLt, BitVec.toNat_and]
theorem W_or (x y : Wd64) : bits .or .u64 (W x) (W y) = W (x ||| y) := by
  unfold W; rw [u64_or_nat _ _ x.isLt y.isLt, BitVec.toNat_or]
theorem W_shl (x : Wd64) (s : Nat) (hs : s < 64) : W x * 2 ^ s % 18446744073709551616 = W (x <<< s) := by
  unfold W
  rw [BitVec.toNat_shiftLeft, Nat.shiftLeft_eq]
  have : ((x.toNat : Int) * 2 ^ s) = ((x.toNat * 2 ^ s : Nat) : Int) := by rw [Int.natCast_mul, Int.natCast_pow]; rfl
  rw [this]; rfl
theorem W_shr (x : Wd64) (s : Nat) : W x / 2 ^ s = W (x >>> s) := by
  unfold W
  rw [BitVec.toNat_ushiftRight, Nat.shiftRight_eq_div_pow, Int.natCast_ediv, Int.natCast_pow]; rfl
theorem rotl_is (x : Wd64) (s : Nat) (h0 : 0 < s) (hs : s < 64) : (x <<< s) ||| (x >>> (64 - s)) = rotl x s := by
  apply BitVec.eq_of_getLsbD_eq
  intro i hi
  rw [rotl_bit _ _ _ hi, BitVec.getLsbD_or, BitVec.getLsbD_shiftLeft, BitVec.getLsbD_ushiftRight, decide_eq_true hi]
  by_cases h : i < s
  · rw [decide_eq_true h]
    have e : 64 - s + i = (i + 64 - s % 64) % 64 := by omega
    rw [e]; simp
  · rw [decide_eq_false h]
    have e : (i + 64 - s % 64) % 64 = i - s := by omega
    rw [e, BitVec.getLsbD_of_ge x (64 - s + i) (by omega)]; simp
end Kc
end Go.Proofs.YtcgpdijpppcbiaaGreatDoor
namespace Go.Proofs.YtcgpdijpppcbiaaGreatDoor
open Go.RowKit
namespace Laid
theorem mem {P : Program} {w : World} {n : String} {d : DataW Unit} : ∀ {l : List (String × DataW Unit)} {ps : List MemPlace}, DataW.LaidVars P w l ps → (n, d) ∈ l →
    ∃ g t cs fuel p, P.globalNamed n = some g ∧ (P.globals[g]?).map (·.type) = some t ∧ w.var? P n = some cs ∧ DataW.trod (fun _ => ()) P w 0 (fun _ => true) false fuel t cs.toList = some (d, p) := by
  intro l
  induction l with
  | nil => intro ps h hx; cases hx
  | cons x r ih =>
    intro ps h hx
    obtain ⟨n', d'⟩ := x
    obtain ⟨g, t, cs, fuel, p, q, h1, h2, h3, h4, h5, h6⟩ := h
    rcases List.mem_cons.1 hx with e | hm
    · cases e
      exact ⟨g, t, cs, fuel, p, h1, h2, h3, h4⟩
    · exact ih h5 hm
/-- The table of the permutation's constants. -/
def KTab (w : World) : Prop := ∀ i, i < 24 → w.cell? ⟨0, i, none⟩ = some (.int .u64 (Kc.W (Kc.consts.getD i 0#64)))
theorem kNamed : Tryz.prog.globalNamed "moot/keccak.constants" = some 0 := by kernel_rfl
theorem kType : (Tryz.prog.globals[0]?).map (·.type) = some 119 := by kernel_rfl
theorem kCells : Tryz.prog.cellsOf 22 = 1 := by kernel_rfl
theorem kDatum : (Rows.laid_moot_keccak_constants : DataW Unit) = .agg (Kc.consts.map fun c => .lit (.int .u64 (Kc.W c))) := by kernel_rfl
theorem of_moot_keccak_constants {l : List (String × DataW Unit)} {W : World} (h : laidMetH Tryz.prog l W) (hx : ("moot/keccak.constants", Rows.laid_moot_keccak_constants) ∈ l) : KTab W := by
  obtain ⟨ps, hl, _⟩ := (laidMetH_iff.1 h).1
  obtain ⟨g, t, cs, fuel, p, h1, h2, h3, h4⟩ := mem hl (List.mem_filter.2 ⟨hx, by rfl⟩)
  obtain rfl := Option.some.inj (kNamed.symm.trans h1)
  obtain rfl := Option.some.inj (kType.symm.trans h2)
  obtain ⟨xs, m, rfl, hx1, hlen, hn, hel⟩ := DataW.trod_array Tryz.underlying119 h4
  rw [kDatum] at hx1
  simp only [Prod.mk.injEq, DataW.agg.injEq] at hx1
  intro j hj
  have e := hel j hj
  rw [kCells, Nat.mul_one, List.getElem?_eq_getElem (by omega)] at e
  obtain ⟨k, e1, e2, _⟩ := DataW.trod_int Tryz.underlying22 e
  have e3 : (xs.map (·.1))[j]? = some (.lit (.int .u64 k)) := by rw [List.getElem?_map, List.getElem?_eq_getElem (by omega), e2]; rfl
  have hjc : j < Kc.consts.length := hj
  rw [← hx1.1, List.getElem?_map, List.getElem?_eq_getElem hjc] at e3
  have e4 : Kc.W Kc.consts[j] = k := by have e8 := e3; simp at e8; exact e8
  have e5 : cs.toList[j]? = some (.int .u64 k) := by
    have h9 : ((cs.toList.drop j).take 1)[0]? = some (.int .u64 k) := by rw [e1]; rfl
    simpa using h9
  have e6 := World.var?_cell kNamed h3 j
  have e7 : cs[j]? = some (.int .u64 k) := by simpa using e5
  rw [List.getD_eq_getElem?_getD, List.getElem?_eq_getElem hjc]
  rw [show (some Kc.consts[j]).getD 0#64 = Kc.consts[j] by rfl, e4, ← e7]
  exact e6
end Laid
end Go.Proofs.YtcgpdijpppcbiaaGreatDoor
namespace Go.Proofs.YtcgpdijpppcbiaaGreatDoor
set_option linter.unusedVariables false
section
variable {P : Program} {ops : Array Oper} {Q : Exit → Act → World → Prop} {S : World → Prop}
end
end Go.Proofs.YtcgpdijpppcbiaaGreatDoor
namespace Go.Proofs.YtcgpdijpppcbiaaGreatDoor
open Go.RowKit
set_option linter.unusedVariables false
section
variable {P : Program} {ops : Array Oper} {Q : Exit → Act → World → Prop}
theorem wpAnyH_weaken {md : Region.Mode} {S S' : World → Prop} (hS : ∀ y, S' y → S y) : ∀ (fuel : Nat) (listed : Array Bool) (a : Act) (w : World), wpAnyH P md ops Q S' fuel listed a w → wpAnyH P md ops Q S fuel listed a w
  | 0, _, _, _, h => h
  | fuel + 1, listed, a, w, h => ⟨h.1, fun i hi => wpOp_mono (fun a' w' h' => ⟨hS _ h'.1, wpAnyH_weaken hS fuel _ a' w' h'.2⟩) (h.2 i hi)⟩
end
end Go.Proofs.YtcgpdijpppcbiaaGreatDoor
namespace Go.Proofs.YtcgpdijpppcbiaaGreatDoor
open Go.RowKit
set_option linter.unusedVariables false
/-- A slot written, as a list. -/
theorem pS.{u} : (∀ {α : Type u} (l : List α) (i : Nat) (a : α), l.toArray.setIfInBounds i a = (l.set i a).toArray) ∧ (∀ {α : Type u} (a b : α) (l : List α), (a :: l).set 0 b = b :: l) ∧ (∀ {α : Type u} (a b : α) (l : List α) (i : Nat), (a :: l).set (i + 1) b = a :: l.set i b) :=
  ⟨fun l i a => List.setIfInBounds_toArray .., fun a b l => rfl, fun a b l i => rfl⟩
inductive OG where
  | done : OG
  | take : Nat → OG → OG
  | one : Nat → OG → OG
  | two : Nat → OG → Nat → OG → OG
def OG.size : OG → Nat
  | .done => 0
  | .take _ r => r.size + 1
  | .one _ r => r.size + 1
  | .two _ r _ _ => r.size + 1
section
variable {P : Program} {ops : Array Oper} {Q : Exit → Act → World → Prop} {S : World → Prop}
def wpOg (P : Program) (ops : Array Oper) (Q : Exit → Act → World → Prop) : OG → (World → Prop) → Act → World → Prop
  | .done, _, a, w => Q .normal a w
  | .take k r, S, a, w => ∃ o v, ops[k]? = some o ∧ YieldsIf P ops S o v a ∧ wpOg P ops Q r S (a.put o.dst v) w
  | .one k r, S, a, w => ∃ o, ops[k]? = some o ∧ Region.wanted o (yielded ops a.tmps) = true ∧ o.wp P a w (fun a' w' => ∃ S' : World → Prop, (∀ y, S' y → S y) ∧ S' w' ∧ wpOg P ops Q r S' a' w') Q
  | .two k r m t, S, a, w => (∃ o, ops[k]? = some o ∧ Region.wanted o (yielded ops a.tmps) = true ∧ o.wp P a w (fun a' w' => ∃ S' : World → Prop, (∀ y, S' y → S y) ∧ S' w' ∧ wpOg P ops Q r S' a' w') Q) ∧
      (∃ o, ops[m]? = some o ∧ Region.wanted o (yielded ops a.tmps) = true ∧ o.wp P a w (fun a' w' => ∃ S' : World → Prop, (∀ y, S' y → S y) ∧ S' w' ∧ wpOg P ops Q t S' a' w') Q)
theorem og_done {a : Act} {w : World} (h : Q .normal a w) : wpOg P ops Q .done S a w := h
theorem og_t {k : Nat} {r : OG} {o : Oper} {v : Value} {a : Act} {w : World} (ho : ops[k]? = some o) (hw : Region.wanted o (yielded ops a.tmps) = true)
    (hy : ∀ w, S w → (execOp a.eval o).run P w = .ok (.value v) w) (h : wpOg P ops Q r S (a.put o.dst v) w) : wpOg P ops Q (.take k r) S a w :=
  ⟨o, v, ho, .inl ⟨hw, hy⟩, h⟩
theorem og_tk {k : Nat} {r : OG} {o : Oper} {a : Act} {w : World} (d : Option Tmp) (v : Value) (ho : ops[k]? = some o) (hd : o.dst = d) (hw : Region.wanted o (yielded ops a.tmps) = true)
    (hy : ∀ w, S w → (execOp a.eval o).run P w = .ok (.value v) w) (h : wpOg P ops Q r S (a.put d v) w) : wpOg P ops Q (.take k r) S a w :=
  og_t ho hw hy (by rw [hd]; exact h)
theorem og_ld {k : Nat} {r : OG} {o : Oper} {a : Act} {w : World} (d : Option Tmp) (ty : TypeId) (x : Operand) (p v : Value) (ho : ops[k]? = some o) (hd : o.dst = d) (hw : Region.wanted o (yielded ops a.tmps) = true) (hop : o.op = .load ty x) (hx : a.eval x = p)
    (hl : ∀ w, S w → (Instr.loadAt ty p).run P w = .ok v w) (h : wpOg P ops Q r S (a.put d v) w) : wpOg P ops Q (.take k r) S a w :=
  og_tk d v ho hd hw (fun w hw => by unfold execOp; simp only [hop, hx]; simp [hl w hw, Result.andThen]) h
theorem og_of {k : Nat} {r : OG} {o : Oper} {a : Act} {w : World} (ho : ops[k]? = some o) (hw : Region.wanted o (yielded ops a.tmps) = true)
    (h : ∀ K : Act → World → Prop, (∀ a' w', S w' → wpOg P ops Q r S a' w' → K a' w') → o.wp P a w K Q) :
    ∃ o, ops[k]? = some o ∧ Region.wanted o (yielded ops a.tmps) = true ∧ o.wp P a w (fun a' w' => ∃ S' : World → Prop, (∀ y, S' y → S y) ∧ S' w' ∧ wpOg P ops Q r S' a' w') Q :=
  ⟨o, ho, hw, h _ fun _ _ h1 h2 => ⟨S, fun _ h => h, h1, h2⟩⟩
theorem og_f {k : Nat} {r : OG} {o : Oper} {a : Act} {w : World} (ho : ops[k]? = some o) (hw : Region.wanted o (yielded ops a.tmps) = true)
    (h : ∀ K : Act → World → Prop, (∀ a' w', S w' → wpOg P ops Q r S a' w' → K a' w') → o.wp P a w K Q) : wpOg P ops Q (.one k r) S a w := og_of ho hw h
theorem og_two {k m : Nat} {r t : OG} {a : Act} {w : World}
    (h1 : ∃ o, ops[k]? = some o ∧ Region.wanted o (yielded ops a.tmps) = true ∧ o.wp P a w (fun a' w' => ∃ S' : World → Prop, (∀ y, S' y → S y) ∧ S' w' ∧ wpOg P ops Q r S' a' w') Q)
    (h2 : ∃ o, ops[m]? = some o ∧ Region.wanted o (yielded ops a.tmps) = true ∧ o.wp P a w (fun a' w' => ∃ S' : World → Prop, (∀ y, S' y → S y) ∧ S' w' ∧ wpOg P ops Q t S' a' w') Q) : wpOg P ops Q (.two k r m t) S a w := ⟨h1, h2⟩
def ogB (ops : Array Oper) : OG → Array Bool → Bool
  | .done, l => (Region.ready .any ops l).isEmpty
  | .take k r, l => (Region.ready .any ops l).contains k && Region.free .any ops l k && ogB ops r (l.setIfInBounds k true)
  | .one k r, l => decide (Region.ready .any ops l = [k]) && ogB ops r (l.setIfInBounds k true)
  | .two k r m t, l => decide (Region.ready .any ops l = [k, m]) && decide (r.size = t.size) && ogB ops r (l.setIfInBounds k true) && ogB ops t (l.setIfInBounds m true)
theorem og_any (hs : Region.noSelect ops = true) (hQ : ∀ c a d v w, Q (.panic c) (a.put d v) w → Q (.panic c) a w) : ∀ (l : OG) (listed : Array Bool) (S : World → Prop) (a : Act) (w : World), S w →
    ogB ops l listed = true → wpOg P ops Q l S a w → wpAnyH P .any ops Q S l.size listed a w
  | .done, _, _, _, _, _, hB, h => ⟨by simpa [ogB] using hB, h⟩
  | .take k r, listed, S, a, w, hS, hB, ⟨o, v, h0, hy, h⟩ => by
    simp only [ogB, Bool.and_eq_true] at hB
    exact wpAnyH_take h0 hs hB.1.2 hB.1.1 (fun c a w => hQ c a _ _ w) hy hS (og_any hs hQ r _ _ _ _ hS hB.2 h)
  | .one k r, listed, S, a, w, hS, hB, ⟨o, h0, hw, h⟩ => by
    simp only [ogB, Bool.and_eq_true, decide_eq_true_eq] at hB
    refine wpAnyH_all hB.1 (by simp) fun i hi => ?_
    have hik : i = k := by simpa using hi
    subst hik
    unfold wpOp
    simp only [h0]
    rw [if_pos hw]
    exact .inl (Oper.wp_mono (fun a' w' ⟨S', h1, h2, h3⟩ => ⟨h1 _ h2, wpAnyH_weaken h1 _ _ _ _ (og_any hs hQ r _ S' _ _ h2 hB.2 h3)⟩) h)
  | .two k r m t, listed, S, a, w, hS, hB, ⟨⟨o, h0, hw, h⟩, ⟨o2, h02, hw2, h2⟩⟩ => by
    simp only [ogB, Bool.and_eq_true, decide_eq_true_eq] at hB
    refine wpAnyH_all hB.1.1.1 (by simp) fun i hi => ?_
    have hik : i = k ∨ i = m := by simpa using hi
    rcases hik with e | e
    · subst e
      unfold wpOp
      simp only [h0]
      rw [if_pos hw]
      exact .inl (Oper.wp_mono (fun a' w' ⟨S', g1, g2, g3⟩ => ⟨g1 _ g2, wpAnyH_weaken g1 _ _ _ _ (og_any hs hQ r _ S' _ _ g2 hB.1.2 g3)⟩) h)
    · subst e
      unfold wpOp
      simp only [h02]
      rw [if_pos hw2]
      exact .inl (Oper.wp_mono (fun a' w' ⟨S', g1, g2, g3⟩ => ⟨g1 _ g2, wpAnyH_weaken g1 _ _ _ _ (by have h3 := og_any hs hQ t _ S' _ _ g2 hB.2 g3; rw [← hB.1.1.2] at h3; exact h3)⟩) h2)
theorem wp_region_og {id : Nat} {a : Act} {w : World} {l : List Oper} (S : World → Prop) (t : OG) (hm : P.follows .mixedOrders = true) (hB : (decide (t.size = l.length) && Region.noSelect l.toArray && ogB l.toArray t (Array.replicate l.length false)) = true) (hS : S w.drew)
    (h : wpOg P l.toArray (NoPanic Q) t S a w.drew) : (Code.region id l.toArray true).wp P Q a w := by
  refine wp_region_noPanic ?_
  have hQ : ∀ c a d v w, NoPanic Q (.panic c) (a.put d v) w → NoPanic Q (.panic c) a w := fun _ _ _ _ _ h => h
  simp only [Bool.and_eq_true, decide_eq_true_eq] at hB
  refine wp_region_held (S := S) hm ?_
  have h1 := og_any (P := P) (Q := NoPanic Q) (ops := l.toArray) hB.1.2 hQ t (Array.replicate l.length false) S a w.drew hS hB.2 h
  rw [hB.1.1] at h1
  simpa using h1
end
end Go.Proofs.YtcgpdijpppcbiaaGreatDoor
namespace Go.Proofs.YtcgpdijpppcbiaaGreatDoor
open Go.RowKit
structure Kept (S : Nat → Prop) (w w' : World) : Prop where
  os : w'.os = w.os
  tape : w'.tape = w.tape
  output : w'.output = w.output
  size : w.heap.size ≤ w'.heap.size
  block : ∀ k, k < w.heap.size → ¬ S k → w'.heap[k]? = w.heap[k]?
namespace Kept
variable {S T : Nat → Prop} {a b c w : World}
theorem refl (S : Nat → Prop) (w : World) : Kept S w w := ⟨rfl, rfl, rfl, Nat.le_refl _, fun _ _ _ => rfl⟩
theorem trans (h : Kept S a b) (k : Kept T b c) (hs : ∀ i, i < a.heap.size → T i → S i) : Kept S a c :=
  ⟨k.os.trans h.os, k.tape.trans h.tape, k.output.trans h.output, Nat.le_trans h.size k.size, fun i hi hn => (k.block i (Nat.lt_of_lt_of_le hi h.size) (fun ht => hn (hs i hi ht))).trans (h.block i hi hn)⟩
theorem mono (h : Kept S a b) (hs : ∀ i, i < a.heap.size → S i → T i) : Kept T a b := ⟨h.os, h.tape, h.output, h.size, fun k hk hn => h.block k hk (fun hh => hn (hs k hk hh))⟩
theorem drewN (h : Kept S a b) (n : Nat) : Kept S a (b.drewN n) := ⟨h.os, h.tape, h.output, h.size, h.block⟩
theorem drew (h : Kept S a b) : Kept S a b.drew := ⟨h.os, h.tape, h.output, h.size, h.block⟩
theorem alloc (h : Kept S a b) (o : Obj) : Kept S a (b.alloc o) :=
  ⟨h.os, h.tape, h.output, by have := h.size; simp; omega, fun k hk hn => by rw [Below.heap_alloc _ _ _ (by have := h.size; omega)]; exact h.block k hk hn⟩
theorem setCell (h : Kept S a b) {p : Addr} (hp : S p.block ∨ a.heap.size ≤ p.block) (u : Value) : Kept S a (b.setCell p u) :=
  ⟨h.os, h.tape, h.output, by have := h.size; simpa [World.setCell] using this, fun k hk hn => by
    rw [Below.heap_setCell _ _ _ _ (fun e => by subst e; rcases hp with hp | hp; exact hn hp; omega)]; exact h.block k hk hn⟩
theorem grown {row : Option Nat} (h : Kept S a b) (hg : b.grownBy c row) (hr : ∀ k, row = some k → S k ∨ a.heap.size ≤ k) : Kept S a c :=
  ⟨hg.os.trans h.os, hg.tape.trans h.tape, hg.output.trans h.output, Nat.le_trans h.size hg.size, fun k hk hn =>
    (hg.block k (by have := h.size; omega) (fun e => by rcases hr k e.symm with hs | hs; exact hn hs; omega)).trans (h.block k hk hn)⟩
theorem below {B : Nat} (h : Kept S a b) (hB : B ≤ a.heap.size) (hs : ∀ k, k < a.heap.size → S k → B ≤ k) : Below B a b :=
  ⟨h.os, h.tape, h.output, h.size, fun k hk => h.block k (by omega) (fun e => by have := hs k (by omega) e; omega)⟩
theorem ofBelow (h : Below a.heap.size a b) : Kept S a b := ⟨h.os, h.tape, h.output, h.size, fun k hk _ => h.block k hk⟩
theorem cell (h : Kept S a b) {k o : Nat} {v : Value} (hn : ¬ S k) (hc : a.cell? ⟨k, o, none⟩ = some v) : b.cell? ⟨k, o, none⟩ = some v := by
  rw [World.cell?_of_block (w := a) (h.block k (inHeap hc) hn)]; exact hc
theorem frozen (h : Kept S a b) {k o : Nat} (hn : ¬ S k) (hk : k < a.heap.size) : b.frozen? ⟨k, o, none⟩ = a.frozen? ⟨k, o, none⟩ := World.frozen?_of_block (w := a) (h.block k hk hn)
theorem row {base : Nat} {e : TypeId} {size : Nat} {v : Value} {n : Nat} {xs : List Value} (h : Kept S a b) (ho : a.ownsRow base e size v n xs) (hn : ∀ k, v.ownBlock = some k → ¬ S k) : b.ownsRow base e size v n xs := by
  refine ⟨ho.1, ?_⟩
  rcases ho.2 with hh | ⟨g, cap, cur, rfl, hb, hgg, rest⟩
  · exact .inl hh
  · refine .inr ⟨g, cap, cur, rfl, hb, ?_, rest⟩
    rw [h.block g (Array.getElem?_eq_some_iff.1 hgg).1 (hn g rfl)]; exact hgg
end Kept
theorem ownsRow_forms {w : World} {base size n : Nat} {e : TypeId} {v : Value} {xs : List Value} (h : w.ownsRow base e size v n xs) : (v = .slice none 0 0 ∧ n = 0) ∨ ∃ g cap, v = .slice (some ⟨g, 0, none⟩) n cap ∧ base ≤ g ∧ g < w.heap.size ∧ n ≤ cap := by
  rcases h.2 with hh | ⟨g, cap, cur, rfl, hbb, hg, hn, _⟩
  · exact .inl hh
  · exact .inr ⟨g, cap, rfl, hbb, (Array.getElem?_eq_some_iff.1 hg).1, hn⟩
theorem size_setCell (w : World) (a : Addr) (v : Value) : (w.setCell a v).heap.size = w.heap.size := by simp [World.setCell]
theorem one_at {w : World} {n : Nat} (hn : n = w.heap.size) (a : Value) (t : TypeId) : ∀ j u, [a][j]? = some u → (w.alloc (.cells #[a] t)).cell? ((⟨n, 0, none⟩ : Addr).add j) = some u := by
  subst hn
  intro j u hu
  cases j with
  | zero => simp at hu; subst hu; simp [Addr.add]
  | succ j => simp at hu
end Go.Proofs.YtcgpdijpppcbiaaGreatDoor
namespace Go.Proofs.YtcgpdijpppcbiaaGreatDoor
open Go.RowKit
set_option linter.unusedVariables false
set_option linter.unusedSimpArgs false
section
variable {P : Program} {ops : Array Oper} {Q : Exit → Act → World → Prop}
def unl (n : Nat) (l : Array Bool) : Nat := ((List.range n).filter fun k => !l.getD k true).length
theorem ready_mem {l : Array Bool} {i : Nat} (h : i ∈ Region.ready .any ops l) : i < ops.size ∧ l.getD i true = false ∧ ∃ o, ops[i]? = some o ∧ (o.after.all fun e => !Region.binds .any e || l.getD e.on false) = true := by
  unfold Region.ready at h
  rw [List.mem_filter] at h
  obtain ⟨h1, h2⟩ := h
  have h1 := List.mem_range.1 h1
  simp only [Bool.and_eq_true] at h2
  refine ⟨h1, by simpa using h2.1, ?_⟩
  cases ho : ops[i]? with
  | none => rw [ho] at h2; simp at h2
  | some o => rw [ho] at h2; exact ⟨o, rfl, by simpa using h2.2⟩
theorem getD_set (l : Array Bool) (i k : Nat) (d : Bool) (hi : i < l.size) : (l.setIfInBounds i true).getD k d = if k = i then true else l.getD k d := by
  by_cases h : k = i
  · subst h; simp [Array.getD, hi]
  · rw [if_neg h]
    simp only [Array.getD_eq_getD_getElem?]
    rw [Array.getElem?_setIfInBounds_ne (fun e => h e.symm)]
theorem unl_set {n : Nat} {l : Array Bool} {i : Nat} (hn : i < n) (hi : i < l.size) (h : l.getD i true = false) : unl n (l.setIfInBounds i true) < unl n l := by
  unfold unl
  have : ∀ (r : List Nat), ((r.filter fun k => !(l.setIfInBounds i true).getD k true).length ≤ (r.filter fun k => !l.getD k true).length) ∧ (i ∈ r → (r.filter fun k => !(l.setIfInBounds i true).getD k true).length < (r.filter fun k => !l.getD k true).length) := by
    intro r
    induction r with
    | nil => exact ⟨Nat.le_refl _, fun h => by cases h⟩
    | cons k r ih =>
      have hk := getD_set l i k true hi
      by_cases e : k = i
      · subst e
        rw [if_pos rfl] at hk
        simp only [List.filter_cons, hk, h]
        simp only [Bool.not_true, Bool.not_false, Bool.false_eq_true, if_false, if_true, List.length_cons]
        exact ⟨by have := ih.1; omega, fun _ => by have := ih.1; omega⟩
      · rw [if_neg e] at hk
        simp only [List.filter_cons, hk]
        split
        · simp only [List.length_cons]
          exact ⟨by have := ih.1; omega, fun hm => by
            rcases List.mem_cons.1 hm with e2 | hm
            · exact absurd e2.symm e
            · have := ih.2 hm; omega⟩
        · exact ⟨ih.1, fun hm => by
            rcases List.mem_cons.1 hm with e2 | hm
            · exact absurd e2.symm e
            · exact ih.2 hm⟩
  exact (this (List.range n)).2 (List.mem_range.2 hn)
theorem any_inv (Inv : Array Bool → Act → World → Prop) (hsz : ∀ l a w, Inv l a w → l.size = ops.size)
    (hend : ∀ l a w, Inv l a w → Region.ready .any ops l = [] → Q .normal a w)
    (hstep : ∀ l a w i, Inv l a w → i ∈ Region.ready .any ops l → wpOp P ops Q i (fun a' w' => Inv (l.setIfInBounds i true) a' w') a w) :
    ∀ n l a w, Inv l a w → unl ops.size l ≤ n → wpAnyH P .any ops Q (fun _ => True) n l a w
  | 0, l, a, w, h, hn => by
    have he : Region.ready .any ops l = [] := by
      cases hr : Region.ready .any ops l with
      | nil => rfl
      | cons i r =>
        obtain ⟨h1, h2, _⟩ := ready_mem (ops := ops) (l := l) (i := i) (by rw [hr]; exact List.mem_cons_self ..)
        have : i ∈ (List.range ops.size).filter fun k => !l.getD k true := List.mem_filter.2 ⟨List.mem_range.2 h1, by rw [h2]; rfl⟩
        have := List.length_pos_of_mem this
        unfold unl at hn
        omega
    exact ⟨he, hend l a w h he⟩
  | n + 1, l, a, w, h, hn => by
    refine ⟨fun he => hend l a w h he, fun i hi => ?_⟩
    obtain ⟨h1, h2, _⟩ := ready_mem hi
    have hu := unl_set (n := ops.size) h1 (by rw [hsz l a w h]; exact h1) h2
    exact wpOp_mono (fun a' w' h' => ⟨trivial, any_inv Inv hsz hend hstep n _ a' w' h' (by omega)⟩) (hstep l a w i h hi)
/-- All have come up where none may come up. -/
theorem ready_nil {l : Array Bool} (hl : l.size = ops.size) (hord : ((List.range ops.size).all fun k => ((ops[k]?).map fun o => o.after.all fun e => !Region.binds .any e || decide (e.on < k)).getD false) = true) (he : Region.ready .any ops l = []) : ∀ m k, k < m → k < ops.size → l.getD k false = true
  | 0, k, h, _ => by omega
  | m + 1, k, h, hk => by
    by_cases hm : k < m
    · exact ready_nil hl hord he m k hm hk
    cases hv : l.getD k false with
    | true => rfl
    | false =>
      exfalso
      have hv2 : l.getD k true = false := by simpa [Array.getD, hl, hk] using hv
      have ho := List.all_eq_true.1 hord k (List.mem_range.2 hk)
      cases hop : ops[k]? with
      | none => rw [hop] at ho; simp at ho
      | some o =>
        rw [hop] at ho
        have ho2 : (o.after.all fun e => !Region.binds .any e || decide (e.on < k)) = true := by simpa using ho
        have : k ∈ Region.ready .any ops l := by
          unfold Region.ready
          rw [List.mem_filter]
          refine ⟨List.mem_range.2 hk, ?_⟩
          rw [hv2, hop]
          simp only [Bool.not_false, Bool.true_and, Option.map_some, Option.getD_some]
          rw [Array.all_eq_true] at ho2 ⊢
          intro j hj
          have := ho2 j hj
          simp only [Bool.or_eq_true, decide_eq_true_eq] at this ⊢
          rcases this with h1 | h1
          · exact .inl h1
          · exact .inr (ready_nil hl hord he m _ (by omega) (by omega))
        rw [he] at this
        cases this
theorem wp_region_inv {id : Nat} {a : Act} {w : World} (hm : P.follows .mixedOrders = true) (Inv : Array Bool → Act → World → Prop) (h0 : Inv (Array.replicate ops.size false) a w.drew) (hsz : ∀ l a w, Inv l a w → l.size = ops.size)
    (hord : ((List.range ops.size).all fun k => ((ops[k]?).map fun o => o.after.all fun e => !Region.binds .any e || decide (e.on < k)).getD false) = true)
    (hend : ∀ l a w, Inv l a w → (∀ k, k < ops.size → l.getD k false = true) → Q .normal a w)
    (hstep : ∀ l a w i o, Inv l a w → ops[i]? = some o → (o.after.all fun e => !Region.binds .any e || l.getD e.on false) = true → Region.wanted o (yielded ops a.tmps) = true ∧ o.wp P a w (fun a' w' => Inv (l.setIfInBounds i true) a' w') Q) : (Code.region id ops true).wp P Q a w := by
  refine wp_region_held (S := fun _ => True) hm (any_inv Inv hsz (fun l a w h he => hend l a w h fun k hk => ready_nil (hsz l a w h) hord he (k + 1) k (Nat.lt_succ_self k) hk) (fun l a w i h hi => ?_) ops.size _ a _ h0 ?_)
  · obtain ⟨h1, h2, o, ho, ha⟩ := ready_mem hi
    have hs := hstep l a w i o h ho ha
    unfold wpOp
    rw [ho]
    simp only
    rw [if_pos hs.1]
    exact .inl hs.2
  · unfold unl
    exact Nat.le_trans (List.length_filter_le ..) (by simp)
end
end Go.Proofs.YtcgpdijpppcbiaaGreatDoor
namespace Go.Proofs.YtcgpdijpppcbiaaGreatDoor
set_option linter.unusedVariables false
namespace Ir
/-- A list of expressions. -/
inductive Ef where
  | nil : Ef
  | cons (op : Int) (n : Nat) (kids rest : Ef) : Ef
/-- A list of statements. -/
inductive Sf where
  | nil : Sf
  | cons (kind n : Int) (ao : Int) (an : Nat) (ak : Ef) (bo : Int) (bn : Nat) (bk : Ef) (body els rest : Sf) : Sf
def Ef.len : Ef → Nat
  | .nil => 0
  | .cons _ _ _ r => r.len + 1
def Sf.len : Sf → Nat
  | .nil => 0
  | .cons _ _ _ _ _ _ _ _ _ _ r => r.len + 1
/-- A function. -/
structure Fn where
  params : Int
  locals : Int
  body : Sf
/-- A run's state. -/
structure Rs where
  mem : Nat → Nat
  fuel : Nat
  used : Nat
  dry : Bool
  exit : Nat
def upd (f : Nat → Nat) (i v : Nat) : Nat → Nat := fun j => if j = i then v else f j
def Rs.up (s : Rs) : Rs := { s with used := s.used + 1 }
def Rs.dried (s : Rs) : Rs := { s with dry := true }
def Rs.ends (s : Rs) (x : Nat) : Rs := { s with exit := x }
def Rs.put (s : Rs) (a x : Nat) : Rs := { s with mem := upd s.mem a x }
def wrong : Nat := 18446744073709551614
structure Sem where
  val : Int → Nat → Ef → (Nat → Nat) → Rs → Option (Nat × Bool × Rs)
  lst : Sf → (Nat → Nat) → Nat → Rs → Option (Nat × (Nat → Nat) × Nat × Rs)
def evArgs (val : Int → Nat → Ef → (Nat → Nat) → Rs → Option (Nat × Bool × Rs)) : Ef → Nat → (Nat → Nat) → (Nat → Nat) → Rs → Option ((Nat → Nat) × Bool × Rs)
  | .nil, _, A, _, s => some (A, true, s)
  | .cons op n kids rest, i, A, L, s => if i < 24 then
      match val op n kids L s with
      | none => none
      | some (v, true, s') => evArgs val rest (i + 1) (upd A i v) L s'
      | some (_, false, s') => some (A, false, s')
    else none
def stepCall (prog : List Fn) (rec : Sem) (n m : Nat) (A : Nat → Nat) (s : Rs) : Option (Nat × Bool × Rs) :=
  match prog[n]? with
  | none => none
  | some fn =>
    match rec.lst fn.body (fun i => if i < m then A i else 0) 0 s with
    | none => none
    | some (way, _, v, s') => if way = 2 then some (0, false, s') else some (v, true, s')
def stepOp (prog : List Fn) (ap : Nat → Nat → Nat → Nat → Nat) (rec : Sem) (op : Int) (n m : Nat) (A L : Nat → Nat) (s : Rs) : Option (Nat × Bool × Rs) :=
  if op = 26 then some (n, true, s)
  else if op = 27 then (if n < 24 then some (L n, true, s) else none)
  else if op = 28 then (if A 0 < 2048 then some (s.mem (A 0), true, s) else some (0, false, s.ends wrong))
  else if op = 29 then stepCall prog rec n m A s
  else if 1 ≤ op ∧ op ≤ 25 then some (ap op.toNat (A 0) (A 1) (A 2), true, s)
  else none
def stepVal (prog : List Fn) (ap : Nat → Nat → Nat → Nat → Nat) (rec : Sem) (op : Int) (n : Nat) (kids : Ef) (L : Nat → Nat) (s : Rs) : Option (Nat × Bool × Rs) :=
  if s.used < s.fuel then
    match evArgs rec.val kids 0 (fun _ => 0) L s.up with
    | none => none
    | some (_, false, s') => some (0, false, s')
    | some (A, true, s') => stepOp prog ap rec op n kids.len A L s'
  else some (0, false, s.dried)
def wh (rec : Sem) (ao : Int) (an : Nat) (ak : Ef) (body : Sf) : Nat → (Nat → Nat) → Nat → Rs → Option (Nat × (Nat → Nat) × Nat × Rs)
  | 0, _, _, _ => none
  | g + 1, L, v, s =>
    if s.used < s.fuel then
      match rec.val ao an ak L s.up with
      | none => none
      | some (_, false, s1) => some (2, L, v, s1)
      | some (a, true, s1) =>
        if a = 0 then some (0, L, v, s1)
        else match rec.lst body L v s1 with
          | none => none
          | some (way, L', v', s') => if way = 0 then wh rec ao an ak body g L' v' s' else some (way, L', v', s')
    else some (2, L, v, s.dried)
def stepKind (rec : Sem) (kind n : Int) (bo : Int) (bn : Nat) (bk : Ef) (body els : Sf) (a : Nat) (L : Nat → Nat) (v : Nat) (s : Rs) : Option (Nat × (Nat → Nat) × Nat × Rs) :=
  if kind = 1 then (if 0 ≤ n ∧ n < 24 then some (0, upd L n.toNat a, v, s) else none)
  else if kind = 2 then
    match rec.val bo bn bk L s with
    | none => none
    | some (_, false, s2) => some (2, L, v, s2)
    | some (x, true, s2) => if a < 2048 then some (0, L, v, s2.put a x) else some (2, L, v, s2.ends wrong)
  else if kind = 3 then (if a = 0 then rec.lst els L v s else rec.lst body L v s)
  else if kind = 5 then some (1, L, a, s)
  else if kind = 7 then some (2, L, v, s.ends a)
  else some (0, L, v, s)
def stepSt (rec : Sem) (g : Nat) (kind n : Int) (ao : Int) (an : Nat) (ak : Ef) (bo : Int) (bn : Nat) (bk : Ef) (body els : Sf) (L : Nat → Nat) (v : Nat) (s : Rs) : Option (Nat × (Nat → Nat) × Nat × Rs) :=
  if kind = 4 then wh rec ao an ak body g L v s
  else if s.used < s.fuel then
    match rec.val ao an ak L s.up with
    | none => none
    | some (_, false, s1) => some (2, L, v, s1)
    | some (a, true, s1) => stepKind rec kind n bo bn bk body els a L v s1
  else some (2, L, v, s.dried)
def evL (rec : Sem) (g : Nat) : Sf → (Nat → Nat) → Nat → Rs → Option (Nat × (Nat → Nat) × Nat × Rs)
  | .nil, L, v, s => some (0, L, v, s)
  | .cons kind n ao an ak bo bn bk body els rest, L, v, s =>
    match stepSt rec g kind n ao an ak bo bn bk body els L v s with
    | none => none
    | some (way, L', v', s') => if way = 0 then evL rec g rest L' v' s' else some (way, L', v', s')
/-- Calls as deep as d, loops as long as g. -/
def sem (prog : List Fn) (ap : Nat → Nat → Nat → Nat → Nat) (g : Nat) : Nat → Sem
  | 0 => ⟨fun _ _ _ _ _ => none, fun _ _ _ _ => none⟩
  | d + 1 => ⟨stepVal prog ap (sem prog ap g d), evL (sem prog ap g d) g⟩
/-- No expression of a list is deeper than d. -/
def fitE : Ef → Nat → Bool
  | .nil, _ => true
  | .cons _ _ kids rest, d => decide (1 ≤ d) && fitE kids (d - 1) && fitE rest d
def cntE : Ef → Nat
  | .nil => 0
  | .cons _ _ kids rest => 1 + cntE kids + cntE rest
/-- How many arguments an operation of words has. -/
def argN (op : Int) : Nat := if op = 8 ∨ op = 9 then 3 else if op = 21 ∨ op = 25 then 1 else 2
/-- An expression's own part is right, in the function at. -/
def rightOp (prog : List Fn) (at_ : Nat) (op : Int) (n m : Nat) : Bool :=
  if op = 26 then m == 0
  else if op = 27 then m == 0 && (match prog[at_]? with | some fn => decide ((n : Int) < fn.locals) | none => false)
  else if op = 28 then m == 1
  else if op = 29 then decide (at_ < n) && (match prog[n]? with | some fn => decide (fn.params = (m : Int)) | none => false)
  else decide (1 ≤ op ∧ op ≤ 25) && m == argN op
def rightE (prog : List Fn) (at_ : Nat) : Ef → Bool
  | .nil => true
  | .cons op n kids rest => rightOp prog at_ op n kids.len && rightE prog at_ kids && rightE prog at_ rest
/-- A statement's expressions, and its lists. -/
def exprs (kind : Int) (ao : Int) (an : Nat) (ak : Ef) (bo : Int) (bn : Nat) (bk : Ef) : Ef :=
  if kind = 2 then .cons ao an ak (.cons bo bn bk .nil) else .cons ao an ak .nil
def fitS : Sf → Nat → Bool
  | .nil, _ => true
  | .cons kind n ao an ak bo bn bk body els rest, d => decide (1 ≤ d) && decide (1 ≤ kind ∧ kind ≤ 7) && fitE (exprs kind ao an ak bo bn bk) 8 && (if kind = 3 then fitS body (d - 1) && fitS els (d - 1) else if kind = 4 then fitS body (d - 1) else true) && fitS rest d
def cntS : Sf → Nat
  | .nil => 0
  | .cons kind n ao an ak bo bn bk body els rest => 1 + cntE (exprs kind ao an ak bo bn bk) + (if kind = 3 then cntS body + cntS els else if kind = 4 then cntS body else 0) + cntS rest
def rightS (prog : List Fn) (at_ : Nat) : Sf → Bool
  | .nil => true
  | .cons kind n ao an ak bo bn bk body els rest => decide (1 ≤ kind ∧ kind ≤ 7) && (!decide (kind = 1) || (decide (0 ≤ n) && (match prog[at_]? with | some fn => decide (n < fn.locals) | none => false))) && rightE prog at_ (exprs kind ao an ak bo bn bk) && (if kind = 3 then rightS prog at_ body && rightS prog at_ els else if kind = 4 then rightS prog at_ body else true) && rightS prog at_ rest
/-- A program is right. -/
def rightFs (prog : List Fn) : Nat → List Fn → Bool
  | _, [] => true
  | i, fn :: r => decide (0 ≤ fn.params ∧ fn.params ≤ fn.locals ∧ fn.locals ≤ 24) && rightS prog i fn.body && rightFs prog (i + 1) r
def cntF : List Fn → Nat
  | [] => 0
  | fn :: r => cntS fn.body + cntF r
def right (prog : List Fn) : Bool :=
  (prog.all fun fn => fitS fn.body 16) && decide (cntF prog ≤ 6000) && decide (1 ≤ prog.length ∧ prog.length ≤ 64) && (match prog[0]? with | some fn => decide (fn.params = 0) | none => false) && rightFs prog 0 prog
end Ir
end Go.Proofs.YtcgpdijpppcbiaaGreatDoor
namespace Go.Proofs.YtcgpdijpppcbiaaGreatDoor
open Go.RowKit
set_option linter.unusedVariables false
namespace Kc
theorem wrap_nn (k : Int) (h0 : 0 ≤ k) (h1 : k < 18446744073709551616) : IntKind.u64.wrap k = k := by simp [IntKind.wrap, IntKind.bits, IntKind.signed]; omega
theorem rot_is (x : Wd64) (s : Nat) (hs0 : 0 < s) (hs : s < 64) (w : World) :
    Calls Tryz.prog 82 #[.int .u64 (W x), .int .i64 s] w fun e w' => e = .returned (.int .u64 (W (rotl x s))) ∧ w = w' := by
  have h63 : bits BinOp.and .u64 (s : Int) 63 = (s : Int) := by
    rw [show (63 : Int) = ((63 : Nat) : Int) from rfl, u64_and_nat _ _ (by omega) (by decide)]
    have : s &&& 63 = s := by rw [show (63 : Nat) = 2 ^ 6 - 1 from rfl, Nat.and_two_pow_sub_one_eq_mod]; omega
    rw [this]
  have hsi : (s : Int) < 64 := by omega
  have hsi0 : (0 : Int) < s := by omega
  have hb := W_bd x
  have hb0 := hb.1
  have hb1 := hb.2
  clear hb
  go_enter Tryz.func82, Tryz.ntmps82
  go_wp2_with fail
  go_ret
  refine ⟨?_, rfl⟩
  show Ending.returned (.int .u64 (bits BinOp.or .u64 (IntKind.u64.wrap (W x * 2 ^ s)) (W x / 2 ^ (64 - s)))) = _
  rw [show IntKind.u64.wrap (W x * 2 ^ s) = W (x <<< s) from by rw [show IntKind.u64.wrap (W x * 2 ^ s) = W x * 2 ^ s % 18446744073709551616 from by simp [IntKind.wrap, IntKind.bits, IntKind.signed]]; exact W_shl x s hs, W_shr, W_or, rotl_is x s hs0 hs]
end Kc
end Go.Proofs.YtcgpdijpppcbiaaGreatDoor
