/- Merged of Kec Row Kw Laid Eva Krot Kprm Tab. Own work. -/
import Derived.Below
import Derived.WalkKit
import Derived.WalkSmall
import Derived.Deep.Draws
import Derived.Laws.BitsAllLaws
import Derived.Outline
import Derived.Lib.Hide
import Derived.Test.YtcgpdijpppcbiaaDoorRows
import Derived.LaidLaws
import Derived.LaidHandle
import Derived.LaidSub
import Derived.Stop.Joined
import Derived.ChangeVars
import Derived.RowKitTokens
import Derived.OpenShut
import Derived.LoopTactic
import Derived.Deep.Cut
import Derived.Deep.WholeRow
import Derived.Laws.Tables
import Derived.Deep.MidRow
namespace Go.Proofs.YtcgpdijpppcbiaaDoor
set_option linter.unusedVariables false
namespace Kc
abbrev Wd64 := BitVec 64
def rotl (x : Wd64) (r : Nat) : Wd64 := x.rotateLeft r
/-- The parity of a column. -/
def par (a : Nat → Wd64) (x : Nat) : Wd64 := a x ^^^ a (x + 5) ^^^ a (x + 10) ^^^ a (x + 15) ^^^ a (x + 20)
def dd (a : Nat → Wd64) (x : Nat) : Wd64 := par a ((x + 4) % 5) ^^^ rotl (par a ((x + 1) % 5)) 1
def theta (a : Nat → Wd64) (j : Nat) : Wd64 := a j ^^^ dd a (j % 5)
/-- By how much each word is turned. -/
def turns : List Nat := [0, 1, 62, 28, 27, 36, 44, 6, 55, 20, 3, 10, 43, 25, 39, 41, 45, 15, 21, 8, 18, 2, 61, 56, 14]
/-- From where a word comes. -/
def src (k : Nat) : Nat := (3 * (k / 5) + k % 5) % 5 + 5 * (k % 5)
def rhopi (a : Nat → Wd64) (k : Nat) : Wd64 := rotl (a (src k)) (turns.getD (src k) 0)
def chi (b : Nat → Wd64) (k : Nat) : Wd64 := b k ^^^ (~~~ b (5 * (k / 5) + (k % 5 + 1) % 5) &&& b (5 * (k / 5) + (k % 5 + 2) % 5))
def iota (c : Wd64) (a : Nat → Wd64) (k : Nat) : Wd64 := if k = 0 then a 0 ^^^ c else a k
def rnd (c : Wd64) (a : Nat → Wd64) : Nat → Wd64 := iota c (chi (rhopi (theta a)))
def consts : List Wd64 := [0x1#64, 0x8082#64, 0x800000000000808a#64, 0x8000000080008000#64, 0x808b#64, 0x80000001#64, 0x8000000080008081#64, 0x8000000000008009#64,
  0x8a#64, 0x88#64, 0x80008009#64, 0x8000000a#64, 0x8000808b#64, 0x800000000000008b#64, 0x8000000000008089#64, 0x8000000000008003#64,
  0x8000000000008002#64, 0x8000000000000080#64, 0x800a#64, 0x800000008000000a#64, 0x8000000080008081#64, 0x8000000000008080#64, 0x80000001#64, 0x8000000080008008#64]
def rnds (a : Nat → Wd64) (n : Nat) : Nat → Wd64 := (consts.take n).foldl (fun a c => rnd c a) a
def perm (a : Nat → Wd64) : Nat → Wd64 := rnds a 24

/-! ## rotl -/
theorem rotl_bit (x : Wd64) (r n : Nat) (hn : n < 64) : (rotl x r).getLsbD n = x.getLsbD ((n + 64 - r % 64) % 64) := by
  unfold rotl
  rw [BitVec.getLsbD_rotateLeft]
  by_cases h : n < r % 64
  · rw [decide_eq_true h]
    show x.getLsbD (64 - r % 64 + n) = _
    congr 1
    omega
  · rw [decide_eq_false h, decide_eq_true hn]
    show (true && x.getLsbD (n - r % 64)) = _
    rw [Bool.true_and]
    congr 1
    omega
/-! ## the others -/
theorem src_lt (k : Nat) (h : k < 25) : src k < 25 := by unfold src; omega
/-- It looks at 25 words only. -/
theorem theta_cong {a b : Nat → Wd64} (h : ∀ j, j < 25 → a j = b j) : ∀ j, j < 25 → theta a j = theta b j := by
  have hp : ∀ x, x < 5 → par a x = par b x := fun x hx => by
    unfold par
    rw [h x (by omega), h (x + 5) (by omega), h (x + 10) (by omega), h (x + 15) (by omega), h (x + 20) (by omega)]
  intro j hj
  unfold theta dd
  rw [h j hj, hp _ (Nat.mod_lt _ (by decide)), hp _ (Nat.mod_lt _ (by decide))]
theorem rnd_cong {c : Wd64} {a b : Nat → Wd64} (h : ∀ j, j < 25 → a j = b j) : ∀ j, j < 25 → rnd c a j = rnd c b j := by
  have h1 := theta_cong h
  have h2 : ∀ j, j < 25 → rhopi (theta a) j = rhopi (theta b) j := fun j hj => by unfold rhopi; rw [h1 _ (src_lt j hj)]
  have h3 : ∀ j, j < 25 → chi (rhopi (theta a)) j = chi (rhopi (theta b)) j := fun j hj => by
    unfold chi; rw [h2 j hj, h2 _ (by omega), h2 _ (by omega)]
  intro j hj
  unfold rnd iota
  split
  · rw [h3 0 (by decide)]
  · exact h3 j hj
theorem fold_cong : ∀ (l : List Wd64) (a b : Nat → Wd64), (∀ j, j < 25 → a j = b j) → ∀ j, j < 25 → l.foldl (fun a c => rnd c a) a j = l.foldl (fun a c => rnd c a) b j
  | [], a, b, h => h
  | c :: l, a, b, h => fold_cong l (rnd c a) (rnd c b) (rnd_cong h)
end Kc
end Go.Proofs.YtcgpdijpppcbiaaDoor
namespace Go.Proofs.YtcgpdijpppcbiaaDoor
open Go.RowKit
theorem add_at (b off i : Nat) : (⟨b, off, none⟩ : Addr).add i = ⟨b, off + i, none⟩ := by
  cases i with
  | zero => rfl
  | succ n => rfl
theorem bl {a w w' : World} (h : Below a.heap.size a w) (h2 : Below w.heap.size w w') : Below a.heap.size a w' := h.trans (h2.mono h.size)
/-- Two cells of a block. -/
theorem keep1 {W w1 : World} {b o : Nat} {x : Value} (hb : Below W.heap.size W w1) (h : W.cell? ⟨b, o, none⟩ = some x) : w1.cell? ⟨b, o, none⟩ = some x := by
  have hl : b < W.heap.size := by
    rcases Nat.lt_or_ge b W.heap.size with h1 | h1
    · exact h1
    · simp [World.cell?, Array.getElem?_eq_none h1] at h
  rw [hb.cell (p := ⟨b, o, none⟩) hl]; exact h
theorem inHeap {w : World} {b o : Nat} {x : Value} (h : w.cell? ⟨b, o, none⟩ = some x) : b < w.heap.size := by
  rcases Nat.lt_or_ge b w.heap.size with h1 | h1
  · exact h1
  · simp [World.cell?, Array.getElem?_eq_none h1] at h
end Go.Proofs.YtcgpdijpppcbiaaDoor
namespace Go.Proofs.YtcgpdijpppcbiaaDoor
open Go.RowKit
set_option linter.unusedVariables false
namespace Kc
/-- A word as Go's number. -/
def W (x : Wd64) : Int := (x.toNat : Int)
theorem W_bd (x : Wd64) : 0 ≤ W x ∧ W x < 18446744073709551616 := by have := x.isLt; unfold W; omega
theorem W_xor (x y : Wd64) : bits .xor .u64 (W x) (W y) = W (x ^^^ y) := by
  unfold W; rw [u64_xor_nat _ _ x.isLt y.isLt, BitVec.toNat_xor]
theorem W_and (x y : Wd64) : bits .and .u64 (W x) (W y) = W (x &&& y) := by
  unfold W; rw [u64_and_nat _ _ x.isLt y.isLt, BitVec.toNat_and]
theorem W_or (x y : Wd64) : bits .or .u64 (W x) (W y) = W (x ||| y) := by
  unfold W; rw [u64_or_nat _ _ x.isLt y.isLt, BitVec.toNat_or]
theorem W_shl (x : Wd64) (s : Nat) (hs : s < 64) : W x * 2 ^ s % 18446744073709551616 = W (x <<< s) := by
  unfold W
  rw [BitVec.toNat_shiftLeft, Nat.shiftLeft_eq]
  have : ((x.toNat : Int) * 2 ^ s) = ((x.toNat * 2 ^ s : Nat) : Int) := by rw [Int.natCast_mul, Int.natCast_pow]; rfl
  rw [this]; rfl
theorem W_shr (x : Wd64) (s : Nat) : W x / 2 ^ s = W (x >>> s) := by
  unfold W
  rw [BitVec.toNat_ushiftRight, Nat.shiftRight_eq_div_pow, Int.natCast_ediv, Int.natCast_pow]; rfl
theorem rotl_is (x : Wd64) (s : Nat) (h0 : 0 < s) (hs : s < 64) : (x <<< s) ||| (x >>> (64 - s)) = rotl x s := by
  apply BitVec.eq_of_getLsbD_eq
  intro i hi
  rw [rotl_bit _ _ _ hi, BitVec.getLsbD_or, BitVec.getLsbD_shiftLeft, BitVec.getLsbD_ushiftRight, decide_eq_true hi]
  by_cases h : i < s
  · rw [decide_eq_true h]
    have e : 64 - s + i = (i + 64 - s % 64) % 64 := by omega
    rw [e]; simp
  · rw [decide_eq_false h]
    have e : (i + 64 - s % 64) % 64 = i - s := by omega
    rw [e, BitVec.getLsbD_of_ge x (64 - s + i) (by omega)]; simp
end Kc
end Go.Proofs.YtcgpdijpppcbiaaDoor
namespace Go.Proofs.YtcgpdijpppcbiaaDoor
open Go.RowKit
namespace Laid
theorem mem {P : Program} {w : World} {n : String} {d : DataW Unit} : ∀ {l : List (String × DataW Unit)} {ps : List MemPlace}, DataW.LaidVars P w l ps → (n, d) ∈ l →
    ∃ g t cs fuel p, P.globalNamed n = some g ∧ (P.globals[g]?).map (·.type) = some t ∧ w.var? P n = some cs ∧ DataW.trod (fun _ => ()) P w 0 (fun _ => true) false fuel t cs.toList = some (d, p) := by
  intro l
  induction l with
  | nil => intro ps h hx; cases hx
  | cons x r ih =>
    intro ps h hx
    obtain ⟨n', d'⟩ := x
    obtain ⟨g, t, cs, fuel, p, q, h1, h2, h3, h4, h5, h6⟩ := h
    rcases List.mem_cons.1 hx with e | hm
    · cases e
      exact ⟨g, t, cs, fuel, p, h1, h2, h3, h4⟩
    · exact ih h5 hm
/-- The table of the permutation's constants. -/
def KTab (w : World) : Prop := ∀ i, i < 24 → w.cell? ⟨0, i, none⟩ = some (.int .u64 (Kc.W (Kc.consts.getD i 0#64)))
theorem kNamed : Tryd.prog.globalNamed "moot/keccak.constants" = some 0 := by kernel_rfl
theorem kType : (Tryd.prog.globals[0]?).map (·.type) = some 99 := by kernel_rfl
theorem kCells : Tryd.prog.cellsOf 22 = 1 := by kernel_rfl
theorem kDatum : (Rows.laid_moot_keccak_constants : DataW Unit) = .agg (Kc.consts.map fun c => .lit (.int .u64 (Kc.W c))) := by kernel_rfl
theorem of_moot_keccak_constants {l : List (String × DataW Unit)} {W : World} (h : laidMetH Tryd.prog l W) (hx : ("moot/keccak.constants", Rows.laid_moot_keccak_constants) ∈ l) : KTab W := by
  obtain ⟨ps, hl, _⟩ := (laidMetH_iff.1 h).1
  obtain ⟨g, t, cs, fuel, p, h1, h2, h3, h4⟩ := mem hl (List.mem_filter.2 ⟨hx, by rfl⟩)
  obtain rfl := Option.some.inj (kNamed.symm.trans h1)
  obtain rfl := Option.some.inj (kType.symm.trans h2)
  obtain ⟨xs, m, rfl, hx1, hlen, hn, hel⟩ := DataW.trod_array Tryd.underlying99 h4
  rw [kDatum] at hx1
  simp only [Prod.mk.injEq, DataW.agg.injEq] at hx1
  intro j hj
  have e := hel j hj
  rw [kCells, Nat.mul_one, List.getElem?_eq_getElem (by omega)] at e
  obtain ⟨k, e1, e2, _⟩ := DataW.trod_int Tryd.underlying22 e
  have e3 : (xs.map (·.1))[j]? = some (.lit (.int .u64 k)) := by rw [List.getElem?_map, List.getElem?_eq_getElem (by omega), e2]; rfl
  have hjc : j < Kc.consts.length := hj
  rw [← hx1.1, List.getElem?_map, List.getElem?_eq_getElem hjc] at e3
  have e4 : Kc.W Kc.consts[j] = k := by have e8 := e3; simp at e8; exact e8
  have e5 : cs.toList[j]? = some (.int .u64 k) := by
    have h9 : ((cs.toList.drop j).take 1)[0]? = some (.int .u64 k) := by rw [e1]; rfl
    simpa using h9
  have e6 := World.var?_cell kNamed h3 j
  have e7 : cs[j]? = some (.int .u64 k) := by simpa using e5
  rw [List.getD_eq_getElem?_getD, List.getElem?_eq_getElem hjc]
  rw [show (some Kc.consts[j]).getD 0#64 = Kc.consts[j] by rfl, e4, ← e7]
  exact e6
end Laid
end Go.Proofs.YtcgpdijpppcbiaaDoor
namespace Go.Proofs.YtcgpdijpppcbiaaDoor
set_option linter.unusedVariables false
namespace Ir
/-- A list of expressions. -/
inductive Ef where
  | nil : Ef
  | cons (op : Int) (n : Nat) (kids rest : Ef) : Ef
/-- A list of statements. -/
inductive Sf where
  | nil : Sf
  | cons (kind n : Int) (ao : Int) (an : Nat) (ak : Ef) (bo : Int) (bn : Nat) (bk : Ef) (body els rest : Sf) : Sf
def Ef.len : Ef → Nat
  | .nil => 0
  | .cons _ _ _ r => r.len + 1
def Sf.len : Sf → Nat
  | .nil => 0
  | .cons _ _ _ _ _ _ _ _ _ _ r => r.len + 1
/-- A function. -/
structure Fn where
  params : Int
  locals : Int
  body : Sf
/-- A run's state. -/
structure Rs where
  mem : Nat → Nat
  fuel : Nat
  used : Nat
  dry : Bool
  exit : Nat
def upd (f : Nat → Nat) (i v : Nat) : Nat → Nat := fun j => if j = i then v else f j
def Rs.up (s : Rs) : Rs := { s with used := s.used + 1 }
def Rs.dried (s : Rs) : Rs := { s with dry := true }
def Rs.ends (s : Rs) (x : Nat) : Rs := { s with exit := x }
def Rs.put (s : Rs) (a x : Nat) : Rs := { s with mem := upd s.mem a x }
def wrong : Nat := 18446744073709551614
structure Sem where
  val : Int → Nat → Ef → (Nat → Nat) → Rs → Option (Nat × Bool × Rs)
  lst : Sf → (Nat → Nat) → Nat → Rs → Option (Nat × (Nat → Nat) × Nat × Rs)
def evArgs (val : Int → Nat → Ef → (Nat → Nat) → Rs → Option (Nat × Bool × Rs)) : Ef → Nat → (Nat → Nat) → (Nat → Nat) → Rs → Option ((Nat → Nat) × Bool × Rs)
  | .nil, _, A, _, s => some (A, true, s)
  | .cons op n kids rest, i, A, L, s => if i < 24 then
      match val op n kids L s with
      | none => none
      | some (v, true, s') => evArgs val rest (i + 1) (upd A i v) L s'
      | some (_, false, s') => some (A, false, s')
    else none
def stepCall (prog : List Fn) (rec : Sem) (n m : Nat) (A : Nat → Nat) (s : Rs) : Option (Nat × Bool × Rs) :=
  match prog[n]? with
  | none => none
  | some fn =>
    match rec.lst fn.body (fun i => if i < m then A i else 0) 0 s with
    | none => none
    | some (way, _, v, s') => if way = 2 then some (0, false, s') else some (v, true, s')
def stepOp (prog : List Fn) (ap : Nat → Nat → Nat → Nat → Nat) (rec : Sem) (op : Int) (n m : Nat) (A L : Nat → Nat) (s : Rs) : Option (Nat × Bool × Rs) :=
  if op = 26 then some (n, true, s)
  else if op = 27 then (if n < 24 then some (L n, true, s) else none)
  else if op = 28 then (if A 0 < 2048 then some (s.mem (A 0), true, s) else some (0, false, s.ends wrong))
  else if op = 29 then stepCall prog rec n m A s
  else if 1 ≤ op ∧ op ≤ 25 then some (ap op.toNat (A 0) (A 1) (A 2), true, s)
  else none
def stepVal (prog : List Fn) (ap : Nat → Nat → Nat → Nat → Nat) (rec : Sem) (op : Int) (n : Nat) (kids : Ef) (L : Nat → Nat) (s : Rs) : Option (Nat × Bool × Rs) :=
  if s.used < s.fuel then
    match evArgs rec.val kids 0 (fun _ => 0) L s.up with
    | none => none
    | some (_, false, s') => some (0, false, s')
    | some (A, true, s') => stepOp prog ap rec op n kids.len A L s'
  else some (0, false, s.dried)
def wh (rec : Sem) (ao : Int) (an : Nat) (ak : Ef) (body : Sf) : Nat → (Nat → Nat) → Nat → Rs → Option (Nat × (Nat → Nat) × Nat × Rs)
  | 0, _, _, _ => none
  | g + 1, L, v, s =>
    if s.used < s.fuel then
      match rec.val ao an ak L s.up with
      | none => none
      | some (_, false, s1) => some (2, L, v, s1)
      | some (a, true, s1) =>
        if a = 0 then some (0, L, v, s1)
        else match rec.lst body L v s1 with
          | none => none
          | some (way, L', v', s') => if way = 0 then wh rec ao an ak body g L' v' s' else some (way, L', v', s')
    else some (2, L, v, s.dried)
def stepKind (rec : Sem) (kind n : Int) (bo : Int) (bn : Nat) (bk : Ef) (body els : Sf) (a : Nat) (L : Nat → Nat) (v : Nat) (s : Rs) : Option (Nat × (Nat → Nat) × Nat × Rs) :=
  if kind = 1 then (if 0 ≤ n ∧ n < 24 then some (0, upd L n.toNat a, v, s) else none)
  else if kind = 2 then
    match rec.val bo bn bk L s with
    | none => none
    | some (_, false, s2) => some (2, L, v, s2)
    | some (x, true, s2) => if a < 2048 then some (0, L, v, s2.put a x) else some (2, L, v, s2.ends wrong)
  else if kind = 3 then (if a = 0 then rec.lst els L v s else rec.lst body L v s)
  else if kind = 5 then some (1, L, a, s)
  else if kind = 7 then some (2, L, v, s.ends a)
  else some (0, L, v, s)
def stepSt (rec : Sem) (g : Nat) (kind n : Int) (ao : Int) (an : Nat) (ak : Ef) (bo : Int) (bn : Nat) (bk : Ef) (body els : Sf) (L : Nat → Nat) (v : Nat) (s : Rs) : Option (Nat × (Nat → Nat) × Nat × Rs) :=
  if kind = 4 then wh rec ao an ak body g L v s
  else if s.used < s.fuel then
    match rec.val ao an ak L s.up with
    | none => none
    | some (_, false, s1) => some (2, L, v, s1)
    | some (a, true, s1) => stepKind rec kind n bo bn bk body els a L v s1
  else some (2, L, v, s.dried)
def evL (rec : Sem) (g : Nat) : Sf → (Nat → Nat) → Nat → Rs → Option (Nat × (Nat → Nat) × Nat × Rs)
  | .nil, L, v, s => some (0, L, v, s)
  | .cons kind n ao an ak bo bn bk body els rest, L, v, s =>
    match stepSt rec g kind n ao an ak bo bn bk body els L v s with
    | none => none
    | some (way, L', v', s') => if way = 0 then evL rec g rest L' v' s' else some (way, L', v', s')
/-- Calls as deep as d, loops as long as g. -/
def sem (prog : List Fn) (ap : Nat → Nat → Nat → Nat → Nat) (g : Nat) : Nat → Sem
  | 0 => ⟨fun _ _ _ _ _ => none, fun _ _ _ _ => none⟩
  | d + 1 => ⟨stepVal prog ap (sem prog ap g d), evL (sem prog ap g d) g⟩
/-- No expression of a list is deeper than d. -/
def fitE : Ef → Nat → Bool
  | .nil, _ => true
  | .cons _ _ kids rest, d => decide (1 ≤ d) && fitE kids (d - 1) && fitE rest d
def cntE : Ef → Nat
  | .nil => 0
  | .cons _ _ kids rest => 1 + cntE kids + cntE rest
/-- How many arguments an operation of words has. -/
def argN (op : Int) : Nat := if op = 8 ∨ op = 9 then 3 else if op = 21 ∨ op = 25 then 1 else 2
/-- An expression's own part is right, in the function at. -/
def rightOp (prog : List Fn) (at_ : Nat) (op : Int) (n m : Nat) : Bool :=
  if op = 26 then m == 0
  else if op = 27 then m == 0 && (match prog[at_]? with | some fn => decide ((n : Int) < fn.locals) | none => false)
  else if op = 28 then m == 1
  else if op = 29 then decide (at_ < n) && (match prog[n]? with | some fn => decide (fn.params = (m : Int)) | none => false)
  else decide (1 ≤ op ∧ op ≤ 25) && m == argN op
def rightE (prog : List Fn) (at_ : Nat) : Ef → Bool
  | .nil => true
  | .cons op n kids rest => rightOp prog at_ op n kids.len && rightE prog at_ kids && rightE prog at_ rest
/-- A statement's expressions, and its lists. -/
def exprs (kind : Int) (ao : Int) (an : Nat) (ak : Ef) (bo : Int) (bn : Nat) (bk : Ef) : Ef :=
  if kind = 2 then .cons ao an ak (.cons bo bn bk .nil) else .cons ao an ak .nil
def fitS : Sf → Nat → Bool
  | .nil, _ => true
  | .cons kind n ao an ak bo bn bk body els rest, d => decide (1 ≤ d) && decide (1 ≤ kind ∧ kind ≤ 7) && fitE (exprs kind ao an ak bo bn bk) 8 && (if kind = 3 then fitS body (d - 1) && fitS els (d - 1) else if kind = 4 then fitS body (d - 1) else true) && fitS rest d
def cntS : Sf → Nat
  | .nil => 0
  | .cons kind n ao an ak bo bn bk body els rest => 1 + cntE (exprs kind ao an ak bo bn bk) + (if kind = 3 then cntS body + cntS els else if kind = 4 then cntS body else 0) + cntS rest
def rightS (prog : List Fn) (at_ : Nat) : Sf → Bool
  | .nil => true
  | .cons kind n ao an ak bo bn bk body els rest => decide (1 ≤ kind ∧ kind ≤ 7) && (!decide (kind = 1) || (decide (0 ≤ n) && (match prog[at_]? with | some fn => decide (n < fn.locals) | none => false))) && rightE prog at_ (exprs kind ao an ak bo bn bk) && (if kind = 3 then rightS prog at_ body && rightS prog at_ els else if kind = 4 then rightS prog at_ body else true) && rightS prog at_ rest
/-- A program is right. -/
def rightFs (prog : List Fn) : Nat → List Fn → Bool
  | _, [] => true
  | i, fn :: r => decide (0 ≤ fn.params ∧ fn.params ≤ fn.locals ∧ fn.locals ≤ 24) && rightS prog i fn.body && rightFs prog (i + 1) r
def cntF : List Fn → Nat
  | [] => 0
  | fn :: r => cntS fn.body + cntF r
def right (prog : List Fn) : Bool :=
  (prog.all fun fn => fitS fn.body 16) && decide (cntF prog ≤ 6000) && decide (1 ≤ prog.length ∧ prog.length ≤ 64) && (match prog[0]? with | some fn => decide (fn.params = 0) | none => false) && rightFs prog 0 prog
end Ir
end Go.Proofs.YtcgpdijpppcbiaaDoor
namespace Go.Proofs.YtcgpdijpppcbiaaDoor
open Go.RowKit
set_option linter.unusedVariables false
namespace Kc
theorem wrap_nn (k : Int) (h0 : 0 ≤ k) (h1 : k < 18446744073709551616) : IntKind.u64.wrap k = k := by simp [IntKind.wrap, IntKind.bits, IntKind.signed]; omega
theorem rot_is (x : Wd64) (s : Nat) (hs0 : 0 < s) (hs : s < 64) (w : World) :
    Calls Tryd.prog 61 #[.int .u64 (W x), .int .i64 s] w fun e w' => e = .returned (.int .u64 (W (rotl x s))) ∧ w = w' := by
  have h63 : bits BinOp.and .u64 (s : Int) 63 = (s : Int) := by
    rw [show (63 : Int) = ((63 : Nat) : Int) from rfl, u64_and_nat _ _ (by omega) (by decide)]
    have : s &&& 63 = s := by rw [show (63 : Nat) = 2 ^ 6 - 1 from rfl, Nat.and_two_pow_sub_one_eq_mod]; omega
    rw [this]
  have hsi : (s : Int) < 64 := by omega
  have hsi0 : (0 : Int) < s := by omega
  have hb := W_bd x
  have hb0 := hb.1
  have hb1 := hb.2
  clear hb
  go_enter Tryd.func61, Tryd.ntmps61
  go_wp2_with fail
  go_ret
  refine ⟨?_, rfl⟩
  show Ending.returned (.int .u64 (bits BinOp.or .u64 (IntKind.u64.wrap (W x * 2 ^ s)) (W x / 2 ^ (64 - s)))) = _
  rw [show IntKind.u64.wrap (W x * 2 ^ s) = W (x <<< s) from by rw [show IntKind.u64.wrap (W x * 2 ^ s) = W x * 2 ^ s % 18446744073709551616 from by simp [IntKind.wrap, IntKind.bits, IntKind.signed]]; exact W_shl x s hs, W_shr, W_or, rotl_is x s hs0 hs]
end Kc
end Go.Proofs.YtcgpdijpppcbiaaDoor
namespace Go.Proofs.YtcgpdijpppcbiaaDoor
open Go.RowKit
set_option linter.unusedVariables false
namespace Kc
/-- 25 words as an array. -/
def arr (a : Nat → Wd64) : Array Value := ((List.range 25).map fun i => Value.int .u64 (W (a i))).toArray
theorem arr_size (a : Nat → Wd64) : (arr a).size = 25 := by simp [arr]
theorem arr_at (a : Nat → Wd64) {i : Nat} (h : i < 25) : (arr a)[i]? = some (.int .u64 (W (a i))) := by simp [arr, h]
theorem kInfo : (Tryd.prog.info? 124).map (·.size) = some 25 := by kernel_rfl
/-- A block of 25 words. -/
def IsSt (w : World) (q : Nat) (a : Nat → Wd64) : Prop := w.heap[q]? = some (.cells (arr a) 124 (0, 0))
theorem IsSt.cell {w : World} {q : Nat} {a : Nat → Wd64} (h : IsSt w q a) (i : Nat) (hi : i < 25) : w.cell? ⟨q, i, none⟩ = some (.int .u64 (W (a i))) := by
  rw [cell_of_row w q i _ _ _ h]; exact arr_at a hi
theorem IsSt.fz {w : World} {q : Nat} {a : Nat → Wd64} (h : IsSt w q a) (i : Nat) : w.frozen? ⟨q, i, none⟩ = false := frozen_of_row w q i _ _ h
def upd (a : Nat → Wd64) (i : Nat) (x : Wd64) : Nat → Wd64 := fun j => if j = i then x else a j
theorem arr_upd (a : Nat → Wd64) (i : Nat) (x : Wd64) : (arr a).setIfInBounds i (.int .u64 (W x)) = arr (upd a i x) := by
  apply Array.ext_getElem?
  intro j
  rw [Array.getElem?_setIfInBounds]
  by_cases hj : j < 25
  · rw [arr_at _ hj, arr_at _ hj, arr_size]
    by_cases e : i = j
    · subst e; simp [upd, hj]
    · have e' : ¬ j = i := fun h => e h.symm
      simp [upd, e, e']
  · rw [Array.getElem?_eq_none (by rw [arr_size]; omega), Array.getElem?_eq_none (by rw [arr_size]; omega), arr_size]
    split
    · split
      · omega
      · rfl
    · rfl
theorem IsSt.set {w : World} {q : Nat} {a : Nat → Wd64} (h : IsSt w q a) (i : Nat) (x : Wd64) : IsSt (w.setCell ⟨q, i, none⟩ (.int .u64 (W x))) q (upd a i x) := by
  unfold IsSt at *
  rw [heap_setCell_same w q i _ _ _ h, arr_upd]
theorem IsSt.keep {w : World} {q p i : Nat} {v : Value} {a : Nat → Wd64} (h : IsSt w q a) (hn : q ≠ p) : IsSt (w.setCell ⟨p, i, none⟩ v) q a := by
  unfold IsSt at *
  rw [Below.heap_setCell _ _ _ _ hn]; exact h
theorem arr_zero : arr (fun _ => 0#64) = #[.int .u64 0, .int .u64 0, .int .u64 0, .int .u64 0, .int .u64 0, .int .u64 0, .int .u64 0, .int .u64 0, .int .u64 0, .int .u64 0, .int .u64 0, .int .u64 0, .int .u64 0, .int .u64 0, .int .u64 0, .int .u64 0, .int .u64 0, .int .u64 0, .int .u64 0, .int .u64 0, .int .u64 0, .int .u64 0, .int .u64 0, .int .u64 0, .int .u64 0] := by rfl
def zlit : Array Value := #[.int .u64 0, .int .u64 0, .int .u64 0, .int .u64 0, .int .u64 0, .int .u64 0, .int .u64 0, .int .u64 0, .int .u64 0, .int .u64 0, .int .u64 0, .int .u64 0, .int .u64 0, .int .u64 0, .int .u64 0, .int .u64 0, .int .u64 0, .int .u64 0, .int .u64 0, .int .u64 0, .int .u64 0, .int .u64 0, .int .u64 0, .int .u64 0, .int .u64 0]
theorem zInfo : (Tryd.prog.info? 124).map (·.size) = some (#[.int .u64 0, .int .u64 0, .int .u64 0, .int .u64 0, .int .u64 0, .int .u64 0, .int .u64 0, .int .u64 0, .int .u64 0, .int .u64 0, .int .u64 0, .int .u64 0, .int .u64 0, .int .u64 0, .int .u64 0, .int .u64 0, .int .u64 0, .int .u64 0, .int .u64 0, .int .u64 0, .int .u64 0, .int .u64 0, .int .u64 0, .int .u64 0, .int .u64 0] : Array Value).size := by kernel_rfl
theorem zOne : (#[.int .u64 0, .int .u64 0, .int .u64 0, .int .u64 0, .int .u64 0, .int .u64 0, .int .u64 0, .int .u64 0, .int .u64 0, .int .u64 0, .int .u64 0, .int .u64 0, .int .u64 0, .int .u64 0, .int .u64 0, .int .u64 0, .int .u64 0, .int .u64 0, .int .u64 0, .int .u64 0, .int .u64 0, .int .u64 0, .int .u64 0, .int .u64 0, .int .u64 0] : Array Value).all (·.oneCell') = true := by kernel_rfl
theorem st_new (w : World) (a : Nat → Wd64) : IsSt (w.alloc (.cells (arr a) 124)) w.heap.size a := heap_alloc_new w _
theorem st_old {w : World} {q : Nat} {a : Nat → Wd64} (h : IsSt w q a) (o : Obj) : IsSt (w.alloc o) q a := by
  unfold IsSt at *
  rw [Below.heap_alloc w o q (Array.getElem?_eq_some_iff.1 h).1]; exact h
structure Pm (W : World) (q0 q1 q2 : Nat) (a b : Nat → Wd64) (y : World) : Prop where
  sa : IsSt y q0 a
  sr : IsSt y q1 (fun _ => 0#64)
  sb : IsSt y q2 b
  n01 : q0 ≠ q1
  n02 : q0 ≠ q2
  n12 : q1 ≠ q2
  g0 : W.heap.size ≤ q0
  g1 : W.heap.size ≤ q1
  g2 : W.heap.size ≤ q2
  below : Below W.heap.size W y
theorem Pm.setB {W : World} {q0 q1 q2 : Nat} {a b : Nat → Wd64} {y : World} (h : Pm W q0 q1 q2 a b y) (i : Nat) (x : Wd64) : Pm W q0 q1 q2 a (upd b i x) (y.setCell ⟨q2, i, none⟩ (.int .u64 (Kc.W x))) :=
  ⟨h.sa.keep h.n02, h.sr.keep h.n12, h.sb.set i x, h.n01, h.n02, h.n12, h.g0, h.g1, h.g2, h.below.setCell h.g2 _⟩
theorem Pm.setA {W : World} {q0 q1 q2 : Nat} {a b : Nat → Wd64} {y : World} (h : Pm W q0 q1 q2 a b y) (i : Nat) (x : Wd64) : Pm W q0 q1 q2 (upd a i x) b (y.setCell ⟨q0, i, none⟩ (.int .u64 (Kc.W x))) :=
  ⟨h.sa.set i x, h.sr.keep (Ne.symm h.n01), h.sb.keep (Ne.symm h.n02), h.n01, h.n02, h.n12, h.g0, h.g1, h.g2, h.below.setCell h.g0 _⟩
theorem arr_cong {a b : Nat → Wd64} (h : ∀ i, i < 25 → a i = b i) : arr a = arr b := by
  unfold arr
  congr 1
  apply List.map_congr_left
  intro i hi
  rw [h i (by simpa using hi)]
theorem Pm.congB {W : World} {q0 q1 q2 : Nat} {a b b' : Nat → Wd64} {y : World} (h : Pm W q0 q1 q2 a b y) (e : ∀ i, i < 25 → b i = b' i) : Pm W q0 q1 q2 a b' y :=
  ⟨h.sa, h.sr, by have := h.sb; unfold IsSt at *; rw [← arr_cong e]; exact this, h.n01, h.n02, h.n12, h.g0, h.g1, h.g2, h.below⟩
theorem Pm.congA {W : World} {q0 q1 q2 : Nat} {a a' b : Nat → Wd64} {y : World} (h : Pm W q0 q1 q2 a b y) (e : ∀ i, i < 25 → a i = a' i) : Pm W q0 q1 q2 a' b y :=
  ⟨by have := h.sa; unfold IsSt at *; rw [← arr_cong e]; exact this, h.sr, h.sb, h.n01, h.n02, h.n12, h.g0, h.g1, h.g2, h.below⟩
theorem Pm.drewN {W : World} {q0 q1 q2 : Nat} {a b : Nat → Wd64} {y : World} (h : Pm W q0 q1 q2 a b y) (n : Nat) : Pm W q0 q1 q2 a b (y.drewN n) := ⟨h.sa, h.sr, h.sb, h.n01, h.n02, h.n12, h.g0, h.g1, h.g2, below_drewN h.below n⟩
theorem Pm.drew {W : World} {q0 q1 q2 : Nat} {a b : Nat → Wd64} {y : World} (h : Pm W q0 q1 q2 a b y) : Pm W q0 q1 q2 a b y.drew := ⟨h.sa, h.sr, h.sb, h.n01, h.n02, h.n12, h.g0, h.g1, h.g2, h.below.drew⟩
theorem Pm.tab {W : World} {q0 q1 q2 : Nat} {a b : Nat → Wd64} {y : World} (h : Pm W q0 q1 q2 a b y) (ht : Laid.KTab W) (i : Nat) (hi : i < 24) : y.cell? ⟨0, i, none⟩ = some (.int .u64 (Kc.W (consts.getD i 0#64))) := keep1 h.below (ht i hi)
theorem rot_at (x : Wd64) (s : Nat) (k : Int) (hk : k = (s : Int)) (hs0 : 0 < s) (hs : s < 64) (w : World) :
    Calls Tryd.prog 61 #[.int .u64 (W x), .int .i64 k] w fun e w' => e = .returned (.int .u64 (W (rotl x s))) ∧ w = w' := by
  subst hk; exact rot_is x s hs0 hs w
theorem rotl_zero (x : Wd64) : rotl x 0 = x := by
  apply BitVec.eq_of_getLsbD_eq
  intro i hi
  rw [rotl_bit _ _ _ hi]
  congr 1
  omega
/-- The rows of a state of which k are done. -/
def chiK (b c : Nat → Wd64) (r : Nat) : Nat → Wd64 := fun j => if j < r then chi b j else c j
theorem chiK_zero (b c : Nat → Wd64) : ∀ i, i < 25 → c i = chiK b c 0 i := by
  intro i _; unfold chiK; rw [if_neg (by omega)]
theorem row_ok (bb c : Nat → Wd64) (r : Nat) (h5 : r % 5 = 0) : ∀ j, j < 25 → upd (upd (upd (upd (upd (chiK bb c r) r (bb r ^^^ (~~~ bb (r + 1) &&& bb (r + 2)))) (r + 1) (bb (r + 1) ^^^ (~~~ bb (r + 2) &&& bb (r + 3)))) (r + 2) (bb (r + 2) ^^^ (~~~ bb (r + 3) &&& bb (r + 4)))) (r + 3) (bb (r + 3) ^^^ (~~~ bb (r + 4) &&& bb r))) (r + 4) (bb (r + 4) ^^^ (~~~ bb r &&& bb (r + 1))) j = chiK bb c (r + 5) j := by
  intro j _
  have e : ∀ i, i < 5 → 5 * ((r + i) / 5) = r ∧ (r + i) % 5 = i := fun i hi => by omega
  have g : ∀ i, i < 5 → chi bb (r + i) = bb (r + i) ^^^ (~~~ bb (r + (i + 1) % 5) &&& bb (r + (i + 2) % 5)) := fun i hi => by unfold chi; rw [(e i hi).1, (e i hi).2]
  unfold chiK upd
  dsimp only
  by_cases h4 : j = r + 4
  · rw [if_pos h4, if_pos (by omega), h4]; exact (g 4 (by decide)).symm
  · rw [if_neg h4]
    by_cases h3 : j = r + 3
    · rw [if_pos h3, if_pos (by omega), h3]; exact (g 3 (by decide)).symm
    · rw [if_neg h3]
      by_cases h2 : j = r + 2
      · rw [if_pos h2, if_pos (by omega), h2]; exact (g 2 (by decide)).symm
      · rw [if_neg h2]
        by_cases h1 : j = r + 1
        · rw [if_pos h1, if_pos (by omega), h1]; exact (g 1 (by decide)).symm
        · rw [if_neg h1]
          by_cases h0 : j = r
          · rw [if_pos h0, if_pos (by omega), h0]; exact (g 0 (by decide)).symm
          · rw [if_neg h0]
            by_cases hl : j < r
            · rw [if_pos hl, if_pos (by omega)]
            · rw [if_neg hl, if_neg (by omega)]
theorem all25 {P : Nat → Prop} (h : P 0 ∧ P 1 ∧ P 2 ∧ P 3 ∧ P 4 ∧ P 5 ∧ P 6 ∧ P 7 ∧ P 8 ∧ P 9 ∧ P 10 ∧ P 11 ∧ P 12 ∧ P 13 ∧ P 14 ∧ P 15 ∧ P 16 ∧ P 17 ∧ P 18 ∧ P 19 ∧ P 20 ∧ P 21 ∧ P 22 ∧ P 23 ∧ P 24) : ∀ i, i < 25 → P i := by
  intro i hi
  obtain ⟨h0, h1, h2, h3, h4, h5, h6, h7, h8, h9, h10, h11, h12, h13, h14, h15, h16, h17, h18, h19, h20, h21, h22, h23, h24⟩ := h
  have hc : i = 0 ∨ i = 1 ∨ i = 2 ∨ i = 3 ∨ i = 4 ∨ i = 5 ∨ i = 6 ∨ i = 7 ∨ i = 8 ∨ i = 9 ∨ i = 10 ∨ i = 11 ∨ i = 12 ∨ i = 13 ∨ i = 14 ∨ i = 15 ∨ i = 16 ∨ i = 17 ∨ i = 18 ∨ i = 19 ∨ i = 20 ∨ i = 21 ∨ i = 22 ∨ i = 23 ∨ i = 24 := by omega
  rcases hc with rfl | rfl | rfl | rfl | rfl | rfl | rfl | rfl | rfl | rfl | rfl | rfl | rfl | rfl | rfl | rfl | rfl | rfl | rfl | rfl | rfl | rfl | rfl | rfl | rfl <;> assumption
theorem rp0 (c : Nat → Wd64) : rhopi (theta c) 0 = (c 0 ^^^ dd c 0) := rotl_zero _
theorem rp1 (c : Nat → Wd64) : rhopi (theta c) 1 = (rotl (c 6 ^^^ dd c 1) 44) := rfl
theorem rp2 (c : Nat → Wd64) : rhopi (theta c) 2 = (rotl (c 12 ^^^ dd c 2) 43) := rfl
theorem rp3 (c : Nat → Wd64) : rhopi (theta c) 3 = (rotl (c 18 ^^^ dd c 3) 21) := rfl
theorem rp4 (c : Nat → Wd64) : rhopi (theta c) 4 = (rotl (c 24 ^^^ dd c 4) 14) := rfl
theorem rp5 (c : Nat → Wd64) : rhopi (theta c) 5 = (rotl (c 3 ^^^ dd c 3) 28) := rfl
theorem rp6 (c : Nat → Wd64) : rhopi (theta c) 6 = (rotl (c 9 ^^^ dd c 4) 20) := rfl
theorem rp7 (c : Nat → Wd64) : rhopi (theta c) 7 = (rotl (c 10 ^^^ dd c 0) 3) := rfl
theorem rp8 (c : Nat → Wd64) : rhopi (theta c) 8 = (rotl (c 16 ^^^ dd c 1) 45) := rfl
theorem rp9 (c : Nat → Wd64) : rhopi (theta c) 9 = (rotl (c 22 ^^^ dd c 2) 61) := rfl
theorem rp10 (c : Nat → Wd64) : rhopi (theta c) 10 = (rotl (c 1 ^^^ dd c 1) 1) := rfl
theorem rp11 (c : Nat → Wd64) : rhopi (theta c) 11 = (rotl (c 7 ^^^ dd c 2) 6) := rfl
theorem rp12 (c : Nat → Wd64) : rhopi (theta c) 12 = (rotl (c 13 ^^^ dd c 3) 25) := rfl
theorem rp13 (c : Nat → Wd64) : rhopi (theta c) 13 = (rotl (c 19 ^^^ dd c 4) 8) := rfl
theorem rp14 (c : Nat → Wd64) : rhopi (theta c) 14 = (rotl (c 20 ^^^ dd c 0) 18) := rfl
theorem rp15 (c : Nat → Wd64) : rhopi (theta c) 15 = (rotl (c 4 ^^^ dd c 4) 27) := rfl
theorem rp16 (c : Nat → Wd64) : rhopi (theta c) 16 = (rotl (c 5 ^^^ dd c 0) 36) := rfl
theorem rp17 (c : Nat → Wd64) : rhopi (theta c) 17 = (rotl (c 11 ^^^ dd c 1) 10) := rfl
theorem rp18 (c : Nat → Wd64) : rhopi (theta c) 18 = (rotl (c 17 ^^^ dd c 2) 15) := rfl
theorem rp19 (c : Nat → Wd64) : rhopi (theta c) 19 = (rotl (c 23 ^^^ dd c 3) 56) := rfl
theorem rp20 (c : Nat → Wd64) : rhopi (theta c) 20 = (rotl (c 2 ^^^ dd c 2) 62) := rfl
theorem rp21 (c : Nat → Wd64) : rhopi (theta c) 21 = (rotl (c 8 ^^^ dd c 3) 55) := rfl
theorem rp22 (c : Nat → Wd64) : rhopi (theta c) 22 = (rotl (c 14 ^^^ dd c 4) 39) := rfl
theorem rp23 (c : Nat → Wd64) : rhopi (theta c) 23 = (rotl (c 15 ^^^ dd c 0) 41) := rfl
theorem rp24 (c : Nat → Wd64) : rhopi (theta c) 24 = (rotl (c 21 ^^^ dd c 1) 2) := rfl
theorem chain_ok (b c : Nat → Wd64) : ∀ i, i < 25 → (upd (upd (upd (upd (upd (upd (upd (upd (upd (upd (upd (upd (upd (upd (upd (upd (upd (upd (upd (upd (upd (upd (upd (upd (upd b 0 (c 0 ^^^ dd c 0)) 10 (rotl (c 1 ^^^ dd c 1) 1)) 20 (rotl (c 2 ^^^ dd c 2) 62)) 5 (rotl (c 3 ^^^ dd c 3) 28)) 15 (rotl (c 4 ^^^ dd c 4) 27)) 16 (rotl (c 5 ^^^ dd c 0) 36)) 1 (rotl (c 6 ^^^ dd c 1) 44)) 11 (rotl (c 7 ^^^ dd c 2) 6)) 21 (rotl (c 8 ^^^ dd c 3) 55)) 6 (rotl (c 9 ^^^ dd c 4) 20)) 7 (rotl (c 10 ^^^ dd c 0) 3)) 17 (rotl (c 11 ^^^ dd c 1) 10)) 2 (rotl (c 12 ^^^ dd c 2) 43)) 12 (rotl (c 13 ^^^ dd c 3) 25)) 22 (rotl (c 14 ^^^ dd c 4) 39)) 23 (rotl (c 15 ^^^ dd c 0) 41)) 8 (rotl (c 16 ^^^ dd c 1) 45)) 18 (rotl (c 17 ^^^ dd c 2) 15)) 3 (rotl (c 18 ^^^ dd c 3) 21)) 13 (rotl (c 19 ^^^ dd c 4) 8)) 14 (rotl (c 20 ^^^ dd c 0) 18)) 24 (rotl (c 21 ^^^ dd c 1) 2)) 9 (rotl (c 22 ^^^ dd c 2) 61)) 19 (rotl (c 23 ^^^ dd c 3) 56)) 4 (rotl (c 24 ^^^ dd c 4) 14)) i = rhopi (theta c) i := by
  refine all25 ?_
  refine ⟨?_, ?_, ?_, ?_, ?_, ?_, ?_, ?_, ?_, ?_, ?_, ?_, ?_, ?_, ?_, ?_, ?_, ?_, ?_, ?_, ?_, ?_, ?_, ?_, ?_⟩
  · rw [rp0]; simp [upd]
  · rw [rp1]; simp [upd]
  · rw [rp2]; simp [upd]
  · rw [rp3]; simp [upd]
  · rw [rp4]; simp [upd]
  · rw [rp5]; simp [upd]
  · rw [rp6]; simp [upd]
  · rw [rp7]; simp [upd]
  · rw [rp8]; simp [upd]
  · rw [rp9]; simp [upd]
  · rw [rp10]; simp [upd]
  · rw [rp11]; simp [upd]
  · rw [rp12]; simp [upd]
  · rw [rp13]; simp [upd]
  · rw [rp14]; simp [upd]
  · rw [rp15]; simp [upd]
  · rw [rp16]; simp [upd]
  · rw [rp17]; simp [upd]
  · rw [rp18]; simp [upd]
  · rw [rp19]; simp [upd]
  · rw [rp20]; simp [upd]
  · rw [rp21]; simp [upd]
  · rw [rp22]; simp [upd]
  · rw [rp23]; simp [upd]
  · rw [rp24]; simp [upd]
end Kc
end Go.Proofs.YtcgpdijpppcbiaaDoor
namespace Go.Proofs.YtcgpdijpppcbiaaDoor
open Go.RowKit
set_option linter.unusedVariables false
namespace Kc
/-- n values. -/
def tab (n : Nat) (g : Nat → Value) : Array Value := ((List.range n).map g).toArray
theorem tab_size (n : Nat) (g : Nat → Value) : (tab n g).size = n := by simp [tab]
theorem tab_at {n : Nat} (g : Nat → Value) {i : Nat} (h : i < n) : (tab n g)[i]? = some (g i) := by simp [tab, h]
theorem tab_out {n : Nat} (g : Nat → Value) {i : Nat} (h : n ≤ i) : (tab n g)[i]? = none := by simp [tab, h]
theorem tab_cong {n : Nat} {f g : Nat → Value} (h : ∀ i, i < n → f i = g i) : tab n f = tab n g := by
  unfold tab
  congr 1
  apply List.map_congr_left
  intro i hi
  rw [h i (by simpa using hi)]
theorem tab_ext {n : Nat} {f g : Nat → Value} (h : tab n f = tab n g) : ∀ i, i < n → f i = g i := by
  intro i hi
  have := congrArg (fun a : Array Value => a[i]?) h
  rw [tab_at _ hi, tab_at _ hi] at this
  exact Option.some.inj this
theorem tab_one {n : Nat} {g : Nat → Value} (h : ∀ i, (g i).oneCell' = true) : (tab n g).all (·.oneCell') = true := by simp [tab]; intro i _; exact h i
def updv (g : Nat → Value) (i : Nat) (x : Value) : Nat → Value := fun j => if j = i then x else g j
theorem tab_upd {n : Nat} (g : Nat → Value) (i : Nat) (x : Value) : (tab n g).setIfInBounds i x = tab n (updv g i x) := by
  apply Array.ext_getElem?
  intro j
  rw [Array.getElem?_setIfInBounds]
  by_cases hj : j < n
  · rw [tab_at _ hj, tab_at _ hj, tab_size]
    by_cases e : i = j
    · subst e; simp [updv, hj]
    · have e' : ¬ j = i := fun h => e h.symm
      simp [updv, e, e']
  · rw [Array.getElem?_eq_none (by rw [tab_size]; omega), Array.getElem?_eq_none (by rw [tab_size]; omega), tab_size]
    split
    · split
      · omega
      · rfl
    · rfl
/-- A block that holds n values. -/
def IsTab (w : World) (q T n : Nat) (g : Nat → Value) : Prop := w.heap[q]? = some (.cells (tab n g) T (0, 0))
theorem IsTab.cell {w : World} {q T n : Nat} {g : Nat → Value} (h : IsTab w q T n g) (i : Nat) (hi : i < n) : w.cell? ⟨q, i, none⟩ = some (g i) := by
  rw [cell_of_row w q i _ _ _ h]; exact tab_at g hi
theorem IsTab.fz {w : World} {q T n : Nat} {g : Nat → Value} (h : IsTab w q T n g) (i : Nat) : w.frozen? ⟨q, i, none⟩ = false := frozen_of_row w q i _ _ h
theorem IsTab.lt {w : World} {q T n : Nat} {g : Nat → Value} (h : IsTab w q T n g) : q < w.heap.size := (Array.getElem?_eq_some_iff.1 h).1
theorem IsTab.set {w : World} {q T n : Nat} {g : Nat → Value} (h : IsTab w q T n g) (i : Nat) (x : Value) : IsTab (w.setCell ⟨q, i, none⟩ x) q T n (updv g i x) := by
  unfold IsTab at *
  rw [heap_setCell_same w q i _ _ _ h, tab_upd]
theorem IsTab.keep {w : World} {q p i T n : Nat} {v : Value} {g : Nat → Value} (h : IsTab w q T n g) (hn : q ≠ p) : IsTab (w.setCell ⟨p, i, none⟩ v) q T n g := by
  unfold IsTab at *
  rw [Below.heap_setCell _ _ _ _ hn]; exact h
theorem IsTab.cong {w : World} {q T n : Nat} {f g : Nat → Value} (h : IsTab w q T n f) (e : ∀ i, i < n → f i = g i) : IsTab w q T n g := by
  unfold IsTab at *
  rw [← tab_cong e]; exact h
theorem IsTab.drewN {w : World} {q T n : Nat} {g : Nat → Value} (h : IsTab w q T n g) (k : Nat) : IsTab (w.drewN k) q T n g := h
theorem IsTab.drew {w : World} {q T n : Nat} {g : Nat → Value} (h : IsTab w q T n g) : IsTab w.drew q T n g := h
theorem IsTab.below {W w : World} {q T n : Nat} {g : Nat → Value} (h : IsTab W q T n g) (hb : Below W.heap.size W w) : IsTab w q T n g := by
  unfold IsTab at *
  rw [hb.block q (Array.getElem?_eq_some_iff.1 h).1]; exact h
theorem IsTab.alloc {w : World} {q T n : Nat} {g : Nat → Value} (h : IsTab w q T n g) (o : Obj) : IsTab (w.alloc o) q T n g := by
  unfold IsTab at *
  rw [Below.heap_alloc w o q (Array.getElem?_eq_some_iff.1 h).1]; exact h
theorem IsTab.new (w : World) (T n : Nat) (g : Nat → Value) : IsTab (w.alloc (.cells (tab n g) T)) w.heap.size T n g := heap_alloc_new w _
theorem IsTab.row {w : World} {q T n : Nat} {f g : Nat → Value} (h : IsTab w q T n f) : IsTab (w.setRow q (tab n g)) q T n g := setRow_heap w q _ _ _ _ h
theorem IsTab.rowOther {w : World} {q p T n : Nat} {g : Nat → Value} {cs : Array Value} (h : IsTab w q T n g) (hn : q ≠ p) : IsTab (w.setRow p cs) q T n g := by
  unfold IsTab at *
  rw [setRow_other _ _ _ _ hn]; exact h
theorem below_setRow {B : Nat} {W w : World} (h : Below B W w) {q : Nat} (hq : B ≤ q) (cs : Array Value) : Below B W (w.setRow q cs) :=
  ⟨by simp; exact h.os, by simp; exact h.tape, by simp; exact h.output, by simp; exact h.size, fun k hk => by rw [setRow_other _ _ _ _ (by omega)]; exact h.block k hk⟩

/-! ## bytes -/
abbrev Bt := BitVec 8
def Bv (x : Bt) : Int := (x.toNat : Int)
theorem Bv_bd (x : Bt) : 0 ≤ Bv x ∧ Bv x < 256 := by have := x.isLt; unfold Bv; omega
theorem Bv_inj {x y : Bt} (h : Bv x = Bv y) : x = y := by unfold Bv at h; exact BitVec.eq_of_toNat_eq (by omega)
/-- The value of a word, of a byte. -/
def wv (x : Wd64) : Value := .int .u64 (W x)
def bv (x : Bt) : Value := .int .u8 (Bv x)
def words (a : Nat → Wd64) : Array Value := tab 25 fun i => wv (a i)
/-- A byte as a word. -/
def wd (x : Bt) : Wd64 := x.setWidth 64
theorem W_wd (x : Bt) : W (wd x) = Bv x := by
  unfold W wd Bv
  rw [BitVec.toNat_setWidth]
  have := x.isLt
  omega
/-- Eight bytes as a word. -/
def lane (p : Nat → Bt) (i : Nat) : Wd64 :=
  wd (p (8 * i)) ||| wd (p (8 * i + 1)) <<< 8 ||| wd (p (8 * i + 2)) <<< 16 ||| wd (p (8 * i + 3)) <<< 24 ||| wd (p (8 * i + 4)) <<< 32 ||| wd (p (8 * i + 5)) <<< 40 ||| wd (p (8 * i + 6)) <<< 48 ||| wd (p (8 * i + 7)) <<< 56
theorem wd_bit (x : Bt) (s n : Nat) (hn : n < 64) (hs : s ≤ 56) : (wd x <<< s).getLsbD n = (decide (s ≤ n) && x.getLsbD (n - s)) := by
  rw [BitVec.getLsbD_shiftLeft, decide_eq_true hn, wd, BitVec.getLsbD_setWidth]
  by_cases h : s ≤ n
  · rw [decide_eq_true h, decide_eq_false (by omega : ¬ n < s), decide_eq_true (by omega : n - s < 64)]; simp
  · rw [decide_eq_false h, decide_eq_true (by omega : n < s)]; simp
def absorbK (a : Nat → Wd64) (p : Nat → Bt) (k : Nat) : Nat → Wd64 := fun i => if i < k then a i ^^^ lane p i else a i
def absorb (a : Nat → Wd64) (p : Nat → Bt) : Nat → Wd64 := perm (absorbK a p 17)
def digest (a : Nat → Wd64) (i : Nat) : Bt := (a (i / 8) >>> (8 * (i % 8))).setWidth 8
/-- Behind k whole pieces. -/
def st (l : List Bt) : Nat → Nat → Wd64
  | 0 => fun _ => 0#64
  | k + 1 => absorb (st l k) fun j => l.getD (136 * k + j) 0#8
/-- The last piece. -/
def last (l : List Bt) : Nat → Bt := fun j =>
  (if j < l.length % 136 then l.getD (136 * (l.length / 136) + j) 0#8 else 0#8) ^^^ (if j = l.length % 136 then 1#8 else 0#8) ^^^ (if j = 135 then 128#8 else 0#8)
def sum (l : List Bt) : Nat → Bt := digest (absorb (st l (l.length / 136)) (last l))
theorem wrapW (x : Wd64) : IntKind.u64.wrap (W x) = W x := by have := W_bd x; exact wrap_nn _ this.1 this.2
theorem wrapB (x : Bt) : IntKind.u64.wrap (Bv x) = W (wd x) := by rw [← W_wd]; exact wrapW _
theorem wr_shl (x : Wd64) (s : Nat) (hs : s < 64) : IntKind.u64.wrap (W x * 2 ^ s) = W (x <<< s) := by
  rw [show IntKind.u64.wrap (W x * 2 ^ s) = W x * 2 ^ s % 18446744073709551616 from by simp [IntKind.wrap, IntKind.bits, IntKind.signed]]; exact W_shl x s hs
theorem wr_s8 (x : Wd64) : IntKind.u64.wrap (W x * 256) = W (x <<< 8) := wr_shl x 8 (by decide)
theorem wr_s16 (x : Wd64) : IntKind.u64.wrap (W x * 65536) = W (x <<< 16) := wr_shl x 16 (by decide)
theorem wr_s24 (x : Wd64) : IntKind.u64.wrap (W x * 16777216) = W (x <<< 24) := wr_shl x 24 (by decide)
theorem wr_s32 (x : Wd64) : IntKind.u64.wrap (W x * 4294967296) = W (x <<< 32) := wr_shl x 32 (by decide)
theorem wr_s40 (x : Wd64) : IntKind.u64.wrap (W x * 1099511627776) = W (x <<< 40) := wr_shl x 40 (by decide)
theorem wr_s48 (x : Wd64) : IntKind.u64.wrap (W x * 281474976710656) = W (x <<< 48) := wr_shl x 48 (by decide)
theorem wr_s56 (x : Wd64) : IntKind.u64.wrap (W x * 72057594037927936) = W (x <<< 56) := wr_shl x 56 (by decide)
theorem ktab_below {W w : World} (ht : Laid.KTab W) (h : Below W.heap.size W w) : Laid.KTab w := fun i hi => keep1 h (ht i hi)
theorem und25 : Tryd.prog.underlying 124 = some (.array 25 22) := by kernel_rfl
theorem und136' : Tryd.prog.underlying 125 = some (.array 136 5) := by kernel_rfl
theorem inf25 (g : Nat → Value) : (Tryd.prog.info? 124).map (·.size) = some (tab 25 g).size := by rw [tab_size]; exact kInfo
theorem inf136' : (Tryd.prog.info? 125).map (·.size) = some 136 := by kernel_rfl
theorem inf136 (g : Nat → Value) : (Tryd.prog.info? 125).map (·.size) = some (tab 136 g).size := by rw [tab_size]; exact inf136'
theorem one_wv (a : Nat → Wd64) (n : Nat) : (tab n fun i => wv (a i)).all (·.oneCell') = true := tab_one fun i => rfl
theorem one_bv (a : Nat → Bt) (n : Nat) : (tab n fun i => bv (a i)).all (·.oneCell') = true := tab_one fun i => rfl
/-- What the permutation is said to do. -/
def PermIs : Prop := ∀ (a : Nat → Wd64) (w : World), Laid.KTab w → Calls Tryd.prog 57 #[.agg (arr a)] w fun e w' => e = .returned (.agg (arr (perm a))) ∧ Below w.heap.size w w'
end Kc
end Go.Proofs.YtcgpdijpppcbiaaDoor
