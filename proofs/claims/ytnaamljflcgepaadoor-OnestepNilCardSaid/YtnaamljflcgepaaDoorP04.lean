/- Merged of Eqa Mt App Krows Tks R1. Own work. -/
import Derived.Test.YtnaamljflcgepaaDoorP01
import Derived.Laws.StructEq
import Derived.Test.YtnaamljflcgepaaDoorP02
import Derived.Test.YtnaamljflcgepaaDoorP03
import Derived.Laws.AppendOwn
import Derived.WalkKit
import Derived.Deep.RegionLaw
import Derived.RegionTactic
import Derived.BigRegion
import Derived.BigQuiet
import Derived.Deep.QuietTactic
import Derived.IntWalk
import Derived.OrdersHeld
import Derived.Deep.RegionHeld3
import Derived.StillTail
import Derived.Deep.MidRow
import Derived.WalkSmall
import Derived.Below
import Derived.StillTailTactics
namespace Go.Proofs.YtnaamljflcgepaaDoor
open Go.RowKit
set_option linter.unusedVariables false
section
variable {P : Program} {md : Region.Mode} {ops : Array Oper} {C : World → Prop}
end
namespace Kc
theorem run_equal_tab {P : Program} (w : World) (d : Nat) (t e : TypeId) (n : Nat) (k : IntKind) (ht : P.underlying t = some (.array n e)) (he : P.underlying e = some (.int k)) (hsz : ∀ w, (sizeOf e).run P w = .ok 1 w) (f g : Nat → Int) :
    (Op.equalIn (d + 2) t (.agg (tab n fun i => .int k (f i))) (.agg (tab n fun i => .int k (g i)))).run P w = .ok ((List.range n).all fun i => f i == g i) w := by
  rw [List.range_eq_range', Op.equalIn]
  simp only [Sem.run_bind, run_underlying ht, Result.andThen_ok, hsz, Std.Legacy.Range.forIn_eq_forIn_range', Std.Legacy.Range.size, Nat.sub_zero, Nat.add_sub_cancel, Nat.div_one]
  have hl : ∀ i ∈ List.range' 0 n 1, i < n := fun i hi => by simpa using (List.mem_range'_1.1 hi).2
  generalize List.range' 0 n 1 = l at hl ⊢
  induction l with
  | nil => simp
  | cons i l ih =>
    have hi : i < n := hl i (by simp)
    have px : ∀ h : Nat → Int, (part e (tab n fun i => .int k (h i)) (i * 1)).run P w = .ok (.int k (h i)) w := fun h => by
      have := tab_at (fun i => Value.int k (h i)) hi
      simp [part, isAgg, run_underlying he, this]
    have pe : (Op.equalIn (d + 1) e (.int k (f i)) (.int k (g i))).run P w = .ok (f i == g i) w := run_equalIn_int w d e k k _ _ he
    simp only [List.forIn_cons, Sem.run_bind, px, pe, Result.andThen_ok, List.all_cons]
    cases hb : (f i == g i)
    · simp
    · simp only [Bool.not_true, Bool.false_eq_true, if_false, Sem.run_pure, Result.andThen_ok, Bool.true_and]
      exact ih fun j hj => hl j (by simp [hj])
theorem run_eql_tab {P : Program} (w : World) (t e : TypeId) (n : Nat) (k : IntKind) (ht : P.underlying t = some (.array n e)) (he : P.underlying e = some (.int k)) (hsz : ∀ w, (sizeOf e).run P w = .ok 1 w) (f g : Nat → Int) :
    (binOp .eql t (.agg (tab n fun i => .int k (f i))) (.agg (tab n fun i => .int k (g i)))).run P w = .ok (.bool ((List.range n).all fun i => f i == g i)) w := by
  rw [run_eql_struct, run_equal_tab w 9998 t e n k ht he hsz]; rfl
def same32 (a b : Nat → Bt) : Bool := (List.range 32).all fun i => Bv (a i) == Bv (b i)
theorem same32_iff (a b : Nat → Bt) : same32 a b = true ↔ ∀ i, i < 32 → a i = b i := by
  unfold same32
  rw [List.all_eq_true]
  constructor
  · intro h i hi
    exact Bv_inj (by simpa using h i (List.mem_range.2 hi))
  · intro h i hi
    rw [h i (List.mem_range.1 hi)]; simp
theorem sizeU8 (w : World) : (sizeOf 5).run Tryd.prog w = .ok 1 w := by kernel_rfl
theorem undU8 : Tryd.prog.underlying 5 = some (.int .u8) := by kernel_rfl
theorem eql32 (a b : Nat → Bt) (w : World) : (binOp .eql 31 (.agg (tab 32 fun i => bv (a i))) (.agg (tab 32 fun i => bv (b i)))).run Tryd.prog w = .ok (.bool (same32 a b)) w :=
  run_eql_tab w _ _ 32 .u8 (by kernel_rfl) undU8 sizeU8 _ _
end Kc
end Go.Proofs.YtnaamljflcgepaaDoor
namespace Go.Proofs.YtnaamljflcgepaaDoor
set_option linter.unusedVariables false
namespace Mk
open Kc
abbrev Hx := Nat → Bt
def pr (x y : Hx) : Hx := sum (both x y)
theorem both_cong {x x' y y' : Hx} (h : ∀ i, i < 32 → x i = x' i) (k : ∀ i, i < 32 → y i = y' i) : both x y = both x' y' := by
  unfold both
  rw [List.map_congr_left (g := x') (fun i hi => h i (by simpa using hi)), List.map_congr_left (g := y') (fun i hi => k i (by simpa using hi))]
theorem pr_cong {x x' y y' : Hx} (h : ∀ i, i < 32 → x i = x' i) (k : ∀ i, i < 32 → y i = y' i) : pr x y = pr x' y' := by unfold pr; rw [both_cong h k]
def zero : Nat → Hx
  | 0 => fun _ => 0#8
  | h + 1 => pr (zero h) (zero h)
/-- The root of the part of height h that begins at the leaf k. -/
def und (g : Nat → Hx) : Nat → Nat → Hx
  | 0, k => g k
  | h + 1, k => pr (und g h k) (und g h (k + 2 ^ h))
/-- n leaves, and noughts behind. -/
def ext (n : Nat) (f : Nat → Hx) : Nat → Hx := fun k => if k < n then f k else zero 0
theorem und_out {g : Nat → Hx} {n : Nat} (hg : ∀ k, n ≤ k → g k = zero 0) : ∀ h k, n ≤ k → und g h k = zero h
  | 0, k, hk => hg k hk
  | h + 1, k, hk => by show pr _ _ = pr _ _; rw [und_out hg h k hk, und_out hg h _ (Nat.le_trans hk (Nat.le_add_right _ _))]
theorem ext_out (n : Nat) (f : Nat → Hx) : ∀ k, n ≤ k → ext n f k = zero 0 := fun k hk => by unfold ext; rw [if_neg (by omega)]
theorem ext_in {n : Nat} (f : Nat → Hx) {k : Nat} (hk : k < n) : ext n f k = f k := by unfold ext; rw [if_pos hk]
theorem und_ext_out (n : Nat) (f : Nat → Hx) (h k : Nat) (hk : n ≤ k) : und (ext n f) h k = zero h := und_out (ext_out n f) h k hk
/-- A level: the parts of height h, one by one. -/
def lev (g : Nat → Hx) (h : Nat) : Nat → Hx := fun k => und g h (k * 2 ^ h)
theorem lev_zero (g : Nat → Hx) : lev g 0 = g := by funext k; show g (k * 2 ^ 0) = g k; simp
theorem lev_succ (g : Nat → Hx) (h k : Nat) : lev g (h + 1) k = pr (lev g h (2 * k)) (lev g h (2 * k + 1)) := by
  show pr (und g h (k * 2 ^ (h + 1))) (und g h (k * 2 ^ (h + 1) + 2 ^ h)) = pr (und g h (2 * k * 2 ^ h)) (und g h ((2 * k + 1) * 2 ^ h))
  have e1 : k * 2 ^ (h + 1) = 2 * k * 2 ^ h := by rw [Nat.pow_succ]; rw [Nat.mul_comm (2 ^ h) 2, ← Nat.mul_assoc, Nat.mul_comm k 2]
  rw [e1, Nat.add_mul, Nat.one_mul]
/-- How many are kept of a level. -/
def cnt (n : Nat) : Nat → Nat
  | 0 => n
  | h + 1 => (cnt n h + 1) / 2
theorem cnt_ge (n : Nat) : ∀ h, n ≤ cnt n h * 2 ^ h
  | 0 => by simp [cnt]
  | h + 1 => by
    have h1 := cnt_ge n h
    have e : cnt n (h + 1) * 2 ^ (h + 1) = (2 * cnt n (h + 1)) * 2 ^ h := by rw [Nat.pow_succ, Nat.mul_comm (2 ^ h) 2, ← Nat.mul_assoc, Nat.mul_comm _ 2]
    have h2 : cnt n h ≤ 2 * cnt n (h + 1) := by show _ ≤ 2 * ((cnt n h + 1) / 2); omega
    rw [e]
    exact Nat.le_trans h1 (Nat.mul_le_mul_right _ h2)
theorem cnt_le_n (n : Nat) : ∀ h, cnt n h ≤ n
  | 0 => Nat.le_refl _
  | h + 1 => by have := cnt_le_n n h; show (cnt n h + 1) / 2 ≤ _; omega
theorem lev_out (n : Nat) (f : Nat → Hx) (h k : Nat) (hk : cnt n h ≤ k) : lev (ext n f) h k = zero h := by
  refine und_ext_out n f h _ ?_
  exact Nat.le_trans (cnt_ge n h) (Nat.mul_le_mul_right _ hk)
theorem und_lev (g : Nat → Hx) (h : Nat) : und g h 0 = lev g h 0 := by show und g h 0 = und g h (0 * 2 ^ h); rw [Nat.zero_mul]
/-! ## paths -/
/-- What stands beside the way to the leaf i, at height h. -/
def sib (g : Nat → Hx) (i h : Nat) : Hx := lev g h ((i / 2 ^ h) ^^^ 1)
/-- A leaf folded with d digests of a path. -/
def fold (i : Nat) (x : Hx) (p : Nat → Hx) : Nat → Hx
  | 0 => x
  | d + 1 => if (i / 2 ^ d) % 2 = 0 then pr (fold i x p d) (p d) else pr (p d) (fold i x p d)
theorem xor1 (a : Nat) : a ^^^ 1 = if a % 2 = 0 then a + 1 else a - 1 := by
  apply Nat.eq_of_testBit_eq
  intro j
  cases j with
  | zero =>
    rw [Nat.testBit_xor]
    simp only [Nat.testBit_zero]
    by_cases h2 : a % 2 = 0
    · rw [if_pos h2]; have h3 : (a + 1) % 2 = 1 := by omega
      simp [h2, h3]
    · rw [if_neg h2]; have h3 : (a - 1) % 2 = 0 := by omega
      have h4 : a % 2 = 1 := by omega
      simp [h4, h3]
  | succ j =>
    rw [Nat.testBit_xor, Nat.testBit_succ, Nat.testBit_succ, Nat.testBit_succ]
    have e : (if a % 2 = 0 then a + 1 else a - 1) / 2 = a / 2 := by split <;> omega
    rw [e]; simp
theorem fold_up (g : Nat → Hx) (i : Nat) (p : Nat → Hx) (x : Hx) (hx : x = g i) : ∀ d, (∀ h, h < d → p h = sib g i h) → fold i x p d = lev g d (i / 2 ^ d)
  | 0, _ => by show x = lev g 0 _; rw [lev_zero]; simp [hx]
  | d + 1, hp => by
    have ih := fold_up g i p x hx d (fun h hh => hp h (by omega))
    have hd := hp d (by omega)
    have e2 : i / 2 ^ (d + 1) = i / 2 ^ d / 2 := by rw [Nat.pow_succ, Nat.div_div_eq_div_mul]
    rw [lev_succ, e2]
    unfold fold
    rw [ih, hd]
    unfold sib
    rw [xor1]
    generalize i / 2 ^ d = a
    by_cases ha : a % 2 = 0
    · rw [if_pos ha, if_pos ha, show 2 * (a / 2) = a from by omega]
    · rw [if_neg ha, if_neg ha, show 2 * (a / 2) = a - 1 from by omega, show a - 1 + 1 = a from by omega]
/-- With another leaf at a place. -/
def put (g : Nat → Hx) (i : Nat) (x : Hx) : Nat → Hx := fun k => if k = i then x else g k
theorem fold_own {g : Nat → Hx} {i d : Nat} {p : Nat → Hx} (hi : i < 2 ^ d) (hp : ∀ h, h < d → p h = sib g i h) : fold i (g i) p d = und g d 0 := by
  rw [fold_up g i p (g i) rfl d hp, Nat.div_eq_of_lt hi, und_lev]
theorem fold_cong {i : Nat} {x y : Hx} {p q : Nat → Hx} (hx : x = y) : ∀ d, (∀ h, h < d → p h = q h) → fold i x p d = fold i y q d
  | 0, _ => hx
  | d + 1, h => by unfold fold; rw [fold_cong hx d (fun k hk => h k (by omega)), h d (by omega)]
end Mk
end Go.Proofs.YtnaamljflcgepaaDoor
namespace Go.Proofs.YtnaamljflcgepaaDoor
open Go.RowKit
section
variable {P : Program} (w : World)
theorem run_append_at (base : Nat) (t ty e : TypeId) (i : TypeInfo) (z : Value) (size bytes : Nat) (ht : P.underlying t = some (.slice e)) (hi : P.info? e = some i) (hz : i.zero = some z)
    (hsize : i.size = size) (hby : i.bytes = bytes) (hzs : z.cells.size = size) (hsz : 0 < size)
    (v : Value) (n : Nat) (xs : List Value) (hown : w.ownsRow base e size v n xs)
    (a : Addr) (m c : Nat) (news : List Value) (hl : news.length = m * size) (hnews : ∀ j u, news[j]? = some u → w.cell? (a.add j) = some u) (h1 : ∀ u ∈ news, u.oneCell' = true)
    (h63 : n + m ≤ maxLen) (hbytes : (n + m) * bytes ≤ 140737488355328) (hbase : base ≤ w.heap.size) :
    ∃ v' w', (Builtin.append_ #[t, t] ty #[v, .slice (some a) m c]).run P w = .ok v' w' ∧ w'.ownsRow base e size v' (n + m) (xs ++ news) ∧ w.grownBy w' v.ownBlock ∧
      (v' = .slice none 0 0 ↔ v = .slice none 0 0 ∧ m = 0) ∧ ∀ k, v'.ownBlock = some k → v.ownBlock = some k ∨ k = w.heap.size := by
  obtain ⟨v', w', hr, h2, h3, h4⟩ := run_append_own (P := P) w base t ty e i z size bytes ht hi hz hsize hby hzs hsz v n xs hown a m c news hl hnews h1 h63 hbytes hbase
  refine ⟨v', w', hr, h2, h3, h4, ?_⟩
  have hsmall : n + m ≤ 9223372036854775807 := by simp only [maxLen] at h63; omega
  have key : ∀ (u : Value) (x : World), (Builtin.append_ #[t, t] ty #[v, .slice (some a) m c]).run P w = .ok u x → v' = u := by
    intro u x hx
    rw [hr] at hx
    injection hx
  subst hsize
  subst hby
  rcases hown.2 with ⟨rfl, rfl⟩ | ⟨g, cap, cur, rfl, hbg, hg, hnc, hcm, hcs, htake⟩
  · by_cases hm : m = 0
    · rw [h4.2 ⟨rfl, hm⟩]
      intro k hk
      simp [Value.ownBlock] at hk
    · have hr2 := run_append_nil (P := P) w t ty e i z ht hi hz a m c news hl hnews (by omega) (by omega) (by have hb := hbytes; simp only [Nat.zero_add] at hb; omega)
      rw [key _ _ hr2]
      intro k hk
      simp [Value.ownBlock] at hk
      exact .inr hk.symm
  · by_cases hroom : n + m ≤ cap
    · have hfit : n * i.size + news.length ≤ cur.size := by rw [hl, hcs, ← Nat.add_mul]; exact Nat.mul_le_mul_right _ hroom
      have hr2 := run_append_room (P := P) w t ty e i ht hi g n cap cur hg a m c news hl hnews h1 hroom hfit
      rw [key _ _ hr2]
      intro k hk
      exact .inl hk
    · have holds : ∀ j u, xs[j]? = some u → w.cell? ((⟨g, 0, none⟩ : Addr).add j) = some u := hown.cells (g := g) rfl
      have hr2 := run_append_grow (P := P) w t ty e i z ht hi hz ⟨g, 0, none⟩ n cap xs hown.1 holds a m c news hl hnews (by omega) (by omega) (growslice_fits (by omega) hbytes)
      rw [key _ _ hr2]
      intro k hk
      simp [Value.ownBlock] at hk
      exact .inr hk.symm
theorem wpList_append_at {ops : Array Oper} {rest : List Oper} {o : Oper} {a : Act} {Q : Exit → Act → World → Prop} (hgd : o.guard = none) (s x : Operand) (t : TypeId)
    (ho : o.op = .call { callee := .builtin .append, args := #[s, x], argTypes := #[t, t] })
    (base : Nat) (e : TypeId) (i : TypeInfo) (z : Value) (size bytes : Nat) (ht : P.underlying t = some (.slice e)) (hi : P.info? e = some i ∧ i.zero = some z ∧ i.size = size ∧ i.bytes = bytes)
    (hzs : z.cells.size = size) (hsz : 0 < size)
    (v : Value) (n : Nat) (xs : List Value) (hs : a.eval s = v) (hown : w.ownsRow base e size v n xs)
    (ad : Addr) (m c : Nat) (news : List Value) (hx : a.eval x = .slice (some ad) m c) (hl : news.length = m * size) (hnews : ∀ j u, news[j]? = some u → w.cell? (ad.add j) = some u) (h1 : ∀ u ∈ news, u.oneCell' = true)
    (h63 : n + m ≤ maxLen) (hbytes : (n + m) * bytes ≤ 140737488355328) (hbase : base ≤ w.heap.size)
    (h : ∀ v' w', w'.ownsRow base e size v' (n + m) (xs ++ news) → w.grownBy w' v.ownBlock → (∀ k, v'.ownBlock = some k → v.ownBlock = some k ∨ k = w.heap.size) → wpList P ops Q rest (a.put o.dst v') w') : wpList P ops Q (o :: rest) a w :=
  wpList_plain hgd fun K hK => by
    obtain ⟨v', w', hr, h2, h3, _, h4⟩ := run_append_at (P := P) w base t o.type e i z size bytes ht hi.1 hi.2.1 hi.2.2.1 hi.2.2.2 hzs hsz v n xs hown ad m c news hl hnews h1 h63 hbytes hbase
    have hh := hK _ _ (h v' w' h2 h3 h4)
    unfold Oper.wp execOp
    simp only [ho, resolve, invoke, builtin, Sem.run_bind, Sem.run_pure, Result.andThen_ok, List.map_toArray, List.map_cons, List.map_nil, hs, hx, hr]
    exact hh
end
/-- A value of the heap that owns its own block at 'b' and the block of a slice at cell 'o' of it. -/
def OwnS (w : World) (b o : Nat) (k : Nat) : Prop := k = b ∨ ∃ V, w.cell? ⟨b, o, none⟩ = some V ∧ V.ownBlock = some k
structure MovesS (b o : Nat) (w w' : World) : Prop where
  kept : Kept (OwnS w b o) w w'
  own : ∀ k, OwnS w' b o k → OwnS w b o k ∨ w.heap.size ≤ k
theorem MovesS.refl (b o : Nat) (w : World) : MovesS b o w w := ⟨Kept.refl _ _, fun _ h => .inl h⟩
theorem MovesS.trans {b o : Nat} {x y z : World} (h : MovesS b o x y) (k : MovesS b o y z) : MovesS b o x z :=
  ⟨h.kept.trans k.kept (fun i hi ho => (h.own i ho).resolve_right (by omega)), fun i ho => by
    rcases k.own i ho with ho | ho
    · exact h.own i ho
    · exact .inr (Nat.le_trans h.kept.size ho)⟩
theorem MovesS.drewN {b o : Nat} {x y : World} (h : MovesS b o x y) (n : Nat) : MovesS b o x (y.drewN n) := ⟨h.kept.drewN n, h.own⟩
theorem MovesS.ofBelow {b o : Nat} {w w' : World} {V : Value} (hV : w.cell? ⟨b, o, none⟩ = some V) (hb : Below w.heap.size w w') : MovesS b o w w' := by
  refine ⟨Kept.ofBelow hb, fun k hk => .inl ?_⟩
  rcases hk with hk | ⟨V', hV', hk⟩
  · exact .inl hk
  · rw [keep1 hb hV] at hV'; injection hV' with e; subst e; exact .inr ⟨_, hV, hk⟩
end Go.Proofs.YtnaamljflcgepaaDoor
namespace Go.Proofs.YtnaamljflcgepaaDoor
open Go.RowKit
set_option linter.unusedVariables false
theorem W_notx (x : Kc.Wd64) : bits BinOp.xor IntKind.u64 (if IntKind.u64.signed = true then -1 else IntKind.u64.max) (Kc.W x) = Kc.W (~~~x) := by
  have e : (if IntKind.u64.signed = true then -1 else IntKind.u64.max : Int) = Kc.W (BitVec.allOnes 64) := by rfl
  rw [e, Kc.W_xor, BitVec.allOnes_xor]
def firstLoop : Code → Option Code
  | .loop c => some c
  | .seq a b => match firstLoop a with
    | some c => some c
    | none => firstLoop b
  | .block _ c => firstLoop c
  | .scope c => firstLoop c
  | .cond _ a b => match firstLoop a with
    | some c => some c
    | none => firstLoop b
  | _ => none
namespace Kc
noncomputable def rowBody : Code := (((Tryd.f63.body.bind firstLoop).bind firstLoop).getD .skip)
set_option maxHeartbeats 40000000 in
set_option maxRecDepth 1000000 in
theorem rows_loop {Q0 : Exit → Act → World → Prop} (q0 q1 q2 : Nat) (bb c : Nat → Wd64) (w : World) (c0 c2 c4 c5 c6 c7 c8 c9 c10 c11 c12 c13 c14 c21 c22 c23 c24 c25 c26 c27 c28 c29 c30 c31 c32 c33 c34 c35 c36 c37 c38 c39 c40 c41 c42 c43 c44 c45 c46 c47 c48 c49 c50 c51 c52 c53 c54 c55 c56 c57 c58 c59 c60 c61 c62 c63 c64 c65 c66 c67 c68 c69 c70 c71 c72 c73 c74 c75 c76 c77 c78 c79 c80 c81 c82 c83 c84 c85 c86 c87 c88 c89 c90 c91 c92 c93 c94 c95 c96 c97 c98 c99 c100 c101 c102 c103 c104 c105 c106 c107 c108 c109 c110 c111 c112 c113 c114 c115 c116 c117 c118 c119 c120 c121 c122 c123 c124 c125 c126 c127 c128 c129 c130 c131 c132 c133 c134 c135 c136 c137 c138 c139 c140 c141 c142 c143 c144 c145 c146 c147 c148 c149 c150 c151 c152 c153 c154 c155 c156 c157 c158 c159 c160 c161 c162 c163 c164 c165 c166 c167 c168 c169 c170 c171 c172 c173 c174 c175 c176 c177 c178 c179 c180 c181 c182 c183 c184 c185 c186 c187 c188 c189 c190 c191 c192 c193 c194 c195 c196 c197 c198 c199 c200 c201 c202 c203 c204 c205 c206 c207 c208 c209 c210 c211 c212 c213 c214 c215 c216 c217 c218 c219 c220 c221 c222 c223 c224 c225 c226 c227 c228 c229 c230 c231 c232 c233 c234 c235 c236 c237 c238 c239 c240 c241 c242 c243 c244 c245 c246 c247 c248 c249 c250 c251 c252 c253 c254 c255 c256 c257 c258 c259 c260 c261 c262 c263 c331 c332 c333 c334 c335 c336 c337 c338 c339 u16 u17 u18 u19 u20 u264 u265 u266 u267 u268 u269 u270 u271 u272 u273 u274 u275 u276 u277 u278 u279 u280 u281 u282 u283 u284 u285 u286 u287 u288 u289 u290 u291 u292 u293 u294 u295 u296 u297 u298 u299 u300 u301 u302 u303 u304 u305 u306 u307 u308 u309 u310 u311 u312 u313 u314 u315 u316 u317 u318 u319 u320 u321 u322 u323 u324 u325 u326 u327 u328 u329 u330 : Value) (z0 : World)
    (hp : Pm w q0 q1 q2 c bb z0)
    (hexit : ∀ (v16 v17 v18 v19 v20 v264 v265 v266 v267 v268 v269 v270 v271 v272 v273 v274 v275 v276 v277 v278 v279 v280 v281 v282 v283 v284 v285 v286 v287 v288 v289 v290 v291 v292 v293 v294 v295 v296 v297 v298 v299 v300 v301 v302 v303 v304 v305 v306 v307 v308 v309 v310 v311 v312 v313 v314 v315 v316 v317 v318 v319 v320 v321 v322 v323 v324 v325 v326 v327 v328 v329 v330 : Value) (z : World), Pm w q0 q1 q2 (chi bb) bb z → Q0 (.exit 2) ⟨(c0 :: Value.pointer (some ⟨q0, 0, none⟩) :: c2 :: Value.pointer (some ⟨q2, 0, none⟩) :: c4 :: c5 :: c6 :: c7 :: c8 :: c9 :: c10 :: c11 :: c12 :: c13 :: c14 :: Value.int .i64 25 :: v16 :: v17 :: v18 :: v19 :: v20 :: c21 :: c22 :: c23 :: c24 :: c25 :: c26 :: c27 :: c28 :: c29 :: c30 :: c31 :: c32 :: c33 :: c34 :: c35 :: c36 :: c37 :: c38 :: c39 :: c40 :: c41 :: c42 :: c43 :: c44 :: c45 :: c46 :: c47 :: c48 :: c49 :: c50 :: c51 :: c52 :: c53 :: c54 :: c55 :: c56 :: c57 :: c58 :: c59 :: c60 :: c61 :: c62 :: c63 :: c64 :: c65 :: c66 :: c67 :: c68 :: c69 :: c70 :: c71 :: c72 :: c73 :: c74 :: c75 :: c76 :: c77 :: c78 :: c79 :: c80 :: c81 :: c82 :: c83 :: c84 :: c85 :: c86 :: c87 :: c88 :: c89 :: c90 :: c91 :: c92 :: c93 :: c94 :: c95 :: c96 :: c97 :: c98 :: c99 :: c100 :: c101 :: c102 :: c103 :: c104 :: c105 :: c106 :: c107 :: c108 :: c109 :: c110 :: c111 :: c112 :: c113 :: c114 :: c115 :: c116 :: c117 :: c118 :: c119 :: c120 :: c121 :: c122 :: c123 :: c124 :: c125 :: c126 :: c127 :: c128 :: c129 :: c130 :: c131 :: c132 :: c133 :: c134 :: c135 :: c136 :: c137 :: c138 :: c139 :: c140 :: c141 :: c142 :: c143 :: c144 :: c145 :: c146 :: c147 :: c148 :: c149 :: c150 :: c151 :: c152 :: c153 :: c154 :: c155 :: c156 :: c157 :: c158 :: c159 :: c160 :: c161 :: c162 :: c163 :: c164 :: c165 :: c166 :: c167 :: c168 :: c169 :: c170 :: c171 :: c172 :: c173 :: c174 :: c175 :: c176 :: c177 :: c178 :: c179 :: c180 :: c181 :: c182 :: c183 :: c184 :: c185 :: c186 :: c187 :: c188 :: c189 :: c190 :: c191 :: c192 :: c193 :: c194 :: c195 :: c196 :: c197 :: c198 :: c199 :: c200 :: c201 :: c202 :: c203 :: c204 :: c205 :: c206 :: c207 :: c208 :: c209 :: c210 :: c211 :: c212 :: c213 :: c214 :: c215 :: c216 :: c217 :: c218 :: c219 :: c220 :: c221 :: c222 :: c223 :: c224 :: c225 :: c226 :: c227 :: c228 :: c229 :: c230 :: c231 :: c232 :: c233 :: c234 :: c235 :: c236 :: c237 :: c238 :: c239 :: c240 :: c241 :: c242 :: c243 :: c244 :: c245 :: c246 :: c247 :: c248 :: c249 :: c250 :: c251 :: c252 :: c253 :: c254 :: c255 :: c256 :: c257 :: c258 :: c259 :: c260 :: c261 :: c262 :: c263 :: v264 :: v265 :: v266 :: v267 :: v268 :: v269 :: v270 :: v271 :: v272 :: v273 :: v274 :: v275 :: v276 :: v277 :: v278 :: v279 :: v280 :: v281 :: v282 :: v283 :: v284 :: v285 :: v286 :: v287 :: v288 :: v289 :: v290 :: v291 :: v292 :: v293 :: v294 :: v295 :: v296 :: v297 :: v298 :: v299 :: v300 :: v301 :: v302 :: v303 :: v304 :: v305 :: v306 :: v307 :: v308 :: v309 :: v310 :: v311 :: v312 :: v313 :: v314 :: v315 :: v316 :: v317 :: v318 :: v319 :: v320 :: v321 :: v322 :: v323 :: v324 :: v325 :: v326 :: v327 :: v328 :: v329 :: v330 :: c331 :: c332 :: c333 :: c334 :: c335 :: c336 :: c337 :: c338 :: c339 :: []).toArray, []⟩ z) :
    Code.wp Tryd.prog (Code.loop rowBody) Q0 ⟨(c0 :: Value.pointer (some ⟨q0, 0, none⟩) :: c2 :: Value.pointer (some ⟨q2, 0, none⟩) :: c4 :: c5 :: c6 :: c7 :: c8 :: c9 :: c10 :: c11 :: c12 :: c13 :: c14 :: Value.int .i64 0 :: u16 :: u17 :: u18 :: u19 :: u20 :: c21 :: c22 :: c23 :: c24 :: c25 :: c26 :: c27 :: c28 :: c29 :: c30 :: c31 :: c32 :: c33 :: c34 :: c35 :: c36 :: c37 :: c38 :: c39 :: c40 :: c41 :: c42 :: c43 :: c44 :: c45 :: c46 :: c47 :: c48 :: c49 :: c50 :: c51 :: c52 :: c53 :: c54 :: c55 :: c56 :: c57 :: c58 :: c59 :: c60 :: c61 :: c62 :: c63 :: c64 :: c65 :: c66 :: c67 :: c68 :: c69 :: c70 :: c71 :: c72 :: c73 :: c74 :: c75 :: c76 :: c77 :: c78 :: c79 :: c80 :: c81 :: c82 :: c83 :: c84 :: c85 :: c86 :: c87 :: c88 :: c89 :: c90 :: c91 :: c92 :: c93 :: c94 :: c95 :: c96 :: c97 :: c98 :: c99 :: c100 :: c101 :: c102 :: c103 :: c104 :: c105 :: c106 :: c107 :: c108 :: c109 :: c110 :: c111 :: c112 :: c113 :: c114 :: c115 :: c116 :: c117 :: c118 :: c119 :: c120 :: c121 :: c122 :: c123 :: c124 :: c125 :: c126 :: c127 :: c128 :: c129 :: c130 :: c131 :: c132 :: c133 :: c134 :: c135 :: c136 :: c137 :: c138 :: c139 :: c140 :: c141 :: c142 :: c143 :: c144 :: c145 :: c146 :: c147 :: c148 :: c149 :: c150 :: c151 :: c152 :: c153 :: c154 :: c155 :: c156 :: c157 :: c158 :: c159 :: c160 :: c161 :: c162 :: c163 :: c164 :: c165 :: c166 :: c167 :: c168 :: c169 :: c170 :: c171 :: c172 :: c173 :: c174 :: c175 :: c176 :: c177 :: c178 :: c179 :: c180 :: c181 :: c182 :: c183 :: c184 :: c185 :: c186 :: c187 :: c188 :: c189 :: c190 :: c191 :: c192 :: c193 :: c194 :: c195 :: c196 :: c197 :: c198 :: c199 :: c200 :: c201 :: c202 :: c203 :: c204 :: c205 :: c206 :: c207 :: c208 :: c209 :: c210 :: c211 :: c212 :: c213 :: c214 :: c215 :: c216 :: c217 :: c218 :: c219 :: c220 :: c221 :: c222 :: c223 :: c224 :: c225 :: c226 :: c227 :: c228 :: c229 :: c230 :: c231 :: c232 :: c233 :: c234 :: c235 :: c236 :: c237 :: c238 :: c239 :: c240 :: c241 :: c242 :: c243 :: c244 :: c245 :: c246 :: c247 :: c248 :: c249 :: c250 :: c251 :: c252 :: c253 :: c254 :: c255 :: c256 :: c257 :: c258 :: c259 :: c260 :: c261 :: c262 :: c263 :: u264 :: u265 :: u266 :: u267 :: u268 :: u269 :: u270 :: u271 :: u272 :: u273 :: u274 :: u275 :: u276 :: u277 :: u278 :: u279 :: u280 :: u281 :: u282 :: u283 :: u284 :: u285 :: u286 :: u287 :: u288 :: u289 :: u290 :: u291 :: u292 :: u293 :: u294 :: u295 :: u296 :: u297 :: u298 :: u299 :: u300 :: u301 :: u302 :: u303 :: u304 :: u305 :: u306 :: u307 :: u308 :: u309 :: u310 :: u311 :: u312 :: u313 :: u314 :: u315 :: u316 :: u317 :: u318 :: u319 :: u320 :: u321 :: u322 :: u323 :: u324 :: u325 :: u326 :: u327 :: u328 :: u329 :: u330 :: c331 :: c332 :: c333 :: c334 :: c335 :: c336 :: c337 :: c338 :: c339 :: []).toArray, []⟩ z0 := by
  conv => arg 2; whnf
  conv => arg 2; arg 1; whnf
  have HEX := Lib.hid hexit
  clear hexit
  have HPP := Lib.hid hp
  clear hp
  go_loopw [15] (fun s z => ∃ r : Nat, r ≤ 25 ∧ Hid (r % 5 = 0) ∧ s = .int .i64 r ∧ Pm w q0 q1 q2 (chiK bb c r) bb z) (fun s _ => 25 - (intOf s).toNat)
  case atStart => exact ⟨0, by decide, Lib.hid rfl, rfl, HPP.out.congA (chiK_zero _ c)⟩
  case round =>
    obtain ⟨r, hr, hr5, rfl, hp⟩ := hrel
    clear HPP
    have HPP := Lib.hid hp
    clear hp
    by_cases hr25 : (r : Int) < 25
    · have hr20 : (r : Int) ≤ 20 := by have := hr5.out; omega
      have b0 := HPP.out.sb.cell r (by omega)
      have b1 := HPP.out.sb.cell (r + 1) (by omega)
      have b2 := HPP.out.sb.cell (r + 2) (by omega)
      have b3 := HPP.out.sb.cell (r + 3) (by omega)
      have b4 := HPP.out.sb.cell (r + 4) (by omega)
      clear hr
      go_upto_region 43 with (fail)
      go_quiet (fail)
      clear b0 b1 b2 b3 b4
      have HP2 := Lib.hid (HPP.out.drewN nq)
      clear HPP
      generalize World.drewN wr nq = s0 at *
      have xr := W_xor
      have xa := W_and
      have xn := W_notx
      have aj := HP2.out.sa.cell r (by omega)
      have fj := HP2.out.sa.fz r
      go_upto_region 45 with (fail)
      have hp2 := HP2.out.setA r (bb r ^^^ (~~~bb (r + 1) &&& bb (r + 2)))
      clear HP2 aj fj
      have HP2 := Lib.hid hp2
      clear hp2
      generalize World.setCell s0 ⟨q0, r, none⟩ (.int .u64 (W (bb r ^^^ (~~~bb (r + 1) &&& bb (r + 2))))) = s1 at *
      have aj := HP2.out.sa.cell (r + 1) (by omega)
      have fj := HP2.out.sa.fz (r + 1)
      go_upto_region 46 with (fail)
      have hp2 := HP2.out.setA (r + 1) (bb (r + 1) ^^^ (~~~bb (r + 2) &&& bb (r + 3)))
      clear HP2 aj fj
      have HP2 := Lib.hid hp2
      clear hp2
      generalize World.setCell s1 ⟨q0, (r + 1), none⟩ (.int .u64 (W (bb (r + 1) ^^^ (~~~bb (r + 2) &&& bb (r + 3))))) = s2 at *
      have aj := HP2.out.sa.cell (r + 2) (by omega)
      have fj := HP2.out.sa.fz (r + 2)
      go_upto_region 47 with (fail)
      have hp2 := HP2.out.setA (r + 2) (bb (r + 2) ^^^ (~~~bb (r + 3) &&& bb (r + 4)))
      clear HP2 aj fj
      have HP2 := Lib.hid hp2
      clear hp2
      generalize World.setCell s2 ⟨q0, (r + 2), none⟩ (.int .u64 (W (bb (r + 2) ^^^ (~~~bb (r + 3) &&& bb (r + 4))))) = s3 at *
      have aj := HP2.out.sa.cell (r + 3) (by omega)
      have fj := HP2.out.sa.fz (r + 3)
      go_upto_region 48 with (fail)
      have hp2 := HP2.out.setA (r + 3) (bb (r + 3) ^^^ (~~~bb (r + 4) &&& bb r))
      clear HP2 aj fj
      have HP2 := Lib.hid hp2
      clear hp2
      generalize World.setCell s3 ⟨q0, (r + 3), none⟩ (.int .u64 (W (bb (r + 3) ^^^ (~~~bb (r + 4) &&& bb r)))) = s4 at *
      have aj := HP2.out.sa.cell (r + 4) (by omega)
      have fj := HP2.out.sa.fz (r + 4)
      go_upto_region 42 with (fail)
      have hp2 := HP2.out.setA (r + 4) (bb (r + 4) ^^^ (~~~bb r &&& bb (r + 1)))
      clear HP2 aj fj
      have HP2 := Lib.hid hp2
      clear hp2
      generalize World.setCell s4 ⟨q0, (r + 4), none⟩ (.int .u64 (W (bb (r + 4) ^^^ (~~~bb r &&& bb (r + 1))))) = s5 at *
      clear xr xa xn
      go_wp2_with fail
      go_roundw
      case rel => exact ⟨r + 5, by omega, Lib.hid (by have := hr5.out; omega), by go_num, HP2.out.congA (row_ok bb c r hr5.out)⟩
      case measure => simp [intOf]; omega

    · obtain rfl : r = 25 := by omega
      have hpx := HPP.out.congA (a' := chi bb) (fun i hi => by unfold chiK; rw [if_pos hi])
      have HPX := Lib.hid hpx
      clear hpx HPP
      go_wp2_with fail
      exact HEX.out _ _ _ _ _ _ _ _ _ _ _ _ _ _ _ _ _ _ _ _ _ _ _ _ _ _ _ _ _ _ _ _ _ _ _ _ _ _ _ _ _ _ _ _ _ _ _ _ _ _ _ _ _ _ _ _ _ _ _ _ _ _ _ _ _ _ _ _ _ _ _ _ _ HPX.out
end Kc
end Go.Proofs.YtnaamljflcgepaaDoor
namespace Go.Proofs.YtnaamljflcgepaaDoor
set_option linter.unusedVariables false
section
variable {P : Program} {ops : Array Oper} {Q : Exit → Act → World → Prop} {S : World → Prop}
end
end Go.Proofs.YtnaamljflcgepaaDoor
namespace Go.Proofs.YtnaamljflcgepaaDoor
open Go.RowKit
set_option linter.unusedVariables false
namespace Kc
def tv (n : Nat) : Value := .int .i64 n
theorem below_grown {B : Nat} {W u v : World} {row : Option Nat} (hB : B ≤ W.heap.size) (h : Below B W u) (hg : u.grownBy v row) (hr : ∀ k, row = some k → B ≤ k) : Below B W v :=
  ⟨hg.os.trans h.os, hg.tape.trans h.tape, hg.output.trans h.output, Nat.le_trans h.size hg.size, fun k hk => by
    rw [hg.block k (by have := h.size; omega) (fun e => by have := hr k e.symm; omega)]; exact h.block k hk⟩
end Kc
end Go.Proofs.YtnaamljflcgepaaDoor
namespace Go.Proofs.YtnaamljflcgepaaDoor
open Go.RowKit
set_option linter.unusedVariables false
namespace Kc
end Kc
end Go.Proofs.YtnaamljflcgepaaDoor
namespace Go.Proofs.YtnaamljflcgepaaDoor
end Go.Proofs.YtnaamljflcgepaaDoor
namespace Go.Proofs.YtnaamljflcgepaaDoor
open Go.RowKit
set_option linter.unusedVariables false
namespace Kc
structure Pf (W : World) (q0 qr q8 q9 qc qt : Nat) (a b c : Nat → Wd64) (y : World) : Prop where
  sa : IsTab y q0 115 25 fun i => wv (a i)
  sr : IsTab y qr 115 25 fun _ => wv 0#64
  sb : IsTab y q8 115 25 fun i => wv (b i)
  sc : IsTab y q9 115 25 fun i => wv (c i)
  cons : ∀ i, i < 24 → y.cell? ⟨qc, i, none⟩ = some (wv (consts.getD i 0#64))
  turn : ∀ j, j < 25 → y.cell? ⟨qt, j, none⟩ = some (tv (turns.getD j 0))
  lc : qc < W.heap.size
  lt : qt < W.heap.size
  g0 : W.heap.size ≤ q0
  o1 : q0 < qr
  o2 : qr < q8
  o3 : q8 < q9
  below : Below W.heap.size W y
namespace Pf
variable {W : World} {q0 qr q8 q9 qc qt : Nat} {a b c : Nat → Wd64} {y : World}
theorem drew (h : Pf W q0 qr q8 q9 qc qt a b c y) : Pf W q0 qr q8 q9 qc qt a b c y.drew := ⟨h.sa, h.sr, h.sb, h.sc, h.cons, h.turn, h.lc, h.lt, h.g0, h.o1, h.o2, h.o3, h.below.drew⟩
theorem cell_old (h : Pf W q0 qr q8 q9 qc qt a b c y) {q i k j : Nat} {v : Value} (hq : W.heap.size ≤ q) (hk : k < W.heap.size) : (y.setCell ⟨q, i, none⟩ v).cell? ⟨k, j, none⟩ = y.cell? ⟨k, j, none⟩ :=
  World.cell?_setCell_other _ _ _ _ (fun e => by have := congrArg Addr.block e; simp only at this; omega)
theorem setA (h : Pf W q0 qr q8 q9 qc qt a b c y) (i : Nat) (x : Wd64) : Pf W q0 qr q8 q9 qc qt (upd a i x) b c (y.setCell ⟨q0, i, none⟩ (wv x)) :=
  ⟨(h.sa.set i _).cong (fun j _ => by unfold updv upd; dsimp only; split <;> rfl), h.sr.keep (by have := h.o1; omega), h.sb.keep (by have := h.o1; have := h.o2; omega), h.sc.keep (by have := h.o1; have := h.o2; have := h.o3; omega),
   fun k hk => by rw [h.cell_old h.g0 h.lc]; exact h.cons k hk, fun k hk => by rw [h.cell_old h.g0 h.lt]; exact h.turn k hk, h.lc, h.lt, h.g0, h.o1, h.o2, h.o3, h.below.setCell h.g0 _⟩
theorem setB (h : Pf W q0 qr q8 q9 qc qt a b c y) (i : Nat) (x : Wd64) : Pf W q0 qr q8 q9 qc qt a (upd b i x) c (y.setCell ⟨q8, i, none⟩ (wv x)) :=
  have g : W.heap.size ≤ q8 := by have := h.g0; have := h.o1; have := h.o2; omega
  ⟨h.sa.keep (by have := h.o1; have := h.o2; omega), h.sr.keep (by have := h.o2; omega), (h.sb.set i _).cong (fun j _ => by unfold updv upd; dsimp only; split <;> rfl), h.sc.keep (by have := h.o3; omega),
   fun k hk => by rw [h.cell_old g h.lc]; exact h.cons k hk, fun k hk => by rw [h.cell_old g h.lt]; exact h.turn k hk, h.lc, h.lt, h.g0, h.o1, h.o2, h.o3, h.below.setCell g _⟩
theorem congA (h : Pf W q0 qr q8 q9 qc qt a b c y) {a' : Nat → Wd64} (e : ∀ i, i < 25 → a i = a' i) : Pf W q0 qr q8 q9 qc qt a' b c y :=
  ⟨h.sa.cong (fun i hi => by rw [e i hi]), h.sr, h.sb, h.sc, h.cons, h.turn, h.lc, h.lt, h.g0, h.o1, h.o2, h.o3, h.below⟩
theorem congB (h : Pf W q0 qr q8 q9 qc qt a b c y) {b' : Nat → Wd64} (e : ∀ i, i < 25 → b i = b' i) : Pf W q0 qr q8 q9 qc qt a b' c y :=
  ⟨h.sa, h.sr, h.sb.cong (fun i hi => by rw [e i hi]), h.sc, h.cons, h.turn, h.lc, h.lt, h.g0, h.o1, h.o2, h.o3, h.below⟩
end Pf
end Kc
end Go.Proofs.YtnaamljflcgepaaDoor
namespace Go.Proofs.YtnaamljflcgepaaDoor
open Go.RowKit
set_option linter.unusedVariables false
namespace Kc
end Kc
end Go.Proofs.YtnaamljflcgepaaDoor
namespace Go.Proofs.YtnaamljflcgepaaDoor
open Go.RowKit
set_option linter.unusedVariables false
namespace Kc
end Kc
end Go.Proofs.YtnaamljflcgepaaDoor
namespace Go.Proofs.YtnaamljflcgepaaDoor
open Go.RowKit
set_option linter.unusedVariables false
namespace Kc
structure Pa (W : World) (q0 qr qc qt : Nat) (a : Nat → Wd64) (y : World) : Prop where
  sa : IsTab y q0 115 25 fun i => wv (a i)
  sr : IsTab y qr 115 25 fun _ => wv 0#64
  cons : ∀ i, i < 24 → y.cell? ⟨qc, i, none⟩ = some (wv (consts.getD i 0#64))
  turn : ∀ j, j < 25 → y.cell? ⟨qt, j, none⟩ = some (tv (turns.getD j 0))
  lc : qc < W.heap.size
  lt : qt < W.heap.size
  g0 : W.heap.size ≤ q0
  o1 : q0 < qr
  below : Below W.heap.size W y
theorem Pa.two {W : World} {q0 qr qc qt : Nat} {a : Nat → Wd64} {y : World} (h : Pa W q0 qr qc qt a y) :
    Pf W q0 qr y.heap.size (y.heap.size + 1) qc qt a (fun _ => 0#64) (fun _ => 0#64) ((y.alloc (.cells (tab 25 fun _ => wv 0#64) 115)).alloc (.cells (tab 25 fun _ => wv 0#64) 115)) := by
  have e1 : (y.alloc (.cells (tab 25 fun _ => wv 0#64) 115)).heap.size = y.heap.size + 1 := by simp
  have hs := h.below.size
  have hb : Below y.heap.size y ((y.alloc (.cells (tab 25 fun _ => wv 0#64) 115)).alloc (.cells (tab 25 fun _ => wv 0#64) 115)) := ((Below.refl _ _).alloc (Nat.le_refl _) _).alloc (by simp) _
  refine ⟨(h.sa.alloc _).alloc _, (h.sr.alloc _).alloc _, (IsTab.new y _ 25 _).alloc _, ?_, fun i hi => keep1 hb (h.cons i hi), fun j hj => keep1 hb (h.turn j hj), h.lc, h.lt, h.g0, h.o1, h.sr.lt, Nat.lt_succ_self _, bl h.below hb⟩
  have := IsTab.new (y.alloc (.cells (tab 25 fun _ => wv 0#64) 115)) 115 25 fun _ => wv 0#64
  rw [e1] at this; exact this
theorem Pf.one {W : World} {q0 qr q8 q9 qc qt : Nat} {a b c : Nat → Wd64} {y : World} (h : Pf W q0 qr q8 q9 qc qt a b c y) : Pa W q0 qr qc qt a y := ⟨h.sa, h.sr, h.cons, h.turn, h.lc, h.lt, h.g0, h.o1, h.below⟩
end Kc
end Go.Proofs.YtnaamljflcgepaaDoor
namespace Go.Proofs.YtnaamljflcgepaaDoor
open Go.RowKit
set_option linter.unusedVariables false
namespace Kc
/-- The slice of the constants, and that of the turns. -/
def Two (w : World) (V : Value) (qt : Nat) : Prop := ∃ qc cap, V = .slice (some ⟨qc, 0, none⟩) 24 cap ∧ (∀ i, i < 24 → w.cell? ⟨qc, i, none⟩ = some (wv (consts.getD i 0#64))) ∧ ∀ j, j < 25 → w.cell? ⟨qt, j, none⟩ = some (tv (turns.getD j 0))
theorem Two.below {w w' : World} {V : Value} {qt : Nat} (h : Two w V qt) (hb : Below w.heap.size w w') : Two w' V qt := by
  obtain ⟨qc, cap, h1, h2, h3⟩ := h
  exact ⟨qc, cap, h1, fun i hi => keep1 hb (h2 i hi), fun j hj => keep1 hb (h3 j hj)⟩
def ConsAt (w : World) (V : Value) : Prop := ∃ qc cap, V = .slice (some ⟨qc, 0, none⟩) 24 cap ∧ ∀ i, i < 24 → w.cell? ⟨qc, i, none⟩ = some (wv (consts.getD i 0#64))
def TurnAt (w : World) (V : Value) : Prop := ∃ qt, V = .slice (some ⟨qt, 0, none⟩) 25 25 ∧ ∀ j, j < 25 → w.cell? ⟨qt, j, none⟩ = some (tv (turns.getD j 0))
theorem ConsAt.below {w w' : World} {V : Value} (hb : Below w.heap.size w w') (h : ConsAt w V) : ConsAt w' V := by
  obtain ⟨qc, cap, h1, h2⟩ := h
  exact ⟨qc, cap, h1, fun i hi => keep1 hb (h2 i hi)⟩
theorem TurnAt.below {w w' : World} {V : Value} (hb : Below w.heap.size w w') (h : TurnAt w V) : TurnAt w' V := by
  obtain ⟨qt, h1, h2⟩ := h
  exact ⟨qt, h1, fun i hi => keep1 hb (h2 i hi)⟩
/-- A world with the argument's block and the result's. -/
def Rp (W : World) (q0 q1 : Nat) (a : Nat → Wd64) (y : World) : Prop := IsTab y q0 115 25 (fun i => wv (a i)) ∧ (∃ g, IsTab y q1 115 25 g) ∧ Below W.heap.size W y ∧ W.heap.size ≤ q1 ∧ q0 ≠ q1
theorem Rp.next {W : World} {q0 q1 : Nat} {a : Nat → Wd64} {y y' : World} (h : Rp W q0 q1 a y) (hb : Below y.heap.size y y') : Rp W q0 q1 a y' :=
  ⟨IsTab.below h.1 hb, by obtain ⟨g, hg⟩ := h.2.1; exact ⟨g, IsTab.below hg hb⟩, bl h.2.2.1 hb, h.2.2.2⟩
end Kc
end Go.Proofs.YtnaamljflcgepaaDoor
