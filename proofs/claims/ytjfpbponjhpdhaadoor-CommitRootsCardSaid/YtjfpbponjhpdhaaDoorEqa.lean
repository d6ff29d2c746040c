/-
  '==' on arrays of integers. Own work, after the guide's law on arrays of bytes.
-/
import Derived.Test.YtjfpbponjhpdhaaDoorTab
import Derived.Laws.StructEq
import Derived.Test.YtjfpbponjhpdhaaDoorQtl
namespace Go.Proofs.YtjfpbponjhpdhaaDoor
open Go.RowKit
set_option linter.unusedVariables false
section
variable {P : Program} {md : Region.Mode} {ops : Array Oper} {C : World → Prop}
/-- The same where the load is guarded, and wanted. -/
theorem wpQuiet_loadg {Q : Act → Prop} {a : Act} {o : Oper} {rest : List Oper} (ty : TypeId) (x : Operand) (p v : Value) (hw : Region.wanted o (yielded ops a.tmps) = true) (ho : o.op = .load ty x) (hx : a.eval x = p)
    (hl : ∀ w, C w → (Instr.loadAt ty p).run P w = .ok v w) (h : wpQuiet P ops C Q rest (a.put o.dst v)) : wpQuiet P ops C Q (o :: rest) a := by
  unfold wpQuiet
  rw [hw, if_pos rfl]
  refine ⟨v, fun w hw => ?_, h⟩
  unfold Oper.quietAt execOp
  simp only [ho, hx]
  simp [hl w hw, Oper.quietUpon, Result.andThen]
end
namespace Kc
theorem run_equal_tab {P : Program} (w : World) (d : Nat) (t e : TypeId) (n : Nat) (k : IntKind) (ht : P.underlying t = some (.array n e)) (he : P.underlying e = some (.int k)) (hsz : ∀ w, (sizeOf e).run P w = .ok 1 w) (f g : Nat → Int) :
    (Op.equalIn (d + 2) t (.agg (tab n fun i => .int k (f i))) (.agg (tab n fun i => .int k (g i)))).run P w = .ok ((List.range n).all fun i => f i == g i) w := by
  rw [List.range_eq_range', Op.equalIn]
  simp only [Sem.run_bind, run_underlying ht, Result.andThen_ok, hsz, Std.Legacy.Range.forIn_eq_forIn_range', Std.Legacy.Range.size, Nat.sub_zero, Nat.add_sub_cancel, Nat.div_one]
  have hl : ∀ i ∈ List.range' 0 n 1, i < n := fun i hi => by simpa using (List.mem_range'_1.1 hi).2
  generalize List.range' 0 n 1 = l at hl ⊢
  induction l with
  | nil => simp
  | cons i l ih =>
    have hi : i < n := hl i (by simp)
    have px : ∀ h : Nat → Int, (part e (tab n fun i => .int k (h i)) (i * 1)).run P w = .ok (.int k (h i)) w := fun h => by
      have := tab_at (fun i => Value.int k (h i)) hi
      simp [part, isAgg, run_underlying he, this]
    have pe : (Op.equalIn (d + 1) e (.int k (f i)) (.int k (g i))).run P w = .ok (f i == g i) w := run_equalIn_int w d e k k _ _ he
    simp only [List.forIn_cons, Sem.run_bind, px, pe, Result.andThen_ok, List.all_cons]
    cases hb : (f i == g i)
    · simp
    · simp only [Bool.not_true, Bool.false_eq_true, if_false, Sem.run_pure, Result.andThen_ok, Bool.true_and]
      exact ih fun j hj => hl j (by simp [hj])
theorem run_eql_tab {P : Program} (w : World) (t e : TypeId) (n : Nat) (k : IntKind) (ht : P.underlying t = some (.array n e)) (he : P.underlying e = some (.int k)) (hsz : ∀ w, (sizeOf e).run P w = .ok 1 w) (f g : Nat → Int) :
    (binOp .eql t (.agg (tab n fun i => .int k (f i))) (.agg (tab n fun i => .int k (g i)))).run P w = .ok (.bool ((List.range n).all fun i => f i == g i)) w := by
  rw [run_eql_struct, run_equal_tab w 9998 t e n k ht he hsz]; rfl
/-- Are n words the same? -/
def same25 (a b : Nat → Wd64) : Bool := (List.range 25).all fun i => W (a i) == W (b i)
theorem same25_iff (a b : Nat → Wd64) : same25 a b = true ↔ ∀ i, i < 25 → a i = b i := by
  unfold same25
  rw [List.all_eq_true]
  constructor
  · intro h i hi
    exact W_inj (by simpa using h i (List.mem_range.2 hi))
  · intro h i hi
    rw [h i (List.mem_range.1 hi)]; simp
theorem sizeU64 (w : World) : (sizeOf 33).run Tryd.prog w = .ok 1 w := by kernel_rfl
theorem undU64 : Tryd.prog.underlying 33 = some (.int .u64) := by kernel_rfl
theorem eql25 (a b : Nat → Wd64) (w : World) : (binOp .eql 173 (.agg (words a)) (.agg (words b))).run Tryd.prog w = .ok (.bool (same25 a b)) w :=
  run_eql_tab w _ _ 25 .u64 und25 undU64 sizeU64 _ _
def same32 (a b : Nat → Bt) : Bool := (List.range 32).all fun i => Bv (a i) == Bv (b i)
theorem same32_refl (a : Nat → Bt) : same32 a a = true := by unfold same32; simp
theorem same32_iff (a b : Nat → Bt) : same32 a b = true ↔ ∀ i, i < 32 → a i = b i := by
  unfold same32
  rw [List.all_eq_true]
  constructor
  · intro h i hi
    exact Bv_inj (by simpa using h i (List.mem_range.2 hi))
  · intro h i hi
    rw [h i (List.mem_range.1 hi)]; simp
theorem sizeU8 (w : World) : (sizeOf 5).run Tryd.prog w = .ok 1 w := by kernel_rfl
theorem undU8 : Tryd.prog.underlying 5 = some (.int .u8) := by kernel_rfl
theorem eql32 (a b : Nat → Bt) (w : World) : (binOp .eql 42 (.agg (tab 32 fun i => bv (a i))) (.agg (tab 32 fun i => bv (b i)))).run Tryd.prog w = .ok (.bool (same32 a b)) w :=
  run_eql_tab w _ _ 32 .u8 (by kernel_rfl) undU8 sizeU8 _ _
end Kc
end Go.Proofs.YtjfpbponjhpdhaaDoor
