/-
  Transactions and records: '=='; loads. Own work.
-/
import Derived.Test.YtkhdamjjbjmeaaaDoorRec
import Derived.Test.YtkhdamjjbjmeaaaDoorV6
import Derived.Test.YtkhdamjjbjmeaaaDoorQin
import Derived.Laws.StructEq
namespace Go.Proofs.YtkhdamjjbjmeaaaDoor
open Go.ChangeShapes Go.WideShapes Go.Deep Go.RowKit
set_option linter.unusedVariables false
set_option linter.unusedSimpArgs false
namespace Rl
open Kc (tab IsTab)
theorem byte_inj {v u : Nat} (hv : v < 18446744073709551616) (hu : u < 18446744073709551616) (h : ∀ j, j < 8 → byteOf v j = byteOf u j) : v = u := by
  apply Nat.eq_of_testBit_eq
  intro i
  by_cases hi : i < 64
  · have h1 := congrArg (fun x => x.testBit (i % 8)) (h (7 - i / 8) (by omega))
    simp only [byteOf] at h1
    rw [show (256 : Nat) = 2 ^ 8 by decide, Nat.testBit_mod_two_pow, Nat.testBit_mod_two_pow, Nat.testBit_div_two_pow, Nat.testBit_div_two_pow] at h1
    rw [show i % 8 + (56 - 8 * (7 - i / 8)) = i by omega, decide_eq_true (show i % 8 < 8 by omega)] at h1
    simpa using h1
  · rw [Nat.testBit_lt_two_pow (Nat.lt_of_lt_of_le hv (by rw [show (18446744073709551616 : Nat) = 2 ^ 64 by decide]; exact Nat.pow_le_pow_right (by decide) (by omega))),
      Nat.testBit_lt_two_pow (Nat.lt_of_lt_of_le hu (by rw [show (18446744073709551616 : Nat) = 2 ^ 64 by decide]; exact Nat.pow_le_pow_right (by decide) (by omega)))]
/-- Are six numbers the same? -/
def same6 (f g : Nat → Nat) : Bool := f 0 == g 0 && (f 1 == g 1 && (f 2 == g 2 && (f 3 == g 3 && (f 4 == g 4 && f 5 == g 5))))
theorem same6_iff {f g : Nat → Nat} : same6 f g = true ↔ ∀ i, i < 6 → f i = g i := by
  unfold same6
  simp only [Bool.and_eq_true, beq_iff_eq]
  constructor
  · rintro ⟨h0, h1, h2, h3, h4, h5⟩ i hi
    match i, hi with
    | 0, _ => exact h0
    | 1, _ => exact h1
    | 2, _ => exact h2
    | 3, _ => exact h3
    | 4, _ => exact h4
    | 5, _ => exact h5
  · exact fun h => ⟨h 0 (by decide), h 1 (by decide), h 2 (by decide), h 3 (by decide), h 4 (by decide), h 5 (by decide)⟩
def sameR (f g : Nat → Nat) : Bool := (List.range 64).all fun i => (recB f i : Int) == (recB g i : Int)
theorem sameR_eq {f g : Nat → Nat} (hf : ∀ i, i < 6 → f i < 18446744073709551616) (hg : ∀ i, i < 6 → g i < 18446744073709551616) : sameR f g = same6 f g := by
  rw [Bool.eq_iff_iff, same6_iff]
  unfold sameR
  rw [List.all_eq_true]
  constructor
  · intro h i hi
    refine byte_inj (hf i hi) (hg i hi) fun j hj => ?_
    have h1 := h (8 * (i + 1) + j) (List.mem_range.2 (by omega))
    have h2 : recB f (8 * (i + 1) + j) = recB g (8 * (i + 1) + j) := Int.ofNat_inj.1 (by simpa using h1)
    unfold recB wordAt at h2
    rw [show (8 * (i + 1) + j) / 8 = i + 1 by omega, show (8 * (i + 1) + j) % 8 = j by omega, if_neg (by omega), if_pos (by omega), if_neg (by omega), if_pos (by omega), Nat.add_sub_cancel] at h2
    exact h2
  · intro h i hi
    have hi := List.mem_range.1 hi
    have : recB f i = recB g i := by
      unfold recB wordAt
      by_cases h0 : i / 8 = 0
      · rw [if_pos h0, if_pos h0]
      · rw [if_neg h0, if_neg h0]
        by_cases h6 : i / 8 ≤ 6
        · rw [if_pos h6, if_pos h6, h (i / 8 - 1) (by omega)]
        · rw [if_neg h6, if_neg h6]
    rw [this]; simp
theorem eqlR (f g : Nat → Nat) (w : World) : (binOp .eql 32 (recV f) (recV g)).run Tryd.prog w = .ok (.bool (sameR f g)) w :=
  Kc.run_eql_tab w _ _ 64 .u8 undP5 Kc.undU8 Kc.sizeU8 _ _
theorem guardR (x y : Operand) (f g : Nat → Nat) (w : World) : (eqGuard .eql 32 x y (recV f) (recV g)).run Tryd.prog w = .ok () w := by kernel_rfl
theorem txB_inj {f g : Nat → Nat} (hf : txOk f = true ∧ ∀ i, i < 6 → f i < 18446744073709551616) (hg : txOk g = true ∧ ∀ i, i < 6 → g i < 18446744073709551616) (h : txB f = txB g) : same6 f g = true := by
  obtain ⟨a, ha, ha2⟩ := txd_txB hf.2 hf.1
  obtain ⟨b, hb, hb2⟩ := txd_txB hg.2 hg.1
  rw [h, hb] at ha
  injection ha with ha
  subst ha
  exact same6_iff.2 fun i hi => (ha2 i hi).symm.trans (hb2 i hi)
section
variable {P : Program} {ops : Array Oper} {C : World → Prop}
theorem wpQuiet_ld4 {Q : Act → Prop} {a : Act} {o : Oper} {rest : List Oper} (ty : TypeId) (x : Operand) (p v : Value) (hw : Region.wanted o (yielded ops a.tmps) = true) (ho : o.op = .load ty x) (hx : a.eval x = p)
    (hl : ∀ w, C w → (Instr.loadAt ty p).run P w = .ok v w) (h : wpQuiet P ops C Q rest (a.put o.dst v)) : wpQuiet P ops C Q (o :: rest) a := by
  unfold wpQuiet
  rw [hw, if_pos rfl]
  refine ⟨v, fun w hw => ?_, h⟩
  unfold Oper.quietAt execOp
  simp only [ho, hx]
  simp [hl w hw, Oper.quietUpon, Result.andThen]
theorem wpQuiet_cv4 {Q : Act → Prop} {a : Act} {o : Oper} {rest : List Oper} (src dst : TypeId) (x : Operand) (V v : Value) (hw : Region.wanted o (yielded ops a.tmps) = true) (ho : o.op = .convert src dst x) (hx : a.eval x = V)
    (hl : ∀ w, C w → (convert src dst V).run P w = .ok v w) (h : wpQuiet P ops C Q rest (a.put o.dst v)) : wpQuiet P ops C Q (o :: rest) a := by
  unfold wpQuiet
  rw [hw, if_pos rfl]
  refine ⟨v, fun w hw => ?_, h⟩
  unfold Oper.quietAt execOp
  simp only [ho, hx]
  simp [hl w hw, Oper.quietUpon, Result.andThen]
end
theorem wpList_ld4 {P : Program} {ops : Array Oper} {rest : List Oper} {op : Oper} {a : Act} {w : World} {Q : Exit → Act → World → Prop} (hgd : op.guard = none) (ty : TypeId) (x : Operand) (ho : op.op = .load ty x) (p v : Value) (hx : a.eval x = p) (hl : (Instr.loadAt ty p).run P w = .ok v w)
    (h : wpList P ops Q rest (a.put op.dst v) w) : wpList P ops Q (op :: rest) a w :=
  wpList_plain hgd fun _ hK => by
    unfold Oper.wp execOp
    simp only [ho, hx]
    simp [hl]
    exact hK _ _ h
theorem load_tx {w : World} {q : Nat} {f : Nat → Nat} (h : ∀ i, i < 6 → w.cell? ⟨q, i, none⟩ = some (.int .u64 (f i))) : (Instr.loadAt 36 (.pointer (some ⟨q, 0, none⟩))).run Tryd.prog w = .ok (txv f) w := by
  have z0 := h 0 (by decide)
  have z1 := h 1 (by decide)
  have z2 := h 2 (by decide)
  have z3 := h 3 (by decide)
  have z4 := h 4 (by decide)
  have z5 := h 5 (by decide)
  simp [go_sem, z0, z1, z2, z3, z4, z5]
theorem eqlT (f g : Nat → Nat) (w : World) : (binOp .eql 36 (txv f) (txv g)).run Tryd.prog w = .ok (.bool (same6 f g)) w := by
  unfold same6
  by_cases h0 : f 0 = g 0
  · by_cases h1 : f 1 = g 1
    · by_cases h2 : f 2 = g 2
      · by_cases h3 : f 3 = g 3
        · by_cases h4 : f 4 = g 4
          · by_cases h5 : f 5 = g 5
            · simp [go_sem, h0, h1, h2, h3, h4, h5]
            · have n : ¬ ((f 5 : Nat) : Int) = ((g 5 : Nat) : Int) := fun e => h5 (Int.ofNat_inj.1 e)
              simp [go_sem, h0, h1, h2, h3, h4, h5, n]
          · have n : ¬ ((f 4 : Nat) : Int) = ((g 4 : Nat) : Int) := fun e => h4 (Int.ofNat_inj.1 e)
            simp [go_sem, h0, h1, h2, h3, h4, n]
        · have n : ¬ ((f 3 : Nat) : Int) = ((g 3 : Nat) : Int) := fun e => h3 (Int.ofNat_inj.1 e)
          simp [go_sem, h0, h1, h2, h3, n]
      · have n : ¬ ((f 2 : Nat) : Int) = ((g 2 : Nat) : Int) := fun e => h2 (Int.ofNat_inj.1 e)
        simp [go_sem, h0, h1, h2, n]
    · have n : ¬ ((f 1 : Nat) : Int) = ((g 1 : Nat) : Int) := fun e => h1 (Int.ofNat_inj.1 e)
      simp [go_sem, h0, h1, n]
  · have n : ¬ ((f 0 : Nat) : Int) = ((g 0 : Nat) : Int) := fun e => h0 (Int.ofNat_inj.1 e)
    simp [go_sem, h0, n]
theorem guardT (x y : Operand) (f g : Nat → Nat) (w : World) : (eqGuard .eql 36 x y (txv f) (txv g)).run Tryd.prog w = .ok () w := by kernel_rfl
end Rl
end Go.Proofs.YtkhdamjjbjmeaaaDoor
