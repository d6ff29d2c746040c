/-
  TxApart. Own work.
-/
import Derived.Test.YtkhdamjjbjmeaaaRec
import Derived.Test.YtkhdamjjbjmeaaaV6
import Derived.Test.YtkhdamjjbjmeaaaQin
import Derived.Laws.StructEq
namespace Go.Proofs.Ytkhdamjjbjmeaaa
open Go.ChangeShapes Go.WideShapes Go.Deep Go.RowKit
set_option linter.unusedVariables false
set_option linter.unusedSimpArgs false
namespace Rl
open Kc (tab IsTab)
theorem byte_inj {v u : Nat} (hv : v < 18446744073709551616) (hu : u < 18446744073709551616) (h : ∀ j, j < 8 → byteOf v j = byteOf u j) : v = u := by
  apply Nat.eq_of_testBit_eq
  intro i
  by_cases hi : i < 64
  · have h1 := congrArg (fun x => x.testBit (i % 8)) (h (7 - i / 8) (by omega))
    simp only [byteOf] at h1
    rw [show (256 : Nat) = 2 ^ 8 by decide, Nat.testBit_mod_two_pow, Nat.testBit_mod_two_pow, Nat.testBit_div_two_pow, Nat.testBit_div_two_pow] at h1
    rw [show i % 8 + (56 - 8 * (7 - i / 8)) = i by omega, decide_eq_true (show i % 8 < 8 by omega)] at h1
    simpa using h1
  · rw [Nat.testBit_lt_two_pow (Nat.lt_of_lt_of_le hv (by rw [show (18446744073709551616 : Nat) = 2 ^ 64 by decide]; exact Nat.pow_le_pow_right (by decide) (by omega))),
      Nat.testBit_lt_two_pow (Nat.lt_of_lt_of_le hu (by rw [show (18446744073709551616 : Nat) = 2 ^ 64 by decide]; exact Nat.pow_le_pow_right (by decide) (by omega)))]
/-- Are six numbers the same? -/
def same6 (f g : Nat → Nat) : Bool := f 0 == g 0 && (f 1 == g 1 && (f 2 == g 2 && (f 3 == g 3 && (f 4 == g 4 && f 5 == g 5))))
theorem same6_iff {f g : Nat → Nat} : same6 f g = true ↔ ∀ i, i < 6 → f i = g i := by
  unfold same6
  simp only [Bool.and_eq_true, beq_iff_eq]
  constructor
  · rintro ⟨h0, h1, h2, h3, h4, h5⟩ i hi
    match i, hi with
    | 0, _ => exact h0
    | 1, _ => exact h1
    | 2, _ => exact h2
    | 3, _ => exact h3
    | 4, _ => exact h4
    | 5, _ => exact h5
  · exact fun h => ⟨h 0 (by decide), h 1 (by decide), h 2 (by decide), h 3 (by decide), h 4 (by decide), h 5 (by decide)⟩
def sameR (f g : Nat → Nat) : Bool := (List.range 64).all fun i => (recB f i : Int) == (recB g i : Int)
theorem sameR_eq {f g : Nat → Nat} (hf : ∀ i, i < 6 → f i < 18446744073709551616) (hg : ∀ i, i < 6 → g i < 18446744073709551616) : sameR f g = same6 f g := by
  rw [Bool.eq_iff_iff, same6_iff]
  unfold sameR
  rw [List.all_eq_true]
  constructor
  · intro h i hi
    refine byte_inj (hf i hi) (hg i hi) fun j hj => ?_
    have h1 := h (8 * (i + 1) + j) (List.mem_range.2 (by omega))
    have h2 : recB f (8 * (i + 1) + j) = recB g (8 * (i + 1) + j) := Int.ofNat_inj.1 (by simpa using h1)
    unfold recB wordAt at h2
    rw [show (8 * (i + 1) + j) / 8 = i + 1 by omega, show (8 * (i + 1) + j) % 8 = j by omega, if_neg (by omega), if_pos (by omega), if_neg (by omega), if_pos (by omega), Nat.add_sub_cancel] at h2
    exact h2
  · intro h i hi
    have hi := List.mem_range.1 hi
    have : recB f i = recB g i := by
      unfold recB wordAt
      by_cases h0 : i / 8 = 0
      · rw [if_pos h0, if_pos h0]
      · rw [if_neg h0, if_neg h0]
        by_cases h6 : i / 8 ≤ 6
        · rw [if_pos h6, if_pos h6, h (i / 8 - 1) (by omega)]
        · rw [if_neg h6, if_neg h6]
    rw [this]; simp
theorem eqlR (f g : Nat → Nat) (w : World) : (binOp .eql 31 (recV f) (recV g)).run Try.prog w = .ok (.bool (sameR f g)) w :=
  Kc.run_eql_tab w _ _ 64 .u8 undP5 Kc.undU8 Kc.sizeU8 _ _
theorem guardR (x y : Operand) (f g : Nat → Nat) (w : World) : (eqGuard .eql 31 x y (recV f) (recV g)).run Try.prog w = .ok () w := by kernel_rfl
theorem txB_inj {f g : Nat → Nat} (hf : txOk f = true ∧ ∀ i, i < 6 → f i < 18446744073709551616) (hg : txOk g = true ∧ ∀ i, i < 6 → g i < 18446744073709551616) (h : txB f = txB g) : same6 f g = true := by
  obtain ⟨a, ha, ha2⟩ := txd_txB hf.2 hf.1
  obtain ⟨b, hb, hb2⟩ := txd_txB hg.2 hg.1
  rw [h, hb] at ha
  injection ha with ha
  subst ha
  exact same6_iff.2 fun i hi => (ha2 i hi).symm.trans (hb2 i hi)
section
variable {P : Program} {ops : Array Oper} {C : World → Prop}
theorem wpQuiet_ld4 {Q : Act → Prop} {a : Act} {o : Oper} {rest : List Oper} (ty : TypeId) (x : Operand) (p v : Value) (hw : Region.wanted o (yielded ops a.tmps) = true) (ho : o.op = .load ty x) (hx : a.eval x = p)
    (hl : ∀ w, C w → (Instr.loadAt ty p).run P w = .ok v w) (h : wpQuiet P ops C Q rest (a.put o.dst v)) : wpQuiet P ops C Q (o :: rest) a := by
  unfold wpQuiet
  rw [hw, if_pos rfl]
  refine ⟨v, fun w hw => ?_, h⟩
  unfold Oper.quietAt execOp
  simp only [ho, hx]
  simp [hl w hw, Oper.quietUpon, Result.andThen]
theorem wpQuiet_cv4 {Q : Act → Prop} {a : Act} {o : Oper} {rest : List Oper} (src dst : TypeId) (x : Operand) (V v : Value) (hw : Region.wanted o (yielded ops a.tmps) = true) (ho : o.op = .convert src dst x) (hx : a.eval x = V)
    (hl : ∀ w, C w → (convert src dst V).run P w = .ok v w) (h : wpQuiet P ops C Q rest (a.put o.dst v)) : wpQuiet P ops C Q (o :: rest) a := by
  unfold wpQuiet
  rw [hw, if_pos rfl]
  refine ⟨v, fun w hw => ?_, h⟩
  unfold Oper.quietAt execOp
  simp only [ho, hx]
  simp [hl w hw, Oper.quietUpon, Result.andThen]
end
theorem wpList_ld4 {P : Program} {ops : Array Oper} {rest : List Oper} {op : Oper} {a : Act} {w : World} {Q : Exit → Act → World → Prop} (hgd : op.guard = none) (ty : TypeId) (x : Operand) (ho : op.op = .load ty x) (p v : Value) (hx : a.eval x = p) (hl : (Instr.loadAt ty p).run P w = .ok v w)
    (h : wpList P ops Q rest (a.put op.dst v) w) : wpList P ops Q (op :: rest) a w :=
  wpList_plain hgd fun _ hK => by
    unfold Oper.wp execOp
    simp only [ho, hx]
    simp [hl]
    exact hK _ _ h
theorem load_tx {w : World} {q : Nat} {f : Nat → Nat} (h : ∀ i, i < 6 → w.cell? ⟨q, i, none⟩ = some (.int .u64 (f i))) : (Instr.loadAt 24 (.pointer (some ⟨q, 0, none⟩))).run Try.prog w = .ok (txv f) w := by
  have z0 := h 0 (by decide)
  have z1 := h 1 (by decide)
  have z2 := h 2 (by decide)
  have z3 := h 3 (by decide)
  have z4 := h 4 (by decide)
  have z5 := h 5 (by decide)
  simp [go_sem, z0, z1, z2, z3, z4, z5]
theorem eqlT (f g : Nat → Nat) (w : World) : (binOp .eql 24 (txv f) (txv g)).run Try.prog w = .ok (.bool (same6 f g)) w := by
  unfold same6
  by_cases h0 : f 0 = g 0
  · by_cases h1 : f 1 = g 1
    · by_cases h2 : f 2 = g 2
      · by_cases h3 : f 3 = g 3
        · by_cases h4 : f 4 = g 4
          · by_cases h5 : f 5 = g 5
            · simp [go_sem, h0, h1, h2, h3, h4, h5]
            · have n : ¬ ((f 5 : Nat) : Int) = ((g 5 : Nat) : Int) := fun e => h5 (Int.ofNat_inj.1 e)
              simp [go_sem, h0, h1, h2, h3, h4, h5, n]
          · have n : ¬ ((f 4 : Nat) : Int) = ((g 4 : Nat) : Int) := fun e => h4 (Int.ofNat_inj.1 e)
            simp [go_sem, h0, h1, h2, h3, h4, n]
        · have n : ¬ ((f 3 : Nat) : Int) = ((g 3 : Nat) : Int) := fun e => h3 (Int.ofNat_inj.1 e)
          simp [go_sem, h0, h1, h2, h3, n]
      · have n : ¬ ((f 2 : Nat) : Int) = ((g 2 : Nat) : Int) := fun e => h2 (Int.ofNat_inj.1 e)
        simp [go_sem, h0, h1, h2, n]
    · have n : ¬ ((f 1 : Nat) : Int) = ((g 1 : Nat) : Int) := fun e => h1 (Int.ofNat_inj.1 e)
      simp [go_sem, h0, h1, n]
  · have n : ¬ ((f 0 : Nat) : Int) = ((g 0 : Nat) : Int) := fun e => h0 (Int.ofNat_inj.1 e)
    simp [go_sem, h0, n]
theorem guardT (x y : Operand) (f g : Nat → Nat) (w : World) : (eqGuard .eql 24 x y (txv f) (txv g)).run Try.prog w = .ok () w := by kernel_rfl
/-- Two boxes that hold transactions. -/
structure Ap (w : World) (q0 q1 : Nat) (f g : Nat → Nat) (y : World) : Prop where
  below : Below w.heap.size w y
  b0 : ∀ i, i < 6 → y.cell? ⟨q0, i, none⟩ = some (.int .u64 (f i))
  b1 : ∀ i, i < 6 → y.cell? ⟨q1, i, none⟩ = some (.int .u64 (g i))
theorem Ap.next {w y y' : World} {q0 q1 : Nat} {f g : Nat → Nat} (h : Ap w q0 q1 f g y) (hb : Below y.heap.size y y') : Ap w q0 q1 f g y' := ⟨bl h.below hb, fun i hi => keep1 hb (h.b0 i hi), fun i hi => keep1 hb (h.b1 i hi)⟩
/-- The same, and two texts. -/
structure Aq (w : World) (q0 q1 : Nat) (f g : Nat → Nat) (a1 : Option Addr) (c1 : Nat) (X1 : List Bt) (a2 : Option Addr) (c2 : Nat) (X2 : List Bt) (y : World) : Prop where
  ap : Ap w q0 q1 f g y
  t1 : IsB y a1 X1.length c1 X1
  t2 : IsB y a2 X2.length c2 X2
theorem Aq.next {w y y' : World} {q0 q1 : Nat} {f g : Nat → Nat} {a1 a2 : Option Addr} {c1 c2 : Nat} {X1 X2 : List Bt} (h : Aq w q0 q1 f g a1 c1 X1 a2 c2 X2 y) (hb : Below y.heap.size y y') : Aq w q0 q1 f g a1 c1 X1 a2 c2 X2 y' :=
  ⟨h.ap.next hb, h.t1.keep (keep_below hb), h.t2.keep (keep_below hb)⟩
set_option maxHeartbeats 2000000 in
set_option maxRecDepth 100000 in
theorem txApart_walk (w : World) (f g : Nat → Nat) (hf : ∀ i, i < 6 → f i < 18446744073709551616) (hg : ∀ i, i < 6 → g i < 18446744073709551616) :
    Calls Try.prog 3 #[txv f, txv g] w fun e w' => e = .returned (.bool true) ∧ Below w.heap.size w w' := by
  have HEF := Lib.hid (fun y => txEncode_walk y f hf)
  have HEG := Lib.hid (fun y => txEncode_walk y g hg)
  have HRF := Lib.hid (fun y => record_walk y f hf)
  have HRG := Lib.hid (fun y => record_walk y g hg)
  have HAp : Hid (Ap w w.heap.size (w.heap.size + 1) f g ((w.alloc (txo f)).alloc (txo g))) := Lib.hid ⟨bl (ba w (txo f)) (ba (w.alloc (txo f)) (txo g)), fun i hi => keep1 (ba _ _) (txo_at w f i hi), fun i hi => by
    have := txo_at (w.alloc (txo f)) g i hi
    rwa [show (w.alloc (txo f)).heap.size = w.heap.size + 1 by simp] at this⟩
  have HSR := Lib.hid (sameR_eq hf hg)
  have HTX := Lib.hid (show txOk f = true → txOk g = true → (decide (txB f = txB g)) = same6 f g from fun h1 h2 => by
    by_cases h : txB f = txB g
    · rw [decide_eq_true h, txB_inj ⟨h1, hf⟩ ⟨h2, hg⟩ h]
    · rw [decide_eq_false h]
      cases hs : same6 f g with
      | false => rfl
      | true =>
        have h6 := same6_iff.1 hs
        refine absurd ?_ h
        unfold txB txL
        rw [List.map_congr_left (fun i hi => h6 i (List.mem_range.1 hi))])
  have HD1 := Lib.hid (show (txOk f = true ∧ (if txOk f = true then txB f else []) = txB f ∧ (if txOk f = true then Value.nilIface else eN 2) = .nilIface) ∨ ((if txOk f = true then txB f else []) = [] ∧ (if txOk f = true then Value.nilIface else eN 2) = .iface 55 (.int .i64 2)) by
    by_cases h : txOk f = true
    · rw [if_pos h, if_pos h]; exact .inl ⟨h, rfl, rfl⟩
    · rw [if_neg h, if_neg h]; exact .inr ⟨rfl, rfl⟩)
  have HD2 := Lib.hid (show (txOk g = true ∧ (if txOk g = true then txB g else []) = txB g ∧ (if txOk g = true then Value.nilIface else eN 2) = .nilIface) ∨ ((if txOk g = true then txB g else []) = [] ∧ (if txOk g = true then Value.nilIface else eN 2) = .iface 55 (.int .i64 2)) by
    by_cases h : txOk g = true
    · rw [if_pos h, if_pos h]; exact .inl ⟨h, rfl, rfl⟩
    · rw [if_neg h, if_neg h]; exact .inr ⟨rfl, rfl⟩)
  generalize (if txOk f = true then txB f else []) = X1 at *
  generalize (if txOk g = true then txB g else []) = X2 at *
  generalize (if txOk f = true then Value.nilIface else eN 2) = er1 at *
  generalize (if txOk g = true then Value.nilIface else eN 2) = er2 at *
  clear hf hg
  go_enter Try.func3, Try.ntmps3
  go_upto_region 1 with (fail)
  have HAp : Hid (Ap w w.heap.size (w.heap.size + 1) f g ((w.alloc (txo f)).alloc (txo g))) := HAp
  generalize (w.alloc (txo f)).alloc (txo g) = y0 at *
  generalize hq1 : w.heap.size + 1 = q1 at *
  generalize hq0 : w.heap.size = q0 at *
  have HQ := Lib.hid hq0
  clear hq0 hq1
  have L0 : Hid (∀ y, Ap w q0 q1 f g y → (Instr.loadAt 24 (.pointer (some ⟨q0, 0, none⟩))).run Try.prog y = .ok (txv f) y) := Lib.hid fun y h => load_tx h.b0
  have L1 : Hid (∀ y, Ap w q0 q1 f g y → (Instr.loadAt 24 (.pointer (some ⟨q1, 0, none⟩))).run Try.prog y = .ok (txv g) y) := Lib.hid fun y h => load_tx h.b1
  have e1 : ∀ u, (binOp .eql 24 (txv f) (txv g)).run Try.prog u = .ok (.bool (same6 f g)) u := eqlT f g
  have e2 : ∀ u, (binOp .eql 31 (recV f) (recV g)).run Try.prog u = .ok (.bool (same6 f g)) u := fun u => by rw [eqlR, HSR.out]
  have G1 := Lib.hid (fun x y u => guardT x y f g u)
  have G2 := Lib.hid (fun x y u => guardR x y f g u)
  have E1 := Lib.hid e1
  have E2 := Lib.hid e2
  clear e1 e2
  generalize same6 f g = S at *
  generalize txv f = T at *
  generalize txv g = U at *
  generalize recV f = R1 at *
  generalize recV g = R2 at *
  have l0 := L0.out _ HAp.out
  go_upto_region 2 with (first
    | (with_reducible refine wpList_ld4 rfl 24 (.tmp 2) rfl (.pointer (some ⟨q0, 0, none⟩)) T rfl l0 ?_)
    | (go_at_call 6; (with_reducible refine (HEF.out _).mono ?_); rintro e y1 ⟨V1, rfl, hO, hb⟩
       obtain ⟨a1, c1, rfl, hB1⟩ := hO.isB
       have HA1 := Lib.hid (HAp.out.next hb)
       have HB1 := Lib.hid hB1
       clear hb hO hB1 l0))
  have l1 := L1.out _ HA1.out
  go_upto_region 3 with (first
    | (with_reducible refine wpList_ld4 rfl 24 (.tmp 3) rfl (.pointer (some ⟨q1, 0, none⟩)) U rfl l1 ?_)
    | (go_at_call 6; (with_reducible refine (HEG.out _).mono ?_); rintro e y2 ⟨V2, rfl, hO, hb⟩
       obtain ⟨a2, c2, rfl, hB2⟩ := hO.isB
       have HA2 := Lib.hid (HA1.out.next hb)
       have HB2 := Lib.hid (And.intro (HB1.out.keep (keep_below hb)) hB2)
       clear hb hO hB2 l1 HB1))
  have HA2 := Lib.hid (show Aq w q0 q1 f g a1 c1 X1 a2 c2 X2 y2 from ⟨HA2.out, HB2.out.1, HB2.out.2⟩)
  clear HB2
  have NE : Nonempty (Wd (Aq w q0 q1 f g a1 c1 X1 a2 c2 X2)) := ⟨⟨_, HA2.out⟩⟩
  have Q1 : Hid (∀ s : Wd (Aq w q0 q1 f g a1 c1 X1 a2 c2 X2), _) := Lib.hid (fun s : Wd (Aq w q0 q1 f g a1 c1 X1 a2 c2 X2) => in_of_below s (fun y hb => s.ok.next hb) (HRF.out s.val))
  have Q2 : Hid (∀ s : Wd (Aq w q0 q1 f g a1 c1 X1 a2 c2 X2), _) := Lib.hid (fun s : Wd (Aq w q0 q1 f g a1 c1 X1 a2 c2 X2) => in_of_below s (fun y hb => s.ok.next hb) (HRG.out s.val))
  have Q3 : Hid (∀ s : Wd (Aq w q0 q1 f g a1 c1 X1 a2 c2 X2), _) := Lib.hid (fun s : Wd (Aq w q0 q1 f g a1 c1 X1 a2 c2 X2) => in_of_below s (fun y hb => s.ok.next hb) (fixed4_walk s.val))
  have HA3 : Hid (Aq w q0 q1 f g a1 c1 X1 a2 c2 X2 y2.drew) := Lib.hid (HA2.out.next (Below.refl _ _).drew)
  have M0 := Lib.hid (fun (y : World) (h : ∃ s : Wd (Aq w q0 q1 f g a1 c1 X1 a2 c2 X2), y = s.val) => L0.out y (by obtain ⟨s, rfl⟩ := h; exact s.ok.ap))
  have M1 := Lib.hid (fun (y : World) (h : ∃ s : Wd (Aq w q0 q1 f g a1 c1 X1 a2 c2 X2), y = s.val) => L1.out y (by obtain ⟨s, rfl⟩ := h; exact s.ok.ap))
  have e1 := E1.out
  have e2 := E2.out
  have g1 := G1.out
  have g2 := G2.out
  refine wp_region_in (Aq w q0 q1 f g a1 c1 X1 a2 c2 X2) (by kernel_rfl) (by kernel_rfl) HA3.out ?_
  repeat (first
    | (refine wpQuiet_ld4 24 _ (.pointer (some ⟨q0, 0, none⟩)) _ (by rfl) rfl rfl M0.out ?_; simp only [Act.put, List.setIfInBounds_toArray, List.set_cons_zero, List.set_cons_succ])
    | (refine wpQuiet_ld4 24 _ (.pointer (some ⟨q1, 0, none⟩)) _ (by rfl) rfl rfl M1.out ?_; simp only [Act.put, List.setIfInBounds_toArray, List.set_cons_zero, List.set_cons_succ])
    | (go_big_quiet_step (first | with_reducible exact Q1.out _ | with_reducible exact Q2.out _ | with_reducible exact Q3.out _)))
  refine wpQuiet_nil ?_
  rintro y ⟨⟨_, hAy⟩, rfl⟩
  have HA4 := Lib.hid hAy
  clear hAy e1 e2 g1 g2 Q1 Q2 Q3 M0 M1 NE HA3
  rcases HD1.out with ⟨h1, rfl, rfl⟩ | ⟨rfl, rfl⟩
  · rcases HD2.out with ⟨h2, rfl, rfl⟩ | ⟨rfl, rfl⟩
    · have HS := Lib.hid (HTX.out h1 h2)
      clear h1 h2 HEF HEG HTX HD1 HD2
      go_upto_region 5 with (fail)
      have NE : Nonempty (Wd (Aq w q0 q1 f g a1 c1 (txB f) a2 c2 (txB g))) := ⟨⟨_, HA4.out⟩⟩
      have HA5 : Hid (Aq w q0 q1 f g a1 c1 (txB f) a2 c2 (txB g) y.drew) := Lib.hid (HA4.out.next (Below.refl _ _).drew)
      have M0 := Lib.hid (fun (y : World) (h : ∃ s : Wd (Aq w q0 q1 f g a1 c1 (txB f) a2 c2 (txB g)), y = s.val) => L0.out y (by obtain ⟨s, rfl⟩ := h; exact s.ok.ap))
      have M1 := Lib.hid (fun (y : World) (h : ∃ s : Wd (Aq w q0 q1 f g a1 c1 (txB f) a2 c2 (txB g)), y = s.val) => L1.out y (by obtain ⟨s, rfl⟩ := h; exact s.ok.ap))
      have v1 : ∀ s : Wd (Aq w q0 q1 f g a1 c1 (txB f) a2 c2 (txB g)), (convert 25 9 (.slice a1 (txB f).length c1)).run Try.prog s.val = .ok (.string (str (txB f))) s.val := fun s => conv_str s.ok.t1
      have v2 : ∀ s : Wd (Aq w q0 q1 f g a1 c1 (txB f) a2 c2 (txB g)), (convert 25 9 (.slice a2 (txB g).length c2)).run Try.prog s.val = .ok (.string (str (txB g))) s.val := fun s => conv_str s.ok.t2
      have e3 : ((str (txB f)).toList == (str (txB g)).toList) = S := by rw [str_beq, HS.out]
      have e1 := E1.out
      have g1 := G1.out
      generalize str (txB f) = s1 at *
      generalize str (txB g) = s2 at *
      refine wp_region_in (Aq w q0 q1 f g a1 c1 (txB f) a2 c2 (txB g)) (by kernel_rfl) (by kernel_rfl) HA5.out ?_
      repeat (first
        | (refine wpQuiet_ld4 24 _ (.pointer (some ⟨q0, 0, none⟩)) _ (by rfl) rfl rfl M0.out ?_; simp only [Act.put, List.setIfInBounds_toArray, List.set_cons_zero, List.set_cons_succ])
        | (refine wpQuiet_ld4 24 _ (.pointer (some ⟨q1, 0, none⟩)) _ (by rfl) rfl rfl M1.out ?_; simp only [Act.put, List.setIfInBounds_toArray, List.set_cons_zero, List.set_cons_succ])
        | (go_big_quiet_step (fail)))
      refine wpQuiet_nil ?_
      rintro y6 ⟨⟨_, hAy⟩, rfl⟩
      have HA6 := Lib.hid hAy
      clear hAy NE HA5 v1 v2 e1 e3 g1
      go_wp2_with (fail)
      go_ret
      exact ⟨rfl, HA6.out.ap.below⟩
    · clear HEF HEG HTX HD1 HD2
      go_upto_region 5 with (fail)
      have NE : Nonempty (Wd (Aq w q0 q1 f g a1 c1 (txB f) a2 c2 [])) := ⟨⟨_, HA4.out⟩⟩
      have HA5 : Hid (Aq w q0 q1 f g a1 c1 (txB f) a2 c2 [] y.drew) := Lib.hid (HA4.out.next (Below.refl _ _).drew)
      refine wp_region_in (Aq w q0 q1 f g a1 c1 (txB f) a2 c2 []) (by kernel_rfl) (by kernel_rfl) HA5.out ?_
      repeat (go_big_quiet_step (fail))
      refine wpQuiet_nil ?_
      rintro y6 ⟨⟨_, hAy⟩, rfl⟩
      have HA6 := Lib.hid hAy
      clear hAy NE HA5
      go_wp2_with (fail)
      go_ret
      exact ⟨rfl, HA6.out.ap.below⟩
  · clear HEF HEG HTX HD1 HD2
    go_upto_region 5 with (fail)
    have NE : Nonempty (Wd (Aq w q0 q1 f g a1 c1 [] a2 c2 X2)) := ⟨⟨_, HA4.out⟩⟩
    have HA5 : Hid (Aq w q0 q1 f g a1 c1 [] a2 c2 X2 y.drew) := Lib.hid (HA4.out.next (Below.refl _ _).drew)
    refine wp_region_in (Aq w q0 q1 f g a1 c1 [] a2 c2 X2) (by kernel_rfl) (by kernel_rfl) HA5.out ?_
    repeat (go_big_quiet_step (fail))
    refine wpQuiet_nil ?_
    rintro y6 ⟨⟨_, hAy⟩, rfl⟩
    have HA6 := Lib.hid hAy
    clear hAy NE HA5
    go_wp2_with (fail)
    go_ret
    exact ⟨rfl, HA6.out.ap.below⟩
end Rl
end Go.Proofs.Ytkhdamjjbjmeaaa
