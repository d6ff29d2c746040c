/-
  mootlaw04.wrong; TxCodes. Own work.
-/
import Derived.Test.YtkhdamjjbjmeaaaDoorEqt
import Derived.Test.YtkhdamjjbjmeaaaDoorVe
import Derived.Test.YtkhdamjjbjmeaaaDoorVf
import Derived.Test.YtkhdamjjbjmeaaaDoorTxi
import Derived.Test.YtkhdamjjbjmeaaaDoorWhy
namespace Go.Proofs.YtkhdamjjbjmeaaaDoor
open Go.ChangeShapes Go.WideShapes Go.Deep Go.RowKit
set_option linter.unusedVariables false
set_option linter.unusedSimpArgs false
namespace Rl
set_option maxHeartbeats 2000000 in
set_option maxRecDepth 100000 in
theorem wrong4_true (y : World) (er : Value) (A K B : Int) (hW : Calls Tryd.prog 41 #[er] y fun e w' => e = .returned (.tuple #[.int .i64 K, .int .i64 B]) ∧ Below y.heap.size y w') (h : K = 0 ∨ B = A) :
    Calls Tryd.prog 16 #[er, .int .i64 A, .int .i64 K] y fun e w' => e = .returned (.bool true) ∧ Below y.heap.size y w' := by
  have HW := Lib.hid hW
  clear hW
  by_cases h0 : K = 0
  · subst h0
    clear h
    go_enter Tryd.func16, Tryd.ntmps16
    go_wp2_with (go_at_call 41; (with_reducible refine HW.out.mono ?_); rintro e y1 ⟨rfl, hb⟩; have H1 := Lib.hid hb; clear hb)
    go_ret
    exact ⟨rfl, H1.out⟩
  · obtain rfl : B = A := h.resolve_left h0
    have hk : (K == 0) = false := by simpa using h0
    clear h h0
    go_enter Tryd.func16, Tryd.ntmps16
    go_wp2_with (go_at_call 41; (with_reducible refine HW.out.mono ?_); rintro e y1 ⟨rfl, hb⟩; have H1 := Lib.hid hb; clear hb)
    go_ret
    exact ⟨rfl, H1.out⟩
/-- Why of nil, of a number. -/
theorem why_nil4 (y : World) : Calls Tryd.prog 41 #[.nilIface] y fun e w' => e = .returned (.tuple #[.int .i64 0, .int .i64 (-1)]) ∧ Below y.heap.size y w' := by
  refine (why_nil y).mono ?_
  rintro e w' ⟨h1, rfl⟩
  exact ⟨h1, Below.refl _ _⟩
/-- What the reference answers, in parts. -/
def rF : TxR → Nat → Nat
  | .ok f => f
  | _ => zf
def rA : TxR → Int
  | .flt p _ => p
  | _ => -1
def rK : TxR → Int
  | .flt _ k => k
  | .num k => k
  | .ok _ => 0
theorem rtx_eq {t : TxR} {e : Ending} (h : rtxOut t e) : e = .returned (.tuple #[txv (rF t), .int .i64 (rA t), .int .i64 (rK t)]) := by
  cases t <;> exact h
/-- An error that the reference's answer tells. -/
def Tells (w : World) (er : Value) (A K : Int) : Prop := ∀ y, Below w.heap.size w y → Et y → Calls Tryd.prog 16 #[er, .int .i64 A, .int .i64 K] y fun e w' => e = .returned (.bool true) ∧ Below y.heap.size y w'
theorem Tells.next {w w' : World} {er : Value} {A K : Int} (h : Tells w er A K) (hb : Below w.heap.size w w') : Tells w' er A K := fun y h2 hE => h y (bl hb h2) hE
theorem tells_nil (w : World) (A : Int) : Tells w .nilIface A 0 := fun y _ _ => wrong4_true y _ A 0 (-1) (why_nil4 y) (.inl rfl)
theorem tells_num (w : World) (k : Int) : Tells w (eN k) (-1) k := fun y _ hE => wrong4_true y _ (-1) k (-1) (why_num k y hE) (.inr rfl)
theorem tells_flt {B : Nat} {w : World} {p : Nat} {k : Int} {v : Value} (h : IsFlt B w p k v) : Tells w v p k := fun y hb hE => by
  obtain ⟨q, rfl, _, h1, h2⟩ := h
  exact wrong4_true y _ p k p (why_flt y q p k hE (keep1 hb h1) (keep1 hb h2)) (.inr rfl)
theorem txDecode_tells (w : World) (a : Option Addr) (n c : Nat) (bs : List Bt) (hB : IsB w a n c bs) :
    Calls Tryd.prog 14 #[.slice a n c] w fun r w' => (∃ er, r = .returned (.tuple #[txv (rF (txd bs)), er]) ∧ Tells w' er (rA (txd bs)) (rK (txd bs))) ∧ Below w.heap.size w w' := by
  refine (txDecode_walk w a n c bs hB).mono ?_
  rintro r w' ⟨h, hb⟩
  refine ⟨?_, hb⟩
  cases hT : txd bs with
  | flt p k =>
    rw [hT] at h
    obtain ⟨v, h1, h2⟩ := h
    exact ⟨v, h1, tells_flt h2⟩
  | num k =>
    rw [hT] at h
    exact ⟨_, h, tells_num w' k⟩
  | ok f =>
    rw [hT] at h
    exact ⟨_, h, tells_nil w' (-1)⟩
theorem txEncode_tells (w : World) (f : Nat → Nat) (hf : ∀ i, i < 6 → f i < 18446744073709551616) :
    Calls Tryd.prog 12 #[txv f] w fun e w' => (∃ a c er, e = .returned (.tuple #[.slice a (if txOk f then txB f else []).length c, er]) ∧ IsB w' a (if txOk f then txB f else []).length c (if txOk f then txB f else []) ∧ Tells w' er (-1) (if txOk f then 0 else 2)) ∧ Below w.heap.size w w' := by
  refine (txEncode_walk w f hf).mono ?_
  rintro r w' ⟨V, h1, h2, hb⟩
  obtain ⟨a, c, rfl, h3⟩ := h2.isB
  refine ⟨⟨a, c, _, h1, h3, ?_⟩, hb⟩
  by_cases h : txOk f = true
  · rw [if_pos h, if_pos h]; exact tells_nil w' (-1)
  · rw [if_neg h, if_neg h]; exact tells_num w' 2
theorem txREncode_is (w : World) (f : Nat → Nat) (hf : ∀ i, i < 6 → f i < 18446744073709551616) :
    Calls Tryd.prog 13 #[txv f] w fun e w' => (∃ a c, e = .returned (.tuple #[.slice a (if txOk f then txB f else []).length c, .int .i64 (if txOk f then 0 else 2)]) ∧ IsB w' a (if txOk f then txB f else []).length c (if txOk f then txB f else [])) ∧ Below w.heap.size w w' := by
  refine (txREncode_walk w f hf).mono ?_
  rintro r w' ⟨V, h1, h2, hb⟩
  obtain ⟨a, c, rfl, h3⟩ := h2.isB
  exact ⟨⟨a, c, h1, h3⟩, hb⟩
theorem txRDecode_is (w : World) (a : Option Addr) (n c : Nat) (bs : List Bt) (hB : IsB w a n c bs) :
    Calls Tryd.prog 15 #[.slice a n c] w fun r w' => r = .returned (.tuple #[txv (rF (txd bs)), .int .i64 (rA (txd bs)), .int .i64 (rK (txd bs))]) ∧ Below w.heap.size w w' := by
  refine (txRDecode_walk w a n c bs hB).mono ?_
  rintro r w' ⟨h, hb⟩
  exact ⟨rtx_eq h, hb⟩
theorem eqlT_refl (f : Nat → Nat) (w : World) : (binOp .eql 36 (txv f) (txv f)).run Tryd.prog w = .ok (.bool true) w := by
  rw [eqlT, same6_iff.2 fun i _ => rfl]
theorem eqlR_refl (f : Nat → Nat) (w : World) : (binOp .eql 32 (recV f) (recV f)).run Tryd.prog w = .ok (.bool true) w := by
  rw [eqlR]; unfold sameR; simp
theorem blq {w y0 y : World} {q : Nat} (hq : w.heap.size = q) (h0 : Below q w y0) (h1 : Below y0.heap.size y0 y) : Below w.heap.size w y := by subst hq; exact bl h0 h1
set_option maxHeartbeats 4000000 in
set_option maxRecDepth 100000 in
theorem txCodes_walk (w : World) (f : Nat → Nat) (a : Option Addr) (n c : Nat) (bs : List Bt) (hf : ∀ i, i < 6 → f i < 18446744073709551616) (hB : IsB w a n c bs) (hm : n ≤ reachBytes) (hg : Et w) :
    Calls Tryd.prog 4 #[txv f, .slice a n c] w fun e w' => e = .returned (.bool true) ∧ Below w.heap.size w w' := by
  have HEN := Lib.hid (fun y => txEncode_tells y f hf)
  have HREN := Lib.hid (fun y => txREncode_is y f hf)
  have HRC := Lib.hid (fun y => record_walk y f hf)
  have HRRC := Lib.hid (fun y => rrecord_walk y f)
  have HD := Lib.hid (fun y a n c (h : IsB y a n c bs) => txDecode_tells y a n c bs h)
  have HRD := Lib.hid (fun y a n c (h : IsB y a n c bs) => txRDecode_is y a n c bs h)
  have HBB := Lib.hid hB
  have HG := Lib.hid hg
  have HM := Lib.hid (show ([] : List Bt).length + bs.length ≤ 140737488355328 by have := hB.1; simp only [reachBytes] at hm; simp; omega)
  have HLB := Lib.hid hB.1
  have C0 := Lib.hid (txo_at w f)
  have H0 := Lib.hid (ba w (txo f))
  have G1 := Lib.hid (fun x y u => guardT x y (rF (txd bs)) (rF (txd bs)) u)
  have G2 := Lib.hid (fun x y u => guardR x y f f u)
  have E1 := Lib.hid (fun u => eqlT_refl (rF (txd bs)) u)
  have E2 := Lib.hid (fun u => eqlR_refl f u)
  have L0 : Hid (∀ y, Below (w.alloc (txo f)).heap.size (w.alloc (txo f)) y → (Instr.loadAt 36 (.pointer (some ⟨w.heap.size, 0, none⟩))).run Tryd.prog y = .ok (txv f) y) := Lib.hid fun y h => load_tx fun i hi => keep1 h (C0.out i hi)
  clear hf hB hm hg
  generalize (if txOk f then txB f else []) = X at *
  generalize (if txOk f then (0 : Int) else 2) = K1 at *
  generalize txd bs = TD at *
  generalize rA TD = A2 at *
  generalize rK TD = K2 at *
  go_enter Tryd.func4, Tryd.ntmps4
  go_upto_region 1 with (fail)
  have H0 : Hid (Below w.heap.size w (w.alloc (txo f))) := H0
  generalize w.alloc (txo f) = y0 at *
  generalize hq0 : w.heap.size = q0 at *
  have HQ0 := Lib.hid hq0
  clear hq0 C0
  generalize txv f = T at *
  generalize recV f = R1 at *
  generalize rF TD = F at *
  have l0 := L0.out y0 (Below.refl _ _)
  go_upto_region 2 with (first
    | (with_reducible refine wpList_ld4 rfl 36 (.tmp 2) rfl (.pointer (some ⟨q0, 0, none⟩)) T rfl l0 ?_)
    | (go_at_call 12; (with_reducible refine (HEN.out _).mono ?_); rintro e y1 ⟨⟨a1, c1, er1, rfl, hX1, hT1⟩, hb⟩
       have B1 := Lib.hid hb
       have X1 := Lib.hid hX1
       have T1 := Lib.hid hT1
       clear hb hX1 hT1 l0 HEN))
  have l1 := L0.out y1 B1.out
  go_upto_region 3 with (first
    | (with_reducible refine wpList_ld4 rfl 36 (.tmp 2) rfl (.pointer (some ⟨q0, 0, none⟩)) T rfl l1 ?_)
    | (go_at_call 13; (with_reducible refine (HREN.out _).mono ?_); rintro e y2 ⟨⟨a2, c2, rfl, hX2⟩, hb⟩
       have B2 := Lib.hid (bl B1.out hb)
       have X2 := Lib.hid (And.intro (X1.out.keep (keep_below hb)) hX2)
       have T2 := Lib.hid (T1.out.next hb)
       clear hb hX2 l1 HREN X1 T1 B1))
  have HO0 := Lib.hid (own_none y2 y2.heap.size (Nat.le_refl _))
  have HB0 := Lib.hid (ba y2 (.cells #[] 5))
  have HBW := Lib.hid (show IsB (y2.alloc (.cells #[] 5)) a n c bs from HBB.out.keep (keep_below (bl (blq HQ0.out H0.out B2.out) HB0.out)))
  go_upto_region 6 with (first
    | (refine wpList_appW rfl (.tmp 25) (.tmp 26) rfl y2.heap.size _ [] rfl HO0.out a n c bs rfl HBW.out HM.out HB0.out.size ?_
       intro V3 y3 hO hgr hat
       rw [List.nil_append] at hO
       obtain ⟨a3, c3, rfl, hB3⟩ := hO.isB
       have h23 : Below y2.heap.size y2 y3 := HB0.out.grown hgr HB0.out.size (fun k hk => by cases hk; exact Nat.le_refl _)
       have B3 := Lib.hid (bl B2.out h23)
       have X3 := Lib.hid (And.intro (X2.out.1.keep (keep_below h23)) (And.intro (X2.out.2.keep (keep_below h23)) hB3))
       have T3 := Lib.hid (T2.out.next h23)
       clear hO hgr hat hB3 h23 X2 T2 B2 HO0 HB0 HBW)
    | (go_at_call 14; (with_reducible refine (HD.out _ _ _ _ X3.out.2.2).mono ?_); rintro e y4 ⟨⟨er2, rfl, hT4⟩, hb⟩
       have hbb := bl hb (ba y4 (txo F))
       have B5 := Lib.hid (bl B3.out hbb)
       have X5 := Lib.hid (And.intro (X3.out.1.keep (keep_below hbb)) (And.intro (X3.out.2.1.keep (keep_below hbb)) (X3.out.2.2.keep (keep_below hbb))))
       have T5 := Lib.hid (And.intro (T3.out.next hbb) (hT4.next (ba y4 (txo F))))
       have C5 := Lib.hid (txo_at y4 F)
       have HB5 := Lib.hid (HBB.out.keep (keep_below (blq HQ0.out H0.out B5.out)))
       clear hb hbb hT4 X3 T3 B3 HD)
    | (go_at_call 15; (with_reducible refine (HRD.out _ _ _ _ HB5.out).mono ?_); rintro e y6 ⟨rfl, hb⟩
       have hbb := bl hb (ba y6 (txo F))
       have B7 := Lib.hid (bl B5.out hbb)
       have X7 := Lib.hid (And.intro (X5.out.1.keep (keep_below hbb)) (And.intro (X5.out.2.1.keep (keep_below hbb)) (And.intro (X5.out.2.2.keep (keep_below hbb)) (HB5.out.keep (keep_below hbb)))))
       have T7 := Lib.hid (And.intro (T5.out.1.next hbb) (T5.out.2.next hbb))
       have C7 := Lib.hid (And.intro (fun i hi => keep1 hbb (C5.out i hi)) (txo_at y6 F))
       clear hb hbb HB5 X5 T5 B5 C5 HRD))
  have C7 : Hid ((∀ i, i < 6 → (y6.alloc (txo F)).cell? ⟨y4.heap.size, i, none⟩ = some (.int .u64 (F i))) ∧ ∀ i, i < 6 → (y6.alloc (txo F)).cell? ⟨y6.heap.size, i, none⟩ = some (.int .u64 (F i))) := C7
  generalize y6.alloc (txo F) = y7 at *
  generalize y6.heap.size = q12 at *
  generalize y4.heap.size = q10 at *
  have s0 : Below y7.heap.size y7 y7.drew := (Below.refl _ _).drew
  have NE : Nonempty (Wd (Below y7.heap.size y7)) := ⟨⟨_, s0⟩⟩
  have S0 := Lib.hid s0
  have HEt := Lib.hid (HG.out.next (blq HQ0.out H0.out B7.out))
  have Q1 := Lib.hid (fun s : Wd (Below y7.heap.size y7) => in_of_below s (fun y hb => bl s.ok hb) (fixed4_walk s.val))
  have Q2 := Lib.hid (fun s : Wd (Below y7.heap.size y7) => in_of_below s (fun y hb => bl s.ok hb) (T7.out.1 s.val s.ok (HEt.out.next s.ok)))
  have Q3 := Lib.hid (fun s : Wd (Below y7.heap.size y7) => in_of_below s (fun y hb => bl s.ok hb) (T7.out.2 s.val s.ok (HEt.out.next s.ok)))
  have Q4 := Lib.hid (fun s : Wd (Below y7.heap.size y7) => in_of_below s (fun y hb => bl s.ok hb) (HRC.out s.val))
  have Q5 := Lib.hid (fun s : Wd (Below y7.heap.size y7) => in_of_below s (fun y hb => bl s.ok hb) (HRRC.out s.val))
  have M0 := Lib.hid (fun (y : World) (h : ∃ s : Wd (Below y7.heap.size y7), y = s.val) => L0.out y (by obtain ⟨s, rfl⟩ := h; exact bl B7.out s.ok))
  have v1 : ∀ s : Wd (Below y7.heap.size y7), (convert 38 9 (.slice a1 X.length c1)).run Tryd.prog s.val = .ok (.string (str X)) s.val := fun s => conv_str (X7.out.1.keep (keep_below s.ok))
  have v2 : ∀ s : Wd (Below y7.heap.size y7), (convert 38 9 (.slice a2 X.length c2)).run Tryd.prog s.val = .ok (.string (str X)) s.val := fun s => conv_str (X7.out.2.1.keep (keep_below s.ok))
  have v3 : ∀ s : Wd (Below y7.heap.size y7), (convert 38 9 (.slice a3 bs.length c3)).run Tryd.prog s.val = .ok (.string (str bs)) s.val := fun s => conv_str (X7.out.2.2.1.keep (keep_below s.ok))
  have v4 : ∀ s : Wd (Below y7.heap.size y7), (convert 38 9 (.slice a n c)).run Tryd.prog s.val = .ok (.string (str bs)) s.val := fun s => conv_str (by have := X7.out.2.2.2.keep (keep_below s.ok); rw [HLB.out] at this ⊢; exact this)
  have g2 := G2.out
  have e2 := E2.out
  have j0 : ∀ s : Wd (Below y7.heap.size y7), s.val.cell? ⟨q10, 0, none⟩ = some (.int .u64 (F 0)) := fun s => keep1 s.ok (C7.out.1 0 (by decide))
  have j1 : ∀ s : Wd (Below y7.heap.size y7), s.val.cell? ⟨q10, 1, none⟩ = some (.int .u64 (F 1)) := fun s => keep1 s.ok (C7.out.1 1 (by decide))
  have j2 : ∀ s : Wd (Below y7.heap.size y7), s.val.cell? ⟨q10, 2, none⟩ = some (.int .u64 (F 2)) := fun s => keep1 s.ok (C7.out.1 2 (by decide))
  have j3 : ∀ s : Wd (Below y7.heap.size y7), s.val.cell? ⟨q10, 3, none⟩ = some (.int .u64 (F 3)) := fun s => keep1 s.ok (C7.out.1 3 (by decide))
  have j4 : ∀ s : Wd (Below y7.heap.size y7), s.val.cell? ⟨q10, 4, none⟩ = some (.int .u64 (F 4)) := fun s => keep1 s.ok (C7.out.1 4 (by decide))
  have j5 : ∀ s : Wd (Below y7.heap.size y7), s.val.cell? ⟨q10, 5, none⟩ = some (.int .u64 (F 5)) := fun s => keep1 s.ok (C7.out.1 5 (by decide))
  have k0 : ∀ s : Wd (Below y7.heap.size y7), s.val.cell? ⟨q12, 0, none⟩ = some (.int .u64 (F 0)) := fun s => keep1 s.ok (C7.out.2 0 (by decide))
  have k1 : ∀ s : Wd (Below y7.heap.size y7), s.val.cell? ⟨q12, 1, none⟩ = some (.int .u64 (F 1)) := fun s => keep1 s.ok (C7.out.2 1 (by decide))
  have k2 : ∀ s : Wd (Below y7.heap.size y7), s.val.cell? ⟨q12, 2, none⟩ = some (.int .u64 (F 2)) := fun s => keep1 s.ok (C7.out.2 2 (by decide))
  have k3 : ∀ s : Wd (Below y7.heap.size y7), s.val.cell? ⟨q12, 3, none⟩ = some (.int .u64 (F 3)) := fun s => keep1 s.ok (C7.out.2 3 (by decide))
  have k4 : ∀ s : Wd (Below y7.heap.size y7), s.val.cell? ⟨q12, 4, none⟩ = some (.int .u64 (F 4)) := fun s => keep1 s.ok (C7.out.2 4 (by decide))
  have k5 : ∀ s : Wd (Below y7.heap.size y7), s.val.cell? ⟨q12, 5, none⟩ = some (.int .u64 (F 5)) := fun s => keep1 s.ok (C7.out.2 5 (by decide))
  generalize str X = sX at *
  generalize str bs = sB at *
  clear s0
  refine wp_region_in (Below y7.heap.size y7) (by kernel_rfl) (by kernel_rfl) S0.out ?_
  repeat (first
    | (refine wpQuiet_ld4 36 _ (.pointer (some ⟨q0, 0, none⟩)) _ (by rfl) rfl rfl M0.out ?_; simp only [Act.put, List.setIfInBounds_toArray, List.set_cons_zero, List.set_cons_succ])
    | (go_big_quiet_step (first | with_reducible exact Q1.out _ | with_reducible exact Q2.out _ | with_reducible exact Q3.out _ | with_reducible exact Q4.out _ | with_reducible exact Q5.out _)))
  refine wpQuiet_nil ?_
  rintro y ⟨⟨_, hby⟩, rfl⟩
  have HY := Lib.hid (blq HQ0.out H0.out (bl B7.out hby))
  clear hby v1 v2 v3 v4 g2 e2 j0 j1 j2 j3 j4 j5 k0 k1 k2 k3 k4 k5 NE
  go_wp2_with (fail)
  go_ret
  exact ⟨rfl, HY.out⟩
end Rl
end Go.Proofs.YtkhdamjjbjmeaaaDoor
