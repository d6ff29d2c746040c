/-
  mootref02.Turns, mootref02.Constants. Own work.
-/
import Derived.Test.YtnfcjangminhoaaDoorTab
import Derived.Test.YtnfcjangminhoaaDoorApp
import Derived.IntWalk
import Derived.WalkSmall
namespace Go.Proofs.YtnfcjangminhoaaDoor
open Go.RowKit
set_option linter.unusedVariables false
namespace Kc
/-- Where the place goes. -/
def xy : Nat → Nat × Nat
  | 0 => (1, 0)
  | t + 1 => ((xy t).2, (2 * (xy t).1 + 3 * (xy t).2) % 5)
/-- The turns of the first t places. -/
def trn : Nat → Nat → Nat
  | 0, _ => 0
  | t + 1, j => if j = (xy t).1 + 5 * (xy t).2 then (t + 1) * (t + 2) / 2 % 64 else trn t j
theorem xy_lt : ∀ t, (xy t).1 < 5 ∧ (xy t).2 < 5
  | 0 => by decide
  | t + 1 => ⟨(xy_lt t).2, by show (2 * (xy t).1 + 3 * (xy t).2) % 5 < 5; omega⟩
theorem trn_all : ∀ j, j < 25 → trn 24 j = turns.getD j 0 := by decide +kernel
theorem trn_val : ∀ t, t < 24 → (wrap64 ((wrap64 ((((t : Nat) : Int) + 1) * (((t : Nat) : Int) + 2))).tdiv 2)).tmod 64 = (((t + 1) * (t + 2) / 2 % 64 : Nat) : Int) := by decide +kernel
def tv (n : Nat) : Value := .int .i64 n
theorem made25 (w : World) : (Instr.makeSlice 114 (.int .i64 25) (.int .i64 25)).run Tryd.prog w = .ok (.slice (some ⟨w.heap.size, 0, none⟩) 25 25) (w.alloc (.cells (tab 25 fun _ => tv 0) 3)) := by kernel_rfl
set_option maxHeartbeats 4000000 in
set_option maxRecDepth 100000 in
theorem turns_walk (w : World) :
    Calls Tryd.prog 46 #[] w fun e w' => e = .returned (.slice (some ⟨w.heap.size, 0, none⟩) 25 25) ∧ IsTab w' w.heap.size 3 25 (fun j => tv (turns.getD j 0)) ∧ Below w.heap.size w w' := by
  have hmk := made25
  generalize hz : tab 25 (fun _ => tv 0) = zp at *
  have HZ := Lib.hid hz
  clear hz
  go_enter Tryd.func46, Tryd.ntmps46
  go_upto_region 2 with (fail)
  have h1 : Hid (IsTab (w.alloc (.cells zp 3)) w.heap.size 3 25 (fun j => tv (trn 0 j)) ∧ Below w.heap.size w (w.alloc (.cells zp 3))) := by
    rw [← HZ.out]
    exact Lib.hid ⟨IsTab.new w _ 25 _, (Below.refl _ _).alloc (Nat.le_refl _) _⟩
  clear hmk HZ
  generalize w.alloc (.cells zp 3) = y0 at *
  generalize hq : w.heap.size = q at *
  have HQ := Lib.hid hq
  clear hq
  go_wp2_with fail
  go_loopw [2, 3, 4] (fun x y i u => ∃ t : Nat, t ≤ 24 ∧ x = .int .i64 ((xy t).1 : Nat) ∧ y = .int .i64 ((xy t).2 : Nat) ∧ i = .int .i64 t ∧ Hid (IsTab u q 3 25 (fun j => tv (trn t j)) ∧ Below q w u)) (fun _ _ i _ => 24 - (intOf i).toNat)
  case atStart => exact ⟨0, by decide, rfl, rfl, rfl, h1⟩
  case round =>
    obtain ⟨t, ht, rfl, rfl, rfl, hp⟩ := hrel
    clear h1
    have hxy := xy_lt t
    have hs1 : (xy (t + 1)).1 = (xy t).2 := rfl
    have hs2 : (xy (t + 1)).2 = (2 * (xy t).1 + 3 * (xy t).2) % 5 := rfl
    have HS := Lib.hid (And.intro hs1 hs2)
    have HTR : Hid (∀ j, trn (t + 1) j = if j = (xy t).1 + 5 * (xy t).2 then (t + 1) * (t + 2) / 2 % 64 else trn t j) := Lib.hid fun j => rfl
    clear hs1 hs2
    generalize (xy t).1 = x at *
    generalize (xy t).2 = y at *
    have hx := hxy.1
    have hy := hxy.2
    clear hxy
    by_cases hlt : (t : Int) < 24
    · have cj := hp.out.1.cell (x + 5 * y) (by omega)
      have fj := hp.out.1.fz (x + 5 * y)
      go_wp2_with fail
      have hv := trn_val t (by omega)
      rw [hv]
      refine ⟨⟨t + 1, by omega, by rw [HS.out.1], by rw [HS.out.2]; exact congrArg _ (by omega), by go_num, Lib.hid ⟨(hp.out.1.set (x + 5 * y) _).cong (fun j _ => ?_), hp.out.2.setCell (Nat.le_refl _) _⟩⟩, by simp [intOf]; omega⟩
      unfold updv tv
      rw [HTR.out]
      split <;> rfl
    · obtain rfl : t = 24 := by omega
      go_wp2_with fail
      go_ret
      rw [HQ.out]
      exact ⟨rfl, hp.out.1.cong (fun j hj => by rw [trn_all j hj, List.getD_eq_getElem?_getD]), hp.out.2⟩
/-- The register of the constants. -/
def bq : Nat → Nat
  | 0 => 1
  | m + 1 => if 255 < bq m * 2 then (bq m * 2) ^^^ 369 else bq m * 2
theorem bq_lt : ∀ m, m < 169 → bq m < 256 := by decide +kernel
def bitAt (j : Nat) : Wd64 := 1#64 <<< (2 ^ j - 1)
def kw (i : Nat) : Nat → Wd64
  | 0 => 0#64
  | j + 1 => if bq (7 * i + j) % 2 = 1 then kw i j ||| bitAt j else kw i j
theorem kw_all : ∀ i, i < 24 → kw i 7 = consts.getD i 0#64 := by decide +kernel
theorem bx_all : ∀ b, b < 256 → bits BinOp.xor .i64 (((b : Nat) : Int) * 2) 369 = ((b * 2 ^^^ 369 : Nat) : Int) := by decide +kernel
theorem below_grown {B : Nat} {W u v : World} {row : Option Nat} (hB : B ≤ W.heap.size) (h : Below B W u) (hg : u.grownBy v row) (hr : ∀ k, row = some k → B ≤ k) : Below B W v :=
  ⟨hg.os.trans h.os, hg.tape.trans h.tape, hg.output.trans h.output, Nat.le_trans h.size hg.size, fun k hk => by
    rw [hg.block k (by have := h.size; omega) (fun e => by have := hr k e.symm; omega)]; exact h.block k hk⟩
theorem und59 : Tryd.prog.underlying 112 = some (.slice 74) := by kernel_rfl
theorem one8 : ∃ i, Tryd.prog.info? 74 = some i ∧ i.zero = some (.int .u64 0) ∧ i.size = 1 ∧ i.bytes = 8 := by
  refine ⟨(Tryd.prog.info? 74).get (by kernel_rfl), by kernel_rfl, by kernel_rfl, by kernel_rfl, by kernel_rfl⟩
theorem or_0 (x : Wd64) : bits BinOp.or .u64 (W x) 1 = W (x ||| bitAt 0) := by rw [← W_or]; rfl
theorem or_1 (x : Wd64) : bits BinOp.or .u64 (W x) 2 = W (x ||| bitAt 1) := by rw [← W_or]; rfl
theorem or_2 (x : Wd64) : bits BinOp.or .u64 (W x) 8 = W (x ||| bitAt 2) := by rw [← W_or]; rfl
theorem or_3 (x : Wd64) : bits BinOp.or .u64 (W x) 128 = W (x ||| bitAt 3) := by rw [← W_or]; rfl
theorem or_4 (x : Wd64) : bits BinOp.or .u64 (W x) 32768 = W (x ||| bitAt 4) := by rw [← W_or]; rfl
theorem or_5 (x : Wd64) : bits BinOp.or .u64 (W x) 2147483648 = W (x ||| bitAt 5) := by rw [← W_or]; rfl
theorem or_6 (x : Wd64) : bits BinOp.or .u64 (W x) 9223372036854775808 = W (x ||| bitAt 6) := by rw [← W_or]; rfl
set_option maxHeartbeats 16000000 in
set_option maxRecDepth 100000 in
theorem constants_walk (w : World) :
    Calls Tryd.prog 45 #[] w fun e w' => ∃ V, e = .returned V ∧ w'.ownsRow w.heap.size 74 1 V 24 (consts.map wv) ∧ Below w.heap.size w w' := by
  obtain ⟨i0, hi0, hi1, hi2, hi3⟩ := one8
  have HI := Lib.hid (And.intro hi0 (And.intro hi1 (And.intro hi2 hi3)))
  clear hi0 hi1 hi2 hi3
  generalize hq : w.heap.size = q at *
  have HQ := Lib.hid hq
  clear hq
  go_enter Tryd.func45, Tryd.ntmps45
  go_wp2_with fail
  go_loopw [1, 2, 3] (fun v b i u => ∃ (n : Nat), n ≤ 24 ∧ b = .int .i64 (bq (7 * n) : Nat) ∧ i = .int .i64 n ∧ Hid (u.ownsRow q 74 1 v n ((consts.take n).map wv) ∧ Below q w u)) (fun _ _ i _ => 24 - (intOf i).toNat)
  case atStart => exact ⟨0, by decide, rfl, rfl, Lib.hid ⟨⟨rfl, .inl ⟨rfl, rfl⟩⟩, by rw [← HQ.out]; exact Below.refl _ _⟩⟩
  case round =>
    obtain ⟨n, hn, rfl, rfl, hp⟩ := hrel
    by_cases hlt : (n : Int) < 24
    · go_wp2_with fail
      go_loop [2, 4, 5] (fun b k j => ∃ m : Nat, m ≤ 7 ∧ b = .int .i64 (bq (7 * n + m) : Nat) ∧ k = .int .u64 (W (kw n m)) ∧ j = .int .i64 m) (fun _ _ j => 7 - (intOf j).toNat)
      case atStart => exact ⟨0, by decide, rfl, rfl, rfl⟩
      case round =>
        obtain ⟨m, hm, rfl, rfl, rfl⟩ := hrel
        by_cases hm7 : (m : Int) < 7
        · have hb := bq_lt (7 * n + m) (by omega)
          have hq1 : bq (7 * n + (m + 1)) = if 255 < bq (7 * n + m) * 2 then (bq (7 * n + m) * 2) ^^^ 369 else bq (7 * n + m) * 2 := rfl
          have hk1 : kw n (m + 1) = if bq (7 * n + m) % 2 = 1 then kw n m ||| bitAt m else kw n m := rfl
          have HB := Lib.hid hq1
          have HK := Lib.hid hk1
          clear hq1 hk1
          have hbx := bx_all (bq (7 * n + m)) hb
          generalize bq (7 * n + m) = β at *
          have hb0 : (0 : Int) ≤ (β : Int) := by omega
          have hb1 : (β : Int) < 256 := by omega
          have hc : m = 0 ∨ m = 1 ∨ m = 2 ∨ m = 3 ∨ m = 4 ∨ m = 5 ∨ m = 6 := by omega
          clear hm hm7 hb
          rcases hc with rfl | rfl | rfl | rfl | rfl | rfl | rfl
          · rw [show ((0 : Nat) : Int) = 0 from rfl]
            have xo := or_0
            by_cases hpar : β % 2 = 1 <;> by_cases hov : 255 < (β : Int) * 2
            · have hpt : ((β : Int) % 2 == 1) = true := by
                have : (β : Int) % 2 = 1 := by omega
                simpa using this
              go_wp2_with fail
              go_round
              case rel => exact ⟨0 + 1, by omega, by rw [HB.out, if_pos (by omega)], by rw [HK.out, if_pos hpar], rfl⟩
              case measure => simp [intOf]
            · have hpt : ((β : Int) % 2 == 1) = true := by
                have : (β : Int) % 2 = 1 := by omega
                simpa using this
              go_wp2_with fail
              go_round
              case rel => exact ⟨0 + 1, by omega, by rw [HB.out, if_neg (by omega)]; go_num, by rw [HK.out, if_pos hpar], rfl⟩
              case measure => simp [intOf]
            · have hpt : ((β : Int) % 2 == 1) = false := by
                have : ¬ (β : Int) % 2 = 1 := by omega
                simpa using this
              go_wp2_with fail
              go_round
              case rel => exact ⟨0 + 1, by omega, by rw [HB.out, if_pos (by omega)], by rw [HK.out, if_neg hpar], rfl⟩
              case measure => simp [intOf]
            · have hpt : ((β : Int) % 2 == 1) = false := by
                have : ¬ (β : Int) % 2 = 1 := by omega
                simpa using this
              go_wp2_with fail
              go_round
              case rel => exact ⟨0 + 1, by omega, by rw [HB.out, if_neg (by omega)]; go_num, by rw [HK.out, if_neg hpar], rfl⟩
              case measure => simp [intOf]
          · rw [show ((1 : Nat) : Int) = 1 from rfl]
            have xo := or_1
            by_cases hpar : β % 2 = 1 <;> by_cases hov : 255 < (β : Int) * 2
            · have hpt : ((β : Int) % 2 == 1) = true := by
                have : (β : Int) % 2 = 1 := by omega
                simpa using this
              go_wp2_with fail
              go_round
              case rel => exact ⟨1 + 1, by omega, by rw [HB.out, if_pos (by omega)], by rw [HK.out, if_pos hpar], rfl⟩
              case measure => simp [intOf]
            · have hpt : ((β : Int) % 2 == 1) = true := by
                have : (β : Int) % 2 = 1 := by omega
                simpa using this
              go_wp2_with fail
              go_round
              case rel => exact ⟨1 + 1, by omega, by rw [HB.out, if_neg (by omega)]; go_num, by rw [HK.out, if_pos hpar], rfl⟩
              case measure => simp [intOf]
            · have hpt : ((β : Int) % 2 == 1) = false := by
                have : ¬ (β : Int) % 2 = 1 := by omega
                simpa using this
              go_wp2_with fail
              go_round
              case rel => exact ⟨1 + 1, by omega, by rw [HB.out, if_pos (by omega)], by rw [HK.out, if_neg hpar], rfl⟩
              case measure => simp [intOf]
            · have hpt : ((β : Int) % 2 == 1) = false := by
                have : ¬ (β : Int) % 2 = 1 := by omega
                simpa using this
              go_wp2_with fail
              go_round
              case rel => exact ⟨1 + 1, by omega, by rw [HB.out, if_neg (by omega)]; go_num, by rw [HK.out, if_neg hpar], rfl⟩
              case measure => simp [intOf]
          · rw [show ((2 : Nat) : Int) = 2 from rfl]
            have xo := or_2
            by_cases hpar : β % 2 = 1 <;> by_cases hov : 255 < (β : Int) * 2
            · have hpt : ((β : Int) % 2 == 1) = true := by
                have : (β : Int) % 2 = 1 := by omega
                simpa using this
              go_wp2_with fail
              go_round
              case rel => exact ⟨2 + 1, by omega, by rw [HB.out, if_pos (by omega)], by rw [HK.out, if_pos hpar], rfl⟩
              case measure => simp [intOf]
            · have hpt : ((β : Int) % 2 == 1) = true := by
                have : (β : Int) % 2 = 1 := by omega
                simpa using this
              go_wp2_with fail
              go_round
              case rel => exact ⟨2 + 1, by omega, by rw [HB.out, if_neg (by omega)]; go_num, by rw [HK.out, if_pos hpar], rfl⟩
              case measure => simp [intOf]
            · have hpt : ((β : Int) % 2 == 1) = false := by
                have : ¬ (β : Int) % 2 = 1 := by omega
                simpa using this
              go_wp2_with fail
              go_round
              case rel => exact ⟨2 + 1, by omega, by rw [HB.out, if_pos (by omega)], by rw [HK.out, if_neg hpar], rfl⟩
              case measure => simp [intOf]
            · have hpt : ((β : Int) % 2 == 1) = false := by
                have : ¬ (β : Int) % 2 = 1 := by omega
                simpa using this
              go_wp2_with fail
              go_round
              case rel => exact ⟨2 + 1, by omega, by rw [HB.out, if_neg (by omega)]; go_num, by rw [HK.out, if_neg hpar], rfl⟩
              case measure => simp [intOf]
          · rw [show ((3 : Nat) : Int) = 3 from rfl]
            have xo := or_3
            by_cases hpar : β % 2 = 1 <;> by_cases hov : 255 < (β : Int) * 2
            · have hpt : ((β : Int) % 2 == 1) = true := by
                have : (β : Int) % 2 = 1 := by omega
                simpa using this
              go_wp2_with fail
              go_round
              case rel => exact ⟨3 + 1, by omega, by rw [HB.out, if_pos (by omega)], by rw [HK.out, if_pos hpar], rfl⟩
              case measure => simp [intOf]
            · have hpt : ((β : Int) % 2 == 1) = true := by
                have : (β : Int) % 2 = 1 := by omega
                simpa using this
              go_wp2_with fail
              go_round
              case rel => exact ⟨3 + 1, by omega, by rw [HB.out, if_neg (by omega)]; go_num, by rw [HK.out, if_pos hpar], rfl⟩
              case measure => simp [intOf]
            · have hpt : ((β : Int) % 2 == 1) = false := by
                have : ¬ (β : Int) % 2 = 1 := by omega
                simpa using this
              go_wp2_with fail
              go_round
              case rel => exact ⟨3 + 1, by omega, by rw [HB.out, if_pos (by omega)], by rw [HK.out, if_neg hpar], rfl⟩
              case measure => simp [intOf]
            · have hpt : ((β : Int) % 2 == 1) = false := by
                have : ¬ (β : Int) % 2 = 1 := by omega
                simpa using this
              go_wp2_with fail
              go_round
              case rel => exact ⟨3 + 1, by omega, by rw [HB.out, if_neg (by omega)]; go_num, by rw [HK.out, if_neg hpar], rfl⟩
              case measure => simp [intOf]
          · rw [show ((4 : Nat) : Int) = 4 from rfl]
            have xo := or_4
            by_cases hpar : β % 2 = 1 <;> by_cases hov : 255 < (β : Int) * 2
            · have hpt : ((β : Int) % 2 == 1) = true := by
                have : (β : Int) % 2 = 1 := by omega
                simpa using this
              go_wp2_with fail
              go_round
              case rel => exact ⟨4 + 1, by omega, by rw [HB.out, if_pos (by omega)], by rw [HK.out, if_pos hpar], rfl⟩
              case measure => simp [intOf]
            · have hpt : ((β : Int) % 2 == 1) = true := by
                have : (β : Int) % 2 = 1 := by omega
                simpa using this
              go_wp2_with fail
              go_round
              case rel => exact ⟨4 + 1, by omega, by rw [HB.out, if_neg (by omega)]; go_num, by rw [HK.out, if_pos hpar], rfl⟩
              case measure => simp [intOf]
            · have hpt : ((β : Int) % 2 == 1) = false := by
                have : ¬ (β : Int) % 2 = 1 := by omega
                simpa using this
              go_wp2_with fail
              go_round
              case rel => exact ⟨4 + 1, by omega, by rw [HB.out, if_pos (by omega)], by rw [HK.out, if_neg hpar], rfl⟩
              case measure => simp [intOf]
            · have hpt : ((β : Int) % 2 == 1) = false := by
                have : ¬ (β : Int) % 2 = 1 := by omega
                simpa using this
              go_wp2_with fail
              go_round
              case rel => exact ⟨4 + 1, by omega, by rw [HB.out, if_neg (by omega)]; go_num, by rw [HK.out, if_neg hpar], rfl⟩
              case measure => simp [intOf]
          · rw [show ((5 : Nat) : Int) = 5 from rfl]
            have xo := or_5
            by_cases hpar : β % 2 = 1 <;> by_cases hov : 255 < (β : Int) * 2
            · have hpt : ((β : Int) % 2 == 1) = true := by
                have : (β : Int) % 2 = 1 := by omega
                simpa using this
              go_wp2_with fail
              go_round
              case rel => exact ⟨5 + 1, by omega, by rw [HB.out, if_pos (by omega)], by rw [HK.out, if_pos hpar], rfl⟩
              case measure => simp [intOf]
            · have hpt : ((β : Int) % 2 == 1) = true := by
                have : (β : Int) % 2 = 1 := by omega
                simpa using this
              go_wp2_with fail
              go_round
              case rel => exact ⟨5 + 1, by omega, by rw [HB.out, if_neg (by omega)]; go_num, by rw [HK.out, if_pos hpar], rfl⟩
              case measure => simp [intOf]
            · have hpt : ((β : Int) % 2 == 1) = false := by
                have : ¬ (β : Int) % 2 = 1 := by omega
                simpa using this
              go_wp2_with fail
              go_round
              case rel => exact ⟨5 + 1, by omega, by rw [HB.out, if_pos (by omega)], by rw [HK.out, if_neg hpar], rfl⟩
              case measure => simp [intOf]
            · have hpt : ((β : Int) % 2 == 1) = false := by
                have : ¬ (β : Int) % 2 = 1 := by omega
                simpa using this
              go_wp2_with fail
              go_round
              case rel => exact ⟨5 + 1, by omega, by rw [HB.out, if_neg (by omega)]; go_num, by rw [HK.out, if_neg hpar], rfl⟩
              case measure => simp [intOf]
          · rw [show ((6 : Nat) : Int) = 6 from rfl]
            have xo := or_6
            by_cases hpar : β % 2 = 1 <;> by_cases hov : 255 < (β : Int) * 2
            · have hpt : ((β : Int) % 2 == 1) = true := by
                have : (β : Int) % 2 = 1 := by omega
                simpa using this
              go_wp2_with fail
              go_round
              case rel => exact ⟨6 + 1, by omega, by rw [HB.out, if_pos (by omega)], by rw [HK.out, if_pos hpar], rfl⟩
              case measure => simp [intOf]
            · have hpt : ((β : Int) % 2 == 1) = true := by
                have : (β : Int) % 2 = 1 := by omega
                simpa using this
              go_wp2_with fail
              go_round
              case rel => exact ⟨6 + 1, by omega, by rw [HB.out, if_neg (by omega)]; go_num, by rw [HK.out, if_pos hpar], rfl⟩
              case measure => simp [intOf]
            · have hpt : ((β : Int) % 2 == 1) = false := by
                have : ¬ (β : Int) % 2 = 1 := by omega
                simpa using this
              go_wp2_with fail
              go_round
              case rel => exact ⟨6 + 1, by omega, by rw [HB.out, if_pos (by omega)], by rw [HK.out, if_neg hpar], rfl⟩
              case measure => simp [intOf]
            · have hpt : ((β : Int) % 2 == 1) = false := by
                have : ¬ (β : Int) % 2 = 1 := by omega
                simpa using this
              go_wp2_with fail
              go_round
              case rel => exact ⟨6 + 1, by omega, by rw [HB.out, if_neg (by omega)]; go_num, by rw [HK.out, if_neg hpar], rfl⟩
              case measure => simp [intOf]
        · obtain rfl : m = 7 := by omega
          clear hm
          generalize hbv : bq (7 * n + 7) = β at *
          have HBV : Hid (bq (7 * (n + 1)) = β) := Lib.hid hbv
          clear hbv
          generalize hkv : kw n 7 = κ at *
          have HKV := Lib.hid hkv
          clear hkv
          have hown := hp.out.1
          have hbe := hp.out.2
          have hsz : q ≤ wr.heap.size := by rw [← HQ.out] at hbe ⊢; exact hbe.size
          have HO := Lib.hid hown
          have HBE := Lib.hid hbe
          have HSZ := Lib.hid hsz
          clear hown hbe hsz hp
          go_wp2_with (refine wpList_append_at _ rfl (.tmp 30) (.tmp 32) 112 rfl q 74 i0 (.int .u64 0) 1 8 und59 HI.out rfl (by decide) _ n ((consts.take n).map wv) rfl (HO.out.alloc _) ⟨wr.heap.size, 0, none⟩ 1 1 [.int .u64 (W κ)] rfl rfl (one_at rfl _ _) (by intro u hu; simp at hu; subst hu; rfl) (by unfold maxLen; omega) (by omega) (by simp; have := HSZ.out; omega) ?_; intro v' w1 hown1 hgrow hat)
          refine ⟨⟨n + 1, by omega, by rw [HBV.out], by go_num, Lib.hid ⟨?_, ?_⟩⟩, by simp [intOf]; omega⟩
          · have e : (consts.take (n + 1)).map wv = (consts.take n).map wv ++ [.int .u64 (W κ)] := by
              rw [List.take_succ_eq_append_getElem (show n < consts.length from by have : consts.length = 24 := rfl; omega), List.map_append]
              rw [← HKV.out, kw_all n (by omega), List.getD_eq_getElem?_getD, List.getElem?_eq_getElem (show n < consts.length from by have : consts.length = 24 := rfl; omega)]
              rfl
            rw [e]; exact hown1
          · exact below_grown (by rw [HQ.out]; exact Nat.le_refl _) (HBE.out.alloc (by exact HSZ.out) _) hgrow (fun k hk => by
              rcases ownsRow_forms HO.out with ⟨rfl, _⟩ | ⟨g, c, rfl, hg, _⟩
              · cases hk
              · injection hk with hk; subst hk; exact hg)
    · obtain rfl : n = 24 := by omega
      have h2 := hp.out.2
      have h1 : wr.ownsRow q 74 1 _ 24 (consts.map wv) := hp.out.1
      have H1 := Lib.hid h1
      have H2 := Lib.hid h2
      clear h1 h2 hp
      go_wp2_with fail
      go_ret
      exact ⟨_, rfl, H1.out, H2.out⟩
end Kc
end Go.Proofs.YtnfcjangminhoaaDoor
