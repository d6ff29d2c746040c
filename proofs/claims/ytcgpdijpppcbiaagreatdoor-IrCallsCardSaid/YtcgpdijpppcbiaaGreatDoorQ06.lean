/- Merged of R1. Own work. -/
import Derived.Test.YtcgpdijpppcbiaaGreatDoorQ02
import Derived.Test.YtcgpdijpppcbiaaGreatDoorQ05
import Derived.IntWalk
import Derived.WalkSmall
import Derived.Below
import Derived.Test.YtcgpdijpppcbiaaGreatDoorQ03
import Derived.RegionTactic
import Derived.BigRegion
import Derived.StillTailTactics
import Derived.Test.YtcgpdijpppcbiaaGreatDoorQ04
import Derived.Test.YtcgpdijpppcbiaaGreatDoorQ01
namespace Go.Proofs.YtcgpdijpppcbiaaGreatDoor
open Go.RowKit
set_option linter.unusedVariables false
namespace Kc
/-- Where the place goes. -/
def xy : Nat → Nat × Nat
  | 0 => (1, 0)
  | t + 1 => ((xy t).2, (2 * (xy t).1 + 3 * (xy t).2) % 5)
/-- The turns of the first t places. -/
def trn : Nat → Nat → Nat
  | 0, _ => 0
  | t + 1, j => if j = (xy t).1 + 5 * (xy t).2 then (t + 1) * (t + 2) / 2 % 64 else trn t j
theorem xy_lt : ∀ t, (xy t).1 < 5 ∧ (xy t).2 < 5
  | 0 => by decide
  | t + 1 => ⟨(xy_lt t).2, by show (2 * (xy t).1 + 3 * (xy t).2) % 5 < 5; omega⟩
theorem trn_all : ∀ j, j < 25 → trn 24 j = turns.getD j 0 := by decide +kernel
theorem trn_val : ∀ t, t < 24 → (wrap64 ((wrap64 ((((t : Nat) : Int) + 1) * (((t : Nat) : Int) + 2))).tdiv 2)).tmod 64 = (((t + 1) * (t + 2) / 2 % 64 : Nat) : Int) := by decide +kernel
def tv (n : Nat) : Value := .int .i64 n
theorem made25 (w : World) : (Instr.makeSlice 149 (.int .i64 25) (.int .i64 25)).run Tryz.prog w = .ok (.slice (some ⟨w.heap.size, 0, none⟩) 25 25) (w.alloc (.cells (tab 25 fun _ => tv 0) 3)) := by kernel_rfl
set_option maxHeartbeats 4000000 in
set_option maxRecDepth 100000 in
theorem turns_walk (w : World) :
    Calls Tryz.prog 64 #[] w fun e w' => e = .returned (.slice (some ⟨w.heap.size, 0, none⟩) 25 25) ∧ IsTab w' w.heap.size 3 25 (fun j => tv (turns.getD j 0)) ∧ Below w.heap.size w w' := by
  have hmk := made25
  generalize hz : tab 25 (fun _ => tv 0) = zp at *
  have HZ := Lib.hid hz
  clear hz
  go_enter Tryz.func64, Tryz.ntmps64
  go_upto_region 2 with (fail)
  have h1 : Hid (IsTab (w.alloc (.cells zp 3)) w.heap.size 3 25 (fun j => tv (trn 0 j)) ∧ Below w.heap.size w (w.alloc (.cells zp 3))) := by
    rw [← HZ.out]
    exact Lib.hid ⟨IsTab.new w _ 25 _, (Below.refl _ _).alloc (Nat.le_refl _) _⟩
  clear hmk HZ
  generalize w.alloc (.cells zp 3) = y0 at *
  generalize hq : w.heap.size = q at *
  have HQ := Lib.hid hq
  clear hq
  go_wp2_with fail
  go_loopw [2, 3, 4] (fun x y i u => ∃ t : Nat, t ≤ 24 ∧ x = .int .i64 ((xy t).1 : Nat) ∧ y = .int .i64 ((xy t).2 : Nat) ∧ i = .int .i64 t ∧ Hid (IsTab u q 3 25 (fun j => tv (trn t j)) ∧ Below q w u)) (fun _ _ i _ => 24 - (intOf i).toNat)
  case atStart => exact ⟨0, by decide, rfl, rfl, rfl, h1⟩
  case round =>
    obtain ⟨t, ht, rfl, rfl, rfl, hp⟩ := hrel
    clear h1
    have hxy := xy_lt t
    have hs1 : (xy (t + 1)).1 = (xy t).2 := rfl
    have hs2 : (xy (t + 1)).2 = (2 * (xy t).1 + 3 * (xy t).2) % 5 := rfl
    have HS := Lib.hid (And.intro hs1 hs2)
    have HTR : Hid (∀ j, trn (t + 1) j = if j = (xy t).1 + 5 * (xy t).2 then (t + 1) * (t + 2) / 2 % 64 else trn t j) := Lib.hid fun j => rfl
    clear hs1 hs2
    generalize (xy t).1 = x at *
    generalize (xy t).2 = y at *
    have hx := hxy.1
    have hy := hxy.2
    clear hxy
    by_cases hlt : (t : Int) < 24
    · have cj := hp.out.1.cell (x + 5 * y) (by omega)
      have fj := hp.out.1.fz (x + 5 * y)
      go_wp2_with fail
      have hv := trn_val t (by omega)
      rw [hv]
      refine ⟨⟨t + 1, by omega, by rw [HS.out.1], by rw [HS.out.2]; exact congrArg _ (by omega), by go_num, Lib.hid ⟨(hp.out.1.set (x + 5 * y) _).cong (fun j _ => ?_), hp.out.2.setCell (Nat.le_refl _) _⟩⟩, by simp [intOf]; omega⟩
      unfold updv tv
      rw [HTR.out]
      split <;> rfl
    · obtain rfl : t = 24 := by omega
      go_wp2_with fail
      go_ret
      rw [HQ.out]
      exact ⟨rfl, hp.out.1.cong (fun j hj => by rw [trn_all j hj, List.getD_eq_getElem?_getD]), hp.out.2⟩
/-- The register of the constants. -/
def bq : Nat → Nat
  | 0 => 1
  | m + 1 => if 255 < bq m * 2 then (bq m * 2) ^^^ 369 else bq m * 2
theorem bq_lt : ∀ m, m < 169 → bq m < 256 := by decide +kernel
def bitAt (j : Nat) : Wd64 := 1#64 <<< (2 ^ j - 1)
def kw (i : Nat) : Nat → Wd64
  | 0 => 0#64
  | j + 1 => if bq (7 * i + j) % 2 = 1 then kw i j ||| bitAt j else kw i j
theorem kw_all : ∀ i, i < 24 → kw i 7 = consts.getD i 0#64 := by decide +kernel
theorem bx_all : ∀ b, b < 256 → bits BinOp.xor .i64 (((b : Nat) : Int) * 2) 369 = ((b * 2 ^^^ 369 : Nat) : Int) := by decide +kernel
theorem below_grown {B : Nat} {W u v : World} {row : Option Nat} (hB : B ≤ W.heap.size) (h : Below B W u) (hg : u.grownBy v row) (hr : ∀ k, row = some k → B ≤ k) : Below B W v :=
  ⟨hg.os.trans h.os, hg.tape.trans h.tape, hg.output.trans h.output, Nat.le_trans h.size hg.size, fun k hk => by
    rw [hg.block k (by have := h.size; omega) (fun e => by have := hr k e.symm; omega)]; exact h.block k hk⟩
theorem und59 : Tryz.prog.underlying 39 = some (.slice 22) := by kernel_rfl
theorem one8 : ∃ i, Tryz.prog.info? 22 = some i ∧ i.zero = some (.int .u64 0) ∧ i.size = 1 ∧ i.bytes = 8 := by
  refine ⟨(Tryz.prog.info? 22).get (by kernel_rfl), by kernel_rfl, by kernel_rfl, by kernel_rfl, by kernel_rfl⟩
theorem or_0 (x : Wd64) : bits BinOp.or .u64 (W x) 1 = W (x ||| bitAt 0) := by rw [← W_or]; rfl
theorem or_1 (x : Wd64) : bits BinOp.or .u64 (W x) 2 = W (x ||| bitAt 1) := by rw [← W_or]; rfl
theorem or_2 (x : Wd64) : bits BinOp.or .u64 (W x) 8 = W (x ||| bitAt 2) := by rw [← W_or]; rfl
theorem or_3 (x : Wd64) : bits BinOp.or .u64 (W x) 128 = W (x ||| bitAt 3) := by rw [← W_or]; rfl
theorem or_4 (x : Wd64) : bits BinOp.or .u64 (W x) 32768 = W (x ||| bitAt 4) := by rw [← W_or]; rfl
theorem or_5 (x : Wd64) : bits BinOp.or .u64 (W x) 2147483648 = W (x ||| bitAt 5) := by rw [← W_or]; rfl
theorem or_6 (x : Wd64) : bits BinOp.or .u64 (W x) 9223372036854775808 = W (x ||| bitAt 6) := by rw [← W_or]; rfl
set_option maxHeartbeats 16000000 in
set_option maxRecDepth 100000 in
theorem constants_walk (w : World) :
    Calls Tryz.prog 63 #[] w fun e w' => ∃ V, e = .returned V ∧ w'.ownsRow w.heap.size 22 1 V 24 (consts.map wv) ∧ Below w.heap.size w w' := by
  obtain ⟨i0, hi0, hi1, hi2, hi3⟩ := one8
  have HI := Lib.hid (And.intro hi0 (And.intro hi1 (And.intro hi2 hi3)))
  clear hi0 hi1 hi2 hi3
  generalize hq : w.heap.size = q at *
  have HQ := Lib.hid hq
  clear hq
  go_enter Tryz.func63, Tryz.ntmps63
  go_wp2_with fail
  go_loopw [1, 2, 3] (fun v b i u => ∃ (n : Nat), n ≤ 24 ∧ b = .int .i64 (bq (7 * n) : Nat) ∧ i = .int .i64 n ∧ Hid (u.ownsRow q 22 1 v n ((consts.take n).map wv) ∧ Below q w u)) (fun _ _ i _ => 24 - (intOf i).toNat)
  case atStart => exact ⟨0, by decide, rfl, rfl, Lib.hid ⟨⟨rfl, .inl ⟨rfl, rfl⟩⟩, by rw [← HQ.out]; exact Below.refl _ _⟩⟩
  case round =>
    obtain ⟨n, hn, rfl, rfl, hp⟩ := hrel
    by_cases hlt : (n : Int) < 24
    · go_wp2_with fail
      go_loop [2, 4, 5] (fun b k j => ∃ m : Nat, m ≤ 7 ∧ b = .int .i64 (bq (7 * n + m) : Nat) ∧ k = .int .u64 (W (kw n m)) ∧ j = .int .i64 m) (fun _ _ j => 7 - (intOf j).toNat)
      case atStart => exact ⟨0, by decide, rfl, rfl, rfl⟩
      case round =>
        obtain ⟨m, hm, rfl, rfl, rfl⟩ := hrel
        by_cases hm7 : (m : Int) < 7
        · have hb := bq_lt (7 * n + m) (by omega)
          have hq1 : bq (7 * n + (m + 1)) = if 255 < bq (7 * n + m) * 2 then (bq (7 * n + m) * 2) ^^^ 369 else bq (7 * n + m) * 2 := rfl
          have hk1 : kw n (m + 1) = if bq (7 * n + m) % 2 = 1 then kw n m ||| bitAt m else kw n m := rfl
          have HB := Lib.hid hq1
          have HK := Lib.hid hk1
          clear hq1 hk1
          have hbx := bx_all (bq (7 * n + m)) hb
          generalize bq (7 * n + m) = β at *
          have hb0 : (0 : Int) ≤ (β : Int) := by omega
          have hb1 : (β : Int) < 256 := by omega
          have hc : m = 0 ∨ m = 1 ∨ m = 2 ∨ m = 3 ∨ m = 4 ∨ m = 5 ∨ m = 6 := by omega
          clear hm hm7 hb
          rcases hc with rfl | rfl | rfl | rfl | rfl | rfl | rfl
          · rw [show ((0 : Nat) : Int) = 0 from rfl]
            have xo := or_0
            by_cases hpar : β % 2 = 1 <;> by_cases hov : 255 < (β : Int) * 2
            · have hpt : ((β : Int) % 2 == 1) = true := by
                have : (β : Int) % 2 = 1 := by omega
                simpa using this
              go_wp2_with fail
              go_round
              case rel => exact ⟨0 + 1, by omega, by rw [HB.out, if_pos (by omega)], by rw [HK.out, if_pos hpar], rfl⟩
              case measure => simp [intOf]
            · have hpt : ((β : Int) % 2 == 1) = true := by
                have : (β : Int) % 2 = 1 := by omega
                simpa using this
              go_wp2_with fail
              go_round
              case rel => exact ⟨0 + 1, by omega, by rw [HB.out, if_neg (by omega)]; go_num, by rw [HK.out, if_pos hpar], rfl⟩
              case measure => simp [intOf]
            · have hpt : ((β : Int) % 2 == 1) = false := by
                have : ¬ (β : Int) % 2 = 1 := by omega
                simpa using this
              go_wp2_with fail
              go_round
              case rel => exact ⟨0 + 1, by omega, by rw [HB.out, if_pos (by omega)], by rw [HK.out, if_neg hpar], rfl⟩
              case measure => simp [intOf]
            · have hpt : ((β : Int) % 2 == 1) = false := by
                have : ¬ (β : Int) % 2 = 1 := by omega
                simpa using this
              go_wp2_with fail
              go_round
              case rel => exact ⟨0 + 1, by omega, by rw [HB.out, if_neg (by omega)]; go_num, by rw [HK.out, if_neg hpar], rfl⟩
              case measure => simp [intOf]
          · rw [show ((1 : Nat) : Int) = 1 from rfl]
            have xo := or_1
            by_cases hpar : β % 2 = 1 <;> by_cases hov : 255 < (β : Int) * 2
            · have hpt : ((β : Int) % 2 == 1) = true := by
                have : (β : Int) % 2 = 1 := by omega
                simpa using this
              go_wp2_with fail
              go_round
              case rel => exact ⟨1 + 1, by omega, by rw [HB.out, if_pos (by omega)], by rw [HK.out, if_pos hpar], rfl⟩
              case measure => simp [intOf]
            · have hpt : ((β : Int) % 2 == 1) = true := by
                have : (β : Int) % 2 = 1 := by omega
                simpa using this
              go_wp2_with fail
              go_round
              case rel => exact ⟨1 + 1, by omega, by rw [HB.out, if_neg (by omega)]; go_num, by rw [HK.out, if_pos hpar], rfl⟩
              case measure => simp [intOf]
            · have hpt : ((β : Int) % 2 == 1) = false := by
                have : ¬ (β : Int) % 2 = 1 := by omega
                simpa using this
              go_wp2_with fail
              go_round
              case rel => exact ⟨1 + 1, by omega, by rw [HB.out, if_pos (by omega)], by rw [HK.out, if_neg hpar], rfl⟩
              case measure => simp [intOf]
            · have hpt : ((β : Int) % 2 == 1) = false := by
                have : ¬ (β : Int) % 2 = 1 := by omega
                simpa using this
              go_wp2_with fail
              go_round
              case rel => exact ⟨1 + 1, by omega, by rw [HB.out, if_neg (by omega)]; go_num, by rw [HK.out, if_neg hpar], rfl⟩
              case measure => simp [intOf]
          · rw [show ((2 : Nat) : Int) = 2 from rfl]
            have xo := or_2
            by_cases hpar : β % 2 = 1 <;> by_cases hov : 255 < (β : Int) * 2
            · have hpt : ((β : Int) % 2 == 1) = true := by
                have : (β : Int) % 2 = 1 := by omega
                simpa using this
              go_wp2_with fail
              go_round
              case rel => exact ⟨2 + 1, by omega, by rw [HB.out, if_pos (by omega)], by rw [HK.out, if_pos hpar], rfl⟩
              case measure => simp [intOf]
            · have hpt : ((β : Int) % 2 == 1) = true := by
                have : (β : Int) % 2 = 1 := by omega
                simpa using this
              go_wp2_with fail
              go_round
              case rel => exact ⟨2 + 1, by omega, by rw [HB.out, if_neg (by omega)]; go_num, by rw [HK.out, if_pos hpar], rfl⟩
              case measure => simp [intOf]
            · have hpt : ((β : Int) % 2 == 1) = false := by
                have : ¬ (β : Int) % 2 = 1 := by omega
                simpa using this
              go_wp2_with fail
              go_round
              case rel => exact ⟨2 + 1, by omega, by rw [HB.out, if_pos (by omega)], by rw [HK.out, if_neg hpar], rfl⟩
              case measure => simp [intOf]
            · have hpt : ((β : Int) % 2 == 1) = false := by
                have : ¬ (β : Int) % 2 = 1 := by omega
                simpa using this
              go_wp2_with fail
              go_round
              case rel => exact ⟨2 + 1, by omega, by rw [HB.out, if_neg (by omega)]; go_num, by rw [HK.out, if_neg hpar], rfl⟩
              case measure => simp [intOf]
          · rw [show ((3 : Nat) : Int) = 3 from rfl]
            have xo := or_3
            by_cases hpar : β % 2 = 1 <;> by_cases hov : 255 < (β : Int) * 2
            · have hpt : ((β : Int) % 2 == 1) = true := by
                have : (β : Int) % 2 = 1 := by omega
                simpa using this
              go_wp2_with fail
              go_round
              case rel => exact ⟨3 + 1, by omega, by rw [HB.out, if_pos (by omega)], by rw [HK.out, if_pos hpar], rfl⟩
              case measure => simp [intOf]
            · have hpt : ((β : Int) % 2 == 1) = true := by
                have : (β : Int) % 2 = 1 := by omega
                simpa using this
              go_wp2_with fail
              go_round
              case rel => exact ⟨3 + 1, by omega, by rw [HB.out, if_neg (by omega)]; go_num, by rw [HK.out, if_pos hpar], rfl⟩
              case measure => simp [intOf]
            · have hpt : ((β : Int) % 2 == 1) = false := by
                have : ¬ (β : Int) % 2 = 1 := by omega
                simpa using this
              go_wp2_with fail
              go_round
              case rel => exact ⟨3 + 1, by omega, by rw [HB.out, if_pos (by omega)], by rw [HK.out, if_neg hpar], rfl⟩
              case measure => simp [intOf]
            · have hpt : ((β : Int) % 2 == 1) = false := by
                have : ¬ (β : Int) % 2 = 1 := by omega
                simpa using this
              go_wp2_with fail
              go_round
              case rel => exact ⟨3 + 1, by omega, by rw [HB.out, if_neg (by omega)]; go_num, by rw [HK.out, if_neg hpar], rfl⟩
              case measure => simp [intOf]
          · rw [show ((4 : Nat) : Int) = 4 from rfl]
            have xo := or_4
            by_cases hpar : β % 2 = 1 <;> by_cases hov : 255 < (β : Int) * 2
            · have hpt : ((β : Int) % 2 == 1) = true := by
                have : (β : Int) % 2 = 1 := by omega
                simpa using this
              go_wp2_with fail
              go_round
              case rel => exact ⟨4 + 1, by omega, by rw [HB.out, if_pos (by omega)], by rw [HK.out, if_pos hpar], rfl⟩
              case measure => simp [intOf]
            · have hpt : ((β : Int) % 2 == 1) = true := by
                have : (β : Int) % 2 = 1 := by omega
                simpa using this
              go_wp2_with fail
              go_round
              case rel => exact ⟨4 + 1, by omega, by rw [HB.out, if_neg (by omega)]; go_num, by rw [HK.out, if_pos hpar], rfl⟩
              case measure => simp [intOf]
            · have hpt : ((β : Int) % 2 == 1) = false := by
                have : ¬ (β : Int) % 2 = 1 := by omega
                simpa using this
              go_wp2_with fail
              go_round
              case rel => exact ⟨4 + 1, by omega, by rw [HB.out, if_pos (by omega)], by rw [HK.out, if_neg hpar], rfl⟩
              case measure => simp [intOf]
            · have hpt : ((β : Int) % 2 == 1) = false := by
                have : ¬ (β : Int) % 2 = 1 := by omega
                simpa using this
              go_wp2_with fail
              go_round
              case rel => exact ⟨4 + 1, by omega, by rw [HB.out, if_neg (by omega)]; go_num, by rw [HK.out, if_neg hpar], rfl⟩
              case measure => simp [intOf]
          · rw [show ((5 : Nat) : Int) = 5 from rfl]
            have xo := or_5
            by_cases hpar : β % 2 = 1 <;> by_cases hov : 255 < (β : Int) * 2
            · have hpt : ((β : Int) % 2 == 1) = true := by
                have : (β : Int) % 2 = 1 := by omega
                simpa using this
              go_wp2_with fail
              go_round
              case rel => exact ⟨5 + 1, by omega, by rw [HB.out, if_pos (by omega)], by rw [HK.out, if_pos hpar], rfl⟩
              case measure => simp [intOf]
            · have hpt : ((β : Int) % 2 == 1) = true := by
                have : (β : Int) % 2 = 1 := by omega
                simpa using this
              go_wp2_with fail
              go_round
              case rel => exact ⟨5 + 1, by omega, by rw [HB.out, if_neg (by omega)]; go_num, by rw [HK.out, if_pos hpar], rfl⟩
              case measure => simp [intOf]
            · have hpt : ((β : Int) % 2 == 1) = false := by
                have : ¬ (β : Int) % 2 = 1 := by omega
                simpa using this
              go_wp2_with fail
              go_round
              case rel => exact ⟨5 + 1, by omega, by rw [HB.out, if_pos (by omega)], by rw [HK.out, if_neg hpar], rfl⟩
              case measure => simp [intOf]
            · have hpt : ((β : Int) % 2 == 1) = false := by
                have : ¬ (β : Int) % 2 = 1 := by omega
                simpa using this
              go_wp2_with fail
              go_round
              case rel => exact ⟨5 + 1, by omega, by rw [HB.out, if_neg (by omega)]; go_num, by rw [HK.out, if_neg hpar], rfl⟩
              case measure => simp [intOf]
          · rw [show ((6 : Nat) : Int) = 6 from rfl]
            have xo := or_6
            by_cases hpar : β % 2 = 1 <;> by_cases hov : 255 < (β : Int) * 2
            · have hpt : ((β : Int) % 2 == 1) = true := by
                have : (β : Int) % 2 = 1 := by omega
                simpa using this
              go_wp2_with fail
              go_round
              case rel => exact ⟨6 + 1, by omega, by rw [HB.out, if_pos (by omega)], by rw [HK.out, if_pos hpar], rfl⟩
              case measure => simp [intOf]
            · have hpt : ((β : Int) % 2 == 1) = true := by
                have : (β : Int) % 2 = 1 := by omega
                simpa using this
              go_wp2_with fail
              go_round
              case rel => exact ⟨6 + 1, by omega, by rw [HB.out, if_neg (by omega)]; go_num, by rw [HK.out, if_pos hpar], rfl⟩
              case measure => simp [intOf]
            · have hpt : ((β : Int) % 2 == 1) = false := by
                have : ¬ (β : Int) % 2 = 1 := by omega
                simpa using this
              go_wp2_with fail
              go_round
              case rel => exact ⟨6 + 1, by omega, by rw [HB.out, if_pos (by omega)], by rw [HK.out, if_neg hpar], rfl⟩
              case measure => simp [intOf]
            · have hpt : ((β : Int) % 2 == 1) = false := by
                have : ¬ (β : Int) % 2 = 1 := by omega
                simpa using this
              go_wp2_with fail
              go_round
              case rel => exact ⟨6 + 1, by omega, by rw [HB.out, if_neg (by omega)]; go_num, by rw [HK.out, if_neg hpar], rfl⟩
              case measure => simp [intOf]
        · obtain rfl : m = 7 := by omega
          clear hm
          generalize hbv : bq (7 * n + 7) = β at *
          have HBV : Hid (bq (7 * (n + 1)) = β) := Lib.hid hbv
          clear hbv
          generalize hkv : kw n 7 = κ at *
          have HKV := Lib.hid hkv
          clear hkv
          have hown := hp.out.1
          have hbe := hp.out.2
          have hsz : q ≤ wr.heap.size := by rw [← HQ.out] at hbe ⊢; exact hbe.size
          have HO := Lib.hid hown
          have HBE := Lib.hid hbe
          have HSZ := Lib.hid hsz
          clear hown hbe hsz hp
          go_wp2_with (refine wpList_append_at _ rfl (.tmp 30) (.tmp 32) 39 rfl q 22 i0 (.int .u64 0) 1 8 und59 HI.out rfl (by decide) _ n ((consts.take n).map wv) rfl (HO.out.alloc _) ⟨wr.heap.size, 0, none⟩ 1 1 [.int .u64 (W κ)] rfl rfl (one_at rfl _ _) (by intro u hu; simp at hu; subst hu; rfl) (by unfold maxLen; omega) (by omega) (by simp; have := HSZ.out; omega) ?_; intro v' w1 hown1 hgrow hat)
          refine ⟨⟨n + 1, by omega, by rw [HBV.out], by go_num, Lib.hid ⟨?_, ?_⟩⟩, by simp [intOf]; omega⟩
          · have e : (consts.take (n + 1)).map wv = (consts.take n).map wv ++ [.int .u64 (W κ)] := by
              rw [List.take_succ_eq_append_getElem (show n < consts.length from by have : consts.length = 24 := rfl; omega), List.map_append]
              rw [← HKV.out, kw_all n (by omega), List.getD_eq_getElem?_getD, List.getElem?_eq_getElem (show n < consts.length from by have : consts.length = 24 := rfl; omega)]
              rfl
            rw [e]; exact hown1
          · exact below_grown (by rw [HQ.out]; exact Nat.le_refl _) (HBE.out.alloc (by exact HSZ.out) _) hgrow (fun k hk => by
              rcases ownsRow_forms HO.out with ⟨rfl, _⟩ | ⟨g, c, rfl, hg, _⟩
              · cases hk
              · injection hk with hk; subst hk; exact hg)
    · obtain rfl : n = 24 := by omega
      have h2 := hp.out.2
      have h1 : wr.ownsRow q 22 1 _ 24 (consts.map wv) := hp.out.1
      have H1 := Lib.hid h1
      have H2 := Lib.hid h2
      clear h1 h2 hp
      go_wp2_with fail
      go_ret
      exact ⟨_, rfl, H1.out, H2.out⟩
end Kc
end Go.Proofs.YtcgpdijpppcbiaaGreatDoor
namespace Go.Proofs.YtcgpdijpppcbiaaGreatDoor
open Go.RowKit
set_option linter.unusedVariables false
namespace Kc
set_option maxHeartbeats 2000000 in
set_option maxRecDepth 100000 in
theorem left_is (x : Wd64) (s : Nat) (hs : s < 64) (w : World) :
    Calls Tryz.prog 71 #[.int .u64 (W x), .int .i64 s] w fun e w' => e = .returned (.int .u64 (W (rotl x s))) ∧ w = w' := by
  by_cases h0 : s = 0
  · subst h0
    go_enter Tryz.func71, Tryz.ntmps71
    go_wp2_with fail
    go_ret
    refine ⟨?_, rfl⟩
    rw [rotl_zero]
    rfl
  · have hsi : (s : Int) < 64 := by omega
    have hsi0 : (0 : Int) < s := by omega
    have htst : ((s : Int) % 64 == 0) = false := by
      have : ¬ ((s : Int) % 64 = 0) := by omega
      simpa using this
    go_enter Tryz.func71, Tryz.ntmps71
    go_wp2_with fail
    go_ret
    refine ⟨?_, rfl⟩
    show Ending.returned (.int .u64 (bits BinOp.or IntKind.u64 (IntKind.u64.wrap (W x * 2 ^ (s % 64))) (W x / 2 ^ (64 - s % 64)))) = _
    rw [Nat.mod_eq_of_lt hs, wr_shl x s hs, W_shr, W_or, rotl_is x s (by omega) hs]
end Kc
end Go.Proofs.YtcgpdijpppcbiaaGreatDoor
namespace Go.Proofs.YtcgpdijpppcbiaaGreatDoor
def loopsOf : Code → List Code
  | .loop c => [c]
  | .seq a b => loopsOf a ++ loopsOf b
  | .block _ c => loopsOf c
  | .scope c => loopsOf c
  | .cond _ a b => loopsOf a ++ loopsOf b
  | _ => []
/-- The loop number n of a code, by its body. -/
def loopAt (n : Nat) (c : Code) : Code := (loopsOf c).getD n .skip
end Go.Proofs.YtcgpdijpppcbiaaGreatDoor
namespace Go.Proofs.YtcgpdijpppcbiaaGreatDoor
open Go.RowKit
set_option linter.unusedVariables false
namespace Kc
structure Pf (W : World) (q0 qr q8 q9 qc qt : Nat) (a b c : Nat → Wd64) (y : World) : Prop where
  sa : IsTab y q0 141 25 fun i => wv (a i)
  sr : IsTab y qr 141 25 fun _ => wv 0#64
  sb : IsTab y q8 141 25 fun i => wv (b i)
  sc : IsTab y q9 141 25 fun i => wv (c i)
  cons : ∀ i, i < 24 → y.cell? ⟨qc, i, none⟩ = some (wv (consts.getD i 0#64))
  turn : ∀ j, j < 25 → y.cell? ⟨qt, j, none⟩ = some (tv (turns.getD j 0))
  lc : qc < W.heap.size
  lt : qt < W.heap.size
  g0 : W.heap.size ≤ q0
  o1 : q0 < qr
  o2 : qr < q8
  o3 : q8 < q9
  below : Below W.heap.size W y
namespace Pf
variable {W : World} {q0 qr q8 q9 qc qt : Nat} {a b c : Nat → Wd64} {y : World}
theorem drew (h : Pf W q0 qr q8 q9 qc qt a b c y) : Pf W q0 qr q8 q9 qc qt a b c y.drew := ⟨h.sa, h.sr, h.sb, h.sc, h.cons, h.turn, h.lc, h.lt, h.g0, h.o1, h.o2, h.o3, h.below.drew⟩
theorem cell_old (h : Pf W q0 qr q8 q9 qc qt a b c y) {q i k j : Nat} {v : Value} (hq : W.heap.size ≤ q) (hk : k < W.heap.size) : (y.setCell ⟨q, i, none⟩ v).cell? ⟨k, j, none⟩ = y.cell? ⟨k, j, none⟩ :=
  World.cell?_setCell_other _ _ _ _ (fun e => by have := congrArg Addr.block e; simp only at this; omega)
theorem setA (h : Pf W q0 qr q8 q9 qc qt a b c y) (i : Nat) (x : Wd64) : Pf W q0 qr q8 q9 qc qt (upd a i x) b c (y.setCell ⟨q0, i, none⟩ (wv x)) :=
  ⟨(h.sa.set i _).cong (fun j _ => by unfold updv upd; dsimp only; split <;> rfl), h.sr.keep (by have := h.o1; omega), h.sb.keep (by have := h.o1; have := h.o2; omega), h.sc.keep (by have := h.o1; have := h.o2; have := h.o3; omega),
   fun k hk => by rw [h.cell_old h.g0 h.lc]; exact h.cons k hk, fun k hk => by rw [h.cell_old h.g0 h.lt]; exact h.turn k hk, h.lc, h.lt, h.g0, h.o1, h.o2, h.o3, h.below.setCell h.g0 _⟩
theorem setB (h : Pf W q0 qr q8 q9 qc qt a b c y) (i : Nat) (x : Wd64) : Pf W q0 qr q8 q9 qc qt a (upd b i x) c (y.setCell ⟨q8, i, none⟩ (wv x)) :=
  have g : W.heap.size ≤ q8 := by have := h.g0; have := h.o1; have := h.o2; omega
  ⟨h.sa.keep (by have := h.o1; have := h.o2; omega), h.sr.keep (by have := h.o2; omega), (h.sb.set i _).cong (fun j _ => by unfold updv upd; dsimp only; split <;> rfl), h.sc.keep (by have := h.o3; omega),
   fun k hk => by rw [h.cell_old g h.lc]; exact h.cons k hk, fun k hk => by rw [h.cell_old g h.lt]; exact h.turn k hk, h.lc, h.lt, h.g0, h.o1, h.o2, h.o3, h.below.setCell g _⟩
theorem setC (h : Pf W q0 qr q8 q9 qc qt a b c y) (i : Nat) (x : Wd64) : Pf W q0 qr q8 q9 qc qt a b (upd c i x) (y.setCell ⟨q9, i, none⟩ (wv x)) :=
  have g : W.heap.size ≤ q9 := by have := h.g0; have := h.o1; have := h.o2; have := h.o3; omega
  ⟨h.sa.keep (by have := h.o1; have := h.o2; have := h.o3; omega), h.sr.keep (by have := h.o2; have := h.o3; omega), h.sb.keep (by have := h.o3; omega), (h.sc.set i _).cong (fun j _ => by unfold updv upd; dsimp only; split <;> rfl),
   fun k hk => by rw [h.cell_old g h.lc]; exact h.cons k hk, fun k hk => by rw [h.cell_old g h.lt]; exact h.turn k hk, h.lc, h.lt, h.g0, h.o1, h.o2, h.o3, h.below.setCell g _⟩
theorem congA (h : Pf W q0 qr q8 q9 qc qt a b c y) {a' : Nat → Wd64} (e : ∀ i, i < 25 → a i = a' i) : Pf W q0 qr q8 q9 qc qt a' b c y :=
  ⟨h.sa.cong (fun i hi => by rw [e i hi]), h.sr, h.sb, h.sc, h.cons, h.turn, h.lc, h.lt, h.g0, h.o1, h.o2, h.o3, h.below⟩
theorem congB (h : Pf W q0 qr q8 q9 qc qt a b c y) {b' : Nat → Wd64} (e : ∀ i, i < 25 → b i = b' i) : Pf W q0 qr q8 q9 qc qt a b' c y :=
  ⟨h.sa, h.sr, h.sb.cong (fun i hi => by rw [e i hi]), h.sc, h.cons, h.turn, h.lc, h.lt, h.g0, h.o1, h.o2, h.o3, h.below⟩
theorem congC (h : Pf W q0 qr q8 q9 qc qt a b c y) {c' : Nat → Wd64} (e : ∀ i, i < 25 → c i = c' i) : Pf W q0 qr q8 q9 qc qt a b c' y :=
  ⟨h.sa, h.sr, h.sb, h.sc.cong (fun i hi => by rw [e i hi]), h.cons, h.turn, h.lc, h.lt, h.g0, h.o1, h.o2, h.o3, h.below⟩
end Pf
theorem left_one (x : Wd64) (w : World) : Calls Tryz.prog 71 #[.int .u64 (W x), .int .i64 1] w fun e w' => e = .returned (.int .u64 (W (rotl x 1))) ∧ w = w' := left_is x 1 (by decide) w
def thK (a : Nat → Wd64) (x k : Nat) : Nat → Wd64 := fun j => if j % 5 < x ∨ (j % 5 = x ∧ j / 5 < k) then theta a j else 0#64
theorem thK_step (a : Nat → Wd64) (x k : Nat) (m n : Wd64) (hx : x < 5) (hm : par a ((x + 4) % 5) = m) (hn : par a ((x + 1) % 5) = n) (j : Nat) :
    upd (thK a x k) (x + 5 * k) (a (x + 5 * k) ^^^ m ^^^ rotl n 1) j = thK a x (k + 1) j := by
  unfold upd thK
  by_cases h : j = x + 5 * k
  · subst h
    rw [if_pos rfl, if_pos (by omega)]
    unfold theta dd
    rw [show (x + 5 * k) % 5 = x from by omega, hm, hn, BitVec.xor_assoc]
  · rw [if_neg h]
    by_cases h2 : j % 5 < x ∨ (j % 5 = x ∧ j / 5 < k)
    · rw [if_pos h2, if_pos (by omega)]
    · rw [if_neg h2, if_neg (by omega)]
def parK (a : Nat → Wd64) (c : Nat) : Nat → Wd64
  | 0 => 0#64
  | k + 1 => parK a c k ^^^ a (c + 5 * k)
theorem parK5 (a : Nat → Wd64) (c : Nat) : parK a c 5 = par a c := by
  show 0#64 ^^^ a (c + 5 * 0) ^^^ a (c + 5 * 1) ^^^ a (c + 5 * 2) ^^^ a (c + 5 * 3) ^^^ a (c + 5 * 4) = _
  rw [BitVec.zero_xor]; rfl
noncomputable def thBody : Code := ((Tryz.f65.body.map fun c => loopAt 0 (loopAt 0 c)).getD .skip)
set_option maxHeartbeats 40000000 in
set_option maxRecDepth 1000000 in
theorem theta_loop {Q0 : Exit → Act → World → Prop} (q0 qr q8 q9 qc qt : Nat) (a b c : Nat → Wd64) (w : World) (c0 c1 c4 c5 c7 c15 c16 c17 c18 c19 c20 c21 c22 c67 c68 c69 c70 c71 c72 c73 c74 c75 c76 c77 c78 c79 c80 c81 c82 c83 c84 c85 c86 c87 c88 c89 c90 c91 c92 c93 c94 c95 c96 c97 c98 c99 c100 c101 c102 c103 c104 c105 c106 c107 c108 c109 c110 c111 c112 c113 c114 c115 c116 c117 c118 c119 c120 c121 c122 c123 c124 c125 c126 c127 c128 c129 c130 c131 c132 c133 c134 c135 c136 c137 c138 c139 c140 c141 c142 c143 c144 c145 u11 u12 u13 u14 u23 u24 u25 u26 u27 u28 u29 u30 u31 u32 u33 u34 u35 u36 u37 u38 u39 u40 u41 u42 u43 u44 u45 u46 u47 u48 u49 u50 u51 u52 u53 u54 u55 u56 u57 u58 u59 u60 u61 u62 u63 u64 u65 u66 : Value) (z0 : World)
    (hp : Pf w q0 qr q8 q9 qc qt a (fun _ => 0#64) c z0)
    (hexit : ∀ (v11 v12 v13 v14 v23 v24 v25 v26 v27 v28 v29 v30 v31 v32 v33 v34 v35 v36 v37 v38 v39 v40 v41 v42 v43 v44 v45 v46 v47 v48 v49 v50 v51 v52 v53 v54 v55 v56 v57 v58 v59 v60 v61 v62 v63 v64 v65 v66 : Value) (z : World), Pf w q0 qr q8 q9 qc qt a (theta a) c z → Q0 (.exit 2) ⟨(c0 :: c1 :: Value.slice (some ⟨qt, 0, none⟩) 25 25 :: Value.pointer (some ⟨q0, 0, none⟩) :: c4 :: c5 :: Value.pointer (some ⟨qr, 0, none⟩) :: c7 :: Value.pointer (some ⟨q8, 0, none⟩) :: Value.pointer (some ⟨q9, 0, none⟩) :: Value.int .i64 5 :: v11 :: v12 :: v13 :: v14 :: c15 :: c16 :: c17 :: c18 :: c19 :: c20 :: c21 :: c22 :: v23 :: v24 :: v25 :: v26 :: v27 :: v28 :: v29 :: v30 :: v31 :: v32 :: v33 :: v34 :: v35 :: v36 :: v37 :: v38 :: v39 :: v40 :: v41 :: v42 :: v43 :: v44 :: v45 :: v46 :: v47 :: v48 :: v49 :: v50 :: v51 :: v52 :: v53 :: v54 :: v55 :: v56 :: v57 :: v58 :: v59 :: v60 :: v61 :: v62 :: v63 :: v64 :: v65 :: v66 :: c67 :: c68 :: c69 :: c70 :: c71 :: c72 :: c73 :: c74 :: c75 :: c76 :: c77 :: c78 :: c79 :: c80 :: c81 :: c82 :: c83 :: c84 :: c85 :: c86 :: c87 :: c88 :: c89 :: c90 :: c91 :: c92 :: c93 :: c94 :: c95 :: c96 :: c97 :: c98 :: c99 :: c100 :: c101 :: c102 :: c103 :: c104 :: c105 :: c106 :: c107 :: c108 :: c109 :: c110 :: c111 :: c112 :: c113 :: c114 :: c115 :: c116 :: c117 :: c118 :: c119 :: c120 :: c121 :: c122 :: c123 :: c124 :: c125 :: c126 :: c127 :: c128 :: c129 :: c130 :: c131 :: c132 :: c133 :: c134 :: c135 :: c136 :: c137 :: c138 :: c139 :: c140 :: c141 :: c142 :: c143 :: c144 :: c145 :: []).toArray, []⟩ z) :
    Code.wp Tryz.prog (Code.loop thBody) Q0 ⟨(c0 :: c1 :: Value.slice (some ⟨qt, 0, none⟩) 25 25 :: Value.pointer (some ⟨q0, 0, none⟩) :: c4 :: c5 :: Value.pointer (some ⟨qr, 0, none⟩) :: c7 :: Value.pointer (some ⟨q8, 0, none⟩) :: Value.pointer (some ⟨q9, 0, none⟩) :: Value.int .i64 0 :: u11 :: u12 :: u13 :: u14 :: c15 :: c16 :: c17 :: c18 :: c19 :: c20 :: c21 :: c22 :: u23 :: u24 :: u25 :: u26 :: u27 :: u28 :: u29 :: u30 :: u31 :: u32 :: u33 :: u34 :: u35 :: u36 :: u37 :: u38 :: u39 :: u40 :: u41 :: u42 :: u43 :: u44 :: u45 :: u46 :: u47 :: u48 :: u49 :: u50 :: u51 :: u52 :: u53 :: u54 :: u55 :: u56 :: u57 :: u58 :: u59 :: u60 :: u61 :: u62 :: u63 :: u64 :: u65 :: u66 :: c67 :: c68 :: c69 :: c70 :: c71 :: c72 :: c73 :: c74 :: c75 :: c76 :: c77 :: c78 :: c79 :: c80 :: c81 :: c82 :: c83 :: c84 :: c85 :: c86 :: c87 :: c88 :: c89 :: c90 :: c91 :: c92 :: c93 :: c94 :: c95 :: c96 :: c97 :: c98 :: c99 :: c100 :: c101 :: c102 :: c103 :: c104 :: c105 :: c106 :: c107 :: c108 :: c109 :: c110 :: c111 :: c112 :: c113 :: c114 :: c115 :: c116 :: c117 :: c118 :: c119 :: c120 :: c121 :: c122 :: c123 :: c124 :: c125 :: c126 :: c127 :: c128 :: c129 :: c130 :: c131 :: c132 :: c133 :: c134 :: c135 :: c136 :: c137 :: c138 :: c139 :: c140 :: c141 :: c142 :: c143 :: c144 :: c145 :: []).toArray, []⟩ z0 := by
  conv => arg 2; whnf
  conv => arg 2; arg 1; whnf
  have HEX := Lib.hid hexit
  clear hexit
  have HPP := Lib.hid hp
  clear hp
  go_loopw [10] (fun s z => ∃ x : Nat, x ≤ 5 ∧ s = .int .i64 x ∧ Hid (Pf w q0 qr q8 q9 qc qt a (thK a x 0) c z)) (fun s _ => 5 - (intOf s).toNat)
  case atStart => exact ⟨0, by decide, rfl, Lib.hid (HPP.out.congB fun j _ => by unfold thK; rw [if_neg (by omega)])⟩
  case round =>
    obtain ⟨x, hx, rfl, hp⟩ := hrel
    clear HPP
    by_cases hx5 : (x : Int) < 5
    · have hc : x = 0 ∨ x = 1 ∨ x = 2 ∨ x = 3 ∨ x = 4 := by omega
      clear hx hx5
      rcases hc with rfl | rfl | rfl | rfl | rfl
      · rw [show ((0 : Nat) : Int) = 0 from rfl]
        go_wp2_with fail
        go_loop [11, 12, 13] (fun m n y => ∃ k : Nat, k ≤ 5 ∧ m = .int .u64 (W (parK a 4 k)) ∧ n = .int .u64 (W (parK a 1 k)) ∧ y = .int .i64 (5 * (k : Int))) (fun _ _ y => 25 - (intOf y).toNat)
        case atStart => exact ⟨0, by decide, rfl, rfl, rfl⟩
        case round =>
          obtain ⟨k, hk, rfl, rfl, rfl⟩ := hrel
          by_cases hk5 : (k : Int) < 5
          · have a1 : _ = some (Value.int .u64 (W (a (4 + 5 * k)))) := hp.out.sa.cell (4 + 5 * k) (by omega)
            have a2 : _ = some (Value.int .u64 (W (a (1 + 5 * k)))) := hp.out.sa.cell (1 + 5 * k) (by omega)
            have e1 : parK a 4 k ^^^ a (4 + 5 * k) = parK a 4 (k + 1) := rfl
            have e2 : parK a 1 k ^^^ a (1 + 5 * k) = parK a 1 (k + 1) := rfl
            have E1 := Lib.hid e1
            have E2 := Lib.hid e2
            clear e1 e2
            generalize parK a 4 k = p1 at *
            generalize parK a 1 k = p2 at *
            go_wp2_with fail
            go_round
            case rel => exact ⟨k + 1, by omega, by rw [W_xor, ← E1.out], by rw [W_xor, ← E2.out], by go_num⟩
            case measure => simp [intOf]; omega
          · obtain rfl : k = 5 := by omega
            rw [parK5, parK5]
            generalize hm : par a 4 = m at *
            generalize hn : par a 1 = n at *
            have HM := Lib.hid hm
            have HN := Lib.hid hn
            clear hm hn
            go_wp2_with fail
            go_loopw [14] (fun y z => ∃ k : Nat, k ≤ 5 ∧ y = .int .i64 (5 * (k : Int)) ∧ Hid (Pf w q0 qr q8 q9 qc qt a (thK a 0 k) c z)) (fun y _ => 25 - (intOf y).toNat)
            case atStart => exact ⟨0, by decide, rfl, hp⟩
            case round =>
              obtain ⟨k, hk, rfl, hp2⟩ := hrel
              clear hp
              by_cases hk5 : (k : Int) < 5
              · have NE : Nonempty (Wd (Pf w q0 qr q8 q9 qc qt a (thK a 0 k) c)) := ⟨⟨_, hp2.out⟩⟩
                have a1 : ∀ z : Wd (Pf w q0 qr q8 q9 qc qt a (thK a 0 k) c), z.val.cell? ⟨q0, 0 + 5 * k, none⟩ = some (Value.int .u64 (W (a (0 + 5 * k)))) := fun z => z.ok.sa.cell (0 + 5 * k) (by omega)
                simp only [Nat.zero_add] at a1
                have s2 : (0 : Int) ≤ 0 + 5 * (k : Int) := by omega
                have s3 : (0 : Int) + 5 * (k : Int) < 25 := by omega
                have s4 : ((0 : Int) + 5 * (k : Int)).toNat = 0 + 5 * k := by omega
                have s1 : IntKind.i64.wrap ((0 : Int) + 5 * (k : Int)) = 0 + 5 * (k : Int) := IntWalk.i64_in _ (by omega)
                have q1 := fun z : Wd (Pf w q0 qr q8 q9 qc qt a (thK a 0 k) c) => in_of_same z (left_one n z.val)
                have Q1 := Lib.hid q1
                clear q1
                have HP2 := Lib.hid hp2.out.drew
                go_upto_region 17 with (fail)
                refine wp_region_quiet_tail 14 (Pf w q0 qr q8 q9 qc qt a (thK a 0 k) c) (by kernel_rfl) (by kernel_rfl) HP2.out ?_
                simp only [List.take_succ_cons, List.take_zero, List.drop_succ_cons, List.drop_zero]
                repeat (go_big_quiet_step (with_reducible exact Q1.out _))
                refine wpQuiet_nil ?_
                rintro _ ⟨z, rfl⟩
                have fj := z.ok.sb.fz (0 + 5 * k)
                have sj : _ = some (Value.int .u64 (W (thK a 0 k (0 + 5 * k)))) := z.ok.sb.cell (0 + 5 * k) (by omega)
                clear a1 s1 s2 s3 s4 Q1 HP2 NE hp2
                simp only [Nat.zero_add] at fj sj
                go_wp2_with fail
                rw [W_xor, W_xor]
                exact ⟨⟨k + 1, by omega, congrArg _ (by omega), (by have h := (z.ok.setB (0 + 5 * k) (a (0 + 5 * k) ^^^ m ^^^ rotl n 1)).congB (fun j _ => thK_step a 0 k m n (by decide) HM.out HN.out j); simp only [Nat.zero_add] at h; exact Lib.hid h)⟩, by simp [intOf]; omega⟩
              · obtain rfl : k = 5 := by omega
                have hpn := Lib.hid (hp2.out.congB (b' := thK a (0 + 1) 0) (fun i hi => by
                  unfold thK
                  by_cases h1 : i % 5 < 0 ∨ (i % 5 = 0 ∧ i / 5 < 5)
                  · rw [if_pos h1, if_pos (by omega)]
                  · rw [if_neg h1, if_neg (by omega)]))
                clear hp2
                go_wp2_with fail
                go_roundw
                case rel => exact ⟨0 + 1, by omega, by go_num, hpn⟩
                case measure => simp [intOf]
      · rw [show ((1 : Nat) : Int) = 1 from rfl]
        go_wp2_with fail
        go_loop [11, 12, 13] (fun m n y => ∃ k : Nat, k ≤ 5 ∧ m = .int .u64 (W (parK a 0 k)) ∧ n = .int .u64 (W (parK a 2 k)) ∧ y = .int .i64 (5 * (k : Int))) (fun _ _ y => 25 - (intOf y).toNat)
        case atStart => exact ⟨0, by decide, rfl, rfl, rfl⟩
        case round =>
          obtain ⟨k, hk, rfl, rfl, rfl⟩ := hrel
          by_cases hk5 : (k : Int) < 5
          · have a1 : _ = some (Value.int .u64 (W (a (0 + 5 * k)))) := hp.out.sa.cell (0 + 5 * k) (by omega)
            have a2 : _ = some (Value.int .u64 (W (a (2 + 5 * k)))) := hp.out.sa.cell (2 + 5 * k) (by omega)
            have e1 : parK a 0 k ^^^ a (0 + 5 * k) = parK a 0 (k + 1) := rfl
            have e2 : parK a 2 k ^^^ a (2 + 5 * k) = parK a 2 (k + 1) := rfl
            rw [Nat.zero_add] at e1
            have E1 := Lib.hid e1
            have E2 := Lib.hid e2
            clear e1 e2
            generalize parK a 0 k = p1 at *
            generalize parK a 2 k = p2 at *
            rw [Nat.zero_add] at a1
            go_wp2_with fail
            go_round
            case rel => exact ⟨k + 1, by omega, by rw [W_xor, ← E1.out], by rw [W_xor, ← E2.out], by go_num⟩
            case measure => simp [intOf]; omega
          · obtain rfl : k = 5 := by omega
            rw [parK5, parK5]
            generalize hm : par a 0 = m at *
            generalize hn : par a 2 = n at *
            have HM := Lib.hid hm
            have HN := Lib.hid hn
            clear hm hn
            go_wp2_with fail
            go_loopw [14] (fun y z => ∃ k : Nat, k ≤ 5 ∧ y = .int .i64 (5 * (k : Int)) ∧ Hid (Pf w q0 qr q8 q9 qc qt a (thK a 1 k) c z)) (fun y _ => 25 - (intOf y).toNat)
            case atStart => exact ⟨0, by decide, rfl, hp⟩
            case round =>
              obtain ⟨k, hk, rfl, hp2⟩ := hrel
              clear hp
              by_cases hk5 : (k : Int) < 5
              · have NE : Nonempty (Wd (Pf w q0 qr q8 q9 qc qt a (thK a 1 k) c)) := ⟨⟨_, hp2.out⟩⟩
                have a1 : ∀ z : Wd (Pf w q0 qr q8 q9 qc qt a (thK a 1 k) c), z.val.cell? ⟨q0, 1 + 5 * k, none⟩ = some (Value.int .u64 (W (a (1 + 5 * k)))) := fun z => z.ok.sa.cell (1 + 5 * k) (by omega)
                have s2 : (0 : Int) ≤ 1 + 5 * (k : Int) := by omega
                have s3 : (1 : Int) + 5 * (k : Int) < 25 := by omega
                have s4 : ((1 : Int) + 5 * (k : Int)).toNat = 1 + 5 * k := by omega
                have s1 : IntKind.i64.wrap ((1 : Int) + 5 * (k : Int)) = 1 + 5 * (k : Int) := IntWalk.i64_in _ (by omega)
                have q1 := fun z : Wd (Pf w q0 qr q8 q9 qc qt a (thK a 1 k) c) => in_of_same z (left_one n z.val)
                have Q1 := Lib.hid q1
                clear q1
                have HP2 := Lib.hid hp2.out.drew
                go_upto_region 17 with (fail)
                refine wp_region_quiet_tail 14 (Pf w q0 qr q8 q9 qc qt a (thK a 1 k) c) (by kernel_rfl) (by kernel_rfl) HP2.out ?_
                simp only [List.take_succ_cons, List.take_zero, List.drop_succ_cons, List.drop_zero]
                repeat (go_big_quiet_step (with_reducible exact Q1.out _))
                refine wpQuiet_nil ?_
                rintro _ ⟨z, rfl⟩
                have fj := z.ok.sb.fz (1 + 5 * k)
                have sj : _ = some (Value.int .u64 (W (thK a 1 k (1 + 5 * k)))) := z.ok.sb.cell (1 + 5 * k) (by omega)
                clear a1 s1 s2 s3 s4 Q1 HP2 NE hp2
                go_wp2_with fail
                rw [W_xor, W_xor]
                exact ⟨⟨k + 1, by omega, congrArg _ (by omega), Lib.hid ((z.ok.setB (1 + 5 * k) _).congB (fun j _ => thK_step a 1 k m n (by decide) HM.out HN.out j))⟩, by simp [intOf]; omega⟩
              · obtain rfl : k = 5 := by omega
                have hpn := Lib.hid (hp2.out.congB (b' := thK a (1 + 1) 0) (fun i hi => by
                  unfold thK
                  by_cases h1 : i % 5 < 1 ∨ (i % 5 = 1 ∧ i / 5 < 5)
                  · rw [if_pos h1, if_pos (by omega)]
                  · rw [if_neg h1, if_neg (by omega)]))
                clear hp2
                go_wp2_with fail
                go_roundw
                case rel => exact ⟨1 + 1, by omega, by go_num, hpn⟩
                case measure => simp [intOf]
      · rw [show ((2 : Nat) : Int) = 2 from rfl]
        go_wp2_with fail
        go_loop [11, 12, 13] (fun m n y => ∃ k : Nat, k ≤ 5 ∧ m = .int .u64 (W (parK a 1 k)) ∧ n = .int .u64 (W (parK a 3 k)) ∧ y = .int .i64 (5 * (k : Int))) (fun _ _ y => 25 - (intOf y).toNat)
        case atStart => exact ⟨0, by decide, rfl, rfl, rfl⟩
        case round =>
          obtain ⟨k, hk, rfl, rfl, rfl⟩ := hrel
          by_cases hk5 : (k : Int) < 5
          · have a1 : _ = some (Value.int .u64 (W (a (1 + 5 * k)))) := hp.out.sa.cell (1 + 5 * k) (by omega)
            have a2 : _ = some (Value.int .u64 (W (a (3 + 5 * k)))) := hp.out.sa.cell (3 + 5 * k) (by omega)
            have e1 : parK a 1 k ^^^ a (1 + 5 * k) = parK a 1 (k + 1) := rfl
            have e2 : parK a 3 k ^^^ a (3 + 5 * k) = parK a 3 (k + 1) := rfl
            have E1 := Lib.hid e1
            have E2 := Lib.hid e2
            clear e1 e2
            generalize parK a 1 k = p1 at *
            generalize parK a 3 k = p2 at *
            go_wp2_with fail
            go_round
            case rel => exact ⟨k + 1, by omega, by rw [W_xor, ← E1.out], by rw [W_xor, ← E2.out], by go_num⟩
            case measure => simp [intOf]; omega
          · obtain rfl : k = 5 := by omega
            rw [parK5, parK5]
            generalize hm : par a 1 = m at *
            generalize hn : par a 3 = n at *
            have HM := Lib.hid hm
            have HN := Lib.hid hn
            clear hm hn
            go_wp2_with fail
            go_loopw [14] (fun y z => ∃ k : Nat, k ≤ 5 ∧ y = .int .i64 (5 * (k : Int)) ∧ Hid (Pf w q0 qr q8 q9 qc qt a (thK a 2 k) c z)) (fun y _ => 25 - (intOf y).toNat)
            case atStart => exact ⟨0, by decide, rfl, hp⟩
            case round =>
              obtain ⟨k, hk, rfl, hp2⟩ := hrel
              clear hp
              by_cases hk5 : (k : Int) < 5
              · have NE : Nonempty (Wd (Pf w q0 qr q8 q9 qc qt a (thK a 2 k) c)) := ⟨⟨_, hp2.out⟩⟩
                have a1 : ∀ z : Wd (Pf w q0 qr q8 q9 qc qt a (thK a 2 k) c), z.val.cell? ⟨q0, 2 + 5 * k, none⟩ = some (Value.int .u64 (W (a (2 + 5 * k)))) := fun z => z.ok.sa.cell (2 + 5 * k) (by omega)
                have s2 : (0 : Int) ≤ 2 + 5 * (k : Int) := by omega
                have s3 : (2 : Int) + 5 * (k : Int) < 25 := by omega
                have s4 : ((2 : Int) + 5 * (k : Int)).toNat = 2 + 5 * k := by omega
                have s1 : IntKind.i64.wrap ((2 : Int) + 5 * (k : Int)) = 2 + 5 * (k : Int) := IntWalk.i64_in _ (by omega)
                have q1 := fun z : Wd (Pf w q0 qr q8 q9 qc qt a (thK a 2 k) c) => in_of_same z (left_one n z.val)
                have Q1 := Lib.hid q1
                clear q1
                have HP2 := Lib.hid hp2.out.drew
                go_upto_region 17 with (fail)
                refine wp_region_quiet_tail 14 (Pf w q0 qr q8 q9 qc qt a (thK a 2 k) c) (by kernel_rfl) (by kernel_rfl) HP2.out ?_
                simp only [List.take_succ_cons, List.take_zero, List.drop_succ_cons, List.drop_zero]
                repeat (go_big_quiet_step (with_reducible exact Q1.out _))
                refine wpQuiet_nil ?_
                rintro _ ⟨z, rfl⟩
                have fj := z.ok.sb.fz (2 + 5 * k)
                have sj : _ = some (Value.int .u64 (W (thK a 2 k (2 + 5 * k)))) := z.ok.sb.cell (2 + 5 * k) (by omega)
                clear a1 s1 s2 s3 s4 Q1 HP2 NE hp2
                go_wp2_with fail
                rw [W_xor, W_xor]
                exact ⟨⟨k + 1, by omega, congrArg _ (by omega), Lib.hid ((z.ok.setB (2 + 5 * k) _).congB (fun j _ => thK_step a 2 k m n (by decide) HM.out HN.out j))⟩, by simp [intOf]; omega⟩
              · obtain rfl : k = 5 := by omega
                have hpn := Lib.hid (hp2.out.congB (b' := thK a (2 + 1) 0) (fun i hi => by
                  unfold thK
                  by_cases h1 : i % 5 < 2 ∨ (i % 5 = 2 ∧ i / 5 < 5)
                  · rw [if_pos h1, if_pos (by omega)]
                  · rw [if_neg h1, if_neg (by omega)]))
                clear hp2
                go_wp2_with fail
                go_roundw
                case rel => exact ⟨2 + 1, by omega, by go_num, hpn⟩
                case measure => simp [intOf]
      · rw [show ((3 : Nat) : Int) = 3 from rfl]
        go_wp2_with fail
        go_loop [11, 12, 13] (fun m n y => ∃ k : Nat, k ≤ 5 ∧ m = .int .u64 (W (parK a 2 k)) ∧ n = .int .u64 (W (parK a 4 k)) ∧ y = .int .i64 (5 * (k : Int))) (fun _ _ y => 25 - (intOf y).toNat)
        case atStart => exact ⟨0, by decide, rfl, rfl, rfl⟩
        case round =>
          obtain ⟨k, hk, rfl, rfl, rfl⟩ := hrel
          by_cases hk5 : (k : Int) < 5
          · have a1 : _ = some (Value.int .u64 (W (a (2 + 5 * k)))) := hp.out.sa.cell (2 + 5 * k) (by omega)
            have a2 : _ = some (Value.int .u64 (W (a (4 + 5 * k)))) := hp.out.sa.cell (4 + 5 * k) (by omega)
            have e1 : parK a 2 k ^^^ a (2 + 5 * k) = parK a 2 (k + 1) := rfl
            have e2 : parK a 4 k ^^^ a (4 + 5 * k) = parK a 4 (k + 1) := rfl
            have E1 := Lib.hid e1
            have E2 := Lib.hid e2
            clear e1 e2
            generalize parK a 2 k = p1 at *
            generalize parK a 4 k = p2 at *
            go_wp2_with fail
            go_round
            case rel => exact ⟨k + 1, by omega, by rw [W_xor, ← E1.out], by rw [W_xor, ← E2.out], by go_num⟩
            case measure => simp [intOf]; omega
          · obtain rfl : k = 5 := by omega
            rw [parK5, parK5]
            generalize hm : par a 2 = m at *
            generalize hn : par a 4 = n at *
            have HM := Lib.hid hm
            have HN := Lib.hid hn
            clear hm hn
            go_wp2_with fail
            go_loopw [14] (fun y z => ∃ k : Nat, k ≤ 5 ∧ y = .int .i64 (5 * (k : Int)) ∧ Hid (Pf w q0 qr q8 q9 qc qt a (thK a 3 k) c z)) (fun y _ => 25 - (intOf y).toNat)
            case atStart => exact ⟨0, by decide, rfl, hp⟩
            case round =>
              obtain ⟨k, hk, rfl, hp2⟩ := hrel
              clear hp
              by_cases hk5 : (k : Int) < 5
              · have NE : Nonempty (Wd (Pf w q0 qr q8 q9 qc qt a (thK a 3 k) c)) := ⟨⟨_, hp2.out⟩⟩
                have a1 : ∀ z : Wd (Pf w q0 qr q8 q9 qc qt a (thK a 3 k) c), z.val.cell? ⟨q0, 3 + 5 * k, none⟩ = some (Value.int .u64 (W (a (3 + 5 * k)))) := fun z => z.ok.sa.cell (3 + 5 * k) (by omega)
                have s2 : (0 : Int) ≤ 3 + 5 * (k : Int) := by omega
                have s3 : (3 : Int) + 5 * (k : Int) < 25 := by omega
                have s4 : ((3 : Int) + 5 * (k : Int)).toNat = 3 + 5 * k := by omega
                have s1 : IntKind.i64.wrap ((3 : Int) + 5 * (k : Int)) = 3 + 5 * (k : Int) := IntWalk.i64_in _ (by omega)
                have q1 := fun z : Wd (Pf w q0 qr q8 q9 qc qt a (thK a 3 k) c) => in_of_same z (left_one n z.val)
                have Q1 := Lib.hid q1
                clear q1
                have HP2 := Lib.hid hp2.out.drew
                go_upto_region 17 with (fail)
                refine wp_region_quiet_tail 14 (Pf w q0 qr q8 q9 qc qt a (thK a 3 k) c) (by kernel_rfl) (by kernel_rfl) HP2.out ?_
                simp only [List.take_succ_cons, List.take_zero, List.drop_succ_cons, List.drop_zero]
                repeat (go_big_quiet_step (with_reducible exact Q1.out _))
                refine wpQuiet_nil ?_
                rintro _ ⟨z, rfl⟩
                have fj := z.ok.sb.fz (3 + 5 * k)
                have sj : _ = some (Value.int .u64 (W (thK a 3 k (3 + 5 * k)))) := z.ok.sb.cell (3 + 5 * k) (by omega)
                clear a1 s1 s2 s3 s4 Q1 HP2 NE hp2
                go_wp2_with fail
                rw [W_xor, W_xor]
                exact ⟨⟨k + 1, by omega, congrArg _ (by omega), Lib.hid ((z.ok.setB (3 + 5 * k) _).congB (fun j _ => thK_step a 3 k m n (by decide) HM.out HN.out j))⟩, by simp [intOf]; omega⟩
              · obtain rfl : k = 5 := by omega
                have hpn := Lib.hid (hp2.out.congB (b' := thK a (3 + 1) 0) (fun i hi => by
                  unfold thK
                  by_cases h1 : i % 5 < 3 ∨ (i % 5 = 3 ∧ i / 5 < 5)
                  · rw [if_pos h1, if_pos (by omega)]
                  · rw [if_neg h1, if_neg (by omega)]))
                clear hp2
                go_wp2_with fail
                go_roundw
                case rel => exact ⟨3 + 1, by omega, by go_num, hpn⟩
                case measure => simp [intOf]
      · rw [show ((4 : Nat) : Int) = 4 from rfl]
        go_wp2_with fail
        go_loop [11, 12, 13] (fun m n y => ∃ k : Nat, k ≤ 5 ∧ m = .int .u64 (W (parK a 3 k)) ∧ n = .int .u64 (W (parK a 0 k)) ∧ y = .int .i64 (5 * (k : Int))) (fun _ _ y => 25 - (intOf y).toNat)
        case atStart => exact ⟨0, by decide, rfl, rfl, rfl⟩
        case round =>
          obtain ⟨k, hk, rfl, rfl, rfl⟩ := hrel
          by_cases hk5 : (k : Int) < 5
          · have a1 : _ = some (Value.int .u64 (W (a (3 + 5 * k)))) := hp.out.sa.cell (3 + 5 * k) (by omega)
            have a2 : _ = some (Value.int .u64 (W (a (0 + 5 * k)))) := hp.out.sa.cell (0 + 5 * k) (by omega)
            have e1 : parK a 3 k ^^^ a (3 + 5 * k) = parK a 3 (k + 1) := rfl
            have e2 : parK a 0 k ^^^ a (0 + 5 * k) = parK a 0 (k + 1) := rfl
            rw [Nat.zero_add] at e2
            have E1 := Lib.hid e1
            have E2 := Lib.hid e2
            clear e1 e2
            generalize parK a 3 k = p1 at *
            generalize parK a 0 k = p2 at *
            rw [Nat.zero_add] at a2
            go_wp2_with fail
            go_round
            case rel => exact ⟨k + 1, by omega, by rw [W_xor, ← E1.out], by rw [W_xor, ← E2.out], by go_num⟩
            case measure => simp [intOf]; omega
          · obtain rfl : k = 5 := by omega
            rw [parK5, parK5]
            generalize hm : par a 3 = m at *
            generalize hn : par a 0 = n at *
            have HM := Lib.hid hm
            have HN := Lib.hid hn
            clear hm hn
            go_wp2_with fail
            go_loopw [14] (fun y z => ∃ k : Nat, k ≤ 5 ∧ y = .int .i64 (5 * (k : Int)) ∧ Hid (Pf w q0 qr q8 q9 qc qt a (thK a 4 k) c z)) (fun y _ => 25 - (intOf y).toNat)
            case atStart => exact ⟨0, by decide, rfl, hp⟩
            case round =>
              obtain ⟨k, hk, rfl, hp2⟩ := hrel
              clear hp
              by_cases hk5 : (k : Int) < 5
              · have NE : Nonempty (Wd (Pf w q0 qr q8 q9 qc qt a (thK a 4 k) c)) := ⟨⟨_, hp2.out⟩⟩
                have a1 : ∀ z : Wd (Pf w q0 qr q8 q9 qc qt a (thK a 4 k) c), z.val.cell? ⟨q0, 4 + 5 * k, none⟩ = some (Value.int .u64 (W (a (4 + 5 * k)))) := fun z => z.ok.sa.cell (4 + 5 * k) (by omega)
                have s2 : (0 : Int) ≤ 4 + 5 * (k : Int) := by omega
                have s3 : (4 : Int) + 5 * (k : Int) < 25 := by omega
                have s4 : ((4 : Int) + 5 * (k : Int)).toNat = 4 + 5 * k := by omega
                have s1 : IntKind.i64.wrap ((4 : Int) + 5 * (k : Int)) = 4 + 5 * (k : Int) := IntWalk.i64_in _ (by omega)
                have q1 := fun z : Wd (Pf w q0 qr q8 q9 qc qt a (thK a 4 k) c) => in_of_same z (left_one n z.val)
                have Q1 := Lib.hid q1
                clear q1
                have HP2 := Lib.hid hp2.out.drew
                go_upto_region 17 with (fail)
                refine wp_region_quiet_tail 14 (Pf w q0 qr q8 q9 qc qt a (thK a 4 k) c) (by kernel_rfl) (by kernel_rfl) HP2.out ?_
                simp only [List.take_succ_cons, List.take_zero, List.drop_succ_cons, List.drop_zero]
                repeat (go_big_quiet_step (with_reducible exact Q1.out _))
                refine wpQuiet_nil ?_
                rintro _ ⟨z, rfl⟩
                have fj := z.ok.sb.fz (4 + 5 * k)
                have sj : _ = some (Value.int .u64 (W (thK a 4 k (4 + 5 * k)))) := z.ok.sb.cell (4 + 5 * k) (by omega)
                clear a1 s1 s2 s3 s4 Q1 HP2 NE hp2
                go_wp2_with fail
                rw [W_xor, W_xor]
                exact ⟨⟨k + 1, by omega, congrArg _ (by omega), Lib.hid ((z.ok.setB (4 + 5 * k) _).congB (fun j _ => thK_step a 4 k m n (by decide) HM.out HN.out j))⟩, by simp [intOf]; omega⟩
              · obtain rfl : k = 5 := by omega
                have hpn := Lib.hid (hp2.out.congB (b' := thK a (4 + 1) 0) (fun i hi => by
                  unfold thK
                  by_cases h1 : i % 5 < 4 ∨ (i % 5 = 4 ∧ i / 5 < 5)
                  · rw [if_pos h1, if_pos (by omega)]
                  · rw [if_neg h1, if_neg (by omega)]))
                clear hp2
                go_wp2_with fail
                go_roundw
                case rel => exact ⟨4 + 1, by omega, by go_num, hpn⟩
                case measure => simp [intOf]
    · obtain rfl : x = 5 := by omega
      have hpx := Lib.hid (hp.out.congB (b' := theta a) (fun i hi => by unfold thK; rw [if_pos (by omega)]))
      clear hp
      go_wp2_with fail
      exact HEX.out _ _ _ _ _ _ _ _ _ _ _ _ _ _ _ _ _ _ _ _ _ _ _ _ _ _ _ _ _ _ _ _ _ _ _ _ _ _ _ _ _ _ _ _ _ _ _ _ _ hpx.out
end Kc
end Go.Proofs.YtcgpdijpppcbiaaGreatDoor
namespace Go.Proofs.YtcgpdijpppcbiaaGreatDoor
open Go.RowKit
set_option linter.unusedVariables false
namespace Kc
def rhoK (b : Nat → Wd64) (x y : Nat) : Nat → Wd64 := fun k => if src k % 5 < x ∨ (src k % 5 = x ∧ src k / 5 < y) then rhopi b k else 0#64
theorem dst_src : ∀ x, x < 5 → ∀ y, y < 5 → ∀ k, k < 25 → (k = y + 5 * ((2 * x + 3 * y) % 5) ↔ src k = x + 5 * y) := by decide
theorem rho_step (b : Nat → Wd64) (x y L D T : Nat) (hx : x < 5) (hy : y < 5) (hL : x + 5 * y = L) (hD : y + 5 * ((2 * x + 3 * y) % 5) = D) (hT : turns.getD L 0 = T) (k : Nat) (hk : k < 25) :
    upd (rhoK b x y) D (rotl (b L) T) k = rhoK b x (y + 1) k := by
  have h := dst_src x hx y hy k hk
  rw [hD] at h
  unfold upd rhoK
  by_cases e : k = D
  · have hs := h.1 e
    rw [if_pos e, if_pos (by omega)]
    unfold rhopi
    rw [hs, hL, hT]
  · have hs : ¬ src k = x + 5 * y := fun he => e (h.2 he)
    rw [if_neg e]
    by_cases h2 : src k % 5 < x ∨ (src k % 5 = x ∧ src k / 5 < y)
    · rw [if_pos h2, if_pos (by omega)]
    · rw [if_neg h2, if_neg (by omega)]
noncomputable def rhoBody : Code := ((Tryz.f65.body.map fun c => loopAt 1 (loopAt 0 c)).getD .skip)
set_option maxHeartbeats 40000000 in
set_option maxRecDepth 1000000 in
theorem rho_loop {Q0 : Exit → Act → World → Prop} (q0 qr q8 q9 qc qt : Nat) (a b : Nat → Wd64) (w : World) (c0 c1 c4 c5 c7 c10 c11 c12 c13 c14 c17 c18 c19 c20 c21 c22 c23 c24 c25 c26 c27 c28 c29 c30 c31 c32 c33 c34 c35 c36 c37 c38 c39 c40 c41 c42 c43 c44 c45 c46 c47 c48 c49 c50 c51 c52 c53 c54 c55 c56 c57 c58 c59 c60 c61 c62 c63 c64 c65 c66 c99 c100 c101 c102 c103 c104 c105 c106 c107 c108 c109 c110 c111 c112 c113 c114 c115 c116 c117 c118 c119 c120 c121 c122 c123 c124 c125 c126 c127 c128 c129 c130 c131 c132 c133 c134 c135 c136 c137 c138 c139 c140 c141 c142 c143 c144 c145 u16 u67 u68 u69 u70 u71 u72 u73 u74 u75 u76 u77 u78 u79 u80 u81 u82 u83 u84 u85 u86 u87 u88 u89 u90 u91 u92 u93 u94 u95 u96 u97 u98 : Value) (z0 : World)
    (hp : Pf w q0 qr q8 q9 qc qt a b (fun _ => 0#64) z0)
    (hexit : ∀ (v16 v67 v68 v69 v70 v71 v72 v73 v74 v75 v76 v77 v78 v79 v80 v81 v82 v83 v84 v85 v86 v87 v88 v89 v90 v91 v92 v93 v94 v95 v96 v97 v98 : Value) (z : World), Pf w q0 qr q8 q9 qc qt a b (rhopi b) z → Q0 (.exit 8) ⟨(c0 :: c1 :: Value.slice (some ⟨qt, 0, none⟩) 25 25 :: Value.pointer (some ⟨q0, 0, none⟩) :: c4 :: c5 :: Value.pointer (some ⟨qr, 0, none⟩) :: c7 :: Value.pointer (some ⟨q8, 0, none⟩) :: Value.pointer (some ⟨q9, 0, none⟩) :: c10 :: c11 :: c12 :: c13 :: c14 :: Value.int .i64 5 :: v16 :: c17 :: c18 :: c19 :: c20 :: c21 :: c22 :: c23 :: c24 :: c25 :: c26 :: c27 :: c28 :: c29 :: c30 :: c31 :: c32 :: c33 :: c34 :: c35 :: c36 :: c37 :: c38 :: c39 :: c40 :: c41 :: c42 :: c43 :: c44 :: c45 :: c46 :: c47 :: c48 :: c49 :: c50 :: c51 :: c52 :: c53 :: c54 :: c55 :: c56 :: c57 :: c58 :: c59 :: c60 :: c61 :: c62 :: c63 :: c64 :: c65 :: c66 :: v67 :: v68 :: v69 :: v70 :: v71 :: v72 :: v73 :: v74 :: v75 :: v76 :: v77 :: v78 :: v79 :: v80 :: v81 :: v82 :: v83 :: v84 :: v85 :: v86 :: v87 :: v88 :: v89 :: v90 :: v91 :: v92 :: v93 :: v94 :: v95 :: v96 :: v97 :: v98 :: c99 :: c100 :: c101 :: c102 :: c103 :: c104 :: c105 :: c106 :: c107 :: c108 :: c109 :: c110 :: c111 :: c112 :: c113 :: c114 :: c115 :: c116 :: c117 :: c118 :: c119 :: c120 :: c121 :: c122 :: c123 :: c124 :: c125 :: c126 :: c127 :: c128 :: c129 :: c130 :: c131 :: c132 :: c133 :: c134 :: c135 :: c136 :: c137 :: c138 :: c139 :: c140 :: c141 :: c142 :: c143 :: c144 :: c145 :: []).toArray, []⟩ z) :
    Code.wp Tryz.prog (Code.loop rhoBody) Q0 ⟨(c0 :: c1 :: Value.slice (some ⟨qt, 0, none⟩) 25 25 :: Value.pointer (some ⟨q0, 0, none⟩) :: c4 :: c5 :: Value.pointer (some ⟨qr, 0, none⟩) :: c7 :: Value.pointer (some ⟨q8, 0, none⟩) :: Value.pointer (some ⟨q9, 0, none⟩) :: c10 :: c11 :: c12 :: c13 :: c14 :: Value.int .i64 0 :: u16 :: c17 :: c18 :: c19 :: c20 :: c21 :: c22 :: c23 :: c24 :: c25 :: c26 :: c27 :: c28 :: c29 :: c30 :: c31 :: c32 :: c33 :: c34 :: c35 :: c36 :: c37 :: c38 :: c39 :: c40 :: c41 :: c42 :: c43 :: c44 :: c45 :: c46 :: c47 :: c48 :: c49 :: c50 :: c51 :: c52 :: c53 :: c54 :: c55 :: c56 :: c57 :: c58 :: c59 :: c60 :: c61 :: c62 :: c63 :: c64 :: c65 :: c66 :: u67 :: u68 :: u69 :: u70 :: u71 :: u72 :: u73 :: u74 :: u75 :: u76 :: u77 :: u78 :: u79 :: u80 :: u81 :: u82 :: u83 :: u84 :: u85 :: u86 :: u87 :: u88 :: u89 :: u90 :: u91 :: u92 :: u93 :: u94 :: u95 :: u96 :: u97 :: u98 :: c99 :: c100 :: c101 :: c102 :: c103 :: c104 :: c105 :: c106 :: c107 :: c108 :: c109 :: c110 :: c111 :: c112 :: c113 :: c114 :: c115 :: c116 :: c117 :: c118 :: c119 :: c120 :: c121 :: c122 :: c123 :: c124 :: c125 :: c126 :: c127 :: c128 :: c129 :: c130 :: c131 :: c132 :: c133 :: c134 :: c135 :: c136 :: c137 :: c138 :: c139 :: c140 :: c141 :: c142 :: c143 :: c144 :: c145 :: []).toArray, []⟩ z0 := by
  conv => arg 2; whnf
  conv => arg 2; arg 1; whnf
  have HEX := Lib.hid hexit
  clear hexit
  have HPP := Lib.hid hp
  clear hp
  go_loopw [15] (fun s z => ∃ x : Nat, x ≤ 5 ∧ s = .int .i64 x ∧ Hid (Pf w q0 qr q8 q9 qc qt a b (rhoK b x 0) z)) (fun s _ => 5 - (intOf s).toNat)
  case atStart => exact ⟨0, by decide, rfl, Lib.hid (HPP.out.congC fun j _ => by unfold rhoK; rw [if_neg (by omega)])⟩
  case round =>
    obtain ⟨x, hx, rfl, hp⟩ := hrel
    clear HPP
    by_cases hx5 : (x : Int) < 5
    · go_wp2_with fail
      go_loopw [16] (fun y z => ∃ y' : Nat, y' ≤ 5 ∧ y = .int .i64 y' ∧ Hid (Pf w q0 qr q8 q9 qc qt a b (rhoK b x y') z)) (fun y _ => 5 - (intOf y).toNat)
      case atStart => exact ⟨0, by decide, rfl, hp⟩
      case round =>
        obtain ⟨y, hy, rfl, hp2⟩ := hrel
        clear hp
        by_cases hy5 : (y : Int) < 5
        · obtain ⟨T, hT⟩ : ∃ T, turns.getD (x + 5 * y) 0 = T := ⟨_, rfl⟩
          have hT6 : T < 64 := hT ▸ (show ∀ j, j < 25 → turns.getD j 0 < 64 by decide) _ (by omega)
          have NE : Nonempty (Wd (Pf w q0 qr q8 q9 qc qt a b (rhoK b x y))) := ⟨⟨_, hp2.out⟩⟩
          have a1 : ∀ z : Wd (Pf w q0 qr q8 q9 qc qt a b (rhoK b x y)), z.val.cell? ⟨q8, x + 5 * y, none⟩ = some (Value.int .u64 (W (b (x + 5 * y)))) := fun z => z.ok.sb.cell _ (by omega)
          have a2 : ∀ z : Wd (Pf w q0 qr q8 q9 qc qt a b (rhoK b x y)), z.val.cell? ⟨qt, x + 5 * y, none⟩ = some (Value.int .i64 T) := fun z => hT ▸ z.ok.turn _ (by omega)
          have q1 : ∀ z : Wd (Pf w q0 qr q8 q9 qc qt a b (rhoK b x y)), Calls Tryz.prog 71 #[.int .u64 (W (b (x + 5 * y))), .int .i64 T] z.val fun e w' => e = .returned (.int .u64 (W (rotl (b (x + 5 * y)) T))) ∧ ∃ s' : Wd (Pf w q0 qr q8 q9 qc qt a b (rhoK b x y)), w' = s'.val := fun z => in_of_same z (left_is (b (x + 5 * y)) T hT6 z.val)
          have Q1 := Lib.hid q1
          clear q1
          have HP2 := Lib.hid hp2.out.drew
          go_upto_region 24 with (fail)
          refine wp_region_quiet_tail 24 (Pf w q0 qr q8 q9 qc qt a b (rhoK b x y)) (by kernel_rfl) (by kernel_rfl) HP2.out ?_
          simp only [List.take_succ_cons, List.take_zero, List.drop_succ_cons, List.drop_zero]
          repeat (go_big_quiet_step (with_reducible exact Q1.out _))
          refine wpQuiet_nil ?_
          rintro _ ⟨z, rfl⟩
          have hD5 : y + 5 * ((2 * x + 3 * y) % 5) < 25 := by omega
          have fj := z.ok.sc.fz (y + 5 * ((2 * x + 3 * y) % 5))
          have sj : _ = some (Value.int .u64 (W (rhoK b x y (y + 5 * ((2 * x + 3 * y) % 5))))) := z.ok.sc.cell _ hD5
          clear a1 a2 Q1 HP2 NE hp2
          go_wp2_with fail
          exact ⟨⟨y + 1, by omega, by go_num, Lib.hid ((z.ok.setC (y + 5 * ((2 * x + 3 * y) % 5)) _).congC (fun j hj => rho_step b x y _ _ T (by omega) (by omega) rfl rfl hT j hj))⟩, by simp [intOf]; omega⟩
        · obtain rfl : y = 5 := by omega
          have hpn := Lib.hid (hp2.out.congC (c' := rhoK b (x + 1) 0) (fun i hi => by
            unfold rhoK
            have : src i < 25 := src_lt i hi
            by_cases h1 : src i % 5 < x ∨ (src i % 5 = x ∧ src i / 5 < 5)
            · rw [if_pos h1, if_pos (by omega)]
            · rw [if_neg h1, if_neg (by omega)]))
          clear hp2
          go_wp2_with fail
          go_roundw
          case rel => exact ⟨x + 1, by omega, by go_num, hpn⟩
          case measure => simp [intOf]; omega
    · obtain rfl : x = 5 := by omega
      have hpx := Lib.hid (hp.out.congC (c' := rhopi b) (fun i hi => by unfold rhoK; rw [if_pos (by omega)]))
      clear hp
      go_wp2_with fail
      exact HEX.out _ _ _ _ _ _ _ _ _ _ _ _ _ _ _ _ _ _ _ _ _ _ _ _ _ _ _ _ _ _ _ _ _ _ hpx.out
end Kc
end Go.Proofs.YtcgpdijpppcbiaaGreatDoor
namespace Go.Proofs.YtcgpdijpppcbiaaGreatDoor
open Go.RowKit
set_option linter.unusedVariables false
namespace Kc
theorem chi_step (c a : Nat → Wd64) (r : Nat) (v : Wd64) (hv : v = chi c r) (j : Nat) : upd (chiK c a r) r v j = chiK c a (r + 1) j := by
  unfold upd chiK
  by_cases e : j = r
  · rw [if_pos e, if_pos (by omega), hv, e]
  · rw [if_neg e]
    by_cases h2 : j < r
    · rw [if_pos h2, if_pos (by omega)]
    · rw [if_neg h2, if_neg (by omega)]
theorem W_xones (x : Wd64) : bits BinOp.xor .u64 (W x) 18446744073709551615 = W (~~~x) := by
  rw [show (18446744073709551615 : Int) = W (BitVec.allOnes 64) from rfl, W_xor, BitVec.xor_allOnes]
noncomputable def chiBody : Code := ((Tryz.f65.body.map fun c => loopAt 2 (loopAt 0 c)).getD .skip)
set_option maxHeartbeats 40000000 in
set_option maxRecDepth 1000000 in
theorem chi_loop {Q0 : Exit → Act → World → Prop} (q0 qr q8 q9 qc qt : Nat) (a b c : Nat → Wd64) (w : World) (c0 c1 c4 c5 c7 c10 c11 c12 c13 c14 c15 c16 c19 c20 c21 c22 c23 c24 c25 c26 c27 c28 c29 c30 c31 c32 c33 c34 c35 c36 c37 c38 c39 c40 c41 c42 c43 c44 c45 c46 c47 c48 c49 c50 c51 c52 c53 c54 c55 c56 c57 c58 c59 c60 c61 c62 c63 c64 c65 c66 c67 c68 c69 c70 c71 c72 c73 c74 c75 c76 c77 c78 c79 c80 c81 c82 c83 c84 c85 c86 c87 c88 c89 c90 c91 c92 c93 c94 c95 c96 c97 c98 c137 c138 c139 c140 c141 c142 c143 c144 c145 u18 u99 u100 u101 u102 u103 u104 u105 u106 u107 u108 u109 u110 u111 u112 u113 u114 u115 u116 u117 u118 u119 u120 u121 u122 u123 u124 u125 u126 u127 u128 u129 u130 u131 u132 u133 u134 u135 u136 : Value) (z0 : World)
    (hp : Pf w q0 qr q8 q9 qc qt a b c z0)
    (hexit : ∀ (v18 v99 v100 v101 v102 v103 v104 v105 v106 v107 v108 v109 v110 v111 v112 v113 v114 v115 v116 v117 v118 v119 v120 v121 v122 v123 v124 v125 v126 v127 v128 v129 v130 v131 v132 v133 v134 v135 v136 : Value) (z : World), Pf w q0 qr q8 q9 qc qt (chi c) b c z → Q0 (.exit 12) ⟨(c0 :: c1 :: Value.slice (some ⟨qt, 0, none⟩) 25 25 :: Value.pointer (some ⟨q0, 0, none⟩) :: c4 :: c5 :: Value.pointer (some ⟨qr, 0, none⟩) :: c7 :: Value.pointer (some ⟨q8, 0, none⟩) :: Value.pointer (some ⟨q9, 0, none⟩) :: c10 :: c11 :: c12 :: c13 :: c14 :: c15 :: c16 :: Value.int .i64 5 :: v18 :: c19 :: c20 :: c21 :: c22 :: c23 :: c24 :: c25 :: c26 :: c27 :: c28 :: c29 :: c30 :: c31 :: c32 :: c33 :: c34 :: c35 :: c36 :: c37 :: c38 :: c39 :: c40 :: c41 :: c42 :: c43 :: c44 :: c45 :: c46 :: c47 :: c48 :: c49 :: c50 :: c51 :: c52 :: c53 :: c54 :: c55 :: c56 :: c57 :: c58 :: c59 :: c60 :: c61 :: c62 :: c63 :: c64 :: c65 :: c66 :: c67 :: c68 :: c69 :: c70 :: c71 :: c72 :: c73 :: c74 :: c75 :: c76 :: c77 :: c78 :: c79 :: c80 :: c81 :: c82 :: c83 :: c84 :: c85 :: c86 :: c87 :: c88 :: c89 :: c90 :: c91 :: c92 :: c93 :: c94 :: c95 :: c96 :: c97 :: c98 :: v99 :: v100 :: v101 :: v102 :: v103 :: v104 :: v105 :: v106 :: v107 :: v108 :: v109 :: v110 :: v111 :: v112 :: v113 :: v114 :: v115 :: v116 :: v117 :: v118 :: v119 :: v120 :: v121 :: v122 :: v123 :: v124 :: v125 :: v126 :: v127 :: v128 :: v129 :: v130 :: v131 :: v132 :: v133 :: v134 :: v135 :: v136 :: c137 :: c138 :: c139 :: c140 :: c141 :: c142 :: c143 :: c144 :: c145 :: []).toArray, []⟩ z) :
    Code.wp Tryz.prog (Code.loop chiBody) Q0 ⟨(c0 :: c1 :: Value.slice (some ⟨qt, 0, none⟩) 25 25 :: Value.pointer (some ⟨q0, 0, none⟩) :: c4 :: c5 :: Value.pointer (some ⟨qr, 0, none⟩) :: c7 :: Value.pointer (some ⟨q8, 0, none⟩) :: Value.pointer (some ⟨q9, 0, none⟩) :: c10 :: c11 :: c12 :: c13 :: c14 :: c15 :: c16 :: Value.int .i64 0 :: u18 :: c19 :: c20 :: c21 :: c22 :: c23 :: c24 :: c25 :: c26 :: c27 :: c28 :: c29 :: c30 :: c31 :: c32 :: c33 :: c34 :: c35 :: c36 :: c37 :: c38 :: c39 :: c40 :: c41 :: c42 :: c43 :: c44 :: c45 :: c46 :: c47 :: c48 :: c49 :: c50 :: c51 :: c52 :: c53 :: c54 :: c55 :: c56 :: c57 :: c58 :: c59 :: c60 :: c61 :: c62 :: c63 :: c64 :: c65 :: c66 :: c67 :: c68 :: c69 :: c70 :: c71 :: c72 :: c73 :: c74 :: c75 :: c76 :: c77 :: c78 :: c79 :: c80 :: c81 :: c82 :: c83 :: c84 :: c85 :: c86 :: c87 :: c88 :: c89 :: c90 :: c91 :: c92 :: c93 :: c94 :: c95 :: c96 :: c97 :: c98 :: u99 :: u100 :: u101 :: u102 :: u103 :: u104 :: u105 :: u106 :: u107 :: u108 :: u109 :: u110 :: u111 :: u112 :: u113 :: u114 :: u115 :: u116 :: u117 :: u118 :: u119 :: u120 :: u121 :: u122 :: u123 :: u124 :: u125 :: u126 :: u127 :: u128 :: u129 :: u130 :: u131 :: u132 :: u133 :: u134 :: u135 :: u136 :: c137 :: c138 :: c139 :: c140 :: c141 :: c142 :: c143 :: c144 :: c145 :: []).toArray, []⟩ z0 := by
  conv => arg 2; whnf
  conv => arg 2; arg 1; whnf
  have HEX := Lib.hid hexit
  clear hexit
  have HPP := Lib.hid hp
  clear hp
  go_loopw [17] (fun s z => ∃ x : Nat, x ≤ 5 ∧ s = .int .i64 x ∧ Hid (Pf w q0 qr q8 q9 qc qt (chiK c a (5 * x)) b c z)) (fun s _ => 5 - (intOf s).toNat)
  case atStart => exact ⟨0, by decide, rfl, Lib.hid (HPP.out.congA (chiK_zero _ a))⟩
  case round =>
    obtain ⟨x, hx, rfl, hp⟩ := hrel
    clear HPP
    by_cases hx5 : (x : Int) < 5
    · go_wp2_with fail
      go_loopw [18] (fun y z => ∃ y' : Nat, y' ≤ 5 ∧ y = .int .i64 y' ∧ Hid (Pf w q0 qr q8 q9 qc qt (chiK c a (5 * x + y')) b c z)) (fun y _ => 5 - (intOf y).toNat)
      case atStart => exact ⟨0, by decide, rfl, hp⟩
      case round =>
        obtain ⟨y, hy, rfl, hp2⟩ := hrel
        clear hp
        by_cases hy5 : (y : Int) < 5
        · have NE : Nonempty (Wd (Pf w q0 qr q8 q9 qc qt (chiK c a (5 * x + y)) b c)) := ⟨⟨_, hp2.out⟩⟩
          have a0 : ∀ z : Wd (Pf w q0 qr q8 q9 qc qt (chiK c a (5 * x + y)) b c), z.val.cell? ⟨q9, y + 5 * x, none⟩ = some (Value.int .u64 (W (c (y + 5 * x)))) := fun z => z.ok.sc.cell _ (by omega)
          have a1 : ∀ z : Wd (Pf w q0 qr q8 q9 qc qt (chiK c a (5 * x + y)) b c), z.val.cell? ⟨q9, (y + 1) % 5 + 5 * x, none⟩ = some (Value.int .u64 (W (c ((y + 1) % 5 + 5 * x)))) := fun z => z.ok.sc.cell _ (by omega)
          have a2 : ∀ z : Wd (Pf w q0 qr q8 q9 qc qt (chiK c a (5 * x + y)) b c), z.val.cell? ⟨q9, (y + 2) % 5 + 5 * x, none⟩ = some (Value.int .u64 (W (c ((y + 2) % 5 + 5 * x)))) := fun z => z.ok.sc.cell _ (by omega)
          have HP2 := Lib.hid hp2.out.drew
          go_upto_region 31 with (fail)
          refine wp_region_quiet_tail 30 (Pf w q0 qr q8 q9 qc qt (chiK c a (5 * x + y)) b c) (by kernel_rfl) (by kernel_rfl) HP2.out ?_
          simp only [List.take_succ_cons, List.take_zero, List.drop_succ_cons, List.drop_zero]
          repeat (go_big_quiet_step (fail))
          refine wpQuiet_nil ?_
          rintro _ ⟨z, rfl⟩
          have hD5 : y + 5 * x < 25 := by omega
          have fj := z.ok.sa.fz (y + 5 * x)
          have sj : _ = some (Value.int .u64 (W (chiK c a (5 * x + y) (y + 5 * x)))) := z.ok.sa.cell _ hD5
          clear a0 a1 a2 HP2 NE hp2
          go_wp2_with fail
          rw [W_xones, W_and, W_xor]
          have hcs : c (y + 5 * x) ^^^ (~~~(c ((y + 1) % 5 + 5 * x)) &&& c ((y + 2) % 5 + 5 * x)) = chi c (y + 5 * x) := by
            unfold chi
            rw [show (y + 5 * x) / 5 = x by omega, show (y + 5 * x) % 5 = y by omega, Nat.add_comm (5 * x) ((y + 1) % 5), Nat.add_comm (5 * x) ((y + 2) % 5)]
          exact ⟨⟨y + 1, by omega, by go_num, Lib.hid ((z.ok.setA (y + 5 * x) _).congA (fun j _ => by rw [show 5 * x + y = y + 5 * x by omega, show 5 * x + (y + 1) = y + 5 * x + 1 by omega]; exact chi_step c a (y + 5 * x) _ hcs j))⟩, by simp [intOf]; omega⟩
        · obtain rfl : y = 5 := by omega
          have hpn := Lib.hid (hp2.out.congA (a' := chiK c a (5 * (x + 1))) (fun i hi => by rw [show 5 * (x + 1) = 5 * x + 5 by omega]))
          clear hp2
          go_wp2_with fail
          go_roundw
          case rel => exact ⟨x + 1, by omega, by go_num, hpn⟩
          case measure => simp [intOf]; omega
    · obtain rfl : x = 5 := by omega
      have hpx := Lib.hid (hp.out.congA (a' := chi c) (fun i hi => by unfold chiK; rw [if_pos (by omega)]))
      clear hp
      go_wp2_with fail
      exact HEX.out _ _ _ _ _ _ _ _ _ _ _ _ _ _ _ _ _ _ _ _ _ _ _ _ _ _ _ _ _ _ _ _ _ _ _ _ _ _ _ _ hpx.out
end Kc
end Go.Proofs.YtcgpdijpppcbiaaGreatDoor
namespace Go.Proofs.YtcgpdijpppcbiaaGreatDoor
open Go.RowKit
set_option linter.unusedVariables false
namespace Kc
theorem zero25 (w : World) : (zeroValue 141).run Tryz.prog w = .ok (.agg (tab 25 fun _ => wv 0#64)) w := by kernel_rfl
theorem rnds_next (a : Nat → Wd64) (n : Nat) (h : n < 24) : rnds a (n + 1) = rnd (consts.getD n 0#64) (rnds a n) := by
  have hl : n < consts.length := h
  unfold rnds
  rw [List.take_succ_eq_append_getElem hl, List.foldl_append, List.getD_eq_getElem?_getD, List.getElem?_eq_getElem hl]
  rfl
structure Pa (W : World) (q0 qr qc qt : Nat) (a : Nat → Wd64) (y : World) : Prop where
  sa : IsTab y q0 141 25 fun i => wv (a i)
  sr : IsTab y qr 141 25 fun _ => wv 0#64
  cons : ∀ i, i < 24 → y.cell? ⟨qc, i, none⟩ = some (wv (consts.getD i 0#64))
  turn : ∀ j, j < 25 → y.cell? ⟨qt, j, none⟩ = some (tv (turns.getD j 0))
  lc : qc < W.heap.size
  lt : qt < W.heap.size
  g0 : W.heap.size ≤ q0
  o1 : q0 < qr
  below : Below W.heap.size W y
theorem Pa.two {W : World} {q0 qr qc qt : Nat} {a : Nat → Wd64} {y : World} (h : Pa W q0 qr qc qt a y) :
    Pf W q0 qr y.heap.size (y.heap.size + 1) qc qt a (fun _ => 0#64) (fun _ => 0#64) ((y.alloc (.cells (tab 25 fun _ => wv 0#64) 141)).alloc (.cells (tab 25 fun _ => wv 0#64) 141)) := by
  have e1 : (y.alloc (.cells (tab 25 fun _ => wv 0#64) 141)).heap.size = y.heap.size + 1 := by simp
  have hs := h.below.size
  have hb : Below y.heap.size y ((y.alloc (.cells (tab 25 fun _ => wv 0#64) 141)).alloc (.cells (tab 25 fun _ => wv 0#64) 141)) := ((Below.refl _ _).alloc (Nat.le_refl _) _).alloc (by simp) _
  refine ⟨(h.sa.alloc _).alloc _, (h.sr.alloc _).alloc _, (IsTab.new y _ 25 _).alloc _, ?_, fun i hi => keep1 hb (h.cons i hi), fun j hj => keep1 hb (h.turn j hj), h.lc, h.lt, h.g0, h.o1, h.sr.lt, Nat.lt_succ_self _, bl h.below hb⟩
  have := IsTab.new (y.alloc (.cells (tab 25 fun _ => wv 0#64) 141)) 141 25 fun _ => wv 0#64
  rw [e1] at this; exact this
theorem Pf.one {W : World} {q0 qr q8 q9 qc qt : Nat} {a b c : Nat → Wd64} {y : World} (h : Pf W q0 qr q8 q9 qc qt a b c y) : Pa W q0 qr qc qt a y := ⟨h.sa, h.sr, h.cons, h.turn, h.lc, h.lt, h.g0, h.o1, h.below⟩
set_option maxHeartbeats 40000000 in
set_option maxRecDepth 1000000 in
theorem permute_walk (a : Nat → Wd64) (qc qt capc : Nat) (w : World) (hc : ∀ i, i < 24 → w.cell? ⟨qc, i, none⟩ = some (wv (consts.getD i 0#64))) (ht : ∀ j, j < 25 → w.cell? ⟨qt, j, none⟩ = some (tv (turns.getD j 0))) :
    Calls Tryz.prog 65 #[.agg (words a), .slice (some ⟨qc, 0, none⟩) 24 capc, .slice (some ⟨qt, 0, none⟩) 25 25] w fun e w' => e = .returned (.agg (words (perm a))) ∧ Below w.heap.size w w' := by
  have HC := Lib.hid hc
  have HT := Lib.hid ht
  clear hc ht
  have z1 := zero25
  generalize hz : tab 25 (fun _ => wv 0#64) = zp at *
  have HZ := Lib.hid hz
  clear hz
  go_enter Tryz.func65, Tryz.ntmps65
  go_upto_region 1 with (fail)
  have h1 : Hid (Pa w w.heap.size (w.heap.size + 1) qc qt (rnds a 0) ((w.alloc (.cells (words a) 141)).alloc (.cells zp 141))) := by
    rw [← HZ.out]
    have e1 : (w.alloc (.cells (words a) 141)).heap.size = w.heap.size + 1 := by simp
    have hb : Below w.heap.size w ((w.alloc (.cells (words a) 141)).alloc (.cells (tab 25 fun _ => wv 0#64) 141)) := ((Below.refl _ _).alloc (Nat.le_refl _) _).alloc (by simp) _
    refine Lib.hid ⟨(IsTab.new w _ 25 _).alloc _, ?_, fun i hi => keep1 hb (HC.out i hi), fun j hj => keep1 hb (HT.out j hj), inHeap (HC.out 0 (by decide)), inHeap (HT.out 0 (by decide)), Nat.le_refl _, Nat.lt_succ_self _, hb⟩
    have := IsTab.new (w.alloc (.cells (words a) 141)) 141 25 fun _ => wv 0#64
    rw [e1] at this; exact this
  generalize (w.alloc (.cells (words a) 141)).alloc (.cells zp 141) = y0 at *
  generalize w.heap.size + 1 = qr at *
  generalize hq0 : w.heap.size = q0 at *
  have HQ0 := Lib.hid hq0
  clear hq0
  go_wp2_with fail
  go_loopw [7] (fun i y => ∃ n : Nat, n ≤ 24 ∧ i = .int .i64 n ∧ Hid (Pa w q0 qr qc qt (rnds a n) y)) (fun i _ => 24 - (intOf i).toNat)
  case atStart => exact ⟨0, by decide, rfl, h1⟩
  case round =>
    obtain ⟨n, hn, rfl, hp⟩ := hrel
    clear h1
    by_cases hlt : (n : Int) < 24
    · have hrn := rnds_next a n (by omega)
      generalize rnds a n = c at *
      have HRN := Lib.hid hrn
      clear hrn
      go_upto_region 5 with (fail)
      have hp2 := Lib.hid hp.out.two
      rw [HZ.out] at hp2
      clear hp
      generalize (wr.alloc (.cells zp 141)).alloc (.cells zp 141) = y1 at *
      generalize wr.heap.size + 1 = q9 at *
      generalize wr.heap.size = q8 at *
      go_wp2_with fail
      refine theta_loop q0 qr q8 q9 qc qt c (fun _ => 0#64) (fun _ => 0#64) w _ _ _ _ _ _ _ _ _ _ _ _ _ _ _ _ _ _ _ _ _ _ _ _ _ _ _ _ _ _ _ _ _ _ _ _ _ _ _ _ _ _ _ _ _ _ _ _ _ _ _ _ _ _ _ _ _ _ _ _ _ _ _ _ _ _ _ _ _ _ _ _ _ _ _ _ _ _ _ _ _ _ _ _ _ _ _ _ _ _ _ _ _ _ _ _ _ _ _ _ _ _ _ _ _ _ _ _ _ _ _ _ _ _ _ _ _ _ _ _ _ _ _ _ _ _ _ _ _ _ _ _ _ _ _ _ _ _ _ _  y1 hp2.out ?_
      intro e11 e12 e13 e14 e23 e24 e25 e26 e27 e28 e29 e30 e31 e32 e33 e34 e35 e36 e37 e38 e39 e40 e41 e42 e43 e44 e45 e46 e47 e48 e49 e50 e51 e52 e53 e54 e55 e56 e57 e58 e59 e60 e61 e62 e63 e64 e65 e66 z1' hz1
      have HZ1 := Lib.hid hz1
      clear hz1 hp2
      go_wp2_with fail
      refine rho_loop q0 qr q8 q9 qc qt c (theta c) w _ _ _ _ _ _ _ _ _ _ _ _ _ _ _ _ _ _ _ _ _ _ _ _ _ _ _ _ _ _ _ _ _ _ _ _ _ _ _ _ _ _ _ _ _ _ _ _ _ _ _ _ _ _ _ _ _ _ _ _ _ _ _ _ _ _ _ _ _ _ _ _ _ _ _ _ _ _ _ _ _ _ _ _ _ _ _ _ _ _ _ _ _ _ _ _ _ _ _ _ _ _ _ _ _ _ _ _ _ _ _ _ _ _ _ _ _ _ _ _ _ _ _ _ _ _ _ _ _ _ _ _ _ _ _ _ _ _ _ _  z1' HZ1.out ?_
      intro f16 f67 f68 f69 f70 f71 f72 f73 f74 f75 f76 f77 f78 f79 f80 f81 f82 f83 f84 f85 f86 f87 f88 f89 f90 f91 f92 f93 f94 f95 f96 f97 f98 z2' hz2
      have HZ2 := Lib.hid hz2
      clear hz2 HZ1
      go_wp2_with fail
      refine chi_loop q0 qr q8 q9 qc qt c (theta c) (rhopi (theta c)) w _ _ _ _ _ _ _ _ _ _ _ _ _ _ _ _ _ _ _ _ _ _ _ _ _ _ _ _ _ _ _ _ _ _ _ _ _ _ _ _ _ _ _ _ _ _ _ _ _ _ _ _ _ _ _ _ _ _ _ _ _ _ _ _ _ _ _ _ _ _ _ _ _ _ _ _ _ _ _ _ _ _ _ _ _ _ _ _ _ _ _ _ _ _ _ _ _ _ _ _ _ _ _ _ _ _ _ _ _ _ _ _ _ _ _ _ _ _ _ _ _ _ _ _ _ _ _ _ _ _ _ _ _ _ _ _ _ _ _ _  z2' HZ2.out ?_
      intro g18 g99 g100 g101 g102 g103 g104 g105 g106 g107 g108 g109 g110 g111 g112 g113 g114 g115 g116 g117 g118 g119 g120 g121 g122 g123 g124 g125 g126 g127 g128 g129 g130 g131 g132 g133 g134 g135 g136 z3' hz3
      have HZ3 := Lib.hid hz3
      clear hz3 HZ2
      have a0 : _ = some (Value.int .u64 (W (chi (rhopi (theta c)) 0))) := HZ3.out.sa.cell 0 (by decide)
      have k0 : _ = some (Value.int .u64 (W (consts.getD n 0#64))) := HZ3.out.cons n (by omega)
      have n0 : (0 : Int) ≤ (n : Int) := by omega
      go_upto_region 32 with (fail)
      go_still_tail 8, (by kernel_rfl)
      change wpList _ _ _ _ _ z3'.drew
      have HZ4 := Lib.hid HZ3.out.drew
      clear a0 k0 HZ3
      generalize z3'.drew = z4 at *
      have f0 := HZ4.out.sa.fz 0
      have s0 : _ = some (Value.int .u64 (W (chi (rhopi (theta c)) 0))) := HZ4.out.sa.cell 0 (by decide)
      go_wp2_with fail
      rw [W_xor]
      exact ⟨⟨n + 1, by omega, by go_num, Lib.hid (((HZ4.out.setA 0 _).congA (fun i _ => by rw [HRN.out]; rfl)).one)⟩, by simp [intOf]; omega⟩
    · obtain rfl : n = 24 := by omega
      have HPA := Lib.hid hp.out.sa
      have HPR := Lib.hid hp.out.sr
      go_wp2_with (first
        | (refine wpList_load_row rfl 141 (.tmp 3) rfl q0 rfl 141 (words (rnds a 24)) (0, 0) _ HPA.out und25 rfl (inf25 _) ?_)
        | (refine wpList_store_row rfl 141 (.tmp 6) (.tmp 145) rfl qr (words (rnds a 24)) rfl rfl 141 _ HPR.out (inf25 _) (by rw [words, tab_size, tab_size]) (one_wv _ _) ?_))
      have hr : IsTab (World.setRow wr qr (words (rnds a 24))) qr 141 25 fun i => wv (rnds a 24 i) := HPR.out.row
      have hbb := below_setRow hp.out.below (by have := hp.out.g0; have := hp.out.o1; omega : w.heap.size ≤ qr) (words (rnds a 24))
      exact bodyPost_ret (v := .agg (words (perm a))) (results_cell_row rfl _ _ qr 141 _ (0, 0) _ rfl hr und25 rfl (inf25 _)) rfl ⟨rfl, hbb⟩
end Kc
end Go.Proofs.YtcgpdijpppcbiaaGreatDoor
namespace Go.Proofs.YtcgpdijpppcbiaaGreatDoor
open Go.RowKit
set_option linter.unusedVariables false
namespace Kc
/-- The slice of the constants, and that of the turns. -/
def Two (w : World) (V : Value) (qt : Nat) : Prop := ∃ qc cap, V = .slice (some ⟨qc, 0, none⟩) 24 cap ∧ (∀ i, i < 24 → w.cell? ⟨qc, i, none⟩ = some (wv (consts.getD i 0#64))) ∧ ∀ j, j < 25 → w.cell? ⟨qt, j, none⟩ = some (tv (turns.getD j 0))
theorem Two.below {w w' : World} {V : Value} {qt : Nat} (h : Two w V qt) (hb : Below w.heap.size w w') : Two w' V qt := by
  obtain ⟨qc, cap, h1, h2, h3⟩ := h
  exact ⟨qc, cap, h1, fun i hi => keep1 hb (h2 i hi), fun j hj => keep1 hb (h3 j hj)⟩
theorem owns_cells {w : World} {q : Nat} {V : Value} (h : w.ownsRow q 22 1 V 24 (consts.map wv)) : ∃ qc cap, V = .slice (some ⟨qc, 0, none⟩) 24 cap ∧ ∀ i, i < 24 → w.cell? ⟨qc, i, none⟩ = some (wv (consts.getD i 0#64)) := by
  rcases ownsRow_forms h with ⟨_, h0⟩ | ⟨g, cap, rfl, _, _, _⟩
  · cases h0
  · refine ⟨g, cap, rfl, fun i hi => ?_⟩
    have hl : consts.length = 24 := rfl
    have := h.cells (g := g) rfl i (wv (consts.getD i 0#64)) (by simp [List.getElem?_map, List.getElem?_eq_getElem (show i < consts.length from by omega)])
    rw [add_at, Nat.zero_add] at this
    exact this
def ConsAt (w : World) (V : Value) : Prop := ∃ qc cap, V = .slice (some ⟨qc, 0, none⟩) 24 cap ∧ ∀ i, i < 24 → w.cell? ⟨qc, i, none⟩ = some (wv (consts.getD i 0#64))
def TurnAt (w : World) (V : Value) : Prop := ∃ qt, V = .slice (some ⟨qt, 0, none⟩) 25 25 ∧ ∀ j, j < 25 → w.cell? ⟨qt, j, none⟩ = some (tv (turns.getD j 0))
theorem ConsAt.below {w w' : World} {V : Value} (hb : Below w.heap.size w w') (h : ConsAt w V) : ConsAt w' V := by
  obtain ⟨qc, cap, h1, h2⟩ := h
  exact ⟨qc, cap, h1, fun i hi => keep1 hb (h2 i hi)⟩
theorem TurnAt.below {w w' : World} {V : Value} (hb : Below w.heap.size w w') (h : TurnAt w V) : TurnAt w' V := by
  obtain ⟨qt, h1, h2⟩ := h
  exact ⟨qt, h1, fun i hi => keep1 hb (h2 i hi)⟩
theorem cons_call (w : World) : Calls Tryz.prog 63 #[] w fun e w' => ∃ V, e = .returned V ∧ Hid (ConsAt w' V) ∧ Below w.heap.size w w' :=
  (constants_walk w).mono fun e w' ⟨V, h1, h2, h3⟩ => ⟨V, h1, Lib.hid (owns_cells h2), h3⟩
theorem turn_call (w : World) : Calls Tryz.prog 64 #[] w fun e w' => ∃ V, e = .returned V ∧ Hid (TurnAt w' V) ∧ Below w.heap.size w w' :=
  (turns_walk w).mono fun e w' ⟨h1, h2, h3⟩ => ⟨_, h1, Lib.hid ⟨_, rfl, fun j hj => h2.cell j hj⟩, h3⟩
theorem perm_call (a : Nat → Wd64) (V T : Value) (w : World) (h : ConsAt w V) (k : TurnAt w T) :
    Calls Tryz.prog 65 #[.agg (words a), V, T] w fun e w' => e = .returned (.agg (words (perm a))) ∧ Below w.heap.size w w' := by
  obtain ⟨qc, cap, rfl, h1⟩ := h
  obtain ⟨qt, rfl, h2⟩ := k
  exact permute_walk a qc qt cap w h1 h2
/-- A world with the argument's block and the result's. -/
def Rp (W : World) (q0 q1 : Nat) (a : Nat → Wd64) (y : World) : Prop := IsTab y q0 141 25 (fun i => wv (a i)) ∧ (∃ g, IsTab y q1 141 25 g) ∧ Below W.heap.size W y ∧ W.heap.size ≤ q1 ∧ q0 ≠ q1
theorem Rp.next {W : World} {q0 q1 : Nat} {a : Nat → Wd64} {y y' : World} (h : Rp W q0 q1 a y) (hb : Below y.heap.size y y') : Rp W q0 q1 a y' :=
  ⟨IsTab.below h.1 hb, by obtain ⟨g, hg⟩ := h.2.1; exact ⟨g, IsTab.below hg hb⟩, bl h.2.2.1 hb, h.2.2.2⟩
end Kc
end Go.Proofs.YtcgpdijpppcbiaaGreatDoor
