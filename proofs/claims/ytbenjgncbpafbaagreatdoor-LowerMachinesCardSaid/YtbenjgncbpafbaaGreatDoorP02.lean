/- Merged of Krot Kprm Tab Kept Qtl. Own work. -/
import Derived.Test.YtbenjgncbpafbaaGreatDoorP01
import Derived.Test.YtbenjgncbpafbaaGreatDoorRows
import Derived.LoopTactic
import Derived.Deep.Cut
import Derived.Deep.WholeRow
import Derived.Laws.Tables
import Derived.Deep.MidRow
import Derived.Laws.OwnMore
import Derived.OwnWalk
import Derived.Lib.Hide
import Derived.StillTail
import Derived.Deep.Quiet
namespace Go.Proofs.YtbenjgncbpafbaaGreatDoor
open Go.RowKit
set_option linter.unusedVariables false
namespace Kc
theorem wrap_nn (k : Int) (h0 : 0 ≤ k) (h1 : k < 18446744073709551616) : IntKind.u64.wrap k = k := by simp [IntKind.wrap, IntKind.bits, IntKind.signed]; omega
theorem rot_is (x : Wd64) (s : Nat) (hs0 : 0 < s) (hs : s < 64) (w : World) :
    Calls Tryz.prog 94 #[.int .u64 (W x), .int .i64 s] w fun e w' => e = .returned (.int .u64 (W (rotl x s))) ∧ w = w' := by
  have h63 : bits BinOp.and .u64 (s : Int) 63 = (s : Int) := by
    rw [show (63 : Int) = ((63 : Nat) : Int) from rfl, u64_and_nat _ _ (by omega) (by decide)]
    have : s &&& 63 = s := by rw [show (63 : Nat) = 2 ^ 6 - 1 from rfl, Nat.and_two_pow_sub_one_eq_mod]; omega
    rw [this]
  have hsi : (s : Int) < 64 := by omega
  have hsi0 : (0 : Int) < s := by omega
  have hb := W_bd x
  have hb0 := hb.1
  have hb1 := hb.2
  clear hb
  go_enter Tryz.func94, Tryz.ntmps94
  go_wp2_with fail
  go_ret
  refine ⟨?_, rfl⟩
  show Ending.returned (.int .u64 (bits BinOp.or .u64 (IntKind.u64.wrap (W x * 2 ^ s)) (W x / 2 ^ (64 - s)))) = _
  rw [show IntKind.u64.wrap (W x * 2 ^ s) = W (x <<< s) from by rw [show IntKind.u64.wrap (W x * 2 ^ s) = W x * 2 ^ s % 18446744073709551616 from by simp [IntKind.wrap, IntKind.bits, IntKind.signed]]; exact W_shl x s hs, W_shr, W_or, rotl_is x s hs0 hs]
end Kc
end Go.Proofs.YtbenjgncbpafbaaGreatDoor
namespace Go.Proofs.YtbenjgncbpafbaaGreatDoor
open Go.RowKit
set_option linter.unusedVariables false
namespace Kc
/-- 25 words as an array. -/
def arr (a : Nat → Wd64) : Array Value := ((List.range 25).map fun i => Value.int .u64 (W (a i))).toArray
theorem arr_size (a : Nat → Wd64) : (arr a).size = 25 := by simp [arr]
theorem arr_at (a : Nat → Wd64) {i : Nat} (h : i < 25) : (arr a)[i]? = some (.int .u64 (W (a i))) := by simp [arr, h]
theorem kInfo : (Tryz.prog.info? 145).map (·.size) = some 25 := by kernel_rfl
/-- A block of 25 words. -/
def IsSt (w : World) (q : Nat) (a : Nat → Wd64) : Prop := w.heap[q]? = some (.cells (arr a) 145 (0, 0))
theorem IsSt.cell {w : World} {q : Nat} {a : Nat → Wd64} (h : IsSt w q a) (i : Nat) (hi : i < 25) : w.cell? ⟨q, i, none⟩ = some (.int .u64 (W (a i))) := by
  rw [cell_of_row w q i _ _ _ h]; exact arr_at a hi
theorem IsSt.fz {w : World} {q : Nat} {a : Nat → Wd64} (h : IsSt w q a) (i : Nat) : w.frozen? ⟨q, i, none⟩ = false := frozen_of_row w q i _ _ h
def upd (a : Nat → Wd64) (i : Nat) (x : Wd64) : Nat → Wd64 := fun j => if j = i then x else a j
theorem arr_upd (a : Nat → Wd64) (i : Nat) (x : Wd64) : (arr a).setIfInBounds i (.int .u64 (W x)) = arr (upd a i x) := by
  apply Array.ext_getElem?
  intro j
  rw [Array.getElem?_setIfInBounds]
  by_cases hj : j < 25
  · rw [arr_at _ hj, arr_at _ hj, arr_size]
    by_cases e : i = j
    · subst e; simp [upd, hj]
    · have e' : ¬ j = i := fun h => e h.symm
      simp [upd, e, e']
  · rw [Array.getElem?_eq_none (by rw [arr_size]; omega), Array.getElem?_eq_none (by rw [arr_size]; omega), arr_size]
    split
    · split
      · omega
      · rfl
    · rfl
theorem IsSt.set {w : World} {q : Nat} {a : Nat → Wd64} (h : IsSt w q a) (i : Nat) (x : Wd64) : IsSt (w.setCell ⟨q, i, none⟩ (.int .u64 (W x))) q (upd a i x) := by
  unfold IsSt at *
  rw [heap_setCell_same w q i _ _ _ h, arr_upd]
theorem IsSt.keep {w : World} {q p i : Nat} {v : Value} {a : Nat → Wd64} (h : IsSt w q a) (hn : q ≠ p) : IsSt (w.setCell ⟨p, i, none⟩ v) q a := by
  unfold IsSt at *
  rw [Below.heap_setCell _ _ _ _ hn]; exact h
theorem arr_zero : arr (fun _ => 0#64) = #[.int .u64 0, .int .u64 0, .int .u64 0, .int .u64 0, .int .u64 0, .int .u64 0, .int .u64 0, .int .u64 0, .int .u64 0, .int .u64 0, .int .u64 0, .int .u64 0, .int .u64 0, .int .u64 0, .int .u64 0, .int .u64 0, .int .u64 0, .int .u64 0, .int .u64 0, .int .u64 0, .int .u64 0, .int .u64 0, .int .u64 0, .int .u64 0, .int .u64 0] := by rfl
theorem zInfo : (Tryz.prog.info? 145).map (·.size) = some (#[.int .u64 0, .int .u64 0, .int .u64 0, .int .u64 0, .int .u64 0, .int .u64 0, .int .u64 0, .int .u64 0, .int .u64 0, .int .u64 0, .int .u64 0, .int .u64 0, .int .u64 0, .int .u64 0, .int .u64 0, .int .u64 0, .int .u64 0, .int .u64 0, .int .u64 0, .int .u64 0, .int .u64 0, .int .u64 0, .int .u64 0, .int .u64 0, .int .u64 0] : Array Value).size := by kernel_rfl
theorem zOne : (#[.int .u64 0, .int .u64 0, .int .u64 0, .int .u64 0, .int .u64 0, .int .u64 0, .int .u64 0, .int .u64 0, .int .u64 0, .int .u64 0, .int .u64 0, .int .u64 0, .int .u64 0, .int .u64 0, .int .u64 0, .int .u64 0, .int .u64 0, .int .u64 0, .int .u64 0, .int .u64 0, .int .u64 0, .int .u64 0, .int .u64 0, .int .u64 0, .int .u64 0] : Array Value).all (·.oneCell') = true := by kernel_rfl
theorem st_new (w : World) (a : Nat → Wd64) : IsSt (w.alloc (.cells (arr a) 145)) w.heap.size a := heap_alloc_new w _
theorem st_old {w : World} {q : Nat} {a : Nat → Wd64} (h : IsSt w q a) (o : Obj) : IsSt (w.alloc o) q a := by
  unfold IsSt at *
  rw [Below.heap_alloc w o q (Array.getElem?_eq_some_iff.1 h).1]; exact h
structure Pm (W : World) (q0 q1 q2 : Nat) (a b : Nat → Wd64) (y : World) : Prop where
  sa : IsSt y q0 a
  sr : IsSt y q1 (fun _ => 0#64)
  sb : IsSt y q2 b
  n01 : q0 ≠ q1
  n02 : q0 ≠ q2
  n12 : q1 ≠ q2
  g0 : W.heap.size ≤ q0
  g1 : W.heap.size ≤ q1
  g2 : W.heap.size ≤ q2
  below : Below W.heap.size W y
theorem Pm.setB {W : World} {q0 q1 q2 : Nat} {a b : Nat → Wd64} {y : World} (h : Pm W q0 q1 q2 a b y) (i : Nat) (x : Wd64) : Pm W q0 q1 q2 a (upd b i x) (y.setCell ⟨q2, i, none⟩ (.int .u64 (Kc.W x))) :=
  ⟨h.sa.keep h.n02, h.sr.keep h.n12, h.sb.set i x, h.n01, h.n02, h.n12, h.g0, h.g1, h.g2, h.below.setCell h.g2 _⟩
theorem Pm.setA {W : World} {q0 q1 q2 : Nat} {a b : Nat → Wd64} {y : World} (h : Pm W q0 q1 q2 a b y) (i : Nat) (x : Wd64) : Pm W q0 q1 q2 (upd a i x) b (y.setCell ⟨q0, i, none⟩ (.int .u64 (Kc.W x))) :=
  ⟨h.sa.set i x, h.sr.keep (Ne.symm h.n01), h.sb.keep (Ne.symm h.n02), h.n01, h.n02, h.n12, h.g0, h.g1, h.g2, h.below.setCell h.g0 _⟩
theorem arr_cong {a b : Nat → Wd64} (h : ∀ i, i < 25 → a i = b i) : arr a = arr b := by
  unfold arr
  congr 1
  apply List.map_congr_left
  intro i hi
  rw [h i (by simpa using hi)]
theorem Pm.congB {W : World} {q0 q1 q2 : Nat} {a b b' : Nat → Wd64} {y : World} (h : Pm W q0 q1 q2 a b y) (e : ∀ i, i < 25 → b i = b' i) : Pm W q0 q1 q2 a b' y :=
  ⟨h.sa, h.sr, by have := h.sb; unfold IsSt at *; rw [← arr_cong e]; exact this, h.n01, h.n02, h.n12, h.g0, h.g1, h.g2, h.below⟩
theorem Pm.congA {W : World} {q0 q1 q2 : Nat} {a a' b : Nat → Wd64} {y : World} (h : Pm W q0 q1 q2 a b y) (e : ∀ i, i < 25 → a i = a' i) : Pm W q0 q1 q2 a' b y :=
  ⟨by have := h.sa; unfold IsSt at *; rw [← arr_cong e]; exact this, h.sr, h.sb, h.n01, h.n02, h.n12, h.g0, h.g1, h.g2, h.below⟩
theorem Pm.drewN {W : World} {q0 q1 q2 : Nat} {a b : Nat → Wd64} {y : World} (h : Pm W q0 q1 q2 a b y) (n : Nat) : Pm W q0 q1 q2 a b (y.drewN n) := ⟨h.sa, h.sr, h.sb, h.n01, h.n02, h.n12, h.g0, h.g1, h.g2, below_drewN h.below n⟩
theorem Pm.drew {W : World} {q0 q1 q2 : Nat} {a b : Nat → Wd64} {y : World} (h : Pm W q0 q1 q2 a b y) : Pm W q0 q1 q2 a b y.drew := ⟨h.sa, h.sr, h.sb, h.n01, h.n02, h.n12, h.g0, h.g1, h.g2, h.below.drew⟩
theorem Pm.tab {W : World} {q0 q1 q2 : Nat} {a b : Nat → Wd64} {y : World} (h : Pm W q0 q1 q2 a b y) (ht : Laid.KTab W) (i : Nat) (hi : i < 24) : y.cell? ⟨0, i, none⟩ = some (.int .u64 (Kc.W (consts.getD i 0#64))) := keep1 h.below (ht i hi)
theorem rot_at (x : Wd64) (s : Nat) (k : Int) (hk : k = (s : Int)) (hs0 : 0 < s) (hs : s < 64) (w : World) :
    Calls Tryz.prog 94 #[.int .u64 (W x), .int .i64 k] w fun e w' => e = .returned (.int .u64 (W (rotl x s))) ∧ w = w' := by
  subst hk; exact rot_is x s hs0 hs w
theorem rotl_zero (x : Wd64) : rotl x 0 = x := by
  apply BitVec.eq_of_getLsbD_eq
  intro i hi
  rw [rotl_bit _ _ _ hi]
  congr 1
  omega
/-- The rows of a state of which k are done. -/
def chiK (b c : Nat → Wd64) (r : Nat) : Nat → Wd64 := fun j => if j < r then chi b j else c j
theorem chiK_zero (b c : Nat → Wd64) : ∀ i, i < 25 → c i = chiK b c 0 i := by
  intro i _; unfold chiK; rw [if_neg (by omega)]
theorem row_ok (bb c : Nat → Wd64) (r : Nat) (h5 : r % 5 = 0) : ∀ j, j < 25 → upd (upd (upd (upd (upd (chiK bb c r) r (bb r ^^^ (~~~ bb (r + 1) &&& bb (r + 2)))) (r + 1) (bb (r + 1) ^^^ (~~~ bb (r + 2) &&& bb (r + 3)))) (r + 2) (bb (r + 2) ^^^ (~~~ bb (r + 3) &&& bb (r + 4)))) (r + 3) (bb (r + 3) ^^^ (~~~ bb (r + 4) &&& bb r))) (r + 4) (bb (r + 4) ^^^ (~~~ bb r &&& bb (r + 1))) j = chiK bb c (r + 5) j := by
  intro j _
  have e : ∀ i, i < 5 → 5 * ((r + i) / 5) = r ∧ (r + i) % 5 = i := fun i hi => by omega
  have g : ∀ i, i < 5 → chi bb (r + i) = bb (r + i) ^^^ (~~~ bb (r + (i + 1) % 5) &&& bb (r + (i + 2) % 5)) := fun i hi => by unfold chi; rw [(e i hi).1, (e i hi).2]
  unfold chiK upd
  dsimp only
  by_cases h4 : j = r + 4
  · rw [if_pos h4, if_pos (by omega), h4]; exact (g 4 (by decide)).symm
  · rw [if_neg h4]
    by_cases h3 : j = r + 3
    · rw [if_pos h3, if_pos (by omega), h3]; exact (g 3 (by decide)).symm
    · rw [if_neg h3]
      by_cases h2 : j = r + 2
      · rw [if_pos h2, if_pos (by omega), h2]; exact (g 2 (by decide)).symm
      · rw [if_neg h2]
        by_cases h1 : j = r + 1
        · rw [if_pos h1, if_pos (by omega), h1]; exact (g 1 (by decide)).symm
        · rw [if_neg h1]
          by_cases h0 : j = r
          · rw [if_pos h0, if_pos (by omega), h0]; exact (g 0 (by decide)).symm
          · rw [if_neg h0]
            by_cases hl : j < r
            · rw [if_pos hl, if_pos (by omega)]
            · rw [if_neg hl, if_neg (by omega)]
theorem all25 {P : Nat → Prop} (h : P 0 ∧ P 1 ∧ P 2 ∧ P 3 ∧ P 4 ∧ P 5 ∧ P 6 ∧ P 7 ∧ P 8 ∧ P 9 ∧ P 10 ∧ P 11 ∧ P 12 ∧ P 13 ∧ P 14 ∧ P 15 ∧ P 16 ∧ P 17 ∧ P 18 ∧ P 19 ∧ P 20 ∧ P 21 ∧ P 22 ∧ P 23 ∧ P 24) : ∀ i, i < 25 → P i := by
  intro i hi
  obtain ⟨h0, h1, h2, h3, h4, h5, h6, h7, h8, h9, h10, h11, h12, h13, h14, h15, h16, h17, h18, h19, h20, h21, h22, h23, h24⟩ := h
  have hc : i = 0 ∨ i = 1 ∨ i = 2 ∨ i = 3 ∨ i = 4 ∨ i = 5 ∨ i = 6 ∨ i = 7 ∨ i = 8 ∨ i = 9 ∨ i = 10 ∨ i = 11 ∨ i = 12 ∨ i = 13 ∨ i = 14 ∨ i = 15 ∨ i = 16 ∨ i = 17 ∨ i = 18 ∨ i = 19 ∨ i = 20 ∨ i = 21 ∨ i = 22 ∨ i = 23 ∨ i = 24 := by omega
  rcases hc with rfl | rfl | rfl | rfl | rfl | rfl | rfl | rfl | rfl | rfl | rfl | rfl | rfl | rfl | rfl | rfl | rfl | rfl | rfl | rfl | rfl | rfl | rfl | rfl | rfl <;> assumption
theorem rp0 (c : Nat → Wd64) : rhopi (theta c) 0 = (c 0 ^^^ dd c 0) := rotl_zero _
theorem rp1 (c : Nat → Wd64) : rhopi (theta c) 1 = (rotl (c 6 ^^^ dd c 1) 44) := rfl
theorem rp2 (c : Nat → Wd64) : rhopi (theta c) 2 = (rotl (c 12 ^^^ dd c 2) 43) := rfl
theorem rp3 (c : Nat → Wd64) : rhopi (theta c) 3 = (rotl (c 18 ^^^ dd c 3) 21) := rfl
theorem rp4 (c : Nat → Wd64) : rhopi (theta c) 4 = (rotl (c 24 ^^^ dd c 4) 14) := rfl
theorem rp5 (c : Nat → Wd64) : rhopi (theta c) 5 = (rotl (c 3 ^^^ dd c 3) 28) := rfl
theorem rp6 (c : Nat → Wd64) : rhopi (theta c) 6 = (rotl (c 9 ^^^ dd c 4) 20) := rfl
theorem rp7 (c : Nat → Wd64) : rhopi (theta c) 7 = (rotl (c 10 ^^^ dd c 0) 3) := rfl
theorem rp8 (c : Nat → Wd64) : rhopi (theta c) 8 = (rotl (c 16 ^^^ dd c 1) 45) := rfl
theorem rp9 (c : Nat → Wd64) : rhopi (theta c) 9 = (rotl (c 22 ^^^ dd c 2) 61) := rfl
theorem rp10 (c : Nat → Wd64) : rhopi (theta c) 10 = (rotl (c 1 ^^^ dd c 1) 1) := rfl
theorem rp11 (c : Nat → Wd64) : rhopi (theta c) 11 = (rotl (c 7 ^^^ dd c 2) 6) := rfl
theorem rp12 (c : Nat → Wd64) : rhopi (theta c) 12 = (rotl (c 13 ^^^ dd c 3) 25) := rfl
theorem rp13 (c : Nat → Wd64) : rhopi (theta c) 13 = (rotl (c 19 ^^^ dd c 4) 8) := rfl
theorem rp14 (c : Nat → Wd64) : rhopi (theta c) 14 = (rotl (c 20 ^^^ dd c 0) 18) := rfl
theorem rp15 (c : Nat → Wd64) : rhopi (theta c) 15 = (rotl (c 4 ^^^ dd c 4) 27) := rfl
theorem rp16 (c : Nat → Wd64) : rhopi (theta c) 16 = (rotl (c 5 ^^^ dd c 0) 36) := rfl
theorem rp17 (c : Nat → Wd64) : rhopi (theta c) 17 = (rotl (c 11 ^^^ dd c 1) 10) := rfl
theorem rp18 (c : Nat → Wd64) : rhopi (theta c) 18 = (rotl (c 17 ^^^ dd c 2) 15) := rfl
theorem rp19 (c : Nat → Wd64) : rhopi (theta c) 19 = (rotl (c 23 ^^^ dd c 3) 56) := rfl
theorem rp20 (c : Nat → Wd64) : rhopi (theta c) 20 = (rotl (c 2 ^^^ dd c 2) 62) := rfl
theorem rp21 (c : Nat → Wd64) : rhopi (theta c) 21 = (rotl (c 8 ^^^ dd c 3) 55) := rfl
theorem rp22 (c : Nat → Wd64) : rhopi (theta c) 22 = (rotl (c 14 ^^^ dd c 4) 39) := rfl
theorem rp23 (c : Nat → Wd64) : rhopi (theta c) 23 = (rotl (c 15 ^^^ dd c 0) 41) := rfl
theorem rp24 (c : Nat → Wd64) : rhopi (theta c) 24 = (rotl (c 21 ^^^ dd c 1) 2) := rfl
theorem chain_ok (b c : Nat → Wd64) : ∀ i, i < 25 → (upd (upd (upd (upd (upd (upd (upd (upd (upd (upd (upd (upd (upd (upd (upd (upd (upd (upd (upd (upd (upd (upd (upd (upd (upd b 0 (c 0 ^^^ dd c 0)) 10 (rotl (c 1 ^^^ dd c 1) 1)) 20 (rotl (c 2 ^^^ dd c 2) 62)) 5 (rotl (c 3 ^^^ dd c 3) 28)) 15 (rotl (c 4 ^^^ dd c 4) 27)) 16 (rotl (c 5 ^^^ dd c 0) 36)) 1 (rotl (c 6 ^^^ dd c 1) 44)) 11 (rotl (c 7 ^^^ dd c 2) 6)) 21 (rotl (c 8 ^^^ dd c 3) 55)) 6 (rotl (c 9 ^^^ dd c 4) 20)) 7 (rotl (c 10 ^^^ dd c 0) 3)) 17 (rotl (c 11 ^^^ dd c 1) 10)) 2 (rotl (c 12 ^^^ dd c 2) 43)) 12 (rotl (c 13 ^^^ dd c 3) 25)) 22 (rotl (c 14 ^^^ dd c 4) 39)) 23 (rotl (c 15 ^^^ dd c 0) 41)) 8 (rotl (c 16 ^^^ dd c 1) 45)) 18 (rotl (c 17 ^^^ dd c 2) 15)) 3 (rotl (c 18 ^^^ dd c 3) 21)) 13 (rotl (c 19 ^^^ dd c 4) 8)) 14 (rotl (c 20 ^^^ dd c 0) 18)) 24 (rotl (c 21 ^^^ dd c 1) 2)) 9 (rotl (c 22 ^^^ dd c 2) 61)) 19 (rotl (c 23 ^^^ dd c 3) 56)) 4 (rotl (c 24 ^^^ dd c 4) 14)) i = rhopi (theta c) i := by
  refine all25 ?_
  refine ⟨?_, ?_, ?_, ?_, ?_, ?_, ?_, ?_, ?_, ?_, ?_, ?_, ?_, ?_, ?_, ?_, ?_, ?_, ?_, ?_, ?_, ?_, ?_, ?_, ?_⟩
  · rw [rp0]; simp [upd]
  · rw [rp1]; simp [upd]
  · rw [rp2]; simp [upd]
  · rw [rp3]; simp [upd]
  · rw [rp4]; simp [upd]
  · rw [rp5]; simp [upd]
  · rw [rp6]; simp [upd]
  · rw [rp7]; simp [upd]
  · rw [rp8]; simp [upd]
  · rw [rp9]; simp [upd]
  · rw [rp10]; simp [upd]
  · rw [rp11]; simp [upd]
  · rw [rp12]; simp [upd]
  · rw [rp13]; simp [upd]
  · rw [rp14]; simp [upd]
  · rw [rp15]; simp [upd]
  · rw [rp16]; simp [upd]
  · rw [rp17]; simp [upd]
  · rw [rp18]; simp [upd]
  · rw [rp19]; simp [upd]
  · rw [rp20]; simp [upd]
  · rw [rp21]; simp [upd]
  · rw [rp22]; simp [upd]
  · rw [rp23]; simp [upd]
  · rw [rp24]; simp [upd]
end Kc
end Go.Proofs.YtbenjgncbpafbaaGreatDoor
namespace Go.Proofs.YtbenjgncbpafbaaGreatDoor
open Go.RowKit
set_option linter.unusedVariables false
namespace Kc
/-- n values. -/
def tab (n : Nat) (g : Nat → Value) : Array Value := ((List.range n).map g).toArray
theorem tab_size (n : Nat) (g : Nat → Value) : (tab n g).size = n := by simp [tab]
theorem tab_at {n : Nat} (g : Nat → Value) {i : Nat} (h : i < n) : (tab n g)[i]? = some (g i) := by simp [tab, h]
theorem tab_out {n : Nat} (g : Nat → Value) {i : Nat} (h : n ≤ i) : (tab n g)[i]? = none := by simp [tab, h]
theorem tab_cong {n : Nat} {f g : Nat → Value} (h : ∀ i, i < n → f i = g i) : tab n f = tab n g := by
  unfold tab
  congr 1
  apply List.map_congr_left
  intro i hi
  rw [h i (by simpa using hi)]
theorem tab_ext {n : Nat} {f g : Nat → Value} (h : tab n f = tab n g) : ∀ i, i < n → f i = g i := by
  intro i hi
  have := congrArg (fun a : Array Value => a[i]?) h
  rw [tab_at _ hi, tab_at _ hi] at this
  exact Option.some.inj this
theorem tab_one {n : Nat} {g : Nat → Value} (h : ∀ i, (g i).oneCell' = true) : (tab n g).all (·.oneCell') = true := by simp [tab]; intro i _; exact h i
def updv (g : Nat → Value) (i : Nat) (x : Value) : Nat → Value := fun j => if j = i then x else g j
theorem tab_upd {n : Nat} (g : Nat → Value) (i : Nat) (x : Value) : (tab n g).setIfInBounds i x = tab n (updv g i x) := by
  apply Array.ext_getElem?
  intro j
  rw [Array.getElem?_setIfInBounds]
  by_cases hj : j < n
  · rw [tab_at _ hj, tab_at _ hj, tab_size]
    by_cases e : i = j
    · subst e; simp [updv, hj]
    · have e' : ¬ j = i := fun h => e h.symm
      simp [updv, e, e']
  · rw [Array.getElem?_eq_none (by rw [tab_size]; omega), Array.getElem?_eq_none (by rw [tab_size]; omega), tab_size]
    split
    · split
      · omega
      · rfl
    · rfl
/-- A block that holds n values. -/
def IsTab (w : World) (q T n : Nat) (g : Nat → Value) : Prop := w.heap[q]? = some (.cells (tab n g) T (0, 0))
theorem IsTab.cell {w : World} {q T n : Nat} {g : Nat → Value} (h : IsTab w q T n g) (i : Nat) (hi : i < n) : w.cell? ⟨q, i, none⟩ = some (g i) := by
  rw [cell_of_row w q i _ _ _ h]; exact tab_at g hi
theorem IsTab.fz {w : World} {q T n : Nat} {g : Nat → Value} (h : IsTab w q T n g) (i : Nat) : w.frozen? ⟨q, i, none⟩ = false := frozen_of_row w q i _ _ h
theorem IsTab.lt {w : World} {q T n : Nat} {g : Nat → Value} (h : IsTab w q T n g) : q < w.heap.size := (Array.getElem?_eq_some_iff.1 h).1
theorem IsTab.set {w : World} {q T n : Nat} {g : Nat → Value} (h : IsTab w q T n g) (i : Nat) (x : Value) : IsTab (w.setCell ⟨q, i, none⟩ x) q T n (updv g i x) := by
  unfold IsTab at *
  rw [heap_setCell_same w q i _ _ _ h, tab_upd]
theorem IsTab.keep {w : World} {q p i T n : Nat} {v : Value} {g : Nat → Value} (h : IsTab w q T n g) (hn : q ≠ p) : IsTab (w.setCell ⟨p, i, none⟩ v) q T n g := by
  unfold IsTab at *
  rw [Below.heap_setCell _ _ _ _ hn]; exact h
theorem IsTab.cong {w : World} {q T n : Nat} {f g : Nat → Value} (h : IsTab w q T n f) (e : ∀ i, i < n → f i = g i) : IsTab w q T n g := by
  unfold IsTab at *
  rw [← tab_cong e]; exact h
theorem IsTab.drewN {w : World} {q T n : Nat} {g : Nat → Value} (h : IsTab w q T n g) (k : Nat) : IsTab (w.drewN k) q T n g := h
theorem IsTab.drew {w : World} {q T n : Nat} {g : Nat → Value} (h : IsTab w q T n g) : IsTab w.drew q T n g := h
theorem IsTab.below {W w : World} {q T n : Nat} {g : Nat → Value} (h : IsTab W q T n g) (hb : Below W.heap.size W w) : IsTab w q T n g := by
  unfold IsTab at *
  rw [hb.block q (Array.getElem?_eq_some_iff.1 h).1]; exact h
theorem IsTab.alloc {w : World} {q T n : Nat} {g : Nat → Value} (h : IsTab w q T n g) (o : Obj) : IsTab (w.alloc o) q T n g := by
  unfold IsTab at *
  rw [Below.heap_alloc w o q (Array.getElem?_eq_some_iff.1 h).1]; exact h
theorem IsTab.new (w : World) (T n : Nat) (g : Nat → Value) : IsTab (w.alloc (.cells (tab n g) T)) w.heap.size T n g := heap_alloc_new w _
theorem IsTab.row {w : World} {q T n : Nat} {f g : Nat → Value} (h : IsTab w q T n f) : IsTab (w.setRow q (tab n g)) q T n g := setRow_heap w q _ _ _ _ h
theorem IsTab.rowOther {w : World} {q p T n : Nat} {g : Nat → Value} {cs : Array Value} (h : IsTab w q T n g) (hn : q ≠ p) : IsTab (w.setRow p cs) q T n g := by
  unfold IsTab at *
  rw [setRow_other _ _ _ _ hn]; exact h
theorem below_setRow {B : Nat} {W w : World} (h : Below B W w) {q : Nat} (hq : B ≤ q) (cs : Array Value) : Below B W (w.setRow q cs) :=
  ⟨by simp; exact h.os, by simp; exact h.tape, by simp; exact h.output, by simp; exact h.size, fun k hk => by rw [setRow_other _ _ _ _ (by omega)]; exact h.block k hk⟩

/-! ## bytes -/
abbrev Bt := BitVec 8
def Bv (x : Bt) : Int := (x.toNat : Int)
theorem Bv_bd (x : Bt) : 0 ≤ Bv x ∧ Bv x < 256 := by have := x.isLt; unfold Bv; omega
theorem Bv_inj {x y : Bt} (h : Bv x = Bv y) : x = y := by unfold Bv at h; exact BitVec.eq_of_toNat_eq (by omega)
/-- The value of a word, of a byte. -/
def wv (x : Wd64) : Value := .int .u64 (W x)
def bv (x : Bt) : Value := .int .u8 (Bv x)
def words (a : Nat → Wd64) : Array Value := tab 25 fun i => wv (a i)
/-- A byte as a word. -/
def wd (x : Bt) : Wd64 := x.setWidth 64
theorem W_wd (x : Bt) : W (wd x) = Bv x := by
  unfold W wd Bv
  rw [BitVec.toNat_setWidth]
  have := x.isLt
  omega
/-- Eight bytes as a word. -/
def lane (p : Nat → Bt) (i : Nat) : Wd64 :=
  wd (p (8 * i)) ||| wd (p (8 * i + 1)) <<< 8 ||| wd (p (8 * i + 2)) <<< 16 ||| wd (p (8 * i + 3)) <<< 24 ||| wd (p (8 * i + 4)) <<< 32 ||| wd (p (8 * i + 5)) <<< 40 ||| wd (p (8 * i + 6)) <<< 48 ||| wd (p (8 * i + 7)) <<< 56
def absorbK (a : Nat → Wd64) (p : Nat → Bt) (k : Nat) : Nat → Wd64 := fun i => if i < k then a i ^^^ lane p i else a i
def absorb (a : Nat → Wd64) (p : Nat → Bt) : Nat → Wd64 := perm (absorbK a p 17)
def digest (a : Nat → Wd64) (i : Nat) : Bt := (a (i / 8) >>> (8 * (i % 8))).setWidth 8
/-- Behind k whole pieces. -/
def st (l : List Bt) : Nat → Nat → Wd64
  | 0 => fun _ => 0#64
  | k + 1 => absorb (st l k) fun j => l.getD (136 * k + j) 0#8
/-- The last piece. -/
def last (l : List Bt) : Nat → Bt := fun j =>
  (if j < l.length % 136 then l.getD (136 * (l.length / 136) + j) 0#8 else 0#8) ^^^ (if j = l.length % 136 then 1#8 else 0#8) ^^^ (if j = 135 then 128#8 else 0#8)
def sum (l : List Bt) : Nat → Bt := digest (absorb (st l (l.length / 136)) (last l))
theorem wrapW (x : Wd64) : IntKind.u64.wrap (W x) = W x := by have := W_bd x; exact wrap_nn _ this.1 this.2
theorem wrapB (x : Bt) : IntKind.u64.wrap (Bv x) = W (wd x) := by rw [← W_wd]; exact wrapW _
theorem wr_shl (x : Wd64) (s : Nat) (hs : s < 64) : IntKind.u64.wrap (W x * 2 ^ s) = W (x <<< s) := by
  rw [show IntKind.u64.wrap (W x * 2 ^ s) = W x * 2 ^ s % 18446744073709551616 from by simp [IntKind.wrap, IntKind.bits, IntKind.signed]]; exact W_shl x s hs
theorem wr_s8 (x : Wd64) : IntKind.u64.wrap (W x * 256) = W (x <<< 8) := wr_shl x 8 (by decide)
theorem wr_s16 (x : Wd64) : IntKind.u64.wrap (W x * 65536) = W (x <<< 16) := wr_shl x 16 (by decide)
theorem wr_s24 (x : Wd64) : IntKind.u64.wrap (W x * 16777216) = W (x <<< 24) := wr_shl x 24 (by decide)
theorem wr_s32 (x : Wd64) : IntKind.u64.wrap (W x * 4294967296) = W (x <<< 32) := wr_shl x 32 (by decide)
theorem wr_s40 (x : Wd64) : IntKind.u64.wrap (W x * 1099511627776) = W (x <<< 40) := wr_shl x 40 (by decide)
theorem wr_s48 (x : Wd64) : IntKind.u64.wrap (W x * 281474976710656) = W (x <<< 48) := wr_shl x 48 (by decide)
theorem wr_s56 (x : Wd64) : IntKind.u64.wrap (W x * 72057594037927936) = W (x <<< 56) := wr_shl x 56 (by decide)
theorem ktab_below {W w : World} (ht : Laid.KTab W) (h : Below W.heap.size W w) : Laid.KTab w := fun i hi => keep1 h (ht i hi)
theorem und25 : Tryz.prog.underlying 145 = some (.array 25 36) := by kernel_rfl
theorem und136' : Tryz.prog.underlying 146 = some (.array 136 5) := by kernel_rfl
theorem inf25 (g : Nat → Value) : (Tryz.prog.info? 145).map (·.size) = some (tab 25 g).size := by rw [tab_size]; exact kInfo
theorem inf136' : (Tryz.prog.info? 146).map (·.size) = some 136 := by kernel_rfl
theorem inf136 (g : Nat → Value) : (Tryz.prog.info? 146).map (·.size) = some (tab 136 g).size := by rw [tab_size]; exact inf136'
theorem one_wv (a : Nat → Wd64) (n : Nat) : (tab n fun i => wv (a i)).all (·.oneCell') = true := tab_one fun i => rfl
theorem one_bv (a : Nat → Bt) (n : Nat) : (tab n fun i => bv (a i)).all (·.oneCell') = true := tab_one fun i => rfl
/-- What the permutation is said to do. -/
def PermIs : Prop := ∀ (a : Nat → Wd64) (w : World), Laid.KTab w → Calls Tryz.prog 89 #[.agg (arr a)] w fun e w' => e = .returned (.agg (arr (perm a))) ∧ Below w.heap.size w w'
end Kc
end Go.Proofs.YtbenjgncbpafbaaGreatDoor
namespace Go.Proofs.YtbenjgncbpafbaaGreatDoor
open Go.RowKit
structure Kept (S : Nat → Prop) (w w' : World) : Prop where
  os : w'.os = w.os
  tape : w'.tape = w.tape
  output : w'.output = w.output
  size : w.heap.size ≤ w'.heap.size
  block : ∀ k, k < w.heap.size → ¬ S k → w'.heap[k]? = w.heap[k]?
namespace Kept
variable {S T : Nat → Prop} {a b c w : World}
theorem refl (S : Nat → Prop) (w : World) : Kept S w w := ⟨rfl, rfl, rfl, Nat.le_refl _, fun _ _ _ => rfl⟩
theorem trans (h : Kept S a b) (k : Kept T b c) (hs : ∀ i, i < a.heap.size → T i → S i) : Kept S a c :=
  ⟨k.os.trans h.os, k.tape.trans h.tape, k.output.trans h.output, Nat.le_trans h.size k.size, fun i hi hn => (k.block i (Nat.lt_of_lt_of_le hi h.size) (fun ht => hn (hs i hi ht))).trans (h.block i hi hn)⟩
theorem mono (h : Kept S a b) (hs : ∀ i, i < a.heap.size → S i → T i) : Kept T a b := ⟨h.os, h.tape, h.output, h.size, fun k hk hn => h.block k hk (fun hh => hn (hs k hk hh))⟩
theorem drewN (h : Kept S a b) (n : Nat) : Kept S a (b.drewN n) := ⟨h.os, h.tape, h.output, h.size, h.block⟩
theorem drew (h : Kept S a b) : Kept S a b.drew := ⟨h.os, h.tape, h.output, h.size, h.block⟩
theorem alloc (h : Kept S a b) (o : Obj) : Kept S a (b.alloc o) :=
  ⟨h.os, h.tape, h.output, by have := h.size; simp; omega, fun k hk hn => by rw [Below.heap_alloc _ _ _ (by have := h.size; omega)]; exact h.block k hk hn⟩
theorem setCell (h : Kept S a b) {p : Addr} (hp : S p.block ∨ a.heap.size ≤ p.block) (u : Value) : Kept S a (b.setCell p u) :=
  ⟨h.os, h.tape, h.output, by have := h.size; simpa [World.setCell] using this, fun k hk hn => by
    rw [Below.heap_setCell _ _ _ _ (fun e => by subst e; rcases hp with hp | hp; exact hn hp; omega)]; exact h.block k hk hn⟩
theorem grown {row : Option Nat} (h : Kept S a b) (hg : b.grownBy c row) (hr : ∀ k, row = some k → S k ∨ a.heap.size ≤ k) : Kept S a c :=
  ⟨hg.os.trans h.os, hg.tape.trans h.tape, hg.output.trans h.output, Nat.le_trans h.size hg.size, fun k hk hn =>
    (hg.block k (by have := h.size; omega) (fun e => by rcases hr k e.symm with hs | hs; exact hn hs; omega)).trans (h.block k hk hn)⟩
theorem below {B : Nat} (h : Kept S a b) (hB : B ≤ a.heap.size) (hs : ∀ k, k < a.heap.size → S k → B ≤ k) : Below B a b :=
  ⟨h.os, h.tape, h.output, h.size, fun k hk => h.block k (by omega) (fun e => by have := hs k (by omega) e; omega)⟩
theorem ofBelow (h : Below a.heap.size a b) : Kept S a b := ⟨h.os, h.tape, h.output, h.size, fun k hk _ => h.block k hk⟩
theorem cell (h : Kept S a b) {k o : Nat} {v : Value} (hn : ¬ S k) (hc : a.cell? ⟨k, o, none⟩ = some v) : b.cell? ⟨k, o, none⟩ = some v := by
  rw [World.cell?_of_block (w := a) (h.block k (inHeap hc) hn)]; exact hc
theorem frozen (h : Kept S a b) {k o : Nat} (hn : ¬ S k) (hk : k < a.heap.size) : b.frozen? ⟨k, o, none⟩ = a.frozen? ⟨k, o, none⟩ := World.frozen?_of_block (w := a) (h.block k hk hn)
theorem row {base : Nat} {e : TypeId} {size : Nat} {v : Value} {n : Nat} {xs : List Value} (h : Kept S a b) (ho : a.ownsRow base e size v n xs) (hn : ∀ k, v.ownBlock = some k → ¬ S k) : b.ownsRow base e size v n xs := by
  refine ⟨ho.1, ?_⟩
  rcases ho.2 with hh | ⟨g, cap, cur, rfl, hb, hgg, rest⟩
  · exact .inl hh
  · refine .inr ⟨g, cap, cur, rfl, hb, ?_, rest⟩
    rw [h.block g (Array.getElem?_eq_some_iff.1 hgg).1 (hn g rfl)]; exact hgg
end Kept
theorem ownsRow_forms {w : World} {base size n : Nat} {e : TypeId} {v : Value} {xs : List Value} (h : w.ownsRow base e size v n xs) : (v = .slice none 0 0 ∧ n = 0) ∨ ∃ g cap, v = .slice (some ⟨g, 0, none⟩) n cap ∧ base ≤ g ∧ g < w.heap.size ∧ n ≤ cap := by
  rcases h.2 with hh | ⟨g, cap, cur, rfl, hbb, hg, hn, _⟩
  · exact .inl hh
  · exact .inr ⟨g, cap, rfl, hbb, (Array.getElem?_eq_some_iff.1 hg).1, hn⟩
theorem size_setCell (w : World) (a : Addr) (v : Value) : (w.setCell a v).heap.size = w.heap.size := by simp [World.setCell]
theorem one_at {w : World} {n : Nat} (hn : n = w.heap.size) (a : Value) (t : TypeId) : ∀ j u, [a][j]? = some u → (w.alloc (.cells #[a] t)).cell? ((⟨n, 0, none⟩ : Addr).add j) = some u := by
  subst hn
  intro j u hu
  cases j with
  | zero => simp at hu; subst hu; simp [Addr.add]
  | succ j => simp at hu
end Go.Proofs.YtbenjgncbpafbaaGreatDoor
namespace Go.Proofs.YtbenjgncbpafbaaGreatDoor
open Go.RowKit
set_option linter.unusedVariables false
section
variable {P : Program} {md : Region.Mode} {ops : Array Oper} {Q : Exit → Act → World → Prop} {C : World → Prop}
theorem wpAny_more : ∀ (f : Nat) (l : Array Bool) (a : Act) (w : World), wpAny P md ops Q f l a w → wpAny P md ops Q (f + 1) l a w
  | 0, _, _, _, h => ⟨fun _ => h.2, fun i hi => by rw [h.1] at hi; cases hi⟩
  | f + 1, _, _, _, h => ⟨h.1, fun i hi => wpOp_mono (fun a' w' h' => wpAny_more f _ a' w' h') (h.2 i hi)⟩
theorem wpAny_plus {g : Nat} {l : Array Bool} {a : Act} {w : World} (h : wpAny P md ops Q g l a w) : ∀ d, wpAny P md ops Q (d + g) l a w
  | 0 => by rw [Nat.zero_add]; exact h
  | d + 1 => by rw [show d + 1 + g = (d + g) + 1 from by omega]; exact wpAny_more _ _ _ _ (wpAny_plus h d)
/-- Each of the first n waits for earlier ones alone, and has no guard. -/
def backB (ops : Array Oper) (n : Nat) : Bool := (List.range n).all fun i => match ops[i]? with
  | some o => o.guard.isNone && o.after.all fun e => decide (e.on < i)
  | none => false
theorem backB_at {n i : Nat} (h : backB ops n = true) (hi : i < n) : ∃ o, ops[i]? = some o ∧ o.guard = none ∧ ∀ e ∈ o.after, e.on < i := by
  have h1 := List.all_eq_true.1 h i (List.mem_range.2 hi)
  split at h1
  · rename_i o ho
    simp only [Bool.and_eq_true, Option.isNone_iff_eq_none] at h1
    exact ⟨o, ho, h1.1, fun e he => by have := Array.all_eq_true'.1 h1.2 e he; simpa using this⟩
  · cases h1
/-- The first n are listed, the others not. -/
def fullTo (n g : Nat) : Array Bool := (List.replicate n true ++ List.replicate g false).toArray
theorem range_false {l : Array Bool} {j : Nat} (h : l.getD j true = false) : j < l.size := by
  rcases Nat.lt_or_ge j l.size with h' | h'
  · exact h'
  · simp [Array.getElem?_eq_none h'] at h
theorem range_true {l : Array Bool} {j : Nat} (h : l.getD j false = true) : j < l.size := by
  rcases Nat.lt_or_ge j l.size with h' | h'
  · exact h'
  · simp [Array.getElem?_eq_none h'] at h
theorem getD_same {l : Array Bool} {j : Nat} (h : j < l.size) (b c : Bool) : l.getD j b = l.getD j c := by simp [h]
variable {hd : Array Oper} {n g : Nat} {l' l : Array Bool}
theorem head_listed (hh : ∀ i, i < n → hd[i]? = ops[i]?) (hb : backB ops n = true) (hs : l'.size = n) (hr : Region.ready md hd l' = []) : ∀ i, i < n → l'.getD i false = true := by
  intro i
  induction i using Nat.strongRecOn with
  | _ i ih =>
    intro hi
    cases hl : l'.getD i false with
    | true => rfl
    | false =>
      obtain ⟨o, ho, _, hwait⟩ := backB_at hb hi
      have : i ∈ Region.ready md hd l' := mem_ready.2 ⟨by rw [getD_same (by omega) true false]; exact hl, o, by rw [hh i hi]; exact ho, fun e he _ => ih e.on (hwait e he) (by have := hwait e he; omega)⟩
      rw [hr] at this
      cases this
theorem is_full (hsz : l.size = n + g) (hl : ∀ i, i < n → l.getD i false = true) (ht : ∀ t, n ≤ t → t < n + g → l.getD t true = false) : l = fullTo n g := by
  apply Array.ext_getElem?
  intro i
  unfold fullTo
  by_cases h1 : i < n
  · have := hl i h1
    simp [show i < l.size from by omega] at this
    simp [List.getElem?_append, h1, show i < l.size from by omega, this]
  · by_cases h2 : i < n + g
    · have := ht i (by omega) h2
      simp [show i < l.size from by omega] at this
      simp [List.getElem?_append, h1, show i < l.size from by omega, this, show i - n < g from by omega]
    · rw [Array.getElem?_eq_none (by omega)]
      simp [List.getElem?_append, h1, show ¬ i - n < g from by omega]
theorem qOp_hd {i : Nat} (hh : hd[i]? = ops[i]?) {o : Oper} (ho : ops[i]? = some o) (hg : o.guard = none) {K : Act → Prop} {a : Act} (h : qOp P hd C i K a) : qOp P ops C i K a := by
  unfold qOp at *
  rw [hh, ho] at h
  simp only [ho] at h ⊢
  have e1 : ∀ y, Region.wanted o y = true := fun y => by simp [Region.wanted, hg]
  rw [e1, if_pos rfl] at h ⊢
  exact h
theorem any_of_head {Qh : Act → Prop} (hh : ∀ i, i < n → hd[i]? = ops[i]?) (hb : backB ops n = true) (hs : Region.sinkB md ops n = true) (hc : Region.chainB md ops n = true) (hn : n < ops.size) (hsz : ops.size = n + g)
    (hQ : ∀ a w, C w → Qh a → wpAny P md ops Q g (fullTo n g) a w) :
    ∀ (f : Nat) (l' l : Array Bool) (a : Act) (w : World), C w → HeadInv md ops n l → l'.size = n → (∀ j, j < n → l'.getD j false = l.getD j false) → wpAnyQ P md hd C Qh f l' a → wpAny P md ops Q (f + g) l a w := by
  have done : ∀ (l' l : Array Bool) (a : Act) (w : World), C w → HeadInv md ops n l → l'.size = n → (∀ j, j < n → l'.getD j false = l.getD j false) → Region.ready md hd l' = [] → Qh a → wpAny P md ops Q g l a w := by
    intro l' l a w hC inv h1 h2 hr hq
    have hl := head_listed hh hb h1 hr
    rw [is_full (l := l) (g := g) (by rw [inv.size, hsz]) (fun i hi => by rw [← h2 i hi]; exact hl i hi) (fun t h3 h4 => inv.tail t h3 (by omega))]
    exact hQ a w hC hq
  intro f
  induction f with
  | zero => intro l' l a w hC inv h1 h2 h; rw [Nat.zero_add]; exact done l' l a w hC inv h1 h2 h.1 h.2
  | succ f ih =>
    intro l' l a w hC inv h1 h2 h
    by_cases hr : Region.ready md hd l' = []
    · exact wpAny_plus (done l' l a w hC inv h1 h2 hr (h.1 hr)) (f + 1)
    · obtain ⟨i0, hi0⟩ := List.exists_mem_of_ne_nil _ hr
      have up : ∀ i, i ∈ Region.ready md hd l' → i < n ∧ i ∈ Region.ready md ops l := by
        intro i hi
        obtain ⟨k1, o, k2, k3⟩ := mem_ready.1 hi
        have hin : i < n := by have := range_false k1; omega
        refine ⟨hin, mem_ready.2 ⟨?_, o, by rw [← hh i hin]; exact k2, fun e he hbn => ?_⟩⟩
        · rw [getD_same (by rw [inv.size]; omega) true false, ← h2 i hin, getD_same (by omega) false true]; exact k1
        · have := k3 e he hbn
          rw [← h2 e.on (by have := range_true this; omega)]; exact this
      rw [show f + 1 + g = (f + g) + 1 from by omega]
      refine ⟨fun h0 => absurd (h0 ▸ (up i0 hi0).2) (by simp), fun i hi => ?_⟩
      have hin : i < n := by
        rcases Nat.lt_or_ge i n with h3 | h3
        · exact h3
        · exact absurd hi (tail_waits hs hc hn inv _ i0 rfl (up i0 hi0).1 (mem_ready.1 (up i0 hi0).2).1 i h3)
      obtain ⟨o, ho, hg, hwait⟩ := backB_at hb hin
      have hi' : i ∈ Region.ready md hd l' := by
        obtain ⟨k1, o2, k2, k3⟩ := mem_ready.1 hi
        have : o2 = o := Option.some.inj (k2.symm.trans ho)
        subst this
        refine mem_ready.2 ⟨?_, o2, by rw [hh i hin]; exact ho, fun e he hbn => ?_⟩
        · rw [getD_same (by omega) true false, h2 i hin, getD_same (by rw [inv.size]; omega) false true]; exact k1
        · rw [h2 e.on (by have := hwait e he; omega)]; exact k3 e he hbn
      refine wpOp_of_qOp hC (fun a' w' hw' hk => ?_) (qOp_hd (hh i hin) ho hg (h.2 i hi'))
      refine ih (l'.setIfInBounds i true) (l.setIfInBounds i true) a' w' hw' (inv.set hi hin) (by simp [h1]) (fun j hj => ?_) hk
      by_cases hij : i = j
      · subst hij; simp [show i < l'.size from by omega, show i < l.size from by rw [inv.size]; omega]
      · rw [getD_set_ne false hij, getD_set_ne false hij]; exact h2 j hj
/-- What the kernel reckons of such a region. -/
def tailB (md : Region.Mode) (ops : Array Oper) (n : Nat) : Bool :=
  decide (n < ops.size) && backB ops n && Region.sinkB md ops n && Region.chainB md ops n && Region.lexB md (ops.toList.take n).toArray && Region.seqB md ops (ops.size - n) n (fullTo n (ops.size - n))
theorem wp_region_quiet_tail {id : Nat} {a : Act} {w : World} {l : List Oper} (n : Nat) (R : World → Prop) (hm : P.follows .mixedOrders = true) (hB : tailB .any l.toArray n = true) (hR : R w.drew)
    (h : wpQuiet P (l.take n).toArray (fun w' => ∃ s : Wd R, w' = s.val) (fun a' => ∀ w', (∃ s : Wd R, w' = s.val) → wpList P l.toArray Q (l.drop n) a' w') (l.take n) a) : (Code.region id l.toArray true).wp P Q a w := by
  simp only [tailB, Bool.and_eq_true, decide_eq_true_eq] at hB
  obtain ⟨⟨⟨⟨⟨hn, hb⟩, hs⟩, hc⟩, hlex⟩, hseq⟩ := hB
  have hn' : n < l.length := by simpa using hn
  have htl : (l.take n).length = n := by simp; omega
  simp only [Region.lexB, Bool.and_eq_true] at hlex
  have H := wpAnyQ_lex (C := fun w' => ∃ s : Wd R, w' = s.val) (md := .any) hlex.1 (l.take n) 0 (Array.replicate (l.take n).toArray.size false) a (by simp) (by simpa using hlex.2) h
  refine wp_region_any hm ?_
  have inv0 : HeadInv .any l.toArray n (Array.replicate l.toArray.size false) :=
    ⟨by simp, fun j oj _ hl => (by rw [getD_replicate_false] at hl; cases hl), fun t _ ht => getD_in (by simpa using ht) (getD_replicate_false _ _)⟩
  have := any_of_head (P := P) (Q := Q) (C := fun w' => ∃ s : Wd R, w' = s.val) (g := l.toArray.size - n) (fun i hi => by simp [hi]) hb hs hc hn (by omega) (fun a' w' hC hq => by
    have := wpAny_of_seq (md := .any) (Q' := Q) (l.drop n) n (fullTo n (l.toArray.size - n)) a' w' (fun j => by simp [List.getElem?_drop]) (by simpa using hseq) (hq w' hC)
    simpa using this) _ _ _ a w.drew ⟨⟨_, hR⟩, rfl⟩ inv0 (by simp; omega) (fun j hj => by rw [getD_replicate_false, getD_replicate_false]) H
  rw [htl, show n + (l.toArray.size - n) = l.toArray.size by omega] at this
  exact this
/-- A load whose value is known in every world of the class, as a step of the head. -/
theorem wpQuiet_load {Q : Act → Prop} {a : Act} {o : Oper} {rest : List Oper} (ty : TypeId) (x : Operand) (p v : Value) (hg : o.guard = none) (ho : o.op = .load ty x) (hx : a.eval x = p)
    (hl : ∀ w, C w → (Instr.loadAt ty p).run P w = .ok v w) (h : wpQuiet P ops C Q rest (a.put o.dst v)) : wpQuiet P ops C Q (o :: rest) a := by
  have e1 : ∀ y, Region.wanted o y = true := fun y => by simp [Region.wanted, hg]
  unfold wpQuiet
  rw [e1, if_pos rfl]
  refine ⟨v, fun w hw => ?_, h⟩
  unfold Oper.quietAt execOp
  simp only [ho, hx]
  simp [hl w hw, Oper.quietUpon, Result.andThen]
end
end Go.Proofs.YtbenjgncbpafbaaGreatDoor
