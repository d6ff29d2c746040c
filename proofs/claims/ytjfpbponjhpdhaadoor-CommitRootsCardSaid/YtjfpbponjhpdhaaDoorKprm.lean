/-
  keccak.Permute. Own work.
-/
import Derived.Test.YtjfpbponjhpdhaaDoorKrot
import Derived.Test.YtjfpbponjhpdhaaDoorLaid
import Derived.LoopTactic
import Derived.Deep.Cut
import Derived.Deep.WholeRow
import Derived.Laws.Tables
namespace Go.Proofs.YtjfpbponjhpdhaaDoor
open Go.RowKit
set_option linter.unusedVariables false
namespace Kc
/-- 25 words as an array. -/
def arr (a : Nat → Wd64) : Array Value := ((List.range 25).map fun i => Value.int .u64 (W (a i))).toArray
theorem arr_size (a : Nat → Wd64) : (arr a).size = 25 := by simp [arr]
theorem arr_at (a : Nat → Wd64) {i : Nat} (h : i < 25) : (arr a)[i]? = some (.int .u64 (W (a i))) := by simp [arr, h]
theorem arr_one (a : Nat → Wd64) : (arr a).all (·.oneCell') = true := by simp [arr]; intro i _; rfl
theorem kInfo : (Tryd.prog.info? 173).map (·.size) = some 25 := by kernel_rfl
/-- A block of 25 words. -/
def IsSt (w : World) (q : Nat) (a : Nat → Wd64) : Prop := w.heap[q]? = some (.cells (arr a) 173 (0, 0))
theorem IsSt.cell {w : World} {q : Nat} {a : Nat → Wd64} (h : IsSt w q a) (i : Nat) (hi : i < 25) : w.cell? ⟨q, i, none⟩ = some (.int .u64 (W (a i))) := by
  rw [cell_of_row w q i _ _ _ h]; exact arr_at a hi
theorem IsSt.fz {w : World} {q : Nat} {a : Nat → Wd64} (h : IsSt w q a) (i : Nat) : w.frozen? ⟨q, i, none⟩ = false := frozen_of_row w q i _ _ h
def upd (a : Nat → Wd64) (i : Nat) (x : Wd64) : Nat → Wd64 := fun j => if j = i then x else a j
theorem arr_upd (a : Nat → Wd64) (i : Nat) (x : Wd64) : (arr a).setIfInBounds i (.int .u64 (W x)) = arr (upd a i x) := by
  apply Array.ext_getElem?
  intro j
  rw [Array.getElem?_setIfInBounds]
  by_cases hj : j < 25
  · rw [arr_at _ hj, arr_at _ hj, arr_size]
    by_cases e : i = j
    · subst e; simp [upd, hj]
    · have e' : ¬ j = i := fun h => e h.symm
      simp [upd, e, e']
  · rw [Array.getElem?_eq_none (by rw [arr_size]; omega), Array.getElem?_eq_none (by rw [arr_size]; omega), arr_size]
    split
    · split
      · omega
      · rfl
    · rfl
theorem IsSt.set {w : World} {q : Nat} {a : Nat → Wd64} (h : IsSt w q a) (i : Nat) (x : Wd64) : IsSt (w.setCell ⟨q, i, none⟩ (.int .u64 (W x))) q (upd a i x) := by
  unfold IsSt at *
  rw [heap_setCell_same w q i _ _ _ h, arr_upd]
theorem IsSt.keep {w : World} {q p i : Nat} {v : Value} {a : Nat → Wd64} (h : IsSt w q a) (hn : q ≠ p) : IsSt (w.setCell ⟨p, i, none⟩ v) q a := by
  unfold IsSt at *
  rw [Below.heap_setCell _ _ _ _ hn]; exact h
theorem arr_zero : arr (fun _ => 0#64) = #[.int .u64 0, .int .u64 0, .int .u64 0, .int .u64 0, .int .u64 0, .int .u64 0, .int .u64 0, .int .u64 0, .int .u64 0, .int .u64 0, .int .u64 0, .int .u64 0, .int .u64 0, .int .u64 0, .int .u64 0, .int .u64 0, .int .u64 0, .int .u64 0, .int .u64 0, .int .u64 0, .int .u64 0, .int .u64 0, .int .u64 0, .int .u64 0, .int .u64 0] := by rfl
def zlit : Array Value := #[.int .u64 0, .int .u64 0, .int .u64 0, .int .u64 0, .int .u64 0, .int .u64 0, .int .u64 0, .int .u64 0, .int .u64 0, .int .u64 0, .int .u64 0, .int .u64 0, .int .u64 0, .int .u64 0, .int .u64 0, .int .u64 0, .int .u64 0, .int .u64 0, .int .u64 0, .int .u64 0, .int .u64 0, .int .u64 0, .int .u64 0, .int .u64 0, .int .u64 0]
theorem zInfo : (Tryd.prog.info? 173).map (·.size) = some (#[.int .u64 0, .int .u64 0, .int .u64 0, .int .u64 0, .int .u64 0, .int .u64 0, .int .u64 0, .int .u64 0, .int .u64 0, .int .u64 0, .int .u64 0, .int .u64 0, .int .u64 0, .int .u64 0, .int .u64 0, .int .u64 0, .int .u64 0, .int .u64 0, .int .u64 0, .int .u64 0, .int .u64 0, .int .u64 0, .int .u64 0, .int .u64 0, .int .u64 0] : Array Value).size := by kernel_rfl
theorem zOne : (#[.int .u64 0, .int .u64 0, .int .u64 0, .int .u64 0, .int .u64 0, .int .u64 0, .int .u64 0, .int .u64 0, .int .u64 0, .int .u64 0, .int .u64 0, .int .u64 0, .int .u64 0, .int .u64 0, .int .u64 0, .int .u64 0, .int .u64 0, .int .u64 0, .int .u64 0, .int .u64 0, .int .u64 0, .int .u64 0, .int .u64 0, .int .u64 0, .int .u64 0] : Array Value).all (·.oneCell') = true := by kernel_rfl
theorem st_new (w : World) (a : Nat → Wd64) : IsSt (w.alloc (.cells (arr a) 173)) w.heap.size a := heap_alloc_new w _
theorem st_old {w : World} {q : Nat} {a : Nat → Wd64} (h : IsSt w q a) (o : Obj) : IsSt (w.alloc o) q a := by
  unfold IsSt at *
  rw [Below.heap_alloc w o q (Array.getElem?_eq_some_iff.1 h).1]; exact h
theorem st_lt {w : World} {q : Nat} {a : Nat → Wd64} (h : IsSt w q a) : q < w.heap.size := (Array.getElem?_eq_some_iff.1 h).1
structure Pm (W : World) (q0 q1 q2 : Nat) (a b : Nat → Wd64) (y : World) : Prop where
  sa : IsSt y q0 a
  sr : IsSt y q1 (fun _ => 0#64)
  sb : IsSt y q2 b
  n01 : q0 ≠ q1
  n02 : q0 ≠ q2
  n12 : q1 ≠ q2
  g0 : W.heap.size ≤ q0
  g1 : W.heap.size ≤ q1
  g2 : W.heap.size ≤ q2
  below : Below W.heap.size W y
theorem Pm.setB {W : World} {q0 q1 q2 : Nat} {a b : Nat → Wd64} {y : World} (h : Pm W q0 q1 q2 a b y) (i : Nat) (x : Wd64) : Pm W q0 q1 q2 a (upd b i x) (y.setCell ⟨q2, i, none⟩ (.int .u64 (Kc.W x))) :=
  ⟨h.sa.keep h.n02, h.sr.keep h.n12, h.sb.set i x, h.n01, h.n02, h.n12, h.g0, h.g1, h.g2, h.below.setCell h.g2 _⟩
theorem Pm.setA {W : World} {q0 q1 q2 : Nat} {a b : Nat → Wd64} {y : World} (h : Pm W q0 q1 q2 a b y) (i : Nat) (x : Wd64) : Pm W q0 q1 q2 (upd a i x) b (y.setCell ⟨q0, i, none⟩ (.int .u64 (Kc.W x))) :=
  ⟨h.sa.set i x, h.sr.keep (Ne.symm h.n01), h.sb.keep (Ne.symm h.n02), h.n01, h.n02, h.n12, h.g0, h.g1, h.g2, h.below.setCell h.g0 _⟩
theorem arr_cong {a b : Nat → Wd64} (h : ∀ i, i < 25 → a i = b i) : arr a = arr b := by
  unfold arr
  congr 1
  apply List.map_congr_left
  intro i hi
  rw [h i (by simpa using hi)]
theorem Pm.congB {W : World} {q0 q1 q2 : Nat} {a b b' : Nat → Wd64} {y : World} (h : Pm W q0 q1 q2 a b y) (e : ∀ i, i < 25 → b i = b' i) : Pm W q0 q1 q2 a b' y :=
  ⟨h.sa, h.sr, by have := h.sb; unfold IsSt at *; rw [← arr_cong e]; exact this, h.n01, h.n02, h.n12, h.g0, h.g1, h.g2, h.below⟩
theorem Pm.congA {W : World} {q0 q1 q2 : Nat} {a a' b : Nat → Wd64} {y : World} (h : Pm W q0 q1 q2 a b y) (e : ∀ i, i < 25 → a i = a' i) : Pm W q0 q1 q2 a' b y :=
  ⟨by have := h.sa; unfold IsSt at *; rw [← arr_cong e]; exact this, h.sr, h.sb, h.n01, h.n02, h.n12, h.g0, h.g1, h.g2, h.below⟩
theorem Pm.drewN {W : World} {q0 q1 q2 : Nat} {a b : Nat → Wd64} {y : World} (h : Pm W q0 q1 q2 a b y) (n : Nat) : Pm W q0 q1 q2 a b (y.drewN n) := ⟨h.sa, h.sr, h.sb, h.n01, h.n02, h.n12, h.g0, h.g1, h.g2, below_drewN h.below n⟩
theorem Pm.drew {W : World} {q0 q1 q2 : Nat} {a b : Nat → Wd64} {y : World} (h : Pm W q0 q1 q2 a b y) : Pm W q0 q1 q2 a b y.drew := ⟨h.sa, h.sr, h.sb, h.n01, h.n02, h.n12, h.g0, h.g1, h.g2, h.below.drew⟩
theorem Pm.tab {W : World} {q0 q1 q2 : Nat} {a b : Nat → Wd64} {y : World} (h : Pm W q0 q1 q2 a b y) (ht : Laid.KTab W) (i : Nat) (hi : i < 24) : y.cell? ⟨0, i, none⟩ = some (.int .u64 (Kc.W (consts.getD i 0#64))) := keep1 h.below (ht i hi)
theorem rot_at (x : Wd64) (s : Nat) (k : Int) (hk : k = (s : Int)) (hs0 : 0 < s) (hs : s < 64) (w : World) :
    Calls Tryd.prog 98 #[.int .u64 (W x), .int .i64 k] w fun e w' => e = .returned (.int .u64 (W (rotl x s))) ∧ w = w' := by
  subst hk; exact rot_is x s hs0 hs w
theorem rotl_zero (x : Wd64) : rotl x 0 = x := by
  apply BitVec.eq_of_getLsbD_eq
  intro i hi
  rw [rotl_bit _ _ _ hi]
  congr 1
  omega
/-- The rows of a state of which k are done. -/
def chiK (b c : Nat → Wd64) (r : Nat) : Nat → Wd64 := fun j => if j < r then chi b j else c j
theorem chiK_zero (b c : Nat → Wd64) : ∀ i, i < 25 → c i = chiK b c 0 i := by
  intro i _; unfold chiK; rw [if_neg (by omega)]
theorem row_ok (bb c : Nat → Wd64) (r : Nat) (h5 : r % 5 = 0) : ∀ j, j < 25 → upd (upd (upd (upd (upd (chiK bb c r) r (bb r ^^^ (~~~ bb (r + 1) &&& bb (r + 2)))) (r + 1) (bb (r + 1) ^^^ (~~~ bb (r + 2) &&& bb (r + 3)))) (r + 2) (bb (r + 2) ^^^ (~~~ bb (r + 3) &&& bb (r + 4)))) (r + 3) (bb (r + 3) ^^^ (~~~ bb (r + 4) &&& bb r))) (r + 4) (bb (r + 4) ^^^ (~~~ bb r &&& bb (r + 1))) j = chiK bb c (r + 5) j := by
  intro j _
  have e : ∀ i, i < 5 → 5 * ((r + i) / 5) = r ∧ (r + i) % 5 = i := fun i hi => by omega
  have g : ∀ i, i < 5 → chi bb (r + i) = bb (r + i) ^^^ (~~~ bb (r + (i + 1) % 5) &&& bb (r + (i + 2) % 5)) := fun i hi => by unfold chi; rw [(e i hi).1, (e i hi).2]
  unfold chiK upd
  dsimp only
  by_cases h4 : j = r + 4
  · rw [if_pos h4, if_pos (by omega), h4]; exact (g 4 (by decide)).symm
  · rw [if_neg h4]
    by_cases h3 : j = r + 3
    · rw [if_pos h3, if_pos (by omega), h3]; exact (g 3 (by decide)).symm
    · rw [if_neg h3]
      by_cases h2 : j = r + 2
      · rw [if_pos h2, if_pos (by omega), h2]; exact (g 2 (by decide)).symm
      · rw [if_neg h2]
        by_cases h1 : j = r + 1
        · rw [if_pos h1, if_pos (by omega), h1]; exact (g 1 (by decide)).symm
        · rw [if_neg h1]
          by_cases h0 : j = r
          · rw [if_pos h0, if_pos (by omega), h0]; exact (g 0 (by decide)).symm
          · rw [if_neg h0]
            by_cases hl : j < r
            · rw [if_pos hl, if_pos (by omega)]
            · rw [if_neg hl, if_neg (by omega)]
theorem all25 {P : Nat → Prop} (h : P 0 ∧ P 1 ∧ P 2 ∧ P 3 ∧ P 4 ∧ P 5 ∧ P 6 ∧ P 7 ∧ P 8 ∧ P 9 ∧ P 10 ∧ P 11 ∧ P 12 ∧ P 13 ∧ P 14 ∧ P 15 ∧ P 16 ∧ P 17 ∧ P 18 ∧ P 19 ∧ P 20 ∧ P 21 ∧ P 22 ∧ P 23 ∧ P 24) : ∀ i, i < 25 → P i := by
  intro i hi
  obtain ⟨h0, h1, h2, h3, h4, h5, h6, h7, h8, h9, h10, h11, h12, h13, h14, h15, h16, h17, h18, h19, h20, h21, h22, h23, h24⟩ := h
  have hc : i = 0 ∨ i = 1 ∨ i = 2 ∨ i = 3 ∨ i = 4 ∨ i = 5 ∨ i = 6 ∨ i = 7 ∨ i = 8 ∨ i = 9 ∨ i = 10 ∨ i = 11 ∨ i = 12 ∨ i = 13 ∨ i = 14 ∨ i = 15 ∨ i = 16 ∨ i = 17 ∨ i = 18 ∨ i = 19 ∨ i = 20 ∨ i = 21 ∨ i = 22 ∨ i = 23 ∨ i = 24 := by omega
  rcases hc with rfl | rfl | rfl | rfl | rfl | rfl | rfl | rfl | rfl | rfl | rfl | rfl | rfl | rfl | rfl | rfl | rfl | rfl | rfl | rfl | rfl | rfl | rfl | rfl | rfl <;> assumption
theorem rp0 (c : Nat → Wd64) : rhopi (theta c) 0 = (c 0 ^^^ dd c 0) := rotl_zero _
theorem rp1 (c : Nat → Wd64) : rhopi (theta c) 1 = (rotl (c 6 ^^^ dd c 1) 44) := rfl
theorem rp2 (c : Nat → Wd64) : rhopi (theta c) 2 = (rotl (c 12 ^^^ dd c 2) 43) := rfl
theorem rp3 (c : Nat → Wd64) : rhopi (theta c) 3 = (rotl (c 18 ^^^ dd c 3) 21) := rfl
theorem rp4 (c : Nat → Wd64) : rhopi (theta c) 4 = (rotl (c 24 ^^^ dd c 4) 14) := rfl
theorem rp5 (c : Nat → Wd64) : rhopi (theta c) 5 = (rotl (c 3 ^^^ dd c 3) 28) := rfl
theorem rp6 (c : Nat → Wd64) : rhopi (theta c) 6 = (rotl (c 9 ^^^ dd c 4) 20) := rfl
theorem rp7 (c : Nat → Wd64) : rhopi (theta c) 7 = (rotl (c 10 ^^^ dd c 0) 3) := rfl
theorem rp8 (c : Nat → Wd64) : rhopi (theta c) 8 = (rotl (c 16 ^^^ dd c 1) 45) := rfl
theorem rp9 (c : Nat → Wd64) : rhopi (theta c) 9 = (rotl (c 22 ^^^ dd c 2) 61) := rfl
theorem rp10 (c : Nat → Wd64) : rhopi (theta c) 10 = (rotl (c 1 ^^^ dd c 1) 1) := rfl
theorem rp11 (c : Nat → Wd64) : rhopi (theta c) 11 = (rotl (c 7 ^^^ dd c 2) 6) := rfl
theorem rp12 (c : Nat → Wd64) : rhopi (theta c) 12 = (rotl (c 13 ^^^ dd c 3) 25) := rfl
theorem rp13 (c : Nat → Wd64) : rhopi (theta c) 13 = (rotl (c 19 ^^^ dd c 4) 8) := rfl
theorem rp14 (c : Nat → Wd64) : rhopi (theta c) 14 = (rotl (c 20 ^^^ dd c 0) 18) := rfl
theorem rp15 (c : Nat → Wd64) : rhopi (theta c) 15 = (rotl (c 4 ^^^ dd c 4) 27) := rfl
theorem rp16 (c : Nat → Wd64) : rhopi (theta c) 16 = (rotl (c 5 ^^^ dd c 0) 36) := rfl
theorem rp17 (c : Nat → Wd64) : rhopi (theta c) 17 = (rotl (c 11 ^^^ dd c 1) 10) := rfl
theorem rp18 (c : Nat → Wd64) : rhopi (theta c) 18 = (rotl (c 17 ^^^ dd c 2) 15) := rfl
theorem rp19 (c : Nat → Wd64) : rhopi (theta c) 19 = (rotl (c 23 ^^^ dd c 3) 56) := rfl
theorem rp20 (c : Nat → Wd64) : rhopi (theta c) 20 = (rotl (c 2 ^^^ dd c 2) 62) := rfl
theorem rp21 (c : Nat → Wd64) : rhopi (theta c) 21 = (rotl (c 8 ^^^ dd c 3) 55) := rfl
theorem rp22 (c : Nat → Wd64) : rhopi (theta c) 22 = (rotl (c 14 ^^^ dd c 4) 39) := rfl
theorem rp23 (c : Nat → Wd64) : rhopi (theta c) 23 = (rotl (c 15 ^^^ dd c 0) 41) := rfl
theorem rp24 (c : Nat → Wd64) : rhopi (theta c) 24 = (rotl (c 21 ^^^ dd c 1) 2) := rfl
theorem chain_ok (b c : Nat → Wd64) : ∀ i, i < 25 → (upd (upd (upd (upd (upd (upd (upd (upd (upd (upd (upd (upd (upd (upd (upd (upd (upd (upd (upd (upd (upd (upd (upd (upd (upd b 0 (c 0 ^^^ dd c 0)) 10 (rotl (c 1 ^^^ dd c 1) 1)) 20 (rotl (c 2 ^^^ dd c 2) 62)) 5 (rotl (c 3 ^^^ dd c 3) 28)) 15 (rotl (c 4 ^^^ dd c 4) 27)) 16 (rotl (c 5 ^^^ dd c 0) 36)) 1 (rotl (c 6 ^^^ dd c 1) 44)) 11 (rotl (c 7 ^^^ dd c 2) 6)) 21 (rotl (c 8 ^^^ dd c 3) 55)) 6 (rotl (c 9 ^^^ dd c 4) 20)) 7 (rotl (c 10 ^^^ dd c 0) 3)) 17 (rotl (c 11 ^^^ dd c 1) 10)) 2 (rotl (c 12 ^^^ dd c 2) 43)) 12 (rotl (c 13 ^^^ dd c 3) 25)) 22 (rotl (c 14 ^^^ dd c 4) 39)) 23 (rotl (c 15 ^^^ dd c 0) 41)) 8 (rotl (c 16 ^^^ dd c 1) 45)) 18 (rotl (c 17 ^^^ dd c 2) 15)) 3 (rotl (c 18 ^^^ dd c 3) 21)) 13 (rotl (c 19 ^^^ dd c 4) 8)) 14 (rotl (c 20 ^^^ dd c 0) 18)) 24 (rotl (c 21 ^^^ dd c 1) 2)) 9 (rotl (c 22 ^^^ dd c 2) 61)) 19 (rotl (c 23 ^^^ dd c 3) 56)) 4 (rotl (c 24 ^^^ dd c 4) 14)) i = rhopi (theta c) i := by
  refine all25 ?_
  refine ⟨?_, ?_, ?_, ?_, ?_, ?_, ?_, ?_, ?_, ?_, ?_, ?_, ?_, ?_, ?_, ?_, ?_, ?_, ?_, ?_, ?_, ?_, ?_, ?_, ?_⟩
  · rw [rp0]; simp [upd]
  · rw [rp1]; simp [upd]
  · rw [rp2]; simp [upd]
  · rw [rp3]; simp [upd]
  · rw [rp4]; simp [upd]
  · rw [rp5]; simp [upd]
  · rw [rp6]; simp [upd]
  · rw [rp7]; simp [upd]
  · rw [rp8]; simp [upd]
  · rw [rp9]; simp [upd]
  · rw [rp10]; simp [upd]
  · rw [rp11]; simp [upd]
  · rw [rp12]; simp [upd]
  · rw [rp13]; simp [upd]
  · rw [rp14]; simp [upd]
  · rw [rp15]; simp [upd]
  · rw [rp16]; simp [upd]
  · rw [rp17]; simp [upd]
  · rw [rp18]; simp [upd]
  · rw [rp19]; simp [upd]
  · rw [rp20]; simp [upd]
  · rw [rp21]; simp [upd]
  · rw [rp22]; simp [upd]
  · rw [rp23]; simp [upd]
  · rw [rp24]; simp [upd]
end Kc
end Go.Proofs.YtjfpbponjhpdhaaDoor
