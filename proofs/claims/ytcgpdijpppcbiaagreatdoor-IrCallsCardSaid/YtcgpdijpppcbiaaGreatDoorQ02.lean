/- Merged of Kprm Tab Evb Evc Qin. Own work. -/
import Derived.Test.YtcgpdijpppcbiaaGreatDoorQ01
import Derived.LoopTactic
import Derived.Deep.Cut
import Derived.Deep.WholeRow
import Derived.Laws.Tables
import Derived.Deep.MidRow
import Derived.StillTailTactics
import Derived.Outline
import Derived.BigQuiet
import Derived.Deep.QuietTactic
import Derived.BigRegion
import Derived.RegionTactic
import Derived.Lib.Hide
import Derived.WalkKit
namespace Go.Proofs.YtcgpdijpppcbiaaGreatDoor
open Go.RowKit
set_option linter.unusedVariables false
namespace Kc
/-- 25 words as an array. -/
def arr (a : Nat → Wd64) : Array Value := ((List.range 25).map fun i => Value.int .u64 (W (a i))).toArray
theorem arr_size (a : Nat → Wd64) : (arr a).size = 25 := by simp [arr]
theorem arr_at (a : Nat → Wd64) {i : Nat} (h : i < 25) : (arr a)[i]? = some (.int .u64 (W (a i))) := by simp [arr, h]
theorem kInfo : (Tryz.prog.info? 141).map (·.size) = some 25 := by kernel_rfl
/-- A block of 25 words. -/
def IsSt (w : World) (q : Nat) (a : Nat → Wd64) : Prop := w.heap[q]? = some (.cells (arr a) 141 (0, 0))
theorem IsSt.cell {w : World} {q : Nat} {a : Nat → Wd64} (h : IsSt w q a) (i : Nat) (hi : i < 25) : w.cell? ⟨q, i, none⟩ = some (.int .u64 (W (a i))) := by
  rw [cell_of_row w q i _ _ _ h]; exact arr_at a hi
theorem IsSt.fz {w : World} {q : Nat} {a : Nat → Wd64} (h : IsSt w q a) (i : Nat) : w.frozen? ⟨q, i, none⟩ = false := frozen_of_row w q i _ _ h
def upd (a : Nat → Wd64) (i : Nat) (x : Wd64) : Nat → Wd64 := fun j => if j = i then x else a j
theorem arr_upd (a : Nat → Wd64) (i : Nat) (x : Wd64) : (arr a).setIfInBounds i (.int .u64 (W x)) = arr (upd a i x) := by
  apply Array.ext_getElem?
  intro j
  rw [Array.getElem?_setIfInBounds]
  by_cases hj : j < 25
  · rw [arr_at _ hj, arr_at _ hj, arr_size]
    by_cases e : i = j
    · subst e; simp [upd, hj]
    · have e' : ¬ j = i := fun h => e h.symm
      simp [upd, e, e']
  · rw [Array.getElem?_eq_none (by rw [arr_size]; omega), Array.getElem?_eq_none (by rw [arr_size]; omega), arr_size]
    split
    · split
      · omega
      · rfl
    · rfl
theorem IsSt.set {w : World} {q : Nat} {a : Nat → Wd64} (h : IsSt w q a) (i : Nat) (x : Wd64) : IsSt (w.setCell ⟨q, i, none⟩ (.int .u64 (W x))) q (upd a i x) := by
  unfold IsSt at *
  rw [heap_setCell_same w q i _ _ _ h, arr_upd]
theorem IsSt.keep {w : World} {q p i : Nat} {v : Value} {a : Nat → Wd64} (h : IsSt w q a) (hn : q ≠ p) : IsSt (w.setCell ⟨p, i, none⟩ v) q a := by
  unfold IsSt at *
  rw [Below.heap_setCell _ _ _ _ hn]; exact h
theorem arr_zero : arr (fun _ => 0#64) = #[.int .u64 0, .int .u64 0, .int .u64 0, .int .u64 0, .int .u64 0, .int .u64 0, .int .u64 0, .int .u64 0, .int .u64 0, .int .u64 0, .int .u64 0, .int .u64 0, .int .u64 0, .int .u64 0, .int .u64 0, .int .u64 0, .int .u64 0, .int .u64 0, .int .u64 0, .int .u64 0, .int .u64 0, .int .u64 0, .int .u64 0, .int .u64 0, .int .u64 0] := by rfl
def zlit : Array Value := #[.int .u64 0, .int .u64 0, .int .u64 0, .int .u64 0, .int .u64 0, .int .u64 0, .int .u64 0, .int .u64 0, .int .u64 0, .int .u64 0, .int .u64 0, .int .u64 0, .int .u64 0, .int .u64 0, .int .u64 0, .int .u64 0, .int .u64 0, .int .u64 0, .int .u64 0, .int .u64 0, .int .u64 0, .int .u64 0, .int .u64 0, .int .u64 0, .int .u64 0]
theorem zInfo : (Tryz.prog.info? 141).map (·.size) = some (#[.int .u64 0, .int .u64 0, .int .u64 0, .int .u64 0, .int .u64 0, .int .u64 0, .int .u64 0, .int .u64 0, .int .u64 0, .int .u64 0, .int .u64 0, .int .u64 0, .int .u64 0, .int .u64 0, .int .u64 0, .int .u64 0, .int .u64 0, .int .u64 0, .int .u64 0, .int .u64 0, .int .u64 0, .int .u64 0, .int .u64 0, .int .u64 0, .int .u64 0] : Array Value).size := by kernel_rfl
theorem zOne : (#[.int .u64 0, .int .u64 0, .int .u64 0, .int .u64 0, .int .u64 0, .int .u64 0, .int .u64 0, .int .u64 0, .int .u64 0, .int .u64 0, .int .u64 0, .int .u64 0, .int .u64 0, .int .u64 0, .int .u64 0, .int .u64 0, .int .u64 0, .int .u64 0, .int .u64 0, .int .u64 0, .int .u64 0, .int .u64 0, .int .u64 0, .int .u64 0, .int .u64 0] : Array Value).all (·.oneCell') = true := by kernel_rfl
theorem st_new (w : World) (a : Nat → Wd64) : IsSt (w.alloc (.cells (arr a) 141)) w.heap.size a := heap_alloc_new w _
theorem st_old {w : World} {q : Nat} {a : Nat → Wd64} (h : IsSt w q a) (o : Obj) : IsSt (w.alloc o) q a := by
  unfold IsSt at *
  rw [Below.heap_alloc w o q (Array.getElem?_eq_some_iff.1 h).1]; exact h
structure Pm (W : World) (q0 q1 q2 : Nat) (a b : Nat → Wd64) (y : World) : Prop where
  sa : IsSt y q0 a
  sr : IsSt y q1 (fun _ => 0#64)
  sb : IsSt y q2 b
  n01 : q0 ≠ q1
  n02 : q0 ≠ q2
  n12 : q1 ≠ q2
  g0 : W.heap.size ≤ q0
  g1 : W.heap.size ≤ q1
  g2 : W.heap.size ≤ q2
  below : Below W.heap.size W y
theorem Pm.setB {W : World} {q0 q1 q2 : Nat} {a b : Nat → Wd64} {y : World} (h : Pm W q0 q1 q2 a b y) (i : Nat) (x : Wd64) : Pm W q0 q1 q2 a (upd b i x) (y.setCell ⟨q2, i, none⟩ (.int .u64 (Kc.W x))) :=
  ⟨h.sa.keep h.n02, h.sr.keep h.n12, h.sb.set i x, h.n01, h.n02, h.n12, h.g0, h.g1, h.g2, h.below.setCell h.g2 _⟩
theorem Pm.setA {W : World} {q0 q1 q2 : Nat} {a b : Nat → Wd64} {y : World} (h : Pm W q0 q1 q2 a b y) (i : Nat) (x : Wd64) : Pm W q0 q1 q2 (upd a i x) b (y.setCell ⟨q0, i, none⟩ (.int .u64 (Kc.W x))) :=
  ⟨h.sa.set i x, h.sr.keep (Ne.symm h.n01), h.sb.keep (Ne.symm h.n02), h.n01, h.n02, h.n12, h.g0, h.g1, h.g2, h.below.setCell h.g0 _⟩
theorem arr_cong {a b : Nat → Wd64} (h : ∀ i, i < 25 → a i = b i) : arr a = arr b := by
  unfold arr
  congr 1
  apply List.map_congr_left
  intro i hi
  rw [h i (by simpa using hi)]
theorem Pm.congB {W : World} {q0 q1 q2 : Nat} {a b b' : Nat → Wd64} {y : World} (h : Pm W q0 q1 q2 a b y) (e : ∀ i, i < 25 → b i = b' i) : Pm W q0 q1 q2 a b' y :=
  ⟨h.sa, h.sr, by have := h.sb; unfold IsSt at *; rw [← arr_cong e]; exact this, h.n01, h.n02, h.n12, h.g0, h.g1, h.g2, h.below⟩
theorem Pm.congA {W : World} {q0 q1 q2 : Nat} {a a' b : Nat → Wd64} {y : World} (h : Pm W q0 q1 q2 a b y) (e : ∀ i, i < 25 → a i = a' i) : Pm W q0 q1 q2 a' b y :=
  ⟨by have := h.sa; unfold IsSt at *; rw [← arr_cong e]; exact this, h.sr, h.sb, h.n01, h.n02, h.n12, h.g0, h.g1, h.g2, h.below⟩
theorem Pm.drewN {W : World} {q0 q1 q2 : Nat} {a b : Nat → Wd64} {y : World} (h : Pm W q0 q1 q2 a b y) (n : Nat) : Pm W q0 q1 q2 a b (y.drewN n) := ⟨h.sa, h.sr, h.sb, h.n01, h.n02, h.n12, h.g0, h.g1, h.g2, below_drewN h.below n⟩
theorem Pm.drew {W : World} {q0 q1 q2 : Nat} {a b : Nat → Wd64} {y : World} (h : Pm W q0 q1 q2 a b y) : Pm W q0 q1 q2 a b y.drew := ⟨h.sa, h.sr, h.sb, h.n01, h.n02, h.n12, h.g0, h.g1, h.g2, h.below.drew⟩
theorem Pm.tab {W : World} {q0 q1 q2 : Nat} {a b : Nat → Wd64} {y : World} (h : Pm W q0 q1 q2 a b y) (ht : Laid.KTab W) (i : Nat) (hi : i < 24) : y.cell? ⟨0, i, none⟩ = some (.int .u64 (Kc.W (consts.getD i 0#64))) := keep1 h.below (ht i hi)
theorem rot_at (x : Wd64) (s : Nat) (k : Int) (hk : k = (s : Int)) (hs0 : 0 < s) (hs : s < 64) (w : World) :
    Calls Tryz.prog 82 #[.int .u64 (W x), .int .i64 k] w fun e w' => e = .returned (.int .u64 (W (rotl x s))) ∧ w = w' := by
  subst hk; exact rot_is x s hs0 hs w
theorem rotl_zero (x : Wd64) : rotl x 0 = x := by
  apply BitVec.eq_of_getLsbD_eq
  intro i hi
  rw [rotl_bit _ _ _ hi]
  congr 1
  omega
/-- The rows of a state of which k are done. -/
def chiK (b c : Nat → Wd64) (r : Nat) : Nat → Wd64 := fun j => if j < r then chi b j else c j
theorem chiK_zero (b c : Nat → Wd64) : ∀ i, i < 25 → c i = chiK b c 0 i := by
  intro i _; unfold chiK; rw [if_neg (by omega)]
theorem row_ok (bb c : Nat → Wd64) (r : Nat) (h5 : r % 5 = 0) : ∀ j, j < 25 → upd (upd (upd (upd (upd (chiK bb c r) r (bb r ^^^ (~~~ bb (r + 1) &&& bb (r + 2)))) (r + 1) (bb (r + 1) ^^^ (~~~ bb (r + 2) &&& bb (r + 3)))) (r + 2) (bb (r + 2) ^^^ (~~~ bb (r + 3) &&& bb (r + 4)))) (r + 3) (bb (r + 3) ^^^ (~~~ bb (r + 4) &&& bb r))) (r + 4) (bb (r + 4) ^^^ (~~~ bb r &&& bb (r + 1))) j = chiK bb c (r + 5) j := by
  intro j _
  have e : ∀ i, i < 5 → 5 * ((r + i) / 5) = r ∧ (r + i) % 5 = i := fun i hi => by omega
  have g : ∀ i, i < 5 → chi bb (r + i) = bb (r + i) ^^^ (~~~ bb (r + (i + 1) % 5) &&& bb (r + (i + 2) % 5)) := fun i hi => by unfold chi; rw [(e i hi).1, (e i hi).2]
  unfold chiK upd
  dsimp only
  by_cases h4 : j = r + 4
  · rw [if_pos h4, if_pos (by omega), h4]; exact (g 4 (by decide)).symm
  · rw [if_neg h4]
    by_cases h3 : j = r + 3
    · rw [if_pos h3, if_pos (by omega), h3]; exact (g 3 (by decide)).symm
    · rw [if_neg h3]
      by_cases h2 : j = r + 2
      · rw [if_pos h2, if_pos (by omega), h2]; exact (g 2 (by decide)).symm
      · rw [if_neg h2]
        by_cases h1 : j = r + 1
        · rw [if_pos h1, if_pos (by omega), h1]; exact (g 1 (by decide)).symm
        · rw [if_neg h1]
          by_cases h0 : j = r
          · rw [if_pos h0, if_pos (by omega), h0]; exact (g 0 (by decide)).symm
          · rw [if_neg h0]
            by_cases hl : j < r
            · rw [if_pos hl, if_pos (by omega)]
            · rw [if_neg hl, if_neg (by omega)]
theorem all25 {P : Nat → Prop} (h : P 0 ∧ P 1 ∧ P 2 ∧ P 3 ∧ P 4 ∧ P 5 ∧ P 6 ∧ P 7 ∧ P 8 ∧ P 9 ∧ P 10 ∧ P 11 ∧ P 12 ∧ P 13 ∧ P 14 ∧ P 15 ∧ P 16 ∧ P 17 ∧ P 18 ∧ P 19 ∧ P 20 ∧ P 21 ∧ P 22 ∧ P 23 ∧ P 24) : ∀ i, i < 25 → P i := by
  intro i hi
  obtain ⟨h0, h1, h2, h3, h4, h5, h6, h7, h8, h9, h10, h11, h12, h13, h14, h15, h16, h17, h18, h19, h20, h21, h22, h23, h24⟩ := h
  have hc : i = 0 ∨ i = 1 ∨ i = 2 ∨ i = 3 ∨ i = 4 ∨ i = 5 ∨ i = 6 ∨ i = 7 ∨ i = 8 ∨ i = 9 ∨ i = 10 ∨ i = 11 ∨ i = 12 ∨ i = 13 ∨ i = 14 ∨ i = 15 ∨ i = 16 ∨ i = 17 ∨ i = 18 ∨ i = 19 ∨ i = 20 ∨ i = 21 ∨ i = 22 ∨ i = 23 ∨ i = 24 := by omega
  rcases hc with rfl | rfl | rfl | rfl | rfl | rfl | rfl | rfl | rfl | rfl | rfl | rfl | rfl | rfl | rfl | rfl | rfl | rfl | rfl | rfl | rfl | rfl | rfl | rfl | rfl <;> assumption
theorem rp0 (c : Nat → Wd64) : rhopi (theta c) 0 = (c 0 ^^^ dd c 0) := rotl_zero _
theorem rp1 (c : Nat → Wd64) : rhopi (theta c) 1 = (rotl (c 6 ^^^ dd c 1) 44) := rfl
theorem rp2 (c : Nat → Wd64) : rhopi (theta c) 2 = (rotl (c 12 ^^^ dd c 2) 43) := rfl
theorem rp3 (c : Nat → Wd64) : rhopi (theta c) 3 = (rotl (c 18 ^^^ dd c 3) 21) := rfl
theorem rp4 (c : Nat → Wd64) : rhopi (theta c) 4 = (rotl (c 24 ^^^ dd c 4) 14) := rfl
theorem rp5 (c : Nat → Wd64) : rhopi (theta c) 5 = (rotl (c 3 ^^^ dd c 3) 28) := rfl
theorem rp6 (c : Nat → Wd64) : rhopi (theta c) 6 = (rotl (c 9 ^^^ dd c 4) 20) := rfl
theorem rp7 (c : Nat → Wd64) : rhopi (theta c) 7 = (rotl (c 10 ^^^ dd c 0) 3) := rfl
theorem rp8 (c : Nat → Wd64) : rhopi (theta c) 8 = (rotl (c 16 ^^^ dd c 1) 45) := rfl
theorem rp9 (c : Nat → Wd64) : rhopi (theta c) 9 = (rotl (c 22 ^^^ dd c 2) 61) := rfl
theorem rp10 (c : Nat → Wd64) : rhopi (theta c) 10 = (rotl (c 1 ^^^ dd c 1) 1) := rfl
theorem rp11 (c : Nat → Wd64) : rhopi (theta c) 11 = (rotl (c 7 ^^^ dd c 2) 6) := rfl
theorem rp12 (c : Nat → Wd64) : rhopi (theta c) 12 = (rotl (c 13 ^^^ dd c 3) 25) := rfl
theorem rp13 (c : Nat → Wd64) : rhopi (theta c) 13 = (rotl (c 19 ^^^ dd c 4) 8) := rfl
theorem rp14 (c : Nat → Wd64) : rhopi (theta c) 14 = (rotl (c 20 ^^^ dd c 0) 18) := rfl
theorem rp15 (c : Nat → Wd64) : rhopi (theta c) 15 = (rotl (c 4 ^^^ dd c 4) 27) := rfl
theorem rp16 (c : Nat → Wd64) : rhopi (theta c) 16 = (rotl (c 5 ^^^ dd c 0) 36) := rfl
theorem rp17 (c : Nat → Wd64) : rhopi (theta c) 17 = (rotl (c 11 ^^^ dd c 1) 10) := rfl
theorem rp18 (c : Nat → Wd64) : rhopi (theta c) 18 = (rotl (c 17 ^^^ dd c 2) 15) := rfl
theorem rp19 (c : Nat → Wd64) : rhopi (theta c) 19 = (rotl (c 23 ^^^ dd c 3) 56) := rfl
theorem rp20 (c : Nat → Wd64) : rhopi (theta c) 20 = (rotl (c 2 ^^^ dd c 2) 62) := rfl
theorem rp21 (c : Nat → Wd64) : rhopi (theta c) 21 = (rotl (c 8 ^^^ dd c 3) 55) := rfl
theorem rp22 (c : Nat → Wd64) : rhopi (theta c) 22 = (rotl (c 14 ^^^ dd c 4) 39) := rfl
theorem rp23 (c : Nat → Wd64) : rhopi (theta c) 23 = (rotl (c 15 ^^^ dd c 0) 41) := rfl
theorem rp24 (c : Nat → Wd64) : rhopi (theta c) 24 = (rotl (c 21 ^^^ dd c 1) 2) := rfl
theorem chain_ok (b c : Nat → Wd64) : ∀ i, i < 25 → (upd (upd (upd (upd (upd (upd (upd (upd (upd (upd (upd (upd (upd (upd (upd (upd (upd (upd (upd (upd (upd (upd (upd (upd (upd b 0 (c 0 ^^^ dd c 0)) 10 (rotl (c 1 ^^^ dd c 1) 1)) 20 (rotl (c 2 ^^^ dd c 2) 62)) 5 (rotl (c 3 ^^^ dd c 3) 28)) 15 (rotl (c 4 ^^^ dd c 4) 27)) 16 (rotl (c 5 ^^^ dd c 0) 36)) 1 (rotl (c 6 ^^^ dd c 1) 44)) 11 (rotl (c 7 ^^^ dd c 2) 6)) 21 (rotl (c 8 ^^^ dd c 3) 55)) 6 (rotl (c 9 ^^^ dd c 4) 20)) 7 (rotl (c 10 ^^^ dd c 0) 3)) 17 (rotl (c 11 ^^^ dd c 1) 10)) 2 (rotl (c 12 ^^^ dd c 2) 43)) 12 (rotl (c 13 ^^^ dd c 3) 25)) 22 (rotl (c 14 ^^^ dd c 4) 39)) 23 (rotl (c 15 ^^^ dd c 0) 41)) 8 (rotl (c 16 ^^^ dd c 1) 45)) 18 (rotl (c 17 ^^^ dd c 2) 15)) 3 (rotl (c 18 ^^^ dd c 3) 21)) 13 (rotl (c 19 ^^^ dd c 4) 8)) 14 (rotl (c 20 ^^^ dd c 0) 18)) 24 (rotl (c 21 ^^^ dd c 1) 2)) 9 (rotl (c 22 ^^^ dd c 2) 61)) 19 (rotl (c 23 ^^^ dd c 3) 56)) 4 (rotl (c 24 ^^^ dd c 4) 14)) i = rhopi (theta c) i := by
  refine all25 ?_
  refine ⟨?_, ?_, ?_, ?_, ?_, ?_, ?_, ?_, ?_, ?_, ?_, ?_, ?_, ?_, ?_, ?_, ?_, ?_, ?_, ?_, ?_, ?_, ?_, ?_, ?_⟩
  · rw [rp0]; simp [upd]
  · rw [rp1]; simp [upd]
  · rw [rp2]; simp [upd]
  · rw [rp3]; simp [upd]
  · rw [rp4]; simp [upd]
  · rw [rp5]; simp [upd]
  · rw [rp6]; simp [upd]
  · rw [rp7]; simp [upd]
  · rw [rp8]; simp [upd]
  · rw [rp9]; simp [upd]
  · rw [rp10]; simp [upd]
  · rw [rp11]; simp [upd]
  · rw [rp12]; simp [upd]
  · rw [rp13]; simp [upd]
  · rw [rp14]; simp [upd]
  · rw [rp15]; simp [upd]
  · rw [rp16]; simp [upd]
  · rw [rp17]; simp [upd]
  · rw [rp18]; simp [upd]
  · rw [rp19]; simp [upd]
  · rw [rp20]; simp [upd]
  · rw [rp21]; simp [upd]
  · rw [rp22]; simp [upd]
  · rw [rp23]; simp [upd]
  · rw [rp24]; simp [upd]
end Kc
end Go.Proofs.YtcgpdijpppcbiaaGreatDoor
namespace Go.Proofs.YtcgpdijpppcbiaaGreatDoor
open Go.RowKit
set_option linter.unusedVariables false
namespace Kc
/-- n values. -/
def tab (n : Nat) (g : Nat → Value) : Array Value := ((List.range n).map g).toArray
theorem tab_size (n : Nat) (g : Nat → Value) : (tab n g).size = n := by simp [tab]
theorem tab_at {n : Nat} (g : Nat → Value) {i : Nat} (h : i < n) : (tab n g)[i]? = some (g i) := by simp [tab, h]
theorem tab_out {n : Nat} (g : Nat → Value) {i : Nat} (h : n ≤ i) : (tab n g)[i]? = none := by simp [tab, h]
theorem tab_cong {n : Nat} {f g : Nat → Value} (h : ∀ i, i < n → f i = g i) : tab n f = tab n g := by
  unfold tab
  congr 1
  apply List.map_congr_left
  intro i hi
  rw [h i (by simpa using hi)]
theorem tab_ext {n : Nat} {f g : Nat → Value} (h : tab n f = tab n g) : ∀ i, i < n → f i = g i := by
  intro i hi
  have := congrArg (fun a : Array Value => a[i]?) h
  rw [tab_at _ hi, tab_at _ hi] at this
  exact Option.some.inj this
theorem tab_one {n : Nat} {g : Nat → Value} (h : ∀ i, (g i).oneCell' = true) : (tab n g).all (·.oneCell') = true := by simp [tab]; intro i _; exact h i
def updv (g : Nat → Value) (i : Nat) (x : Value) : Nat → Value := fun j => if j = i then x else g j
theorem tab_upd {n : Nat} (g : Nat → Value) (i : Nat) (x : Value) : (tab n g).setIfInBounds i x = tab n (updv g i x) := by
  apply Array.ext_getElem?
  intro j
  rw [Array.getElem?_setIfInBounds]
  by_cases hj : j < n
  · rw [tab_at _ hj, tab_at _ hj, tab_size]
    by_cases e : i = j
    · subst e; simp [updv, hj]
    · have e' : ¬ j = i := fun h => e h.symm
      simp [updv, e, e']
  · rw [Array.getElem?_eq_none (by rw [tab_size]; omega), Array.getElem?_eq_none (by rw [tab_size]; omega), tab_size]
    split
    · split
      · omega
      · rfl
    · rfl
/-- A block that holds n values. -/
def IsTab (w : World) (q T n : Nat) (g : Nat → Value) : Prop := w.heap[q]? = some (.cells (tab n g) T (0, 0))
theorem IsTab.cell {w : World} {q T n : Nat} {g : Nat → Value} (h : IsTab w q T n g) (i : Nat) (hi : i < n) : w.cell? ⟨q, i, none⟩ = some (g i) := by
  rw [cell_of_row w q i _ _ _ h]; exact tab_at g hi
theorem IsTab.fz {w : World} {q T n : Nat} {g : Nat → Value} (h : IsTab w q T n g) (i : Nat) : w.frozen? ⟨q, i, none⟩ = false := frozen_of_row w q i _ _ h
theorem IsTab.lt {w : World} {q T n : Nat} {g : Nat → Value} (h : IsTab w q T n g) : q < w.heap.size := (Array.getElem?_eq_some_iff.1 h).1
theorem IsTab.set {w : World} {q T n : Nat} {g : Nat → Value} (h : IsTab w q T n g) (i : Nat) (x : Value) : IsTab (w.setCell ⟨q, i, none⟩ x) q T n (updv g i x) := by
  unfold IsTab at *
  rw [heap_setCell_same w q i _ _ _ h, tab_upd]
theorem IsTab.keep {w : World} {q p i T n : Nat} {v : Value} {g : Nat → Value} (h : IsTab w q T n g) (hn : q ≠ p) : IsTab (w.setCell ⟨p, i, none⟩ v) q T n g := by
  unfold IsTab at *
  rw [Below.heap_setCell _ _ _ _ hn]; exact h
theorem IsTab.cong {w : World} {q T n : Nat} {f g : Nat → Value} (h : IsTab w q T n f) (e : ∀ i, i < n → f i = g i) : IsTab w q T n g := by
  unfold IsTab at *
  rw [← tab_cong e]; exact h
theorem IsTab.drewN {w : World} {q T n : Nat} {g : Nat → Value} (h : IsTab w q T n g) (k : Nat) : IsTab (w.drewN k) q T n g := h
theorem IsTab.drew {w : World} {q T n : Nat} {g : Nat → Value} (h : IsTab w q T n g) : IsTab w.drew q T n g := h
theorem IsTab.below {W w : World} {q T n : Nat} {g : Nat → Value} (h : IsTab W q T n g) (hb : Below W.heap.size W w) : IsTab w q T n g := by
  unfold IsTab at *
  rw [hb.block q (Array.getElem?_eq_some_iff.1 h).1]; exact h
theorem IsTab.alloc {w : World} {q T n : Nat} {g : Nat → Value} (h : IsTab w q T n g) (o : Obj) : IsTab (w.alloc o) q T n g := by
  unfold IsTab at *
  rw [Below.heap_alloc w o q (Array.getElem?_eq_some_iff.1 h).1]; exact h
theorem IsTab.new (w : World) (T n : Nat) (g : Nat → Value) : IsTab (w.alloc (.cells (tab n g) T)) w.heap.size T n g := heap_alloc_new w _
theorem IsTab.row {w : World} {q T n : Nat} {f g : Nat → Value} (h : IsTab w q T n f) : IsTab (w.setRow q (tab n g)) q T n g := setRow_heap w q _ _ _ _ h
theorem IsTab.rowOther {w : World} {q p T n : Nat} {g : Nat → Value} {cs : Array Value} (h : IsTab w q T n g) (hn : q ≠ p) : IsTab (w.setRow p cs) q T n g := by
  unfold IsTab at *
  rw [setRow_other _ _ _ _ hn]; exact h
theorem below_setRow {B : Nat} {W w : World} (h : Below B W w) {q : Nat} (hq : B ≤ q) (cs : Array Value) : Below B W (w.setRow q cs) :=
  ⟨by simp; exact h.os, by simp; exact h.tape, by simp; exact h.output, by simp; exact h.size, fun k hk => by rw [setRow_other _ _ _ _ (by omega)]; exact h.block k hk⟩

/-! ## bytes -/
abbrev Bt := BitVec 8
def Bv (x : Bt) : Int := (x.toNat : Int)
theorem Bv_bd (x : Bt) : 0 ≤ Bv x ∧ Bv x < 256 := by have := x.isLt; unfold Bv; omega
theorem Bv_inj {x y : Bt} (h : Bv x = Bv y) : x = y := by unfold Bv at h; exact BitVec.eq_of_toNat_eq (by omega)
/-- The value of a word, of a byte. -/
def wv (x : Wd64) : Value := .int .u64 (W x)
def bv (x : Bt) : Value := .int .u8 (Bv x)
def words (a : Nat → Wd64) : Array Value := tab 25 fun i => wv (a i)
/-- A byte as a word. -/
def wd (x : Bt) : Wd64 := x.setWidth 64
theorem W_wd (x : Bt) : W (wd x) = Bv x := by
  unfold W wd Bv
  rw [BitVec.toNat_setWidth]
  have := x.isLt
  omega
/-- Eight bytes as a word. -/
def lane (p : Nat → Bt) (i : Nat) : Wd64 :=
  wd (p (8 * i)) ||| wd (p (8 * i + 1)) <<< 8 ||| wd (p (8 * i + 2)) <<< 16 ||| wd (p (8 * i + 3)) <<< 24 ||| wd (p (8 * i + 4)) <<< 32 ||| wd (p (8 * i + 5)) <<< 40 ||| wd (p (8 * i + 6)) <<< 48 ||| wd (p (8 * i + 7)) <<< 56
theorem wd_bit (x : Bt) (s n : Nat) (hn : n < 64) (hs : s ≤ 56) : (wd x <<< s).getLsbD n = (decide (s ≤ n) && x.getLsbD (n - s)) := by
  rw [BitVec.getLsbD_shiftLeft, decide_eq_true hn, wd, BitVec.getLsbD_setWidth]
  by_cases h : s ≤ n
  · rw [decide_eq_true h, decide_eq_false (by omega : ¬ n < s), decide_eq_true (by omega : n - s < 64)]; simp
  · rw [decide_eq_false h, decide_eq_true (by omega : n < s)]; simp
def absorbK (a : Nat → Wd64) (p : Nat → Bt) (k : Nat) : Nat → Wd64 := fun i => if i < k then a i ^^^ lane p i else a i
def absorb (a : Nat → Wd64) (p : Nat → Bt) : Nat → Wd64 := perm (absorbK a p 17)
def digest (a : Nat → Wd64) (i : Nat) : Bt := (a (i / 8) >>> (8 * (i % 8))).setWidth 8
/-- Behind k whole pieces. -/
def st (l : List Bt) : Nat → Nat → Wd64
  | 0 => fun _ => 0#64
  | k + 1 => absorb (st l k) fun j => l.getD (136 * k + j) 0#8
/-- The last piece. -/
def last (l : List Bt) : Nat → Bt := fun j =>
  (if j < l.length % 136 then l.getD (136 * (l.length / 136) + j) 0#8 else 0#8) ^^^ (if j = l.length % 136 then 1#8 else 0#8) ^^^ (if j = 135 then 128#8 else 0#8)
def sum (l : List Bt) : Nat → Bt := digest (absorb (st l (l.length / 136)) (last l))
theorem wrapW (x : Wd64) : IntKind.u64.wrap (W x) = W x := by have := W_bd x; exact wrap_nn _ this.1 this.2
theorem wrapB (x : Bt) : IntKind.u64.wrap (Bv x) = W (wd x) := by rw [← W_wd]; exact wrapW _
theorem wr_shl (x : Wd64) (s : Nat) (hs : s < 64) : IntKind.u64.wrap (W x * 2 ^ s) = W (x <<< s) := by
  rw [show IntKind.u64.wrap (W x * 2 ^ s) = W x * 2 ^ s % 18446744073709551616 from by simp [IntKind.wrap, IntKind.bits, IntKind.signed]]; exact W_shl x s hs
theorem wr_s8 (x : Wd64) : IntKind.u64.wrap (W x * 256) = W (x <<< 8) := wr_shl x 8 (by decide)
theorem wr_s16 (x : Wd64) : IntKind.u64.wrap (W x * 65536) = W (x <<< 16) := wr_shl x 16 (by decide)
theorem wr_s24 (x : Wd64) : IntKind.u64.wrap (W x * 16777216) = W (x <<< 24) := wr_shl x 24 (by decide)
theorem wr_s32 (x : Wd64) : IntKind.u64.wrap (W x * 4294967296) = W (x <<< 32) := wr_shl x 32 (by decide)
theorem wr_s40 (x : Wd64) : IntKind.u64.wrap (W x * 1099511627776) = W (x <<< 40) := wr_shl x 40 (by decide)
theorem wr_s48 (x : Wd64) : IntKind.u64.wrap (W x * 281474976710656) = W (x <<< 48) := wr_shl x 48 (by decide)
theorem wr_s56 (x : Wd64) : IntKind.u64.wrap (W x * 72057594037927936) = W (x <<< 56) := wr_shl x 56 (by decide)
theorem ktab_below {W w : World} (ht : Laid.KTab W) (h : Below W.heap.size W w) : Laid.KTab w := fun i hi => keep1 h (ht i hi)
theorem und25 : Tryz.prog.underlying 141 = some (.array 25 22) := by kernel_rfl
theorem und136' : Tryz.prog.underlying 142 = some (.array 136 5) := by kernel_rfl
theorem inf25 (g : Nat → Value) : (Tryz.prog.info? 141).map (·.size) = some (tab 25 g).size := by rw [tab_size]; exact kInfo
theorem inf136' : (Tryz.prog.info? 142).map (·.size) = some 136 := by kernel_rfl
theorem inf136 (g : Nat → Value) : (Tryz.prog.info? 142).map (·.size) = some (tab 136 g).size := by rw [tab_size]; exact inf136'
theorem one_wv (a : Nat → Wd64) (n : Nat) : (tab n fun i => wv (a i)).all (·.oneCell') = true := tab_one fun i => rfl
theorem one_bv (a : Nat → Bt) (n : Nat) : (tab n fun i => bv (a i)).all (·.oneCell') = true := tab_one fun i => rfl
/-- What the permutation is said to do. -/
def PermIs : Prop := ∀ (a : Nat → Wd64) (w : World), Laid.KTab w → Calls Tryz.prog 78 #[.agg (arr a)] w fun e w' => e = .returned (.agg (arr (perm a))) ∧ Below w.heap.size w w'
end Kc
end Go.Proofs.YtcgpdijpppcbiaaGreatDoor
namespace Go.Proofs.YtcgpdijpppcbiaaGreatDoor
open Go.RowKit
set_option linter.unusedVariables false
set_option linter.unusedSimpArgs false
namespace Ir
open Kc
/-- A list of expressions stands in a block, from a place on; D: the blocks of programs. -/
def EfAt (w : World) (D : Nat → Prop) : Ef → Nat → Nat → Prop
  | .nil, _, _ => True
  | .cons op n kids rest, b, o => D b ∧ n < 18446744073709551616 ∧ w.cell? ⟨b, o, none⟩ = some (.int .i64 op) ∧ w.cell? ⟨b, o + 1, none⟩ = some (.int .u64 n) ∧
    (∃ a c, w.cell? ⟨b, o + 2, none⟩ = some (.slice a kids.len c) ∧ kids.len < 1099511627776 ∧ (kids = .nil ∨ ∃ b' o', a = some ⟨b', o', none⟩ ∧ EfAt w D kids b' o')) ∧ EfAt w D rest b (o + 3)
/-- A slice of expressions. -/
def SlE (w : World) (D : Nat → Prop) (V : Value) (x : Ef) : Prop := ∃ a c, V = .slice a x.len c ∧ x.len < 1099511627776 ∧ (x = .nil ∨ ∃ b o, a = some ⟨b, o, none⟩ ∧ EfAt w D x b o)
def SfAt (w : World) (D : Nat → Prop) : Sf → Nat → Nat → Prop
  | .nil, _, _ => True
  | .cons kind n ao an ak bo bn bk body els rest, b, o => D b ∧ an < 18446744073709551616 ∧ bn < 18446744073709551616 ∧ w.cell? ⟨b, o, none⟩ = some (.int .i64 kind) ∧ w.cell? ⟨b, o + 1, none⟩ = some (.int .i64 n) ∧
    w.cell? ⟨b, o + 2, none⟩ = some (.int .i64 ao) ∧ w.cell? ⟨b, o + 3, none⟩ = some (.int .u64 an) ∧ (∃ V, w.cell? ⟨b, o + 4, none⟩ = some V ∧ SlE w D V ak) ∧
    w.cell? ⟨b, o + 5, none⟩ = some (.int .i64 bo) ∧ w.cell? ⟨b, o + 6, none⟩ = some (.int .u64 bn) ∧ (∃ V, w.cell? ⟨b, o + 7, none⟩ = some V ∧ SlE w D V bk) ∧
    (∃ a c, w.cell? ⟨b, o + 8, none⟩ = some (.slice a body.len c) ∧ body.len < 1099511627776 ∧ (body = .nil ∨ ∃ b' o', a = some ⟨b', o', none⟩ ∧ SfAt w D body b' o')) ∧
    (∃ a c, w.cell? ⟨b, o + 9, none⟩ = some (.slice a els.len c) ∧ els.len < 1099511627776 ∧ (els = .nil ∨ ∃ b' o', a = some ⟨b', o', none⟩ ∧ SfAt w D els b' o')) ∧ SfAt w D rest b (o + 10)
/-- A slice of statements. -/
def SlS (w : World) (D : Nat → Prop) (V : Value) (x : Sf) : Prop := ∃ a c, V = .slice a x.len c ∧ x.len < 1099511627776 ∧ (x = .nil ∨ ∃ b o, a = some ⟨b, o, none⟩ ∧ SfAt w D x b o)
def FnAt (w : World) (D : Nat → Prop) (fn : Fn) (b o : Nat) : Prop := D b ∧ w.cell? ⟨b, o, none⟩ = some (.int .i64 fn.params) ∧ w.cell? ⟨b, o + 1, none⟩ = some (.int .i64 fn.locals) ∧ ∃ V, w.cell? ⟨b, o + 2, none⟩ = some V ∧ SlS w D V fn.body
/-- A slice of functions. -/
def SlP (w : World) (D : Nat → Prop) (V : Value) (p : List Fn) : Prop := ∃ a c, V = .slice a p.length c ∧ p.length < 1099511627776 ∧ (p = [] ∨ ∃ b o, a = some ⟨b, o, none⟩ ∧ ∀ i fn, p[i]? = some fn → FnAt w D fn b (o + 3 * i))
section
variable {w w' : World} {D : Nat → Prop} {S : Nat → Prop}
theorem EfAt.kept (hk : Kept S w w') (hn : ∀ k, D k → ¬ S k) : ∀ (x : Ef) (b o : Nat), EfAt w D x b o → EfAt w' D x b o
  | .nil, _, _, _ => trivial
  | .cons op n kids rest, b, o, h => by
    obtain ⟨h1, h2, h3, h4, ⟨a, c, h5, hl, h6⟩, h7⟩ := h
    refine ⟨h1, h2, hk.cell (hn _ h1) h3, hk.cell (hn _ h1) h4, ⟨a, c, hk.cell (hn _ h1) h5, hl, ?_⟩, EfAt.kept hk hn rest b (o + 3) h7⟩
    rcases h6 with h6 | ⟨b', o', rfl, h6⟩
    · exact .inl h6
    · exact .inr ⟨b', o', rfl, EfAt.kept hk hn kids b' o' h6⟩
theorem SlE.kept (hk : Kept S w w') (hn : ∀ k, D k → ¬ S k) {V : Value} {x : Ef} (h : SlE w D V x) : SlE w' D V x := by
  obtain ⟨a, c, rfl, hl, h⟩ := h
  refine ⟨a, c, rfl, hl, ?_⟩
  rcases h with h | ⟨b, o, rfl, h⟩
  · exact .inl h
  · exact .inr ⟨b, o, rfl, EfAt.kept hk hn x b o h⟩
theorem SfAt.kept (hk : Kept S w w') (hn : ∀ k, D k → ¬ S k) : ∀ (x : Sf) (b o : Nat), SfAt w D x b o → SfAt w' D x b o
  | .nil, _, _, _ => trivial
  | .cons kind n ao an ak bo bn bk body els rest, b, o, h => by
    obtain ⟨h1, h2, h3, h4, h5, h6, h7, ⟨V, h8, h9⟩, h10, h11, ⟨U, h12, h13⟩, ⟨a, c, h14, hl, h15⟩, ⟨a', c', h16, hl', h17⟩, h18⟩ := h
    have c := fun {i v} => hk.cell (o := i) (v := v) (hn _ h1)
    refine ⟨h1, h2, h3, c h4, c h5, c h6, c h7, ⟨V, c h8, h9.kept hk hn⟩, c h10, c h11, ⟨U, c h12, h13.kept hk hn⟩, ⟨a, _, c h14, hl, ?_⟩, ⟨a', c', c h16, hl', ?_⟩, SfAt.kept hk hn rest b (o + 10) h18⟩
    · rcases h15 with h | ⟨b', o', rfl, h⟩
      · exact .inl h
      · exact .inr ⟨b', o', rfl, SfAt.kept hk hn body b' o' h⟩
    · rcases h17 with h | ⟨b', o', rfl, h⟩
      · exact .inl h
      · exact .inr ⟨b', o', rfl, SfAt.kept hk hn els b' o' h⟩
theorem SlS.kept (hk : Kept S w w') (hn : ∀ k, D k → ¬ S k) {V : Value} {x : Sf} (h : SlS w D V x) : SlS w' D V x := by
  obtain ⟨a, c, rfl, hl, h⟩ := h
  refine ⟨a, c, rfl, hl, ?_⟩
  rcases h with h | ⟨b, o, rfl, h⟩
  · exact .inl h
  · exact .inr ⟨b, o, rfl, SfAt.kept hk hn x b o h⟩
theorem SlP.kept (hk : Kept S w w') (hn : ∀ k, D k → ¬ S k) {V : Value} {p : List Fn} (h : SlP w D V p) : SlP w' D V p := by
  obtain ⟨a, c, rfl, hl, h⟩ := h
  refine ⟨a, c, rfl, hl, ?_⟩
  rcases h with h | ⟨b, o, rfl, h⟩
  · exact .inl h
  · refine .inr ⟨b, o, rfl, fun i fn hi => ?_⟩
    obtain ⟨h1, h2, h3, U, h4, h5⟩ := h i fn hi
    exact ⟨h1, hk.cell (hn _ h1) h2, hk.cell (hn _ h1) h3, U, hk.cell (hn _ h1) h4, h5.kept hk hn⟩
end
/-- A run in memory: the program, the store, the words, and what was used. -/
def rc (pv sv : Value) (s : Rs) : Nat → Value := fun i =>
  if i = 0 then pv else if i = 1 then sv else if i < 2050 then .int .u64 (s.mem (i - 2)) else if i = 2050 then .int .i64 s.fuel else if i = 2051 then .int .i64 s.used else if i = 2052 then .bool s.dry else .int .u64 s.exit
structure IsRun (w : World) (r : Nat) (pv sv : Value) (s : Rs) : Prop where
  tab : IsTab w r 82 2054 (rc pv sv s)
  mem : ∀ i, s.mem i < 18446744073709551616
  exit : s.exit < 18446744073709551616
  fuel : s.fuel < 4611686018427387904
  used : s.used ≤ s.fuel
/-- A function's frame. -/
def fc (L : Nat → Nat) (v : Nat) : Nat → Value := fun i => if i < 24 then .int .u64 (L i) else .int .u64 v
structure IsFr (w : World) (f : Nat) (L : Nat → Nat) (v : Nat) : Prop where
  tab : IsTab w f 121 25 (fc L v)
  loc : ∀ i, L i < 18446744073709551616
  val : v < 18446744073709551616
theorem IsTab.kept9 {w w' : World} {q T n : Nat} {g : Nat → Value} {S : Nat → Prop} (h : IsTab w q T n g) (hk : Kept S w w') (hn : ¬ S q) : IsTab w' q T n g := (hk.block _ h.lt hn).trans h
section
variable {w w' : World} {r f : Nat} {pv sv : Value} {s : Rs} {L : Nat → Nat} {v : Nat} {S : Nat → Prop}
theorem IsRun.kept (h : IsRun w r pv sv s) (hk : Kept S w w') (hn : ¬ S r) : IsRun w' r pv sv s := ⟨IsTab.kept9 h.tab hk hn, h.mem, h.exit, h.fuel, h.used⟩
theorem IsFr.kept (h : IsFr w f L v) (hk : Kept S w w') (hn : ¬ S f) : IsFr w' f L v := ⟨IsTab.kept9 h.tab hk hn, h.loc, h.val⟩
theorem IsRun.p (h : IsRun w r pv sv s) : w.cell? ⟨r, 0, none⟩ = some pv := h.tab.cell 0 (by decide)
theorem IsRun.st (h : IsRun w r pv sv s) : w.cell? ⟨r, 1, none⟩ = some sv := h.tab.cell 1 (by decide)
theorem IsRun.m (h : IsRun w r pv sv s) {i : Nat} (hi : i < 2048) : w.cell? ⟨r, 2 + i, none⟩ = some (.int .u64 (s.mem i)) := by
  have := h.tab.cell (2 + i) (by omega); rw [this]; unfold rc; rw [if_neg (by omega), if_neg (by omega), if_pos (by omega), show 2 + i - 2 = i from by omega]
theorem IsRun.fu (h : IsRun w r pv sv s) : w.cell? ⟨r, 2050, none⟩ = some (.int .i64 s.fuel) := h.tab.cell 2050 (by decide)
theorem IsRun.us (h : IsRun w r pv sv s) : w.cell? ⟨r, 2051, none⟩ = some (.int .i64 s.used) := h.tab.cell 2051 (by decide)
theorem IsRun.dr (h : IsRun w r pv sv s) : w.cell? ⟨r, 2052, none⟩ = some (.bool s.dry) := h.tab.cell 2052 (by decide)
theorem IsRun.ex (h : IsRun w r pv sv s) : w.cell? ⟨r, 2053, none⟩ = some (.int .u64 s.exit) := h.tab.cell 2053 (by decide)
theorem IsRun.fz (h : IsRun w r pv sv s) (i : Nat) : w.frozen? ⟨r, i, none⟩ = false := IsTab.fz h.tab i
theorem IsRun.lt (h : IsRun w r pv sv s) : r < w.heap.size := h.tab.lt
theorem IsFr.lt (h : IsFr w f L v) : f < w.heap.size := h.tab.lt
theorem IsFr.l (h : IsFr w f L v) {i : Nat} (hi : i < 24) : w.cell? ⟨f, i, none⟩ = some (.int .u64 (L i)) := by
  have := h.tab.cell i (by omega); rw [this]; unfold fc; rw [if_pos hi]
theorem IsFr.vl (h : IsFr w f L v) : w.cell? ⟨f, 24, none⟩ = some (.int .u64 v) := h.tab.cell 24 (by decide)
theorem IsFr.fz (h : IsFr w f L v) (i : Nat) : w.frozen? ⟨f, i, none⟩ = false := IsTab.fz h.tab i
theorem IsRun.setUsed (h : IsRun w r pv sv s) (hu : s.used < s.fuel) : IsRun (w.setCell ⟨r, 2051, none⟩ (.int .i64 ((s.used + 1 : Nat) : Int))) r pv sv s.up :=
  ⟨(h.tab.set 2051 _).cong fun i _ => by
    unfold Kc.updv rc Rs.up
    by_cases e : i = 2051
    · subst e; simp
    · rw [if_neg e]; simp [e], h.mem, h.exit, h.fuel, hu⟩
theorem IsRun.setDry (h : IsRun w r pv sv s) : IsRun (w.setCell ⟨r, 2052, none⟩ (.bool true)) r pv sv s.dried :=
  ⟨(h.tab.set 2052 _).cong fun i _ => by
    unfold Kc.updv rc Rs.dried
    by_cases e : i = 2052
    · subst e; simp
    · rw [if_neg e]; simp [e], h.mem, h.exit, h.fuel, h.used⟩
theorem IsRun.setExit (h : IsRun w r pv sv s) {x : Nat} (hx : x < 18446744073709551616) : IsRun (w.setCell ⟨r, 2053, none⟩ (.int .u64 x)) r pv sv (s.ends x) :=
  ⟨(h.tab.set 2053 _).cong fun i hi => by
    unfold Kc.updv rc Rs.ends
    by_cases e : i = 2053
    · subst e; simp
    · rw [if_neg e]
      have : i < 2053 := by omega
      by_cases h1 : i = 0
      · simp [h1]
      by_cases h2 : i = 1
      · simp [h2]
      by_cases h3 : i < 2050
      · simp [h1, h2, h3]
      by_cases h4 : i = 2050
      · simp [h4]
      by_cases h5 : i = 2051
      · simp [h5]
      have h6 : i = 2052 := by omega
      simp [h6], h.mem, hx, h.fuel, h.used⟩
theorem IsRun.setMem (h : IsRun w r pv sv s) {a x : Nat} (ha : a < 2048) (hx : x < 18446744073709551616) : IsRun (w.setCell ⟨r, 2 + a, none⟩ (.int .u64 x)) r pv sv (s.put a x) :=
  ⟨(h.tab.set (2 + a) _).cong fun i hi => by
    unfold Kc.updv rc Rs.put upd
    by_cases e : i = 2 + a
    · subst e
      rw [if_pos rfl, if_neg (by omega), if_neg (by omega), if_pos (by omega)]
      simp
    · rw [if_neg e]
      by_cases h1 : i = 0
      · simp [h1]
      by_cases h2 : i = 1
      · simp [h2]
      have : ¬ i - 2 = a := by omega
      simp [h1, h2, this], fun i => by unfold Rs.put upd; dsimp only; split; exact hx; exact h.mem i, h.exit, h.fuel, h.used⟩
theorem IsFr.setL (h : IsFr w f L v) {i x : Nat} (hi : i < 24) (hx : x < 18446744073709551616) : IsFr (w.setCell ⟨f, i, none⟩ (.int .u64 x)) f (upd L i x) v :=
  ⟨(h.tab.set i _).cong fun j hj => by
    unfold Kc.updv fc upd
    by_cases e : j = i
    · subst e; simp [hi]
    · simp [e], fun j => by unfold upd; split; exact hx; exact h.loc j, h.val⟩
theorem IsFr.setV (h : IsFr w f L v) {x : Nat} (hx : x < 18446744073709551616) : IsFr (w.setCell ⟨f, 24, none⟩ (.int .u64 x)) f L x :=
  ⟨(h.tab.set 24 _).cong fun j hj => by
    unfold Kc.updv fc
    by_cases e : j = 24
    · subst e; simp
    · rw [if_neg e, if_pos (by omega), if_pos (by omega)], h.loc, hx⟩
theorem kept_drew9 (w : World) : Kept (fun _ => False) w w.drew := (Kept.refl _ w).drew
theorem kept_one {S : Nat → Prop} {W y : World} (h : Kept S W y) (b o : Nat) (hb : S b ∨ W.heap.size ≤ b) (v : Value) : Kept S W (y.setCell ⟨b, o, none⟩ v) := h.setCell hb v
end
end Ir
end Go.Proofs.YtcgpdijpppcbiaaGreatDoor
namespace Go.Proofs.YtcgpdijpppcbiaaGreatDoor
open Go.RowKit
set_option linter.unusedVariables false
set_option linter.unusedSimpArgs false
namespace Ir
open Kc
set_option maxHeartbeats 1000000 in
set_option maxRecDepth 100000 in
theorem spend_yes (w : World) (r : Nat) (pv sv : Value) (s : Rs) (h : IsRun w r pv sv s) (hu : s.used < s.fuel) :
    Calls Tryz.prog 73 #[.pointer (some ⟨r, 0, none⟩)] w fun e w' => e = .returned (.bool true) ∧ IsRun w' r pv sv s.up ∧ Kept (fun k => k = r) w w' := by
  have ku := h.us
  have kf := h.fu
  have fu := h.fz 2051
  have t1 : decide (s.fuel ≤ s.used) = false := by simp; omega
  have hw : wrap64 ((s.used : Int) + 1) = ((s.used + 1 : Nat) : Int) := by have := h.fuel; unfold wrap64; omega
  have hd : ∀ q, IsRun (w.drewN q) r pv sv s := fun q => h.kept (S := fun _ => False) ((Kept.refl _ w).drewN q) id
  have HS := Lib.hid (fun q => (hd q).setUsed hu)
  have HK : Hid (∀ q, Kept (fun k => k = r) w ((w.drewN q).setCell ⟨r, 2051, none⟩ (.int .i64 ((s.used + 1 : Nat) : Int)))) := Lib.hid (fun q => kept_one (S := fun k => k = r) ((Kept.refl _ _).drewN q) r 2051 (.inl rfl) _)
  clear hd h hu
  go_enter Tryz.func73, Tryz.ntmps73
  go_wp2_with (fail)
  go_quiet (fail)
  go_wp2_with (fail)
  exact bodyPost_ret (v := .bool true) (by simp [results, Tryz.results73, go_sem]) rfl ⟨rfl, HS.out _, HK.out _⟩
set_option maxHeartbeats 1000000 in
set_option maxRecDepth 100000 in
theorem spend_no (w : World) (r : Nat) (pv sv : Value) (s : Rs) (h : IsRun w r pv sv s) (hu : ¬ s.used < s.fuel) :
    Calls Tryz.prog 73 #[.pointer (some ⟨r, 0, none⟩)] w fun e w' => e = .returned (.bool false) ∧ IsRun w' r pv sv s.dried ∧ Kept (fun k => k = r) w w' := by
  have ku := h.us
  have kf := h.fu
  have fu := h.fz 2052
  have kd := h.dr
  have t1 : decide (s.fuel ≤ s.used) = true := by simp; omega
  have hd : ∀ q, IsRun (w.drewN q) r pv sv s := fun q => h.kept (S := fun _ => False) ((Kept.refl _ w).drewN q) id
  have HS := Lib.hid (fun q => (hd q).setDry)
  have HK : Hid (∀ q, Kept (fun k => k = r) w ((w.drewN q).setCell ⟨r, 2052, none⟩ (.bool true))) := Lib.hid (fun q => kept_one (S := fun k => k = r) ((Kept.refl _ _).drewN q) r 2052 (.inl rfl) _)
  clear hd h hu
  go_enter Tryz.func73, Tryz.ntmps73
  go_wp2_with (fail)
  go_quiet (fail)
  go_wp2_with (fail)
  exact bodyPost_ret (v := .bool false) (by simp [results, Tryz.results73, go_sem]) rfl ⟨rfl, HS.out _, HK.out _⟩
set_option maxHeartbeats 1000000 in
set_option maxRecDepth 100000 in
theorem end_walk (w : World) (r x : Nat) (pv sv : Value) (s : Rs) (h : IsRun w r pv sv s) (hx : x < 18446744073709551616) :
    Calls Tryz.prog 76 #[.pointer (some ⟨r, 0, none⟩), .int .u64 (x : Int)] w fun e w' => e = .returned (.tuple #[.int .u64 0, .bool false]) ∧ IsRun w' r pv sv (s.ends x) ∧ Kept (fun k => k = r) w w' := by
  have fu := h.fz 2053
  have ke := h.ex
  have HS := Lib.hid (h.setExit hx)
  have HK : Hid (Kept (fun k => k = r) w (w.setCell ⟨r, 2053, none⟩ (.int .u64 x))) := Lib.hid (kept_one (Kept.refl (fun k => k = r) _) r 2053 (.inl rfl) _)
  clear h hx
  go_enter Tryz.func76, Tryz.ntmps76
  go_wp2_with (fail)
  exact bodyPost_ret (v := .tuple #[.int .u64 0, .bool false]) (by simp [results, Tryz.results76, go_sem]) rfl ⟨rfl, HS.out, HK.out⟩
theorem end_wrong (w : World) (r : Nat) (pv sv : Value) (s : Rs) (h : IsRun w r pv sv s) :
    Calls Tryz.prog 76 #[.pointer (some ⟨r, 0, none⟩), .int .u64 18446744073709551614] w fun e w' => e = .returned (.tuple #[.int .u64 0, .bool false]) ∧ IsRun w' r pv sv (s.ends wrong) ∧ Kept (fun k => k = r) w w' :=
  end_walk w r wrong pv sv s h (by decide)
theorem Kept.after {S : Nat → Prop} {a b c : World} (h : Kept (fun _ => False) a b) (k : Kept S b c) : Kept S a c := (h.mono fun _ _ e => e.elim).trans k fun _ _ e => e
end Ir
end Go.Proofs.YtcgpdijpppcbiaaGreatDoor
namespace Go.Proofs.YtcgpdijpppcbiaaGreatDoor
open Go.RowKit
set_option linter.unusedVariables false
/-- A world of the class R. -/
structure Wd (R : World → Prop) where
  val : World
  ok : R val
/-- A contract over worlds of the class, from one that makes memory alone. -/
theorem in_of_below {P : Program} {f : FuncId} {args : Array Value} {v : Value} {R : World → Prop} (s : Wd R) (hR : ∀ y, Below s.val.heap.size s.val y → R y) (h : Calls P f args s.val fun e w' => e = .returned v ∧ Below s.val.heap.size s.val w') :
    Calls P f args s.val fun e w' => e = .returned v ∧ ∃ s' : Wd R, w' = s'.val :=
  h.mono fun e w' ⟨he, hb⟩ => ⟨he, ⟨w', hR w' hb⟩, rfl⟩
theorem in_of_same {P : Program} {f : FuncId} {args : Array Value} {v : Value} {R : World → Prop} (s : Wd R) (h : Calls P f args s.val fun e w' => e = .returned v ∧ s.val = w') :
    Calls P f args s.val fun e w' => e = .returned v ∧ ∃ s' : Wd R, w' = s'.val :=
  h.mono fun e w' ⟨he, hb⟩ => ⟨he, s, hb.symm⟩
end Go.Proofs.YtcgpdijpppcbiaaGreatDoor
