/-
  Merkle trees over digests: plain definitions and facts. Own work; no Go in sight.
-/
import Derived.Test.YtjfpbponjhpdhaaDoorK1
import Derived.Test.YtjfpbponjhpdhaaDoorEqa
namespace Go.Proofs.YtjfpbponjhpdhaaDoor
set_option linter.unusedVariables false
namespace Mk
open Kc
abbrev Hx := Nat → Bt
def pr (x y : Hx) : Hx := sum (both x y)
theorem both_cong {x x' y y' : Hx} (h : ∀ i, i < 32 → x i = x' i) (k : ∀ i, i < 32 → y i = y' i) : both x y = both x' y' := by
  unfold both
  rw [List.map_congr_left (g := x') (fun i hi => h i (by simpa using hi)), List.map_congr_left (g := y') (fun i hi => k i (by simpa using hi))]
theorem pr_cong {x x' y y' : Hx} (h : ∀ i, i < 32 → x i = x' i) (k : ∀ i, i < 32 → y i = y' i) : pr x y = pr x' y' := by unfold pr; rw [both_cong h k]
theorem pr_same {x x' y y' : Hx} (h : same32 x x' = true) (k : same32 y y' = true) : pr x y = pr x' y' := pr_cong ((same32_iff x x').1 h) ((same32_iff y y').1 k)
def zero : Nat → Hx
  | 0 => fun _ => 0#8
  | h + 1 => pr (zero h) (zero h)
/-- The root of the part of height h that begins at the leaf k. -/
def und (g : Nat → Hx) : Nat → Nat → Hx
  | 0, k => g k
  | h + 1, k => pr (und g h k) (und g h (k + 2 ^ h))
/-- n leaves, and noughts behind. -/
def ext (n : Nat) (f : Nat → Hx) : Nat → Hx := fun k => if k < n then f k else zero 0
theorem und_out {g : Nat → Hx} {n : Nat} (hg : ∀ k, n ≤ k → g k = zero 0) : ∀ h k, n ≤ k → und g h k = zero h
  | 0, k, hk => hg k hk
  | h + 1, k, hk => by show pr _ _ = pr _ _; rw [und_out hg h k hk, und_out hg h _ (Nat.le_trans hk (Nat.le_add_right _ _))]
theorem ext_out (n : Nat) (f : Nat → Hx) : ∀ k, n ≤ k → ext n f k = zero 0 := fun k hk => by unfold ext; rw [if_neg (by omega)]
theorem ext_in {n : Nat} (f : Nat → Hx) {k : Nat} (hk : k < n) : ext n f k = f k := by unfold ext; rw [if_pos hk]
theorem und_ext_out (n : Nat) (f : Nat → Hx) (h k : Nat) (hk : n ≤ k) : und (ext n f) h k = zero h := und_out (ext_out n f) h k hk
theorem und_cong {f g : Nat → Hx} : ∀ h k, (∀ i, k ≤ i → i < k + 2 ^ h → f i = g i) → und f h k = und g h k
  | 0, k, e => e k (Nat.le_refl _) (by simp)
  | h + 1, k, e => by
    have hp : 2 ^ (h + 1) = 2 ^ h + 2 ^ h := by rw [Nat.pow_succ]; omega
    show pr _ _ = pr _ _
    rw [und_cong h k (fun i h1 h2 => e i h1 (by omega)), und_cong h (k + 2 ^ h) (fun i h1 h2 => e i (by omega) (by omega))]
/-- A level: the parts of height h, one by one. -/
def lev (g : Nat → Hx) (h : Nat) : Nat → Hx := fun k => und g h (k * 2 ^ h)
theorem lev_zero (g : Nat → Hx) : lev g 0 = g := by funext k; show g (k * 2 ^ 0) = g k; simp
theorem lev_succ (g : Nat → Hx) (h k : Nat) : lev g (h + 1) k = pr (lev g h (2 * k)) (lev g h (2 * k + 1)) := by
  show pr (und g h (k * 2 ^ (h + 1))) (und g h (k * 2 ^ (h + 1) + 2 ^ h)) = pr (und g h (2 * k * 2 ^ h)) (und g h ((2 * k + 1) * 2 ^ h))
  have e1 : k * 2 ^ (h + 1) = 2 * k * 2 ^ h := by rw [Nat.pow_succ]; rw [Nat.mul_comm (2 ^ h) 2, ← Nat.mul_assoc, Nat.mul_comm k 2]
  rw [e1, Nat.add_mul, Nat.one_mul]
/-- How many are kept of a level. -/
def cnt (n : Nat) : Nat → Nat
  | 0 => n
  | h + 1 => (cnt n h + 1) / 2
theorem cnt_ge (n : Nat) : ∀ h, n ≤ cnt n h * 2 ^ h
  | 0 => by simp [cnt]
  | h + 1 => by
    have h1 := cnt_ge n h
    have e : cnt n (h + 1) * 2 ^ (h + 1) = (2 * cnt n (h + 1)) * 2 ^ h := by rw [Nat.pow_succ, Nat.mul_comm (2 ^ h) 2, ← Nat.mul_assoc, Nat.mul_comm _ 2]
    have h2 : cnt n h ≤ 2 * cnt n (h + 1) := by show _ ≤ 2 * ((cnt n h + 1) / 2); omega
    rw [e]
    exact Nat.le_trans h1 (Nat.mul_le_mul_right _ h2)
theorem cnt_le (n : Nat) : ∀ h, cnt n h ≤ n + 0 ∨ cnt n h ≤ 1
  | 0 => .inl (Nat.le_refl _)
  | h + 1 => by have := cnt_le n h; show (cnt n h + 1) / 2 ≤ _ ∨ (cnt n h + 1) / 2 ≤ _; omega
theorem cnt_le_n (n : Nat) : ∀ h, cnt n h ≤ n
  | 0 => Nat.le_refl _
  | h + 1 => by have := cnt_le_n n h; show (cnt n h + 1) / 2 ≤ _; omega
theorem lev_out (n : Nat) (f : Nat → Hx) (h k : Nat) (hk : cnt n h ≤ k) : lev (ext n f) h k = zero h := by
  refine und_ext_out n f h _ ?_
  exact Nat.le_trans (cnt_ge n h) (Nat.mul_le_mul_right _ hk)
theorem und_lev (g : Nat → Hx) (h : Nat) : und g h 0 = lev g h 0 := by show und g h 0 = und g h (0 * 2 ^ h); rw [Nat.zero_mul]
/-! ## paths -/
/-- What stands beside the way to the leaf i, at height h. -/
def sib (g : Nat → Hx) (i h : Nat) : Hx := lev g h ((i / 2 ^ h) ^^^ 1)
/-- A leaf folded with d digests of a path. -/
def fold (i : Nat) (x : Hx) (p : Nat → Hx) : Nat → Hx
  | 0 => x
  | d + 1 => if (i / 2 ^ d) % 2 = 0 then pr (fold i x p d) (p d) else pr (p d) (fold i x p d)
theorem xor1 (a : Nat) : a ^^^ 1 = if a % 2 = 0 then a + 1 else a - 1 := by
  apply Nat.eq_of_testBit_eq
  intro j
  cases j with
  | zero =>
    rw [Nat.testBit_xor]
    simp only [Nat.testBit_zero]
    by_cases h2 : a % 2 = 0
    · rw [if_pos h2]; have h3 : (a + 1) % 2 = 1 := by omega
      simp [h2, h3]
    · rw [if_neg h2]; have h3 : (a - 1) % 2 = 0 := by omega
      have h4 : a % 2 = 1 := by omega
      simp [h4, h3]
  | succ j =>
    rw [Nat.testBit_xor, Nat.testBit_succ, Nat.testBit_succ, Nat.testBit_succ]
    have e : (if a % 2 = 0 then a + 1 else a - 1) / 2 = a / 2 := by split <;> omega
    rw [e]; simp
theorem fold_up (g : Nat → Hx) (i : Nat) (p : Nat → Hx) (x : Hx) (hx : x = g i) : ∀ d, (∀ h, h < d → p h = sib g i h) → fold i x p d = lev g d (i / 2 ^ d)
  | 0, _ => by show x = lev g 0 _; rw [lev_zero]; simp [hx]
  | d + 1, hp => by
    have ih := fold_up g i p x hx d (fun h hh => hp h (by omega))
    have hd := hp d (by omega)
    have e2 : i / 2 ^ (d + 1) = i / 2 ^ d / 2 := by rw [Nat.pow_succ, Nat.div_div_eq_div_mul]
    rw [lev_succ, e2]
    unfold fold
    rw [ih, hd]
    unfold sib
    rw [xor1]
    generalize i / 2 ^ d = a
    by_cases ha : a % 2 = 0
    · rw [if_pos ha, if_pos ha, show 2 * (a / 2) = a from by omega]
    · rw [if_neg ha, if_neg ha, show 2 * (a / 2) = a - 1 from by omega, show a - 1 + 1 = a from by omega]
/-- With another leaf at a place. -/
def put (g : Nat → Hx) (i : Nat) (x : Hx) : Nat → Hx := fun k => if k = i then x else g k
theorem lev_put (g : Nat → Hx) (i : Nat) (x : Hx) : ∀ h k, k ≠ i / 2 ^ h → lev (put g i x) h k = lev g h k
  | 0, k, hk => by rw [lev_zero, lev_zero]; unfold put; rw [if_neg (by simpa using hk)]
  | h + 1, k, hk => by
    have e2 : i / 2 ^ (h + 1) = i / 2 ^ h / 2 := by rw [Nat.pow_succ, Nat.div_div_eq_div_mul]
    rw [lev_succ, lev_succ, lev_put g i x h (2 * k) (by rw [e2] at hk; omega), lev_put g i x h (2 * k + 1) (by rw [e2] at hk; omega)]
theorem sib_put (g : Nat → Hx) (i : Nat) (x : Hx) (h : Nat) : sib (put g i x) i h = sib g i h := by
  unfold sib
  refine lev_put g i x h _ ?_
  rw [xor1]; split <;> omega
theorem fold_own {g : Nat → Hx} {i d : Nat} {p : Nat → Hx} (hi : i < 2 ^ d) (hp : ∀ h, h < d → p h = sib g i h) : fold i (g i) p d = und g d 0 := by
  rw [fold_up g i p (g i) rfl d hp, Nat.div_eq_of_lt hi, und_lev]
theorem fold_other {g : Nat → Hx} {i d : Nat} {p : Nat → Hx} (x : Hx) (hi : i < 2 ^ d) (hp : ∀ h, h < d → p h = sib g i h) : fold i x p d = und (put g i x) d 0 := by
  rw [fold_up (put g i x) i p x (by unfold put; rw [if_pos rfl]) d (fun h hh => by rw [sib_put]; exact hp h hh), Nat.div_eq_of_lt hi, und_lev]
theorem fold_cong {i : Nat} {x y : Hx} {p q : Nat → Hx} (hx : x = y) : ∀ d, (∀ h, h < d → p h = q h) → fold i x p d = fold i y q d
  | 0, _ => hx
  | d + 1, h => by unfold fold; rw [fold_cong hx d (fun k hk => h k (by omega)), h d (by omega)]
/-- The ref's way to the same digest beside the way. -/
theorem sib_und (g : Nat → Hx) (i h : Nat) : sib g i h = und g h ((i / 2 ^ h ^^^ 1) * 2 ^ h) := rfl
end Mk
end Go.Proofs.YtjfpbponjhpdhaaDoor
