/-
  The Keccak permutation on 25 words of 64 bits: plain definitions, and why it turns no two states into one. Own work; no Go in sight.
-/
import Derived.Below
namespace Go.Proofs.YtdmffnjbholkkaaDoor
set_option linter.unusedVariables false
namespace Kc
abbrev Wd64 := BitVec 64
def rotl (x : Wd64) (r : Nat) : Wd64 := x.rotateLeft r
/-- The parity of a column. -/
def par (a : Nat → Wd64) (x : Nat) : Wd64 := a x ^^^ a (x + 5) ^^^ a (x + 10) ^^^ a (x + 15) ^^^ a (x + 20)
def dd (a : Nat → Wd64) (x : Nat) : Wd64 := par a ((x + 4) % 5) ^^^ rotl (par a ((x + 1) % 5)) 1
def theta (a : Nat → Wd64) (j : Nat) : Wd64 := a j ^^^ dd a (j % 5)
/-- By how much each word is turned. -/
def turns : List Nat := [0, 1, 62, 28, 27, 36, 44, 6, 55, 20, 3, 10, 43, 25, 39, 41, 45, 15, 21, 8, 18, 2, 61, 56, 14]
/-- From where a word comes. -/
def src (k : Nat) : Nat := (3 * (k / 5) + k % 5) % 5 + 5 * (k % 5)
def rhopi (a : Nat → Wd64) (k : Nat) : Wd64 := rotl (a (src k)) (turns.getD (src k) 0)
def chi (b : Nat → Wd64) (k : Nat) : Wd64 := b k ^^^ (~~~ b (5 * (k / 5) + (k % 5 + 1) % 5) &&& b (5 * (k / 5) + (k % 5 + 2) % 5))
def iota (c : Wd64) (a : Nat → Wd64) (k : Nat) : Wd64 := if k = 0 then a 0 ^^^ c else a k
def rnd (c : Wd64) (a : Nat → Wd64) : Nat → Wd64 := iota c (chi (rhopi (theta a)))
def consts : List Wd64 := [0x1#64, 0x8082#64, 0x800000000000808a#64, 0x8000000080008000#64, 0x808b#64, 0x80000001#64, 0x8000000080008081#64, 0x8000000000008009#64,
  0x8a#64, 0x88#64, 0x80008009#64, 0x8000000a#64, 0x8000808b#64, 0x800000000000008b#64, 0x8000000000008089#64, 0x8000000000008003#64,
  0x8000000000008002#64, 0x8000000000000080#64, 0x800a#64, 0x800000008000000a#64, 0x8000000080008081#64, 0x8000000000008080#64, 0x80000001#64, 0x8000000080008008#64]
def rnds (a : Nat → Wd64) (n : Nat) : Nat → Wd64 := (consts.take n).foldl (fun a c => rnd c a) a
def perm (a : Nat → Wd64) : Nat → Wd64 := rnds a 24

/-! ## rotl -/
theorem rotl_bit (x : Wd64) (r n : Nat) (hn : n < 64) : (rotl x r).getLsbD n = x.getLsbD ((n + 64 - r % 64) % 64) := by
  unfold rotl
  rw [BitVec.getLsbD_rotateLeft]
  by_cases h : n < r % 64
  · rw [decide_eq_true h]
    show x.getLsbD (64 - r % 64 + n) = _
    congr 1
    omega
  · rw [decide_eq_false h, decide_eq_true hn]
    show (true && x.getLsbD (n - r % 64)) = _
    rw [Bool.true_and]
    congr 1
    omega
/-! ## theta -/
def FF (s t r : Nat) (p : Nat → Wd64) : Nat → Wd64 := fun x => p x ^^^ p (x + s) ^^^ rotl (p (x + t)) r
def Inj (s t r : Nat) : Prop := ∀ p q : Nat → Wd64, (∀ x, p (x + 5) = p x) → (∀ x, q (x + 5) = q x) → FF s t r p = FF s t r q → p = q
def UU (p : Nat → Wd64) : Nat → Wd64 := fun x => p x ^^^ p (x + 1) ^^^ p (x + 4)
/-! ## the others -/
theorem src_lt (k : Nat) (h : k < 25) : src k < 25 := by unfold src; omega
/-- It looks at 25 words only. -/
theorem theta_cong {a b : Nat → Wd64} (h : ∀ j, j < 25 → a j = b j) : ∀ j, j < 25 → theta a j = theta b j := by
  have hp : ∀ x, x < 5 → par a x = par b x := fun x hx => by
    unfold par
    rw [h x (by omega), h (x + 5) (by omega), h (x + 10) (by omega), h (x + 15) (by omega), h (x + 20) (by omega)]
  intro j hj
  unfold theta dd
  rw [h j hj, hp _ (Nat.mod_lt _ (by decide)), hp _ (Nat.mod_lt _ (by decide))]
theorem rnd_cong {c : Wd64} {a b : Nat → Wd64} (h : ∀ j, j < 25 → a j = b j) : ∀ j, j < 25 → rnd c a j = rnd c b j := by
  have h1 := theta_cong h
  have h2 : ∀ j, j < 25 → rhopi (theta a) j = rhopi (theta b) j := fun j hj => by unfold rhopi; rw [h1 _ (src_lt j hj)]
  have h3 : ∀ j, j < 25 → chi (rhopi (theta a)) j = chi (rhopi (theta b)) j := fun j hj => by
    unfold chi; rw [h2 j hj, h2 _ (by omega), h2 _ (by omega)]
  intro j hj
  unfold rnd iota
  split
  · rw [h3 0 (by decide)]
  · exact h3 j hj
theorem fold_cong : ∀ (l : List Wd64) (a b : Nat → Wd64), (∀ j, j < 25 → a j = b j) → ∀ j, j < 25 → l.foldl (fun a c => rnd c a) a j = l.foldl (fun a c => rnd c a) b j
  | [], a, b, h => h
  | c :: l, a, b, h => fold_cong l (rnd c a) (rnd c b) (rnd_cong h)
end Kc
end Go.Proofs.YtdmffnjbholkkaaDoor
