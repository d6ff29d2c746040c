/-
  Bytes that are taken into a state one by one. Own work; no Go in sight.
-/
import Derived.Test.YtkhdamjjbjmeaaaDoorKhs
namespace Go.Proofs.YtkhdamjjbjmeaaaDoor
open Go.RowKit
set_option linter.unusedVariables false
namespace Kc
/-- The first k bytes of lane j. -/
def acc (p : Nat → Bt) (j : Nat) : Nat → Wd64
  | 0 => 0#64
  | k + 1 => acc p j k ^^^ (wd (p (8 * j + k)) <<< (8 * k))
/-- A state with the first i bytes. -/
def mix (a : Nat → Wd64) (p : Nat → Bt) (i : Nat) : Nat → Wd64 := fun j => if j < i / 8 then a j ^^^ acc p j 8 else if j = i / 8 then a j ^^^ acc p j (i % 8) else a j
theorem mix_zero (a : Nat → Wd64) (p : Nat → Bt) (j : Nat) : a j = mix a p 0 j := by
  unfold mix
  rw [if_neg (by omega)]
  split
  · show a j = a j ^^^ 0#64; rw [BitVec.xor_zero]
  · rfl
theorem mix_step (a : Nat → Wd64) (p : Nat → Bt) (i : Nat) (j : Nat) : upd (mix a p i) (i / 8) (mix a p i (i / 8) ^^^ (wd (p i) <<< (8 * (i % 8)))) j = mix a p (i + 1) j := by
  have hat : mix a p i (i / 8) = a (i / 8) ^^^ acc p (i / 8) (i % 8) := by unfold mix; rw [if_neg (by omega), if_pos rfl]
  have hstep : acc p (i / 8) (i % 8) ^^^ (wd (p i) <<< (8 * (i % 8))) = acc p (i / 8) (i % 8 + 1) := by
    show _ = acc p (i / 8) (i % 8) ^^^ (wd (p (8 * (i / 8) + i % 8)) <<< (8 * (i % 8)))
    rw [show 8 * (i / 8) + i % 8 = i from by omega]
  unfold upd
  by_cases e : j = i / 8
  · rw [if_pos e, hat, BitVec.xor_assoc, hstep, e]
    unfold mix
    by_cases h7 : i % 8 = 7
    · rw [if_pos (by omega), h7]
    · rw [if_neg (by omega), if_pos (by omega), show (i + 1) % 8 = i % 8 + 1 from by omega]
  · rw [if_neg e]
    unfold mix
    by_cases h1 : j < i / 8
    · rw [if_pos h1, if_pos (by omega)]
    · rw [if_neg h1, if_neg e]
      by_cases h2 : j < (i + 1) / 8
      · omega
      · rw [if_neg h2]
        by_cases h3 : j = (i + 1) / 8
        · rw [if_pos h3, show (i + 1) % 8 = 0 from by omega]
          show a j = a j ^^^ 0#64
          rw [BitVec.xor_zero]
        · rw [if_neg h3]
theorem byte_bit (x : Bt) (k n : Nat) (hn : n < 64) (hk : k < 8) : (wd x <<< (8 * k)).getLsbD n = (decide (n / 8 = k) && x.getLsbD (n % 8)) := by
  rw [wd_bit x (8 * k) n hn (by omega)]
  by_cases h : n / 8 = k
  · rw [decide_eq_true h, decide_eq_true (by omega), show n - 8 * k = n % 8 from by omega]
  · rw [decide_eq_false h]
    by_cases h2 : 8 * k ≤ n
    · rw [decide_eq_true h2, BitVec.getLsbD_of_ge x (n - 8 * k) (by omega)]; rfl
    · rw [decide_eq_false h2]; rfl
theorem acc_lane (p : Nat → Bt) (j : Nat) : acc p j 8 = lane p j := by
  have e0 : wd (p (8 * j)) = wd (p (8 * j)) <<< (8 * 0) := by simp
  unfold lane
  rw [e0]
  show 0#64 ^^^ (wd (p (8 * j + 0)) <<< (8 * 0)) ^^^ (wd (p (8 * j + 1)) <<< (8 * 1)) ^^^ (wd (p (8 * j + 2)) <<< (8 * 2)) ^^^ (wd (p (8 * j + 3)) <<< (8 * 3)) ^^^ (wd (p (8 * j + 4)) <<< (8 * 4)) ^^^ (wd (p (8 * j + 5)) <<< (8 * 5)) ^^^ (wd (p (8 * j + 6)) <<< (8 * 6)) ^^^ (wd (p (8 * j + 7)) <<< (8 * 7)) =
    (wd (p (8 * j + 0)) <<< (8 * 0)) ||| (wd (p (8 * j + 1)) <<< (8 * 1)) ||| (wd (p (8 * j + 2)) <<< (8 * 2)) ||| (wd (p (8 * j + 3)) <<< (8 * 3)) ||| (wd (p (8 * j + 4)) <<< (8 * 4)) ||| (wd (p (8 * j + 5)) <<< (8 * 5)) ||| (wd (p (8 * j + 6)) <<< (8 * 6)) ||| (wd (p (8 * j + 7)) <<< (8 * 7))
  rw [BitVec.zero_xor]
  apply BitVec.eq_of_getLsbD_eq
  intro n hn
  simp only [BitVec.getLsbD_xor, BitVec.getLsbD_or]
  rw [byte_bit _ 0 n hn (by decide), byte_bit _ 1 n hn (by decide), byte_bit _ 2 n hn (by decide), byte_bit _ 3 n hn (by decide), byte_bit _ 4 n hn (by decide), byte_bit _ 5 n hn (by decide), byte_bit _ 6 n hn (by decide), byte_bit _ 7 n hn (by decide)]
  have hc : n / 8 = 0 ∨ n / 8 = 1 ∨ n / 8 = 2 ∨ n / 8 = 3 ∨ n / 8 = 4 ∨ n / 8 = 5 ∨ n / 8 = 6 ∨ n / 8 = 7 := by omega
  rcases hc with h | h | h | h | h | h | h | h <;> simp [h]
theorem mix_all (a : Nat → Wd64) (p : Nat → Bt) (j : Nat) : mix a p 136 j = absorbK a p 17 j := by
  unfold mix absorbK
  by_cases h : j < 17
  · rw [if_pos h, if_pos h, acc_lane]
  · rw [if_neg h, if_neg h]
    split
    · show a j ^^^ 0#64 = a j; rw [BitVec.xor_zero]
    · rfl
/-- All bytes with the 1 and the noughts behind them, and the last bit. -/
def padN (l : List Bt) : Nat := 136 * (l.length / 136 + 1)
def pad (l : List Bt) : List Bt := l ++ 1#8 :: List.replicate (padN l - l.length - 1) 0#8
theorem pad_len (l : List Bt) : (pad l).length = padN l := by unfold pad padN; simp; omega
theorem pad_at (l : List Bt) (i : Nat) (hi : i < padN l) : (pad l).getD i 0#8 = if i < l.length then l.getD i 0#8 else if i = l.length then 1#8 else 0#8 := by
  unfold pad
  by_cases h : i < l.length
  · rw [if_pos h, getD_append_left h]
  · rw [if_neg h, getD_append_right (by omega)]
    by_cases h2 : i = l.length
    · rw [if_pos h2, h2]; simp
    · rw [if_neg h2]
      obtain ⟨k, hk⟩ : ∃ k, i - l.length = k + 1 := ⟨i - l.length - 1, by omega⟩
      rw [hk]
      unfold padN at *
      simp [show k < 136 * (l.length / 136 + 1) - l.length - 1 from by omega]
/-- The bytes as the sponge takes them. -/
def sponge (l : List Bt) (i : Nat) : Bt := if i = padN l - 1 then (pad l).getD i 0#8 ^^^ 128#8 else (pad l).getD i 0#8
/-- Behind m pieces of the sponge. -/
def stS (l : List Bt) : Nat → Nat → Wd64
  | 0 => fun _ => 0#64
  | m + 1 => perm (mix (stS l m) (fun j => sponge l (136 * m + j)) 136)
theorem perm_fun {a b : Nat → Wd64} (h : ∀ j, a j = b j) : perm a = perm b := by rw [show a = b from funext h]
theorem stS_st (l : List Bt) : ∀ m, m ≤ l.length / 136 → stS l m = st l m
  | 0, _ => rfl
  | m + 1, h => by
    show perm (mix (stS l m) (fun j => sponge l (136 * m + j)) 136) = absorb (st l m) fun j => l.getD (136 * m + j) 0#8
    rw [stS_st l m (by omega), perm_fun (mix_all _ _)]
    refine absorb_cong (st l m) fun j hj => ?_
    unfold sponge
    rw [if_neg (by unfold padN; omega), pad_at l _ (by unfold padN; omega), if_pos (by omega)]
theorem stS_last (l : List Bt) : stS l (l.length / 136 + 1) = absorb (st l (l.length / 136)) (last l) := by
  show perm (mix (stS l (l.length / 136)) (fun j => sponge l (136 * (l.length / 136) + j)) 136) = _
  rw [stS_st l _ (Nat.le_refl _), perm_fun (mix_all _ _)]
  refine absorb_cong _ fun j hj => ?_
  unfold sponge last
  rw [pad_at l _ (by unfold padN; omega)]
  by_cases h1 : j < l.length % 136
  · rw [if_neg (by unfold padN; omega), if_pos (by omega), if_pos h1, if_neg (by omega), if_neg (by omega)]; simp
  · rw [if_neg (show ¬ 136 * (l.length / 136) + j < l.length from by omega), if_neg h1]
    by_cases h2 : j = l.length % 136
    · rw [if_pos (show 136 * (l.length / 136) + j = l.length from by omega), if_pos h2]
      by_cases h3 : j = 135
      · rw [if_pos (by unfold padN; omega), if_pos h3]; simp
      · rw [if_neg (by unfold padN; omega), if_neg h3]; simp
    · rw [if_neg (show ¬ 136 * (l.length / 136) + j = l.length from by omega), if_neg h2]
      by_cases h3 : j = 135
      · rw [if_pos (by unfold padN; omega), if_pos h3]; simp
      · rw [if_neg (by unfold padN; omega), if_neg h3]; simp
theorem sponge_sum (l : List Bt) : digest (stS l (padN l / 136)) = sum l := by
  rw [show padN l / 136 = l.length / 136 + 1 from by unfold padN; omega, stS_last]; rfl
end Kc
end Go.Proofs.YtkhdamjjbjmeaaaDoor
