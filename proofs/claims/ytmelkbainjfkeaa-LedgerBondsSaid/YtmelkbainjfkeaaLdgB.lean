/-
  Layer 18: plain facts for LedgerBonds: what the two loops make of a ledger. Own work.
-/
import Derived.Test.YtmelkbainjfkeaaLdgF
namespace Go.Proofs.Ytmelkbainjfkeaa
open Go.RowKit
set_option linter.unusedVariables false
namespace LedS
def V (zs : List Int) (j : Nat) : Int := zs.getD j 0 % 1099511627776
theorem V_bd (zs : List Int) (j : Nat) : 0 ≤ V zs j ∧ V zs j < 1099511627776 := by unfold V; omega
def S (zs : List Int) : Nat → Int
  | 0 => 0
  | k + 1 => S zs k + V zs k
theorem S_bd (zs : List Int) : ∀ k, 0 ≤ S zs k ∧ S zs k ≤ k * 1099511627776
  | 0 => by simp [S]
  | k + 1 => by have := S_bd zs k; have := V_bd zs k; simp only [S]; omega
structure I1 (zs : List Int) (k : Nat) (L : LedS) : Prop where
  bonds : L.bonds = (List.range k).map fun j => (V zs j, false)
  bal : ∀ j, j < 8 → L.bal j = 0
  pin : L.pin = S zs k
  pout : L.pout = 0
theorem I1_zero (zs : List Int) : I1 zs 0 init := ⟨rfl, fun _ _ => rfl, rfl, rfl⟩
theorem I1_step {zs : List Int} {k : Nat} {L : LedS} (h : I1 zs k L) (hk : k < 20) :
    ∃ L1 L2, L.payIn ((k : Int) % 8) (V zs k) = (0, L1) ∧ L1.lockB ((k : Int) % 8) (V zs k) = (0, L2) ∧ L1.lockN ((k : Int) % 8) (V zs k) = k ∧ I1 zs (k + 1) L2 := by
  have hS := S_bd zs k
  have hv := V_bd zs k
  have hp : ¬ ((k : Int) % 8 < 0 ∨ 8 ≤ (k : Int) % 8) := by omega
  have hlen : L.bonds.length = k := by rw [h.bonds]; simp
  have e1 : L.payIn ((k : Int) % 8) (V zs k) = (0, { L with bal := put L.bal ((k : Int) % 8).toNat (L.bal ((k : Int) % 8).toNat + V zs k), pin := L.pin + V zs k }) := by
    unfold payIn
    rw [if_neg hp, if_neg (by rw [h.pin]; omega)]
  have hb0 := h.bal ((k : Int) % 8).toNat (by omega)
  have e2 : LedS.lockB { L with bal := put L.bal ((k : Int) % 8).toNat (L.bal ((k : Int) % 8).toNat + V zs k), pin := L.pin + V zs k } ((k : Int) % 8) (V zs k) = (0, { L with bal := put (put L.bal ((k : Int) % 8).toNat (L.bal ((k : Int) % 8).toNat + V zs k)) ((k : Int) % 8).toNat 0, pin := L.pin + V zs k, bonds := L.bonds ++ [(V zs k, false)], locked := L.locked + V zs k }) := by
    unfold lockB
    rw [if_neg hp, if_neg (by show ¬ put _ _ _ _ < _; unfold put; rw [if_pos rfl, hb0]; omega), if_neg (by show ¬ 65536 ≤ ((L.bonds.length : Nat) : Int); rw [hlen]; omega)]
    simp only [put, if_true, hb0]
    congr 3
    omega
  refine ⟨_, _, e1, e2, ?_, ?_⟩
  · unfold lockN
    rw [e2]
    show (if (0 : Int) = 0 then ((L.bonds.length : Nat) : Int) else 0) = k
    rw [if_pos rfl, hlen]
  · refine ⟨?_, fun j hj => ?_, ?_, h.pout⟩
    · show L.bonds ++ [(V zs k, false)] = _
      rw [h.bonds, List.range_succ, List.map_append]; rfl
    · show put (put _ _ _) _ _ j = 0
      unfold put
      split
      · rfl
      · exact h.bal j hj
    · show L.pin + V zs k = _
      rw [h.pin]; rfl
def cnt : List (Int × Bool) → Nat
  | [] => 0
  | x :: t => (if x.2 then 1 else 0) + cnt t
theorem cnt_le : ∀ l, cnt l ≤ l.length
  | [] => by simp [cnt]
  | x :: t => by have := cnt_le t; simp only [cnt, List.length_cons]; split <;> omega
theorem cnt_all : ∀ l, cnt l = l.length → openSum l = 0
  | [], _ => rfl
  | x :: t, h => by
    have := cnt_le t
    simp only [cnt, List.length_cons] at h
    by_cases hx : x.2 = true
    · rw [if_pos hx] at h
      simp only [openSum, hx, if_true, cnt_all t (by omega)]; rfl
    · rw [if_neg hx] at h; omega
theorem cnt_set : ∀ (l : List (Int × Bool)) (n : Nat) (v : Int), l[n]? = some (v, false) → cnt (l.set n (v, true)) = cnt l + 1
  | [], n, v, h => by simp at h
  | x :: t, 0, v, h => by simp at h; subst h; simp [cnt]; omega
  | x :: t, n + 1, v, h => by simp at h; simp only [List.set, cnt, cnt_set t n v h]; omega
theorem cnt_range (zs : List Int) (k : Nat) : cnt ((List.range k).map fun j => (V zs j, false)) = 0 := by
  generalize List.range k = l
  induction l with
  | nil => rfl
  | cons x t ih => simpa [cnt] using ih
/-- The order in which the bonds are given. -/
def kf (n : Nat) (t : Int) (i : Nat) : Nat := ((t % n + i * 23) % n).toNat
theorem kf_lt {n : Nat} (hn : 0 < n) (t : Int) (i : Nat) : kf n t i < n := by unfold kf; have := Int.emod_lt_of_pos (t % n + i * 23) (show (0 : Int) < n by omega); have := Int.emod_nonneg (t % n + i * 23) (show (n : Int) ≠ 0 by omega); omega
theorem kf_inj {n : Nat} (hn : n ≤ 20) (t : Int) {i j : Nat} (hi : i < n) (hj : j < n) (h : kf n t i = kf n t j) : i = j := by
  unfold kf at h
  generalize t % (n : Int) = u at h
  have hc : n = 0 ∨ n = 1 ∨ n = 2 ∨ n = 3 ∨ n = 4 ∨ n = 5 ∨ n = 6 ∨ n = 7 ∨ n = 8 ∨ n = 9 ∨ n = 10 ∨ n = 11 ∨ n = 12 ∨ n = 13 ∨ n = 14 ∨ n = 15 ∨ n = 16 ∨ n = 17 ∨ n = 18 ∨ n = 19 ∨ n = 20 := by omega
  rcases hc with rfl | rfl | rfl | rfl | rfl | rfl | rfl | rfl | rfl | rfl | rfl | rfl | rfl | rfl | rfl | rfl | rfl | rfl | rfl | rfl | rfl <;> omega
structure I2 (zs : List Int) (n : Nat) (t : Int) (i : Nat) (L : LedS) : Prop where
  len : L.bonds.length = n
  at_ : ∀ j, j < n → ∃ g, L.bonds[j]? = some (V zs j, g) ∧ (g = true → ∃ i', i' < i ∧ kf n t i' = j)
  cnt : cnt L.bonds = i
  pin : L.pin = S zs n
  pout : L.pout = 0
theorem I2_zero {zs : List Int} {n : Nat} {L : LedS} (t : Int) (h : I1 zs n L) : I2 zs n t 0 L := by
  refine ⟨by rw [h.bonds]; simp, fun j hj => ⟨false, ?_, fun hf => by cases hf⟩, by rw [h.bonds]; exact cnt_range zs n, h.pin, h.pout⟩
  rw [h.bonds, List.getElem?_map, List.getElem?_range hj]; rfl
theorem I2_step {zs : List Int} {n : Nat} {t : Int} {i : Nat} {L : LedS} (h : I2 zs n t i L) (hn : n ≤ 20) (hi : i < n) (p : Int) (h0 : 0 ≤ p) (h1 : p < 8) :
    ∃ L', L.give (kf n t i) p = (0, L') ∧ L'.give (kf n t i) p = (41, L') ∧ I2 zs n t (i + 1) L' ∧ L'.bal = put L.bal p.toNat (L.bal p.toNat + V zs (kf n t i)) := by
  have hk := kf_lt (show 0 < n by omega) t i
  obtain ⟨g, hg, hgt⟩ := h.at_ _ hk
  have hgf : g = false := by
    cases g with
    | false => rfl
    | true =>
      obtain ⟨i', h2, h3⟩ := hgt rfl
      have := kf_inj hn t (by omega) hi h3
      omega
  subst hgf
  have hp : ¬ (p < 0 ∨ 8 ≤ p) := by omega
  have hl : ¬ ((kf n t i : Int) < 0 ∨ ((L.bonds.length : Nat) : Int) ≤ (kf n t i : Int)) := by rw [h.len]; omega
  have hlt : kf n t i < L.bonds.length := by rw [h.len]; exact hk
  refine ⟨{ L with bal := put L.bal p.toNat (L.bal p.toNat + V zs (kf n t i)), bonds := L.bonds.set (kf n t i) (V zs (kf n t i), true), locked := L.locked - V zs (kf n t i) }, ?_, ?_, ?_, rfl⟩
  · unfold give
    rw [if_neg hp, if_neg hl]
    simp only [Int.toNat_natCast, hg, Bool.false_eq_true, if_false]
  · unfold give
    rw [if_neg hp, if_neg (by show ¬ ((kf n t i : Int) < 0 ∨ (((L.bonds.set (kf n t i) (V zs (kf n t i), true)).length : Nat) : Int) ≤ (kf n t i : Int)); rw [List.length_set]; exact hl)]
    simp only [Int.toNat_natCast, List.getElem?_set_self hlt, if_true]
  · refine ⟨by simpa using h.len, fun j hj => ?_, ?_, h.pin, h.pout⟩
    · by_cases e : kf n t i = j
      · subst e
        exact ⟨true, List.getElem?_set_self hlt, fun _ => ⟨i, by omega, rfl⟩⟩
      · obtain ⟨g, hg2, hgt2⟩ := h.at_ j hj
        refine ⟨g, by rw [List.getElem?_set_ne e]; exact hg2, fun hh => ?_⟩
        obtain ⟨i', h2, h3⟩ := hgt2 hh
        exact ⟨i', by omega, h3⟩
    · show LedS.cnt (L.bonds.set _ _) = i + 1
      rw [cnt_set _ _ _ hg, h.cnt]
theorem I2_end {zs : List Int} {n : Nat} {t : Int} {L : LedS} (h : I2 zs n t n L) (ok : L.Ok) : L.locked = 0 := by
  rw [ok.lock]; exact cnt_all _ (by rw [h.cnt, h.len])
/-- Paid out, player by player. -/
structure I3 (B : Nat → Int) (T : Int) (p : Nat) (L : LedS) : Prop where
  bal : ∀ j, j < 8 → L.bal j = if j < p then 0 else B j
  locked : L.locked = 0
  pin : L.pin = T
theorem I3_step {B : Nat → Int} {T : Int} {p : Nat} {L : LedS} (h : I3 B T p L) (hp : p < 8) : L.bal p = B p ∧ ∃ L', L.payOut p (B p) = (0, L') ∧ I3 B T (p + 1) L' := by
  have hb : L.bal p = B p := by rw [h.bal p hp, if_neg (by omega)]
  refine ⟨hb, { L with bal := put L.bal p 0, pout := L.pout + B p }, ?_, ⟨fun j hj => ?_, ?_, ?_⟩⟩
  · unfold payOut
    rw [if_neg (by omega)]
    simp only [Int.toNat_natCast]
    rw [if_neg (by rw [hb]; omega), hb, Int.sub_self]
  · show put L.bal p 0 j = _
    unfold put
    by_cases e : j = p
    · rw [if_pos e, if_pos (by omega)]
    · rw [if_neg e, h.bal j hj]
      split
      · rw [if_pos (by omega)]
      · rw [if_neg (by omega)]
  · exact h.locked
  · exact h.pin
theorem I3_end {B : Nat → Int} {T : Int} {L : LedS} (h : I3 B T 8 L) (ok : L.Ok) : L.locked = 0 ∧ L.pin = T ∧ L.pout = T := by
  have hb := fun j (hj : j < 8) => (h.bal j hj).trans (if_pos hj)
  have hs := ok.sum
  rw [hb 0 (by omega), hb 1 (by omega), hb 2 (by omega), hb 3 (by omega), hb 4 (by omega), hb 5 (by omega), hb 6 (by omega), hb 7 (by omega), h.locked, h.pin] at hs
  exact ⟨h.locked, h.pin, by omega⟩
end LedS
end Go.Proofs.Ytmelkbainjfkeaa
