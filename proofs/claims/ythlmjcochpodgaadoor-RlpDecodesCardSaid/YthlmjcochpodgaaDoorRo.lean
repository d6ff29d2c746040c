/-
  rlp: the head in a slice is the head at its place. Own work.
-/
import Derived.Test.YthlmjcochpodgaaDoorRl
namespace Go.Proofs.YthlmjcochpodgaaDoor
set_option linter.unusedVariables false
namespace Rl
theorem at_in {b : List Bt} {i m j : Nat} (h : j < m) : at' (slc b i m) j = at' b (i + j) := by
  unfold at' slc
  rw [List.getD_eq_getElem?_getD, List.getElem?_take, if_pos h, List.getElem?_drop, List.getD_eq_getElem?_getD]
theorem slc_in {b : List Bt} {i m j k : Nat} (h : j + k ≤ m) : slc (slc b i m) j k = slc b (i + j) k := by
  unfold slc
  rw [List.drop_take, List.take_take, List.drop_drop, Nat.min_eq_left (by omega)]
theorem hdL_slc {b : List Bt} {i e k : Nat} {l : Bool} (hi : i < e) (hk : 1 ≤ k) : hdL (slc b i (e - i)) 0 (e - i) k l = hdL b i e k l := by
  unfold hdL
  by_cases h1 : e < i + 1 + k
  · rw [if_pos h1, if_pos (by omega)]
  · rw [if_neg h1, if_neg (by omega)]
    have e1 : slc (slc b i (e - i)) (0 + 1) k = slc b (i + 1) k := by rw [slc_in (by omega)]
    have e2 : at' (slc b i (e - i)) (0 + 1) = at' b (i + 1) := by rw [at_in (by omega)]
    rw [e1, e2]
    by_cases h2 : e < i + 1 + k + num 0 (slc b (i + 1) k)
    · rw [if_pos h2, if_pos (by omega)]
    · rw [if_neg h2, if_neg (by omega)]
theorem hd_slc {b : List Bt} {i e : Nat} (hi : i < e) : hd (slc b i (e - i)) 0 (e - i) = hd b i e := by
  have e0 : at' (slc b i (e - i)) 0 = at' b i := by rw [at_in (by omega)]; rfl
  unfold hd
  rw [e0]
  by_cases h1 : at' b i < 128
  · rw [if_pos h1, if_pos h1]
  · rw [if_neg h1, if_neg h1]
    by_cases h2 : at' b i ≤ 183
    · rw [if_pos h2, if_pos h2]
      by_cases h3 : e < i + 1 + (at' b i - 128)
      · rw [if_pos h3, if_pos (by omega)]
      · rw [if_neg h3, if_neg (by omega)]
        by_cases h4 : at' b i - 128 = 1
        · have e2 : at' (slc b i (e - i)) (0 + 1) = at' b (i + 1) := by rw [at_in (by omega)]
          rw [e2]
        · rw [if_neg (fun h => h4 h.1), if_neg (fun h => h4 h.1)]
    · rw [if_neg h2, if_neg h2]
      by_cases h3 : at' b i < 192
      · rw [if_pos h3, if_pos h3]; exact hdL_slc hi (by omega)
      · rw [if_neg h3, if_neg h3]
        by_cases h4 : at' b i ≤ 247
        · rw [if_pos h4, if_pos h4]
          by_cases h5 : e < i + 1 + (at' b i - 192)
          · rw [if_pos h5, if_pos (by omega)]
          · rw [if_neg h5, if_neg (by omega)]
        · rw [if_neg h4, if_neg h4]; exact hdL_slc hi (by omega)
end Rl
end Go.Proofs.YthlmjcochpodgaaDoor
