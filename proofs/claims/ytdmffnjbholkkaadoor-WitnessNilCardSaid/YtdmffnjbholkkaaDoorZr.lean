/-
  The new store's noughts: sixteen, apart. Own work.
-/
import Derived.Test.YtdmffnjbholkkaaDoorZq
import Derived.Test.YtdmffnjbholkkaaDoorZd2
namespace Go.Proofs.YtdmffnjbholkkaaDoor
open Go.RowKit
set_option linter.unusedVariables false
set_option linter.unusedSimpArgs false
namespace Wt
open Kc Mk
theorem hs_zz (k : Nat) : hs (zz k) = zero (k + 1) := hs_jn _ _
/-- The noughts' words; of the nought of nothing none. -/
def nlit : Nat → List Wd64
  | 1 => N1z | 2 => N2z | 3 => N3z | 4 => N4z | 5 => N5z | 6 => N6z | 7 => N7z | 8 => N8z
  | 9 => N9z | 10 => N10z | 11 => N11z | 12 => N12z | 13 => N13z | 14 => N14z | 15 => N15z | 16 => N16z
  | _ => []
theorem zlit (k : Nat) (h1 : 1 ≤ k) (h2 : k ≤ 16) (i : Nat) (hi : i < 32) : zero k i = digest (ofw (nlit k)) i := by
  obtain ⟨j, rfl⟩ : ∃ j, k = j + 1 := ⟨k - 1, by omega⟩
  have hj : j < 16 := by omega
  rcases j with _ | _ | _ | _ | _ | _ | _ | _ | _ | _ | _ | _ | _ | _ | _ | _ | j
  · exact N0_is i hi
  · exact N1_is i hi
  · exact N2_is i hi
  · exact N3_is i hi
  · exact N4_is i hi
  · exact N5_is i hi
  · exact N6_is i hi
  · exact N7_is i hi
  · exact N8_is i hi
  · exact N9_is i hi
  · exact N10_is i hi
  · exact N11_is i hi
  · exact N12_is i hi
  · exact N13_is i hi
  · exact N14_is i hi
  · exact N15_is i hi
  · omega
theorem heads : ((List.range 16).all fun a => (List.range 16).all fun b => a == b || digest (ofw (nlit (a + 1))) 0 != digest (ofw (nlit (b + 1))) 0 || digest (ofw (nlit (a + 1))) 1 != digest (ofw (nlit (b + 1))) 1) = true := by decide +kernel
theorem tails : ((List.range 16).all fun a => digest (ofw (nlit (a + 1))) 1 != 0#8) = true := by decide +kernel
theorem zero_ne {a b : Nat} (ha : a < 16) (hb : b < 16) (h : a ≠ b) : key (zero (a + 1)) ≠ key (zero (b + 1)) := fun e => by
  have e0 := key_at e 0 (by decide)
  have e1 := key_at e 1 (by decide)
  rw [zlit (a + 1) (by omega) (by omega) _ (by decide), zlit (b + 1) (by omega) (by omega) _ (by decide)] at e0 e1
  have := List.all_eq_true.1 (List.all_eq_true.1 heads a (List.mem_range.2 ha)) b (List.mem_range.2 hb)
  simp [e0, e1, h] at this
theorem zero_nb {a : Nat} (ha : a < 16) : zero (a + 1) 1 ≠ 0#8 := fun e => by
  rw [zlit (a + 1) (by omega) (by omega) _ (by decide)] at e
  have := List.all_eq_true.1 tails a (List.mem_range.2 ha)
  simp [e] at this
theorem zs_eq : ∀ k, k ≤ 16 → zs k = (List.range k).map fun j => (zero (j + 1), zz j)
  | 0, _ => rfl
  | k + 1, h => by
    unfold zs
    rw [zs_eq k (by omega), hs_zz]
    unfold putM
    rw [has_none, List.range_succ, List.map_append]
    · rfl
    · intro p hp
      obtain ⟨j, hj, rfl⟩ := List.mem_map.1 hp
      have hj' : j < k := List.mem_range.1 hj
      exact zero_ne (by omega) (by omega) (by omega)
theorem zs_len : (zs 16).length = 16 := by rw [zs_eq 16 (Nat.le_refl _)]; simp
theorem zs_apart : ∀ k, Apart (zs k)
  | 0 => List.Pairwise.nil
  | k + 1 => apart_put (zs_apart k) _ _
theorem look_zs (k : Nat) (hk : k < 16) : look (zs 16) (zero (k + 1)) = some (zz k) := by
  have h : (zs 16)[k]? = some (zero (k + 1), zz k) := by rw [zs_eq 16 (Nat.le_refl _)]; simp [hk]
  exact look_at (zs_apart 16) h rfl
theorem has_zs (k : Nat) (hk : k < 16) : has (zs 16) (zero (k + 1)) = true := by rw [← look_has, look_zs k hk]; rfl
/-- A digest that is none of the noughts'. -/
def nine : Hx := fun i => if i = 0 then 9#8 else 0#8
theorem nine_none : look (zs 16) nine = none := by
  refine look_none fun p hp e => ?_
  rw [zs_eq 16 (Nat.le_refl _)] at hp
  obtain ⟨j, hj, rfl⟩ := List.mem_map.1 hp
  exact zero_nb (List.mem_range.1 hj) (key_at e 1 (by decide))
theorem nine_has : has (zs 16) nine = false := by rw [← look_has, nine_none]; rfl
end Wt
end Go.Proofs.YtdmffnjbholkkaaDoor
