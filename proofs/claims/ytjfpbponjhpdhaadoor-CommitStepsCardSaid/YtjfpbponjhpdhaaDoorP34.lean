/- Merged of Ur Ec. Own work. -/
import Derived.Test.YtjfpbponjhpdhaaDoorP25
import Derived.Test.YtjfpbponjhpdhaaDoorP19
import Derived.Test.YtjfpbponjhpdhaaDoorP33
namespace Go.Proofs.YtjfpbponjhpdhaaDoor
open Go.RowKit
set_option linter.unusedVariables false
namespace Co
open Kc Mk Vm
theorem us_of_row {w : World} {a : Option Addr} {n c : Nat} {zs : List Int} (h : IsRow .u64 w a n c zs) : ∃ g : Nat → Nat, n ≤ maxLen ∧ IsUs w a n g ∧ ∀ i, g i < 18446744073709551616 := by
  rcases h with ⟨rfl, rfl, _, _⟩ | ⟨x, rfl, hl, hm, hz, hc, hw⟩
  · exact ⟨fun _ => 0, by unfold maxLen; omega, .inl rfl, fun _ => by show (0 : Nat) < _; decide⟩
  have hb : ∀ i, 0 ≤ zs.getD i 0 ∧ zs.getD i 0 ≤ 18446744073709551615 := fun i => by
    rw [List.getD_eq_getElem?_getD]
    cases h : zs[i]? with
    | none => exact ⟨by decide, by decide⟩
    | some z =>
      have h2 := hw z (List.mem_of_getElem? h)
      exact ⟨of_decide_eq_true (Bool.and_eq_true_iff.1 h2).1, of_decide_eq_true (Bool.and_eq_true_iff.1 h2).2⟩
  refine ⟨fun i => (zs.getD i 0).toNat, by omega, ?_, fun i => by have := hb i; show (zs.getD i 0).toNat < _; omega⟩
  rcases Nat.eq_zero_or_pos n with h0 | h0
  · exact .inl h0
  obtain ⟨b, o, spot⟩ := x
  have hspot : spot = none := by
    have h1 := hc 0 (by omega)
    simpa [Addr.add] using World.cell?_spot h1
  subst hspot
  refine .inr ⟨b, o, rfl, fun j hj => ?_⟩
  have h1 := hc j (by omega)
  rw [add_at] at h1
  rw [h1]
  have := (hb j).1
  show some (Value.int .u64 (zs.getD j 0)) = some (.int .u64 (((zs.getD j 0).toNat : Nat) : Int))
  rw [Int.toNat_of_nonneg this]
end Co
end Go.Proofs.YtjfpbponjhpdhaaDoor
namespace Go.Proofs.YtjfpbponjhpdhaaDoor
open Go.RowKit Go.ChangeShapes
set_option linter.unusedVariables false
namespace Vm
open Kc Mk Wt Co
theorem commitSteps_row (a0 : Option Addr) (len0 cap0 : Nat) (a1 : Option Addr) (n1 c1 : Nat) (zs : List Int) (st : Int) {w : World} (w0 : IsRecs [.i64, .i64, .i64, .i64, .i64, .i64, .u64] w a0 len0 cap0) (w1 : IsRow .u64 w a1 n1 c1 zs) (w2 : (Lit.int .i64 st).wf = true) (ht : Laid.KTab w) :
    Calls Tryd.prog 3 #[.slice a0 len0 cap0, .slice a1 n1 c1, .int .i64 st] w fun e w' => e = .returned (.bool true) ∧ Below w.heap.size w w' := by
  obtain ⟨g, h1, hg, hgb⟩ := us_of_row w1
  obtain ⟨hm, h⟩ := recs_ins w0
  rcases h with rfl | ⟨b, o, f, rfl, hlt, hi, hf⟩
  · refine commitSteps_in _ [] (by decide) (fun x hx => by cases hx) a1 n1 c1 g w (fun y hy => (words_zero y a0 cap0).mono ?_) hg hgb h1 st ht
    rintro e w' ⟨he, hw⟩
    subst hw
    exact ⟨_, 0, he, World.ownsRow_nil _ _ _ _, Below.refl _ _⟩
  · refine commitSteps_in _ ((List.range (min len0 8192)).map fun i => wordOf (f i)) (by simp; omega) (fun x hx => ?_) a1 n1 c1 g w (fun y hy => (words_any y b o len0 cap0 f (hi.below hy) (Nat.lt_of_lt_of_le hlt hy.size) (min len0 8192) ⟨by omega, by omega, by omega, hm⟩).mono ?_) hg hgb h1 st ht
    · obtain ⟨i, _, rfl⟩ := List.mem_map.1 hx
      exact hf i
    · rintro e w' ⟨V, he, hw⟩
      refine ⟨V, y.heap.size, he, ?_, hw.below⟩
      have hr := hw.row
      rw [List.map_map]
      simpa [Function.comp_def] using hr
end Vm
end Go.Proofs.YtjfpbponjhpdhaaDoor
