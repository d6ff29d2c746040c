/-
  mootref02.Permute. Own work.
-/
import Derived.Test.YtnfcjangminhoaaDoorRperm
import Derived.Test.YtnfcjangminhoaaDoorKadd
import Derived.Test.YtnfcjangminhoaaDoorTks
namespace Go.Proofs.YtnfcjangminhoaaDoor
open Go.RowKit
set_option linter.unusedVariables false
namespace Kc
/-- The slice of the constants, and that of the turns. -/
def Two (w : World) (V : Value) (qt : Nat) : Prop := ∃ qc cap, V = .slice (some ⟨qc, 0, none⟩) 24 cap ∧ (∀ i, i < 24 → w.cell? ⟨qc, i, none⟩ = some (wv (consts.getD i 0#64))) ∧ ∀ j, j < 25 → w.cell? ⟨qt, j, none⟩ = some (tv (turns.getD j 0))
theorem Two.below {w w' : World} {V : Value} {qt : Nat} (h : Two w V qt) (hb : Below w.heap.size w w') : Two w' V qt := by
  obtain ⟨qc, cap, h1, h2, h3⟩ := h
  exact ⟨qc, cap, h1, fun i hi => keep1 hb (h2 i hi), fun j hj => keep1 hb (h3 j hj)⟩
theorem owns_cells {w : World} {q : Nat} {V : Value} (h : w.ownsRow q 74 1 V 24 (consts.map wv)) : ∃ qc cap, V = .slice (some ⟨qc, 0, none⟩) 24 cap ∧ ∀ i, i < 24 → w.cell? ⟨qc, i, none⟩ = some (wv (consts.getD i 0#64)) := by
  rcases ownsRow_forms h with ⟨_, h0⟩ | ⟨g, cap, rfl, _, _, _⟩
  · cases h0
  · refine ⟨g, cap, rfl, fun i hi => ?_⟩
    have hl : consts.length = 24 := rfl
    have := h.cells (g := g) rfl i (wv (consts.getD i 0#64)) (by simp [List.getElem?_map, List.getElem?_eq_getElem (show i < consts.length from by omega)])
    rw [add_at, Nat.zero_add] at this
    exact this
theorem permute_two (a : Nat → Wd64) (V : Value) (qt : Nat) (w : World) (h : Two w V qt) :
    Calls Tryd.prog 47 #[.agg (words a), V, .slice (some ⟨qt, 0, none⟩) 25 25] w fun e w' => e = .returned (.agg (words (perm a))) ∧ Below w.heap.size w w' := by
  obtain ⟨qc, cap, rfl, h1, h2⟩ := h
  exact permute_walk a qc qt cap w h1 h2
def ConsAt (w : World) (V : Value) : Prop := ∃ qc cap, V = .slice (some ⟨qc, 0, none⟩) 24 cap ∧ ∀ i, i < 24 → w.cell? ⟨qc, i, none⟩ = some (wv (consts.getD i 0#64))
def TurnAt (w : World) (V : Value) : Prop := ∃ qt, V = .slice (some ⟨qt, 0, none⟩) 25 25 ∧ ∀ j, j < 25 → w.cell? ⟨qt, j, none⟩ = some (tv (turns.getD j 0))
theorem ConsAt.below {w w' : World} {V : Value} (hb : Below w.heap.size w w') (h : ConsAt w V) : ConsAt w' V := by
  obtain ⟨qc, cap, h1, h2⟩ := h
  exact ⟨qc, cap, h1, fun i hi => keep1 hb (h2 i hi)⟩
theorem TurnAt.below {w w' : World} {V : Value} (hb : Below w.heap.size w w') (h : TurnAt w V) : TurnAt w' V := by
  obtain ⟨qt, h1, h2⟩ := h
  exact ⟨qt, h1, fun i hi => keep1 hb (h2 i hi)⟩
theorem cons_call (w : World) : Calls Tryd.prog 45 #[] w fun e w' => ∃ V, e = .returned V ∧ Hid (ConsAt w' V) ∧ Below w.heap.size w w' :=
  (constants_walk w).mono fun e w' ⟨V, h1, h2, h3⟩ => ⟨V, h1, Lib.hid (owns_cells h2), h3⟩
theorem turn_call (w : World) : Calls Tryd.prog 46 #[] w fun e w' => ∃ V, e = .returned V ∧ Hid (TurnAt w' V) ∧ Below w.heap.size w w' :=
  (turns_walk w).mono fun e w' ⟨h1, h2, h3⟩ => ⟨_, h1, Lib.hid ⟨_, rfl, fun j hj => h2.cell j hj⟩, h3⟩
theorem perm_call (a : Nat → Wd64) (V T : Value) (w : World) (h : ConsAt w V) (k : TurnAt w T) :
    Calls Tryd.prog 47 #[.agg (words a), V, T] w fun e w' => e = .returned (.agg (words (perm a))) ∧ Below w.heap.size w w' := by
  obtain ⟨qc, cap, rfl, h1⟩ := h
  obtain ⟨qt, rfl, h2⟩ := k
  exact permute_walk a qc qt cap w h1 h2
/-- A world with the argument's block and the result's. -/
def Rp (W : World) (q0 q1 : Nat) (a : Nat → Wd64) (y : World) : Prop := IsTab y q0 75 25 (fun i => wv (a i)) ∧ (∃ g, IsTab y q1 75 25 g) ∧ Below W.heap.size W y ∧ W.heap.size ≤ q1 ∧ q0 ≠ q1
theorem Rp.next {W : World} {q0 q1 : Nat} {a : Nat → Wd64} {y y' : World} (h : Rp W q0 q1 a y) (hb : Below y.heap.size y y') : Rp W q0 q1 a y' :=
  ⟨IsTab.below h.1 hb, by obtain ⟨g, hg⟩ := h.2.1; exact ⟨g, IsTab.below hg hb⟩, bl h.2.2.1 hb, h.2.2.2⟩
end Kc
end Go.Proofs.YtnfcjangminhoaaDoor
