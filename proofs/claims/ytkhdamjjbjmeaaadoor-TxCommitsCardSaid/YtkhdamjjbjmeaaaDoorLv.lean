/-
  Blocks of digests. Own work.
-/
import Derived.Test.YtkhdamjjbjmeaaaDoorMs
namespace Go.Proofs.YtkhdamjjbjmeaaaDoor
open Go.RowKit
set_option linter.unusedVariables false
set_option linter.unusedSimpArgs false
namespace Mk
open Kc
def hc (f : Nat → Hx) : Nat → Value := fun i => bv (f (i / 32) (i % 32))
/-- A block of an array of digests holds them one behind the other. -/
theorem at5_of {w : World} {q T n m : Nat} {f : Nat → Hx} (h : IsTab w q T m (hc f)) (hm : 32 * n ≤ m) : At5 w q 0 n f := fun k j hk hj => by
  rw [show 0 + 32 * k + j = 32 * k + j from by omega, h.cell (32 * k + j) (by omega)]
  unfold hc
  rw [show (32 * k + j) / 32 = k from by omega, show (32 * k + j) % 32 = j from by omega]
theorem below_setCells {B : Nat} {W : World} {q : Nat} (hq : B ≤ q) : ∀ (vs : List Value) (o : Nat) (w : World), Below B W w → Below B W (w.setCells q o vs)
  | [], _, w, h => h
  | v :: r, o, w, h => below_setCells hq r (o + 1) _ (h.setCell hq v)
theorem IsTab.cellsOther {w : World} {q p T n : Nat} {g : Nat → Value} (hn : q ≠ p) : ∀ (vs : List Value) (o : Nat) (w : World), IsTab w q T n g → IsTab (w.setCells p o vs) q T n g
  | [], _, w, h => h
  | v :: r, o, w, h => IsTab.cellsOther (w := w) hn r (o + 1) _ (h.keep hn)
theorem pair_dv (x y : Hx) (w : World) (ht : Laid.KTab w) : Calls Tryd.prog 11 #[dv x, dv y] w fun e w' => e = .returned (dv (pr x y)) ∧ Below w.heap.size w w' := pair_walk permIs x y w ht
/-- A block that begins with N digests. -/
def Lv (w : World) (q T N : Nat) (f : Nat → Hx) : Prop := ∃ m g, IsTab w q T m g ∧ 32 * N ≤ m ∧ ∀ k j, k < N → j < 32 → g (32 * k + j) = bv (f k j)
theorem Lv.at5 {w : World} {q T N : Nat} {f : Nat → Hx} (h : Lv w q T N f) : At5 w q 0 N f := fun k j hk hj => by
  obtain ⟨m, g, h1, h2, h3⟩ := h
  rw [show 0 + 32 * k + j = 32 * k + j from by omega, h1.cell _ (by omega), h3 k j hk hj]
theorem Lv.below {w w' : World} {q T N : Nat} {f : Nat → Hx} (h : Lv w q T N f) (hb : Below w.heap.size w w') : Lv w' q T N f := by
  obtain ⟨m, g, h1, h2, h3⟩ := h
  exact ⟨m, g, h1.below hb, h2, h3⟩
theorem Lv.there {w : World} {q T N : Nat} {f : Nat → Hx} (h : Lv w q T N f) {k : Nat} (hk : k < N) {p n : Nat} (hp : p = 32 * k) (hn : n = 32) : w.there q p n := by
  obtain ⟨m, g, h1, h2, h3⟩ := h
  subst hp hn
  exact h1.thereAt (32 * k) 32 (by omega)
theorem Lv.set {w : World} {q T N : Nat} {f : Nat → Hx} (h : Lv w q T N f) (k : Nat) (x : Hx) {p : Nat} (hp : p = 32 * k) :
    Lv (w.setCells q p (tab 32 fun i => bv (x i)).toList) q T N fun i => if i = k then x else f i := by
  obtain ⟨m, g, h1, h2, h3⟩ := h
  subst hp
  refine ⟨m, _, IsTab.setCells ((List.range 32).map fun i => bv (x i)) (32 * k) _ _ h1, h2, fun i j hi hj => ?_⟩
  simp only [List.length_map, List.length_range]
  by_cases e : i = k
  · subst e
    rw [if_pos (by omega), if_pos rfl, show 32 * i + j - 32 * i = j from by omega]
    simp [hj]
  · rw [if_neg (by omega), if_neg e]; exact h3 i j hi hj
theorem Lv.keep {w : World} {q T N p o : Nat} {vs : List Value} {f : Nat → Hx} (h : Lv w q T N f) (hn : q ≠ p) : Lv (w.setCells p o vs) q T N f := by
  obtain ⟨m, g, h1, h2, h3⟩ := h
  exact ⟨m, g, IsTab.cellsOther (w := w) hn _ _ _ h1, h2, h3⟩
theorem Lv.rowOther {w : World} {q T N p : Nat} {cs : Array Value} {f : Nat → Hx} (h : Lv w q T N f) (hn : q ≠ p) : Lv (w.setRow p cs) q T N f := by
  obtain ⟨m, g, h1, h2, h3⟩ := h
  exact ⟨m, g, h1.rowOther hn, h2, h3⟩
theorem Lv.cong {w : World} {q T N : Nat} {f g : Nat → Hx} (h : Lv w q T N f) (e : ∀ k, k < N → f k = g k) : Lv w q T N g := by
  obtain ⟨m, c, h1, h2, h3⟩ := h
  exact ⟨m, c, h1, h2, fun k j hk hj => by rw [← e k hk]; exact h3 k j hk hj⟩
theorem Lv.less {w : World} {q T N M : Nat} {f : Nat → Hx} (h : Lv w q T N f) (hM : M ≤ N) : Lv w q T M f := by
  obtain ⟨m, c, h1, h2, h3⟩ := h
  exact ⟨m, c, h1, by omega, fun k j hk hj => h3 k j (by omega) hj⟩
theorem Lv.lt {w : World} {q T N : Nat} {f : Nat → Hx} (h : Lv w q T N f) : q < w.heap.size := by obtain ⟨m, c, h1, _⟩ := h; exact h1.lt
theorem load32h {y : World} {q : Nat} {x : Hx} (h : IsTab y q 24 32 fun i => bv (x i)) : (Instr.loadAt 24 (.pointer (some ⟨q, 0, none⟩))).run Tryd.prog y = .ok (dv x) y :=
  loadH (at5_of (n := 1) (f := fun _ => x) (m := 32) (h.cong fun i hi => by unfold hc; rw [show i % 32 = i from by omega]) (by omega)) (k := 0) (by omega) rfl
end Mk
end Go.Proofs.YtkhdamjjbjmeaaaDoor
