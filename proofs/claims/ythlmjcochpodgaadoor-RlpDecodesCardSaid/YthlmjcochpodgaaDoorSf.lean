/-
  Reading items: the reader's loop in plain words. Own work.
-/
import Derived.Test.YthlmjcochpodgaaDoorSe
import Derived.Test.YthlmjcochpodgaaDoorRo
import Derived.Test.YthlmjcochpodgaaDoorRn
namespace Go.Proofs.YthlmjcochpodgaaDoor
set_option linter.unusedVariables false
namespace Rl
def glue (acc : Fo) : Rn → Rn
  | .bad p w => .bad p w
  | .ok r => .ok (acc.app r)
theorem glue_nil : ∀ r : Rn, glue .nil r = r
  | .bad _ _ => rfl
  | .ok _ => rfl
theorem glue_glue (a b : Fo) : ∀ r : Rn, glue a (glue b r) = glue (a.app b) r
  | .bad _ _ => rfl
  | .ok r => by show Rn.ok (a.app (b.app r)) = Rn.ok ((a.app b).app r); rw [Fo.app_app]
theorem items_end {b : List Bt} {f i e d : Nat} (h : e ≤ i) : items b (f + 1) i e d = .ok .nil := by unfold items; rw [if_pos h]
theorem items_bad {b : List Bt} {f i e d p : Nat} {w : Int} (h : i < e) (ho : one b f i e d = .bad p w) : items b (f + 1) i e d = .bad p w := by
  unfold items; rw [if_neg (by omega), ho]
theorem items_ok {b : List Bt} {f i e d j : Nat} {l : Bool} {x : List Bt} {k : Fo} (h : i < e) (ho : one b f i e d = .ok l x k j) : items b (f + 1) i e d = glue (.cons l x k .nil) (items b f j e d) := by
  conv => lhs; unfold items
  rw [if_neg (by omega), ho]
  cases hh : items b f j e d <;> simp only [hh] <;> rfl
theorem one_deep {b : List Bt} {f i e d : Nat} (h : 16 ≤ d) : one b (f + 1) i e d = .bad i 13 := by unfold one; rw [if_pos h]
theorem one_bad {b : List Bt} {f i e d : Nat} {w : Int} (h : d < 16) (hh : hd b i e = .bad w) : one b (f + 1) i e d = .bad i w := by unfold one; rw [if_neg (by omega), hh]
theorem one_text {b : List Bt} {f i e d s n : Nat} (h : d < 16) (hh : hd b i e = .ok false s n) : one b (f + 1) i e d = .ok false (slc b (i + s) n) .nil (i + s + n) := by unfold one; rw [if_neg (by omega), hh]
def toOne (j : Nat) : Rn → R1
  | .bad p w => .bad p w
  | .ok k => .ok true [] k j
theorem one_list {b : List Bt} {f i e d s n : Nat} (h : d < 16) (hh : hd b i e = .ok true s n) : one b (f + 1) i e d = toOne (i + s + n) (items b f (i + s) (i + s + n) (d + 1)) := by
  conv => lhs; unfold one
  rw [if_neg (by omega), hh]
  cases h2 : items b f (i + s) (i + s + n) (d + 1) <;> simp only [h2] <;> rfl
/-- A list's head takes a byte at least. -/
theorem hd_skip {b : List Bt} {i e s n : Nat} (h : hd b i e = .ok true s n) : 1 ≤ s := by
  unfold hd hdL at h
  repeat' split at h
  all_goals first
    | (injection h with h1 h2 h3; omega)
    | cases h
theorem one_next {b : List Bt} {f i e d j : Nat} {l : Bool} {x : List Bt} {k : Fo} (hi : i < e) (he : e ≤ b.length) (h : one b f i e d = .ok l x k j) : i < j ∧ j ≤ e :=
  let r := (read_form b f).1 i e d l x k j hi he h
  ⟨r.1, r.2.1⟩
end Rl
end Go.Proofs.YthlmjcochpodgaaDoor
