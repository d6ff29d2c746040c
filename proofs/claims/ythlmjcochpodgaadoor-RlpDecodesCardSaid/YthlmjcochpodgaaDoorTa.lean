/-
  mootref03.Reader: its box, fail. Own work.
-/
import Derived.Test.YthlmjcochpodgaaDoorLe
namespace Go.Proofs.YthlmjcochpodgaaDoor
open Go.ChangeShapes Go.WideShapes Go.Deep Go.RowKit
set_option linter.unusedVariables false
set_option linter.unusedSimpArgs false
namespace Rl
/-- A box of four cells that may be written. -/
structure Box4 (w : World) (q : Nat) (a b c d : Value) : Prop where
  k0 : w.cell? ⟨q, 0, none⟩ = some a
  k1 : w.cell? ⟨q, 1, none⟩ = some b
  k2 : w.cell? ⟨q, 2, none⟩ = some c
  k3 : w.cell? ⟨q, 3, none⟩ = some d
  f0 : w.frozen? ⟨q, 0, none⟩ = false
  f1 : w.frozen? ⟨q, 1, none⟩ = false
  f2 : w.frozen? ⟨q, 2, none⟩ = false
  f3 : w.frozen? ⟨q, 3, none⟩ = false
theorem Box4.keep {w w' : World} {q : Nat} {a b c d : Value} (h : Box4 w q a b c d) (hb : Below w.heap.size w w') : Box4 w' q a b c d :=
  have hl := inHeap h.k0
  ⟨keep1 hb h.k0, keep1 hb h.k1, keep1 hb h.k2, keep1 hb h.k3, keepF hb hl h.f0, keepF hb hl h.f1, keepF hb hl h.f2, keepF hb hl h.f3⟩
theorem Box4.grown {w w' : World} {row : Option Nat} {q : Nat} {a b c d : Value} (h : Box4 w q a b c d) (hg : w.grownBy w' row) (hr : row ≠ some q) : Box4 w' q a b c d :=
  have hl := inHeap h.k0
  ⟨(grown_cell hg hl hr).trans h.k0, (grown_cell hg hl hr).trans h.k1, (grown_cell hg hl hr).trans h.k2, (grown_cell hg hl hr).trans h.k3, (grown_frozen hg hl hr).trans h.f0, (grown_frozen hg hl hr).trans h.f1, (grown_frozen hg hl hr).trans h.f2, (grown_frozen hg hl hr).trans h.f3⟩
theorem Box4.new (w : World) (a b c d : Value) (t : TypeId) : Box4 (w.alloc (.cells #[a, b, c, d] t)) w.heap.size a b c d := ⟨by simp, by simp, by simp, by simp, by simp, by simp, by simp, by simp⟩
theorem Box4.lt {w : World} {q : Nat} {a b c d : Value} (h : Box4 w q a b c d) : q < w.heap.size := inHeap h.k0
theorem Box4.kept {S : Nat → Prop} {w w' : World} {q : Nat} {a b c d : Value} (h : Box4 w q a b c d) (hk : Kept S w w') (hn : ¬ S q) : Box4 w' q a b c d :=
  ⟨hk.cell hn h.k0, hk.cell hn h.k1, hk.cell hn h.k2, hk.cell hn h.k3, (hk.frozen hn h.lt).trans h.f0, (hk.frozen hn h.lt).trans h.f1, (hk.frozen hn h.lt).trans h.f2, (hk.frozen hn h.lt).trans h.f3⟩
/-- The place is written. -/
theorem Box4.put1 {w : World} {q : Nat} {a b c d : Value} (h : Box4 w q a b c d) (b' : Value) : Box4 (w.setCell ⟨q, 1, none⟩ b') q a b' c d :=
  ⟨by rw [World.cell?_setCell_other _ _ _ _ (by simp)]; exact h.k0, World.cell?_setCell_same _ _ _ h.k1, by rw [World.cell?_setCell_other _ _ _ _ (by simp)]; exact h.k2, by rw [World.cell?_setCell_other _ _ _ _ (by simp)]; exact h.k3,
    by simpa using h.f0, by simpa using h.f1, by simpa using h.f2, by simpa using h.f3⟩
theorem Box4.put2 {w : World} {q : Nat} {a b c d : Value} (h : Box4 w q a b c d) (b' : Value) : Box4 (w.setCell ⟨q, 2, none⟩ b') q a b b' d :=
  ⟨by rw [World.cell?_setCell_other _ _ _ _ (by simp)]; exact h.k0, by rw [World.cell?_setCell_other _ _ _ _ (by simp)]; exact h.k1, World.cell?_setCell_same _ _ _ h.k2, by rw [World.cell?_setCell_other _ _ _ _ (by simp)]; exact h.k3,
    by simpa using h.f0, by simpa using h.f1, by simpa using h.f2, by simpa using h.f3⟩
theorem Box4.put3 {w : World} {q : Nat} {a b c d : Value} (h : Box4 w q a b c d) (b' : Value) : Box4 (w.setCell ⟨q, 3, none⟩ b') q a b c b' :=
  ⟨by rw [World.cell?_setCell_other _ _ _ _ (by simp)]; exact h.k0, by rw [World.cell?_setCell_other _ _ _ _ (by simp)]; exact h.k1, by rw [World.cell?_setCell_other _ _ _ _ (by simp)]; exact h.k2, World.cell?_setCell_same _ _ _ h.k3,
    by simpa using h.f0, by simpa using h.f1, by simpa using h.f2, by simpa using h.f3⟩
/-- Writing another block's three cells. -/
theorem Box4.put_other {w : World} {q p : Nat} {a b c d : Value} (h : Box4 w q a b c d) (hp : q ≠ p) (a' b' c' : Value) : Box4 (Rl.put3 w p a' b' c') q a b c d :=
  ⟨(put3_other _ _ _ _ _ hp).trans h.k0, (put3_other _ _ _ _ _ hp).trans h.k1, (put3_other _ _ _ _ _ hp).trans h.k2, (put3_other _ _ _ _ _ hp).trans h.k3, by simpa [Rl.put3] using h.f0, by simpa [Rl.put3] using h.f1, by simpa [Rl.put3] using h.f2, by simpa [Rl.put3] using h.f3⟩
theorem Box3.other {w : World} {q p o : Nat} {a b c : Value} (h : Box3 w q a b c) (hp : p ≠ q) (u : Value) : Box3 (w.setCell ⟨p, o, none⟩ u) q a b c :=
  ⟨by rw [World.cell?_setCell_other _ _ _ _ (fun e => hp (congrArg Addr.block e))]; exact h.k0, by rw [World.cell?_setCell_other _ _ _ _ (fun e => hp (congrArg Addr.block e))]; exact h.k1,
    by rw [World.cell?_setCell_other _ _ _ _ (fun e => hp (congrArg Addr.block e))]; exact h.k2, by simpa using h.f0, by simpa using h.f1, by simpa using h.f2⟩
theorem Box3.kept {S : Nat → Prop} {w w' : World} {q : Nat} {a b c : Value} (h : Box3 w q a b c) (hk : Kept S w w') (hn : ¬ S q) : Box3 w' q a b c :=
  have hl := inHeap h.k0
  ⟨hk.cell hn h.k0, hk.cell hn h.k1, hk.cell hn h.k2, (hk.frozen hn hl).trans h.f0, (hk.frozen hn hl).trans h.f1, (hk.frozen hn hl).trans h.f2⟩
theorem kept_put3 {S : Nat → Prop} {a b : World} {q : Nat} (h : Kept S a b) (hq : S q ∨ a.heap.size ≤ q) (x y z : Value) : Kept S a (Rl.put3 b q x y z) :=
  have h1 := h.setCell (p := ⟨q, 0, none⟩) hq x
  have h2 := h1.setCell (p := ⟨q, 1, none⟩) hq y
  h2.setCell (p := ⟨q, 2, none⟩) hq z
set_option maxRecDepth 100000 in
/-- fail, while nothing is wrong yet. -/
theorem rfail_walk (w : World) (q : Nat) (V A D : Value) (p : Nat) (k : Int) (hX : Box4 w q V A (.int .i64 0) D) :
    Calls Tryd.prog 39 #[.pointer (some ⟨q, 0, none⟩), .int .i64 p, .int .i64 k] w fun e w' => e = .returned zIt ∧ Kept (fun b => b = q) w w' ∧ Box4 w' q V A (.int .i64 k) (.int .i64 p) := by
  have HX := Lib.hid hX
  have hl := hX.lt
  obtain ⟨k0, k1, k2, k3, f0, f1, f2, f3⟩ := hX.keep (ba w (.cells #[.bool false, .slice none 0 0, .slice none 0 0] 25))
  have hne : ¬ q = w.heap.size := by omega
  have hne2 : ¬ w.heap.size = q := by omega
  have HL := Lib.hid hl
  clear hl hX
  go_enter Tryd.func39, Tryd.ntmps39
  go_wp2_with (fail)
  have X := (((Box3.new w (.bool false) (.slice none 0 0) (.slice none 0 0) 25).other (o := 2) hne (.int .i64 k)).other (o := 3) hne (.int .i64 p)).put (.bool false) (.slice none 0 0) (.slice none 0 0)
  have Z := (((HX.out.keep (ba w (.cells #[.bool false, .slice none 0 0, .slice none 0 0] 25))).put2 (.int .i64 k)).put3 (.int .i64 p)).put_other hne (.bool false) (.slice none 0 0) (.slice none 0 0)
  refine bodyPost_ret (v := zIt) (by simp [results, Tryd.results39, go_sem, zIt, X.k0, X.k1, X.k2]) rfl ⟨rfl, ?_, Z⟩
  have a1 := (Kept.refl (fun b => b = q) w).alloc (.cells #[.bool false, .slice none 0 0, .slice none 0 0] 25)
  have a2 := a1.setCell (p := ⟨q, 2, none⟩) (.inl rfl) (.int .i64 k)
  have a3 := a2.setCell (p := ⟨q, 3, none⟩) (.inl rfl) (.int .i64 p)
  exact kept_put3 a3 (.inr (Nat.le_refl _)) _ _ _
end Rl
end Go.Proofs.YthlmjcochpodgaaDoor
