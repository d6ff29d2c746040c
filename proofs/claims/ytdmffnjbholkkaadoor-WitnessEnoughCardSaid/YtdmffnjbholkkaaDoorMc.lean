/- Merged. Own work. -/
import Derived.Test.YtdmffnjbholkkaaDoorMn
import Derived.Laws.MakeOwn
namespace Go.Proofs.YtdmffnjbholkkaaDoor
open Go.RowKit
set_option linter.unusedVariables false
set_option linter.unusedSimpArgs false
namespace Mk
open Kc
/-- A block that begins with N digests. -/
def Lv (w : World) (q T N : Nat) (f : Nat → Hx) : Prop := ∃ m g, IsTab w q T m g ∧ 32 * N ≤ m ∧ ∀ k j, k < N → j < 32 → g (32 * k + j) = bv (f k j)
theorem Lv.at5 {w : World} {q T N : Nat} {f : Nat → Hx} (h : Lv w q T N f) : At5 w q 0 N f := fun k j hk hj => by
  obtain ⟨m, g, h1, h2, h3⟩ := h
  rw [show 0 + 32 * k + j = 32 * k + j from by omega, h1.cell _ (by omega), h3 k j hk hj]
theorem Lv.below {w w' : World} {q T N : Nat} {f : Nat → Hx} (h : Lv w q T N f) (hb : Below w.heap.size w w') : Lv w' q T N f := by
  obtain ⟨m, g, h1, h2, h3⟩ := h
  exact ⟨m, g, h1.below hb, h2, h3⟩
theorem Lv.there {w : World} {q T N : Nat} {f : Nat → Hx} (h : Lv w q T N f) {k : Nat} (hk : k < N) {p n : Nat} (hp : p = 32 * k) (hn : n = 32) : w.there q p n := by
  obtain ⟨m, g, h1, h2, h3⟩ := h
  subst hp hn
  exact h1.thereAt (32 * k) 32 (by omega)
theorem Lv.set {w : World} {q T N : Nat} {f : Nat → Hx} (h : Lv w q T N f) (k : Nat) (x : Hx) {p : Nat} (hp : p = 32 * k) :
    Lv (w.setCells q p (tab 32 fun i => bv (x i)).toList) q T N fun i => if i = k then x else f i := by
  obtain ⟨m, g, h1, h2, h3⟩ := h
  subst hp
  refine ⟨m, _, IsTab.setCells ((List.range 32).map fun i => bv (x i)) (32 * k) _ _ h1, h2, fun i j hi hj => ?_⟩
  simp only [List.length_map, List.length_range]
  by_cases e : i = k
  · subst e
    rw [if_pos (by omega), if_pos rfl, show 32 * i + j - 32 * i = j from by omega]
    simp [hj]
  · rw [if_neg (by omega), if_neg e]; exact h3 i j hi hj
theorem Lv.keep {w : World} {q T N p o : Nat} {vs : List Value} {f : Nat → Hx} (h : Lv w q T N f) (hn : q ≠ p) : Lv (w.setCells p o vs) q T N f := by
  obtain ⟨m, g, h1, h2, h3⟩ := h
  exact ⟨m, g, IsTab.cellsOther (w := w) hn _ _ _ h1, h2, h3⟩
theorem Lv.rowOther {w : World} {q T N p : Nat} {cs : Array Value} {f : Nat → Hx} (h : Lv w q T N f) (hn : q ≠ p) : Lv (w.setRow p cs) q T N f := by
  obtain ⟨m, g, h1, h2, h3⟩ := h
  exact ⟨m, g, h1.rowOther hn, h2, h3⟩
theorem Lv.cong {w : World} {q T N : Nat} {f g : Nat → Hx} (h : Lv w q T N f) (e : ∀ k, k < N → f k = g k) : Lv w q T N g := by
  obtain ⟨m, c, h1, h2, h3⟩ := h
  exact ⟨m, c, h1, h2, fun k j hk hj => by rw [← e k hk]; exact h3 k j hk hj⟩
theorem Lv.lt {w : World} {q T N : Nat} {f : Nat → Hx} (h : Lv w q T N f) : q < w.heap.size := by obtain ⟨m, c, h1, _⟩ := h; exact h1.lt
/-- A level behind k rounds. -/
def half (n : Nat) (f : Nat → Hx) (z : Hx) (k : Nat) : Nat → Hx := fun m => if m < k then pr (if 2 * m < n then f (2 * m) else z) (if 2 * m + 1 < n then f (2 * m + 1) else z) else f m
structure Ab (W : World) (q T n q4 q5 : Nat) (f : Nat → Hx) (z z' : Hx) (y : World) : Prop where
  lv : Lv y q T n f
  s4 : IsTab y q4 39 32 fun i => bv (z i)
  s5 : IsTab y q5 39 32 fun i => bv (z' i)
  kept : Kept (· = q) W y
  n4 : q4 ≠ q
  n5 : q5 ≠ q
  g4 : W.heap.size ≤ q4
  g5 : W.heap.size ≤ q5
theorem Ab.next {W y y' : World} {q T n q4 q5 : Nat} {f : Nat → Hx} {z z' : Hx} (h : Ab W q T n q4 q5 f z z' y) (hb : Below y.heap.size y y') : Ab W q T n q4 q5 f z z' y' :=
  ⟨h.lv.below hb, h.s4.below hb, h.s5.below hb, h.kept.trans (Kept.ofBelow (S := (· = q)) hb) (fun _ _ h => h), h.n4, h.n5, h.g4, h.g5⟩
theorem Ab.drew {W y : World} {q T n q4 q5 : Nat} {f : Nat → Hx} {z z' : Hx} (h : Ab W q T n q4 q5 f z z' y) : Ab W q T n q4 q5 f z z' y.drew :=
  ⟨h.lv, h.s4, h.s5, h.kept.drew, h.n4, h.n5, h.g4, h.g5⟩
theorem Ab.set {W y : World} {q T n q4 q5 : Nat} {f : Nat → Hx} {z z' : Hx} (h : Ab W q T n q4 q5 f z z' y) (k : Nat) (x : Hx) {p : Nat} (hp : p = 32 * k) : Ab W q T n q4 q5 (fun i => if i = k then x else f i) z z' (y.setCells q p (tab 32 fun i => bv (x i)).toList) :=
  ⟨h.lv.set k x hp, IsTab.cellsOther (w := y) h.n4 _ _ _ h.s4, IsTab.cellsOther (w := y) h.n5 _ _ _ h.s5, keptS_setCells (S := (· = q)) (q := q) rfl _ _ _ h.kept, h.n4, h.n5, h.g4, h.g5⟩
end Mk
end Go.Proofs.YtdmffnjbholkkaaDoor
namespace Go.Proofs.YtdmffnjbholkkaaDoor
open Go.RowKit
set_option linter.unusedVariables false
set_option linter.unusedSimpArgs false
namespace Mk
open Kc
theorem infHs : ∃ i, Tryd.prog.info? 39 = some i ∧ i.zero = some (dv fun _ => 0#8) ∧ i.size = 32 ∧ i.bytes = 32 :=
  ⟨(Tryd.prog.info? 39).get (by kernel_rfl), by kernel_rfl, by kernel_rfl, by kernel_rfl, by kernel_rfl⟩
theorem undHs : Tryd.prog.underlying 56 = some (.slice 39) := by kernel_rfl
theorem zcells : (dv fun _ => 0#8).cells.size = 32 := by show (tab 32 _).size = 32; rw [tab_size]
/-- The state of the climb at height h, but for the path. -/
structure Cb (W : World) (B q8 q6 d n h : Nat) (f : Nat → Hx) (a9 : Option Addr) (c9 : Nat) (y : World) : Prop where
  nz : IsTab y q8 142 544 (hc (nz d))
  lv : (cnt n h = 0 ∧ ((a9 = none ∧ c9 = 0) ∨ ∃ q, a9 = some ⟨q, 0, none⟩)) ∨ ∃ q T, a9 = some ⟨q, 0, none⟩ ∧ Lv y q T (cnt n h) (lev (ext n f) h) ∧ q8 < q ∧ q < B
  hc9 : cnt n h ≤ c9 ∧ c9 ≤ maxLen
  below : Below W.heap.size W y
  sr : IsTab y q6 39 32 fun _ => bv 0#8
  o4 : W.heap.size ≤ q6 ∧ q6 < q8
  o1 : W.heap.size ≤ q8
  o2 : q8 < B
  o3 : B ≤ y.heap.size
/-- The state of the climb at height h. -/
structure Cl (W : World) (B q8 q6 d n i h : Nat) (f : Nat → Hx) (a9 : Option Addr) (c9 : Nat) (V : Value) (y : World) : Prop where
  cb : Cb W B q8 q6 d n h f a9 c9 y
  row : y.ownsRow B 39 32 V h (flat h (sib (ext n f) i))
theorem kept_tab {S : Nat → Prop} {y y' : World} {q T n : Nat} {g : Nat → Value} (h : IsTab y q T n g) (hk : Kept S y y') (hq : ¬ S q) : IsTab y' q T n g := by
  unfold IsTab at *
  rw [hk.block q (Array.getElem?_eq_some_iff.1 h).1 hq]; exact h
theorem Cb.kept {S : Nat → Prop} {W y y' : World} {B q8 q6 d n h : Nat} {f : Nat → Hx} {a9 : Option Addr} {c9 : Nat} (k : Cb W B q8 q6 d n h f a9 c9 y) (hk : Kept S y y') (hS : ∀ j, S j → B ≤ j) : Cb W B q8 q6 d n h f a9 c9 y' := by
  have hs := hk.size
  have h2 := k.o2
  refine ⟨kept_tab k.nz hk (fun e => by have := hS _ e; omega), k.lv.imp_right fun ⟨q, T, h1, ⟨m, g, h2, h3⟩, h4, h5⟩ => ⟨q, T, h1, ⟨m, g, kept_tab h2 hk (fun e => by have := hS _ e; omega), h3⟩, h4, h5⟩, k.hc9, ?_, kept_tab k.sr hk (fun e => by have := hS _ e; have := k.o4; omega), k.o4, k.o1, k.o2, by have := k.o3; omega⟩
  exact ((Kept.ofBelow (S := S) k.below).trans hk (fun _ _ h => h)).below (Nat.le_refl _) (fun j hj e => by have := k.o1; have := hS _ e; omega)
theorem Cb.next {W y y' : World} {B q8 q6 d n h : Nat} {f : Nat → Hx} {a9 : Option Addr} {c9 : Nat} (k : Cb W B q8 q6 d n h f a9 c9 y) (hb : Below y.heap.size y y') : Cb W B q8 q6 d n h f a9 c9 y' :=
  k.kept (S := fun _ => False) (Kept.ofBelow hb) (fun _ h => absurd h id)
theorem Cl.next {W y y' : World} {B q8 q6 d n i h : Nat} {f : Nat → Hx} {a9 : Option Addr} {c9 : Nat} {V : Value} (k : Cl W B q8 q6 d n i h f a9 c9 V y) (hb : Below y.heap.size y y') : Cl W B q8 q6 d n i h f a9 c9 V y' :=
  ⟨k.cb.next hb, (Kept.ofBelow (S := fun _ => False) hb).row k.row (fun _ _ h => h)⟩
theorem Cb.hs {W y : World} {B q8 q6 d n h : Nat} {f : Nat → Hx} {a9 : Option Addr} {c9 : Nat} (k : Cb W B q8 q6 d n h f a9 c9 y) : IsHs y a9 (cnt n h) (lev (ext n f) h) := by
  rcases k.lv with ⟨h1, _⟩ | ⟨q, T, h1, h2, _⟩
  · exact .inl h1
  · exact .inr ⟨q, 0, h1, h2.at5⟩
theorem flat1 (x : Hx) : flat 1 (fun _ => x) = (tab 32 fun i => bv (x i)).toList := by
  unfold flat tab
  simp only [Nat.mul_one]
  exact List.map_congr_left fun i hi => by rw [Nat.mod_eq_of_lt (by simpa using hi)]
theorem flat_step (h : Nat) (g : Nat → Hx) : flat h g ++ flat 1 (fun _ => g h) = flat (h + 1) g := by
  rw [flat_append]
  exact flat_cong fun k hk => by
    split
    · rfl
    · rw [show k = h from by omega]
end Mk
end Go.Proofs.YtdmffnjbholkkaaDoor
/-
  merkle.Root, Path. Own work.
-/
namespace Go.Proofs.YtdmffnjbholkkaaDoor
open Go.RowKit
set_option linter.unusedVariables false
set_option linter.unusedSimpArgs false
namespace Mk
open Kc
/-- What Root answers. -/
def rootOf (d : Int) (n : Nat) (f : Nat → Hx) : Hx := if wrong d n = 0 then und (ext n f) d.toNat 0 else zero 0
end Mk
end Go.Proofs.YtdmffnjbholkkaaDoor
