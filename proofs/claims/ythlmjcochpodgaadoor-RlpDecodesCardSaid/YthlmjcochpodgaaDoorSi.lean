/-
  rlp: item. Own work.
-/
import Derived.Test.YthlmjcochpodgaaDoorSf
namespace Go.Proofs.YthlmjcochpodgaaDoor
open Go.ChangeShapes Go.WideShapes Go.Deep Go.RowKit
set_option linter.unusedVariables false
set_option linter.unusedSimpArgs false
namespace Rl
/-- A box of three cells that may be written. -/
structure Box3 (w : World) (q : Nat) (a b c : Value) : Prop where
  k0 : w.cell? ⟨q, 0, none⟩ = some a
  k1 : w.cell? ⟨q, 1, none⟩ = some b
  k2 : w.cell? ⟨q, 2, none⟩ = some c
  f0 : w.frozen? ⟨q, 0, none⟩ = false
  f1 : w.frozen? ⟨q, 1, none⟩ = false
  f2 : w.frozen? ⟨q, 2, none⟩ = false
theorem Box3.keep {w w' : World} {q : Nat} {a b c : Value} (h : Box3 w q a b c) (hb : Below w.heap.size w w') : Box3 w' q a b c :=
  have hl := inHeap h.k0
  ⟨keep1 hb h.k0, keep1 hb h.k1, keep1 hb h.k2, keepF hb hl h.f0, keepF hb hl h.f1, keepF hb hl h.f2⟩
theorem Box3.grown {w w' : World} {row : Option Nat} {q : Nat} {a b c : Value} (h : Box3 w q a b c) (hg : w.grownBy w' row) (hr : row ≠ some q) : Box3 w' q a b c :=
  have hl := inHeap h.k0
  ⟨(grown_cell hg hl hr).trans h.k0, (grown_cell hg hl hr).trans h.k1, (grown_cell hg hl hr).trans h.k2, (grown_frozen hg hl hr).trans h.f0, (grown_frozen hg hl hr).trans h.f1, (grown_frozen hg hl hr).trans h.f2⟩
theorem Box3.new (w : World) (a b c : Value) (t : TypeId) : Box3 (w.alloc (.cells #[a, b, c] t)) w.heap.size a b c := ⟨by simp, by simp, by simp, by simp, by simp, by simp⟩
abbrev put3 (w : World) (q : Nat) (a b c : Value) : World := ((w.setCell ⟨q, 0, none⟩ a).setCell ⟨q, 1, none⟩ b).setCell ⟨q, 2, none⟩ c
theorem Box3.put {w : World} {q : Nat} {a b c : Value} (h : Box3 w q a b c) (a' b' c' : Value) : Box3 (put3 w q a' b' c') q a' b' c' := by
  have c1 : (w.setCell ⟨q, 0, none⟩ a').cell? ⟨q, 1, none⟩ = some b := by rw [World.cell?_setCell_other _ _ _ _ (by simp)]; exact h.k1
  have c2 : ((w.setCell ⟨q, 0, none⟩ a').setCell ⟨q, 1, none⟩ b').cell? ⟨q, 2, none⟩ = some c := by
    rw [World.cell?_setCell_other _ _ _ _ (by simp), World.cell?_setCell_other _ _ _ _ (by simp)]; exact h.k2
  refine ⟨?_, ?_, World.cell?_setCell_same _ _ _ c2, by simpa using h.f0, by simpa using h.f1, by simpa using h.f2⟩
  · rw [World.cell?_setCell_other _ _ _ _ (by simp), World.cell?_setCell_other _ _ _ _ (by simp)]; exact World.cell?_setCell_same _ _ _ h.k0
  · rw [World.cell?_setCell_other _ _ _ _ (by simp)]; exact World.cell?_setCell_same _ _ _ c1
theorem put3_other (w : World) (q : Nat) (a b c : Value) {p o : Nat} (h : p ≠ q) : (put3 w q a b c).cell? ⟨p, o, none⟩ = w.cell? ⟨p, o, none⟩ := by
  rw [World.cell?_setCell_other _ _ _ _ (fun e => h (congrArg Addr.block e).symm), World.cell?_setCell_other _ _ _ _ (fun e => h (congrArg Addr.block e).symm), World.cell?_setCell_other _ _ _ _ (fun e => h (congrArg Addr.block e).symm)]
theorem put3_below {B : Nat} {w0 w : World} {q : Nat} {a b c : Value} (h : Below B w0 w) (hq : B ≤ q) : Below B w0 (put3 w q a b c) := ((h.setCell hq _).setCell hq _).setCell hq _
theorem put3_see {S : Nat → Prop} {w : World} {q : Nat} {a b c : Value} : Keep (see (fun b => S b ∧ b ≠ q) w) (see S (put3 w q a b c)) :=
  keep_see fun p o v h1 h2 => ⟨h1.1, by rw [put3_other _ _ _ _ _ h1.2]; exact h2⟩
theorem ba (w : World) (o : Obj) : Below w.heap.size w (w.alloc o) := (Below.refl _ _).alloc (Nat.le_refl _) _
/-- A fault at a place, in memory that is not older than B. -/
def IsFlt (B : Nat) (w : World) (p : Nat) (k : Int) (v : Value) : Prop := ∃ q, v = .iface 65 (.pointer (some ⟨q, 0, none⟩)) ∧ B ≤ q ∧ w.cell? ⟨q, 0, none⟩ = some (.int .i64 p) ∧ w.cell? ⟨q, 1, none⟩ = some (eN k)
theorem IsFlt.next {B : Nat} {w w' : World} {p : Nat} {k : Int} {v : Value} (h : IsFlt B w p k v) (hb : Below w.heap.size w w') : IsFlt B w' p k v := by
  obtain ⟨q, h1, h2, h3, h4⟩ := h
  exact ⟨q, h1, h2, keep1 hb h3, keep1 hb h4⟩
def zIt : Value := .agg #[.bool false, .slice none 0 0, .slice none 0 0]
/-- What item answers. -/
def itOut (B : Nat) (w : World) : R1 → Ending → Prop
  | .bad p k, e => ∃ v, e = .returned (.tuple #[zIt, .int .i64 0, v]) ∧ IsFlt B w p k v
  | .ok l x k j, e => ∃ a n c a' n' c', e = .returned (.tuple #[.agg #[.bool l, .slice a n c, .slice a' n' c'], .int .i64 j, .nilIface]) ∧ IsB (see (fun b => B ≤ b) w) a n c x ∧ IsK (see (fun b => B ≤ b) w) a' n' c' k
set_option maxHeartbeats 2000000 in
set_option maxRecDepth 100000 in
theorem item_deep (w : World) (V : Value) (i d : Nat) (hd : 16 ≤ d) :
    Calls Tryd.prog 31 #[V, .int .i64 i, .int .i64 d] w fun e w' => (∃ v, e = .returned (.tuple #[zIt, .int .i64 0, v]) ∧ IsFlt w.heap.size w' i 13 v) ∧ Below w.heap.size w w' := by
  have h1 : (16 : Int) ≤ d := by omega
  clear hd
  go_enter Tryd.func31, Tryd.ntmps31
  go_wp2_with (fail)
  refine bodyPost_ret (v := .tuple #[zIt, .int .i64 0, .iface 65 (.pointer (some ⟨w.heap.size + 1, 0, none⟩))]) (by simp [results, Tryd.results31, go_sem, zIt]) rfl ⟨⟨_, rfl, w.heap.size + 1, rfl, by omega, by simp, by simp [eN]⟩, ?_⟩
  exact ((Below.refl _ _).alloc (Nat.le_refl _) _).alloc (by simp) _
/-- The walk behind a bad head. -/
theorem item_bad (w : World) (b o i e c d : Nat) (hd : d < 16) (hi : i < e) (hc : e ≤ c) (k : Int)
    (hh : ∀ y, Below w.heap.size w y → Calls Tryd.prog 43 #[.slice (some ⟨b, o + i, none⟩) (e - i) (c - i)] y fun r w' => (∃ l : Bool, r = .returned (.tuple #[hv l 0 0, eN k])) ∧ Below y.heap.size y w') :
    Calls Tryd.prog 31 #[.slice (some ⟨b, o, none⟩) e c, .int .i64 i, .int .i64 d] w fun r w' => (∃ v, r = .returned (.tuple #[zIt, .int .i64 0, v]) ∧ IsFlt w.heap.size w' i k v) ∧ Below w.heap.size w w' := by
  have h1 : decide ((16 : Int) ≤ d) = false := by simp; omega
  have h2 : (i : Int) ≤ e := by omega
  have h3 : (e : Int) ≤ c := by omega
  have h4 : ¬ c = i := by omega
  have HH := Lib.hid hh
  have HB0 : Hid (Below w.heap.size w (w.alloc (.cells #[.bool false, .slice none 0 0, .slice none 0 0] 25))) := Lib.hid ((Below.refl _ _).alloc (Nat.le_refl _) _)
  clear hd hh
  go_enter Tryd.func31, Tryd.ntmps31
  go_wp2_with (go_at_call 43; (with_reducible refine (HH.out _ HB0.out).mono ?_); rintro r y1 ⟨⟨l, rfl⟩, hb⟩; have H1 := Lib.hid (bl HB0.out hb)
               obtain ⟨k0, k1, k2, f0, f1, f2⟩ := (((Box3.new w (.bool false) (.slice none 0 0) (.slice none 0 0) 25).keep hb).keep (ba y1 (.cells #[.bool l, .int .i64 0, .int .i64 0] 83))).keep (ba _ (.cells #[.int .i64 i, .iface 61 (.int .i64 k)] 67))
               unfold hv eN; clear hb HH)
  have X := (Box3.mk k0 k1 k2 f0 f1 f2).put (.bool false) (.slice none 0 0) (.slice none 0 0)
  have hs := H1.out.size
  refine bodyPost_ret (v := .tuple #[zIt, .int .i64 0, .iface 65 (.pointer (some ⟨y1.heap.size + 1, 0, none⟩))]) (by simp [results, Tryd.results31, go_sem, zIt, X.k0, X.k1, X.k2]) rfl ⟨⟨_, rfl, y1.heap.size + 1, rfl, by omega, ?_, ?_⟩, put3_below ((H1.out.alloc H1.out.size _).alloc (by simp; omega) _) (Nat.le_refl _)⟩
  · rw [put3_other _ _ _ _ _ (by have := inHeap k0; have := H1.out.size; simp at *; omega)]; simp
  · rw [put3_other _ _ _ _ _ (by have := inHeap k0; have := H1.out.size; simp at *; omega)]; simp [eN]
end Rl
end Go.Proofs.YthlmjcochpodgaaDoor
