/-
  What a slice of integers is when it comes in; small lemmas on 'Below'. Own work.
-/
import Derived.WalkKit
import Derived.WalkSmall
import Derived.Deep.Draws
namespace Go.Proofs.YtjfpbponjhpdhaaDoor
open Go.RowKit
def IsRow (k : IntKind) (w : World) (a : Option Addr) (len cap : Nat) (zs : List Int) : Prop :=
  (a = none ∧ len = 0 ∧ cap = 0 ∧ zs = []) ∨
  ∃ x, a = some x ∧ len ≤ cap ∧ cap ≤ maxLen ∧ zs.length = cap ∧ (∀ i, i < zs.length → w.cell? (x.add i) = some (.int k (zs.getD i 0))) ∧ ∀ n ∈ zs, (Lit.int k n).wf = true
def IsBools (w : World) (a : Option Addr) (len cap : Nat) : Prop :=
  (a = none ∧ len = 0 ∧ cap = 0) ∨ ∃ x, a = some x ∧ len ≤ cap ∧ cap ≤ maxLen ∧ ∀ i, i < cap → ∃ z, w.cell? (x.add i) = some (.bool z)
theorem add_at (b off i : Nat) : (⟨b, off, none⟩ : Addr).add i = ⟨b, off + i, none⟩ := by
  cases i with
  | zero => rfl
  | succ n => rfl
theorem bcell {W w1 : World} (hb : Below W.heap.size W w1) : (∀ b o, b < W.heap.size → w1.cell? ⟨b, o, none⟩ = W.cell? ⟨b, o, none⟩) ∧ (∀ b o, b < W.heap.size → w1.frozen? ⟨b, o, none⟩ = W.frozen? ⟨b, o, none⟩) :=
  ⟨fun _ _ h => hb.cell h, fun _ _ h => hb.frozen h⟩
theorem bsize {W w1 : World} (hb : Below W.heap.size W w1) : W.heap.size ≤ w1.heap.size := hb.size
/-- What was done behind new blocks of the call's own. -/
theorem blo {B : Nat} {a w w' : World} (h : Below B a w) (h2 : Below w.heap.size w w') (hs : B ≤ w.heap.size) : Below B a w' := h.trans (h2.mono hs)
theorem bl {a w w' : World} (h : Below a.heap.size a w) (h2 : Below w.heap.size w w') : Below a.heap.size a w' := h.trans (h2.mono h.size)
theorem bldrew {a w w' : World} (h : Below a.heap.size a w) (h2 : Below w.drew.heap.size w.drew w') : Below a.heap.size a w' := bl h.drew h2
theorem blx {a v w w' : World} (h : Below a.heap.size a v) (hv : w.heap = v.heap ∧ w.os = v.os ∧ w.tape = v.tape ∧ w.output = v.output) (h2 : Below w.heap.size w w') : Below a.heap.size a w' :=
  ⟨h2.os.trans (hv.2.1.trans h.os), h2.tape.trans (hv.2.2.1.trans h.tape), h2.output.trans (hv.2.2.2.trans h.output), by have := h.size; have := h2.size; rw [hv.1] at this; omega, fun k hk => by rw [h2.block k (by rw [hv.1]; have := h.size; omega), hv.1]; exact h.block k hk⟩
theorem blo0 {B : Nat} {a w w' : World} (h : Below B a w) (h2 : Below w.heap.size w w') (hs : B ≤ w.heap.size) : Below B a w' := h.trans (h2.mono hs)
theorem blo1 {B : Nat} {a w w' : World} {o : Obj} (h : Below B a w) (h2 : Below (w.alloc o).heap.size (w.alloc o) w') (hs : B ≤ w.heap.size) : Below B a w' := (h.alloc hs _).trans (h2.mono (by simp; omega))
theorem blo2 {B : Nat} {a w w' : World} {o p : Obj} (h : Below B a w) (h2 : Below ((w.alloc o).alloc p).heap.size ((w.alloc o).alloc p) w') (hs : B ≤ w.heap.size) : Below B a w' := blo1 (h.alloc hs _) h2 (by simp; omega)
theorem blo3 {B : Nat} {a w w' : World} {o p q : Obj} (h : Below B a w) (h2 : Below (((w.alloc o).alloc p).alloc q).heap.size (((w.alloc o).alloc p).alloc q) w') (hs : B ≤ w.heap.size) : Below B a w' := blo2 (h.alloc hs _) h2 (by simp; omega)
/-- Two cells of a block. -/
theorem keep1 {W w1 : World} {b o : Nat} {x : Value} (hb : Below W.heap.size W w1) (h : W.cell? ⟨b, o, none⟩ = some x) : w1.cell? ⟨b, o, none⟩ = some x := by
  have hl : b < W.heap.size := by
    rcases Nat.lt_or_ge b W.heap.size with h1 | h1
    · exact h1
    · simp [World.cell?, Array.getElem?_eq_none h1] at h
  rw [hb.cell (p := ⟨b, o, none⟩) hl]; exact h
theorem keepF {W w1 : World} {b o : Nat} (hb : Below W.heap.size W w1) (hl : b < W.heap.size) (h : W.frozen? ⟨b, o, none⟩ = false) : w1.frozen? ⟨b, o, none⟩ = false := by
  rw [hb.frozen (p := ⟨b, o, none⟩) hl]; exact h
theorem pair1 (w : World) (x y u v : Value) (s t : TypeId) : ((w.alloc (.cells #[x, y] s)).alloc (.cells #[u, v] t)).cell? ⟨w.heap.size, 0, none⟩ = some x ∧ ((w.alloc (.cells #[x, y] s)).alloc (.cells #[u, v] t)).cell? ⟨w.heap.size, 1, none⟩ = some y ∧ ((w.alloc (.cells #[x, y] s)).alloc (.cells #[u, v] t)).cell? ⟨w.heap.size + 1, 0, none⟩ = some u ∧ ((w.alloc (.cells #[x, y] s)).alloc (.cells #[u, v] t)).cell? ⟨w.heap.size + 1, 1, none⟩ = some v := by simp
theorem inHeap {w : World} {b o : Nat} {x : Value} (h : w.cell? ⟨b, o, none⟩ = some x) : b < w.heap.size := by
  rcases Nat.lt_or_ge b w.heap.size with h1 | h1
  · exact h1
  · simp [World.cell?, Array.getElem?_eq_none h1] at h
/-- A pair of cells written, then a new block. -/
theorem setTwo {w : World} {q : Nat} {a b V N : Value} (o : Obj) (h0 : w.cell? ⟨q, 0, none⟩ = some a) (h1 : w.cell? ⟨q, 1, none⟩ = some b) (f0 : w.frozen? ⟨q, 0, none⟩ = false) (f1 : w.frozen? ⟨q, 1, none⟩ = false) :
    (((w.setCell ⟨q, 0, none⟩ V).setCell ⟨q, 1, none⟩ N).alloc o).cell? ⟨q, 0, none⟩ = some V ∧ (((w.setCell ⟨q, 0, none⟩ V).setCell ⟨q, 1, none⟩ N).alloc o).cell? ⟨q, 1, none⟩ = some N ∧
    (((w.setCell ⟨q, 0, none⟩ V).setCell ⟨q, 1, none⟩ N).alloc o).frozen? ⟨q, 0, none⟩ = false ∧ (((w.setCell ⟨q, 0, none⟩ V).setCell ⟨q, 1, none⟩ N).alloc o).frozen? ⟨q, 1, none⟩ = false ∧
    ∀ p i x, p ≠ q → w.cell? ⟨p, i, none⟩ = some x → (((w.setCell ⟨q, 0, none⟩ V).setCell ⟨q, 1, none⟩ N).alloc o).cell? ⟨p, i, none⟩ = some x := by
  have hq := inHeap h0
  have e1 : (w.setCell ⟨q, 0, none⟩ V).cell? ⟨q, 1, none⟩ = some b := by rw [World.cell?_setCell_other _ _ _ _ (by simp)]; exact h1
  refine ⟨?_, ?_, ?_, ?_, ?_⟩
  · rw [World.cell?_alloc_lt _ _ _ (by simpa using hq), World.cell?_setCell_other _ _ _ _ (by simp)]; exact World.cell?_setCell_same _ _ _ h0
  · rw [World.cell?_alloc_lt _ _ _ (by simpa using hq)]; exact World.cell?_setCell_same _ _ _ e1
  · rw [World.frozen?_alloc_old _ _ _ (by simp; omega)]; simpa using f0
  · rw [World.frozen?_alloc_old _ _ _ (by simp; omega)]; simpa using f1
  · intro p i x hp h
    have hl := inHeap h
    rw [World.cell?_alloc_lt _ _ _ (by simpa using hl), World.cell?_setCell_other _ _ _ _ (fun e' => hp (congrArg Addr.block e').symm), World.cell?_setCell_other _ _ _ _ (fun e' => hp (congrArg Addr.block e').symm)]; exact h
end Go.Proofs.YtjfpbponjhpdhaaDoor
