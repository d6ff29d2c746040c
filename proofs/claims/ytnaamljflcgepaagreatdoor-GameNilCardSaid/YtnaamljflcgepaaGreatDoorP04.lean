/- Merged of R1 R2 Kperm Pis Ms Ma Ord Flt Mn Mb Mc Mf Arr Mj. Own work. -/
import Derived.Test.YtnaamljflcgepaaGreatDoorP03
import Derived.Test.YtnaamljflcgepaaGreatDoorP01
import Derived.IntWalk
import Derived.WalkSmall
import Derived.Below
import Derived.RegionTactic
import Derived.BigRegion
import Derived.StillTailTactics
import Derived.Laws.AppendOwnNone
import Derived.BigQuiet
import Derived.Deep.QuietTactic
import Derived.Outline
import Derived.Laws.MakeOwn
import Derived.OpenShut
import Derived.WideShapes
import Derived.Deep.Slices
import Derived.Deep.Fields
import Derived.ChangeSame
import Derived.SizedLaws
namespace Go.Proofs.YtnaamljflcgepaaGreatDoor
open Go.RowKit
set_option linter.unusedVariables false
namespace Kc
def tv (n : Nat) : Value := .int .i64 n
end Kc
end Go.Proofs.YtnaamljflcgepaaGreatDoor
namespace Go.Proofs.YtnaamljflcgepaaGreatDoor
open Go.RowKit
set_option linter.unusedVariables false
namespace Kc
end Kc
end Go.Proofs.YtnaamljflcgepaaGreatDoor
namespace Go.Proofs.YtnaamljflcgepaaGreatDoor
end Go.Proofs.YtnaamljflcgepaaGreatDoor
namespace Go.Proofs.YtnaamljflcgepaaGreatDoor
open Go.RowKit
set_option linter.unusedVariables false
namespace Kc
structure Pf (W : World) (q0 qr q8 q9 qc qt : Nat) (a b c : Nat → Wd64) (y : World) : Prop where
  sa : IsTab y q0 185 25 fun i => wv (a i)
  sr : IsTab y qr 185 25 fun _ => wv 0#64
  sb : IsTab y q8 185 25 fun i => wv (b i)
  sc : IsTab y q9 185 25 fun i => wv (c i)
  cons : ∀ i, i < 24 → y.cell? ⟨qc, i, none⟩ = some (wv (consts.getD i 0#64))
  turn : ∀ j, j < 25 → y.cell? ⟨qt, j, none⟩ = some (tv (turns.getD j 0))
  lc : qc < W.heap.size
  lt : qt < W.heap.size
  g0 : W.heap.size ≤ q0
  o1 : q0 < qr
  o2 : qr < q8
  o3 : q8 < q9
  below : Below W.heap.size W y
namespace Pf
variable {W : World} {q0 qr q8 q9 qc qt : Nat} {a b c : Nat → Wd64} {y : World}
theorem drew (h : Pf W q0 qr q8 q9 qc qt a b c y) : Pf W q0 qr q8 q9 qc qt a b c y.drew := ⟨h.sa, h.sr, h.sb, h.sc, h.cons, h.turn, h.lc, h.lt, h.g0, h.o1, h.o2, h.o3, h.below.drew⟩
end Pf
end Kc
end Go.Proofs.YtnaamljflcgepaaGreatDoor
namespace Go.Proofs.YtnaamljflcgepaaGreatDoor
open Go.RowKit
set_option linter.unusedVariables false
namespace Kc
end Kc
end Go.Proofs.YtnaamljflcgepaaGreatDoor
namespace Go.Proofs.YtnaamljflcgepaaGreatDoor
open Go.RowKit
set_option linter.unusedVariables false
namespace Kc
end Kc
end Go.Proofs.YtnaamljflcgepaaGreatDoor
namespace Go.Proofs.YtnaamljflcgepaaGreatDoor
open Go.RowKit
set_option linter.unusedVariables false
namespace Kc
structure Pa (W : World) (q0 qr qc qt : Nat) (a : Nat → Wd64) (y : World) : Prop where
  sa : IsTab y q0 185 25 fun i => wv (a i)
  sr : IsTab y qr 185 25 fun _ => wv 0#64
  cons : ∀ i, i < 24 → y.cell? ⟨qc, i, none⟩ = some (wv (consts.getD i 0#64))
  turn : ∀ j, j < 25 → y.cell? ⟨qt, j, none⟩ = some (tv (turns.getD j 0))
  lc : qc < W.heap.size
  lt : qt < W.heap.size
  g0 : W.heap.size ≤ q0
  o1 : q0 < qr
  below : Below W.heap.size W y
theorem Pa.two {W : World} {q0 qr qc qt : Nat} {a : Nat → Wd64} {y : World} (h : Pa W q0 qr qc qt a y) :
    Pf W q0 qr y.heap.size (y.heap.size + 1) qc qt a (fun _ => 0#64) (fun _ => 0#64) ((y.alloc (.cells (tab 25 fun _ => wv 0#64) 185)).alloc (.cells (tab 25 fun _ => wv 0#64) 185)) := by
  have e1 : (y.alloc (.cells (tab 25 fun _ => wv 0#64) 185)).heap.size = y.heap.size + 1 := by simp
  have hs := h.below.size
  have hb : Below y.heap.size y ((y.alloc (.cells (tab 25 fun _ => wv 0#64) 185)).alloc (.cells (tab 25 fun _ => wv 0#64) 185)) := ((Below.refl _ _).alloc (Nat.le_refl _) _).alloc (by simp) _
  refine ⟨(h.sa.alloc _).alloc _, (h.sr.alloc _).alloc _, (IsTab.new y _ 25 _).alloc _, ?_, fun i hi => keep1 hb (h.cons i hi), fun j hj => keep1 hb (h.turn j hj), h.lc, h.lt, h.g0, h.o1, h.sr.lt, Nat.lt_succ_self _, bl h.below hb⟩
  have := IsTab.new (y.alloc (.cells (tab 25 fun _ => wv 0#64) 185)) 185 25 fun _ => wv 0#64
  rw [e1] at this; exact this
theorem Pf.one {W : World} {q0 qr q8 q9 qc qt : Nat} {a b c : Nat → Wd64} {y : World} (h : Pf W q0 qr q8 q9 qc qt a b c y) : Pa W q0 qr qc qt a y := ⟨h.sa, h.sr, h.cons, h.turn, h.lc, h.lt, h.g0, h.o1, h.below⟩
end Kc
end Go.Proofs.YtnaamljflcgepaaGreatDoor
namespace Go.Proofs.YtnaamljflcgepaaGreatDoor
open Go.RowKit
set_option linter.unusedVariables false
namespace Kc
/-- The slice of the constants, and that of the turns. -/
def Two (w : World) (V : Value) (qt : Nat) : Prop := ∃ qc cap, V = .slice (some ⟨qc, 0, none⟩) 24 cap ∧ (∀ i, i < 24 → w.cell? ⟨qc, i, none⟩ = some (wv (consts.getD i 0#64))) ∧ ∀ j, j < 25 → w.cell? ⟨qt, j, none⟩ = some (tv (turns.getD j 0))
theorem Two.below {w w' : World} {V : Value} {qt : Nat} (h : Two w V qt) (hb : Below w.heap.size w w') : Two w' V qt := by
  obtain ⟨qc, cap, h1, h2, h3⟩ := h
  exact ⟨qc, cap, h1, fun i hi => keep1 hb (h2 i hi), fun j hj => keep1 hb (h3 j hj)⟩
def ConsAt (w : World) (V : Value) : Prop := ∃ qc cap, V = .slice (some ⟨qc, 0, none⟩) 24 cap ∧ ∀ i, i < 24 → w.cell? ⟨qc, i, none⟩ = some (wv (consts.getD i 0#64))
def TurnAt (w : World) (V : Value) : Prop := ∃ qt, V = .slice (some ⟨qt, 0, none⟩) 25 25 ∧ ∀ j, j < 25 → w.cell? ⟨qt, j, none⟩ = some (tv (turns.getD j 0))
theorem ConsAt.below {w w' : World} {V : Value} (hb : Below w.heap.size w w') (h : ConsAt w V) : ConsAt w' V := by
  obtain ⟨qc, cap, h1, h2⟩ := h
  exact ⟨qc, cap, h1, fun i hi => keep1 hb (h2 i hi)⟩
theorem TurnAt.below {w w' : World} {V : Value} (hb : Below w.heap.size w w') (h : TurnAt w V) : TurnAt w' V := by
  obtain ⟨qt, h1, h2⟩ := h
  exact ⟨qt, h1, fun i hi => keep1 hb (h2 i hi)⟩
/-- A world with the argument's block and the result's. -/
def Rp (W : World) (q0 q1 : Nat) (a : Nat → Wd64) (y : World) : Prop := IsTab y q0 185 25 (fun i => wv (a i)) ∧ (∃ g, IsTab y q1 185 25 g) ∧ Below W.heap.size W y ∧ W.heap.size ≤ q1 ∧ q0 ≠ q1
theorem Rp.next {W : World} {q0 q1 : Nat} {a : Nat → Wd64} {y y' : World} (h : Rp W q0 q1 a y) (hb : Below y.heap.size y y') : Rp W q0 q1 a y' :=
  ⟨IsTab.below h.1 hb, by obtain ⟨g, hg⟩ := h.2.1; exact ⟨g, IsTab.below hg hb⟩, bl h.2.2.1 hb, h.2.2.2⟩
end Kc
end Go.Proofs.YtnaamljflcgepaaGreatDoor
namespace Go.Proofs.YtnaamljflcgepaaGreatDoor
open Go.RowKit
set_option linter.unusedVariables false
namespace Kc
/-- All bytes with the 1 and the noughts behind them, and the last bit. -/
def padN (l : List Bt) : Nat := 136 * (l.length / 136 + 1)
def pad (l : List Bt) : List Bt := l ++ 1#8 :: List.replicate (padN l - l.length - 1) 0#8
/-- The bytes as the sponge takes them. -/
def sponge (l : List Bt) (i : Nat) : Bt := if i = padN l - 1 then (pad l).getD i 0#8 ^^^ 128#8 else (pad l).getD i 0#8
end Kc
end Go.Proofs.YtnaamljflcgepaaGreatDoor
namespace Go.Proofs.YtnaamljflcgepaaGreatDoor
open Go.RowKit
set_option linter.unusedVariables false
namespace Kc
/-- A block whose first n cells are bytes. -/
def Row8 (w : World) (g n : Nat) (f : Nat → Bt) : Prop := ∃ cur : Array Value, w.heap[g]? = some (.cells cur 5 (0, 0)) ∧ n ≤ cur.size ∧ ∀ i, i < n → cur[i]? = some (bv (f i))
theorem Row8.cell {w : World} {g n : Nat} {f : Nat → Bt} (h : Row8 w g n f) (i : Nat) (hi : i < n) : w.cell? ⟨g, i, none⟩ = some (bv (f i)) := by
  obtain ⟨cur, h1, h2, h3⟩ := h
  rw [cell_of_row w g i _ _ _ h1]; exact h3 i hi
theorem Row8.fz {w : World} {g n : Nat} {f : Nat → Bt} (h : Row8 w g n f) (i : Nat) : w.frozen? ⟨g, i, none⟩ = false := by
  obtain ⟨cur, h1, _⟩ := h
  exact frozen_of_row w g i _ _ h1
theorem Row8.lt {w : World} {g n : Nat} {f : Nat → Bt} (h : Row8 w g n f) : g < w.heap.size := by obtain ⟨cur, h1, _⟩ := h; exact (Array.getElem?_eq_some_iff.1 h1).1
theorem Row8.set {w : World} {g n : Nat} {f : Nat → Bt} (h : Row8 w g n f) (i : Nat) (x : Bt) : Row8 (w.setCell ⟨g, i, none⟩ (bv x)) g n fun j => if j = i then x else f j := by
  obtain ⟨cur, h1, h2, h3⟩ := h
  refine ⟨_, heap_setCell_same w g i _ _ _ h1, by simpa using h2, fun j hj => ?_⟩
  rw [Array.getElem?_setIfInBounds]
  dsimp only
  by_cases e : i = j
  · subst e; rw [if_pos rfl, if_pos (by omega), if_pos rfl]
  · rw [if_neg e, if_neg (fun h : j = i => e h.symm)]; exact h3 j hj
theorem Row8.keep {w : World} {g p i n : Nat} {v : Value} {f : Nat → Bt} (h : Row8 w g n f) (hn : g ≠ p) : Row8 (w.setCell ⟨p, i, none⟩ v) g n f := by
  obtain ⟨cur, h1, h2, h3⟩ := h
  exact ⟨cur, by rw [Below.heap_setCell _ _ _ _ hn]; exact h1, h2, h3⟩
theorem Row8.row {w : World} {g p n : Nat} {cs : Array Value} {f : Nat → Bt} (h : Row8 w g n f) (hn : g ≠ p) : Row8 (w.setRow p cs) g n f := by
  obtain ⟨cur, h1, h2, h3⟩ := h
  exact ⟨cur, by rw [setRow_other _ _ _ _ hn]; exact h1, h2, h3⟩
theorem Row8.drew {w : World} {g n : Nat} {f : Nat → Bt} (h : Row8 w g n f) : Row8 w.drew g n f := h
theorem Row8.below {w w' : World} {g n : Nat} {f : Nat → Bt} (h : Row8 w g n f) (hb : Below w.heap.size w w') : Row8 w' g n f := by
  obtain ⟨cur, h1, h2, h3⟩ := h
  exact ⟨cur, by rw [hb.block g (Array.getElem?_eq_some_iff.1 h1).1]; exact h1, h2, h3⟩
theorem Row8.alloc {w : World} {g n : Nat} {f : Nat → Bt} (h : Row8 w g n f) (o : Obj) : Row8 (w.alloc o) g n f := by
  obtain ⟨cur, h1, h2, h3⟩ := h
  exact ⟨cur, by rw [Below.heap_alloc w o g (Array.getElem?_eq_some_iff.1 h1).1]; exact h1, h2, h3⟩
theorem Row8.cong {w : World} {g n : Nat} {f f' : Nat → Bt} (h : Row8 w g n f) (e : ∀ i, i < n → f i = f' i) : Row8 w g n f' := by
  obtain ⟨cur, h1, h2, h3⟩ := h
  exact ⟨cur, h1, h2, fun i hi => by rw [← e i hi]; exact h3 i hi⟩
end Kc
end Go.Proofs.YtnaamljflcgepaaGreatDoor
namespace Go.Proofs.YtnaamljflcgepaaGreatDoor
open Go.RowKit
set_option linter.unusedVariables false
namespace Kc
theorem und26 : Tryz.prog.underlying 28 = some (.array 32 5) := by kernel_rfl
/-- What a piece is taken into. -/
structure Rs (W : World) (V T : Value) (q g qa : Nat) (n : Nat) (l : List Bt) (c : Nat → Wd64) (y : World) : Prop where
  srow : Row8 y g n (sponge l)
  sa : IsTab y qa 185 25 fun i => wv (c i)
  sres : IsTab y q 28 32 fun _ => bv 0#8
  cons : ConsAt y V
  turn : TurnAt y T
  below : Below W.heap.size W y
  bc : ∀ u v, ConsAt u V → (∀ b o x, b < qa → u.cell? ⟨b, o, none⟩ = some x → v.cell? ⟨b, o, none⟩ = some x) → ConsAt v V
  bt : ∀ u v, TurnAt u T → (∀ b o x, b < qa → u.cell? ⟨b, o, none⟩ = some x → v.cell? ⟨b, o, none⟩ = some x) → TurnAt v T
  o1 : W.heap.size ≤ q
  o2 : q < g
  o3 : g < qa
theorem Rs.next {W : World} {V T : Value} {q g qa n : Nat} {l : List Bt} {c : Nat → Wd64} {y y' : World} (h : Rs W V T q g qa n l c y) (hb : Below y.heap.size y y') : Rs W V T q g qa n l c y' :=
  ⟨h.srow.below hb, h.sa.below hb, h.sres.below hb, ConsAt.below hb h.cons, TurnAt.below hb h.turn, bl h.below hb, h.bc, h.bt, h.o1, h.o2, h.o3⟩
theorem Rs.drew {W : World} {V T : Value} {q g qa n : Nat} {l : List Bt} {c : Nat → Wd64} {y : World} (h : Rs W V T q g qa n l c y) : Rs W V T q g qa n l c y.drew :=
  ⟨h.srow, h.sa, h.sres, h.cons, h.turn, h.below.drew, h.bc, h.bt, h.o1, h.o2, h.o3⟩
theorem Rs.set {W : World} {V T : Value} {q g qa n : Nat} {l : List Bt} {c : Nat → Wd64} {y : World} (h : Rs W V T q g qa n l c y) (i : Nat) (x : Wd64) : Rs W V T q g qa n l (upd c i x) (y.setCell ⟨qa, i, none⟩ (wv x)) :=
  ⟨h.srow.keep (by have := h.o3; omega), (h.sa.set i _).cong (fun j _ => by unfold updv upd; dsimp only; split <;> rfl), h.sres.keep (by have := h.o2; have := h.o3; omega),
   h.bc y _ h.cons (fun b o v hb hv => by rw [World.cell?_setCell_other _ _ _ _ (fun e => by have := congrArg Addr.block e; simp only at this; omega)]; exact hv),
   h.bt y _ h.turn (fun b o v hb hv => by rw [World.cell?_setCell_other _ _ _ _ (fun e => by have := congrArg Addr.block e; simp only at this; omega)]; exact hv),
   h.below.setCell (by have := h.o1; have := h.o2; have := h.o3; show W.heap.size ≤ qa; omega) _, h.bc, h.bt, h.o1, h.o2, h.o3⟩
theorem Rs.row {W : World} {V T : Value} {q g qa n : Nat} {l : List Bt} {c : Nat → Wd64} {y : World} (h : Rs W V T q g qa n l c y) (d : Nat → Wd64) : Rs W V T q g qa n l d (y.setRow qa (words d)) :=
  ⟨h.srow.row (by have := h.o3; omega), h.sa.row, h.sres.rowOther (by have := h.o2; have := h.o3; omega),
   h.bc y _ h.cons (fun b o v hb hv => by rw [cell_setRow_other _ _ _ _ (by simp only; omega)]; exact hv),
   h.bt y _ h.turn (fun b o v hb hv => by rw [cell_setRow_other _ _ _ _ (by simp only; omega)]; exact hv),
   below_setRow h.below (by have := h.o1; have := h.o2; have := h.o3; omega : W.heap.size ≤ qa) _, h.bc, h.bt, h.o1, h.o2, h.o3⟩
theorem Rs.cong {W : World} {V T : Value} {q g qa n : Nat} {l : List Bt} {c d : Nat → Wd64} {y : World} (h : Rs W V T q g qa n l c y) (e : ∀ i, i < 25 → c i = d i) : Rs W V T q g qa n l d y :=
  ⟨h.srow, h.sa.cong (fun i hi => by rw [e i hi]), h.sres, h.cons, h.turn, h.below, h.bc, h.bt, h.o1, h.o2, h.o3⟩
end Kc
end Go.Proofs.YtnaamljflcgepaaGreatDoor
namespace Go.Proofs.YtnaamljflcgepaaGreatDoor
open Go.RowKit
set_option linter.unusedVariables false
namespace Kc
end Kc
end Go.Proofs.YtnaamljflcgepaaGreatDoor
namespace Go.Proofs.YtnaamljflcgepaaGreatDoor
open Go.RowKit
set_option linter.unusedVariables false
namespace Kc
end Kc
end Go.Proofs.YtnaamljflcgepaaGreatDoor
namespace Go.Proofs.YtnaamljflcgepaaGreatDoor
namespace Kc
end Kc
end Go.Proofs.YtnaamljflcgepaaGreatDoor
namespace Go.Proofs.YtnaamljflcgepaaGreatDoor
open Go.RowKit
set_option linter.unusedVariables false
section
variable {P : Program}
/-- A load whose value is known, as one operation. -/
theorem wp_loadE {op : Oper} {a : Act} {w : World} {K : Act → World → Prop} {Q : Exit → Act → World → Prop} (ty : TypeId) (x : Operand) (ho : op.op = .load ty x) (p v : Value) (hx : a.eval x = p) (hl : (Instr.loadAt ty p).run P w = .ok v w)
    (h : K (a.put op.dst v) w) : op.wp P a w K Q := by
  unfold Oper.wp execOp
  simp only [ho, hx]
  simp [hl]
  exact h
/-- At the list of a plain region's operations. -/
theorem wpList_loadE {ops : Array Oper} {rest : List Oper} {op : Oper} {a : Act} {w : World} {Q : Exit → Act → World → Prop} (hgd : op.guard = none) (ty : TypeId) (x : Operand) (ho : op.op = .load ty x) (p v : Value) (hx : a.eval x = p) (hl : (Instr.loadAt ty p).run P w = .ok v w)
    (h : wpList P ops Q rest (a.put op.dst v) w) : wpList P ops Q (op :: rest) a w :=
  wpList_plain hgd fun _ hK => wp_loadE ty x ho p v hx hl (hK _ _ h)
/-- The same of an operation whose guard is met. -/
theorem wpList_loadG {ops : Array Oper} {rest : List Oper} {op : Oper} {a : Act} {w : World} {Q : Exit → Act → World → Prop} (hw : Region.wanted op (yielded ops a.tmps) = true) (ty : TypeId) (x : Operand) (ho : op.op = .load ty x) (p v : Value) (hx : a.eval x = p) (hl : (Instr.loadAt ty p).run P w = .ok v w)
    (h : wpList P ops Q rest (a.put op.dst v) w) : wpList P ops Q (op :: rest) a w :=
  wpList_step fun K hK => by rw [if_pos hw]; exact wp_loadE ty x ho p v hx hl (hK _ _ h)
end
namespace Mk
open Kc
/-- The value of a digest. -/
def dv (x : Hx) : Value := .agg (tab 32 fun i => bv (x i))
theorem guardE (x y : Operand) (A B : Hx) (u : World) : (eqGuard .eql 29 x y (dv A) (dv B)).run Tryz.prog u = .ok () u := by kernel_rfl
/-- n digests from a place on. -/
def At5 (w : World) (b o n : Nat) (f : Nat → Hx) : Prop := ∀ k j, k < n → j < 32 → w.cell? ⟨b, o + 32 * k + j, none⟩ = some (bv (f k j))
/-- A slice of n digests. -/
def IsHs (w : World) (a : Option Addr) (n : Nat) (f : Nat → Hx) : Prop := n = 0 ∨ ∃ b o, a = some ⟨b, o, none⟩ ∧ At5 w b o n f
theorem At5.keep {w w' : World} {b o n : Nat} {f : Nat → Hx} (h : At5 w b o n f) (hk : ∀ i v, w.cell? ⟨b, i, none⟩ = some v → w'.cell? ⟨b, i, none⟩ = some v) : At5 w' b o n f := fun k j h1 h2 => hk _ _ (h k j h1 h2)
theorem At5.below {w w' : World} {b o n : Nat} {f : Nat → Hx} (h : At5 w b o n f) (hb : Below w.heap.size w w') : At5 w' b o n f := h.keep fun i v hv => keep1 hb hv
theorem At5.cong {w : World} {b o n : Nat} {f g : Nat → Hx} (h : At5 w b o n f) (e : ∀ k, k < n → f k = g k) : At5 w b o n g := fun k j h1 h2 => by rw [← e k h1]; exact h k j h1 h2
theorem At5.from {w : World} {b o n : Nat} {f : Nat → Hx} (h : At5 w b o n f) (m : Nat) : At5 w b (o + 32 * m) (n - m) fun k => f (m + k) := fun k j h1 h2 => by
  rw [show o + 32 * m + 32 * k + j = o + 32 * (m + k) + j from by omega]; exact h (m + k) j (by omega) h2
theorem IsHs.below {w w' : World} {a : Option Addr} {n : Nat} {f : Nat → Hx} (h : IsHs w a n f) (hb : Below w.heap.size w w') : IsHs w' a n f := by
  rcases h with h | ⟨b, o, h1, h2⟩
  · exact .inl h
  · exact .inr ⟨b, o, h1, h2.below hb⟩
theorem IsHs.drew {w : World} {a : Option Addr} {n : Nat} {f : Nat → Hx} (h : IsHs w a n f) : IsHs w.drew a n f := h
theorem IsHs.cong {w : World} {a : Option Addr} {n : Nat} {f g : Nat → Hx} (h : IsHs w a n f) (e : ∀ k, k < n → f k = g k) : IsHs w a n g := by
  rcases h with h | ⟨b, o, h1, h2⟩
  · exact .inl h
  · exact .inr ⟨b, o, h1, h2.cong e⟩
theorem IsHs.at {w : World} {a : Option Addr} {n : Nat} {f : Nat → Hx} (h : IsHs w a n f) {k : Nat} (hk : k < n) : ∃ b o, a = some ⟨b, o, none⟩ ∧ At5 w b o n f := by
  rcases h with h | h
  · omega
  · exact h
theorem infR : (Tryz.prog.info? 28).map (·.size) = some 32 := by kernel_rfl
theorem infHh : (Tryz.prog.info? 29).map (·.size) = some 32 := by kernel_rfl
/-- A digest is loaded, as the one type or as the other. -/
theorem loadH {w : World} {b o n : Nat} {f : Nat → Hx} (h : At5 w b o n f) {k p : Nat} (hk : k < n) (hp : p = o + 32 * k) : (Instr.loadAt 29 (.pointer (some ⟨b, p, none⟩))).run Tryz.prog w = .ok (dv (f k)) w := by
  subst hp
  refine run_loadAt_mid w b (o + 32 * k) _ ((List.range 32).map fun i => bv (f k i)) _ (fun j v hv => ?_) undH rfl (by rw [List.length_map, List.length_range]; exact infHh)
  obtain ⟨hj, rfl⟩ := List.getElem?_eq_some_iff.1 hv
  simp only [List.length_map, List.length_range] at hj
  simpa using h k j hk hj
theorem loadR {w : World} {b o n : Nat} {f : Nat → Hx} (h : At5 w b o n f) {k p : Nat} (hk : k < n) (hp : p = o + 32 * k) : (Instr.loadAt 28 (.pointer (some ⟨b, p, none⟩))).run Tryz.prog w = .ok (dv (f k)) w := by
  subst hp
  refine run_loadAt_mid w b (o + 32 * k) _ ((List.range 32).map fun i => bv (f k i)) _ (fun j v hv => ?_) und26 rfl (by rw [List.length_map, List.length_range]; exact infR)
  obtain ⟨hj, rfl⟩ := List.getElem?_eq_some_iff.1 hv
  simp only [List.length_map, List.length_range] at hj
  simpa using h k j hk hj
/-- The cells of n digests. -/
def flat (n : Nat) (f : Nat → Hx) : List Value := (List.range (32 * n)).map fun i => bv (f (i / 32) (i % 32))
end Mk
end Go.Proofs.YtnaamljflcgepaaGreatDoor
namespace Go.Proofs.YtnaamljflcgepaaGreatDoor
open Go.RowKit
set_option linter.unusedVariables false
namespace Mk
open Kc
/-! ## check, isPlace -/
theorem p2_pos (n : Nat) : (0 : Int) < 2 ^ n := Int.pow_pos (by decide)
theorem p2_nat (d k : Nat) (h1 : d ≤ k) : (2 : Int) ^ d ≤ 2 ^ k := by
  have h2 : ((2 ^ d : Nat) : Int) ≤ ((2 ^ k : Nat) : Int) := by exact_mod_cast Nat.pow_le_pow_right (by decide) h1
  simpa [Int.natCast_pow] using h2
def errV (n : Int) : Value := if n = 0 then .nilIface else .iface 55 (.int .i64 n)
end Mk
end Go.Proofs.YtnaamljflcgepaaGreatDoor
namespace Go.Proofs.YtnaamljflcgepaaGreatDoor
open Go.RowKit
set_option linter.unusedVariables false
section
variable {P : Program} {ops : Array Oper} {Q : Exit → Act → World → Prop} {S : World → Prop}
/-- append as one operation. -/
theorem wp_append_any {w : World} {o : Oper} {a : Act} {K : Act → World → Prop} {Q : Exit → Act → World → Prop} (s x : Operand) (t : TypeId)
    (ho : o.op = .call { callee := .builtin .append, args := #[s, x], argTypes := #[t, t] })
    (base : Nat) (e : TypeId) (i : TypeInfo) (z : Value) (size bytes : Nat) (ht : P.underlying t = some (.slice e)) (hi : P.info? e = some i ∧ i.zero = some z ∧ i.size = size ∧ i.bytes = bytes)
    (hzs : z.cells.size = size) (hsz : 0 < size)
    (v : Value) (n : Nat) (xs : List Value) (hs : a.eval s = v) (hown : w.ownsRow base e size v n xs)
    (A : Option Addr) (m c : Nat) (news : List Value) (hx : a.eval x = .slice A m c) (hsrc : (A = none ∧ m = 0 ∧ c = 0 ∧ news = []) ∨ ∃ ad, A = some ad ∧ news.length = m * size ∧ ∀ j u, news[j]? = some u → w.cell? (ad.add j) = some u) (h1 : ∀ u ∈ news, u.oneCell' = true)
    (h63 : n + m ≤ maxLen) (hbytes : (n + m) * bytes ≤ 140737488355328) (hbase : base ≤ w.heap.size)
    (h : ∀ v' w', w'.ownsRow base e size v' (n + m) (xs ++ news) → w.grownBy w' v.ownBlock → (∀ k, v'.ownBlock = some k → v.ownBlock = some k ∨ k = w.heap.size) → K (a.put o.dst v') w') : Oper.wp P o a w K Q := by
  rcases hsrc with ⟨rfl, rfl, rfl, rfl⟩ | ⟨ad, rfl, hl, hc⟩
  · have hh := h v w (by simpa using hown) (World.grownBy.refl w _) (fun k hk => .inl hk)
    have hr := run_append_owned_none (P := P) (w := w) base t o.type e i size ht hi.1 v n xs hown
    unfold Oper.wp
    simp [execOp, ho, resolve, invoke, builtin, hs, hx, hr, Result.andThen]
    exact hh
  · obtain ⟨v', w', hr, h2, h3, _, h4⟩ := run_append_at (P := P) w base t o.type e i z size bytes ht hi.1 hi.2.1 hi.2.2.1 hi.2.2.2 hzs hsz v n xs hown ad m c news hl hc h1 h63 hbytes hbase
    have hh := h _ _ h2 h3 h4
    unfold Oper.wp execOp
    simp only [ho, resolve, invoke, builtin, Sem.run_bind, Sem.run_pure, Result.andThen_ok, List.map_toArray, List.map_cons, List.map_nil, hs, hx, hr]
    exact hh
end
end Go.Proofs.YtnaamljflcgepaaGreatDoor
namespace Go.Proofs.YtnaamljflcgepaaGreatDoor
open Go.RowKit
set_option linter.unusedVariables false
section
variable {P : Program} {ops : Array Oper} {Q : Exit → Act → World → Prop} {S : World → Prop}
end
end Go.Proofs.YtnaamljflcgepaaGreatDoor
namespace Go.Proofs.YtnaamljflcgepaaGreatDoor
open Go.RowKit
set_option linter.unusedVariables false
namespace Mk
open Kc
/-- The cells of an array of digests. -/
def hc (f : Nat → Hx) : Nat → Value := fun i => bv (f (i / 32) (i % 32))
/-- A block of an array of digests holds them one behind the other. -/
theorem at5_of {w : World} {q T n m : Nat} {f : Nat → Hx} (h : IsTab w q T m (hc f)) (hm : 32 * n ≤ m) : At5 w q 0 n f := fun k j hk hj => by
  rw [show 0 + 32 * k + j = 32 * k + j from by omega, h.cell (32 * k + j) (by omega)]
  unfold hc
  rw [show (32 * k + j) / 32 = k from by omega, show (32 * k + j) % 32 = j from by omega]
/-- One of them is set. -/
theorem hc_set {w : World} {q T m : Nat} {f : Nat → Hx} (h : IsTab w q T m (hc f)) (k : Nat) (x : Hx) (p : Nat) (hp : p = 32 * k) :
    IsTab (w.setCells q p (tab 32 fun i => bv (x i)).toList) q T m (hc fun i => if i = k then x else f i) := by
  subst hp
  refine (IsTab.setCells ((List.range 32).map fun i => bv (x i)) (32 * k) _ _ h).cong fun i hi => ?_
  simp only [List.length_map, List.length_range]
  unfold hc
  dsimp only
  by_cases h1 : 32 * k ≤ i ∧ i < 32 * k + 32
  · rw [if_pos h1, if_pos (by omega), show i % 32 = i - 32 * k from by omega]
    simp [show i - 32 * k < 32 from by omega]
  · rw [if_neg h1, if_neg (by omega)]
theorem below_setCells {B : Nat} {W : World} {q : Nat} (hq : B ≤ q) : ∀ (vs : List Value) (o : Nat) (w : World), Below B W w → Below B W (w.setCells q o vs)
  | [], _, w, h => h
  | v :: r, o, w, h => below_setCells hq r (o + 1) _ (h.setCell hq v)
theorem IsTab.cellsOther {w : World} {q p T n : Nat} {g : Nat → Value} (hn : q ≠ p) : ∀ (vs : List Value) (o : Nat) (w : World), IsTab w q T n g → IsTab (w.setCells p o vs) q T n g
  | [], _, w, h => h
  | v :: r, o, w, h => IsTab.cellsOther (w := w) hn r (o + 1) _ (h.keep hn)
/-- Noughts up to n. -/
def nz (n : Nat) : Nat → Hx := fun k => if k ≤ n then zero k else zero 0
structure Nw (W : World) (q qr : Nat) (f : Nat → Hx) (y : World) : Prop where
  st : IsTab y q 203 544 (hc f)
  sr : IsTab y qr 203 544 (hc fun _ => zero 0)
  below : Below W.heap.size W y
  ne : qr ≠ q
  g1 : W.heap.size ≤ q
  g2 : W.heap.size ≤ qr
theorem Nw.next {W y y' : World} {q qr : Nat} {f : Nat → Hx} (h : Nw W q qr f y) (hb : Below y.heap.size y y') : Nw W q qr f y' := ⟨h.st.below hb, h.sr.below hb, bl h.below hb, h.ne, h.g1, h.g2⟩
theorem Nw.drew {W y : World} {q qr : Nat} {f : Nat → Hx} (h : Nw W q qr f y) : Nw W q qr f y.drew := ⟨h.st, h.sr, h.below.drew, h.ne, h.g1, h.g2⟩
theorem Nw.set {W y : World} {q qr : Nat} {f : Nat → Hx} (h : Nw W q qr f y) (k : Nat) (x : Hx) (p : Nat) (hp : p = 32 * k) : Nw W q qr (fun i => if i = k then x else f i) (y.setCells q p (tab 32 fun i => bv (x i)).toList) :=
  ⟨hc_set h.st k x p hp, IsTab.cellsOther (w := y) h.ne _ _ _ h.sr, below_setCells h.g1 _ _ _ h.below, h.ne, h.g1, h.g2⟩
end Mk
end Go.Proofs.YtnaamljflcgepaaGreatDoor
namespace Go.Proofs.YtnaamljflcgepaaGreatDoor
open Go.RowKit
set_option linter.unusedVariables false
set_option linter.unusedSimpArgs false
namespace Mk
open Kc
/-- A block that begins with N digests. -/
def Lv (w : World) (q T N : Nat) (f : Nat → Hx) : Prop := ∃ m g, IsTab w q T m g ∧ 32 * N ≤ m ∧ ∀ k j, k < N → j < 32 → g (32 * k + j) = bv (f k j)
theorem Lv.at5 {w : World} {q T N : Nat} {f : Nat → Hx} (h : Lv w q T N f) : At5 w q 0 N f := fun k j hk hj => by
  obtain ⟨m, g, h1, h2, h3⟩ := h
  rw [show 0 + 32 * k + j = 32 * k + j from by omega, h1.cell _ (by omega), h3 k j hk hj]
theorem Lv.below {w w' : World} {q T N : Nat} {f : Nat → Hx} (h : Lv w q T N f) (hb : Below w.heap.size w w') : Lv w' q T N f := by
  obtain ⟨m, g, h1, h2, h3⟩ := h
  exact ⟨m, g, h1.below hb, h2, h3⟩
theorem Lv.there {w : World} {q T N : Nat} {f : Nat → Hx} (h : Lv w q T N f) {k : Nat} (hk : k < N) {p n : Nat} (hp : p = 32 * k) (hn : n = 32) : w.there q p n := by
  obtain ⟨m, g, h1, h2, h3⟩ := h
  subst hp hn
  exact h1.thereAt (32 * k) 32 (by omega)
theorem Lv.set {w : World} {q T N : Nat} {f : Nat → Hx} (h : Lv w q T N f) (k : Nat) (x : Hx) {p : Nat} (hp : p = 32 * k) :
    Lv (w.setCells q p (tab 32 fun i => bv (x i)).toList) q T N fun i => if i = k then x else f i := by
  obtain ⟨m, g, h1, h2, h3⟩ := h
  subst hp
  refine ⟨m, _, IsTab.setCells ((List.range 32).map fun i => bv (x i)) (32 * k) _ _ h1, h2, fun i j hi hj => ?_⟩
  simp only [List.length_map, List.length_range]
  by_cases e : i = k
  · subst e
    rw [if_pos (by omega), if_pos rfl, show 32 * i + j - 32 * i = j from by omega]
    simp [hj]
  · rw [if_neg (by omega), if_neg e]; exact h3 i j hi hj
theorem Lv.keep {w : World} {q T N p o : Nat} {vs : List Value} {f : Nat → Hx} (h : Lv w q T N f) (hn : q ≠ p) : Lv (w.setCells p o vs) q T N f := by
  obtain ⟨m, g, h1, h2, h3⟩ := h
  exact ⟨m, g, IsTab.cellsOther (w := w) hn _ _ _ h1, h2, h3⟩
theorem Lv.rowOther {w : World} {q T N p : Nat} {cs : Array Value} {f : Nat → Hx} (h : Lv w q T N f) (hn : q ≠ p) : Lv (w.setRow p cs) q T N f := by
  obtain ⟨m, g, h1, h2, h3⟩ := h
  exact ⟨m, g, h1.rowOther hn, h2, h3⟩
theorem Lv.cong {w : World} {q T N : Nat} {f g : Nat → Hx} (h : Lv w q T N f) (e : ∀ k, k < N → f k = g k) : Lv w q T N g := by
  obtain ⟨m, c, h1, h2, h3⟩ := h
  exact ⟨m, c, h1, h2, fun k j hk hj => by rw [← e k hk]; exact h3 k j hk hj⟩
theorem Lv.lt {w : World} {q T N : Nat} {f : Nat → Hx} (h : Lv w q T N f) : q < w.heap.size := by obtain ⟨m, c, h1, _⟩ := h; exact h1.lt
structure Ab (W : World) (q T n q4 q5 : Nat) (f : Nat → Hx) (z z' : Hx) (y : World) : Prop where
  lv : Lv y q T n f
  s4 : IsTab y q4 29 32 fun i => bv (z i)
  s5 : IsTab y q5 29 32 fun i => bv (z' i)
  kept : Kept (· = q) W y
  n4 : q4 ≠ q
  n5 : q5 ≠ q
  g4 : W.heap.size ≤ q4
  g5 : W.heap.size ≤ q5
theorem Ab.next {W y y' : World} {q T n q4 q5 : Nat} {f : Nat → Hx} {z z' : Hx} (h : Ab W q T n q4 q5 f z z' y) (hb : Below y.heap.size y y') : Ab W q T n q4 q5 f z z' y' :=
  ⟨h.lv.below hb, h.s4.below hb, h.s5.below hb, h.kept.trans (Kept.ofBelow (S := (· = q)) hb) (fun _ _ h => h), h.n4, h.n5, h.g4, h.g5⟩
theorem Ab.drew {W y : World} {q T n q4 q5 : Nat} {f : Nat → Hx} {z z' : Hx} (h : Ab W q T n q4 q5 f z z' y) : Ab W q T n q4 q5 f z z' y.drew :=
  ⟨h.lv, h.s4, h.s5, h.kept.drew, h.n4, h.n5, h.g4, h.g5⟩
theorem Ab.set {W y : World} {q T n q4 q5 : Nat} {f : Nat → Hx} {z z' : Hx} (h : Ab W q T n q4 q5 f z z' y) (k : Nat) (x : Hx) {p : Nat} (hp : p = 32 * k) : Ab W q T n q4 q5 (fun i => if i = k then x else f i) z z' (y.setCells q p (tab 32 fun i => bv (x i)).toList) :=
  ⟨h.lv.set k x hp, IsTab.cellsOther (w := y) h.n4 _ _ _ h.s4, IsTab.cellsOther (w := y) h.n5 _ _ _ h.s5, keptS_setCells (S := (· = q)) (q := q) rfl _ _ _ h.kept, h.n4, h.n5, h.g4, h.g5⟩
theorem load32h {y : World} {q : Nat} {x : Hx} (h : IsTab y q 29 32 fun i => bv (x i)) : (Instr.loadAt 29 (.pointer (some ⟨q, 0, none⟩))).run Tryz.prog y = .ok (dv x) y :=
  loadH (at5_of (n := 1) (f := fun _ => x) (m := 32) (h.cong fun i hi => by unfold hc; rw [show i % 32 = i from by omega]) (by omega)) (k := 0) (by omega) rfl
end Mk
end Go.Proofs.YtnaamljflcgepaaGreatDoor
namespace Go.Proofs.YtnaamljflcgepaaGreatDoor
open Go.RowKit
set_option linter.unusedVariables false
set_option linter.unusedSimpArgs false
namespace Mk
open Kc
/-- The state of the climb at height h, but for the path. -/
structure Cb (W : World) (B q8 q6 d n h : Nat) (f : Nat → Hx) (a9 : Option Addr) (c9 : Nat) (y : World) : Prop where
  nz : IsTab y q8 203 544 (hc (nz d))
  lv : (cnt n h = 0 ∧ ((a9 = none ∧ c9 = 0) ∨ ∃ q, a9 = some ⟨q, 0, none⟩)) ∨ ∃ q T, a9 = some ⟨q, 0, none⟩ ∧ Lv y q T (cnt n h) (lev (ext n f) h) ∧ q8 < q ∧ q < B
  hc9 : cnt n h ≤ c9 ∧ c9 ≤ maxLen
  below : Below W.heap.size W y
  sr : IsTab y q6 29 32 fun _ => bv 0#8
  o4 : W.heap.size ≤ q6 ∧ q6 < q8
  o1 : W.heap.size ≤ q8
  o2 : q8 < B
  o3 : B ≤ y.heap.size
/-- The state of the climb at height h. -/
structure Cl (W : World) (B q8 q6 d n i h : Nat) (f : Nat → Hx) (a9 : Option Addr) (c9 : Nat) (V : Value) (y : World) : Prop where
  cb : Cb W B q8 q6 d n h f a9 c9 y
  row : y.ownsRow B 29 32 V h (flat h (sib (ext n f) i))
theorem kept_tab {S : Nat → Prop} {y y' : World} {q T n : Nat} {g : Nat → Value} (h : IsTab y q T n g) (hk : Kept S y y') (hq : ¬ S q) : IsTab y' q T n g := by
  unfold IsTab at *
  rw [hk.block q (Array.getElem?_eq_some_iff.1 h).1 hq]; exact h
theorem Cb.kept {S : Nat → Prop} {W y y' : World} {B q8 q6 d n h : Nat} {f : Nat → Hx} {a9 : Option Addr} {c9 : Nat} (k : Cb W B q8 q6 d n h f a9 c9 y) (hk : Kept S y y') (hS : ∀ j, S j → B ≤ j) : Cb W B q8 q6 d n h f a9 c9 y' := by
  have hs := hk.size
  have h2 := k.o2
  refine ⟨kept_tab k.nz hk (fun e => by have := hS _ e; omega), k.lv.imp_right fun ⟨q, T, h1, ⟨m, g, h2, h3⟩, h4, h5⟩ => ⟨q, T, h1, ⟨m, g, kept_tab h2 hk (fun e => by have := hS _ e; omega), h3⟩, h4, h5⟩, k.hc9, ?_, kept_tab k.sr hk (fun e => by have := hS _ e; have := k.o4; omega), k.o4, k.o1, k.o2, by have := k.o3; omega⟩
  exact ((Kept.ofBelow (S := S) k.below).trans hk (fun _ _ h => h)).below (Nat.le_refl _) (fun j hj e => by have := k.o1; have := hS _ e; omega)
theorem Cb.next {W y y' : World} {B q8 q6 d n h : Nat} {f : Nat → Hx} {a9 : Option Addr} {c9 : Nat} (k : Cb W B q8 q6 d n h f a9 c9 y) (hb : Below y.heap.size y y') : Cb W B q8 q6 d n h f a9 c9 y' :=
  k.kept (S := fun _ => False) (Kept.ofBelow hb) (fun _ h => absurd h id)
theorem Cl.next {W y y' : World} {B q8 q6 d n i h : Nat} {f : Nat → Hx} {a9 : Option Addr} {c9 : Nat} {V : Value} (k : Cl W B q8 q6 d n i h f a9 c9 V y) (hb : Below y.heap.size y y') : Cl W B q8 q6 d n i h f a9 c9 V y' :=
  ⟨k.cb.next hb, (Kept.ofBelow (S := fun _ => False) hb).row k.row (fun _ _ h => h)⟩
theorem Cb.hs {W y : World} {B q8 q6 d n h : Nat} {f : Nat → Hx} {a9 : Option Addr} {c9 : Nat} (k : Cb W B q8 q6 d n h f a9 c9 y) : IsHs y a9 (cnt n h) (lev (ext n f) h) := by
  rcases k.lv with ⟨h1, _⟩ | ⟨q, T, h1, h2, _⟩
  · exact .inl h1
  · exact .inr ⟨q, 0, h1, h2.at5⟩
end Mk
end Go.Proofs.YtnaamljflcgepaaGreatDoor
/-
  merkle.Root, Path. Own work.
-/
namespace Go.Proofs.YtnaamljflcgepaaGreatDoor
open Go.RowKit
set_option linter.unusedVariables false
set_option linter.unusedSimpArgs false
namespace Mk
open Kc
end Mk
end Go.Proofs.YtnaamljflcgepaaGreatDoor
namespace Go.Proofs.YtnaamljflcgepaaGreatDoor
open Go.RowKit
set_option linter.unusedVariables false
set_option linter.unusedSimpArgs false
namespace Mk
open Kc
structure Fo (W : World) (q6 q8 n : Nat) (a : Option Addr) (p : Nat → Hx) (r : Hx) (y : World) : Prop where
  s8 : IsTab y q8 29 32 fun i => bv (r i)
  s6 : IsTab y q6 29 32 fun _ => bv 0#8
  hp : IsHs y a n p
  below : Below W.heap.size W y
  g6 : W.heap.size ≤ q6
  g8 : q6 < q8
  old : ∀ b o, a = some ⟨b, o, none⟩ → 0 < n → b < W.heap.size
theorem Fo.next {W y y' : World} {q6 q8 n : Nat} {a : Option Addr} {p : Nat → Hx} {r : Hx} (h : Fo W q6 q8 n a p r y) (hb : Below y.heap.size y y') : Fo W q6 q8 n a p r y' :=
  ⟨h.s8.below hb, h.s6.below hb, h.hp.below hb, bl h.below hb, h.g6, h.g8, h.old⟩
theorem IsHs.inHeap {w : World} {a : Option Addr} {n : Nat} {f : Nat → Hx} (h : IsHs w a n f) : ∀ b o, a = some ⟨b, o, none⟩ → 0 < n → b < w.heap.size := by
  intro b o ha hn
  obtain ⟨b', o', h1, h2⟩ := h.at hn
  rw [h1] at ha
  injection ha with ha
  injection ha with ha _
  subst ha
  exact Go.Proofs.YtnaamljflcgepaaGreatDoor.inHeap (h2 0 0 hn (by decide))
theorem Fo.set {W y : World} {q6 q8 n : Nat} {a : Option Addr} {p : Nat → Hx} {r : Hx} (h : Fo W q6 q8 n a p r y) (x : Hx) : Fo W q6 q8 n a p x (y.setRow q8 (tab 32 fun j => bv (x j))) := by
  have h6 := h.g6
  have h8 := h.g8
  refine ⟨h.s8.row, h.s6.rowOther (by omega), ?_, below_setRow h.below (by omega) _, h.g6, h.g8, h.old⟩
  rcases h.hp with h1 | ⟨b, o, h1, h2⟩
  · exact .inl h1
  · rcases Nat.eq_zero_or_pos n with h0 | h0
    · exact .inl h0
    · refine .inr ⟨b, o, h1, fun k j hk hj => ?_⟩
      have hb := h.old b o h1 h0
      rw [cell_setRow_other _ _ _ _ (show b ≠ q8 by omega)]; exact h2 k j hk hj
end Mk
end Go.Proofs.YtnaamljflcgepaaGreatDoor
/-
  mootref05: Zero, Wrong, Zeros, Under. Own work.
-/
namespace Go.Proofs.YtnaamljflcgepaaGreatDoor
open Go.RowKit
set_option linter.unusedVariables false
set_option linter.unusedSimpArgs false
namespace Mk
open Kc
theorem load32r {y : World} {q : Nat} {x : Hx} (h : IsTab y q 28 32 fun i => bv (x i)) : (Instr.loadAt 28 (.pointer (some ⟨q, 0, none⟩))).run Tryz.prog y = .ok (dv x) y :=
  loadR (at5_of (n := 1) (f := fun _ => x) (m := 32) (h.cong fun i hi => by unfold hc; rw [show i % 32 = i from by omega]) (by omega)) (k := 0) (by omega) rfl
/-! ## Under -/
structure Un (W : World) (q8 n m : Nat) (a b : Option Addr) (f : Nat → Hx) (y : World) : Prop where
  s8 : IsTab y q8 28 32 fun _ => bv 0#8
  hf : IsHs y a n f
  hz : IsHs y b m zero
  below : Below W.heap.size W y
  g8 : W.heap.size ≤ q8
theorem Un.next {W y y' : World} {q8 n m : Nat} {a b : Option Addr} {f : Nat → Hx} (h : Un W q8 n m a b f y) (hb : Below y.heap.size y y') : Un W q8 n m a b f y' :=
  ⟨h.s8.below hb, h.hf.below hb, h.hz.below hb, bl h.below hb, h.g8⟩
end Mk
end Go.Proofs.YtnaamljflcgepaaGreatDoor
/-
  mootref05: Zero, Zeros, Root. Own work.
-/
namespace Go.Proofs.YtnaamljflcgepaaGreatDoor
open Go.RowKit
set_option linter.unusedVariables false
set_option linter.unusedSimpArgs false
section
variable {P : Program}
theorem wp_build1 {op : Oper} {a : Act} {w : World} {K : Act → World → Prop} {Q : Exit → Act → World → Prop} (t : TypeId) (x : Operand) (ho : op.op = .buildSlice t 1 #[(0, x)]) (p v : Value) (hx : a.eval x = p) (w' : World) (hl : (Instr.buildSlice t 1 #[(0, p)]).run P w = .ok v w')
    (h : K (a.put op.dst v) w') : op.wp P a w K Q := by
  unfold Oper.wp execOp
  simp only [ho, List.map_toArray, List.map_cons, List.map_nil, hx]
  simp [hl]
  exact h
end
namespace Mk
open Kc
structure Zs (W : World) (k : Nat) (V : Value) (y : World) : Prop where
  row : y.ownsRow W.heap.size 28 32 V k (flat k zero)
  below : Below W.heap.size W y
theorem Zs.next {W y y' : World} {k : Nat} {V : Value} (h : Zs W k V y) (hb : Below y.heap.size y y') : Zs W k V y' :=
  ⟨(Kept.ofBelow (S := fun _ => False) hb).row h.row (fun _ _ h => h), bl h.below hb⟩
theorem Zs.drew {W y : World} {k : Nat} {V : Value} (h : Zs W k V y) : Zs W k V y.drew := ⟨h.row, h.below.drew⟩
end Mk
end Go.Proofs.YtnaamljflcgepaaGreatDoor
/-
  mootlaw05.hashes. Own work.
-/
namespace Go.Proofs.YtnaamljflcgepaaGreatDoor
open Go.RowKit
set_option linter.unusedVariables false
set_option linter.unusedSimpArgs false
namespace Mk
open Kc
structure Hh (W : World) (n k : Nat) (a : Option Addr) (f : Nat → Hx) (V : Value) (y : World) : Prop where
  hf : IsHs y a n f
  row : y.ownsRow W.heap.size 29 32 V k (flat k f)
  below : Below W.heap.size W y
theorem Hh.next {W y y' : World} {n k : Nat} {a : Option Addr} {f : Nat → Hx} {V : Value} (h : Hh W n k a f V y) (hb : Below y.heap.size y y') : Hh W n k a f V y' :=
  ⟨h.hf.below hb, (Kept.ofBelow (S := fun _ => False) hb).row h.row (fun _ _ h => h), bl h.below hb⟩
end Mk
end Go.Proofs.YtnaamljflcgepaaGreatDoor
namespace Go.Proofs.YtnaamljflcgepaaGreatDoor
open Go.ChangeShapes Go.WideShapes Go.RowKit
set_option linter.unusedVariables false
namespace Kc
section
variable {H : Type} {enc : TypeId × Value → H} {P : Program} {w : World} {r : Reach} {base base' : Nat} {spare : Nat → Bool} {held : Bool}
end
end Kc
end Go.Proofs.YtnaamljflcgepaaGreatDoor
namespace Go.Proofs.YtnaamljflcgepaaGreatDoor
open Go.RowKit
set_option linter.unusedVariables false
set_option linter.unusedSimpArgs false
section
variable {P : Program}
end
namespace Mk
open Kc
/-- A digest that begins with a byte. -/
def one (b : Bt) : Hx := fun i => if i = 0 then b else 0#8
theorem buildH2 (x y : Hx) (w : World) : (Instr.buildSlice 177 2 #[(0, dv x), (1, dv y)]).run Tryz.prog w = .ok (.slice (some ⟨w.heap.size, 0, none⟩) 2 2) (w.alloc (.cells (tab 64 (hc fun k => if k = 0 then x else y)) 29)) := by kernel_rfl
structure Fx (W : World) (q1 : Nat) (r : Hx) (y : World) : Prop where
  s1 : IsTab y q1 29 32 fun i => bv (r i)
  below : Below W.heap.size W y
theorem Fx.next {W y y' : World} {q1 : Nat} {r : Hx} (h : Fx W q1 r y) (hb : Below y.heap.size y y') : Fx W q1 r y' := ⟨h.s1.below hb, bl h.below hb⟩
end Mk
end Go.Proofs.YtnaamljflcgepaaGreatDoor
/-
  A slice of digests that comes in. Own work, over the guide's lemmas of slices and arrays.
-/
namespace Go.Proofs.YtnaamljflcgepaaGreatDoor
open Go.ChangeShapes Go.WideShapes Go.Deep Go.RowKit
set_option linter.unusedVariables false
namespace Mk
open Kc
section
variable {H : Type} {enc : TypeId × Value → H} {P : Program} {w : World} {base : Nat} {spare : Nat → Bool} {held : Bool}
end
end Mk
end Go.Proofs.YtnaamljflcgepaaGreatDoor
