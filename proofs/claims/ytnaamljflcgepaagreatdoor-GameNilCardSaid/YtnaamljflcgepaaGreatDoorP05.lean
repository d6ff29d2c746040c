/- Merged of Mp As Why Asf Qa Ors. Own work. -/
import Derived.Test.YtnaamljflcgepaaGreatDoorP04
import Derived.Laws.Bits64
import Derived.Test.YtnaamljflcgepaaGreatDoorP02
import Derived.Test.YtnaamljflcgepaaGreatDoorRows
import Derived.Test.YtnaamljflcgepaaGreatDoorP01
import Derived.WalkKit
import Derived.LaidEql
import Derived.Stop.Asserts
import Derived.RowKitTokens
import Derived.Outline
import Derived.Test.YtnaamljflcgepaaGreatDoorP03
namespace Go.Proofs.YtnaamljflcgepaaGreatDoor
open Go.RowKit
set_option linter.unusedVariables false
set_option linter.unusedSimpArgs false
namespace Mk
open Kc
/-- The state of the law: the leaf that came in, the leaves of the call's own, the path. -/
structure Mq (W : World) (q7 B N : Nat) (x : Hx) (f : Nat → Hx) (V9 : Value) (y : World) : Prop where
  s7 : IsTab y q7 28 32 fun i => bv (x i)
  row : y.ownsRow W.heap.size 29 32 V9 N (flat N f)
  top : ∀ k, V9.ownBlock = some k → q7 < k ∧ k < B
  below : Below W.heap.size W y
  g7 : W.heap.size ≤ q7
  b7 : q7 < B
  bB : B ≤ y.heap.size
theorem Mq.next {W y y' : World} {q7 B N : Nat} {x : Hx} {f : Nat → Hx} {V9 : Value} (h : Mq W q7 B N x f V9 y) (hb : Below y.heap.size y y') : Mq W q7 B N x f V9 y' :=
  ⟨h.s7.below hb, (Kept.ofBelow (S := fun _ => False) hb).row h.row (fun _ _ h => h), h.top, bl h.below hb, h.g7, h.b7, Nat.le_trans h.bB hb.size⟩
/-- With the path and the root. -/
structure Mr (W : World) (q7 B N D q12 : Nat) (x r : Hx) (f p : Nat → Hx) (V9 : Value) (a10 : Option Addr) (y : World) : Prop where
  mq : Mq W q7 B N x f V9 y
  hp : IsHs y a10 D p
  s12 : IsTab y q12 29 32 fun i => bv (r i)
  g12 : B ≤ q12
  ph : ∀ b o, a10 = some ⟨b, o, none⟩ → 0 < D → B ≤ b
theorem Mr.next {W y y' : World} {q7 B N D q12 : Nat} {x r : Hx} {f p : Nat → Hx} {V9 : Value} {a10 : Option Addr} (h : Mr W q7 B N D q12 x r f p V9 a10 y) (hb : Below y.heap.size y y') : Mr W q7 B N D q12 x r f p V9 a10 y' :=
  ⟨h.mq.next hb, h.hp.below hb, h.s12.below hb, h.g12, h.ph⟩
/-- The same, while the leaves grow: e is the leaves with noughts behind, M of them are there. -/
structure Ms (W : World) (q7 D q12 M : Nat) (x r : Hx) (e p : Nat → Hx) (V9 : Value) (a10 : Option Addr) (y : World) : Prop where
  s7 : IsTab y q7 28 32 fun i => bv (x i)
  s12 : IsTab y q12 29 32 fun i => bv (r i)
  hp : IsHs y a10 D p
  row : y.ownsRow W.heap.size 29 32 V9 M (flat M e)
  top : ∀ k, V9.ownBlock = some k → k ≠ q7 ∧ k ≠ q12 ∧ ∀ b o, a10 = some ⟨b, o, none⟩ → 0 < D → k ≠ b
  below : Below W.heap.size W y
  g7 : W.heap.size ≤ q7
  g12 : W.heap.size ≤ q12
theorem Ms.next {W y y' : World} {q7 D q12 M : Nat} {x r : Hx} {e p : Nat → Hx} {V9 : Value} {a10 : Option Addr} (h : Ms W q7 D q12 M x r e p V9 a10 y) (hb : Below y.heap.size y y') : Ms W q7 D q12 M x r e p V9 a10 y' :=
  ⟨h.s7.below hb, h.s12.below hb, h.hp.below hb, (Kept.ofBelow (S := fun _ => False) hb).row h.row (fun _ _ h => h), h.top, bl h.below hb, h.g7, h.g12⟩
theorem Ms.grown {W y y' : World} {q7 D q12 M : Nat} {x r : Hx} {e p : Nat → Hx} {V9 V' : Value} {a10 : Option Addr} (h : Ms W q7 D q12 M x r e p V9 a10 y) (hown : y'.ownsRow W.heap.size 29 32 V' (M + 1) (flat (M + 1) e)) (hg : y.grownBy y' V9.ownBlock)
    (hat : ∀ k, V'.ownBlock = some k → V9.ownBlock = some k ∨ k = y.heap.size) : Ms W q7 D q12 (M + 1) x r e p V' a10 y' := by
  have hk : Kept (fun k => V9.ownBlock = some k) y y' := ⟨hg.os, hg.tape, hg.output, hg.size, fun k hk hn => hg.block k hk (fun e => hn e.symm)⟩
  refine ⟨kept_tab h.s7 hk (fun e => (h.top _ e).1 rfl), kept_tab h.s12 hk (fun e => (h.top _ e).2.1 rfl), ?_, hown, fun k hk' => ?_, ((Kept.ofBelow (S := fun k => V9.ownBlock = some k) h.below).trans hk (fun _ _ h => h)).below (Nat.le_refl _) (fun j hj e => (h.row.lt j e).1), h.g7, h.g12⟩
  · rcases h.hp with h0 | ⟨b, o, h1, h2⟩
    · exact .inl h0
    · rcases Nat.eq_zero_or_pos D with h0 | h0
      · exact .inl h0
      · exact .inr ⟨b, o, h1, h2.keep fun i v hv => hk.cell (fun e => (h.top _ e).2.2 b o h1 h0 rfl) hv⟩
  · rcases hat k hk' with h1 | h1
    · exact h.top k h1
    · subst h1
      refine ⟨by have := h.s7.lt; omega, by have := h.s12.lt; omega, fun b o h1 h0 => ?_⟩
      have := h.hp.inHeap b o h1 h0
      omega
/-- Behind the store: what the law still reads. -/
structure Mz (W : World) (D q12 q14 q15 M : Nat) (r nx : Hx) (g p : Nat → Hx) (b9 : Nat) (a10 : Option Addr) (y : World) : Prop where
  s12 : IsTab y q12 29 32 fun i => bv (r i)
  s14 : IsTab y q14 29 32 fun i => bv (r i)
  s15 : IsTab y q15 29 32 fun i => bv (nx i)
  hs : IsHs y (some ⟨b9, 0, none⟩) M g
  hp : IsHs y a10 D p
  below : Below W.heap.size W y
theorem Mz.next {W y y' : World} {D q12 q14 q15 M : Nat} {r nx : Hx} {g p : Nat → Hx} {b9 : Nat} {a10 : Option Addr} (h : Mz W D q12 q14 q15 M r nx g p b9 a10 y) (hb : Below y.heap.size y y') : Mz W D q12 q14 q15 M r nx g p b9 a10 y' :=
  ⟨h.s12.below hb, h.s14.below hb, h.s15.below hb, h.hs.below hb, h.hp.below hb, bl h.below hb⟩
section
variable {ops : Array Oper} {rest : List Oper} {op : Oper} {a : Act} {w : World} {Q : Exit → Act → World → Prop}
theorem wpList_eqG (hw : Region.wanted op (yielded ops a.tmps) = true) (x y : Operand) (yt : TypeId) (z1 z2 : Hx) (ho : op.op = .binOp .eql 29 x y yt) (hx : a.eval x = dv z1) (hy : a.eval y = dv z2)
    (h : wpList Tryz.prog ops Q rest (a.put op.dst (.bool (same32 z1 z2))) w) : wpList Tryz.prog ops Q (op :: rest) a w :=
  wpList_step fun K hK => by
    rw [if_pos hw]
    unfold Oper.wp execOp
    simp only [ho, hx, hy]
    have e : (binOp .eql 29 (dv z1) (dv z2)).run Tryz.prog w = .ok (.bool (same32 z1 z2)) w := eql32 z1 z2 w
    simp [guardE, e]
    exact hK _ _ h
end
end Mk
end Go.Proofs.YtnaamljflcgepaaGreatDoor
/-
  MerkleProves for what comes in. Own work.
-/
namespace Go.Proofs.YtnaamljflcgepaaGreatDoor
open Go.RowKit
set_option linter.unusedVariables false
end Go.Proofs.YtnaamljflcgepaaGreatDoor
/-
  mootlaw05: number, same; mootref05.Fold. Own work.
-/
namespace Go.Proofs.YtnaamljflcgepaaGreatDoor
open Go.RowKit
set_option linter.unusedVariables false
set_option linter.unusedSimpArgs false
namespace Mk
open Kc
/-- The running value of mootref05.Fold, its result's box, the path. -/
structure Fr (W : World) (q4 q6 n : Nat) (a : Option Addr) (p : Nat → Hx) (r : Hx) (y : World) : Prop where
  s4 : IsTab y q4 28 32 fun i => bv (r i)
  s6 : IsTab y q6 28 32 fun _ => bv 0#8
  hp : IsHs y a n p
  below : Below W.heap.size W y
  g4 : W.heap.size ≤ q4
  g6 : q4 < q6
  old : ∀ b o, a = some ⟨b, o, none⟩ → 0 < n → b < W.heap.size
theorem Fr.next {W y y' : World} {q4 q6 n : Nat} {a : Option Addr} {p : Nat → Hx} {r : Hx} (h : Fr W q4 q6 n a p r y) (hb : Below y.heap.size y y') : Fr W q4 q6 n a p r y' :=
  ⟨h.s4.below hb, h.s6.below hb, h.hp.below hb, bl h.below hb, h.g4, h.g6, h.old⟩
theorem Fr.drew {W y : World} {q4 q6 n : Nat} {a : Option Addr} {p : Nat → Hx} {r : Hx} (h : Fr W q4 q6 n a p r y) : Fr W q4 q6 n a p r y.drew :=
  ⟨h.s4, h.s6, h.hp, h.below.drew, h.g4, h.g6, h.old⟩
set_option maxRecDepth 100000 in
theorem Fr.set {W y : World} {q4 q6 n : Nat} {a : Option Addr} {p : Nat → Hx} {r : Hx} (h : Fr W q4 q6 n a p r y) (x : Hx) : Fr W q4 q6 n a p x (y.setRow q4 (tab 32 fun j => bv (x j))) := by
  have h4 := h.g4
  have h6 := h.g6
  refine ⟨h.s4.row, h.s6.rowOther (by omega), ?_, below_setRow h.below (by omega) _, h.g4, h.g6, h.old⟩
  rcases h.hp with h1 | ⟨b, o, h1, h2⟩
  · exact .inl h1
  · rcases Nat.eq_zero_or_pos n with h0 | h0
    · exact .inl h0
    · refine .inr ⟨b, o, h1, fun k j hk hj => ?_⟩
      have hb := h.old b o h1 h0
      rw [cell_setRow_other _ _ _ _ (show b ≠ q4 by omega)]; exact h2 k j hk hj
set_option maxRecDepth 100000 in
theorem Fr.load {W y : World} {q4 q6 n : Nat} {b o : Nat} {p : Nat → Hx} {r : Hx} (h : Fr W q4 q6 n (some ⟨b, o, none⟩) p r y) {k : Nat} (hk : k < n) : (Instr.loadAt 28 (.pointer (some ⟨b, o + k * 32, none⟩))).run Tryz.prog y = .ok (dv (p k)) y := by
  obtain ⟨b3, o3, e5, h5⟩ := h.hp.at hk
  injection e5 with e5
  injection e5 with e6 e7
  subst e6 e7
  exact loadR h5 (k := k) (p := o + k * 32) hk (by omega)
/-- Two lists of digests in a memory that grows. -/
structure Two (W : World) (a b : Option Addr) (n : Nat) (f : Nat → Hx) (y : World) : Prop where
  ha : IsHs y a n f
  hb : IsHs y b n f
  below : Below W.heap.size W y
theorem Two.drew {W y : World} {a b : Option Addr} {n : Nat} {f : Nat → Hx} (h : Two W a b n f y) : Two W a b n f y.drew := ⟨h.ha, h.hb, h.below.drew⟩
/-- What mootref05.Path gathers. -/
structure Pg (W : World) (g : Nat → Hx) (k : Nat) (V : Value) (y : World) : Prop where
  row : y.ownsRow W.heap.size 28 32 V k (flat k g)
  below : Below W.heap.size W y
theorem Pg.next {W y y' : World} {g : Nat → Hx} {k : Nat} {V : Value} (h : Pg W g k V y) (hb : Below y.heap.size y y') : Pg W g k V y' :=
  ⟨(Kept.ofBelow (S := fun _ => False) hb).row h.row (fun _ _ h => h), bl h.below hb⟩
end Mk
end Go.Proofs.YtnaamljflcgepaaGreatDoor
/-
  mootref05.Path for whatever comes in; what a law keeps: rows of digests, boxed digests. Own work.
-/
namespace Go.Proofs.YtnaamljflcgepaaGreatDoor
open Go.RowKit
set_option linter.unusedVariables false
set_option linter.unusedSimpArgs false
namespace Mk
open Kc
/-- Rows of digests, boxed digests, the old memory. -/
structure Mb (W : World) (rs : List (Option Addr × Nat × (Nat → Hx))) (l : List (Nat × Nat × Hx)) (y : World) : Prop where
  hs : ∀ r ∈ rs, IsHs y r.1 r.2.1 r.2.2
  ts : ∀ p ∈ l, IsTab y p.1 p.2.1 32 fun i => bv (p.2.2 i)
  below : Below W.heap.size W y
section
variable {W y y' : World} {rs : List (Option Addr × Nat × (Nat → Hx))} {l : List (Nat × Nat × Hx)}
theorem Mb.next (h : Mb W rs l y) (hb : Below y.heap.size y y') : Mb W rs l y' :=
  ⟨fun r hr => (h.hs r hr).below hb, fun p hp => (h.ts p hp).below hb, bl h.below hb⟩
theorem Mb.drew (h : Mb W rs l y) : Mb W rs l y.drew := ⟨h.hs, h.ts, h.below.drew⟩
theorem Mb.row {a : Option Addr} {n : Nat} {f : Nat → Hx} (h : Mb W rs l y) (hr : IsHs y a n f) : Mb W ((a, n, f) :: rs) l y :=
  ⟨fun r hm => (List.mem_cons.1 hm).elim (fun e => by rw [e]; exact hr) (h.hs r), h.ts, h.below⟩
theorem Mb.add (h : Mb W rs l y) (T : Nat) (x : Hx) : Mb W rs ((y.heap.size, T, x) :: l) (y.alloc (.cells (tab 32 fun i => bv (x i)) T)) := by
  have hb : Below y.heap.size y (y.alloc (.cells (tab 32 fun i => bv (x i)) T)) := (Below.refl _ _).alloc (Nat.le_refl _) _
  refine ⟨fun r hr => (h.hs r hr).below hb, fun p hp => ?_, bl h.below hb⟩
  rcases List.mem_cons.1 hp with rfl | hp
  · exact IsTab.new y T 32 fun i => bv (x i)
  · exact (h.ts p hp).below hb
theorem Mb.loadH {q : Nat} {x : Hx} (h : Mb W rs l y) (hp : (q, 29, x) ∈ l) : (Instr.loadAt 29 (.pointer (some ⟨q, 0, none⟩))).run Tryz.prog y = .ok (dv x) y :=
  load32h (h.ts (q, 29, x) hp)
theorem Mb.loadR {q : Nat} {x : Hx} (h : Mb W rs l y) (hp : (q, 28, x) ∈ l) : (Instr.loadAt 28 (.pointer (some ⟨q, 0, none⟩))).run Tryz.prog y = .ok (dv x) y :=
  load32r (h.ts (q, 28, x) hp)
theorem Mb.at {a : Option Addr} {n : Nat} {f : Nat → Hx} (h : Mb W rs l y) (hr : (a, n, f) ∈ rs) : IsHs y a n f := h.hs _ hr
end
section
variable {ops : Array Oper} {rest : List Oper} {op : Oper} {a : Act} {w : World} {Q : Exit → Act → World → Prop}
end
end Mk
end Go.Proofs.YtnaamljflcgepaaGreatDoor
namespace Go.Proofs.YtnaamljflcgepaaGreatDoor
open Go.RowKit Go.Extern.Stop Go.Stop Go.Extern
namespace As
noncomputable def valueOfM : Array Value → Sem Value := fun args => ReflectliteValue.unpack (args.getD 0 (.tuple #[]))
noncomputable def typeM : Array Value → Sem Value := ReflectliteValue.methodAny (ReflectliteValue.valueError "reflectlite.Value.Type" 0) fun t _ _ _ => ReflectliteType.toType t
noncomputable def isNilM : Array Value → Sem Value := ReflectliteValue.method (ReflectliteValue.valueError "reflectlite.Value.IsNil" 0) ReflectliteValue.isNil
noncomputable def elemVM : Array Value → Sem Value := ReflectliteValue.method (ReflectliteValue.valueError "reflectlite.Value.Elem" 0) ReflectliteValue.elem
noncomputable def setM : Array Value → Sem Value := ReflectliteValue.set
noncomputable def kindM : Array Value → Sem Value := ReflectliteType.abiMethod fun t => do pure (.int .u8 (← Rtype.kind t))
noncomputable def elemM : Array Value → Sem Value := ReflectliteType.method ReflectliteType.elem
noncomputable def implM : Array Value → Sem Value := ReflectliteType.relation "Implements" ReflectliteType.implements_
noncomputable def asgM : Array Value → Sem Value := ReflectliteType.relation "AssignableTo" ReflectliteType.assignableTo
noncomputable def typeOfM : Array Value → Sem Value := ReflectliteType.typeOf

theorem valueOfPE (t : Addr) (w : World) : (valueOfM #[.iface 126 (.pointer (some t))]).run Tryz.prog w = .ok (.agg #[.pointer (some ⟨4, 126, none⟩), .pointer (some ⟨w.heap.size, 0, none⟩), .int .u64 150]) (w.alloc (.cells #[.pointer (some t)] 126)) := by kernel_rfl
theorem typePE (a : Addr) (w : World) : (typeM #[.agg #[.pointer (some ⟨4, 126, none⟩), .pointer (some a), .int .u64 150]]).run Tryz.prog w = .ok (.iface 109 (.agg #[.pointer (some ⟨4, 126, none⟩)])) w := by kernel_rfl
theorem kindPE (w : World) : (kindM #[.pointer (some ⟨4, 126, none⟩)]).run Tryz.prog w = .ok (.int .u8 22) w := by kernel_rfl
theorem valueOfPPF (t : Addr) (w : World) : (valueOfM #[.iface 127 (.pointer (some t))]).run Tryz.prog w = .ok (.agg #[.pointer (some ⟨4, 127, none⟩), .pointer (some ⟨w.heap.size, 0, none⟩), .int .u64 150]) (w.alloc (.cells #[.pointer (some t)] 127)) := by kernel_rfl
theorem typePPF (a : Addr) (w : World) : (typeM #[.agg #[.pointer (some ⟨4, 127, none⟩), .pointer (some a), .int .u64 150]]).run Tryz.prog w = .ok (.iface 109 (.agg #[.pointer (some ⟨4, 127, none⟩)])) w := by kernel_rfl
theorem kindPPF (w : World) : (kindM #[.pointer (some ⟨4, 127, none⟩)]).run Tryz.prog w = .ok (.int .u8 22) w := by kernel_rfl
theorem kindE (w : World) : (kindM #[.pointer (some ⟨4, 55, none⟩)]).run Tryz.prog w = .ok (.int .u8 2) w := by kernel_rfl
theorem kindPF (w : World) : (kindM #[.pointer (some ⟨4, 61, none⟩)]).run Tryz.prog w = .ok (.int .u8 22) w := by kernel_rfl
theorem methodKind (h : Value) (w : World) : (Go.method 352 109 (.agg #[h]) "Kind").run Tryz.prog w = .ok (115, h) w := by kernel_rfl
theorem methodElem (h : Value) (w : World) : (Go.method 352 109 (.agg #[h]) "Elem").run Tryz.prog w = .ok (125, .agg #[h]) w := by kernel_rfl
theorem methodImplements (h : Value) (w : World) : (Go.method 352 109 (.agg #[h]) "Implements").run Tryz.prog w = .ok (126, .agg #[h]) w := by kernel_rfl
theorem methodAssignableTo (h : Value) (w : World) : (Go.method 352 109 (.agg #[h]) "AssignableTo").run Tryz.prog w = .ok (123, .agg #[h]) w := by kernel_rfl
theorem rlm (z : Sem Value) (f : TypeId → Addr → Nat → Nat → Sem Value) (v : Value) :
    ReflectliteValue.method z f #[v] = (do match ← ReflectliteValue.parts v with | none => z | some (t, a, fl) => f t a fl (fl % 32)) := rfl
theorem partsPE (a : Addr) (w : World) : (ReflectliteValue.parts (.agg #[.pointer (some ⟨4, 126, none⟩), .pointer (some a), .int .u64 150])).run Tryz.prog w = .ok (some (126, a, 150)) w := by kernel_rfl
theorem isNilPE (a p : Addr) (W : World) (ha : W.cell? a = some (.pointer (some p))) : (isNilM #[.agg #[.pointer (some ⟨4, 126, none⟩), .pointer (some a), .int .u64 150]]).run Tryz.prog W = .ok (.bool false) W := by
  unfold isNilM
  rw [rlm]
  simp only [Sem.run_bind, partsPE, Result.andThen]
  simp [ReflectliteValue.isNil, loadVar, isAgg, underlying, Tryz.underlying126, ha, Result.andThen]
theorem elemPE (w : World) : (elemM #[.agg #[.pointer (some ⟨4, 126, none⟩)]]).run Tryz.prog w = .ok (.iface 109 (.agg #[.pointer (some ⟨4, 55, none⟩)])) w := by kernel_rfl
theorem implE (w : World) : (implM #[.agg #[.pointer (some ⟨4, 55, none⟩)], .iface 109 (.agg #[.pointer (some ⟨4, 25, none⟩)])]).run Tryz.prog w = .ok (.bool true) w := by kernel_rfl
theorem elemOfPE (w : World) : (Rtype.elem? 126).run Tryz.prog w = .ok (some 55) w := by kernel_rfl
theorem mkE (p : Addr) (w : World) : (ReflectliteValue.mk 55 p ReflectliteValue.flagAddr).run Tryz.prog w = .ok (.agg #[.pointer (some ⟨4, 55, none⟩), .pointer (some p), .int .u64 386]) w := by kernel_rfl
theorem elemVPE (a p : Addr) (W : World) (ha : W.cell? a = some (.pointer (some p))) : (elemVM #[.agg #[.pointer (some ⟨4, 126, none⟩), .pointer (some a), .int .u64 150]]).run Tryz.prog W = .ok (.agg #[.pointer (some ⟨4, 55, none⟩), .pointer (some p), .int .u64 386]) W := by
  unfold elemVM
  rw [rlm]
  simp only [Sem.run_bind, partsPE, Result.andThen]
  simp [ReflectliteValue.elem, loadVar, isAgg, underlying, Tryz.underlying126, ha, Result.andThen, elemOfPE, mkE]
theorem partsPPF (a : Addr) (w : World) : (ReflectliteValue.parts (.agg #[.pointer (some ⟨4, 127, none⟩), .pointer (some a), .int .u64 150])).run Tryz.prog w = .ok (some (127, a, 150)) w := by kernel_rfl
theorem isNilPPF (a p : Addr) (W : World) (ha : W.cell? a = some (.pointer (some p))) : (isNilM #[.agg #[.pointer (some ⟨4, 127, none⟩), .pointer (some a), .int .u64 150]]).run Tryz.prog W = .ok (.bool false) W := by
  unfold isNilM
  rw [rlm]
  simp only [Sem.run_bind, partsPPF, Result.andThen]
  simp [ReflectliteValue.isNil, loadVar, isAgg, underlying, Tryz.underlying127, ha, Result.andThen]
theorem elemPPF (w : World) : (elemM #[.agg #[.pointer (some ⟨4, 127, none⟩)]]).run Tryz.prog w = .ok (.iface 109 (.agg #[.pointer (some ⟨4, 61, none⟩)])) w := by kernel_rfl
theorem implPF (w : World) : (implM #[.agg #[.pointer (some ⟨4, 61, none⟩)], .iface 109 (.agg #[.pointer (some ⟨4, 25, none⟩)])]).run Tryz.prog w = .ok (.bool true) w := by kernel_rfl
theorem elemOfPPF (w : World) : (Rtype.elem? 127).run Tryz.prog w = .ok (some 61) w := by kernel_rfl
theorem mkPF (p : Addr) (w : World) : (ReflectliteValue.mk 61 p ReflectliteValue.flagAddr).run Tryz.prog w = .ok (.agg #[.pointer (some ⟨4, 61, none⟩), .pointer (some p), .int .u64 406]) w := by kernel_rfl
theorem elemVPPF (a p : Addr) (W : World) (ha : W.cell? a = some (.pointer (some p))) : (elemVM #[.agg #[.pointer (some ⟨4, 127, none⟩), .pointer (some a), .int .u64 150]]).run Tryz.prog W = .ok (.agg #[.pointer (some ⟨4, 61, none⟩), .pointer (some p), .int .u64 406]) W := by
  unfold elemVM
  rw [rlm]
  simp only [Sem.run_bind, partsPPF, Result.andThen]
  simp [ReflectliteValue.elem, loadVar, isAgg, underlying, Tryz.underlying127, ha, Result.andThen, elemOfPPF, mkPF]
theorem typeOfE (v : Value) (w : World) : (typeOfM #[.iface 55 v]).run Tryz.prog w = .ok (.iface 109 (.agg #[.pointer (some ⟨4, 55, none⟩)])) w := by kernel_rfl
theorem typeOfPF (v : Value) (w : World) : (typeOfM #[.iface 61 v]).run Tryz.prog w = .ok (.iface 109 (.agg #[.pointer (some ⟨4, 61, none⟩)])) w := by kernel_rfl
theorem asgEE (w : World) : (asgM #[.agg #[.pointer (some ⟨4, 55, none⟩)], .iface 109 (.agg #[.pointer (some ⟨4, 55, none⟩)])]).run Tryz.prog w = .ok (.bool true) w := by kernel_rfl
theorem asgPFE (w : World) : (asgM #[.agg #[.pointer (some ⟨4, 61, none⟩)], .iface 109 (.agg #[.pointer (some ⟨4, 55, none⟩)])]).run Tryz.prog w = .ok (.bool false) w := by kernel_rfl
theorem asgPFPF (w : World) : (asgM #[.agg #[.pointer (some ⟨4, 61, none⟩)], .iface 109 (.agg #[.pointer (some ⟨4, 61, none⟩)])]).run Tryz.prog w = .ok (.bool true) w := by kernel_rfl
theorem valueOfE (k : Int) (w : World) : (valueOfM #[.iface 55 (.int .i64 k)]).run Tryz.prog w = .ok (.agg #[.pointer (some ⟨4, 55, none⟩), .pointer (some ⟨w.heap.size, 0, none⟩), .int .u64 130]) (w.alloc (.cells #[.int .i64 k] 55)) := by kernel_rfl
theorem valueOfPF (e : Addr) (w : World) : (valueOfM #[.iface 61 (.pointer (some e))]).run Tryz.prog w = .ok (.agg #[.pointer (some ⟨4, 61, none⟩), .pointer (some ⟨w.heap.size, 0, none⟩), .int .u64 150]) (w.alloc (.cells #[.pointer (some e)] 61)) := by kernel_rfl
theorem rls (v x : Value) : ReflectliteValue.set #[v, x] = (do
    let (some (dst, a, fl), some (src, b, _)) := (← ReflectliteValue.parts v, ← ReflectliteValue.parts x)
      | unsupported (.noEntry "extern/(internal/reflectlite.Value).Set.zeroValue")
    if fl / ReflectliteValue.flagAddr % 2 == 0 then unsupported (.noEntry "extern/(internal/reflectlite.Value).Set.unaddressable")
    let val ← loadVar src b
    if ← Rtype.directlyAssignable dst src then storeVar dst a val
    else if ← Rtype.implements dst src then
      if (← Rtype.kind src) == 20 then
        match val with
        | .nilIface => unsupported (.noEntry "extern/reflectlite: a nil value of one interface type handed on as a value of another")
        | _ => storeVar dst a val
      else storeVar dst a (.iface src val)
    else panicString ("reflectlite.Set: value of type " ++ (← Rtype.spelt src) ++ " is not assignable to type " ++ (← Rtype.spelt dst))
    pure (.tuple #[])) := rfl
theorem partsEa (a : Addr) (w : World) : (ReflectliteValue.parts (.agg #[.pointer (some ⟨4, 55, none⟩), .pointer (some a), .int .u64 386])).run Tryz.prog w = .ok (some (55, a, 386)) w := by kernel_rfl
theorem partsE (a : Addr) (w : World) : (ReflectliteValue.parts (.agg #[.pointer (some ⟨4, 55, none⟩), .pointer (some a), .int .u64 130])).run Tryz.prog w = .ok (some (55, a, 130)) w := by kernel_rfl
theorem directE (w : World) : (Rtype.directlyAssignable 55 55).run Tryz.prog w = .ok true w := by kernel_rfl
theorem setE (ta b : Addr) (k : Int) (old : Value) (W : World) (hb : W.cell? b = some (.int .i64 k)) (ht : W.cell? ta = some old) (hf : W.frozen? ta = false) :
    (setM #[.agg #[.pointer (some ⟨4, 55, none⟩), .pointer (some ta), .int .u64 386], .agg #[.pointer (some ⟨4, 55, none⟩), .pointer (some b), .int .u64 130]]).run Tryz.prog W = .ok (.tuple #[]) (W.setCell ta (.int .i64 k)) := by
  unfold setM
  rw [rls]
  simp only [Sem.run_bind, partsEa, partsE, Result.andThen]
  simp [ReflectliteValue.flagAddr, loadVar, isAgg, underlying, Tryz.underlying55, hb, Result.andThen, directE, storeVar, Value.cells, storeCells, Addr.add]
  rw [run_store Tryz.prog W ta _ _ (by rfl)]
  simp [ht, hf]
theorem partsPFa (a : Addr) (w : World) : (ReflectliteValue.parts (.agg #[.pointer (some ⟨4, 61, none⟩), .pointer (some a), .int .u64 406])).run Tryz.prog w = .ok (some (61, a, 406)) w := by kernel_rfl
theorem partsPF (a : Addr) (w : World) : (ReflectliteValue.parts (.agg #[.pointer (some ⟨4, 61, none⟩), .pointer (some a), .int .u64 150])).run Tryz.prog w = .ok (some (61, a, 150)) w := by kernel_rfl
theorem directPF (w : World) : (Rtype.directlyAssignable 61 61).run Tryz.prog w = .ok true w := by kernel_rfl
theorem setPF (ta b : Addr) (e : Addr) (old : Value) (W : World) (hb : W.cell? b = some (.pointer (some e))) (ht : W.cell? ta = some old) (hf : W.frozen? ta = false) :
    (setM #[.agg #[.pointer (some ⟨4, 61, none⟩), .pointer (some ta), .int .u64 406], .agg #[.pointer (some ⟨4, 61, none⟩), .pointer (some b), .int .u64 150]]).run Tryz.prog W = .ok (.tuple #[]) (W.setCell ta (.pointer (some e))) := by
  unfold setM
  rw [rls]
  simp only [Sem.run_bind, partsPFa, partsPF, Result.andThen]
  simp [ReflectliteValue.flagAddr, loadVar, isAgg, underlying, Tryz.underlying61, hb, Result.andThen, directPF, storeVar, Value.cells, storeCells, Addr.add]
  rw [run_store Tryz.prog W ta _ _ (by rfl)]
  simp [ht, hf]
theorem noAsF (v : Value) (xT : TypeId) (w : World) : (Instr.typeAssert (.iface 61 v) xT 168 true).run Tryz.prog w = .ok (.tuple #[.nilIface, .bool false]) w := run_typeAssert_lacksB Tryz.underlying168 (by kernel_rfl) (by kernel_rfl) v xT w
theorem hasUnwrapF (v : Value) (xT : TypeId) (w : World) : (Instr.typeAssert (.iface 61 v) xT 114 true).run Tryz.prog w = .ok (.tuple #[.iface 61 v, .bool true]) w := run_typeAssert_hasB Tryz.underlying114 (by kernel_rfl) v xT w

end As
end Go.Proofs.YtnaamljflcgepaaGreatDoor
namespace Go.Proofs.YtnaamljflcgepaaGreatDoor
open Go.RowKit
end Go.Proofs.YtnaamljflcgepaaGreatDoor
namespace Go.Proofs.YtnaamljflcgepaaGreatDoor
open Go.RowKit Go.Extern.Stop Go.Stop Go.Extern
namespace As
theorem methodUnwrap (p : Value) (w : World) : (Go.method 352 61 p "Unwrap").run Tryz.prog w = .ok (120, p) w := by kernel_rfl
set_option maxRecDepth 100000 in
set_option maxHeartbeats 4000000 in
/-- errors.As of a fault, at a fault. -/
theorem as_fault_fault (e t : Addr) (old : Value) (w : World) (hg : w.cell? ⟨0, 0, none⟩ = some (.iface 109 (.agg #[.pointer (some ⟨4, 25, none⟩)]))) (ht0 : w.cell? t = some old) (hf0 : w.frozen? t = false) :
    Calls Tryz.prog 44 #[.iface 61 (.pointer (some e)), .iface 127 (.pointer (some t))] w fun ev w' => ev = .returned (.bool true) ∧ ∃ w1, w' = w1.setCell t (.pointer (some e)) ∧ Below w.heap.size w w1 := by
  have x_valueOfM := @run_callFunc_extern Tryz.prog 56 _ valueOfM Tryz.func56 (by kernel_rfl) (by kernel_rfl) (by kernel_rfl) (by kernel_rfl)
  have x_typeM := @run_callFunc_extern Tryz.prog 57 _ typeM Tryz.func57 (by kernel_rfl) (by kernel_rfl) (by kernel_rfl) (by kernel_rfl)
  have x_isNilM := @run_callFunc_extern Tryz.prog 58 _ isNilM Tryz.func58 (by kernel_rfl) (by kernel_rfl) (by kernel_rfl) (by kernel_rfl)
  have x_elemVM := @run_callFunc_extern Tryz.prog 70 _ elemVM Tryz.func70 (by kernel_rfl) (by kernel_rfl) (by kernel_rfl) (by kernel_rfl)
  have x_setM := @run_callFunc_extern Tryz.prog 71 _ setM Tryz.func71 (by kernel_rfl) (by kernel_rfl) (by kernel_rfl) (by kernel_rfl)
  have x_kindM := @run_callFunc_extern Tryz.prog 115 _ kindM Tryz.func115 (by kernel_rfl) (by kernel_rfl) (by kernel_rfl) (by kernel_rfl)
  have x_elemM := @run_callFunc_extern Tryz.prog 125 _ elemM Tryz.func125 (by kernel_rfl) (by kernel_rfl) (by kernel_rfl) (by kernel_rfl)
  have x_implM := @run_callFunc_extern Tryz.prog 126 _ implM Tryz.func126 (by kernel_rfl) (by kernel_rfl) (by kernel_rfl) (by kernel_rfl)
  have x_asgM := @run_callFunc_extern Tryz.prog 123 _ asgM Tryz.func123 (by kernel_rfl) (by kernel_rfl) (by kernel_rfl) (by kernel_rfl)
  have x_typeOfM := @run_callFunc_extern Tryz.prog 23 _ typeOfM Tryz.func23 (by kernel_rfl) (by kernel_rfl) (by kernel_rfl) (by kernel_rfl)
  have tO := typeOfE
  have tOF := typeOfPF
  have mA := methodAssignableTo
  have mK := methodKind
  have mE := methodElem
  have mI := methodImplements
  have y_valueOfPPF := valueOfPPF
  have y_typePPF := typePPF
  have y_kindPPF := kindPPF
  have y_kindE := kindPF
  have y_elemPPF := elemPPF
  have y_implE := implPF
  have y_asgEE := asgPFPF
  have y_valueOfE := valueOfPF
  have hlt : 0 < w.heap.size := by
    rcases Nat.lt_or_ge 0 w.heap.size with h1 | h1
    · exact h1
    · simp [World.cell?, Array.getElem?_eq_none h1] at hg
  have n8 := isNilPPF ⟨w.heap.size, 0, none⟩ t ((w.alloc (.cells #[.pointer (some t)] 127)).alloc (.cells #[.pointer (some ⟨4, 127, none⟩), .pointer (some ⟨w.heap.size, 0, none⟩), .int .u64 150] 145)) (by simp)
  have hg2 : ((w.alloc (.cells #[.pointer (some t)] 127)).alloc (.cells #[.pointer (some ⟨4, 127, none⟩), .pointer (some ⟨w.heap.size, 0, none⟩), .int .u64 150] 145)).cell? ⟨0, 0, none⟩ = some (.iface 109 (.agg #[.pointer (some ⟨4, 25, none⟩)])) := by
    rw [World.cell?_alloc_lt _ _ ⟨0, 0, none⟩ (by simp <;> omega), World.cell?_alloc_lt _ _ ⟨0, 0, none⟩ hlt]; exact hg
  have htl : t.block < w.heap.size := by
    rcases Nat.lt_or_ge t.block w.heap.size with h | h
    · exact h
    · simp [World.cell?, Array.getElem?_eq_none h] at ht0
  have el := elemVPPF ⟨w.heap.size, 0, none⟩ t (((w.alloc (.cells #[.pointer (some t)] 127)).alloc (.cells #[.pointer (some ⟨4, 127, none⟩), .pointer (some ⟨w.heap.size, 0, none⟩), .int .u64 150] 145)).alloc (.cells #[.pointer (some ⟨4, 127, none⟩), .pointer (some ⟨w.heap.size, 0, none⟩), .int .u64 150] 145)) (by rw [World.cell?_alloc_lt _ _ ⟨w.heap.size, 0, none⟩ (by simp; omega)]; simp)
  have st := setPF t ⟨w.heap.size + 1 + 1 + 1, 0, none⟩ e old ((((w.alloc (.cells #[.pointer (some t)] 127)).alloc (.cells #[.pointer (some ⟨4, 127, none⟩), .pointer (some ⟨w.heap.size, 0, none⟩), .int .u64 150] 145)).alloc (.cells #[.pointer (some ⟨4, 127, none⟩), .pointer (some ⟨w.heap.size, 0, none⟩), .int .u64 150] 145)).alloc (.cells #[.pointer (some e)] 61))
    (by rw [World.cell?_alloc_at _ _ _ _ (by simp)]; rfl)
    (by rw [World.cell?_alloc_lt _ _ t (by simp; omega), World.cell?_alloc_lt _ _ t (by simp; omega), World.cell?_alloc_lt _ _ t (by simp; omega), World.cell?_alloc_lt _ _ t htl]; exact ht0)
    (by rw [World.frozen?_alloc_old _ _ t (by simp; omega), World.frozen?_alloc_old _ _ t (by simp; omega), World.frozen?_alloc_old _ _ t (by simp; omega), World.frozen?_alloc_old _ _ t (Nat.ne_of_lt htl)]; exact hf0)
  go_enter Tryz.func44, Tryz.ntmps44
  go_wp2
  refine wp_loop_rounds 1 ?_
  rw [rounds_succ]
  go_wp2
  go_ret
  exact ⟨rfl, _, rfl, by repeat (first | exact Below.refl _ _ | refine Below.alloc ?_ (by simp; try omega) _)⟩
set_option maxRecDepth 100000 in
set_option maxHeartbeats 4000000 in
/-- errors.As of a fault, at a number. -/
theorem as_fault_num (q : Nat) (k : Int) (t : Addr) (old : Value) (w : World) (hg : w.cell? ⟨0, 0, none⟩ = some (.iface 109 (.agg #[.pointer (some ⟨4, 25, none⟩)]))) (ht0 : w.cell? t = some old) (hf0 : w.frozen? t = false) (hq : w.cell? ⟨q, 1, none⟩ = some (.iface 55 (.int .i64 k))) :
    Calls Tryz.prog 44 #[.iface 61 (.pointer (some ⟨q, 0, none⟩)), .iface 126 (.pointer (some t))] w fun ev w' => ev = .returned (.bool true) ∧ ∃ w1, w' = w1.setCell t (.int .i64 k) ∧ Below w.heap.size w w1 := by
  have x_valueOfM := @run_callFunc_extern Tryz.prog 56 _ valueOfM Tryz.func56 (by kernel_rfl) (by kernel_rfl) (by kernel_rfl) (by kernel_rfl)
  have x_typeM := @run_callFunc_extern Tryz.prog 57 _ typeM Tryz.func57 (by kernel_rfl) (by kernel_rfl) (by kernel_rfl) (by kernel_rfl)
  have x_isNilM := @run_callFunc_extern Tryz.prog 58 _ isNilM Tryz.func58 (by kernel_rfl) (by kernel_rfl) (by kernel_rfl) (by kernel_rfl)
  have x_elemVM := @run_callFunc_extern Tryz.prog 70 _ elemVM Tryz.func70 (by kernel_rfl) (by kernel_rfl) (by kernel_rfl) (by kernel_rfl)
  have x_setM := @run_callFunc_extern Tryz.prog 71 _ setM Tryz.func71 (by kernel_rfl) (by kernel_rfl) (by kernel_rfl) (by kernel_rfl)
  have x_kindM := @run_callFunc_extern Tryz.prog 115 _ kindM Tryz.func115 (by kernel_rfl) (by kernel_rfl) (by kernel_rfl) (by kernel_rfl)
  have x_elemM := @run_callFunc_extern Tryz.prog 125 _ elemM Tryz.func125 (by kernel_rfl) (by kernel_rfl) (by kernel_rfl) (by kernel_rfl)
  have x_implM := @run_callFunc_extern Tryz.prog 126 _ implM Tryz.func126 (by kernel_rfl) (by kernel_rfl) (by kernel_rfl) (by kernel_rfl)
  have x_asgM := @run_callFunc_extern Tryz.prog 123 _ asgM Tryz.func123 (by kernel_rfl) (by kernel_rfl) (by kernel_rfl) (by kernel_rfl)
  have x_typeOfM := @run_callFunc_extern Tryz.prog 23 _ typeOfM Tryz.func23 (by kernel_rfl) (by kernel_rfl) (by kernel_rfl) (by kernel_rfl)
  have tO := typeOfE
  have tOF := typeOfPF
  have mA := methodAssignableTo
  have mK := methodKind
  have mE := methodElem
  have mI := methodImplements
  have y_valueOfPE := valueOfPE
  have y_typePE := typePE
  have y_kindPE := kindPE
  have y_kindE := kindE
  have y_elemPE := elemPE
  have y_implE := implE
  have y_asgEE := asgEE
  have y_valueOfE := valueOfE
  have y_asgPFE := asgPFE
  have y_noAsF := noAsF
  have y_hasU := hasUnwrapF
  have y_mU := methodUnwrap
  have hlt : 0 < w.heap.size := by
    rcases Nat.lt_or_ge 0 w.heap.size with h1 | h1
    · exact h1
    · simp [World.cell?, Array.getElem?_eq_none h1] at hg
  have n8 := isNilPE ⟨w.heap.size, 0, none⟩ t ((w.alloc (.cells #[.pointer (some t)] 126)).alloc (.cells #[.pointer (some ⟨4, 126, none⟩), .pointer (some ⟨w.heap.size, 0, none⟩), .int .u64 150] 145)) (by simp)
  have hg2 : ((w.alloc (.cells #[.pointer (some t)] 126)).alloc (.cells #[.pointer (some ⟨4, 126, none⟩), .pointer (some ⟨w.heap.size, 0, none⟩), .int .u64 150] 145)).cell? ⟨0, 0, none⟩ = some (.iface 109 (.agg #[.pointer (some ⟨4, 25, none⟩)])) := by
    rw [World.cell?_alloc_lt _ _ ⟨0, 0, none⟩ (by simp <;> omega), World.cell?_alloc_lt _ _ ⟨0, 0, none⟩ hlt]; exact hg
  have htl : t.block < w.heap.size := by
    rcases Nat.lt_or_ge t.block w.heap.size with h | h
    · exact h
    · simp [World.cell?, Array.getElem?_eq_none h] at ht0
  have el := elemVPE ⟨w.heap.size, 0, none⟩ t (((w.alloc (.cells #[.pointer (some t)] 126)).alloc (.cells #[.pointer (some ⟨4, 126, none⟩), .pointer (some ⟨w.heap.size, 0, none⟩), .int .u64 150] 145)).alloc (.cells #[.pointer (some ⟨4, 126, none⟩), .pointer (some ⟨w.heap.size, 0, none⟩), .int .u64 150] 145)) (by rw [World.cell?_alloc_lt _ _ ⟨w.heap.size, 0, none⟩ (by simp; omega)]; simp)
  have st := setE t ⟨w.heap.size + 1 + 1 + 1, 0, none⟩ k old ((((w.alloc (.cells #[.pointer (some t)] 126)).alloc (.cells #[.pointer (some ⟨4, 126, none⟩), .pointer (some ⟨w.heap.size, 0, none⟩), .int .u64 150] 145)).alloc (.cells #[.pointer (some ⟨4, 126, none⟩), .pointer (some ⟨w.heap.size, 0, none⟩), .int .u64 150] 145)).alloc (.cells #[.int .i64 k] 55))
    (by rw [World.cell?_alloc_at _ _ _ _ (by simp)]; rfl)
    (by rw [World.cell?_alloc_lt _ _ t (by simp; omega), World.cell?_alloc_lt _ _ t (by simp; omega), World.cell?_alloc_lt _ _ t (by simp; omega), World.cell?_alloc_lt _ _ t htl]; exact ht0)
    (by rw [World.frozen?_alloc_old _ _ t (by simp; omega), World.frozen?_alloc_old _ _ t (by simp; omega), World.frozen?_alloc_old _ _ t (by simp; omega), World.frozen?_alloc_old _ _ t (Nat.ne_of_lt htl)]; exact hf0)
  have hql : q < w.heap.size := by
    rcases Nat.lt_or_ge q w.heap.size with h1 | h1
    · exact h1
    · simp [World.cell?, Array.getElem?_eq_none h1] at hq
  have hq3 : (((w.alloc (.cells #[.pointer (some t)] 126)).alloc (.cells #[.pointer (some ⟨4, 126, none⟩), .pointer (some ⟨w.heap.size, 0, none⟩), .int .u64 150] 145)).alloc (.cells #[.pointer (some ⟨4, 126, none⟩), .pointer (some ⟨w.heap.size, 0, none⟩), .int .u64 150] 145)).cell? ⟨q, 1, none⟩ = some (.iface 55 (.int .i64 k)) := by
    rw [World.cell?_alloc_lt _ _ ⟨q, 1, none⟩ (by simp; omega), World.cell?_alloc_lt _ _ ⟨q, 1, none⟩ (by simp; omega), World.cell?_alloc_lt _ _ ⟨q, 1, none⟩ hql]; exact hq
  clear hql hq
  go_enter Tryz.func44, Tryz.ntmps44
  go_wp2
  refine wp_loop_rounds 2 ?_
  rw [rounds_succ]
  go_wp2
  rw [rounds_succ]
  go_wp2
  go_ret
  exact ⟨rfl, _, rfl, by repeat (first | exact Below.refl _ _ | refine Below.alloc ?_ (by simp; try omega) _)⟩
end As
namespace Err
end Err
end Go.Proofs.YtnaamljflcgepaaGreatDoor
namespace Go.Proofs.YtnaamljflcgepaaGreatDoor
open Go.RowKit
set_option linter.unusedVariables false
namespace Gm
open Kc Mk
theorem bal (w : World) (o : Obj) : Below w.heap.size w (w.alloc o) := (Below.refl _ _).alloc (Nat.le_refl _) _
/-- A claim: its position is 2^d + i. -/
structure Cl where
  parent : Int
  d : Int
  i : Int
  value : Hx
  player : Int
  bond : Int
  used : Int
  at_ : Int
  stepped : Bool
  resolved : Bool
  countered : Bool
  by_ : Int
def Cl.pos (c : Cl) : Int := 2 ^ c.d.toNat + c.i
def clv (c : Cl) (k : Nat) : Value :=
  if k = 0 then .int .i64 c.parent else if k = 1 then .int .u64 c.pos else if k < 34 then bv (c.value (k - 2)) else
  if k = 34 then .int .i64 c.player else if k = 35 then .int .i64 c.bond else if k = 36 then .int .u64 c.used else if k = 37 then .int .u64 c.at_ else
  if k = 38 then .bool c.stepped else if k = 39 then .bool c.resolved else if k = 40 then .bool c.countered else .int .i64 c.by_
def cl1 (c : Cl) : List Value := (List.range 42).map (clv c)
def cls : List Cl → List Value
  | [] => []
  | c :: t => cl1 c ++ cls t
theorem cl1_len (c : Cl) : (cl1 c).length = 42 := by simp [cl1]
theorem cls_len : ∀ l, (cls l).length = l.length * 42
  | [] => rfl
  | c :: t => by simp only [cls, List.length_append, cl1_len, cls_len t, List.length_cons]; omega
theorem cls_app (l : List Cl) (c : Cl) : cls (l ++ [c]) = cls l ++ cl1 c := by
  induction l with
  | nil => simp [cls]
  | cons y t ih => simp [cls, ih]
theorem cl1_at (c : Cl) {k : Nat} (hk : k < 42) : (cl1 c)[k]? = some (clv c k) := by simp [cl1, hk]
theorem cls_at : ∀ (l : List Cl) (i k : Nat) (h : i < l.length), k < 42 → (cls l)[i * 42 + k]? = some (clv l[i] k)
  | c :: t, 0, k, _, hk => by
    simp only [cls, Nat.zero_mul, Nat.zero_add]
    rw [List.getElem?_append_left (by rw [cl1_len]; exact hk), cl1_at c hk]; rfl
  | c :: t, i + 1, k, h, hk => by
    simp only [cls]
    rw [List.getElem?_append_right (by rw [cl1_len]; omega), cl1_len, show (i + 1) * 42 + k - 42 = i * 42 + k by omega, cls_at t i k (by simpa using h) hk]; rfl
/-- A game: its rules, its ledger's block, its claims. -/
structure GmS where
  depth : Int
  limit : Int
  grace : Int
  start : Hx
  b : Nat
  cs : List Cl
structure IsGm (w : World) (q a c : Nat) (G : GmS) : Prop where
  k0 : w.cell? ⟨q, 0, none⟩ = some (.int .i64 G.depth)
  k1 : w.cell? ⟨q, 1, none⟩ = some (.int .u64 G.limit)
  k2 : w.cell? ⟨q, 2, none⟩ = some (.int .u64 G.grace)
  ks : ∀ i, i < 32 → w.cell? ⟨q, 3 + i, none⟩ = some (bv (G.start i))
  kb : w.cell? ⟨q, 35, none⟩ = some (.pointer (some ⟨G.b, 0, none⟩))
  kv : w.cell? ⟨q, 36, none⟩ = some (.slice (some ⟨a, 0, none⟩) G.cs.length c)
  ne : a ≠ q
  own : w.ownsRow 0 33 42 (.slice (some ⟨a, 0, none⟩) G.cs.length c) G.cs.length (cls G.cs)
  fz : ∀ o, w.frozen? ⟨q, o, none⟩ = false
section
variable {w w' : World} {q a c : Nat} {G : GmS}
theorem IsGm.lt (h : IsGm w q a c G) : q < w.heap.size := inHeap h.k0
theorem IsGm.row (h : IsGm w q a c G) : a ≠ q ∧ a < w.heap.size ∧ G.cs.length ≤ c ∧ ∃ cur : Array Value, w.heap[a]? = some (.cells cur 33 (0, 0)) ∧ cur.toList.take (G.cs.length * 42) = cls G.cs := by
  rcases h.own.2 with ⟨e, _⟩ | ⟨g, cap, cur, e, hb, hg, hn, hm, hs, ht⟩
  · exact absurd e (by simp)
  · injection e with e1 e2 e3
    injection e1 with e1
    injection e1 with e1
    subst e1; subst e3
    exact ⟨h.ne, (Array.getElem?_eq_some_iff.1 hg).1, hn, cur, hg, ht⟩
theorem IsGm.cl (h : IsGm w q a c G) {i k : Nat} (hi : i < G.cs.length) (hk : k < 42) : w.cell? ⟨a, i * 42 + k, none⟩ = some (clv G.cs[i] k) := by
  obtain ⟨_, _, _, cur, hg, ht⟩ := h.row
  rw [cell_of_row w a _ _ _ _ hg]
  have := cls_at G.cs i k hi hk
  rw [← ht, List.getElem?_take] at this
  split at this
  · simpa using this
  · exact absurd this (by simp)
theorem IsGm.kept {S : Nat → Prop} (h : IsGm w q a c G) (hk : Kept S w w') (hq : ¬ S q) (ha : ¬ S a) : IsGm w' q a c G := by
  refine ⟨hk.cell hq h.k0, hk.cell hq h.k1, hk.cell hq h.k2, fun i hi => hk.cell hq (h.ks i hi), hk.cell hq h.kb, hk.cell hq h.kv, h.ne, hk.row h.own (fun k e => ?_), fun o => ?_⟩
  · have e2 : a = k := by simpa [Value.ownBlock] using e
    rw [← e2]; exact ha
  · rw [hk.frozen hq h.lt]; exact h.fz o
theorem IsGm.below (h : IsGm w q a c G) (hb : Below w.heap.size w w') : IsGm w' q a c G := h.kept (S := fun _ => False) (Kept.ofBelow hb) (fun e => e) (fun e => e)
theorem IsGm.drewN (h : IsGm w q a c G) (n : Nat) : IsGm (w.drewN n) q a c G := ⟨h.k0, h.k1, h.k2, h.ks, h.kb, h.kv, h.ne, h.own, h.fz⟩
theorem IsGm.drew (h : IsGm w q a c G) : IsGm w.drew q a c G := ⟨h.k0, h.k1, h.k2, h.ks, h.kb, h.kv, h.ne, h.own, h.fz⟩
end
/-- The pieces that each call keeps: rules in range, positions in the tree, clocks in range, parents ahead. -/
structure GOk (G : GmS) : Prop where
  d0 : 1 ≤ G.depth
  d1 : G.depth ≤ 20
  l0 : 1 ≤ G.limit
  l1 : G.limit ≤ 1099511627776
  g0 : 0 ≤ G.grace
  g1 : G.grace ≤ G.limit
  len : G.cs.length ≤ 64
  cd : ∀ x ∈ G.cs, 0 ≤ x.d ∧ x.d ≤ G.depth
  ci : ∀ x ∈ G.cs, 0 ≤ x.i ∧ x.i < 2 ^ x.d.toNat
  cu : ∀ x ∈ G.cs, 0 ≤ x.used ∧ x.used ≤ 1099511627776
  ca : ∀ x ∈ G.cs, 0 ≤ x.at_ ∧ x.at_ ≤ 1099511627776
  cp : ∀ (i : Nat) (h : i < G.cs.length), -1 ≤ G.cs[i].parent ∧ G.cs[i].parent < i
def GmS.before (G : GmS) (x : Cl) : Int := if x.parent = -1 then 0 else (G.cs[x.parent.toNat]?.map (·.used)).getD 0
theorem GOk.before {G : GmS} (h : GOk G) (x : Cl) : 0 ≤ G.before x ∧ G.before x ≤ 1099511627776 := by
  unfold GmS.before
  split
  · omega
  · cases e : G.cs[x.parent.toNat]? with
    | none => simp
    | some y => exact h.cu y (List.mem_of_getElem? e)
end Gm
end Go.Proofs.YtnaamljflcgepaaGreatDoor
namespace Go.Proofs.YtnaamljflcgepaaGreatDoor
open Go.RowKit
set_option linter.unusedVariables false
section
variable {P : Program} {ops : Array Oper} {Q : Exit → Act → World → Prop}
theorem wpAnyH_weaken {md : Region.Mode} {S S' : World → Prop} (hS : ∀ y, S' y → S y) : ∀ (fuel : Nat) (listed : Array Bool) (a : Act) (w : World), wpAnyH P md ops Q S' fuel listed a w → wpAnyH P md ops Q S fuel listed a w
  | 0, _, _, _, h => h
  | fuel + 1, listed, a, w, h => ⟨h.1, fun i hi => wpOp_mono (fun a' w' h' => ⟨hS _ h'.1, wpAnyH_weaken hS fuel _ a' w' h'.2⟩) (h.2 i hi)⟩
end
end Go.Proofs.YtnaamljflcgepaaGreatDoor
