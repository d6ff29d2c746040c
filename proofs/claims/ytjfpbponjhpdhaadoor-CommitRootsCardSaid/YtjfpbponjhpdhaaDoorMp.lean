/-
  MerkleProves. Own work.
-/
import Derived.Test.YtjfpbponjhpdhaaDoorMj
import Derived.Laws.Bits64
import Derived.Test.YtjfpbponjhpdhaaDoorApz
namespace Go.Proofs.YtjfpbponjhpdhaaDoor
open Go.RowKit
set_option linter.unusedVariables false
set_option linter.unusedSimpArgs false
namespace Mk
open Kc
/-- The state of the law: the leaf that came in, the leaves of the call's own, the path. -/
structure Mq (W : World) (q7 B N : Nat) (x : Hx) (f : Nat → Hx) (V9 : Value) (y : World) : Prop where
  s7 : IsTab y q7 41 32 fun i => bv (x i)
  row : y.ownsRow W.heap.size 42 32 V9 N (flat N f)
  top : ∀ k, V9.ownBlock = some k → q7 < k ∧ k < B
  below : Below W.heap.size W y
  g7 : W.heap.size ≤ q7
  b7 : q7 < B
  bB : B ≤ y.heap.size
theorem Mq.next {W y y' : World} {q7 B N : Nat} {x : Hx} {f : Nat → Hx} {V9 : Value} (h : Mq W q7 B N x f V9 y) (hb : Below y.heap.size y y') : Mq W q7 B N x f V9 y' :=
  ⟨h.s7.below hb, (Kept.ofBelow (S := fun _ => False) hb).row h.row (fun _ _ h => h), h.top, bl h.below hb, h.g7, h.b7, Nat.le_trans h.bB hb.size⟩
/-- With the path and the root. -/
structure Mr (W : World) (q7 B N D q12 : Nat) (x r : Hx) (f p : Nat → Hx) (V9 : Value) (a10 : Option Addr) (y : World) : Prop where
  mq : Mq W q7 B N x f V9 y
  hp : IsHs y a10 D p
  s12 : IsTab y q12 42 32 fun i => bv (r i)
  g12 : B ≤ q12
  ph : ∀ b o, a10 = some ⟨b, o, none⟩ → 0 < D → B ≤ b
theorem Mr.next {W y y' : World} {q7 B N D q12 : Nat} {x r : Hx} {f p : Nat → Hx} {V9 : Value} {a10 : Option Addr} (h : Mr W q7 B N D q12 x r f p V9 a10 y) (hb : Below y.heap.size y y') : Mr W q7 B N D q12 x r f p V9 a10 y' :=
  ⟨h.mq.next hb, h.hp.below hb, h.s12.below hb, h.g12, h.ph⟩
/-- The same, while the leaves grow: e is the leaves with noughts behind, M of them are there. -/
structure Ms (W : World) (q7 D q12 M : Nat) (x r : Hx) (e p : Nat → Hx) (V9 : Value) (a10 : Option Addr) (y : World) : Prop where
  s7 : IsTab y q7 41 32 fun i => bv (x i)
  s12 : IsTab y q12 42 32 fun i => bv (r i)
  hp : IsHs y a10 D p
  row : y.ownsRow W.heap.size 42 32 V9 M (flat M e)
  top : ∀ k, V9.ownBlock = some k → k ≠ q7 ∧ k ≠ q12 ∧ ∀ b o, a10 = some ⟨b, o, none⟩ → 0 < D → k ≠ b
  below : Below W.heap.size W y
  g7 : W.heap.size ≤ q7
  g12 : W.heap.size ≤ q12
theorem Ms.next {W y y' : World} {q7 D q12 M : Nat} {x r : Hx} {e p : Nat → Hx} {V9 : Value} {a10 : Option Addr} (h : Ms W q7 D q12 M x r e p V9 a10 y) (hb : Below y.heap.size y y') : Ms W q7 D q12 M x r e p V9 a10 y' :=
  ⟨h.s7.below hb, h.s12.below hb, h.hp.below hb, (Kept.ofBelow (S := fun _ => False) hb).row h.row (fun _ _ h => h), h.top, bl h.below hb, h.g7, h.g12⟩
theorem Ms.grown {W y y' : World} {q7 D q12 M : Nat} {x r : Hx} {e p : Nat → Hx} {V9 V' : Value} {a10 : Option Addr} (h : Ms W q7 D q12 M x r e p V9 a10 y) (hown : y'.ownsRow W.heap.size 42 32 V' (M + 1) (flat (M + 1) e)) (hg : y.grownBy y' V9.ownBlock)
    (hat : ∀ k, V'.ownBlock = some k → V9.ownBlock = some k ∨ k = y.heap.size) : Ms W q7 D q12 (M + 1) x r e p V' a10 y' := by
  have hk : Kept (fun k => V9.ownBlock = some k) y y' := ⟨hg.os, hg.tape, hg.output, hg.size, fun k hk hn => hg.block k hk (fun e => hn e.symm)⟩
  refine ⟨kept_tab h.s7 hk (fun e => (h.top _ e).1 rfl), kept_tab h.s12 hk (fun e => (h.top _ e).2.1 rfl), ?_, hown, fun k hk' => ?_, ((Kept.ofBelow (S := fun k => V9.ownBlock = some k) h.below).trans hk (fun _ _ h => h)).below (Nat.le_refl _) (fun j hj e => (h.row.lt j e).1), h.g7, h.g12⟩
  · rcases h.hp with h0 | ⟨b, o, h1, h2⟩
    · exact .inl h0
    · rcases Nat.eq_zero_or_pos D with h0 | h0
      · exact .inl h0
      · exact .inr ⟨b, o, h1, h2.keep fun i v hv => hk.cell (fun e => (h.top _ e).2.2 b o h1 h0 rfl) hv⟩
  · rcases hat k hk' with h1 | h1
    · exact h.top k h1
    · subst h1
      refine ⟨by have := h.s7.lt; omega, by have := h.s12.lt; omega, fun b o h1 h0 => ?_⟩
      have := h.hp.inHeap b o h1 h0
      omega
/-- The first N of a row. -/
theorem row_less {w : World} {B T : Nat} {a : Option Addr} {n c N : Nat} {f : Nat → Hx} (h : w.ownsRow B T 32 (.slice a n c) n (flat n f)) (hN : N ≤ n) : w.ownsRow B T 32 (.slice a N c) N (flat N f) := by
  have h' := h
  obtain ⟨h0, h1⟩ := h
  rcases h1 with ⟨h1, e⟩ | ⟨g, cap, cur, hv, hg, hc, hnc, hm, hs, ht⟩
  · injection h1 with e1 e2 e3
    subst e1 e2 e3
    have : N = 0 := by omega
    subst this
    exact ⟨by rw [flat_len], .inl ⟨rfl, rfl⟩⟩
  · injection hv with e1 e2 e3
    subst e1 e3
    refine ⟨by rw [flat_len], .inr ⟨g, c, cur, rfl, hg, hc, by omega, hm, hs, ?_⟩⟩
    have e : (cur.toList.take (n * 32)).take (N * 32) = (flat n f).take (N * 32) := by rw [ht]
    rw [List.take_take, Nat.min_eq_left (by omega)] at e
    rw [e]
    apply List.ext_getElem?
    intro i
    rw [List.getElem?_take]
    by_cases hi : i < N * 32
    · rw [if_pos hi]
      have e1 := flat_at (n := n) (f := f) (k := i / 32) (j := i % 32) (by omega) (by omega)
      have e2 := flat_at (n := N) (f := f) (k := i / 32) (j := i % 32) (by omega) (by omega)
      rw [show 32 * (i / 32) + i % 32 = i from by omega] at e1 e2
      rw [e1, e2]
    · rw [if_neg hi, List.getElem?_eq_none (by rw [flat_len]; omega)]
theorem hs_row {w : World} {B T : Nat} {a : Option Addr} {N c : Nat} {f : Nat → Hx} (h : w.ownsRow B T 32 (.slice a N c) N (flat N f)) : IsHs w a N f ∧ (a = none → N = 0 ∧ c = 0) ∧ N ≤ c ∧ c ≤ maxLen := by
  obtain ⟨a', c', e, h1, h2, h3, h4, _⟩ := hs_of h
  injection e with e1 e2 e3
  subst e1 e3
  exact ⟨h1, h2, h3, h4⟩
theorem wrong_in {D N : Nat} (hD : D ≤ 16) (hN : N ≤ 2 ^ D) : wrong (D : Int) N = 0 := by
  have e : ((2 ^ D : Nat) : Int) = (2 : Int) ^ D := by rw [Int.natCast_pow]; rfl
  unfold wrong
  rw [if_neg (by omega), if_neg (by rw [Int.toNat_natCast]; omega)]
theorem wrongP_in {D N I : Nat} (hD : D ≤ 16) (hN : N ≤ 2 ^ D) (hI : I < 2 ^ D) : wrongP (D : Int) N (I : Int) = 0 ∧ pathLen (D : Int) N (I : Int) = D := by
  have e : ((2 ^ D : Nat) : Int) = (2 : Int) ^ D := by rw [Int.natCast_pow]; rfl
  have h : wrongP (D : Int) N (I : Int) = 0 := by
    unfold wrongP
    rw [if_neg (by rw [wrong_in hD hN]; decide), if_neg (by rw [Int.toNat_natCast]; omega)]
  exact ⟨h, by unfold pathLen; rw [if_pos h]; rfl⟩
theorem rootOf_in {D N : Nat} (hD : D ≤ 16) (hN : N ≤ 2 ^ D) (f : Nat → Hx) : rootOf (D : Int) N f = und (ext N f) D 0 := by
  unfold rootOf; rw [if_pos (wrong_in hD hN)]; rfl
theorem u64_mod (d m : Int) (hm : 0 < m) : ∃ k : Nat, (IntKind.u64.wrap d).tmod m = (k : Int) ∧ (k : Int) < m := by
  have e : IntKind.u64.wrap d = d % 18446744073709551616 := IntKind.wrap_u64 d
  have h0 : 0 ≤ d % 18446744073709551616 := Int.emod_nonneg _ (by decide)
  refine ⟨((IntKind.u64.wrap d).tmod m).toNat, ?_, ?_⟩
  · rw [e, Int.tmod_eq_emod_of_nonneg h0]
    have := Int.emod_nonneg (d % 18446744073709551616) (show m ≠ 0 by omega)
    omega
  · rw [e, Int.tmod_eq_emod_of_nonneg h0]
    have h1 := Int.emod_nonneg (d % 18446744073709551616) (show m ≠ 0 by omega)
    have h2 := Int.emod_lt_of_pos (d % 18446744073709551616) hm
    omega
/-- Behind the store: what the law still reads. -/
structure Mz (W : World) (D q12 q14 q15 M : Nat) (r nx : Hx) (g p : Nat → Hx) (b9 : Nat) (a10 : Option Addr) (y : World) : Prop where
  s12 : IsTab y q12 42 32 fun i => bv (r i)
  s14 : IsTab y q14 42 32 fun i => bv (r i)
  s15 : IsTab y q15 42 32 fun i => bv (nx i)
  hs : IsHs y (some ⟨b9, 0, none⟩) M g
  hp : IsHs y a10 D p
  below : Below W.heap.size W y
theorem Mz.next {W y y' : World} {D q12 q14 q15 M : Nat} {r nx : Hx} {g p : Nat → Hx} {b9 : Nat} {a10 : Option Addr} (h : Mz W D q12 q14 q15 M r nx g p b9 a10 y) (hb : Below y.heap.size y y') : Mz W D q12 q14 q15 M r nx g p b9 a10 y' :=
  ⟨h.s12.below hb, h.s14.below hb, h.s15.below hb, h.hs.below hb, h.hp.below hb, bl h.below hb⟩
theorem kept_hs {S : Nat → Prop} {y y' : World} {a : Option Addr} {n : Nat} {f : Nat → Hx} (h : IsHs y a n f) (hk : Kept S y y') (hS : ∀ b o, a = some ⟨b, o, none⟩ → 0 < n → ¬ S b) : IsHs y' a n f := by
  rcases h with h0 | ⟨b, o, h1, h2⟩
  · exact .inl h0
  · rcases Nat.eq_zero_or_pos n with h0 | h0
    · exact .inl h0
    · exact .inr ⟨b, o, h1, h2.keep fun i v hv => hk.cell (hS b o h1 h0) hv⟩
theorem Ms.stored {W y : World} {q7 D q12 q14 q15 M T : Nat} {x r nx z : Hx} {e p : Nat → Hx} {c' I o : Nat} {b9 : Nat} {a10 : Option Addr} (h : Ms W q7 D q12 M x r e p (.slice (some ⟨b9, 0, none⟩) M c') a10 y)
    (h14 : IsTab y q14 42 32 fun i => bv (r i)) (h15 : IsTab y q15 42 32 fun i => bv (nx i)) (n14 : q14 ≠ b9) (n15 : q15 ≠ b9) (hl : Lv y b9 T M e) (ho : o = 32 * I) :
    Mz W D q12 q14 q15 M r nx (put e I z) p b9 a10 (y.setCells b9 o (tab 32 fun i => bv (z i)).toList) := by
  have hk : Kept (· = b9) y (y.setCells b9 o (tab 32 fun i => bv (z i)).toList) := keptS_setCells (S := (· = b9)) (q := b9) rfl _ _ _ (Kept.ofBelow (Below.refl _ _))
  have h1 := h.top b9 rfl
  exact ⟨kept_tab h.s12 hk (fun e => h1.2.1 e.symm), kept_tab h14 hk n14, kept_tab h15 hk n15, .inr ⟨b9, 0, rfl, (hl.set I z ho).at5⟩, kept_hs h.hp hk (fun b o e h0 e2 => h1.2.2 b o e h0 e2.symm),
    ((Kept.ofBelow (S := (· = b9)) h.below).trans hk (fun _ _ h => h)).below (Nat.le_refl _) (fun j hj e => by rw [e]; exact (h.row.lt b9 rfl).1)⟩
theorem ext_put {N M I : Nat} {f : Nat → Hx} {x : Hx} (hN : N ≤ M) (hI : I < M) : ext M (put (ext N f) I x) = put (ext N f) I x := by
  funext k
  unfold ext put
  by_cases hk : k < M
  · rw [if_pos hk]
  · rw [if_neg hk]
    show zero 0 = if k = I then x else if k < N then f k else zero 0
    rw [if_neg (by omega), if_neg (by omega)]
section
variable {ops : Array Oper} {rest : List Oper} {op : Oper} {a : Act} {w : World} {Q : Exit → Act → World → Prop}
theorem wpList_eqG (hw : Region.wanted op (yielded ops a.tmps) = true) (x y : Operand) (yt : TypeId) (z1 z2 : Hx) (ho : op.op = .binOp .eql 42 x y yt) (hx : a.eval x = dv z1) (hy : a.eval y = dv z2)
    (h : wpList Tryd.prog ops Q rest (a.put op.dst (.bool (same32 z1 z2))) w) : wpList Tryd.prog ops Q (op :: rest) a w :=
  wpList_step fun K hK => by
    rw [if_pos hw]
    unfold Oper.wp execOp
    simp only [ho, hx, hy]
    have e : (binOp .eql 42 (dv z1) (dv z2)).run Tryd.prog w = .ok (.bool (same32 z1 z2)) w := eql32 z1 z2 w
    simp [guardE, e]
    exact hK _ _ h
end
end Mk
end Go.Proofs.YtjfpbponjhpdhaaDoor
/-
  MerkleProves for what comes in. Own work.
-/
namespace Go.Proofs.YtjfpbponjhpdhaaDoor
open Go.RowKit
set_option linter.unusedVariables false
end Go.Proofs.YtjfpbponjhpdhaaDoor
/-
  mootlaw05: number, same; mootref05.Fold. Own work.
-/
namespace Go.Proofs.YtjfpbponjhpdhaaDoor
open Go.RowKit
set_option linter.unusedVariables false
set_option linter.unusedSimpArgs false
namespace Mk
open Kc
/-- The running value of mootref05.Fold, its result's box, the path. -/
structure Fr (W : World) (q4 q6 n : Nat) (a : Option Addr) (p : Nat → Hx) (r : Hx) (y : World) : Prop where
  s4 : IsTab y q4 41 32 fun i => bv (r i)
  s6 : IsTab y q6 41 32 fun _ => bv 0#8
  hp : IsHs y a n p
  below : Below W.heap.size W y
  g4 : W.heap.size ≤ q4
  g6 : q4 < q6
  old : ∀ b o, a = some ⟨b, o, none⟩ → 0 < n → b < W.heap.size
theorem Fr.next {W y y' : World} {q4 q6 n : Nat} {a : Option Addr} {p : Nat → Hx} {r : Hx} (h : Fr W q4 q6 n a p r y) (hb : Below y.heap.size y y') : Fr W q4 q6 n a p r y' :=
  ⟨h.s4.below hb, h.s6.below hb, h.hp.below hb, bl h.below hb, h.g4, h.g6, h.old⟩
theorem Fr.drew {W y : World} {q4 q6 n : Nat} {a : Option Addr} {p : Nat → Hx} {r : Hx} (h : Fr W q4 q6 n a p r y) : Fr W q4 q6 n a p r y.drew :=
  ⟨h.s4, h.s6, h.hp, h.below.drew, h.g4, h.g6, h.old⟩
set_option maxRecDepth 100000 in
theorem Fr.set {W y : World} {q4 q6 n : Nat} {a : Option Addr} {p : Nat → Hx} {r : Hx} (h : Fr W q4 q6 n a p r y) (x : Hx) : Fr W q4 q6 n a p x (y.setRow q4 (tab 32 fun j => bv (x j))) := by
  have h4 := h.g4
  have h6 := h.g6
  refine ⟨h.s4.row, h.s6.rowOther (by omega), ?_, below_setRow h.below (by omega) _, h.g4, h.g6, h.old⟩
  rcases h.hp with h1 | ⟨b, o, h1, h2⟩
  · exact .inl h1
  · rcases Nat.eq_zero_or_pos n with h0 | h0
    · exact .inl h0
    · refine .inr ⟨b, o, h1, fun k j hk hj => ?_⟩
      have hb := h.old b o h1 h0
      rw [cell_setRow_other _ _ _ _ (show b ≠ q4 by omega)]; exact h2 k j hk hj
set_option maxRecDepth 100000 in
theorem Fr.load {W y : World} {q4 q6 n : Nat} {b o : Nat} {p : Nat → Hx} {r : Hx} (h : Fr W q4 q6 n (some ⟨b, o, none⟩) p r y) {k : Nat} (hk : k < n) : (Instr.loadAt 41 (.pointer (some ⟨b, o + k * 32, none⟩))).run Tryd.prog y = .ok (dv (p k)) y := by
  obtain ⟨b3, o3, e5, h5⟩ := h.hp.at hk
  injection e5 with e5
  injection e5 with e6 e7
  subst e6 e7
  exact loadR h5 (k := k) (p := o + k * 32) hk (by omega)
theorem run_neq_tab {P : Program} (w : World) (t e : TypeId) (n : Nat) (k : IntKind) (ht : P.underlying t = some (.array n e)) (he : P.underlying e = some (.int k)) (hsz : ∀ w, (sizeOf e).run P w = .ok 1 w) (f g : Nat → Int) :
    (binOp .neq t (.agg (tab n fun i => .int k (f i))) (.agg (tab n fun i => .int k (g i)))).run P w = .ok (.bool (!((List.range n).all fun i => f i == g i))) w := by
  rw [run_neq_struct, run_equal_tab w 9998 t e n k ht he hsz]; rfl
theorem neqT (a : Hx) (w : World) : (binOp .neq 42 (dv a) (dv a)).run Tryd.prog w = .ok (.bool false) w := by
  show (binOp .neq 42 (.agg (tab 32 fun i => bv (a i))) (.agg (tab 32 fun i => bv (a i)))).run Tryd.prog w = _
  have h := run_neq_tab (P := Tryd.prog) w 42 5 32 .u8 (by kernel_rfl) undU8 sizeU8 (fun i => Bv (a i)) (fun i => Bv (a i))
  rw [show ((List.range 32).all fun i => Bv (a i) == Bv (a i)) = true from by simp] at h
  exact h
/-- Two lists of digests in a memory that grows. -/
structure Two (W : World) (a b : Option Addr) (n : Nat) (f : Nat → Hx) (y : World) : Prop where
  ha : IsHs y a n f
  hb : IsHs y b n f
  below : Below W.heap.size W y
theorem Two.drew {W y : World} {a b : Option Addr} {n : Nat} {f : Nat → Hx} (h : Two W a b n f y) : Two W a b n f y.drew := ⟨h.ha, h.hb, h.below.drew⟩
theorem wrong_none {D N : Nat} (hD : D ≤ 16) (hN : N ≤ 2 ^ D) : wrong (D : Int) N = 0 := by
  have e : ((2 ^ D : Nat) : Int) = (2 : Int) ^ D := by rw [Int.natCast_pow]; rfl
  unfold wrong
  rw [if_neg (by omega), if_neg (by rw [Int.toNat_natCast]; omega)]
/-- What mootref05.Path gathers. -/
structure Pg (W : World) (g : Nat → Hx) (k : Nat) (V : Value) (y : World) : Prop where
  row : y.ownsRow W.heap.size 41 32 V k (flat k g)
  below : Below W.heap.size W y
theorem Pg.next {W y y' : World} {g : Nat → Hx} {k : Nat} {V : Value} (h : Pg W g k V y) (hb : Below y.heap.size y y') : Pg W g k V y' :=
  ⟨(Kept.ofBelow (S := fun _ => False) hb).row h.row (fun _ _ h => h), bl h.below hb⟩
end Mk
end Go.Proofs.YtjfpbponjhpdhaaDoor
/-
  mootref05.Path for whatever comes in; what a law keeps: rows of digests, boxed digests. Own work.
-/
namespace Go.Proofs.YtjfpbponjhpdhaaDoor
open Go.RowKit
set_option linter.unusedVariables false
set_option linter.unusedSimpArgs false
namespace Mk
open Kc
theorem wrong3 (d : Int) (n : Nat) : wrong d n = 0 ∨ wrong d n = 2 ∨ wrong d n = 5 := by
  by_cases h : wrong d n = 0
  · exact .inl h
  · exact .inr (wrong_val d n h)
theorem wrongP3 (d : Int) (n : Nat) (i : Int) : wrongP d n i = 0 ∨ wrongP d n i = 2 ∨ wrongP d n i = 5 := by
  unfold wrongP
  by_cases h : wrong d n = 0
  · rw [if_neg (by simp [h])]; split
    · exact .inr (.inl rfl)
    · exact .inl rfl
  · rw [if_pos h]; exact wrong3 d n
/-- Rows of digests, boxed digests, the old memory. -/
structure Mb (W : World) (rs : List (Option Addr × Nat × (Nat → Hx))) (l : List (Nat × Nat × Hx)) (y : World) : Prop where
  hs : ∀ r ∈ rs, IsHs y r.1 r.2.1 r.2.2
  ts : ∀ p ∈ l, IsTab y p.1 p.2.1 32 fun i => bv (p.2.2 i)
  below : Below W.heap.size W y
section
variable {W y y' : World} {rs : List (Option Addr × Nat × (Nat → Hx))} {l : List (Nat × Nat × Hx)}
theorem Mb.next (h : Mb W rs l y) (hb : Below y.heap.size y y') : Mb W rs l y' :=
  ⟨fun r hr => (h.hs r hr).below hb, fun p hp => (h.ts p hp).below hb, bl h.below hb⟩
theorem Mb.drew (h : Mb W rs l y) : Mb W rs l y.drew := ⟨h.hs, h.ts, h.below.drew⟩
theorem Mb.row {a : Option Addr} {n : Nat} {f : Nat → Hx} (h : Mb W rs l y) (hr : IsHs y a n f) : Mb W ((a, n, f) :: rs) l y :=
  ⟨fun r hm => (List.mem_cons.1 hm).elim (fun e => by rw [e]; exact hr) (h.hs r), h.ts, h.below⟩
theorem Mb.add (h : Mb W rs l y) (T : Nat) (x : Hx) : Mb W rs ((y.heap.size, T, x) :: l) (y.alloc (.cells (tab 32 fun i => bv (x i)) T)) := by
  have hb : Below y.heap.size y (y.alloc (.cells (tab 32 fun i => bv (x i)) T)) := (Below.refl _ _).alloc (Nat.le_refl _) _
  refine ⟨fun r hr => (h.hs r hr).below hb, fun p hp => ?_, bl h.below hb⟩
  rcases List.mem_cons.1 hp with rfl | hp
  · exact IsTab.new y T 32 fun i => bv (x i)
  · exact (h.ts p hp).below hb
theorem Mb.loadH {q : Nat} {x : Hx} (h : Mb W rs l y) (hp : (q, 42, x) ∈ l) : (Instr.loadAt 42 (.pointer (some ⟨q, 0, none⟩))).run Tryd.prog y = .ok (dv x) y :=
  load32h (h.ts (q, 42, x) hp)
theorem Mb.loadR {q : Nat} {x : Hx} (h : Mb W rs l y) (hp : (q, 41, x) ∈ l) : (Instr.loadAt 41 (.pointer (some ⟨q, 0, none⟩))).run Tryd.prog y = .ok (dv x) y :=
  load32r (h.ts (q, 41, x) hp)
theorem Mb.at {a : Option Addr} {n : Nat} {f : Nat → Hx} (h : Mb W rs l y) (hr : (a, n, f) ∈ rs) : IsHs y a n f := h.hs _ hr
end
section
variable {ops : Array Oper} {rest : List Oper} {op : Oper} {a : Act} {w : World} {Q : Exit → Act → World → Prop}
theorem wpList_neqG (hw : Region.wanted op (yielded ops a.tmps) = true) (x y : Operand) (yt : TypeId) (z : Hx) (ho : op.op = .binOp .neq 42 x y yt) (hx : a.eval x = dv z) (hy : a.eval y = dv z)
    (h : wpList Tryd.prog ops Q rest (a.put op.dst (.bool false)) w) : wpList Tryd.prog ops Q (op :: rest) a w :=
  wpList_step fun K hK => by
    rw [if_pos hw]
    unfold Oper.wp execOp
    simp only [ho, hx, hy]
    have e : (binOp .neq 42 (dv z) (dv z)).run Tryd.prog w = .ok (.bool false) w := neqT z w
    simp [guardN, e]
    exact hK _ _ h
end
end Mk
end Go.Proofs.YtjfpbponjhpdhaaDoor
