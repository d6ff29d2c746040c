/-
  MerkleProves. Own work.
-/
import Derived.Test.YtgffohmneobblaaDoorMj
import Derived.Laws.Bits64
import Derived.Test.YtgffohmneobblaaDoorApz
namespace Go.Proofs.YtgffohmneobblaaDoor
open Go.RowKit
set_option linter.unusedVariables false
set_option linter.unusedSimpArgs false
namespace Mk
open Kc
/-- The state of the law: the leaf that came in, the leaves of the call's own, the path. -/
structure Mq (W : World) (q7 B N : Nat) (x : Hx) (f : Nat → Hx) (V9 : Value) (y : World) : Prop where
  s7 : IsTab y q7 41 32 fun i => bv (x i)
  row : y.ownsRow W.heap.size 42 32 V9 N (flat N f)
  top : ∀ k, V9.ownBlock = some k → q7 < k ∧ k < B
  below : Below W.heap.size W y
  g7 : W.heap.size ≤ q7
  b7 : q7 < B
  bB : B ≤ y.heap.size
theorem Mq.next {W y y' : World} {q7 B N : Nat} {x : Hx} {f : Nat → Hx} {V9 : Value} (h : Mq W q7 B N x f V9 y) (hb : Below y.heap.size y y') : Mq W q7 B N x f V9 y' :=
  ⟨h.s7.below hb, (Kept.ofBelow (S := fun _ => False) hb).row h.row (fun _ _ h => h), h.top, bl h.below hb, h.g7, h.b7, Nat.le_trans h.bB hb.size⟩
/-- With the path and the root. -/
structure Mr (W : World) (q7 B N D q12 : Nat) (x r : Hx) (f p : Nat → Hx) (V9 : Value) (a10 : Option Addr) (y : World) : Prop where
  mq : Mq W q7 B N x f V9 y
  hp : IsHs y a10 D p
  s12 : IsTab y q12 42 32 fun i => bv (r i)
  g12 : B ≤ q12
  ph : ∀ b o, a10 = some ⟨b, o, none⟩ → 0 < D → B ≤ b
theorem Mr.next {W y y' : World} {q7 B N D q12 : Nat} {x r : Hx} {f p : Nat → Hx} {V9 : Value} {a10 : Option Addr} (h : Mr W q7 B N D q12 x r f p V9 a10 y) (hb : Below y.heap.size y y') : Mr W q7 B N D q12 x r f p V9 a10 y' :=
  ⟨h.mq.next hb, h.hp.below hb, h.s12.below hb, h.g12, h.ph⟩
/-- The same, while the leaves grow: e is the leaves with noughts behind, M of them are there. -/
structure Ms (W : World) (q7 D q12 M : Nat) (x r : Hx) (e p : Nat → Hx) (V9 : Value) (a10 : Option Addr) (y : World) : Prop where
  s7 : IsTab y q7 41 32 fun i => bv (x i)
  s12 : IsTab y q12 42 32 fun i => bv (r i)
  hp : IsHs y a10 D p
  row : y.ownsRow W.heap.size 42 32 V9 M (flat M e)
  top : ∀ k, V9.ownBlock = some k → k ≠ q7 ∧ k ≠ q12 ∧ ∀ b o, a10 = some ⟨b, o, none⟩ → 0 < D → k ≠ b
  below : Below W.heap.size W y
  g7 : W.heap.size ≤ q7
  g12 : W.heap.size ≤ q12
theorem Ms.next {W y y' : World} {q7 D q12 M : Nat} {x r : Hx} {e p : Nat → Hx} {V9 : Value} {a10 : Option Addr} (h : Ms W q7 D q12 M x r e p V9 a10 y) (hb : Below y.heap.size y y') : Ms W q7 D q12 M x r e p V9 a10 y' :=
  ⟨h.s7.below hb, h.s12.below hb, h.hp.below hb, (Kept.ofBelow (S := fun _ => False) hb).row h.row (fun _ _ h => h), h.top, bl h.below hb, h.g7, h.g12⟩
theorem Ms.grown {W y y' : World} {q7 D q12 M : Nat} {x r : Hx} {e p : Nat → Hx} {V9 V' : Value} {a10 : Option Addr} (h : Ms W q7 D q12 M x r e p V9 a10 y) (hown : y'.ownsRow W.heap.size 42 32 V' (M + 1) (flat (M + 1) e)) (hg : y.grownBy y' V9.ownBlock)
    (hat : ∀ k, V'.ownBlock = some k → V9.ownBlock = some k ∨ k = y.heap.size) : Ms W q7 D q12 (M + 1) x r e p V' a10 y' := by
  have hk : Kept (fun k => V9.ownBlock = some k) y y' := ⟨hg.os, hg.tape, hg.output, hg.size, fun k hk hn => hg.block k hk (fun e => hn e.symm)⟩
  refine ⟨kept_tab h.s7 hk (fun e => (h.top _ e).1 rfl), kept_tab h.s12 hk (fun e => (h.top _ e).2.1 rfl), ?_, hown, fun k hk' => ?_, ((Kept.ofBelow (S := fun k => V9.ownBlock = some k) h.below).trans hk (fun _ _ h => h)).below (Nat.le_refl _) (fun j hj e => (h.row.lt j e).1), h.g7, h.g12⟩
  · rcases h.hp with h0 | ⟨b, o, h1, h2⟩
    · exact .inl h0
    · rcases Nat.eq_zero_or_pos D with h0 | h0
      · exact .inl h0
      · exact .inr ⟨b, o, h1, h2.keep fun i v hv => hk.cell (fun e => (h.top _ e).2.2 b o h1 h0 rfl) hv⟩
  · rcases hat k hk' with h1 | h1
    · exact h.top k h1
    · subst h1
      refine ⟨by have := h.s7.lt; omega, by have := h.s12.lt; omega, fun b o h1 h0 => ?_⟩
      have := h.hp.inHeap b o h1 h0
      omega
/-- The first N of a row. -/
theorem row_less {w : World} {B T : Nat} {a : Option Addr} {n c N : Nat} {f : Nat → Hx} (h : w.ownsRow B T 32 (.slice a n c) n (flat n f)) (hN : N ≤ n) : w.ownsRow B T 32 (.slice a N c) N (flat N f) := by
  have h' := h
  obtain ⟨h0, h1⟩ := h
  rcases h1 with ⟨h1, e⟩ | ⟨g, cap, cur, hv, hg, hc, hnc, hm, hs, ht⟩
  · injection h1 with e1 e2 e3
    subst e1 e2 e3
    have : N = 0 := by omega
    subst this
    exact ⟨by rw [flat_len], .inl ⟨rfl, rfl⟩⟩
  · injection hv with e1 e2 e3
    subst e1 e3
    refine ⟨by rw [flat_len], .inr ⟨g, c, cur, rfl, hg, hc, by omega, hm, hs, ?_⟩⟩
    have e : (cur.toList.take (n * 32)).take (N * 32) = (flat n f).take (N * 32) := by rw [ht]
    rw [List.take_take, Nat.min_eq_left (by omega)] at e
    rw [e]
    apply List.ext_getElem?
    intro i
    rw [List.getElem?_take]
    by_cases hi : i < N * 32
    · rw [if_pos hi]
      have e1 := flat_at (n := n) (f := f) (k := i / 32) (j := i % 32) (by omega) (by omega)
      have e2 := flat_at (n := N) (f := f) (k := i / 32) (j := i % 32) (by omega) (by omega)
      rw [show 32 * (i / 32) + i % 32 = i from by omega] at e1 e2
      rw [e1, e2]
    · rw [if_neg hi, List.getElem?_eq_none (by rw [flat_len]; omega)]
theorem hs_row {w : World} {B T : Nat} {a : Option Addr} {N c : Nat} {f : Nat → Hx} (h : w.ownsRow B T 32 (.slice a N c) N (flat N f)) : IsHs w a N f ∧ (a = none → N = 0 ∧ c = 0) ∧ N ≤ c ∧ c ≤ maxLen := by
  obtain ⟨a', c', e, h1, h2, h3, h4, _⟩ := hs_of h
  injection e with e1 e2 e3
  subst e1 e3
  exact ⟨h1, h2, h3, h4⟩
theorem wrong_in {D N : Nat} (hD : D ≤ 16) (hN : N ≤ 2 ^ D) : wrong (D : Int) N = 0 := by
  have e : ((2 ^ D : Nat) : Int) = (2 : Int) ^ D := by rw [Int.natCast_pow]; rfl
  unfold wrong
  rw [if_neg (by omega), if_neg (by rw [Int.toNat_natCast]; omega)]
theorem wrongP_in {D N I : Nat} (hD : D ≤ 16) (hN : N ≤ 2 ^ D) (hI : I < 2 ^ D) : wrongP (D : Int) N (I : Int) = 0 ∧ pathLen (D : Int) N (I : Int) = D := by
  have e : ((2 ^ D : Nat) : Int) = (2 : Int) ^ D := by rw [Int.natCast_pow]; rfl
  have h : wrongP (D : Int) N (I : Int) = 0 := by
    unfold wrongP
    rw [if_neg (by rw [wrong_in hD hN]; decide), if_neg (by rw [Int.toNat_natCast]; omega)]
  exact ⟨h, by unfold pathLen; rw [if_pos h]; rfl⟩
theorem rootOf_in {D N : Nat} (hD : D ≤ 16) (hN : N ≤ 2 ^ D) (f : Nat → Hx) : rootOf (D : Int) N f = und (ext N f) D 0 := by
  unfold rootOf; rw [if_pos (wrong_in hD hN)]; rfl
theorem u64_mod (d m : Int) (hm : 0 < m) : ∃ k : Nat, (IntKind.u64.wrap d).tmod m = (k : Int) ∧ (k : Int) < m := by
  have e : IntKind.u64.wrap d = d % 18446744073709551616 := IntKind.wrap_u64 d
  have h0 : 0 ≤ d % 18446744073709551616 := Int.emod_nonneg _ (by decide)
  refine ⟨((IntKind.u64.wrap d).tmod m).toNat, ?_, ?_⟩
  · rw [e, Int.tmod_eq_emod_of_nonneg h0]
    have := Int.emod_nonneg (d % 18446744073709551616) (show m ≠ 0 by omega)
    omega
  · rw [e, Int.tmod_eq_emod_of_nonneg h0]
    have h1 := Int.emod_nonneg (d % 18446744073709551616) (show m ≠ 0 by omega)
    have h2 := Int.emod_lt_of_pos (d % 18446744073709551616) hm
    omega

/-- Behind the store: what the law still reads. -/
structure Mz (W : World) (D q12 q14 q15 M : Nat) (r nx : Hx) (g p : Nat → Hx) (b9 : Nat) (a10 : Option Addr) (y : World) : Prop where
  s12 : IsTab y q12 42 32 fun i => bv (r i)
  s14 : IsTab y q14 42 32 fun i => bv (r i)
  s15 : IsTab y q15 42 32 fun i => bv (nx i)
  hs : IsHs y (some ⟨b9, 0, none⟩) M g
  hp : IsHs y a10 D p
  below : Below W.heap.size W y
theorem Mz.next {W y y' : World} {D q12 q14 q15 M : Nat} {r nx : Hx} {g p : Nat → Hx} {b9 : Nat} {a10 : Option Addr} (h : Mz W D q12 q14 q15 M r nx g p b9 a10 y) (hb : Below y.heap.size y y') : Mz W D q12 q14 q15 M r nx g p b9 a10 y' :=
  ⟨h.s12.below hb, h.s14.below hb, h.s15.below hb, h.hs.below hb, h.hp.below hb, bl h.below hb⟩
theorem kept_hs {S : Nat → Prop} {y y' : World} {a : Option Addr} {n : Nat} {f : Nat → Hx} (h : IsHs y a n f) (hk : Kept S y y') (hS : ∀ b o, a = some ⟨b, o, none⟩ → 0 < n → ¬ S b) : IsHs y' a n f := by
  rcases h with h0 | ⟨b, o, h1, h2⟩
  · exact .inl h0
  · rcases Nat.eq_zero_or_pos n with h0 | h0
    · exact .inl h0
    · exact .inr ⟨b, o, h1, h2.keep fun i v hv => hk.cell (hS b o h1 h0) hv⟩
theorem Ms.stored {W y : World} {q7 D q12 q14 q15 M T : Nat} {x r nx z : Hx} {e p : Nat → Hx} {c' I o : Nat} {b9 : Nat} {a10 : Option Addr} (h : Ms W q7 D q12 M x r e p (.slice (some ⟨b9, 0, none⟩) M c') a10 y)
    (h14 : IsTab y q14 42 32 fun i => bv (r i)) (h15 : IsTab y q15 42 32 fun i => bv (nx i)) (n14 : q14 ≠ b9) (n15 : q15 ≠ b9) (hl : Lv y b9 T M e) (ho : o = 32 * I) :
    Mz W D q12 q14 q15 M r nx (put e I z) p b9 a10 (y.setCells b9 o (tab 32 fun i => bv (z i)).toList) := by
  have hk : Kept (· = b9) y (y.setCells b9 o (tab 32 fun i => bv (z i)).toList) := keptS_setCells (S := (· = b9)) (q := b9) rfl _ _ _ (Kept.ofBelow (Below.refl _ _))
  have h1 := h.top b9 rfl
  exact ⟨kept_tab h.s12 hk (fun e => h1.2.1 e.symm), kept_tab h14 hk n14, kept_tab h15 hk n15, .inr ⟨b9, 0, rfl, (hl.set I z ho).at5⟩, kept_hs h.hp hk (fun b o e h0 e2 => h1.2.2 b o e h0 e2.symm),
    ((Kept.ofBelow (S := (· = b9)) h.below).trans hk (fun _ _ h => h)).below (Nat.le_refl _) (fun j hj e => by rw [e]; exact (h.row.lt b9 rfl).1)⟩
theorem ext_put {N M I : Nat} {f : Nat → Hx} {x : Hx} (hN : N ≤ M) (hI : I < M) : ext M (put (ext N f) I x) = put (ext N f) I x := by
  funext k
  unfold ext put
  by_cases hk : k < M
  · rw [if_pos hk]
  · rw [if_neg hk]
    show zero 0 = if k = I then x else if k < N then f k else zero 0
    rw [if_neg (by omega), if_neg (by omega)]
section
variable {ops : Array Oper} {rest : List Oper} {op : Oper} {a : Act} {w : World} {Q : Exit → Act → World → Prop}
theorem wpList_eqG (hw : Region.wanted op (yielded ops a.tmps) = true) (x y : Operand) (yt : TypeId) (z1 z2 : Hx) (ho : op.op = .binOp .eql 42 x y yt) (hx : a.eval x = dv z1) (hy : a.eval y = dv z2)
    (h : wpList Tryd.prog ops Q rest (a.put op.dst (.bool (same32 z1 z2))) w) : wpList Tryd.prog ops Q (op :: rest) a w :=
  wpList_step fun K hK => by
    rw [if_pos hw]
    unfold Oper.wp execOp
    simp only [ho, hx, hy]
    have e : (binOp .eql 42 (dv z1) (dv z2)).run Tryd.prog w = .ok (.bool (same32 z1 z2)) w := eql32 z1 z2 w
    simp [guardE, e]
    exact hK _ _ h
end
end Mk
end Go.Proofs.YtgffohmneobblaaDoor
/-
  MerkleProves for what comes in. Own work.
-/
namespace Go.Proofs.YtgffohmneobblaaDoor
open Go.RowKit
set_option linter.unusedVariables false
end Go.Proofs.YtgffohmneobblaaDoor
/-
  mootlaw05: number, same; mootref05.Fold. Own work.
-/
namespace Go.Proofs.YtgffohmneobblaaDoor
open Go.RowKit
set_option linter.unusedVariables false
set_option linter.unusedSimpArgs false
namespace Mk
open Kc
/-- The running value of mootref05.Fold, its result's box, the path. -/
structure Fr (W : World) (q4 q6 n : Nat) (a : Option Addr) (p : Nat → Hx) (r : Hx) (y : World) : Prop where
  s4 : IsTab y q4 41 32 fun i => bv (r i)
  s6 : IsTab y q6 41 32 fun _ => bv 0#8
  hp : IsHs y a n p
  below : Below W.heap.size W y
  g4 : W.heap.size ≤ q4
  g6 : q4 < q6
  old : ∀ b o, a = some ⟨b, o, none⟩ → 0 < n → b < W.heap.size
theorem Fr.next {W y y' : World} {q4 q6 n : Nat} {a : Option Addr} {p : Nat → Hx} {r : Hx} (h : Fr W q4 q6 n a p r y) (hb : Below y.heap.size y y') : Fr W q4 q6 n a p r y' :=
  ⟨h.s4.below hb, h.s6.below hb, h.hp.below hb, bl h.below hb, h.g4, h.g6, h.old⟩
theorem Fr.drew {W y : World} {q4 q6 n : Nat} {a : Option Addr} {p : Nat → Hx} {r : Hx} (h : Fr W q4 q6 n a p r y) : Fr W q4 q6 n a p r y.drew :=
  ⟨h.s4, h.s6, h.hp, h.below.drew, h.g4, h.g6, h.old⟩
set_option maxRecDepth 100000 in
theorem Fr.set {W y : World} {q4 q6 n : Nat} {a : Option Addr} {p : Nat → Hx} {r : Hx} (h : Fr W q4 q6 n a p r y) (x : Hx) : Fr W q4 q6 n a p x (y.setRow q4 (tab 32 fun j => bv (x j))) := by
  have h4 := h.g4
  have h6 := h.g6
  refine ⟨h.s4.row, h.s6.rowOther (by omega), ?_, below_setRow h.below (by omega) _, h.g4, h.g6, h.old⟩
  rcases h.hp with h1 | ⟨b, o, h1, h2⟩
  · exact .inl h1
  · rcases Nat.eq_zero_or_pos n with h0 | h0
    · exact .inl h0
    · refine .inr ⟨b, o, h1, fun k j hk hj => ?_⟩
      have hb := h.old b o h1 h0
      rw [cell_setRow_other _ _ _ _ (show b ≠ q4 by omega)]; exact h2 k j hk hj
set_option maxRecDepth 100000 in
theorem Fr.load {W y : World} {q4 q6 n : Nat} {b o : Nat} {p : Nat → Hx} {r : Hx} (h : Fr W q4 q6 n (some ⟨b, o, none⟩) p r y) {k : Nat} (hk : k < n) : (Instr.loadAt 41 (.pointer (some ⟨b, o + k * 32, none⟩))).run Tryd.prog y = .ok (dv (p k)) y := by
  obtain ⟨b3, o3, e5, h5⟩ := h.hp.at hk
  injection e5 with e5
  injection e5 with e6 e7
  subst e6 e7
  exact loadR h5 (k := k) (p := o + k * 32) hk (by omega)
set_option maxHeartbeats 2000000 in
set_option maxRecDepth 100000 in
theorem refFold_ok (i : Nat) (x : Hx) (a : Option Addr) (n c : Nat) (p : Nat → Hx) (w : World) (hs : IsHs w a n p) (hnc : n ≤ c) (hn : n ≤ 16) (hi : i < 2 ^ n) :
    Calls Tryd.prog 33 #[.int .i64 i, dv x, .slice a n c] w fun e w' => e = .returned (.tuple #[dv (fold i x p n), .int .i64 0]) ∧ Below w.heap.size w w' := by
  have HS := Lib.hid hs
  have h16 := two16 hn
  have hIi : (i : Int) < 2 ^ n := by
    have e : ((2 ^ n : Nat) : Int) = (2 : Int) ^ n := by rw [Int.natCast_pow]; rfl
    omega
  have hp16 : (2 : Int) ^ n ≤ 65536 := by have := p2_nat n 16 hn; simpa using this
  clear hs
  have z2 := zero26
  generalize hz : (tab 32 fun _ => bv 0#8) = zh at *
  have HZ := Lib.hid hz
  clear hz
  have hzl : zh.size = 32 := by rw [← HZ.out, tab_size]
  have HZL := Lib.hid hzl
  clear hzl
  have hN : (n : Int) ≤ 16 := by omega
  have hIb : (i : Int) ≤ 65536 := by omega
  have HHI := Lib.hid hi
  clear hi h16
  unfold dv
  go_enter Tryd.func33, Tryd.ntmps33
  go_upto_region 3 with (fail)
  have H1 : Hid (Fr w w.heap.size (w.heap.size + 1) n a p (fold i x p 0) ((w.alloc (.cells (tab 32 fun i => bv (x i)) 41)).alloc (.cells zh 41))) := by
    have e1 : (w.alloc (.cells (tab 32 fun i => bv (x i)) 41)).heap.size = w.heap.size + 1 := by simp
    have b3 : Below w.heap.size w ((w.alloc (.cells (tab 32 fun i => bv (x i)) 41)).alloc (.cells zh 41)) := ((Below.refl _ _).alloc (Nat.le_refl _) _).alloc (by simp) _
    have t6 := put_newR (w.alloc (.cells (tab 32 fun i => bv (x i)) 41)) zh HZ.out
    rw [e1] at t6
    exact Lib.hid ⟨(IsTab.new w 41 32 fun i => bv (x i)).alloc _, t6, HS.out.below b3, b3, Nat.le_refl _, by omega, HS.out.inHeap⟩
  generalize (w.alloc (.cells (tab 32 fun i => bv (x i)) 41)).alloc (.cells zh 41) = y0 at *
  generalize w.heap.size + 1 = q6 at *
  generalize hq4 : w.heap.size = q4 at *
  have HQ4 := Lib.hid hq4
  clear hq4
  go_upto_region 4 with (fail)
  go_loopw [8] (fun tc y => ∃ r : Nat, r ≤ n ∧ tc = .int .i64 r ∧ Hid (Fr w q4 q6 n a p (fold i x p r) y)) (fun tc _ => n - (intOf tc).toNat)
  case atStart => exact ⟨0, Nat.zero_le _, rfl, H1⟩
  case round =>
    obtain ⟨r, hr, rfl, hp⟩ := hrel
    clear H1
    by_cases hlt : (r : Int) < (n : Int)
    · obtain ⟨b, o, hab, h5⟩ := hp.out.hp.at (show r < n by omega)
      subst hab
      clear h5
      have hr16 : (r : Int) ≤ 16 := by omega
      have hn16 : (n : Int) ≤ 9223372036854775807 := by omega
      obtain ⟨m, hm⟩ : ∃ m : Nat, (i : Int) / 2 ^ r = (m : Int) := ⟨i / 2 ^ r, by rw [Int.natCast_ediv, Int.natCast_pow]; rfl⟩
      have HMR : Hid (m = i / 2 ^ r) := Lib.hid (by
        have e : ((i / 2 ^ r : Nat) : Int) = (m : Int) := by rw [← hm, Int.natCast_ediv, Int.natCast_pow]; rfl
        omega)
      have hstep : fold i x p (r + 1) = if m % 2 = 0 then pr (fold i x p r) (p r) else pr (p r) (fold i x p r) := by rw [HMR.out]; rfl
      have HST := Lib.hid hstep
      clear hstep
      generalize fold i x p r = z at *
      by_cases he : m % 2 = 0
      · have ht1 : ((m : Int).tmod 2 == 0) = true := by
          rw [Int.tmod_eq_emod_of_nonneg (by omega)]
          have : (m : Int) % 2 = 0 := by omega
          simpa using this
        have ht2 : ((m : Int) % 2 == 0) = true := by
          have : (m : Int) % 2 = 0 := by omega
          simpa using this
        have HX : Hid (fold i x p (r + 1) = pr z (p r)) := Lib.hid (by rw [HST.out, if_pos he])
        clear he HST
        go_upto_region 7 with (fail)
        have hix : (0 : Int) ≤ (r : Int) ∧ (r : Int) < (n : Int) := by omega
        have NE : Nonempty (Wd (Fr w q4 q6 n (some ⟨b, o, none⟩) p z)) := ⟨⟨_, hp.out.drew⟩⟩
        have hld : ∀ u, (∃ s : Wd (Fr w q4 q6 n (some ⟨b, o, none⟩) p z), u = s.val) → (Instr.loadAt 41 (.pointer (some ⟨b, o + r * 32, none⟩))).run Tryd.prog u = .ok (dv (p r)) u := fun u ⟨s, hz⟩ => by rw [hz]; exact s.ok.load (by omega)
        have hlz : ∀ u, (∃ s : Wd (Fr w q4 q6 n (some ⟨b, o, none⟩) p z), u = s.val) → (Instr.loadAt 41 (.pointer (some ⟨q4, 0, none⟩))).run Tryd.prog u = .ok (dv z) u := fun u ⟨s, hz⟩ => by rw [hz]; exact load32r s.ok.s4
        have LD := Lib.hid hld
        have LZ := Lib.hid hlz
        clear hld hlz
        have Q1 := Lib.hid (fun s : Wd (Fr w q4 q6 n (some ⟨b, o, none⟩) p z) => in_of_below s (fun y hb => s.ok.next hb) (rpair_dv z (p r) s.val))
        refine wp_region_quiet_tail 6 (Fr w q4 q6 n (some ⟨b, o, none⟩) p z) (by kernel_rfl) (by kernel_rfl) hp.out.drew ?_
        simp only [List.take_succ_cons, List.take_zero, List.drop_succ_cons, List.drop_zero]
        repeat (first
          | (refine wpQuiet_load 41 _ (.pointer (some ⟨q4, 0, none⟩)) _ rfl rfl rfl LZ.out ?_; simp only [Act.put, List.setIfInBounds_toArray, List.set_cons_zero, List.set_cons_succ])
          | (refine wpQuiet_load 41 _ (.pointer (some ⟨b, o + r * 32, none⟩)) _ rfl rfl rfl LD.out ?_; simp only [Act.put, List.setIfInBounds_toArray, List.set_cons_zero, List.set_cons_succ])
          | (go_big_quiet_step (with_reducible exact Q1.out _)))
        refine wpQuiet_nil ?_
        rintro _ ⟨s, rfl⟩
        have HN := Lib.hid (s.ok.set (pr z (p r)))
        clear LD LZ Q1 NE
        refine wpList_store_row (w := s.val) rfl 41 (.tmp 4) (.tmp 42) rfl q4 (tab 32 fun j => bv (pr z (p r) j)) rfl rfl 41 (tab 32 fun i => bv (z i)) s.ok.s4 (inf26 _) (by rw [tab_size, tab_size]) (one_bv _ _) ?_
        generalize World.setRow s.val q4 (tab 32 fun j => bv (pr z (p r) j)) = y3 at *
        simp only [Act.put]
        go_wp2_with fail
        go_roundw
        case rel => exact ⟨r + 1, by omega, by go_num, by rw [HX.out]; exact HN⟩
        case measure => simp [intOf]; omega
      · have ht1 : ((m : Int).tmod 2 == 0) = false := by
          rw [Int.tmod_eq_emod_of_nonneg (by omega)]
          have : ¬ (m : Int) % 2 = 0 := by omega
          simpa using this
        have ht2 : ((m : Int) % 2 == 0) = false := by
          have : ¬ (m : Int) % 2 = 0 := by omega
          simpa using this
        have HX : Hid (fold i x p (r + 1) = pr (p r) z) := Lib.hid (by rw [HST.out, if_neg he])
        clear he HST
        go_upto_region 8 with (fail)
        have hix : (0 : Int) ≤ (r : Int) ∧ (r : Int) < (n : Int) := by omega
        have NE : Nonempty (Wd (Fr w q4 q6 n (some ⟨b, o, none⟩) p z)) := ⟨⟨_, hp.out.drew⟩⟩
        have hld : ∀ u, (∃ s : Wd (Fr w q4 q6 n (some ⟨b, o, none⟩) p z), u = s.val) → (Instr.loadAt 41 (.pointer (some ⟨b, o + r * 32, none⟩))).run Tryd.prog u = .ok (dv (p r)) u := fun u ⟨s, hz⟩ => by rw [hz]; exact s.ok.load (by omega)
        have hlz : ∀ u, (∃ s : Wd (Fr w q4 q6 n (some ⟨b, o, none⟩) p z), u = s.val) → (Instr.loadAt 41 (.pointer (some ⟨q4, 0, none⟩))).run Tryd.prog u = .ok (dv z) u := fun u ⟨s, hz⟩ => by rw [hz]; exact load32r s.ok.s4
        have LD := Lib.hid hld
        have LZ := Lib.hid hlz
        clear hld hlz
        have Q1 := Lib.hid (fun s : Wd (Fr w q4 q6 n (some ⟨b, o, none⟩) p z) => in_of_below s (fun y hb => s.ok.next hb) (rpair_dv (p r) z s.val))
        refine wp_region_quiet_tail 6 (Fr w q4 q6 n (some ⟨b, o, none⟩) p z) (by kernel_rfl) (by kernel_rfl) hp.out.drew ?_
        simp only [List.take_succ_cons, List.take_zero, List.drop_succ_cons, List.drop_zero]
        repeat (first
          | (refine wpQuiet_load 41 _ (.pointer (some ⟨q4, 0, none⟩)) _ rfl rfl rfl LZ.out ?_; simp only [Act.put, List.setIfInBounds_toArray, List.set_cons_zero, List.set_cons_succ])
          | (refine wpQuiet_load 41 _ (.pointer (some ⟨b, o + r * 32, none⟩)) _ rfl rfl rfl LD.out ?_; simp only [Act.put, List.setIfInBounds_toArray, List.set_cons_zero, List.set_cons_succ])
          | (go_big_quiet_step (with_reducible exact Q1.out _)))
        refine wpQuiet_nil ?_
        rintro _ ⟨s, rfl⟩
        have HN := Lib.hid (s.ok.set (pr (p r) z))
        clear LD LZ Q1 NE
        refine wpList_store_row (w := s.val) rfl 41 (.tmp 4) (.tmp 48) rfl q4 (tab 32 fun j => bv (pr (p r) z j)) rfl rfl 41 (tab 32 fun i => bv (z i)) s.ok.s4 (inf26 _) (by rw [tab_size, tab_size]) (one_bv _ _) ?_
        generalize World.setRow s.val q4 (tab 32 fun j => bv (pr (p r) z j)) = y3 at *
        simp only [Act.put]
        go_wp2_with fail
        go_roundw
        case rel => exact ⟨r + 1, by omega, by go_num, by rw [HX.out]; exact HN⟩
        case measure => simp [intOf]; omega
    · obtain rfl : r = n := by omega
      have D4 := Lib.hid (load32r hp.out.s4)
      generalize hzz : fold i x p r = z at *
      have HZZ := Lib.hid hzz
      clear hzz
      go_wp2_with (first
        | ((with_reducible refine wpList_loadE (P := Tryd.prog) (w := wr) (ty := 41) (x := .tmp 4) (p := .pointer (some ⟨q4, 0, none⟩)) (v := dv z) ?_ ?_ ?_ D4.out ?_); (· exact rfl); (· exact rfl); (· exact rfl))
        | ((with_reducible refine wpList_store_row (P := Tryd.prog) (w := wr) ?_ 41 (.tmp 6) (.tmp 49) ?_ q6 (tab 32 fun j => bv (z j)) ?_ ?_ 41 (tab 32 fun i => bv ((fun _ => 0#8) i)) ?_ (inf26 _) ?_ (one_bv _ _) ?_); (· exact rfl); (· exact rfl); (· exact rfl); (· exact rfl); (· exact hp.out.s6); (· rw [tab_size, tab_size])))
      have hr : IsTab (World.setRow wr q6 (tab 32 fun j => bv (z j))) q6 41 32 fun j => bv (z j) := hp.out.s6.row
      exact bodyPost_ret (Kc.results_cell_tmp rfl _ _ q6 41 _ (0, 0) _ rfl hr und26 rfl (inf26 _) (.int .i64 0) rfl) rfl ⟨by rw [HZZ.out], below_setRow hp.out.below (by have := hp.out.g4; have := hp.out.g6; omega) _⟩
set_option maxHeartbeats 2000000 in
set_option maxRecDepth 100000 in
theorem refFold_bad (i : Int) (x : Hx) (a : Option Addr) (n c : Nat) (w : World) (hn : n ≤ 9223372036854775807) (h : 16 < n ∨ i < 0 ∨ (2 : Int) ^ n ≤ i) :
    Calls Tryd.prog 33 #[.int .i64 i, dv x, .slice a n c] w fun e w' => e = .returned (.tuple #[dv (zero 0), .int .i64 2]) ∧ Below w.heap.size w w' := by
  have z2 := zero26
  generalize hz : (tab 32 fun _ => bv 0#8) = zh at *
  have HZ := Lib.hid hz
  clear hz
  have hzl : zh.size = 32 := by rw [← HZ.out, tab_size]
  have HZL := Lib.hid hzl
  have hzi : (Tryd.prog.info? 41).map (·.size) = some zh.size := by rw [hzl]; exact inf26'
  have HZI := Lib.hid hzi
  have hzo : zh.all (·.oneCell') = true := by rw [← HZ.out]; exact one_bv _ _
  have HZO := Lib.hid hzo
  clear hzi hzo hzl
  have hN : (n : Int) ≤ 9223372036854775807 := by omega
  have HB : Hid (Below w.heap.size w ((w.alloc (.cells (tab 32 fun i => bv (x i)) 41)).alloc (.cells zh 41)) ∧ IsTab ((w.alloc (.cells (tab 32 fun i => bv (x i)) 41)).alloc (.cells zh 41)) (w.heap.size + 1) 41 32 fun _ => bv 0#8) := by
    have e1 : (w.alloc (.cells (tab 32 fun i => bv (x i)) 41)).heap.size = w.heap.size + 1 := by simp
    have t6 := put_newR (w.alloc (.cells (tab 32 fun i => bv (x i)) 41)) zh HZ.out
    rw [e1] at t6
    exact Lib.hid ⟨((Below.refl _ _).alloc (Nat.le_refl _) _).alloc (by simp) _, t6⟩
  unfold dv
  by_cases h16 : (16 : Int) < (n : Int)
  · clear h
    go_enter Tryd.func33, Tryd.ntmps33
    go_upto_region 2 with (fail)
    generalize (w.alloc (.cells (tab 32 fun i => bv (x i)) 41)).alloc (.cells zh 41) = y at *
    generalize hq1 : w.heap.size + 1 = q6 at *
    have HQ1 := Lib.hid hq1
    clear hq1
    go_wp2_with ((with_reducible refine wpList_store_row (P := Tryd.prog) (w := y) ?_ 41 (.tmp 6) (.tmp 24) ?_ q6 zh ?_ ?_ 41 (tab 32 fun _ => bv 0#8) ?_ HZI.out ?_ HZO.out ?_); (· exact rfl); (· exact rfl); (· exact rfl); (· exact rfl); (· exact HB.out.2); (· rw [HZL.out, tab_size]))
    have hr2 : IsTab (World.setRow y q6 zh) q6 41 32 fun _ => bv 0#8 := by
      have hr := IsTab.row (g := fun _ => bv 0#8) HB.out.2
      rw [HZ.out] at hr
      exact hr
    exact bodyPost_ret (Kc.results_cell_tmp rfl _ _ q6 41 _ (0, 0) _ rfl hr2 und26 rfl (inf26 _) (.int .i64 2) rfl) rfl ⟨rfl, below_setRow HB.out.1 (by have := HQ1.out; omega) _⟩
  · by_cases hi : i < 0
    · have hn16 : (n : Int) ≤ 16 := by omega
      clear h
      go_enter Tryd.func33, Tryd.ntmps33
      go_upto_region 2 with (fail)
      generalize (w.alloc (.cells (tab 32 fun i => bv (x i)) 41)).alloc (.cells zh 41) = y at *
      generalize hq1 : w.heap.size + 1 = q6 at *
      have HQ1 := Lib.hid hq1
      clear hq1
      go_wp2_with ((with_reducible refine wpList_store_row (P := Tryd.prog) (w := y) ?_ 41 (.tmp 6) (.tmp 24) ?_ q6 zh ?_ ?_ 41 (tab 32 fun _ => bv 0#8) ?_ HZI.out ?_ HZO.out ?_); (· exact rfl); (· exact rfl); (· exact rfl); (· exact rfl); (· exact HB.out.2); (· rw [HZL.out, tab_size]))
      have hr2 : IsTab (World.setRow y q6 zh) q6 41 32 fun _ => bv 0#8 := by
        have hr := IsTab.row (g := fun _ => bv 0#8) HB.out.2
        rw [HZ.out] at hr
        exact hr
      exact bodyPost_ret (Kc.results_cell_tmp rfl _ _ q6 41 _ (0, 0) _ rfl hr2 und26 rfl (inf26 _) (.int .i64 2) rfl) rfl ⟨rfl, below_setRow HB.out.1 (by have := HQ1.out; omega) _⟩
    · have hn16 : (n : Int) ≤ 16 := by omega
      have hi0 : 0 ≤ i := by omega
      have hp : (2 : Int) ^ n ≤ 65536 := by have := p2_nat n 16 (by omega); simpa using this
      have hp0 := p2_pos n
      have hpi : (2 : Int) ^ n ≤ i := by omega
      clear h
      go_enter Tryd.func33, Tryd.ntmps33
      go_upto_region 2 with (fail)
      generalize (w.alloc (.cells (tab 32 fun i => bv (x i)) 41)).alloc (.cells zh 41) = y at *
      generalize hq1 : w.heap.size + 1 = q6 at *
      have HQ1 := Lib.hid hq1
      clear hq1
      go_wp2_with ((with_reducible refine wpList_store_row (P := Tryd.prog) (w := y) ?_ 41 (.tmp 6) (.tmp 24) ?_ q6 zh ?_ ?_ 41 (tab 32 fun _ => bv 0#8) ?_ HZI.out ?_ HZO.out ?_); (· exact rfl); (· exact rfl); (· exact rfl); (· exact rfl); (· exact HB.out.2); (· rw [HZL.out, tab_size]))
      have hr2 : IsTab (World.setRow y q6 zh) q6 41 32 fun _ => bv 0#8 := by
        have hr := IsTab.row (g := fun _ => bv 0#8) HB.out.2
        rw [HZ.out] at hr
        exact hr
      exact bodyPost_ret (Kc.results_cell_tmp rfl _ _ q6 41 _ (0, 0) _ rfl hr2 und26 rfl (inf26 _) (.int .i64 2) rfl) rfl ⟨rfl, below_setRow HB.out.1 (by have := HQ1.out; omega) _⟩
theorem run_neq_tab {P : Program} (w : World) (t e : TypeId) (n : Nat) (k : IntKind) (ht : P.underlying t = some (.array n e)) (he : P.underlying e = some (.int k)) (hsz : ∀ w, (sizeOf e).run P w = .ok 1 w) (f g : Nat → Int) :
    (binOp .neq t (.agg (tab n fun i => .int k (f i))) (.agg (tab n fun i => .int k (g i)))).run P w = .ok (.bool (!((List.range n).all fun i => f i == g i))) w := by
  rw [run_neq_struct, run_equal_tab w 9998 t e n k ht he hsz]; rfl
theorem neqT (a : Hx) (w : World) : (binOp .neq 42 (dv a) (dv a)).run Tryd.prog w = .ok (.bool false) w := by
  show (binOp .neq 42 (.agg (tab 32 fun i => bv (a i))) (.agg (tab 32 fun i => bv (a i)))).run Tryd.prog w = _
  have h := run_neq_tab (P := Tryd.prog) w 42 5 32 .u8 (by kernel_rfl) undU8 sizeU8 (fun i => Bv (a i)) (fun i => Bv (a i))
  rw [show ((List.range 32).all fun i => Bv (a i) == Bv (a i)) = true from by simp] at h
  exact h
/-- Two lists of digests in a memory that grows. -/
structure Two (W : World) (a b : Option Addr) (n : Nat) (f : Nat → Hx) (y : World) : Prop where
  ha : IsHs y a n f
  hb : IsHs y b n f
  below : Below W.heap.size W y
theorem Two.drew {W y : World} {a b : Option Addr} {n : Nat} {f : Nat → Hx} (h : Two W a b n f y) : Two W a b n f y.drew := ⟨h.ha, h.hb, h.below.drew⟩
theorem wrong_none {D N : Nat} (hD : D ≤ 16) (hN : N ≤ 2 ^ D) : wrong (D : Int) N = 0 := by
  have e : ((2 ^ D : Nat) : Int) = (2 : Int) ^ D := by rw [Int.natCast_pow]; rfl
  unfold wrong
  rw [if_neg (by omega), if_neg (by rw [Int.toNat_natCast]; omega)]
/-- What mootref05.Path gathers. -/
structure Pg (W : World) (g : Nat → Hx) (k : Nat) (V : Value) (y : World) : Prop where
  row : y.ownsRow W.heap.size 41 32 V k (flat k g)
  below : Below W.heap.size W y
theorem Pg.next {W y y' : World} {g : Nat → Hx} {k : Nat} {V : Value} (h : Pg W g k V y) (hb : Below y.heap.size y y') : Pg W g k V y' :=
  ⟨(Kept.ofBelow (S := fun _ => False) hb).row h.row (fun _ _ h => h), bl h.below hb⟩
set_option maxHeartbeats 2000000 in
set_option maxRecDepth 100000 in
theorem refPath_ok (d : Nat) (a : Option Addr) (n c : Nat) (f : Nat → Hx) (i : Nat) (w : World) (hs : IsHs w a n f) (hnc : n ≤ c) (hd : d ≤ 16) (hn : n ≤ 2 ^ d) (hi : i < 2 ^ d) :
    Calls Tryd.prog 32 #[.int .i64 d, .slice a n c, .int .i64 i] w fun e w' => ∃ V, e = .returned (.tuple #[V, .int .i64 0]) ∧ w'.ownsRow w.heap.size 41 32 V d (flat d (sib (ext n f) i)) ∧ Below w.heap.size w w' := by
  have h16 := two16 hd
  have hcw := refWrong (d : Int) n w (by omega)
  rw [wrong_none hd hn] at hcw
  have HCW := Lib.hid hcw
  have HZW := Lib.hid (zeros_walk w)
  have HS := Lib.hid hs
  clear hs hcw
  obtain ⟨i0, hi0, hi1, hi2, hi3⟩ := infRs
  have HI := Lib.hid (And.intro hi0 (And.intro hi1 (And.intro hi2 hi3)))
  clear hi0 hi1 hi2 hi3
  have hIi : (i : Int) < 2 ^ d := by
    have e : ((2 ^ d : Nat) : Int) = (2 : Int) ^ d := by rw [Int.natCast_pow]; rfl
    omega
  have hp16 : (2 : Int) ^ d ≤ 65536 := by have := p2_nat d 16 hd; simpa using this
  have hp0 := p2_pos d
  have hN : (n : Int) ≤ 65536 := by omega
  have hdI : (d : Int) ≤ 16 := by omega
  have hIb : (i : Int) ≤ 65536 := by omega
  have HB := Lib.hid (And.intro hn (And.intro hi h16))
  clear hn hi h16
  go_enter Tryd.func32, Tryd.ntmps32
  go_upto_region 9 with (first
    | (go_at_call 47; (with_reducible refine HCW.out.mono ?_); rintro e _ ⟨rfl, rfl⟩)
    | (go_at_call 49; (with_reducible refine HZW.out.mono ?_); rintro e y1 ⟨V9, rfl, hrow, hb⟩; obtain ⟨b, c2, rfl, hz, _⟩ := hs_of hrow; have H1 := Lib.hid (And.intro (HS.out.below hb) (And.intro hz hb)); clear hrow hb hz))
  have HP0 : Hid (Pg y1 (sib (ext n f) i) 0 (.slice none 0 0) y1) := Lib.hid ⟨World.ownsRow_nil _ _ _ _, Below.refl _ _⟩
  go_loopw [10, 11] (fun tv t y => ∃ r : Nat, r ≤ d ∧ t = .int .i64 r ∧ Hid (Pg y1 (sib (ext n f) i) r tv y)) (fun _ t _ => d - (intOf t).toNat)
  case atStart => exact ⟨0, Nat.zero_le _, rfl, HP0⟩
  case round =>
    obtain ⟨r, hr, rfl, hp⟩ := hrel
    clear HP0
    generalize u10 = V at *
    by_cases hlt : (r : Int) < (d : Int)
    · have hr16 : (r : Int) ≤ 16 := by omega
      obtain ⟨m, hm⟩ : ∃ m : Nat, (i : Int) / 2 ^ r = (m : Int) := ⟨i / 2 ^ r, by rw [Int.natCast_ediv, Int.natCast_pow]; rfl⟩
      have HMR : Hid (m = i / 2 ^ r) := Lib.hid (by
        have e : ((i / 2 ^ r : Nat) : Int) = (m : Int) := by rw [← hm, Int.natCast_ediv, Int.natCast_pow]; rfl
        omega)
      have hmi : m ≤ i := by rw [HMR.out]; exact Nat.div_le_self _ _
      have hx1 := xor1_i64 m (by omega)
      obtain ⟨s, hsx⟩ : ∃ s, m ^^^ 1 = s := ⟨_, rfl⟩
      rw [hsx] at hx1
      have HSX := Lib.hid hsx
      clear hsx hmi
      obtain ⟨q, hq⟩ : ∃ q : Nat, (s : Int) * 2 ^ r = (q : Int) := ⟨s * 2 ^ r, by rw [Int.natCast_mul, Int.natCast_pow]; rfl⟩
      have HQR : Hid (q = s * 2 ^ r ∧ q + 2 ^ r ≤ 131072) := Lib.hid (by
        have e : ((s * 2 ^ r : Nat) : Int) = (q : Int) := by rw [← hq, Int.natCast_mul, Int.natCast_pow]; rfl
        have e2 : q = s * 2 ^ r := by omega
        refine ⟨e2, ?_⟩
        have h1 : i < 2 ^ d := HB.out.2.1
        have h2 : 2 ^ d = 2 ^ (d - r) * 2 ^ r := by rw [← Nat.pow_add]; congr 1; omega
        have h3 : m < 2 ^ (d - r) := by
          rw [HMR.out]
          exact Nat.div_lt_of_lt_mul (by rw [Nat.mul_comm, ← h2]; exact h1)
        have h4 : s ≤ m + 1 := by rw [← HSX.out, xor1]; split <;> omega
        have h5 : (s + 1) * 2 ^ r ≤ (2 ^ (d - r) + 1) * 2 ^ r := Nat.mul_le_mul_right _ (by omega)
        have h6 : (2 ^ (d - r) + 1) * 2 ^ r = 2 ^ d + 2 ^ r := by rw [Nat.add_mul, ← h2, Nat.one_mul]
        have h7 : (s + 1) * 2 ^ r = s * 2 ^ r + 2 ^ r := by rw [Nat.add_mul, Nat.one_mul]
        have h8 : 2 ^ r ≤ 2 ^ 16 := Nat.pow_le_pow_right (by decide) (by omega)
        have h9 := HB.out.2.2
        omega)
      have hqb : (q : Int) ≤ 131072 := by have : q ≤ 131072 := Nat.le_trans (Nat.le_add_right _ _) HQR.out.2; omega
      have HUN := Lib.hid (under_walk n c 17 c2 a b f (by omega) hnc (by decide) r q (by omega) HQR.out.2 wr (H1.out.1.below (hp.out.below.mono (Nat.le_refl _))) (H1.out.2.1.below (hp.out.below.mono (Nat.le_refl _))))
      have hsib : und (ext n f) r q = sib (ext n f) i r := by rw [HQR.out.1, ← HSX.out, HMR.out]; rfl
      rw [hsib] at HUN
      clear hsib
      go_upto_region 12 with (fail)
      clear hx1 hm
      generalize hx : sib (ext n f) i r = x at *
      have HX := Lib.hid hx
      clear hx
      have H32 : Hid (0 < 32) := Lib.hid (by decide)
      have hlb : Hid (r + 1 ≤ maxLen ∧ (r + 1) * 32 ≤ 140737488355328) := Lib.hid ⟨by unfold maxLen; omega, by omega⟩
      go_upto_region 10 with (first
        | (go_at_call 48; (with_reducible refine HUN.out.mono ?_); rintro e y2 ⟨rfl, hb⟩; have H2 := Lib.hid (hp.out.next hb); have HBD := Lib.hid (buildR x y2); have HSR := Lib.hid (src1R y2 x); have HOW := Lib.hid (H2.out.row.alloc (.cells (tab 32 fun j => bv (x j)) 41)); have HBS : Hid (y1.heap.size ≤ (y2.alloc (.cells (tab 32 fun j => bv (x j)) 41)).heap.size) := Lib.hid (by have := H2.out.below.size; simp; omega); clear hb)
        | ((with_reducible refine wpList_build1 (P := Tryd.prog) (w := y2) (t := 73) (x := .tmp 48) (p := dv x) (v := .slice (some ⟨y2.heap.size, 0, none⟩) 1 1) (w' := y2.alloc (.cells (tab 32 fun j => bv (x j)) 41)) ?_ ?_ ?_ HBD.out ?_); (· exact rfl); (· exact rfl); (· exact rfl))
        | (at_builtin; (with_reducible refine wpList_append_any (P := Tryd.prog) (w := y2.alloc (.cells (tab 32 fun j => bv (x j)) 41)) ?_ (.tmp 40) (.tmp 49) 73 ?_ y1.heap.size 41 i0 (dv fun _ => 0#8) 32 32 undRs HI.out zcells H32.out V r (flat r (sib (ext n f) i)) ?_ HOW.out (some ⟨y2.heap.size, 0, none⟩) 1 1 (flat 1 fun _ => x) ?_ HSR.out (flat_one _ _) hlb.out.1 hlb.out.2 HBS.out ?_); (· exact rfl); (· exact rfl); (· exact rfl); (· exact rfl); intro V7 w7 hown7 hgr7 hat7))
      have H8 : Hid (Pg y1 (sib (ext n f) i) (r + 1) V7 w7) := by
        rw [← HX.out, flat_step] at hown7
        have hb8 : Below y1.heap.size y1 (y2.alloc (.cells (tab 32 fun j => bv (x j)) 41)) := H2.out.below.alloc H2.out.below.size _
        exact Lib.hid ⟨hown7, grown_below hb8 HOW.out hgr7⟩
      clear hown7 hgr7 hat7 H2 HBD HSR HOW HBS H32 hlb HUN HX
      go_wp2_with fail
      go_roundw
      case rel => exact ⟨r + 1, by omega, by go_num, H8⟩
      case measure => simp [intOf]; omega
    · obtain rfl : r = d := by omega
      go_wp2_with fail
      go_ret2
      exact ⟨_, rfl, ownsRow_base hp.out.row H1.out.2.2.size, H1.out.2.2.trans (hp.out.below.mono H1.out.2.2.size)⟩
end Mk
end Go.Proofs.YtgffohmneobblaaDoor
/-
  mootref05.Path for whatever comes in; what a law keeps: rows of digests, boxed digests. Own work.
-/
namespace Go.Proofs.YtgffohmneobblaaDoor
open Go.RowKit
set_option linter.unusedVariables false
set_option linter.unusedSimpArgs false
namespace Mk
open Kc
theorem wrong3 (d : Int) (n : Nat) : wrong d n = 0 ∨ wrong d n = 2 ∨ wrong d n = 5 := by
  by_cases h : wrong d n = 0
  · exact .inl h
  · exact .inr (wrong_val d n h)
theorem wrongP3 (d : Int) (n : Nat) (i : Int) : wrongP d n i = 0 ∨ wrongP d n i = 2 ∨ wrongP d n i = 5 := by
  unfold wrongP
  by_cases h : wrong d n = 0
  · rw [if_neg (by simp [h])]; split
    · exact .inr (.inl rfl)
    · exact .inl rfl
  · rw [if_pos h]; exact wrong3 d n
theorem refPath_wrong (d : Int) (a : Option Addr) (n c : Nat) (i : Int) (w : World) (hn : n ≤ 9223372036854775807) (h : wrong d n ≠ 0) :
    Calls Tryd.prog 32 #[.int .i64 d, .slice a n c, .int .i64 i] w fun e w' => e = .returned (.tuple #[.slice none 0 0, .int .i64 (wrong d n)]) ∧ w = w' := by
  have HCW := Lib.hid (refWrong d n w hn)
  have hne : (wrong d n == 0) = false := by simpa using h
  generalize wrong d n = k at *
  clear h hn
  go_enter Tryd.func32, Tryd.ntmps32
  go_wp2_with (go_at_call 47; (with_reducible refine HCW.out.mono ?_); rintro e _ ⟨rfl, rfl⟩)
  go_ret2
  exact ⟨rfl, rfl⟩
theorem refPath_place (d : Nat) (a : Option Addr) (n c : Nat) (i : Int) (w : World) (hn : n ≤ 2 ^ d) (hd : d ≤ 16) (h : i < 0 ∨ (2 : Int) ^ d ≤ i) :
    Calls Tryd.prog 32 #[.int .i64 d, .slice a n c, .int .i64 i] w fun e w' => e = .returned (.tuple #[.slice none 0 0, .int .i64 2]) ∧ w = w' := by
  have h16 := two16 hd
  have hcw := refWrong (d : Int) n w (by omega)
  rw [wrong_none hd hn] at hcw
  have HCW := Lib.hid hcw
  have hp : (2 : Int) ^ d ≤ 65536 := by have := p2_nat d 16 hd; simpa using this
  have hp0 := p2_pos d
  have hdI : (d : Int) ≤ 16 := by omega
  clear hn hcw h16
  by_cases hi : i < 0
  · clear h
    go_enter Tryd.func32, Tryd.ntmps32
    go_wp2_with (go_at_call 47; (with_reducible refine HCW.out.mono ?_); rintro e _ ⟨rfl, rfl⟩)
    go_ret2
    exact ⟨rfl, rfl⟩
  · have hi0 : 0 ≤ i := by omega
    have hpi : (2 : Int) ^ d ≤ i := by omega
    clear h
    go_enter Tryd.func32, Tryd.ntmps32
    go_wp2_with (go_at_call 47; (with_reducible refine HCW.out.mono ?_); rintro e _ ⟨rfl, rfl⟩)
    go_ret2
    exact ⟨rfl, rfl⟩
theorem refPath_any (d : Int) (a : Option Addr) (n c : Nat) (f : Nat → Hx) (i : Int) (w : World) (hs : IsHs w a n f) (hnc : n ≤ c) (hn : n ≤ 9223372036854775807) :
    Calls Tryd.prog 32 #[.int .i64 d, .slice a n c, .int .i64 i] w fun e w' => ∃ b cb, e = .returned (.tuple #[.slice b (pathLen d n i) cb, .int .i64 (wrongP d n i)]) ∧ IsHs w' b (pathLen d n i) (sib (ext n f) i.toNat) ∧ Below w.heap.size w w' := by
  by_cases h0 : wrong d n = 0
  · obtain ⟨k, rfl, hk, hnk⟩ := wrong_ok h0
    by_cases h1 : i < 0 ∨ (2 : Int) ^ k ≤ i
    · have hw : wrongP (k : Int) n i = 2 := by unfold wrongP; rw [if_neg (by simp [h0]), if_pos (by simpa using h1)]
      have hl : pathLen (k : Int) n i = 0 := by unfold pathLen; rw [hw, if_neg (by decide)]
      rw [hw, hl]
      refine (refPath_place k a n c i w hnk hk h1).mono ?_
      rintro e _ ⟨rfl, rfl⟩
      exact ⟨none, 0, rfl, .inl rfl, Below.refl _ _⟩
    · have hw : wrongP (k : Int) n i = 0 := by unfold wrongP; rw [if_neg (by simp [h0]), if_neg (by simpa using h1)]
      have hl : pathLen (k : Int) n i = k := by unfold pathLen; rw [hw, if_pos rfl]; rfl
      obtain ⟨j, rfl⟩ : ∃ j : Nat, i = j := ⟨i.toNat, by omega⟩
      rw [hw, hl]
      refine (refPath_ok k a n c f j w hs hnc hk hnk (by have e : ((2 ^ k : Nat) : Int) = (2 : Int) ^ k := by rw [Int.natCast_pow]; rfl
                                                         omega)).mono ?_
      rintro e w' ⟨V, rfl, hr, hb⟩
      obtain ⟨b, cb, rfl, hz, _⟩ := hs_of hr
      exact ⟨b, cb, rfl, by rw [Int.toNat_natCast]; exact hz, hb⟩
  · have hw : wrongP d n i = wrong d n := by unfold wrongP; rw [if_pos h0]
    have hl : pathLen d n i = 0 := by unfold pathLen; rw [hw, if_neg h0]
    rw [hw, hl]
    refine (refPath_wrong d a n c i w hn h0).mono ?_
    rintro e _ ⟨rfl, rfl⟩
    exact ⟨none, 0, rfl, .inl rfl, Below.refl _ _⟩
/-- Rows of digests, boxed digests, the old memory. -/
structure Mb (W : World) (rs : List (Option Addr × Nat × (Nat → Hx))) (l : List (Nat × Nat × Hx)) (y : World) : Prop where
  hs : ∀ r ∈ rs, IsHs y r.1 r.2.1 r.2.2
  ts : ∀ p ∈ l, IsTab y p.1 p.2.1 32 fun i => bv (p.2.2 i)
  below : Below W.heap.size W y
section
variable {W y y' : World} {rs : List (Option Addr × Nat × (Nat → Hx))} {l : List (Nat × Nat × Hx)}
theorem Mb.next (h : Mb W rs l y) (hb : Below y.heap.size y y') : Mb W rs l y' :=
  ⟨fun r hr => (h.hs r hr).below hb, fun p hp => (h.ts p hp).below hb, bl h.below hb⟩
theorem Mb.drew (h : Mb W rs l y) : Mb W rs l y.drew := ⟨h.hs, h.ts, h.below.drew⟩
theorem Mb.row {a : Option Addr} {n : Nat} {f : Nat → Hx} (h : Mb W rs l y) (hr : IsHs y a n f) : Mb W ((a, n, f) :: rs) l y :=
  ⟨fun r hm => (List.mem_cons.1 hm).elim (fun e => by rw [e]; exact hr) (h.hs r), h.ts, h.below⟩
theorem Mb.add (h : Mb W rs l y) (T : Nat) (x : Hx) : Mb W rs ((y.heap.size, T, x) :: l) (y.alloc (.cells (tab 32 fun i => bv (x i)) T)) := by
  have hb : Below y.heap.size y (y.alloc (.cells (tab 32 fun i => bv (x i)) T)) := (Below.refl _ _).alloc (Nat.le_refl _) _
  refine ⟨fun r hr => (h.hs r hr).below hb, fun p hp => ?_, bl h.below hb⟩
  rcases List.mem_cons.1 hp with rfl | hp
  · exact IsTab.new y T 32 fun i => bv (x i)
  · exact (h.ts p hp).below hb
theorem Mb.loadH {q : Nat} {x : Hx} (h : Mb W rs l y) (hp : (q, 42, x) ∈ l) : (Instr.loadAt 42 (.pointer (some ⟨q, 0, none⟩))).run Tryd.prog y = .ok (dv x) y :=
  load32h (h.ts (q, 42, x) hp)
theorem Mb.loadR {q : Nat} {x : Hx} (h : Mb W rs l y) (hp : (q, 41, x) ∈ l) : (Instr.loadAt 41 (.pointer (some ⟨q, 0, none⟩))).run Tryd.prog y = .ok (dv x) y :=
  load32r (h.ts (q, 41, x) hp)
theorem Mb.at {a : Option Addr} {n : Nat} {f : Nat → Hx} (h : Mb W rs l y) (hr : (a, n, f) ∈ rs) : IsHs y a n f := h.hs _ hr
end
section
variable {ops : Array Oper} {rest : List Oper} {op : Oper} {a : Act} {w : World} {Q : Exit → Act → World → Prop}
theorem wpList_neqG (hw : Region.wanted op (yielded ops a.tmps) = true) (x y : Operand) (yt : TypeId) (z : Hx) (ho : op.op = .binOp .neq 42 x y yt) (hx : a.eval x = dv z) (hy : a.eval y = dv z)
    (h : wpList Tryd.prog ops Q rest (a.put op.dst (.bool false)) w) : wpList Tryd.prog ops Q (op :: rest) a w :=
  wpList_step fun K hK => by
    rw [if_pos hw]
    unfold Oper.wp execOp
    simp only [ho, hx, hy]
    have e : (binOp .neq 42 (dv z) (dv z)).run Tryd.prog w = .ok (.bool false) w := neqT z w
    simp [guardN, e]
    exact hK _ _ h
end
end Mk
end Go.Proofs.YtgffohmneobblaaDoor
