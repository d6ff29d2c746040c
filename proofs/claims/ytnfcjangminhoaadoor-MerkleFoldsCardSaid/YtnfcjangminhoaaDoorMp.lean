/-
  MerkleProves. Own work.
-/
import Derived.Test.YtnfcjangminhoaaDoorMj
import Derived.Laws.Bits64
import Derived.Test.YtnfcjangminhoaaDoorApz
import Derived.Test.YtnfcjangminhoaaDoorWhy
namespace Go.Proofs.YtnfcjangminhoaaDoor
open Go.RowKit
set_option linter.unusedVariables false
set_option linter.unusedSimpArgs false
namespace Mk
open Kc
/-- The state of the law: the leaf that came in, the leaves of the call's own, the path. -/
structure Mq (W : World) (q7 B N : Nat) (x : Hx) (f : Nat → Hx) (V9 : Value) (y : World) : Prop where
  s7 : IsTab y q7 26 32 fun i => bv (x i)
  row : y.ownsRow W.heap.size 27 32 V9 N (flat N f)
  top : ∀ k, V9.ownBlock = some k → q7 < k ∧ k < B
  below : Below W.heap.size W y
  g7 : W.heap.size ≤ q7
  b7 : q7 < B
  bB : B ≤ y.heap.size
theorem Mq.next {W y y' : World} {q7 B N : Nat} {x : Hx} {f : Nat → Hx} {V9 : Value} (h : Mq W q7 B N x f V9 y) (hb : Below y.heap.size y y') : Mq W q7 B N x f V9 y' :=
  ⟨h.s7.below hb, (Kept.ofBelow (S := fun _ => False) hb).row h.row (fun _ _ h => h), h.top, bl h.below hb, h.g7, h.b7, Nat.le_trans h.bB hb.size⟩
/-- With the path and the root. -/
structure Mr (W : World) (q7 B N D q12 : Nat) (x r : Hx) (f p : Nat → Hx) (V9 : Value) (a10 : Option Addr) (y : World) : Prop where
  mq : Mq W q7 B N x f V9 y
  hp : IsHs y a10 D p
  s12 : IsTab y q12 27 32 fun i => bv (r i)
  g12 : B ≤ q12
  ph : ∀ b o, a10 = some ⟨b, o, none⟩ → 0 < D → B ≤ b
theorem Mr.next {W y y' : World} {q7 B N D q12 : Nat} {x r : Hx} {f p : Nat → Hx} {V9 : Value} {a10 : Option Addr} (h : Mr W q7 B N D q12 x r f p V9 a10 y) (hb : Below y.heap.size y y') : Mr W q7 B N D q12 x r f p V9 a10 y' :=
  ⟨h.mq.next hb, h.hp.below hb, h.s12.below hb, h.g12, h.ph⟩
/-- The same, while the leaves grow: e is the leaves with noughts behind, M of them are there. -/
structure Ms (W : World) (q7 D q12 M : Nat) (x r : Hx) (e p : Nat → Hx) (V9 : Value) (a10 : Option Addr) (y : World) : Prop where
  s7 : IsTab y q7 26 32 fun i => bv (x i)
  s12 : IsTab y q12 27 32 fun i => bv (r i)
  hp : IsHs y a10 D p
  row : y.ownsRow W.heap.size 27 32 V9 M (flat M e)
  top : ∀ k, V9.ownBlock = some k → k ≠ q7 ∧ k ≠ q12 ∧ ∀ b o, a10 = some ⟨b, o, none⟩ → 0 < D → k ≠ b
  below : Below W.heap.size W y
  g7 : W.heap.size ≤ q7
  g12 : W.heap.size ≤ q12
theorem Ms.next {W y y' : World} {q7 D q12 M : Nat} {x r : Hx} {e p : Nat → Hx} {V9 : Value} {a10 : Option Addr} (h : Ms W q7 D q12 M x r e p V9 a10 y) (hb : Below y.heap.size y y') : Ms W q7 D q12 M x r e p V9 a10 y' :=
  ⟨h.s7.below hb, h.s12.below hb, h.hp.below hb, (Kept.ofBelow (S := fun _ => False) hb).row h.row (fun _ _ h => h), h.top, bl h.below hb, h.g7, h.g12⟩
theorem Ms.grown {W y y' : World} {q7 D q12 M : Nat} {x r : Hx} {e p : Nat → Hx} {V9 V' : Value} {a10 : Option Addr} (h : Ms W q7 D q12 M x r e p V9 a10 y) (hown : y'.ownsRow W.heap.size 27 32 V' (M + 1) (flat (M + 1) e)) (hg : y.grownBy y' V9.ownBlock)
    (hat : ∀ k, V'.ownBlock = some k → V9.ownBlock = some k ∨ k = y.heap.size) : Ms W q7 D q12 (M + 1) x r e p V' a10 y' := by
  have hk : Kept (fun k => V9.ownBlock = some k) y y' := ⟨hg.os, hg.tape, hg.output, hg.size, fun k hk hn => hg.block k hk (fun e => hn e.symm)⟩
  refine ⟨kept_tab h.s7 hk (fun e => (h.top _ e).1 rfl), kept_tab h.s12 hk (fun e => (h.top _ e).2.1 rfl), ?_, hown, fun k hk' => ?_, ((Kept.ofBelow (S := fun k => V9.ownBlock = some k) h.below).trans hk (fun _ _ h => h)).below (Nat.le_refl _) (fun j hj e => (h.row.lt j e).1), h.g7, h.g12⟩
  · rcases h.hp with h0 | ⟨b, o, h1, h2⟩
    · exact .inl h0
    · rcases Nat.eq_zero_or_pos D with h0 | h0
      · exact .inl h0
      · exact .inr ⟨b, o, h1, h2.keep fun i v hv => hk.cell (fun e => (h.top _ e).2.2 b o h1 h0 rfl) hv⟩
  · rcases hat k hk' with h1 | h1
    · exact h.top k h1
    · subst h1
      refine ⟨by have := h.s7.lt; omega, by have := h.s12.lt; omega, fun b o h1 h0 => ?_⟩
      have := h.hp.inHeap b o h1 h0
      omega
/-- The first N of a row. -/
theorem row_less {w : World} {B T : Nat} {a : Option Addr} {n c N : Nat} {f : Nat → Hx} (h : w.ownsRow B T 32 (.slice a n c) n (flat n f)) (hN : N ≤ n) : w.ownsRow B T 32 (.slice a N c) N (flat N f) := by
  have h' := h
  obtain ⟨h0, h1⟩ := h
  rcases h1 with ⟨h1, e⟩ | ⟨g, cap, cur, hv, hg, hc, hnc, hm, hs, ht⟩
  · injection h1 with e1 e2 e3
    subst e1 e2 e3
    have : N = 0 := by omega
    subst this
    exact ⟨by rw [flat_len], .inl ⟨rfl, rfl⟩⟩
  · injection hv with e1 e2 e3
    subst e1 e3
    refine ⟨by rw [flat_len], .inr ⟨g, c, cur, rfl, hg, hc, by omega, hm, hs, ?_⟩⟩
    have e : (cur.toList.take (n * 32)).take (N * 32) = (flat n f).take (N * 32) := by rw [ht]
    rw [List.take_take, Nat.min_eq_left (by omega)] at e
    rw [e]
    apply List.ext_getElem?
    intro i
    rw [List.getElem?_take]
    by_cases hi : i < N * 32
    · rw [if_pos hi]
      have e1 := flat_at (n := n) (f := f) (k := i / 32) (j := i % 32) (by omega) (by omega)
      have e2 := flat_at (n := N) (f := f) (k := i / 32) (j := i % 32) (by omega) (by omega)
      rw [show 32 * (i / 32) + i % 32 = i from by omega] at e1 e2
      rw [e1, e2]
    · rw [if_neg hi, List.getElem?_eq_none (by rw [flat_len]; omega)]
theorem hs_row {w : World} {B T : Nat} {a : Option Addr} {N c : Nat} {f : Nat → Hx} (h : w.ownsRow B T 32 (.slice a N c) N (flat N f)) : IsHs w a N f ∧ (a = none → N = 0 ∧ c = 0) ∧ N ≤ c ∧ c ≤ maxLen := by
  obtain ⟨a', c', e, h1, h2, h3, h4, _⟩ := hs_of h
  injection e with e1 e2 e3
  subst e1 e3
  exact ⟨h1, h2, h3, h4⟩
theorem wrong_in {D N : Nat} (hD : D ≤ 16) (hN : N ≤ 2 ^ D) : wrong (D : Int) N = 0 := by
  have e : ((2 ^ D : Nat) : Int) = (2 : Int) ^ D := by rw [Int.natCast_pow]; rfl
  unfold wrong
  rw [if_neg (by omega), if_neg (by rw [Int.toNat_natCast]; omega)]
theorem wrongP_in {D N I : Nat} (hD : D ≤ 16) (hN : N ≤ 2 ^ D) (hI : I < 2 ^ D) : wrongP (D : Int) N (I : Int) = 0 ∧ pathLen (D : Int) N (I : Int) = D := by
  have e : ((2 ^ D : Nat) : Int) = (2 : Int) ^ D := by rw [Int.natCast_pow]; rfl
  have h : wrongP (D : Int) N (I : Int) = 0 := by
    unfold wrongP
    rw [if_neg (by rw [wrong_in hD hN]; decide), if_neg (by rw [Int.toNat_natCast]; omega)]
  exact ⟨h, by unfold pathLen; rw [if_pos h]; rfl⟩
theorem rootOf_in {D N : Nat} (hD : D ≤ 16) (hN : N ≤ 2 ^ D) (f : Nat → Hx) : rootOf (D : Int) N f = und (ext N f) D 0 := by
  unfold rootOf; rw [if_pos (wrong_in hD hN)]; rfl
theorem u64_mod (d m : Int) (hm : 0 < m) : ∃ k : Nat, (IntKind.u64.wrap d).tmod m = (k : Int) ∧ (k : Int) < m := by
  have e : IntKind.u64.wrap d = d % 18446744073709551616 := IntKind.wrap_u64 d
  have h0 : 0 ≤ d % 18446744073709551616 := Int.emod_nonneg _ (by decide)
  refine ⟨((IntKind.u64.wrap d).tmod m).toNat, ?_, ?_⟩
  · rw [e, Int.tmod_eq_emod_of_nonneg h0]
    have := Int.emod_nonneg (d % 18446744073709551616) (show m ≠ 0 by omega)
    omega
  · rw [e, Int.tmod_eq_emod_of_nonneg h0]
    have h1 := Int.emod_nonneg (d % 18446744073709551616) (show m ≠ 0 by omega)
    have h2 := Int.emod_lt_of_pos (d % 18446744073709551616) hm
    omega

/-- Behind the store: what the law still reads. -/
structure Mz (W : World) (D q12 q14 q15 M : Nat) (r nx : Hx) (g p : Nat → Hx) (b9 : Nat) (a10 : Option Addr) (y : World) : Prop where
  s12 : IsTab y q12 27 32 fun i => bv (r i)
  s14 : IsTab y q14 27 32 fun i => bv (r i)
  s15 : IsTab y q15 27 32 fun i => bv (nx i)
  hs : IsHs y (some ⟨b9, 0, none⟩) M g
  hp : IsHs y a10 D p
  below : Below W.heap.size W y
theorem Mz.next {W y y' : World} {D q12 q14 q15 M : Nat} {r nx : Hx} {g p : Nat → Hx} {b9 : Nat} {a10 : Option Addr} (h : Mz W D q12 q14 q15 M r nx g p b9 a10 y) (hb : Below y.heap.size y y') : Mz W D q12 q14 q15 M r nx g p b9 a10 y' :=
  ⟨h.s12.below hb, h.s14.below hb, h.s15.below hb, h.hs.below hb, h.hp.below hb, bl h.below hb⟩
theorem kept_hs {S : Nat → Prop} {y y' : World} {a : Option Addr} {n : Nat} {f : Nat → Hx} (h : IsHs y a n f) (hk : Kept S y y') (hS : ∀ b o, a = some ⟨b, o, none⟩ → 0 < n → ¬ S b) : IsHs y' a n f := by
  rcases h with h0 | ⟨b, o, h1, h2⟩
  · exact .inl h0
  · rcases Nat.eq_zero_or_pos n with h0 | h0
    · exact .inl h0
    · exact .inr ⟨b, o, h1, h2.keep fun i v hv => hk.cell (hS b o h1 h0) hv⟩
theorem Ms.stored {W y : World} {q7 D q12 q14 q15 M T : Nat} {x r nx z : Hx} {e p : Nat → Hx} {c' I o : Nat} {b9 : Nat} {a10 : Option Addr} (h : Ms W q7 D q12 M x r e p (.slice (some ⟨b9, 0, none⟩) M c') a10 y)
    (h14 : IsTab y q14 27 32 fun i => bv (r i)) (h15 : IsTab y q15 27 32 fun i => bv (nx i)) (n14 : q14 ≠ b9) (n15 : q15 ≠ b9) (hl : Lv y b9 T M e) (ho : o = 32 * I) :
    Mz W D q12 q14 q15 M r nx (put e I z) p b9 a10 (y.setCells b9 o (tab 32 fun i => bv (z i)).toList) := by
  have hk : Kept (· = b9) y (y.setCells b9 o (tab 32 fun i => bv (z i)).toList) := keptS_setCells (S := (· = b9)) (q := b9) rfl _ _ _ (Kept.ofBelow (Below.refl _ _))
  have h1 := h.top b9 rfl
  exact ⟨kept_tab h.s12 hk (fun e => h1.2.1 e.symm), kept_tab h14 hk n14, kept_tab h15 hk n15, .inr ⟨b9, 0, rfl, (hl.set I z ho).at5⟩, kept_hs h.hp hk (fun b o e h0 e2 => h1.2.2 b o e h0 e2.symm),
    ((Kept.ofBelow (S := (· = b9)) h.below).trans hk (fun _ _ h => h)).below (Nat.le_refl _) (fun j hj e => by rw [e]; exact (h.row.lt b9 rfl).1)⟩
theorem ext_put {N M I : Nat} {f : Nat → Hx} {x : Hx} (hN : N ≤ M) (hI : I < M) : ext M (put (ext N f) I x) = put (ext N f) I x := by
  funext k
  unfold ext put
  by_cases hk : k < M
  · rw [if_pos hk]
  · rw [if_neg hk]
    show zero 0 = if k = I then x else if k < N then f k else zero 0
    rw [if_neg (by omega), if_neg (by omega)]
section
variable {ops : Array Oper} {rest : List Oper} {op : Oper} {a : Act} {w : World} {Q : Exit → Act → World → Prop}
theorem wpList_eqG (hw : Region.wanted op (yielded ops a.tmps) = true) (x y : Operand) (yt : TypeId) (z1 z2 : Hx) (ho : op.op = .binOp .eql 27 x y yt) (hx : a.eval x = dv z1) (hy : a.eval y = dv z2)
    (h : wpList Tryd.prog ops Q rest (a.put op.dst (.bool (same32 z1 z2))) w) : wpList Tryd.prog ops Q (op :: rest) a w :=
  wpList_step fun K hK => by
    rw [if_pos hw]
    unfold Oper.wp execOp
    simp only [ho, hx, hy]
    have e : (binOp .eql 27 (dv z1) (dv z2)).run Tryd.prog w = .ok (.bool (same32 z1 z2)) w := eql32 z1 z2 w
    simp [guardE, e]
    exact hK _ _ h
end
set_option maxHeartbeats 1000000 in
set_option maxRecDepth 100000 in
theorem proves_walk (d : Int) (a : Option Addr) (n c : Nat) (f : Nat → Hx) (i : Int) (x : Hx) (w : World) (hs : IsHs w a n f) (hnil : a = none → n = 0 ∧ c = 0) (hnc : n ≤ c) (hn : n ≤ 4398046511104) (hd : -9223372036854775808 ≤ d ∧ d ≤ 9223372036854775807) (hi : -9223372036854775808 ≤ i ∧ i ≤ 9223372036854775807) (ht : Laid.KTab w) :
    Calls Tryd.prog 4 #[.int .i64 d, .slice a n c, .int .i64 i, dv x] w fun e w' => e = .returned (.bool true) ∧ Below w.heap.size w w' := by
  have HS := Lib.hid hs
  have HT := Lib.hid ht
  have HNI := Lib.hid hnil
  clear hs ht hnil hd hi
  obtain ⟨j0, hj0, hj1, hj2, hj3⟩ := infHs
  have HJ := Lib.hid (And.intro hj0 (And.intro hj1 (And.intro hj2 hj3)))
  clear hj0 hj1 hj2 hj3
  obtain ⟨D0, hD0, hDb⟩ := u64_mod d 9 (by decide)
  obtain ⟨D, hD⟩ : ∃ D : Nat, 1 + (D0 : Int) = (D : Int) := ⟨1 + D0, by omega⟩
  have hD9 : 1 ≤ D ∧ D ≤ 9 := by omega
  have hd0 : (D0 : Int) < 9 := by omega
  have T7 := Lib.hid (IsTab.new w 26 32 fun i => bv (x i))
  have B7 : Hid (Below w.heap.size w (w.alloc (.cells (tab 32 fun i => bv (x i)) 26))) := Lib.hid ((Below.refl _ _).alloc (Nat.le_refl _) _)
  have z2 := zeroHash
  generalize hz : (tab 32 fun _ => bv 0#8) = zh at *
  have HZ := Lib.hid hz
  clear hz
  have hzl : zh.size = 32 := by rw [← HZ.out, tab_size]
  have HZL := Lib.hid hzl
  clear hzl
  unfold dv
  go_enter Tryd.func4, Tryd.ntmps4
  go_upto_region 2 with (fail)
  clear hD0 hD hDb hd0
  have HY0 : Hid ((w.alloc (.cells (tab 32 fun i => bv (x i)) 26)).heap.size = w.heap.size + 1) := Lib.hid (by simp)
  generalize w.alloc (.cells (tab 32 fun i => bv (x i)) 26) = y0 at *
  generalize hq7 : w.heap.size = q7 at *
  have HQ7 := Lib.hid hq7
  clear hq7
  have HHS := Lib.hid (hashes_walk a n c f y0 (HS.out.below (by rw [HQ7.out]; exact B7.out)) hnc hn)
  go_upto_region 3 with (go_at_call 7; (with_reducible refine HHS.out.mono ?_); rintro e y1 ⟨V9, rfl, hrow, hb⟩; have H1 := Lib.hid (And.intro hrow hb); clear hrow hb)
  obtain ⟨a9, c9, rfl, hc1, hc2, hlv⟩ := lv_of_row H1.out.1
  have hW : y0.heap.size ≤ y1.heap.size := H1.out.2.size
  have H2 := Lib.hid (And.intro hc1 (And.intro hc2 (And.intro hlv hW)))
  have hc2' := hc2
  unfold maxLen at hc2'
  have hcI : (c9 : Int) ≤ 9223372036854775807 := by omega
  have hnI : (n : Int) ≤ (c9 : Int) := by omega
  clear hlv hW hc1 hc2 hc2'
  have hp : (2 : Int) ^ D ≤ 512 := by have := p2_nat D 9 hD9.2; simpa using this
  have hp0 := p2_pos D
  have hD9' : (D : Int) ≤ 9 := by omega
  obtain ⟨I, hI, hIb⟩ := u64_mod i (2 ^ D) hp0
  obtain ⟨N, hN⟩ : ∃ N : Nat, N = min n (2 ^ D) := ⟨_, rfl⟩
  have hpe : ((2 ^ D : Nat) : Int) = (2 : Int) ^ D := by rw [Int.natCast_pow]; rfl
  have hpn : ((2 : Int) ^ D).toNat = 2 ^ D := by omega
  have HNN : Hid (N ≤ n ∧ N ≤ 2 ^ D ∧ N ≤ 512) := Lib.hid (by omega)
  have HPE := Lib.hid (And.intro hpe hpn)
  have HIB : Hid (I < 2 ^ D ∧ I < 512) := Lib.hid (by omega)
  have hIb2 : (I : Int) < 512 := by have := HIB.out; omega
  clear hpe hpn hIb
  have HI5 := Lib.hid hI
  clear hI
  have HM : Hid (Mq w q7 y1.heap.size N x f (.slice a9 N c9) y1) := by
    have hr := H1.out.1
    have hsz : y0.heap.size = q7 + 1 := HY0.out
    have hb01 : Below w.heap.size w y1 := by rw [HQ7.out]; exact B7.out.trans (H1.out.2.mono (by omega))
    refine Lib.hid ⟨T7.out.below H1.out.2, ownsRow_base (row_less hr HNN.out.1) (by rw [HQ7.out]; omega), fun k hk => ?_, hb01, by rw [HQ7.out]; exact Nat.le_refl _, by have := H1.out.2.size; omega, Nat.le_refl _⟩
    have := (row_less hr HNN.out.1).lt k hk
    omega
  obtain ⟨hwp, hpl⟩ := wrongP_in (D := D) (N := N) (I := I) (by omega) HNN.out.2.1 HIB.out.1
  have hpa := path_any (D : Int) a9 N c9 f (I : Int) y1 (hs_row HM.out.row).1 (hs_row HM.out.row).2.1 (hs_row HM.out.row).2.2.1 (by have := HNN.out.2.2; omega) (ktab_below HT.out HM.out.below)
  rw [hwp, hpl, err0, Int.toNat_natCast] at hpa
  have HPA := Lib.hid hpa
  clear hwp hpl hpa
  by_cases hgt : (2 : Int) ^ D < (n : Int)
  case' pos =>
    have hex : ∃ g, a9 = some ⟨g, 0, none⟩ := by
      rcases H2.out.2.2.1 with ⟨h0, _⟩ | ⟨g, h, _⟩
      · exfalso; omega
      · exact ⟨g, h⟩
    obtain ⟨g, rfl⟩ := hex
    have hNe : ((2 : Int) ^ D).toNat = N := by rw [HPE.out.2, hN]; have := HPE.out.1; omega
    have HNE := Lib.hid hNe
    clear hNe hN
    go_upto_region 5 with (fail)
    rw [HNE.out]
    clear hgt HNE
    generalize hA : (some (⟨g, 0, none⟩ : Addr)) = a9 at *
    clear hA
    have hI := HI5.out
    go_upto_region 6 with (fail)
    clear hI
  case' neg =>
    have hNe : n = N := by rw [hN]; have := HPE.out.1; omega
    have HNE := Lib.hid hNe
    clear hNe hN
    go_upto_region 5 with (fail)
    rw [show Value.slice a9 n c9 = Value.slice a9 N c9 from by rw [← HNE.out]]
    clear hgt HNE
    have hI := HI5.out
    go_upto_region 6 with (fail)
    clear hI
  all_goals
    clear H1 H2 HI5
    go_upto_region 7 with (go_at_call 12; refine HPA.out.mono ?_; rintro e y2 ⟨V10, rfl, hrow, hb⟩; have H3 := Lib.hid (And.intro (HM.out.next hb) hrow); have HY12 := Lib.hid hb; clear hrow hb)
    have HHR := Lib.hid (hs_row HM.out.row)
    have hra := fun y2 (hb : Below y1.heap.size y1 y2) => root_any (D : Int) a9 N c9 f y2 (HHR.out.1.below hb) HHR.out.2.1 HHR.out.2.2.1 (by have := HNN.out.2.2; omega) (ktab_below HT.out (bl HM.out.below hb))
    rw [wrong_in (by omega) HNN.out.2.1, rootOf_in (by omega) HNN.out.2.1, err0] at hra
    have HRA := Lib.hid hra
    clear hra
    have H3' := H3.out
    obtain ⟨hM3, hrow3⟩ := H3'
    have hown3 := hrow3
    obtain ⟨a10, c10, rfl, hs10, hn10, hc10, hm10, _⟩ := hs_of hrow3
    have hB10 : ∀ b o, a10 = some ⟨b, o, none⟩ → 0 < D → y1.heap.size ≤ b := by
      intro b o e hD0
      rcases ownsRow_forms hown3 with ⟨h1, h2⟩ | ⟨g', cap, h1, h2, _⟩
      · omega
      · injection h1 with h1
        rw [h1] at e
        injection e with e
        injection e with e _
        omega
    have H4 := Lib.hid (And.intro hM3 (And.intro hs10 (And.intro hn10 (And.intro hc10 (And.intro hm10 hB10)))))
    clear hM3 hrow3 hown3 hs10 hn10 hc10 hm10 hB10 H3
    have HR2 := Lib.hid (HRA.out y2 HY12.out)
    generalize hrr : und (ext N f) D 0 = r at *
    have HRR := Lib.hid hrr
    clear hrr
    go_upto_region 8 with (first
      | (go_at_call 8; refine HR2.out.mono ?_; rintro e y3 ⟨rfl, hb⟩; have H5 := Lib.hid hb; clear hb)
      | ((with_reducible refine wpList_store_row (P := Tryd.prog) (w := y3.alloc (.cells zh 27)) ?_ 27 (.tmp 12) (.tmp 56) ?_ y3.heap.size (tab 32 fun i => bv (r i)) ?_ ?_ 27 zh (heap_alloc_last y3 _) (infH _) ?_ (one_bv _ _) ?_); (· exact rfl); (· exact rfl); (· exact rfl); (· exact rfl); (· rw [HZL.out, tab_size]); rw [World.setRow_alloc_new]; simp only [Act.put]))
    have b5 : Below y3.heap.size y3 (y3.alloc (.cells (tab 32 fun i => bv (r i)) 27)) := (Below.refl _ _).alloc (Nat.le_refl _) _
    have H6 : Hid (Mr w q7 y1.heap.size N D y3.heap.size x r f (sib (ext N f) I) (.slice a9 N c9) a10 (y3.alloc (.cells (tab 32 fun i => bv (r i)) 27))) := by
      obtain ⟨k1, k2, k3, k4, k5, k6⟩ := H4.out
      have hb25 := bl H5.out b5
      refine Lib.hid ⟨k1.next hb25, k2.below hb25, IsTab.new y3 _ 32 _, ?_, k6⟩
      have := H5.out.size
      have := k1.bB
      omega
    clear b5 H5 HR2 HRA HPA HM HY12
    generalize y3.alloc (.cells (tab 32 fun i => bv (r i)) 27) = y4 at *
    generalize y3.heap.size = q12 at *
    have HFX := Lib.hid (fixed5 y4 (ktab_below HT.out H6.out.mq.below))
    go_upto_region 10 with (go_at_call 10; refine HFX.out.mono ?_; rintro e y5 ⟨rfl, hb⟩; have H7 := Lib.hid (H6.out.next hb); clear hb)
    have HL : Hid (Ms w q7 D q12 N x r (ext N f) (sib (ext N f) I) (.slice a9 N c9) a10 y5) := by
      have k := H7.out
      refine Lib.hid ⟨k.mq.s7, k.s12, k.hp, by rw [show flat N (ext N f) = flat N f from flat_cong fun j hj => ext_in f hj]; exact k.mq.row, fun j hj => ?_, k.mq.below, k.mq.g7, by have := k.mq.b7; have := k.mq.g7; have := k.g12; omega⟩
      have h1 := k.mq.top j hj
      refine ⟨by omega, by have := k.g12; omega, fun b o e h0 => by have := k.ph b o e h0; omega⟩
    have HC10 := Lib.hid H4.out.2.2
    clear H4 H6 H7 HFX HHR
    have hz := HZ.out
    subst hz
    go_loopw [9] (fun tv y => ∃ (M : Nat) (a' : Option Addr) (c' : Nat), N ≤ M ∧ M ≤ 512 ∧ Hid (M ≤ 2 ^ D) ∧ M ≤ c' ∧ c' ≤ maxLen ∧ tv = .slice a' M c' ∧ Hid (Ms w q7 D q12 M x r (ext N f) (sib (ext N f) I) (.slice a' M c') a10 y)) (fun tv _ => I + 1 - slLen tv)
    case atStart => exact ⟨N, a9, c9, Nat.le_refl _, HNN.out.2.2, Lib.hid HNN.out.2.1, (hs_row HL.out.row).2.2.1, (hs_row HL.out.row).2.2.2, rfl, HL⟩
    case round =>
      obtain ⟨M, a', c', hNM, hM5, HMD, hMc, hcm, rfl, hp⟩ := hrel
      clear HL
      unfold maxLen at hcm
      by_cases hlt : (M : Int) ≤ (I : Int)
      · have HBD := Lib.hid (buildH (fun _ => 0#8) wr)
        have HSR := Lib.hid (src_one wr (fun _ => 0#8))
        have HOW := Lib.hid (hp.out.row.alloc (.cells (tab 32 fun j => bv 0#8) 27))
        have HBS : Hid (w.heap.size ≤ (wr.alloc (.cells (tab 32 fun j => bv 0#8) 27)).heap.size) := Lib.hid (by have := hp.out.below.size; simp; omega)
        have H32 : Hid (0 < 32) := Lib.hid (by decide)
        have hlb : Hid (M + 1 ≤ maxLen ∧ (M + 1) * 32 ≤ 140737488355328) := Lib.hid ⟨by unfold maxLen; omega, by omega⟩
        have hM6 : M + 1 ≤ 512 := by omega
        go_upto_region 12 with (first
          | ((with_reducible refine wpList_build1 (P := Tryd.prog) (w := wr) (t := 24) (x := .tmp 79) (p := dv (fun _ => 0#8)) (v := .slice (some ⟨wr.heap.size, 0, none⟩) 1 1) (w' := wr.alloc (.cells (tab 32 fun j => bv 0#8) 27)) ?_ ?_ ?_ HBD.out ?_); (· exact rfl); (· exact rfl); (· exact rfl))
          | (at_builtin; (with_reducible refine wpList_append_any (P := Tryd.prog) (w := wr.alloc (.cells (tab 32 fun j => bv 0#8) 27)) ?_ (.tmp 78) (.tmp 80) 24 ?_ w.heap.size 27 j0 (dv fun _ => 0#8) 32 32 undHs HJ.out zcells H32.out (.slice a' M c') M (flat M (ext N f)) ?_ HOW.out (some ⟨wr.heap.size, 0, none⟩) 1 1 (flat 1 fun _ => (fun _ => 0#8)) ?_ HSR.out (flat_one _ _) hlb.out.1 hlb.out.2 HBS.out ?_); (· exact rfl); (· exact rfl); (· exact rfl); (· exact rfl); intro V7 w7 hown7 hgr7 hat7))
        have hown : w7.ownsRow w.heap.size 27 32 V7 (M + 1) (flat (M + 1) (ext N f)) := by
          have e : flat M (ext N f) ++ flat 1 (fun _ => (fun _ => 0#8 : Hx)) = flat (M + 1) (ext N f) := by
            have h1 := flat_step M (ext N f)
            rw [ext_out N f M hNM] at h1
            exact h1
          rw [e] at hown7
          exact hown7
        have hpa := hp.out.next (y' := wr.alloc (.cells (tab 32 fun j => bv 0#8) 27)) ((Below.refl _ _).alloc (Nat.le_refl _) _)
        have HG := Lib.hid (hpa.grown hown hgr7 hat7)
        obtain ⟨a2, c2, rfl, _, _, hc21, hc22, _⟩ := hs_of hown
        clear hown hpa hown7 hgr7 hat7 HBD HSR HOW HBS H32 hlb
        go_roundw
        case rel => exact ⟨M + 1, by omega, by omega, Lib.hid (by have := HIB.out.1; omega), a2, c2, hc21, hc22, rfl, HG⟩
        case measure => simp [slLen]; omega
      · go_upto_region 12 with (fail)
        have hIM : I < M := by omega
        have HIM := Lib.hid hIM
        obtain ⟨hs9, hn9, hc91, hc92⟩ := hs_row hp.out.row
        obtain ⟨b9, o9, hab, h59⟩ := hs9.at hIM
        have DA := Lib.hid (loadH h59 (k := I) (p := o9 + I * 32) hIM (by omega))
        rw [hab]
        have HFO := Lib.hid (fold_ok I (ext N f I) a10 D c10 (sib (ext N f) I) wr hp.out.hp HC10.out.2.1 (by omega) HIB.out.1 (ktab_below HT.out hp.out.below))
        rw [fold_own HIB.out.1 (fun _ _ => rfl), HRR.out] at HFO
        clear h59 hs9 hn9 hc91 hc92
        go_upto_region 13 with (first
          | ((with_reducible refine wpList_loadE (P := Tryd.prog) (w := wr) (ty := 27) (x := .tmp 86) (p := .pointer (some ⟨b9, o9 + I * 32, none⟩)) (v := dv (ext N f I)) ?_ ?_ ?_ DA.out ?_); (· exact rfl); (· exact rfl); (· exact rfl))
          | (go_at_call 13; refine HFO.out.mono ?_; rintro e y6 ⟨rfl, hb⟩; have H8 := Lib.hid (hp.out.next hb); clear hb)
          | ((with_reducible refine wpList_store_row (P := Tryd.prog) (w := y6.alloc (.cells (tab 32 fun _ => bv 0#8) 27)) ?_ 27 (.tmp 14) (.tmp 90) ?_ y6.heap.size (tab 32 fun i => bv (r i)) ?_ ?_ 27 (tab 32 fun _ => bv 0#8) (heap_alloc_last y6 _) (infH _) ?_ (one_bv _ _) ?_); (· exact rfl); (· exact rfl); (· exact rfl); (· exact rfl); (· rw [tab_size, tab_size]); rw [World.setRow_alloc_new]; simp only [Act.put]))
        have b7 : Below y6.heap.size y6 (y6.alloc (.cells (tab 32 fun i => bv (r i)) 27)) := (Below.refl _ _).alloc (Nat.le_refl _) _
        have H9 := Lib.hid (And.intro (H8.out.next b7) (And.intro (IsTab.new y6 27 32 fun i => bv (r i)) (And.intro (H8.out.row.lt b9 (by rw [hab]; rfl)).2 trivial)))
        clear b7 H8 HFO DA
        generalize y6.alloc (.cells (tab 32 fun i => bv (r i)) 27) = y7 at *
        generalize y6.heap.size = q14 at *
        have D7 := Lib.hid (load32r H9.out.1.s7)
        have HF2 := Lib.hid (fold_ok I x a10 D c10 (sib (ext N f) I) y7 H9.out.1.hp HC10.out.2.1 (by omega) HIB.out.1 (ktab_below HT.out H9.out.1.below))
        rw [fold_other x HIB.out.1 (fun _ _ => rfl)] at HF2
        generalize hnx : und (put (ext N f) I x) D 0 = nx at *
        have HNX := Lib.hid hnx
        clear hnx
        go_upto_region 14 with (first
          | ((with_reducible refine wpList_loadE (P := Tryd.prog) (w := y7) (ty := 26) (x := .tmp 7) (p := .pointer (some ⟨q7, 0, none⟩)) (v := dv x) ?_ ?_ ?_ D7.out ?_); (· exact rfl); (· exact rfl); (· exact rfl))
          | (go_at_call 13; refine HF2.out.mono ?_; rintro e y8 ⟨rfl, hb⟩; have H10 := Lib.hid (And.intro (H9.out.1.next hb) (And.intro (H9.out.2.1.below hb) H9.out.2.2)); clear hb)
          | ((with_reducible refine wpList_store_row (P := Tryd.prog) (w := y8.alloc (.cells (tab 32 fun _ => bv 0#8) 27)) ?_ 27 (.tmp 15) (.tmp 97) ?_ y8.heap.size (tab 32 fun i => bv (nx i)) ?_ ?_ 27 (tab 32 fun _ => bv 0#8) (heap_alloc_last y8 _) (infH _) ?_ (one_bv _ _) ?_); (· exact rfl); (· exact rfl); (· exact rfl); (· exact rfl); (· rw [tab_size, tab_size]); rw [World.setRow_alloc_new]; simp only [Act.put]))
        have b8 : Below y8.heap.size y8 (y8.alloc (.cells (tab 32 fun i => bv (nx i)) 27)) := (Below.refl _ _).alloc (Nat.le_refl _) _
        have H11 := Lib.hid (And.intro (H10.out.1.next b8) (And.intro (H10.out.2.1.below b8) (And.intro (IsTab.new y8 27 32 fun i => bv (nx i)) (And.intro H10.out.2.2.1 (H10.out.1.row.lt b9 (by rw [hab]; rfl)).2))))
        clear b8 H10 HF2 H9 D7
        generalize y8.alloc (.cells (tab 32 fun i => bv (nx i)) 27) = y9 at *
        generalize y8.heap.size = q15 at *
        have D8 := Lib.hid (load32r H11.out.1.s7)
        have HLV : Hid (∃ T, o9 = 0 ∧ Lv y9 b9 T M (ext N f)) := by
          obtain ⟨a, c, e1, _, _, e2⟩ := lv_of_row H11.out.1.row
          injection e1 with e3 e4 e5
          rcases e2 with ⟨e6, _⟩ | ⟨g, e6, e7, e8, e9⟩
          · exfalso; have := HIM.out; omega
          · rw [← e3, hab] at e6
            injection e6 with e6
            injection e6 with e6 e10 _
            exact ⟨_, e10, by rw [e6]; exact e9⟩
        obtain ⟨T, ho9, hlv⟩ := HLV.out
        clear HLV
        subst ho9
        have HST := Lib.hid (by have h := H11.out.1; rw [hab] at h; exact h.stored H11.out.2.1 H11.out.2.2.1 (by have := H11.out.2.2.2.1; omega) (by have := H11.out.2.2.2.2; omega) hlv (I := I) (z := x) (o := I * 32) (by omega))
        have HTH := Lib.hid (hlv.there (k := I) (p := I * 32) hIM (by omega) rfl)
        clear hlv
        go_upto_region 15 with (first
          | ((with_reducible refine wpList_loadE (P := Tryd.prog) (w := y9) (ty := 26) (x := .tmp 7) (p := .pointer (some ⟨q7, 0, none⟩)) (v := dv x) ?_ ?_ ?_ D8.out ?_); (· exact rfl); (· exact rfl); (· exact rfl))
          | ((with_reducible refine wpList_store_mid (P := Tryd.prog) (w := y9) (ty := 27) (x := .tmp 102) (y := .tmp 101) (b := b9) (o := I * 32) (cells := tab 32 fun i => bv (x i)) ?_ ?_ ?_ ?_ ?_ (infH _) (one_bv _ _) ?_); (· exact rfl); (· exact rfl); (· exact rfl); (· exact rfl); (· rw [tab_size]; exact HTH.out)))
        clear HTH D8 H11
        generalize y9.setCells b9 (I * 32) (tab 32 fun i => bv (x i)).toList = y10 at *
        have hr3 := root_any (D : Int) (some ⟨b9, 0, none⟩) M c' (put (ext N f) I x) y10 HST.out.hs (fun h => by cases h) hMc (by omega) (ktab_below HT.out HST.out.below)
        rw [wrong_in (by omega) HMD.out, rootOf_in (by omega) HMD.out, err0, ext_put hNM hIM, HNX.out] at hr3
        have HR3 := Lib.hid hr3
        clear hr3
        go_upto_region 16 with (first
          | (go_at_call 8; refine HR3.out.mono ?_; rintro e y11 ⟨rfl, hb⟩; have H12 := Lib.hid (HST.out.next hb); clear hb)
          | ((with_reducible refine wpList_store_row (P := Tryd.prog) (w := y11.alloc (.cells (tab 32 fun _ => bv 0#8) 27)) ?_ 27 (.tmp 16) (.tmp 107) ?_ y11.heap.size (tab 32 fun i => bv (nx i)) ?_ ?_ 27 (tab 32 fun _ => bv 0#8) (heap_alloc_last y11 _) (infH _) ?_ (one_bv _ _) ?_); (· exact rfl); (· exact rfl); (· exact rfl); (· exact rfl); (· rw [tab_size, tab_size]); rw [World.setRow_alloc_new]; simp only [Act.put]))
        have b11 : Below y11.heap.size y11 (y11.alloc (.cells (tab 32 fun i => bv (nx i)) 27)) := (Below.refl _ _).alloc (Nat.le_refl _) _
        have H13 := Lib.hid (And.intro (H12.out.next b11) (IsTab.new y11 27 32 fun i => bv (nx i)))
        clear b11 H12 HST HR3
        generalize y11.alloc (.cells (tab 32 fun i => bv (nx i)) 27) = y12 at *
        generalize y11.heap.size = q16 at *
        have DB : Hid ((Instr.loadAt 27 (.pointer (some ⟨b9, I * 32, none⟩))).run Tryd.prog y12 = .ok (dv (put (ext N f) I x I)) y12) := Lib.hid (by
          obtain ⟨b, o, e, h5⟩ := H13.out.1.hs.at hIM
          injection e with e
          injection e with e1 e2 _
          subst e1 e2
          exact loadH h5 (k := I) (p := I * 32) hIM (by omega))
        have HFB := Lib.hid (fold_bad ((2 : Int) ^ D) (put (ext N f) I x I) a10 D c10 y12 (by omega) (.inr (.inr (Int.le_refl _))))
        go_upto_region 17 with (first
          | ((with_reducible refine wpList_loadE (P := Tryd.prog) (w := y12) (ty := 27) (x := .tmp 115) (p := .pointer (some ⟨b9, I * 32, none⟩)) (v := dv (put (ext N f) I x I)) ?_ ?_ ?_ DB.out ?_); (· exact rfl); (· exact rfl); (· exact rfl))
          | (go_at_call 13; refine HFB.out.mono ?_; rintro e y13 ⟨rfl, hb⟩; have H14 := Lib.hid (And.intro (H13.out.1.next hb) (H13.out.2.below hb)); clear hb)
          | ((with_reducible refine wpList_store_row (P := Tryd.prog) (w := y13.alloc (.cells (tab 32 fun _ => bv 0#8) 27)) ?_ 27 (.tmp 18) (.tmp 119) ?_ y13.heap.size (tab 32 fun i => bv (zero 0 i)) ?_ ?_ 27 (tab 32 fun _ => bv 0#8) (heap_alloc_last y13 _) (infH _) ?_ (one_bv _ _) ?_); (· exact rfl); (· exact rfl); (· exact rfl); (· exact rfl); (· rw [tab_size, tab_size]); rw [World.setRow_alloc_new]; simp only [Act.put]))
        have b13 : Below y13.heap.size y13 (y13.alloc (.cells (tab 32 fun i => bv (zero 0 i)) 27)) := (Below.refl _ _).alloc (Nat.le_refl _) _
        have H15 := Lib.hid (And.intro (H14.out.1.next b13) (H14.out.2.below b13))
        clear b13 H14 H13 HFB DB
        generalize y13.alloc (.cells (tab 32 fun i => bv (zero 0 i)) 27) = y14 at *
        generalize y13.heap.size = q18 at *
        have E12 := Lib.hid (load32h H15.out.1.s12)
        have E14 := Lib.hid (load32h H15.out.1.s14)
        have E15 := Lib.hid (load32h H15.out.1.s15)
        have E16 := Lib.hid (load32h H15.out.2)
        have EI := Lib.hid (Err.is_num 2 2 y14)
        go_wp2_with (first
          | ((with_reducible refine wpList_loadG (P := Tryd.prog) (w := y14) (ty := 27) (x := .tmp 14) (p := .pointer (some ⟨q14, 0, none⟩)) (v := dv r) ?_ ?_ ?_ E14.out ?_); rotate_left; (· exact rfl); (· exact rfl); rotate_left; (· go_simp))
          | ((with_reducible refine wpList_loadG (P := Tryd.prog) (w := y14) (ty := 27) (x := .tmp 12) (p := .pointer (some ⟨q12, 0, none⟩)) (v := dv r) ?_ ?_ ?_ E12.out ?_); rotate_left; (· exact rfl); (· exact rfl); rotate_left; (· go_simp))
          | ((with_reducible refine wpList_loadG (P := Tryd.prog) (w := y14) (ty := 27) (x := .tmp 15) (p := .pointer (some ⟨q15, 0, none⟩)) (v := dv nx) ?_ ?_ ?_ E15.out ?_); rotate_left; (· exact rfl); (· exact rfl); rotate_left; (· go_simp))
          | ((with_reducible refine wpList_loadG (P := Tryd.prog) (w := y14) (ty := 27) (x := .tmp 16) (p := .pointer (some ⟨q16, 0, none⟩)) (v := dv nx) ?_ ?_ ?_ E16.out ?_); rotate_left; (· exact rfl); (· exact rfl); rotate_left; (· go_simp))
          | ((with_reducible refine wpList_eqG (w := y14) ?_ (.tmp 132) (.tmp 133) 27 r r ?_ ?_ ?_ ?_); rotate_left; (· exact rfl); (· exact rfl); (· exact rfl); rotate_left; (· go_simp); rw [same32_refl])
          | ((with_reducible refine wpList_eqG (w := y14) ?_ (.tmp 137) (.tmp 138) 27 nx nx ?_ ?_ ?_ ?_); rotate_left; (· exact rfl); (· exact rfl); (· exact rfl); rotate_left; (· go_simp); rw [same32_refl])
          | (go_at_call 14; refine EI.out.mono ?_; rintro e y15 ⟨rfl, rfl⟩))
        first
          | (go_ret; exact ⟨rfl, H15.out.1.below⟩)
          | (go_outline; trace_state; sorry)
end Mk
end Go.Proofs.YtnfcjangminhoaaDoor
/-
  MerkleProves for what comes in. Own work.
-/
namespace Go.Proofs.YtnfcjangminhoaaDoor
open Go.RowKit
set_option linter.unusedVariables false
theorem merkleProves_walk {w : World} (a0 : Int) (a1 : Option Addr) (len1 cap1 : Nat) (f1 : Nat → Mk.Hx) (a2 : Int) (x3 : Mk.Hx) (w0 : (Lit.int .i64 a0).wf = true) (w1 : Mk.IsHs w a1 len1 f1) (n1 : a1 = none → len1 = 0 ∧ cap1 = 0) (l1 : len1 ≤ cap1) (s1 : cap1 * 32 ≤ 140737488351232) (w2 : (Lit.int .i64 a2).wf = true) (ht : Laid.KTab w) :
    Calls Tryd.prog 4 #[.int .i64 a0, .slice a1 len1 cap1, .int .i64 a2, Mk.dv x3] w fun e w' => e = .returned (.bool true) ∧ Below w.heap.size w w' :=
  Mk.proves_walk a0 a1 len1 cap1 f1 a2 x3 w w1 n1 l1 (by omega) (by have := bounds_i64 w0; omega) (by have := bounds_i64 w2; omega) ht
end Go.Proofs.YtnfcjangminhoaaDoor
/-
  mootlaw05: number, same; mootref05.Fold. Own work.
-/
namespace Go.Proofs.YtnfcjangminhoaaDoor
open Go.RowKit
set_option linter.unusedVariables false
set_option linter.unusedSimpArgs false
namespace Mk
open Kc
/-- The number of an error without a place. -/
theorem number_any (k : Int) (hk : k = 0 ∨ k = 2 ∨ k = 5) (w : World) (hg : w.cell? ⟨0, 0, none⟩ = some (.iface 82 (.agg #[.pointer (some ⟨2, 29, none⟩)]))) :
    Calls Tryd.prog 17 #[errV k] w fun e w' => e = .returned (.int .i64 k) ∧ Below w.heap.size w w' := by
  have HG := Lib.hid hg
  clear hg
  rcases hk with rfl | rfl | rfl
  · rw [err0]
    have HW := Lib.hid (why_nil w)
    go_enter Tryd.func17, Tryd.ntmps17
    go_wp2_with (go_at_call 31; refine HW.out.mono ?_; rintro e _ ⟨rfl, rfl⟩)
    go_ret
    exact ⟨rfl, Below.refl _ _⟩
  · rw [err2]
    have HW := Lib.hid (why_num 2 w HG.out)
    go_enter Tryd.func17, Tryd.ntmps17
    go_wp2_with (go_at_call 31; refine HW.out.mono ?_; rintro e w1 ⟨rfl, hb⟩; have H1 := Lib.hid hb; clear hb)
    go_ret
    exact ⟨rfl, H1.out⟩
  · rw [err5]
    have HW := Lib.hid (why_num 5 w HG.out)
    go_enter Tryd.func17, Tryd.ntmps17
    go_wp2_with (go_at_call 31; refine HW.out.mono ?_; rintro e w1 ⟨rfl, hb⟩; have H1 := Lib.hid hb; clear hb)
    go_ret
    exact ⟨rfl, H1.out⟩
/-- The running value of mootref05.Fold, its result's box, the path. -/
structure Fr (W : World) (q4 q6 n : Nat) (a : Option Addr) (p : Nat → Hx) (r : Hx) (y : World) : Prop where
  s4 : IsTab y q4 26 32 fun i => bv (r i)
  s6 : IsTab y q6 26 32 fun _ => bv 0#8
  hp : IsHs y a n p
  below : Below W.heap.size W y
  g4 : W.heap.size ≤ q4
  g6 : q4 < q6
  old : ∀ b o, a = some ⟨b, o, none⟩ → 0 < n → b < W.heap.size
theorem Fr.next {W y y' : World} {q4 q6 n : Nat} {a : Option Addr} {p : Nat → Hx} {r : Hx} (h : Fr W q4 q6 n a p r y) (hb : Below y.heap.size y y') : Fr W q4 q6 n a p r y' :=
  ⟨h.s4.below hb, h.s6.below hb, h.hp.below hb, bl h.below hb, h.g4, h.g6, h.old⟩
theorem Fr.drew {W y : World} {q4 q6 n : Nat} {a : Option Addr} {p : Nat → Hx} {r : Hx} (h : Fr W q4 q6 n a p r y) : Fr W q4 q6 n a p r y.drew :=
  ⟨h.s4, h.s6, h.hp, h.below.drew, h.g4, h.g6, h.old⟩
set_option maxRecDepth 100000 in
theorem Fr.set {W y : World} {q4 q6 n : Nat} {a : Option Addr} {p : Nat → Hx} {r : Hx} (h : Fr W q4 q6 n a p r y) (x : Hx) : Fr W q4 q6 n a p x (y.setRow q4 (tab 32 fun j => bv (x j))) := by
  have h4 := h.g4
  have h6 := h.g6
  refine ⟨h.s4.row, h.s6.rowOther (by omega), ?_, below_setRow h.below (by omega) _, h.g4, h.g6, h.old⟩
  rcases h.hp with h1 | ⟨b, o, h1, h2⟩
  · exact .inl h1
  · rcases Nat.eq_zero_or_pos n with h0 | h0
    · exact .inl h0
    · refine .inr ⟨b, o, h1, fun k j hk hj => ?_⟩
      have hb := h.old b o h1 h0
      rw [cell_setRow_other _ _ _ _ (show b ≠ q4 by omega)]; exact h2 k j hk hj
set_option maxRecDepth 100000 in
theorem Fr.load {W y : World} {q4 q6 n : Nat} {b o : Nat} {p : Nat → Hx} {r : Hx} (h : Fr W q4 q6 n (some ⟨b, o, none⟩) p r y) {k : Nat} (hk : k < n) : (Instr.loadAt 26 (.pointer (some ⟨b, o + k * 32, none⟩))).run Tryd.prog y = .ok (dv (p k)) y := by
  obtain ⟨b3, o3, e5, h5⟩ := h.hp.at hk
  injection e5 with e5
  injection e5 with e6 e7
  subst e6 e7
  exact loadR h5 (k := k) (p := o + k * 32) hk (by omega)
set_option maxHeartbeats 2000000 in
set_option maxRecDepth 100000 in
theorem refFold_ok (i : Nat) (x : Hx) (a : Option Addr) (n c : Nat) (p : Nat → Hx) (w : World) (hs : IsHs w a n p) (hnc : n ≤ c) (hn : n ≤ 16) (hi : i < 2 ^ n) :
    Calls Tryd.prog 20 #[.int .i64 i, dv x, .slice a n c] w fun e w' => e = .returned (.tuple #[dv (fold i x p n), .int .i64 0]) ∧ Below w.heap.size w w' := by
  have HS := Lib.hid hs
  have h16 := two16 hn
  have hIi : (i : Int) < 2 ^ n := by
    have e : ((2 ^ n : Nat) : Int) = (2 : Int) ^ n := by rw [Int.natCast_pow]; rfl
    omega
  have hp16 : (2 : Int) ^ n ≤ 65536 := by have := p2_nat n 16 hn; simpa using this
  clear hs
  have z2 := zero26
  generalize hz : (tab 32 fun _ => bv 0#8) = zh at *
  have HZ := Lib.hid hz
  clear hz
  have hzl : zh.size = 32 := by rw [← HZ.out, tab_size]
  have HZL := Lib.hid hzl
  clear hzl
  have hN : (n : Int) ≤ 16 := by omega
  have hIb : (i : Int) ≤ 65536 := by omega
  have HHI := Lib.hid hi
  clear hi h16
  unfold dv
  go_enter Tryd.func20, Tryd.ntmps20
  go_upto_region 3 with (fail)
  have H1 : Hid (Fr w w.heap.size (w.heap.size + 1) n a p (fold i x p 0) ((w.alloc (.cells (tab 32 fun i => bv (x i)) 26)).alloc (.cells zh 26))) := by
    have e1 : (w.alloc (.cells (tab 32 fun i => bv (x i)) 26)).heap.size = w.heap.size + 1 := by simp
    have b3 : Below w.heap.size w ((w.alloc (.cells (tab 32 fun i => bv (x i)) 26)).alloc (.cells zh 26)) := ((Below.refl _ _).alloc (Nat.le_refl _) _).alloc (by simp) _
    have t6 := put_newR (w.alloc (.cells (tab 32 fun i => bv (x i)) 26)) zh HZ.out
    rw [e1] at t6
    exact Lib.hid ⟨(IsTab.new w 26 32 fun i => bv (x i)).alloc _, t6, HS.out.below b3, b3, Nat.le_refl _, by omega, HS.out.inHeap⟩
  generalize (w.alloc (.cells (tab 32 fun i => bv (x i)) 26)).alloc (.cells zh 26) = y0 at *
  generalize w.heap.size + 1 = q6 at *
  generalize hq4 : w.heap.size = q4 at *
  have HQ4 := Lib.hid hq4
  clear hq4
  go_upto_region 4 with (fail)
  go_loopw [8] (fun tc y => ∃ r : Nat, r ≤ n ∧ tc = .int .i64 r ∧ Hid (Fr w q4 q6 n a p (fold i x p r) y)) (fun tc _ => n - (intOf tc).toNat)
  case atStart => exact ⟨0, Nat.zero_le _, rfl, H1⟩
  case round =>
    obtain ⟨r, hr, rfl, hp⟩ := hrel
    clear H1
    by_cases hlt : (r : Int) < (n : Int)
    · obtain ⟨b, o, hab, h5⟩ := hp.out.hp.at (show r < n by omega)
      subst hab
      clear h5
      have hr16 : (r : Int) ≤ 16 := by omega
      have hn16 : (n : Int) ≤ 9223372036854775807 := by omega
      obtain ⟨m, hm⟩ : ∃ m : Nat, (i : Int) / 2 ^ r = (m : Int) := ⟨i / 2 ^ r, by rw [Int.natCast_ediv, Int.natCast_pow]; rfl⟩
      have HMR : Hid (m = i / 2 ^ r) := Lib.hid (by
        have e : ((i / 2 ^ r : Nat) : Int) = (m : Int) := by rw [← hm, Int.natCast_ediv, Int.natCast_pow]; rfl
        omega)
      have hstep : fold i x p (r + 1) = if m % 2 = 0 then pr (fold i x p r) (p r) else pr (p r) (fold i x p r) := by rw [HMR.out]; rfl
      have HST := Lib.hid hstep
      clear hstep
      generalize fold i x p r = z at *
      by_cases he : m % 2 = 0
      · have ht1 : ((m : Int).tmod 2 == 0) = true := by
          rw [Int.tmod_eq_emod_of_nonneg (by omega)]
          have : (m : Int) % 2 = 0 := by omega
          simpa using this
        have ht2 : ((m : Int) % 2 == 0) = true := by
          have : (m : Int) % 2 = 0 := by omega
          simpa using this
        have HX : Hid (fold i x p (r + 1) = pr z (p r)) := Lib.hid (by rw [HST.out, if_pos he])
        clear he HST
        go_upto_region 7 with (fail)
        have hix : (0 : Int) ≤ (r : Int) ∧ (r : Int) < (n : Int) := by omega
        have NE : Nonempty (Wd (Fr w q4 q6 n (some ⟨b, o, none⟩) p z)) := ⟨⟨_, hp.out.drew⟩⟩
        have hld : ∀ u, (∃ s : Wd (Fr w q4 q6 n (some ⟨b, o, none⟩) p z), u = s.val) → (Instr.loadAt 26 (.pointer (some ⟨b, o + r * 32, none⟩))).run Tryd.prog u = .ok (dv (p r)) u := fun u ⟨s, hz⟩ => by rw [hz]; exact s.ok.load (by omega)
        have hlz : ∀ u, (∃ s : Wd (Fr w q4 q6 n (some ⟨b, o, none⟩) p z), u = s.val) → (Instr.loadAt 26 (.pointer (some ⟨q4, 0, none⟩))).run Tryd.prog u = .ok (dv z) u := fun u ⟨s, hz⟩ => by rw [hz]; exact load32r s.ok.s4
        have LD := Lib.hid hld
        have LZ := Lib.hid hlz
        clear hld hlz
        have Q1 := Lib.hid (fun s : Wd (Fr w q4 q6 n (some ⟨b, o, none⟩) p z) => in_of_below s (fun y hb => s.ok.next hb) (rpair_dv z (p r) s.val))
        refine wp_region_quiet_tail 6 (Fr w q4 q6 n (some ⟨b, o, none⟩) p z) (by kernel_rfl) (by kernel_rfl) hp.out.drew ?_
        simp only [List.take_succ_cons, List.take_zero, List.drop_succ_cons, List.drop_zero]
        repeat (first
          | (refine wpQuiet_load 26 _ (.pointer (some ⟨q4, 0, none⟩)) _ rfl rfl rfl LZ.out ?_; simp only [Act.put, List.setIfInBounds_toArray, List.set_cons_zero, List.set_cons_succ])
          | (refine wpQuiet_load 26 _ (.pointer (some ⟨b, o + r * 32, none⟩)) _ rfl rfl rfl LD.out ?_; simp only [Act.put, List.setIfInBounds_toArray, List.set_cons_zero, List.set_cons_succ])
          | (go_big_quiet_step (with_reducible exact Q1.out _)))
        refine wpQuiet_nil ?_
        rintro _ ⟨s, rfl⟩
        have HN := Lib.hid (s.ok.set (pr z (p r)))
        clear LD LZ Q1 NE
        refine wpList_store_row (w := s.val) rfl 26 (.tmp 4) (.tmp 42) rfl q4 (tab 32 fun j => bv (pr z (p r) j)) rfl rfl 26 (tab 32 fun i => bv (z i)) s.ok.s4 (inf26 _) (by rw [tab_size, tab_size]) (one_bv _ _) ?_
        generalize World.setRow s.val q4 (tab 32 fun j => bv (pr z (p r) j)) = y3 at *
        simp only [Act.put]
        go_wp2_with fail
        go_roundw
        case rel => exact ⟨r + 1, by omega, by go_num, by rw [HX.out]; exact HN⟩
        case measure => simp [intOf]; omega
      · have ht1 : ((m : Int).tmod 2 == 0) = false := by
          rw [Int.tmod_eq_emod_of_nonneg (by omega)]
          have : ¬ (m : Int) % 2 = 0 := by omega
          simpa using this
        have ht2 : ((m : Int) % 2 == 0) = false := by
          have : ¬ (m : Int) % 2 = 0 := by omega
          simpa using this
        have HX : Hid (fold i x p (r + 1) = pr (p r) z) := Lib.hid (by rw [HST.out, if_neg he])
        clear he HST
        go_upto_region 8 with (fail)
        have hix : (0 : Int) ≤ (r : Int) ∧ (r : Int) < (n : Int) := by omega
        have NE : Nonempty (Wd (Fr w q4 q6 n (some ⟨b, o, none⟩) p z)) := ⟨⟨_, hp.out.drew⟩⟩
        have hld : ∀ u, (∃ s : Wd (Fr w q4 q6 n (some ⟨b, o, none⟩) p z), u = s.val) → (Instr.loadAt 26 (.pointer (some ⟨b, o + r * 32, none⟩))).run Tryd.prog u = .ok (dv (p r)) u := fun u ⟨s, hz⟩ => by rw [hz]; exact s.ok.load (by omega)
        have hlz : ∀ u, (∃ s : Wd (Fr w q4 q6 n (some ⟨b, o, none⟩) p z), u = s.val) → (Instr.loadAt 26 (.pointer (some ⟨q4, 0, none⟩))).run Tryd.prog u = .ok (dv z) u := fun u ⟨s, hz⟩ => by rw [hz]; exact load32r s.ok.s4
        have LD := Lib.hid hld
        have LZ := Lib.hid hlz
        clear hld hlz
        have Q1 := Lib.hid (fun s : Wd (Fr w q4 q6 n (some ⟨b, o, none⟩) p z) => in_of_below s (fun y hb => s.ok.next hb) (rpair_dv (p r) z s.val))
        refine wp_region_quiet_tail 6 (Fr w q4 q6 n (some ⟨b, o, none⟩) p z) (by kernel_rfl) (by kernel_rfl) hp.out.drew ?_
        simp only [List.take_succ_cons, List.take_zero, List.drop_succ_cons, List.drop_zero]
        repeat (first
          | (refine wpQuiet_load 26 _ (.pointer (some ⟨q4, 0, none⟩)) _ rfl rfl rfl LZ.out ?_; simp only [Act.put, List.setIfInBounds_toArray, List.set_cons_zero, List.set_cons_succ])
          | (refine wpQuiet_load 26 _ (.pointer (some ⟨b, o + r * 32, none⟩)) _ rfl rfl rfl LD.out ?_; simp only [Act.put, List.setIfInBounds_toArray, List.set_cons_zero, List.set_cons_succ])
          | (go_big_quiet_step (with_reducible exact Q1.out _)))
        refine wpQuiet_nil ?_
        rintro _ ⟨s, rfl⟩
        have HN := Lib.hid (s.ok.set (pr (p r) z))
        clear LD LZ Q1 NE
        refine wpList_store_row (w := s.val) rfl 26 (.tmp 4) (.tmp 48) rfl q4 (tab 32 fun j => bv (pr (p r) z j)) rfl rfl 26 (tab 32 fun i => bv (z i)) s.ok.s4 (inf26 _) (by rw [tab_size, tab_size]) (one_bv _ _) ?_
        generalize World.setRow s.val q4 (tab 32 fun j => bv (pr (p r) z j)) = y3 at *
        simp only [Act.put]
        go_wp2_with fail
        go_roundw
        case rel => exact ⟨r + 1, by omega, by go_num, by rw [HX.out]; exact HN⟩
        case measure => simp [intOf]; omega
    · obtain rfl : r = n := by omega
      have D4 := Lib.hid (load32r hp.out.s4)
      generalize hzz : fold i x p r = z at *
      have HZZ := Lib.hid hzz
      clear hzz
      go_wp2_with (first
        | ((with_reducible refine wpList_loadE (P := Tryd.prog) (w := wr) (ty := 26) (x := .tmp 4) (p := .pointer (some ⟨q4, 0, none⟩)) (v := dv z) ?_ ?_ ?_ D4.out ?_); (· exact rfl); (· exact rfl); (· exact rfl))
        | ((with_reducible refine wpList_store_row (P := Tryd.prog) (w := wr) ?_ 26 (.tmp 6) (.tmp 49) ?_ q6 (tab 32 fun j => bv (z j)) ?_ ?_ 26 (tab 32 fun i => bv ((fun _ => 0#8) i)) ?_ (inf26 _) ?_ (one_bv _ _) ?_); (· exact rfl); (· exact rfl); (· exact rfl); (· exact rfl); (· exact hp.out.s6); (· rw [tab_size, tab_size])))
      have hr : IsTab (World.setRow wr q6 (tab 32 fun j => bv (z j))) q6 26 32 fun j => bv (z j) := hp.out.s6.row
      exact bodyPost_ret (Kc.results_cell_tmp rfl _ _ q6 26 _ (0, 0) _ rfl hr und26 rfl (inf26 _) (.int .i64 0) rfl) rfl ⟨by rw [HZZ.out], below_setRow hp.out.below (by have := hp.out.g4; have := hp.out.g6; omega) _⟩
set_option maxHeartbeats 2000000 in
set_option maxRecDepth 100000 in
theorem refFold_bad (i : Int) (x : Hx) (a : Option Addr) (n c : Nat) (w : World) (hn : n ≤ 9223372036854775807) (h : 16 < n ∨ i < 0 ∨ (2 : Int) ^ n ≤ i) :
    Calls Tryd.prog 20 #[.int .i64 i, dv x, .slice a n c] w fun e w' => e = .returned (.tuple #[dv (zero 0), .int .i64 2]) ∧ Below w.heap.size w w' := by
  have z2 := zero26
  generalize hz : (tab 32 fun _ => bv 0#8) = zh at *
  have HZ := Lib.hid hz
  clear hz
  have hzl : zh.size = 32 := by rw [← HZ.out, tab_size]
  have HZL := Lib.hid hzl
  have hzi : (Tryd.prog.info? 26).map (·.size) = some zh.size := by rw [hzl]; exact inf26'
  have HZI := Lib.hid hzi
  have hzo : zh.all (·.oneCell') = true := by rw [← HZ.out]; exact one_bv _ _
  have HZO := Lib.hid hzo
  clear hzi hzo hzl
  have hN : (n : Int) ≤ 9223372036854775807 := by omega
  have HB : Hid (Below w.heap.size w ((w.alloc (.cells (tab 32 fun i => bv (x i)) 26)).alloc (.cells zh 26)) ∧ IsTab ((w.alloc (.cells (tab 32 fun i => bv (x i)) 26)).alloc (.cells zh 26)) (w.heap.size + 1) 26 32 fun _ => bv 0#8) := by
    have e1 : (w.alloc (.cells (tab 32 fun i => bv (x i)) 26)).heap.size = w.heap.size + 1 := by simp
    have t6 := put_newR (w.alloc (.cells (tab 32 fun i => bv (x i)) 26)) zh HZ.out
    rw [e1] at t6
    exact Lib.hid ⟨((Below.refl _ _).alloc (Nat.le_refl _) _).alloc (by simp) _, t6⟩
  unfold dv
  by_cases h16 : (16 : Int) < (n : Int)
  · clear h
    go_enter Tryd.func20, Tryd.ntmps20
    go_upto_region 2 with (fail)
    generalize (w.alloc (.cells (tab 32 fun i => bv (x i)) 26)).alloc (.cells zh 26) = y at *
    generalize hq1 : w.heap.size + 1 = q6 at *
    have HQ1 := Lib.hid hq1
    clear hq1
    go_wp2_with ((with_reducible refine wpList_store_row (P := Tryd.prog) (w := y) ?_ 26 (.tmp 6) (.tmp 24) ?_ q6 zh ?_ ?_ 26 (tab 32 fun _ => bv 0#8) ?_ HZI.out ?_ HZO.out ?_); (· exact rfl); (· exact rfl); (· exact rfl); (· exact rfl); (· exact HB.out.2); (· rw [HZL.out, tab_size]))
    have hr2 : IsTab (World.setRow y q6 zh) q6 26 32 fun _ => bv 0#8 := by
      have hr := IsTab.row (g := fun _ => bv 0#8) HB.out.2
      rw [HZ.out] at hr
      exact hr
    exact bodyPost_ret (Kc.results_cell_tmp rfl _ _ q6 26 _ (0, 0) _ rfl hr2 und26 rfl (inf26 _) (.int .i64 2) rfl) rfl ⟨rfl, below_setRow HB.out.1 (by have := HQ1.out; omega) _⟩
  · by_cases hi : i < 0
    · have hn16 : (n : Int) ≤ 16 := by omega
      clear h
      go_enter Tryd.func20, Tryd.ntmps20
      go_upto_region 2 with (fail)
      generalize (w.alloc (.cells (tab 32 fun i => bv (x i)) 26)).alloc (.cells zh 26) = y at *
      generalize hq1 : w.heap.size + 1 = q6 at *
      have HQ1 := Lib.hid hq1
      clear hq1
      go_wp2_with ((with_reducible refine wpList_store_row (P := Tryd.prog) (w := y) ?_ 26 (.tmp 6) (.tmp 24) ?_ q6 zh ?_ ?_ 26 (tab 32 fun _ => bv 0#8) ?_ HZI.out ?_ HZO.out ?_); (· exact rfl); (· exact rfl); (· exact rfl); (· exact rfl); (· exact HB.out.2); (· rw [HZL.out, tab_size]))
      have hr2 : IsTab (World.setRow y q6 zh) q6 26 32 fun _ => bv 0#8 := by
        have hr := IsTab.row (g := fun _ => bv 0#8) HB.out.2
        rw [HZ.out] at hr
        exact hr
      exact bodyPost_ret (Kc.results_cell_tmp rfl _ _ q6 26 _ (0, 0) _ rfl hr2 und26 rfl (inf26 _) (.int .i64 2) rfl) rfl ⟨rfl, below_setRow HB.out.1 (by have := HQ1.out; omega) _⟩
    · have hn16 : (n : Int) ≤ 16 := by omega
      have hi0 : 0 ≤ i := by omega
      have hp : (2 : Int) ^ n ≤ 65536 := by have := p2_nat n 16 (by omega); simpa using this
      have hp0 := p2_pos n
      have hpi : (2 : Int) ^ n ≤ i := by omega
      clear h
      go_enter Tryd.func20, Tryd.ntmps20
      go_upto_region 2 with (fail)
      generalize (w.alloc (.cells (tab 32 fun i => bv (x i)) 26)).alloc (.cells zh 26) = y at *
      generalize hq1 : w.heap.size + 1 = q6 at *
      have HQ1 := Lib.hid hq1
      clear hq1
      go_wp2_with ((with_reducible refine wpList_store_row (P := Tryd.prog) (w := y) ?_ 26 (.tmp 6) (.tmp 24) ?_ q6 zh ?_ ?_ 26 (tab 32 fun _ => bv 0#8) ?_ HZI.out ?_ HZO.out ?_); (· exact rfl); (· exact rfl); (· exact rfl); (· exact rfl); (· exact HB.out.2); (· rw [HZL.out, tab_size]))
      have hr2 : IsTab (World.setRow y q6 zh) q6 26 32 fun _ => bv 0#8 := by
        have hr := IsTab.row (g := fun _ => bv 0#8) HB.out.2
        rw [HZ.out] at hr
        exact hr
      exact bodyPost_ret (Kc.results_cell_tmp rfl _ _ q6 26 _ (0, 0) _ rfl hr2 und26 rfl (inf26 _) (.int .i64 2) rfl) rfl ⟨rfl, below_setRow HB.out.1 (by have := HQ1.out; omega) _⟩
theorem run_neq_tab {P : Program} (w : World) (t e : TypeId) (n : Nat) (k : IntKind) (ht : P.underlying t = some (.array n e)) (he : P.underlying e = some (.int k)) (hsz : ∀ w, (sizeOf e).run P w = .ok 1 w) (f g : Nat → Int) :
    (binOp .neq t (.agg (tab n fun i => .int k (f i))) (.agg (tab n fun i => .int k (g i)))).run P w = .ok (.bool (!((List.range n).all fun i => f i == g i))) w := by
  rw [run_neq_struct, run_equal_tab w 9998 t e n k ht he hsz]; rfl
theorem neqT (a : Hx) (w : World) : (binOp .neq 27 (dv a) (dv a)).run Tryd.prog w = .ok (.bool false) w := by
  show (binOp .neq 27 (.agg (tab 32 fun i => bv (a i))) (.agg (tab 32 fun i => bv (a i)))).run Tryd.prog w = _
  have h := run_neq_tab (P := Tryd.prog) w 27 5 32 .u8 (by kernel_rfl) undU8 sizeU8 (fun i => Bv (a i)) (fun i => Bv (a i))
  rw [show ((List.range 32).all fun i => Bv (a i) == Bv (a i)) = true from by simp] at h
  exact h
/-- Two lists of digests in a memory that grows. -/
structure Two (W : World) (a b : Option Addr) (n : Nat) (f : Nat → Hx) (y : World) : Prop where
  ha : IsHs y a n f
  hb : IsHs y b n f
  below : Below W.heap.size W y
theorem Two.drew {W y : World} {a b : Option Addr} {n : Nat} {f : Nat → Hx} (h : Two W a b n f y) : Two W a b n f y.drew := ⟨h.ha, h.hb, h.below.drew⟩
set_option maxHeartbeats 2000000 in
set_option maxRecDepth 100000 in
theorem same_yes (a b : Option Addr) (n c c2 : Nat) (f : Nat → Hx) (w : World) (hs : IsHs w a n f) (ht : IsHs w b n f) (hn : n ≤ 9223372036854775807) :
    Calls Tryd.prog 18 #[.slice a n c, .slice b n c2] w fun e w' => e = .returned (.bool true) ∧ Below w.heap.size w w' := by
  have H0 : Hid (Two w a b n f w) := Lib.hid ⟨hs, ht, Below.refl _ _⟩
  clear hs ht
  have hN : (n : Int) ≤ 9223372036854775807 := by omega
  go_enter Tryd.func18, Tryd.ntmps18
  go_upto_region 4 with (fail)
  go_loopw [13] (fun t y => ∃ k : Nat, k ≤ n ∧ t = .int .i64 k ∧ Hid (Two w a b n f y)) (fun t _ => n - (intOf t).toNat)
  case atStart => exact ⟨0, Nat.zero_le _, rfl, H0⟩
  case round =>
    obtain ⟨k, hk, rfl, hp⟩ := hrel
    clear H0
    by_cases hlt : (k : Int) < (n : Int)
    · obtain ⟨b1, o1, hab, _⟩ := hp.out.ha.at (show k < n by omega)
      obtain ⟨b2, o2, hbb, _⟩ := hp.out.hb.at (show k < n by omega)
      subst hab hbb
      go_upto_region 6 with (fail)
      have hix : (0 : Int) ≤ (k : Int) ∧ (k : Int) < (n : Int) := by omega
      have NE : Nonempty (Wd (Two w (some ⟨b1, o1, none⟩) (some ⟨b2, o2, none⟩) n f)) := ⟨⟨_, hp.out.drew⟩⟩
      have l1 : ∀ u, (∃ s : Wd (Two w (some ⟨b1, o1, none⟩) (some ⟨b2, o2, none⟩) n f), u = s.val) → (Instr.loadAt 27 (.pointer (some ⟨b1, o1 + k * 32, none⟩))).run Tryd.prog u = .ok (dv (f k)) u := fun u ⟨s, hz⟩ => by
        rw [hz]
        obtain ⟨b3, o3, e5, h5⟩ := s.ok.ha.at (show k < n by omega)
        injection e5 with e5
        injection e5 with e6 e7
        subst e6 e7
        exact loadH h5 (k := k) (p := o1 + k * 32) (by omega) (by omega)
      have l2 : ∀ u, (∃ s : Wd (Two w (some ⟨b1, o1, none⟩) (some ⟨b2, o2, none⟩) n f), u = s.val) → (Instr.loadAt 26 (.pointer (some ⟨b2, o2 + k * 32, none⟩))).run Tryd.prog u = .ok (dv (f k)) u := fun u ⟨s, hz⟩ => by
        rw [hz]
        obtain ⟨b3, o3, e5, h5⟩ := s.ok.hb.at (show k < n by omega)
        injection e5 with e5
        injection e5 with e6 e7
        subst e6 e7
        exact loadR h5 (k := k) (p := o2 + k * 32) (by omega) (by omega)
      have L1 := Lib.hid l1
      have L2 := Lib.hid l2
      clear l1 l2
      have eN := neqT (f k)
      have eG := guardN
      refine wp_region_in (Two w (some ⟨b1, o1, none⟩) (some ⟨b2, o2, none⟩) n f) (by kernel_rfl) (by kernel_rfl) hp.out.drew ?_
      repeat (first
        | (refine wpQuiet_load 27 _ (.pointer (some ⟨b1, o1 + k * 32, none⟩)) _ rfl rfl rfl L1.out ?_; simp only [Act.put, List.setIfInBounds_toArray, List.set_cons_zero, List.set_cons_succ])
        | (refine wpQuiet_load 26 _ (.pointer (some ⟨b2, o2 + k * 32, none⟩)) _ rfl rfl rfl L2.out ?_; simp only [Act.put, List.setIfInBounds_toArray, List.set_cons_zero, List.set_cons_succ])
        | (go_big_quiet_step (fail)))
      refine wpQuiet_nil ?_
      rintro _ ⟨s, rfl⟩
      have HN := Lib.hid s.ok
      clear L1 L2 NE eN eG hp
      go_wp2_with fail
      go_roundw
      case rel => exact ⟨k + 1, by omega, by go_num, HN⟩
      case measure => simp [intOf]; omega
    · go_wp2_with fail
      go_ret
      exact ⟨rfl, hp.out.below⟩
theorem wrong_none {D N : Nat} (hD : D ≤ 16) (hN : N ≤ 2 ^ D) : wrong (D : Int) N = 0 := by
  have e : ((2 ^ D : Nat) : Int) = (2 : Int) ^ D := by rw [Int.natCast_pow]; rfl
  unfold wrong
  rw [if_neg (by omega), if_neg (by rw [Int.toNat_natCast]; omega)]
/-- What mootref05.Path gathers. -/
structure Pg (W : World) (g : Nat → Hx) (k : Nat) (V : Value) (y : World) : Prop where
  row : y.ownsRow W.heap.size 26 32 V k (flat k g)
  below : Below W.heap.size W y
theorem Pg.next {W y y' : World} {g : Nat → Hx} {k : Nat} {V : Value} (h : Pg W g k V y) (hb : Below y.heap.size y y') : Pg W g k V y' :=
  ⟨(Kept.ofBelow (S := fun _ => False) hb).row h.row (fun _ _ h => h), bl h.below hb⟩
set_option maxHeartbeats 2000000 in
set_option maxRecDepth 100000 in
theorem refPath_ok (d : Nat) (a : Option Addr) (n c : Nat) (f : Nat → Hx) (i : Nat) (w : World) (hs : IsHs w a n f) (hnc : n ≤ c) (hd : d ≤ 16) (hn : n ≤ 2 ^ d) (hi : i < 2 ^ d) :
    Calls Tryd.prog 16 #[.int .i64 d, .slice a n c, .int .i64 i] w fun e w' => ∃ V, e = .returned (.tuple #[V, .int .i64 0]) ∧ w'.ownsRow w.heap.size 26 32 V d (flat d (sib (ext n f) i)) ∧ Below w.heap.size w w' := by
  have h16 := two16 hd
  have hcw := refWrong (d : Int) n w (by omega)
  rw [wrong_none hd hn] at hcw
  have HCW := Lib.hid hcw
  have HZW := Lib.hid (zeros_walk w)
  have HS := Lib.hid hs
  clear hs hcw
  obtain ⟨i0, hi0, hi1, hi2, hi3⟩ := infRs
  have HI := Lib.hid (And.intro hi0 (And.intro hi1 (And.intro hi2 hi3)))
  clear hi0 hi1 hi2 hi3
  have hIi : (i : Int) < 2 ^ d := by
    have e : ((2 ^ d : Nat) : Int) = (2 : Int) ^ d := by rw [Int.natCast_pow]; rfl
    omega
  have hp16 : (2 : Int) ^ d ≤ 65536 := by have := p2_nat d 16 hd; simpa using this
  have hp0 := p2_pos d
  have hN : (n : Int) ≤ 65536 := by omega
  have hdI : (d : Int) ≤ 16 := by omega
  have hIb : (i : Int) ≤ 65536 := by omega
  have HB := Lib.hid (And.intro hn (And.intro hi h16))
  clear hn hi h16
  go_enter Tryd.func16, Tryd.ntmps16
  go_upto_region 9 with (first
    | (go_at_call 30; (with_reducible refine HCW.out.mono ?_); rintro e _ ⟨rfl, rfl⟩)
    | (go_at_call 25; (with_reducible refine HZW.out.mono ?_); rintro e y1 ⟨V9, rfl, hrow, hb⟩; obtain ⟨b, c2, rfl, hz, _⟩ := hs_of hrow; have H1 := Lib.hid (And.intro (HS.out.below hb) (And.intro hz hb)); clear hrow hb hz))
  have HP0 : Hid (Pg y1 (sib (ext n f) i) 0 (.slice none 0 0) y1) := Lib.hid ⟨World.ownsRow_nil _ _ _ _, Below.refl _ _⟩
  go_loopw [10, 11] (fun tv t y => ∃ r : Nat, r ≤ d ∧ t = .int .i64 r ∧ Hid (Pg y1 (sib (ext n f) i) r tv y)) (fun _ t _ => d - (intOf t).toNat)
  case atStart => exact ⟨0, Nat.zero_le _, rfl, HP0⟩
  case round =>
    obtain ⟨r, hr, rfl, hp⟩ := hrel
    clear HP0
    generalize u10 = V at *
    by_cases hlt : (r : Int) < (d : Int)
    · have hr16 : (r : Int) ≤ 16 := by omega
      obtain ⟨m, hm⟩ : ∃ m : Nat, (i : Int) / 2 ^ r = (m : Int) := ⟨i / 2 ^ r, by rw [Int.natCast_ediv, Int.natCast_pow]; rfl⟩
      have HMR : Hid (m = i / 2 ^ r) := Lib.hid (by
        have e : ((i / 2 ^ r : Nat) : Int) = (m : Int) := by rw [← hm, Int.natCast_ediv, Int.natCast_pow]; rfl
        omega)
      have hmi : m ≤ i := by rw [HMR.out]; exact Nat.div_le_self _ _
      have hx1 := xor1_i64 m (by omega)
      obtain ⟨s, hsx⟩ : ∃ s, m ^^^ 1 = s := ⟨_, rfl⟩
      rw [hsx] at hx1
      have HSX := Lib.hid hsx
      clear hsx hmi
      obtain ⟨q, hq⟩ : ∃ q : Nat, (s : Int) * 2 ^ r = (q : Int) := ⟨s * 2 ^ r, by rw [Int.natCast_mul, Int.natCast_pow]; rfl⟩
      have HQR : Hid (q = s * 2 ^ r ∧ q + 2 ^ r ≤ 131072) := Lib.hid (by
        have e : ((s * 2 ^ r : Nat) : Int) = (q : Int) := by rw [← hq, Int.natCast_mul, Int.natCast_pow]; rfl
        have e2 : q = s * 2 ^ r := by omega
        refine ⟨e2, ?_⟩
        have h1 : i < 2 ^ d := HB.out.2.1
        have h2 : 2 ^ d = 2 ^ (d - r) * 2 ^ r := by rw [← Nat.pow_add]; congr 1; omega
        have h3 : m < 2 ^ (d - r) := by
          rw [HMR.out]
          exact Nat.div_lt_of_lt_mul (by rw [Nat.mul_comm, ← h2]; exact h1)
        have h4 : s ≤ m + 1 := by rw [← HSX.out, xor1]; split <;> omega
        have h5 : (s + 1) * 2 ^ r ≤ (2 ^ (d - r) + 1) * 2 ^ r := Nat.mul_le_mul_right _ (by omega)
        have h6 : (2 ^ (d - r) + 1) * 2 ^ r = 2 ^ d + 2 ^ r := by rw [Nat.add_mul, ← h2, Nat.one_mul]
        have h7 : (s + 1) * 2 ^ r = s * 2 ^ r + 2 ^ r := by rw [Nat.add_mul, Nat.one_mul]
        have h8 : 2 ^ r ≤ 2 ^ 16 := Nat.pow_le_pow_right (by decide) (by omega)
        have h9 := HB.out.2.2
        omega)
      have hqb : (q : Int) ≤ 131072 := by have : q ≤ 131072 := Nat.le_trans (Nat.le_add_right _ _) HQR.out.2; omega
      have HUN := Lib.hid (under_walk n c 17 c2 a b f (by omega) hnc (by decide) r q (by omega) HQR.out.2 wr (H1.out.1.below (hp.out.below.mono (Nat.le_refl _))) (H1.out.2.1.below (hp.out.below.mono (Nat.le_refl _))))
      have hsib : und (ext n f) r q = sib (ext n f) i r := by rw [HQR.out.1, ← HSX.out, HMR.out]; rfl
      rw [hsib] at HUN
      clear hsib
      go_upto_region 12 with (fail)
      clear hx1 hm
      generalize hx : sib (ext n f) i r = x at *
      have HX := Lib.hid hx
      clear hx
      have H32 : Hid (0 < 32) := Lib.hid (by decide)
      have hlb : Hid (r + 1 ≤ maxLen ∧ (r + 1) * 32 ≤ 140737488355328) := Lib.hid ⟨by unfold maxLen; omega, by omega⟩
      go_upto_region 10 with (first
        | (go_at_call 24; (with_reducible refine HUN.out.mono ?_); rintro e y2 ⟨rfl, hb⟩; have H2 := Lib.hid (hp.out.next hb); have HBD := Lib.hid (buildR x y2); have HSR := Lib.hid (src1R y2 x); have HOW := Lib.hid (H2.out.row.alloc (.cells (tab 32 fun j => bv (x j)) 26)); have HBS : Hid (y1.heap.size ≤ (y2.alloc (.cells (tab 32 fun j => bv (x j)) 26)).heap.size) := Lib.hid (by have := H2.out.below.size; simp; omega); clear hb)
        | ((with_reducible refine wpList_build1 (P := Tryd.prog) (w := y2) (t := 22) (x := .tmp 48) (p := dv x) (v := .slice (some ⟨y2.heap.size, 0, none⟩) 1 1) (w' := y2.alloc (.cells (tab 32 fun j => bv (x j)) 26)) ?_ ?_ ?_ HBD.out ?_); (· exact rfl); (· exact rfl); (· exact rfl))
        | (at_builtin; (with_reducible refine wpList_append_any (P := Tryd.prog) (w := y2.alloc (.cells (tab 32 fun j => bv (x j)) 26)) ?_ (.tmp 40) (.tmp 49) 22 ?_ y1.heap.size 26 i0 (dv fun _ => 0#8) 32 32 undRs HI.out zcells H32.out V r (flat r (sib (ext n f) i)) ?_ HOW.out (some ⟨y2.heap.size, 0, none⟩) 1 1 (flat 1 fun _ => x) ?_ HSR.out (flat_one _ _) hlb.out.1 hlb.out.2 HBS.out ?_); (· exact rfl); (· exact rfl); (· exact rfl); (· exact rfl); intro V7 w7 hown7 hgr7 hat7))
      have H8 : Hid (Pg y1 (sib (ext n f) i) (r + 1) V7 w7) := by
        rw [← HX.out, flat_step] at hown7
        have hb8 : Below y1.heap.size y1 (y2.alloc (.cells (tab 32 fun j => bv (x j)) 26)) := H2.out.below.alloc H2.out.below.size _
        exact Lib.hid ⟨hown7, grown_below hb8 HOW.out hgr7⟩
      clear hown7 hgr7 hat7 H2 HBD HSR HOW HBS H32 hlb HUN HX
      go_wp2_with fail
      go_roundw
      case rel => exact ⟨r + 1, by omega, by go_num, H8⟩
      case measure => simp [intOf]; omega
    · obtain rfl : r = d := by omega
      go_wp2_with fail
      go_ret2
      exact ⟨_, rfl, ownsRow_base hp.out.row H1.out.2.2.size, H1.out.2.2.trans (hp.out.below.mono H1.out.2.2.size)⟩
end Mk
end Go.Proofs.YtnfcjangminhoaaDoor
/-
  mootref05.Path for whatever comes in; what a law keeps: rows of digests, boxed digests. Own work.
-/
namespace Go.Proofs.YtnfcjangminhoaaDoor
open Go.RowKit
set_option linter.unusedVariables false
set_option linter.unusedSimpArgs false
namespace Mk
open Kc
theorem wrong3 (d : Int) (n : Nat) : wrong d n = 0 ∨ wrong d n = 2 ∨ wrong d n = 5 := by
  by_cases h : wrong d n = 0
  · exact .inl h
  · exact .inr (wrong_val d n h)
theorem wrongP3 (d : Int) (n : Nat) (i : Int) : wrongP d n i = 0 ∨ wrongP d n i = 2 ∨ wrongP d n i = 5 := by
  unfold wrongP
  by_cases h : wrong d n = 0
  · rw [if_neg (by simp [h])]; split
    · exact .inr (.inl rfl)
    · exact .inl rfl
  · rw [if_pos h]; exact wrong3 d n
theorem refPath_wrong (d : Int) (a : Option Addr) (n c : Nat) (i : Int) (w : World) (hn : n ≤ 9223372036854775807) (h : wrong d n ≠ 0) :
    Calls Tryd.prog 16 #[.int .i64 d, .slice a n c, .int .i64 i] w fun e w' => e = .returned (.tuple #[.slice none 0 0, .int .i64 (wrong d n)]) ∧ w = w' := by
  have HCW := Lib.hid (refWrong d n w hn)
  have hne : (wrong d n == 0) = false := by simpa using h
  generalize wrong d n = k at *
  clear h hn
  go_enter Tryd.func16, Tryd.ntmps16
  go_wp2_with (go_at_call 30; (with_reducible refine HCW.out.mono ?_); rintro e _ ⟨rfl, rfl⟩)
  go_ret2
  exact ⟨rfl, rfl⟩
theorem refPath_place (d : Nat) (a : Option Addr) (n c : Nat) (i : Int) (w : World) (hn : n ≤ 2 ^ d) (hd : d ≤ 16) (h : i < 0 ∨ (2 : Int) ^ d ≤ i) :
    Calls Tryd.prog 16 #[.int .i64 d, .slice a n c, .int .i64 i] w fun e w' => e = .returned (.tuple #[.slice none 0 0, .int .i64 2]) ∧ w = w' := by
  have h16 := two16 hd
  have hcw := refWrong (d : Int) n w (by omega)
  rw [wrong_none hd hn] at hcw
  have HCW := Lib.hid hcw
  have hp : (2 : Int) ^ d ≤ 65536 := by have := p2_nat d 16 hd; simpa using this
  have hp0 := p2_pos d
  have hdI : (d : Int) ≤ 16 := by omega
  clear hn hcw h16
  by_cases hi : i < 0
  · clear h
    go_enter Tryd.func16, Tryd.ntmps16
    go_wp2_with (go_at_call 30; (with_reducible refine HCW.out.mono ?_); rintro e _ ⟨rfl, rfl⟩)
    go_ret2
    exact ⟨rfl, rfl⟩
  · have hi0 : 0 ≤ i := by omega
    have hpi : (2 : Int) ^ d ≤ i := by omega
    clear h
    go_enter Tryd.func16, Tryd.ntmps16
    go_wp2_with (go_at_call 30; (with_reducible refine HCW.out.mono ?_); rintro e _ ⟨rfl, rfl⟩)
    go_ret2
    exact ⟨rfl, rfl⟩
theorem refPath_any (d : Int) (a : Option Addr) (n c : Nat) (f : Nat → Hx) (i : Int) (w : World) (hs : IsHs w a n f) (hnc : n ≤ c) (hn : n ≤ 9223372036854775807) :
    Calls Tryd.prog 16 #[.int .i64 d, .slice a n c, .int .i64 i] w fun e w' => ∃ b cb, e = .returned (.tuple #[.slice b (pathLen d n i) cb, .int .i64 (wrongP d n i)]) ∧ IsHs w' b (pathLen d n i) (sib (ext n f) i.toNat) ∧ Below w.heap.size w w' := by
  by_cases h0 : wrong d n = 0
  · obtain ⟨k, rfl, hk, hnk⟩ := wrong_ok h0
    by_cases h1 : i < 0 ∨ (2 : Int) ^ k ≤ i
    · have hw : wrongP (k : Int) n i = 2 := by unfold wrongP; rw [if_neg (by simp [h0]), if_pos (by simpa using h1)]
      have hl : pathLen (k : Int) n i = 0 := by unfold pathLen; rw [hw, if_neg (by decide)]
      rw [hw, hl]
      refine (refPath_place k a n c i w hnk hk h1).mono ?_
      rintro e _ ⟨rfl, rfl⟩
      exact ⟨none, 0, rfl, .inl rfl, Below.refl _ _⟩
    · have hw : wrongP (k : Int) n i = 0 := by unfold wrongP; rw [if_neg (by simp [h0]), if_neg (by simpa using h1)]
      have hl : pathLen (k : Int) n i = k := by unfold pathLen; rw [hw, if_pos rfl]; rfl
      obtain ⟨j, rfl⟩ : ∃ j : Nat, i = j := ⟨i.toNat, by omega⟩
      rw [hw, hl]
      refine (refPath_ok k a n c f j w hs hnc hk hnk (by have e : ((2 ^ k : Nat) : Int) = (2 : Int) ^ k := by rw [Int.natCast_pow]; rfl
                                                         omega)).mono ?_
      rintro e w' ⟨V, rfl, hr, hb⟩
      obtain ⟨b, cb, rfl, hz, _⟩ := hs_of hr
      exact ⟨b, cb, rfl, by rw [Int.toNat_natCast]; exact hz, hb⟩
  · have hw : wrongP d n i = wrong d n := by unfold wrongP; rw [if_pos h0]
    have hl : pathLen d n i = 0 := by unfold pathLen; rw [hw, if_neg h0]
    rw [hw, hl]
    refine (refPath_wrong d a n c i w hn h0).mono ?_
    rintro e _ ⟨rfl, rfl⟩
    exact ⟨none, 0, rfl, .inl rfl, Below.refl _ _⟩
/-- Rows of digests, boxed digests, the old memory. -/
structure Mb (W : World) (rs : List (Option Addr × Nat × (Nat → Hx))) (l : List (Nat × Nat × Hx)) (y : World) : Prop where
  hs : ∀ r ∈ rs, IsHs y r.1 r.2.1 r.2.2
  ts : ∀ p ∈ l, IsTab y p.1 p.2.1 32 fun i => bv (p.2.2 i)
  below : Below W.heap.size W y
section
variable {W y y' : World} {rs : List (Option Addr × Nat × (Nat → Hx))} {l : List (Nat × Nat × Hx)}
theorem Mb.next (h : Mb W rs l y) (hb : Below y.heap.size y y') : Mb W rs l y' :=
  ⟨fun r hr => (h.hs r hr).below hb, fun p hp => (h.ts p hp).below hb, bl h.below hb⟩
theorem Mb.drew (h : Mb W rs l y) : Mb W rs l y.drew := ⟨h.hs, h.ts, h.below.drew⟩
theorem Mb.row {a : Option Addr} {n : Nat} {f : Nat → Hx} (h : Mb W rs l y) (hr : IsHs y a n f) : Mb W ((a, n, f) :: rs) l y :=
  ⟨fun r hm => (List.mem_cons.1 hm).elim (fun e => by rw [e]; exact hr) (h.hs r), h.ts, h.below⟩
theorem Mb.add (h : Mb W rs l y) (T : Nat) (x : Hx) : Mb W rs ((y.heap.size, T, x) :: l) (y.alloc (.cells (tab 32 fun i => bv (x i)) T)) := by
  have hb : Below y.heap.size y (y.alloc (.cells (tab 32 fun i => bv (x i)) T)) := (Below.refl _ _).alloc (Nat.le_refl _) _
  refine ⟨fun r hr => (h.hs r hr).below hb, fun p hp => ?_, bl h.below hb⟩
  rcases List.mem_cons.1 hp with rfl | hp
  · exact IsTab.new y T 32 fun i => bv (x i)
  · exact (h.ts p hp).below hb
theorem Mb.loadH {q : Nat} {x : Hx} (h : Mb W rs l y) (hp : (q, 27, x) ∈ l) : (Instr.loadAt 27 (.pointer (some ⟨q, 0, none⟩))).run Tryd.prog y = .ok (dv x) y :=
  load32h (h.ts (q, 27, x) hp)
theorem Mb.loadR {q : Nat} {x : Hx} (h : Mb W rs l y) (hp : (q, 26, x) ∈ l) : (Instr.loadAt 26 (.pointer (some ⟨q, 0, none⟩))).run Tryd.prog y = .ok (dv x) y :=
  load32r (h.ts (q, 26, x) hp)
theorem Mb.at {a : Option Addr} {n : Nat} {f : Nat → Hx} (h : Mb W rs l y) (hr : (a, n, f) ∈ rs) : IsHs y a n f := h.hs _ hr
end
section
variable {ops : Array Oper} {rest : List Oper} {op : Oper} {a : Act} {w : World} {Q : Exit → Act → World → Prop}
theorem wpList_neqG (hw : Region.wanted op (yielded ops a.tmps) = true) (x y : Operand) (yt : TypeId) (z : Hx) (ho : op.op = .binOp .neq 27 x y yt) (hx : a.eval x = dv z) (hy : a.eval y = dv z)
    (h : wpList Tryd.prog ops Q rest (a.put op.dst (.bool false)) w) : wpList Tryd.prog ops Q (op :: rest) a w :=
  wpList_step fun K hK => by
    rw [if_pos hw]
    unfold Oper.wp execOp
    simp only [ho, hx, hy]
    have e : (binOp .neq 27 (dv z) (dv z)).run Tryd.prog w = .ok (.bool false) w := neqT z w
    simp [guardN, e]
    exact hK _ _ h
end
end Mk
end Go.Proofs.YtnfcjangminhoaaDoor
