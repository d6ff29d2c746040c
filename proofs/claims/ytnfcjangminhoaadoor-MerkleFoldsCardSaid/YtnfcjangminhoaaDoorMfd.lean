/-
  MerkleFolds. Own work.
-/
import Derived.Test.YtnfcjangminhoaaDoorMp
namespace Go.Proofs.YtnfcjangminhoaaDoor
open Go.RowKit
set_option linter.unusedVariables false
inductive OT where
  | done : OT
  | take : Nat → OT → OT
  | one : Nat → OT → OT
  | two : Nat → OT → Nat → OT → OT
def OT.size : OT → Nat
  | .done => 0
  | .take _ r => r.size + 1
  | .one _ r => r.size + 1
  | .two _ r _ _ => r.size + 1
def OT.seq : OT → OT → OT
  | .done, t => t
  | .take k r, t => .take k (r.seq t)
  | .one k r, t => .one k (r.seq t)
  | .two k r m u, t => .two k (r.seq t) m (u.seq t)
section
variable {P : Program} {ops : Array Oper} {Q : Exit → Act → World → Prop} {S : World → Prop} {D : Act → World → Prop}
def wpTree (P : Program) (ops : Array Oper) (Q : Exit → Act → World → Prop) (S : World → Prop) (D : Act → World → Prop) : OT → Act → World → Prop
  | .done, a, w => D a w
  | .take k r, a, w => ∃ o v, ops[k]? = some o ∧ YieldsIf P ops S o v a ∧ wpTree P ops Q S D r (a.put o.dst v) w
  | .one k r, a, w => ∃ o, ops[k]? = some o ∧ Region.wanted o (yielded ops a.tmps) = true ∧ o.wp P a w (fun a' w' => S w' ∧ wpTree P ops Q S D r a' w') Q
  | .two k r m t, a, w => (∃ o, ops[k]? = some o ∧ Region.wanted o (yielded ops a.tmps) = true ∧ o.wp P a w (fun a' w' => S w' ∧ wpTree P ops Q S D r a' w') Q) ∧
      (∃ o, ops[m]? = some o ∧ Region.wanted o (yielded ops a.tmps) = true ∧ o.wp P a w (fun a' w' => S w' ∧ wpTree P ops Q S D t a' w') Q)
theorem wpTree_done {a : Act} {w : World} (h : D a w) : wpTree P ops Q S D .done a w := h
theorem wpTree_op {k : Nat} {r : OT} {o : Oper} {a : Act} {w : World} (ho : ops[k]? = some o) (hw : Region.wanted o (yielded ops a.tmps) = true)
    (h : ∀ K : Act → World → Prop, (∀ a' w', S w' → wpTree P ops Q S D r a' w' → K a' w') → o.wp P a w K Q) : ∃ o, ops[k]? = some o ∧ Region.wanted o (yielded ops a.tmps) = true ∧ o.wp P a w (fun a' w' => S w' ∧ wpTree P ops Q S D r a' w') Q :=
  ⟨o, ho, hw, h _ fun _ _ h1 h2 => ⟨h1, h2⟩⟩
theorem wpTree_one {k : Nat} {r : OT} {o : Oper} {a : Act} {w : World} (ho : ops[k]? = some o) (hw : Region.wanted o (yielded ops a.tmps) = true)
    (h : ∀ K : Act → World → Prop, (∀ a' w', S w' → wpTree P ops Q S D r a' w' → K a' w') → o.wp P a w K Q) : wpTree P ops Q S D (.one k r) a w := wpTree_op ho hw h
theorem wpTree_two {k m : Nat} {r t : OT} {a : Act} {w : World} (h1 : ∃ o, ops[k]? = some o ∧ Region.wanted o (yielded ops a.tmps) = true ∧ o.wp P a w (fun a' w' => S w' ∧ wpTree P ops Q S D r a' w') Q)
    (h2 : ∃ o, ops[m]? = some o ∧ Region.wanted o (yielded ops a.tmps) = true ∧ o.wp P a w (fun a' w' => S w' ∧ wpTree P ops Q S D t a' w') Q) : wpTree P ops Q S D (.two k r m t) a w := ⟨h1, h2⟩
theorem wpTree_tk {k : Nat} {r : OT} {o : Oper} {a : Act} {w : World} (d : Option Tmp) (v : Value) (ho : ops[k]? = some o) (hd : o.dst = d) (hw : Region.wanted o (yielded ops a.tmps) = true)
    (hy : ∀ w, S w → (execOp a.eval o).run P w = .ok (.value v) w) (h : wpTree P ops Q S D r (a.put d v) w) : wpTree P ops Q S D (.take k r) a w :=
  ⟨o, v, ho, .inl ⟨hw, hy⟩, by rw [hd]; exact h⟩
theorem wpTree_ld {k : Nat} {r : OT} {o : Oper} {a : Act} {w : World} (d : Option Tmp) (ty : TypeId) (x : Operand) (p v : Value) (ho : ops[k]? = some o) (hd : o.dst = d) (hw : Region.wanted o (yielded ops a.tmps) = true) (hop : o.op = .load ty x) (hx : a.eval x = p)
    (hl : ∀ w, S w → (Instr.loadAt ty p).run P w = .ok v w) (h : wpTree P ops Q S D r (a.put d v) w) : wpTree P ops Q S D (.take k r) a w :=
  wpTree_tk d v ho hd hw (fun w hw => by unfold execOp; simp only [hop, hx]; simp [hl w hw, Result.andThen]) h
theorem wpTree_cut (K : Act → World → Prop) (r : OT) (hr : ∀ a w, S w → K a w → wpTree P ops Q S D r a w) : ∀ (t : OT) (a : Act) (w : World), S w → wpTree P ops Q S K t a w → wpTree P ops Q S D (t.seq r) a w
  | .done, a, w, hS, h => hr a w hS h
  | .take k t, a, w, hS, ⟨o, v, h0, hy, h⟩ => ⟨o, v, h0, hy, wpTree_cut K r hr t _ _ hS h⟩
  | .one k t, a, w, hS, ⟨o, h0, hw, h⟩ => ⟨o, h0, hw, Oper.wp_mono (fun a' w' h' => ⟨h'.1, wpTree_cut K r hr t a' w' h'.1 h'.2⟩) h⟩
  | .two k t m u, a, w, hS, ⟨⟨o, h0, hw, h⟩, ⟨o2, h02, hw2, h2⟩⟩ => ⟨⟨o, h0, hw, Oper.wp_mono (fun a' w' h' => ⟨h'.1, wpTree_cut K r hr t a' w' h'.1 h'.2⟩) h⟩,
      ⟨o2, h02, hw2, Oper.wp_mono (fun a' w' h' => ⟨h'.1, wpTree_cut K r hr u a' w' h'.1 h'.2⟩) h2⟩⟩
def treeB (ops : Array Oper) : OT → Array Bool → Bool
  | .done, l => (Region.ready .any ops l).isEmpty
  | .take k r, l => (Region.ready .any ops l).contains k && Region.free .any ops l k && treeB ops r (l.setIfInBounds k true)
  | .one k r, l => decide (Region.ready .any ops l = [k]) && treeB ops r (l.setIfInBounds k true)
  | .two k r m t, l => decide (Region.ready .any ops l = [k, m]) && decide (r.size = t.size) && treeB ops r (l.setIfInBounds k true) && treeB ops t (l.setIfInBounds m true)
theorem tree_any (hs : Region.noSelect ops = true) (hQ : ∀ c a d v w, Q (.panic c) (a.put d v) w → Q (.panic c) a w) : ∀ (l : OT) (listed : Array Bool) (a : Act) (w : World), S w →
    treeB ops l listed = true → wpTree P ops Q S (Q .normal) l a w → wpAnyH P .any ops Q S l.size listed a w
  | .done, _, _, _, _, hB, h => ⟨by simpa [treeB] using hB, h⟩
  | .take k r, listed, a, w, hS, hB, ⟨o, v, h0, hy, h⟩ => by
    simp only [treeB, Bool.and_eq_true] at hB
    exact wpAnyH_take h0 hs hB.1.2 hB.1.1 (fun c a w => hQ c a _ _ w) hy hS (tree_any hs hQ r _ _ _ hS hB.2 h)
  | .one k r, listed, a, w, hS, hB, ⟨o, h0, hw, h⟩ => by
    simp only [treeB, Bool.and_eq_true, decide_eq_true_eq] at hB
    refine wpAnyH_all hB.1 (by simp) fun i hi => ?_
    have hik : i = k := by simpa using hi
    subst hik
    unfold wpOp
    simp only [h0]
    rw [if_pos hw]
    exact .inl (Oper.wp_mono (fun a' w' h' => ⟨h'.1, tree_any hs hQ r _ _ _ h'.1 hB.2 h'.2⟩) h)
  | .two k r m t, listed, a, w, hS, hB, ⟨⟨o, h0, hw, h⟩, ⟨o2, h02, hw2, h2⟩⟩ => by
    simp only [treeB, Bool.and_eq_true, decide_eq_true_eq] at hB
    refine wpAnyH_all hB.1.1.1 (by simp) fun i hi => ?_
    have hik : i = k ∨ i = m := by simpa using hi
    rcases hik with e | e
    · subst e
      unfold wpOp
      simp only [h0]
      rw [if_pos hw]
      exact .inl (Oper.wp_mono (fun a' w' h' => ⟨h'.1, tree_any hs hQ r _ _ _ h'.1 hB.1.2 h'.2⟩) h)
    · subst e
      unfold wpOp
      simp only [h02]
      rw [if_pos hw2]
      exact .inl (Oper.wp_mono (fun a' w' h' => ⟨h'.1, by have h3 := tree_any hs hQ t _ _ _ h'.1 hB.2 h'.2; rw [← hB.1.1.2] at h3; exact h3⟩) h2)
theorem wp_region_tree {id : Nat} {a : Act} {w : World} {l : List Oper} (S : World → Prop) (ord : OT) (hm : P.follows .mixedOrders = true) (hB : (decide (ord.size = l.length) && Region.noSelect l.toArray && treeB l.toArray ord (Array.replicate l.length false)) = true) (hS : S w.drew)
    (h : wpTree P l.toArray (NoPanic Q) S (NoPanic Q .normal) ord a w.drew) : (Code.region id l.toArray true).wp P Q a w := by
  refine wp_region_noPanic ?_
  have hQ : ∀ c a d v w, NoPanic Q (.panic c) (a.put d v) w → NoPanic Q (.panic c) a w := fun _ _ _ _ _ h => h
  simp only [Bool.and_eq_true, decide_eq_true_eq] at hB
  refine wp_region_held (S := S) hm ?_
  have h1 := tree_any (P := P) (Q := NoPanic Q) (S := S) (ops := l.toArray) hB.1.2 hQ ord (Array.replicate l.length false) a w.drew hS hB.2 h
  rw [hB.1.1] at h1
  simpa using h1
theorem wp_region_treeCut {id : Nat} {a : Act} {w : World} {l : List Oper} (S : World → Prop) (t r : OT) (K : Act → World → Prop) (hm : P.follows .mixedOrders = true) (hB : (decide ((t.seq r).size = l.length) && Region.noSelect l.toArray && treeB l.toArray (t.seq r) (Array.replicate l.length false)) = true) (hS : S w.drew)
    (h : wpTree P l.toArray (NoPanic Q) S K t a w.drew) (hr : ∀ a w, S w → K a w → wpTree P l.toArray (NoPanic Q) S (NoPanic Q .normal) r a w) : (Code.region id l.toArray true).wp P Q a w :=
  wp_region_tree S (t.seq r) hm hB hS (wpTree_cut K r hr t a w.drew hS h)
end
end Go.Proofs.YtnfcjangminhoaaDoor
namespace Go.Proofs.YtnfcjangminhoaaDoor
open Go.RowKit
set_option linter.unusedVariables false
set_option linter.unusedSimpArgs false
namespace Mk
open Kc
/-- What Fold answers, whatever comes in. -/
def foldE (i : Int) (n : Nat) : Int := if 16 < n ∨ i < 0 ∨ (2 : Int) ^ n ≤ i then 2 else 0
def foldX (i : Int) (x : Hx) (p : Nat → Hx) (n : Nat) : Hx := if 16 < n ∨ i < 0 ∨ (2 : Int) ^ n ≤ i then zero 0 else fold i.toNat x p n
theorem foldE3 (i : Int) (n : Nat) : foldE i n = 0 ∨ foldE i n = 2 ∨ foldE i n = 5 := by
  unfold foldE; split
  · exact .inr (.inl rfl)
  · exact .inl rfl
theorem fold_any (i : Int) (x : Hx) (a : Option Addr) (n c : Nat) (p : Nat → Hx) (w : World) (hs : IsHs w a n p) (hnc : n ≤ c) (hn : n ≤ 9223372036854775807) (ht : Laid.KTab w) :
    Calls Tryd.prog 13 #[.int .i64 i, dv x, .slice a n c] w fun e w' => e = .returned (.tuple #[dv (foldX i x p n), errV (foldE i n)]) ∧ Below w.heap.size w w' := by
  by_cases h : 16 < n ∨ i < 0 ∨ (2 : Int) ^ n ≤ i
  · have e1 : foldX i x p n = zero 0 := by unfold foldX; rw [if_pos h]
    have e2 : foldE i n = 2 := by unfold foldE; rw [if_pos h]
    rw [e1, e2, err2]
    exact fold_bad i x a n c w hn h
  · have e1 : foldX i x p n = fold i.toNat x p n := by unfold foldX; rw [if_neg h]
    have e2 : foldE i n = 0 := by unfold foldE; rw [if_neg h]
    obtain ⟨j, rfl⟩ : ∃ j : Nat, i = j := ⟨i.toNat, by omega⟩
    rw [e1, e2, err0, Int.toNat_natCast]
    exact fold_ok j x a n c p w hs hnc (by omega) (by have e : ((2 ^ n : Nat) : Int) = (2 : Int) ^ n := by rw [Int.natCast_pow]; rfl
                                                      omega) ht
theorem refFold_any (i : Int) (x : Hx) (a : Option Addr) (n c : Nat) (p : Nat → Hx) (w : World) (hs : IsHs w a n p) (hnc : n ≤ c) (hn : n ≤ 9223372036854775807) :
    Calls Tryd.prog 20 #[.int .i64 i, dv x, .slice a n c] w fun e w' => e = .returned (.tuple #[dv (foldX i x p n), .int .i64 (foldE i n)]) ∧ Below w.heap.size w w' := by
  by_cases h : 16 < n ∨ i < 0 ∨ (2 : Int) ^ n ≤ i
  · have e1 : foldX i x p n = zero 0 := by unfold foldX; rw [if_pos h]
    have e2 : foldE i n = 2 := by unfold foldE; rw [if_pos h]
    rw [e1, e2]
    exact refFold_bad i x a n c w hn h
  · have e1 : foldX i x p n = fold i.toNat x p n := by unfold foldX; rw [if_neg h]
    have e2 : foldE i n = 0 := by unfold foldE; rw [if_neg h]
    obtain ⟨j, rfl⟩ : ∃ j : Nat, i = j := ⟨i.toNat, by omega⟩
    rw [e1, e2, Int.toNat_natCast]
    exact refFold_ok j x a n c p w hs hnc (by omega) (by have e : ((2 ^ n : Nat) : Int) = (2 : Int) ^ n := by rw [Int.natCast_pow]; rfl
                                                         omega)
/-- q is the block of none of these rows. -/
def Off (rs : List (Option Addr × Nat × (Nat → Hx))) (q : Nat) : Prop := ∀ r ∈ rs, ∀ b o, r.1 = some ⟨b, o, none⟩ → 0 < r.2.1 → b ≠ q
section
variable {W y y' : World} {rs : List (Option Addr × Nat × (Nat → Hx))} {l : List (Nat × Nat × Hx)}
theorem Mb.off (h : Mb W rs l y) : Off rs y.heap.size := fun r hr b o e h0 => by have := (h.hs r hr).inHeap b o e h0; omega
theorem Mb.offT (h : Mb W rs l y) : ∀ p ∈ l, p.1 ≠ y.heap.size := fun p hp => by have := (h.ts p hp).lt; omega
theorem Off.cons {a : Option Addr} {n : Nat} {f : Nat → Hx} {q : Nat} (h : Off rs q) (h1 : ∀ b o, a = some ⟨b, o, none⟩ → 0 < n → b ≠ q) : Off ((a, n, f) :: rs) q := fun r hr b o e h0 => by
  rcases List.mem_cons.1 hr with e2 | hr
  · rw [e2] at e h0; exact h1 b o e h0
  · exact h r hr b o e h0
theorem row_ge {w : World} {B T : Nat} {a : Option Addr} {n c : Nat} {f : Nat → Hx} (h : w.ownsRow B T 32 (.slice a n c) n (flat n f)) : ∀ b o, a = some ⟨b, o, none⟩ → B ≤ b := fun b o e => by
  rcases ownsRow_forms h with ⟨h1, h2⟩ | ⟨g', cap, h1, h2, _⟩
  · injection h1 with h1; rw [e] at h1; cases h1
  · injection h1 with h1
    rw [e] at h1
    injection h1 with h1
    injection h1 with h1 _
    omega
set_option maxRecDepth 100000 in
theorem Mb.set {q T : Nat} {x z : Hx} (h : Mb W rs l y) (ht : IsTab y q T 32 fun i => bv (z i)) (hq : W.heap.size ≤ q) (hl : ∀ p ∈ l, p.1 ≠ q) (hr : Off rs q) : Mb W rs ((q, T, x) :: l) (y.setRow q (tab 32 fun i => bv (x i))) := by
  refine ⟨fun r hm => ?_, fun p hp => ?_, below_setRow h.below hq _⟩
  · rcases h.hs r hm with h1 | ⟨b, o, h1, h2⟩
    · exact .inl h1
    · rcases Nat.eq_zero_or_pos r.2.1 with h0 | h0
      · exact .inl h0
      · refine .inr ⟨b, o, h1, fun k j hk hj => ?_⟩
        rw [cell_setRow_other _ _ _ _ (hr r hm b o h1 h0)]; exact h2 k j hk hj
  · rcases List.mem_cons.1 hp with e | hp
    · rw [e]; exact ht.row
    · exact (h.ts p hp).rowOther (hl p hp)
end
/-- The same, and a row of the call's own that grows. -/
structure Me (W : World) (B : Nat) (rs : List (Option Addr × Nat × (Nat → Hx))) (l : List (Nat × Nat × Hx)) (M : Nat) (e : Nat → Hx) (V : Value) (y : World) : Prop where
  mb : Mb W rs l y
  row : y.ownsRow B 26 32 V M (flat M e)
  top : ∀ k, V.ownBlock = some k → (∀ p ∈ l, p.1 ≠ k) ∧ Off rs k
  base : W.heap.size ≤ B
  big : B ≤ y.heap.size
section
variable {W y y' : World} {B M : Nat} {e : Nat → Hx} {V V' : Value} {rs : List (Option Addr × Nat × (Nat → Hx))} {l : List (Nat × Nat × Hx)}
theorem Me.start (h : Mb W rs l y) (hb : Below y.heap.size y y') (hr : y'.ownsRow y.heap.size 26 32 V M (flat M e)) : Me W y.heap.size rs l M e V y' :=
  ⟨h.next hb, hr, fun k hk => ⟨fun p hp => by have := (h.ts p hp).lt; have := (hr.lt k hk).1; omega, fun r hm b o e h0 => by have := (h.hs r hm).inHeap b o e h0; have := (hr.lt k hk).1; omega⟩, h.below.size, hb.size⟩
theorem Me.next (h : Me W B rs l M e V y) (hb : Below y.heap.size y y') : Me W B rs l M e V y' :=
  ⟨h.mb.next hb, (Kept.ofBelow (S := fun _ => False) hb).row h.row (fun _ _ h => h), h.top, h.base, Nat.le_trans h.big hb.size⟩
theorem Me.drew (h : Me W B rs l M e V y) : Me W B rs l M e V y.drew := ⟨h.mb.drew, h.row, h.top, h.base, h.big⟩
theorem Me.add (h : Me W B rs l M e V y) (T : Nat) (x : Hx) : Me W B rs ((y.heap.size, T, x) :: l) M e V (y.alloc (.cells (tab 32 fun i => bv (x i)) T)) := by
  refine ⟨h.mb.add T x, h.row.alloc _, fun k hk => ⟨fun p hp => ?_, (h.top k hk).2⟩, h.base, by have := h.big; simp; omega⟩
  rcases List.mem_cons.1 hp with e2 | hp
  · rw [e2]; have := (h.row.lt k hk).2; show y.heap.size ≠ k; omega
  · exact (h.top k hk).1 p hp
theorem Me.grown (h : Me W B rs l M e V y) (hown : y'.ownsRow B 26 32 V' (M + 1) (flat (M + 1) e)) (hg : y.grownBy y' V.ownBlock)
    (hat : ∀ k, V'.ownBlock = some k → V.ownBlock = some k ∨ k = y.heap.size) : Me W B rs l (M + 1) e V' y' := by
  have hk : Kept (fun k => V.ownBlock = some k) y y' := ⟨hg.os, hg.tape, hg.output, hg.size, fun k hk hn => hg.block k hk (fun e => hn e.symm)⟩
  refine ⟨⟨fun r hr => kept_hs (h.mb.hs r hr) hk fun b o e h0 e2 => (h.top b e2).2 r hr b o e h0 rfl, fun p hp => kept_tab (h.mb.ts p hp) hk fun e2 => (h.top _ e2).1 p hp rfl, ((Kept.ofBelow (S := fun k => V.ownBlock = some k) h.mb.below).trans hk (fun _ _ h => h)).below (Nat.le_refl _) (fun j hj e => Nat.le_trans h.base (h.row.lt j e).1)⟩, hown, fun k hk' => ?_, h.base, Nat.le_trans h.big hg.size⟩
  rcases hat k hk' with h1 | h1
  · exact h.top k h1
  · subst h1
    exact ⟨h.mb.offT, h.mb.off⟩
theorem Me.stored {b9 c' T I o : Nat} {z : Hx} (h : Me W B rs l M e (.slice (some ⟨b9, 0, none⟩) M c') y) (hl : Lv y b9 T M e) (ho : o = 32 * I) :
    Mb W ((some ⟨b9, 0, none⟩, M, put e I z) :: rs) l (y.setCells b9 o (tab 32 fun i => bv (z i)).toList) := by
  have hk : Kept (· = b9) y (y.setCells b9 o (tab 32 fun i => bv (z i)).toList) := keptS_setCells (S := (· = b9)) (q := b9) rfl _ _ _ (Kept.ofBelow (Below.refl _ _))
  have h1 := h.top b9 rfl
  refine Mb.row ⟨fun r hr => kept_hs (h.mb.hs r hr) hk fun b o e h0 e2 => h1.2 r hr b o e h0 e2, fun p hp => kept_tab (h.mb.ts p hp) hk fun e2 => h1.1 p hp e2, ((Kept.ofBelow (S := (· = b9)) h.mb.below).trans hk (fun _ _ h => h)).below (Nat.le_refl _) (fun j hj e => by rw [e]; exact Nat.le_trans h.base (h.row.lt b9 rfl).1)⟩ (.inr ⟨b9, 0, rfl, (hl.set I z ho).at5⟩)
end
set_option maxHeartbeats 4000000 in
set_option maxRecDepth 100000 in
theorem folds_walk (i : Int) (x : Hx) (a2 : Option Addr) (n2 c2 : Nat) (f2 : Nat → Hx) (a3 : Option Addr) (n3 c3 : Nat) (f3 : Nat → Hx) (d : Int) (w : World) (hs2 : IsHs w a2 n2 f2) (hnc2 : n2 ≤ c2) (hn2 : n2 ≤ 4398046511104)
    (hs3 : IsHs w a3 n3 f3) (hnil3 : a3 = none → n3 = 0 ∧ c3 = 0) (hnc3 : n3 ≤ c3) (hn3 : n3 ≤ 4398046511104) (hc3 : c3 ≤ 4398046511104) (hd : -9223372036854775808 ≤ d ∧ d ≤ 9223372036854775807) (hi : -9223372036854775808 ≤ i ∧ i ≤ 9223372036854775807)
    (hg : w.cell? ⟨0, 0, none⟩ = some (.iface 82 (.agg #[.pointer (some ⟨2, 29, none⟩)]))) (ht : Laid.KTab w) :
    Calls Tryd.prog 6 #[.int .i64 i, dv x, .slice a2 n2 c2, .slice a3 n3 c3, .int .i64 d] w fun e w' => e = .returned (.bool true) ∧ Below w.heap.size w w' := by
  have HT := Lib.hid ht
  have HG := Lib.hid hg
  clear ht hg
  have H0 : Hid (Mb w [(a2, n2, f2), (a3, n3, f3)] [] w) := Lib.hid (Mb.row (Mb.row ⟨(fun _ h => by cases h), (fun _ h => by cases h), Below.refl _ _⟩ hs3) hs2)
  clear hs2 hs3
  have z2 := zeroHash
  have z3 := zero26
  generalize hz : (tab 32 fun _ => bv 0#8) = zh at *
  have HZ := Lib.hid hz
  clear hz
  have hzl : zh.size = 32 := by rw [← HZ.out, tab_size]
  have HZL := Lib.hid hzl
  clear hzl
  unfold dv
  go_enter Tryd.func6, Tryd.ntmps6
  go_upto_region 1 with (fail)
  have T0 : Hid (Mb w [(a2, n2, f2), (a3, n3, f3)] [(w.heap.size, 26, x)] (w.alloc (.cells (tab 32 fun i => bv (x i)) 26))) := Lib.hid (H0.out.add 26 x)
  clear H0
  generalize w.alloc (.cells (tab 32 fun i => bv (x i)) 26) = y0 at *
  generalize hq6 : w.heap.size = q6 at *
  have HQ6 := Lib.hid hq6
  clear hq6
  have HHS := fun y (hy : IsHs y a2 n2 f2) => hashes_walk a2 n2 c2 f2 y hy hnc2 hn2
  have HH2 := Lib.hid HHS
  clear HHS
  have ld : ∀ u, (Mb w [(a2, n2, f2), (a3, n3, f3)] [(q6, 26, x)]) u → (Instr.loadAt 26 (.pointer (some ⟨q6, 0, none⟩))).run Tryd.prog u = .ok (dv x) u := fun u h => h.loadR (by simp)
  have LD := Lib.hid ld
  clear ld
  obtain ⟨E, hE⟩ : ∃ E, foldE i n2 = E := ⟨_, rfl⟩
  obtain ⟨X, hX⟩ : ∃ X, foldX i x f2 n2 = X := ⟨_, rfl⟩
  have hE3 := foldE3 i n2
  rw [hE] at hE3
  have HE3 := Lib.hid hE3
  have hf4 := fun u a30 c30 (hu : IsHs u a30 n2 f2) (hc : n2 ≤ c30) (hk : Laid.KTab u) => fold_any i x a30 n2 c30 f2 u hu hc (by omega) hk
  have hf2 := fun u (hu : IsHs u a2 n2 f2) => refFold_any i x a2 n2 c2 f2 u hu hnc2 (by omega)
  rw [hX, hE] at hf4 hf2
  have HF4 := Lib.hid hf4
  have HF2 := Lib.hid hf2
  clear hE3 hf4 hf2 hX hE hnc2 hn2
  obtain ⟨fr, hfr⟩ : ∃ fr : Value → Value → Act, fr = fun x11 x30 => { tmps := ((.int .i64 i) :: (Value.agg (tab 32 fun i => bv (x i))) :: (.slice a2 n2 c2) :: (.slice a3 n3 c3) :: (.int .i64 d) :: undef :: (.pointer (some ⟨q6, 0, none⟩)) :: undef :: undef :: undef :: (.bool false) :: x11 :: undef :: undef :: undef :: undef :: undef :: undef :: undef :: undef :: undef :: undef :: undef :: undef :: undef :: undef :: (.tuple #[dv X, errV E]) :: (.int .i64 i) :: (dv x) :: (.slice a2 n2 c2) :: x30 :: (.tuple #[dv X, errV E]) :: (dv X) :: (errV E) :: undef :: undef :: undef :: undef :: undef :: undef :: undef :: undef :: undef :: undef :: undef :: undef :: undef :: undef :: undef :: undef :: undef :: undef :: undef :: undef :: undef :: undef :: undef :: undef :: undef :: undef :: undef :: undef :: undef :: undef :: undef :: undef :: undef :: undef :: undef :: undef :: undef :: undef :: undef :: undef :: undef :: undef :: undef :: undef :: undef :: undef :: undef :: undef :: undef :: undef :: undef :: undef :: undef :: undef :: undef :: undef :: undef :: undef :: undef :: undef :: undef :: undef :: undef :: undef :: undef :: undef :: undef :: undef :: undef :: undef :: undef :: undef :: undef :: undef :: undef :: undef :: undef :: undef :: undef :: undef :: undef :: undef :: undef :: undef :: undef :: undef :: undef :: undef :: undef :: undef :: undef :: undef :: undef :: undef :: undef :: undef :: undef :: undef :: undef :: undef :: undef :: undef :: undef :: undef :: undef :: undef :: undef :: undef :: undef :: undef :: undef :: undef :: undef :: undef :: undef :: undef :: undef :: undef :: undef :: undef :: undef :: undef :: undef :: []).toArray, defers := [] } := ⟨_, rfl⟩
  have HFR := Lib.hid hfr
  clear hfr
  refine wp_region_treeCut (Mb w [(a2, n2, f2), (a3, n3, f3)] [(q6, 26, x)]) (.take 0 (.take 1 (.take 2 (.two 3 (.two 4 (.take 5 (.take 6 (.take 7 (.one 8 .done)))) 8 (.one 4 (.take 5 (.take 6 (.take 7 .done))))) 8 (.one 3 (.one 4 (.take 5 (.take 6 (.take 7 .done))))))))) (.one 9 (.one 10 .done))
    (fun a y => ∃ (q11 : Nat) (a30 : Option Addr) (c30 : Nat), a = fr (.pointer (some ⟨q11, 0, none⟩)) (.slice a30 n2 c30) ∧ IsTab y q11 27 32 (fun _ => bv 0#8) ∧ IsHs y a30 n2 f2 ∧ n2 ≤ c30 ∧ q6 < q11 ∧ Off [(a30, n2, f2), (a2, n2, f2), (a3, n3, f3)] q11) (by kernel_rfl) (by kernel_rfl) T0.out.drew ?_ ?_
  · have S0 := Lib.hid T0.out.drew
    generalize y0.drew = v0 at *
    refine wpTree_tk (some 27) (.int .i64 i) rfl rfl (by rfl) (fun _ _ => rfl) ?_
    try simp only [Act.put, List.setIfInBounds_toArray, List.set_cons_zero, List.set_cons_succ]
    refine wpTree_ld (some 28) 26 (.tmp 6) (.pointer (some ⟨q6, 0, none⟩)) (dv x) rfl rfl (by rfl) rfl rfl LD.out ?_
    try simp only [Act.put, List.setIfInBounds_toArray, List.set_cons_zero, List.set_cons_succ]
    refine wpTree_tk (some 29) (.slice a2 n2 c2) rfl rfl (by rfl) (fun _ _ => rfl) ?_
    try simp only [Act.put, List.setIfInBounds_toArray, List.set_cons_zero, List.set_cons_succ]
    refine wpTree_two ?_ ?_
    · refine wpTree_op rfl (by rfl) fun J hJ => ?_
      go_simp
      refine (HH2.out _ (S0.out.at (by simp))).mono ?_
      rintro e v1 ⟨V, rfl, hrow, hb⟩
      obtain ⟨a30, c30, rfl, h1, _, h2, _, _⟩ := hs_of hrow
      have S1 := Lib.hid (S0.out.next hb)
      have HA := Lib.hid (And.intro h1 h2)
      refine hJ _ _ S1.out ?_
      clear hJ J hb hrow h1 h2
      try simp only [Act.put, List.setIfInBounds_toArray, List.set_cons_zero, List.set_cons_succ]
      refine wpTree_two ?_ ?_
      · refine wpTree_op rfl (by rfl) fun J hJ => ?_
        go_simp
        refine (HF4.out _ _ _ HA.out.1 HA.out.2 (ktab_below HT.out S1.out.below)).mono ?_
        rintro e v2 ⟨rfl, hb⟩
        have S2 := Lib.hid (S1.out.next hb)
        have HA2 := Lib.hid (And.intro (HA.out.1.below hb) HA.out.2)
        clear HA
        have HA := HA2
        clear HA2
        refine hJ _ _ S2.out ?_
        clear hJ J hb
        try simp only [Act.put, List.setIfInBounds_toArray, List.set_cons_zero, List.set_cons_succ]
        refine wpTree_tk (some 26) (.tuple #[dv X, errV E]) rfl rfl (by rfl) (fun _ _ => rfl) ?_
        try simp only [Act.put, List.setIfInBounds_toArray, List.set_cons_zero, List.set_cons_succ]
        refine wpTree_tk (some 32) (dv X) rfl rfl (by rfl) (fun _ _ => rfl) ?_
        try simp only [Act.put, List.setIfInBounds_toArray, List.set_cons_zero, List.set_cons_succ]
        refine wpTree_tk (some 33) (errV E) rfl rfl (by rfl) (fun _ _ => rfl) ?_
        try simp only [Act.put, List.setIfInBounds_toArray, List.set_cons_zero, List.set_cons_succ]
        refine wpTree_one rfl (by rfl) fun J hJ => ?_
        go_simp
        have hb : Below v2.heap.size v2 (v2.alloc (.cells zh 27)) := (Below.refl _ _).alloc (Nat.le_refl _) _
        have S3 := Lib.hid (S2.out.next hb)
        have N11 := Lib.hid (put_new v2 (fun _ => 0#8) zh HZ.out)
        have LQ := Lib.hid (S2.out.ts (q6, 26, x) (by simp)).lt
        have HO := Lib.hid (Mb.off (S2.out.row HA.out.1))
        have HA2 := Lib.hid (And.intro (HA.out.1.below hb) HA.out.2)
        clear HA
        have HA := HA2
        clear HA2
        refine hJ _ _ S3.out ?_
        clear hJ J hb
        generalize v2.alloc (.cells zh 27) = v3 at *
        generalize v2.heap.size = q11 at *
        try simp only [Act.put, List.setIfInBounds_toArray, List.set_cons_zero, List.set_cons_succ]
        refine wpTree_done ⟨q11, a30, c30, ?_, N11.out, HA.out.1, HA.out.2, LQ.out, HO.out⟩
        rw [HFR.out]
      · refine wpTree_op rfl (by rfl) fun J hJ => ?_
        go_simp
        have hb : Below v1.heap.size v1 (v1.alloc (.cells zh 27)) := (Below.refl _ _).alloc (Nat.le_refl _) _
        have S2 := Lib.hid (S1.out.next hb)
        have N11 := Lib.hid (put_new v1 (fun _ => 0#8) zh HZ.out)
        have LQ := Lib.hid (S1.out.ts (q6, 26, x) (by simp)).lt
        have HO := Lib.hid (Mb.off (S1.out.row HA.out.1))
        have HA2 := Lib.hid (And.intro (HA.out.1.below hb) HA.out.2)
        clear HA
        have HA := HA2
        clear HA2
        refine hJ _ _ S2.out ?_
        clear hJ J hb
        generalize v1.alloc (.cells zh 27) = v2 at *
        generalize v1.heap.size = q11 at *
        try simp only [Act.put, List.setIfInBounds_toArray, List.set_cons_zero, List.set_cons_succ]
        refine wpTree_one rfl (by rfl) fun J hJ => ?_
        go_simp
        refine (HF4.out _ _ _ HA.out.1 HA.out.2 (ktab_below HT.out S2.out.below)).mono ?_
        rintro e v3 ⟨rfl, hb⟩
        have S3 := Lib.hid (S2.out.next hb)
        have HA2 := Lib.hid (And.intro (HA.out.1.below hb) HA.out.2)
        clear HA
        have HA := HA2
        clear HA2
        have N11b := Lib.hid (N11.out.below hb)
        clear N11
        have N11 := N11b
        clear N11b
        refine hJ _ _ S3.out ?_
        clear hJ J hb
        try simp only [Act.put, List.setIfInBounds_toArray, List.set_cons_zero, List.set_cons_succ]
        refine wpTree_tk (some 26) (.tuple #[dv X, errV E]) rfl rfl (by rfl) (fun _ _ => rfl) ?_
        try simp only [Act.put, List.setIfInBounds_toArray, List.set_cons_zero, List.set_cons_succ]
        refine wpTree_tk (some 32) (dv X) rfl rfl (by rfl) (fun _ _ => rfl) ?_
        try simp only [Act.put, List.setIfInBounds_toArray, List.set_cons_zero, List.set_cons_succ]
        refine wpTree_tk (some 33) (errV E) rfl rfl (by rfl) (fun _ _ => rfl) ?_
        try simp only [Act.put, List.setIfInBounds_toArray, List.set_cons_zero, List.set_cons_succ]
        refine wpTree_done ⟨q11, a30, c30, ?_, N11.out, HA.out.1, HA.out.2, LQ.out, HO.out⟩
        rw [HFR.out]
    · refine wpTree_op rfl (by rfl) fun J hJ => ?_
      go_simp
      have hb : Below v0.heap.size v0 (v0.alloc (.cells zh 27)) := (Below.refl _ _).alloc (Nat.le_refl _) _
      have S1 := Lib.hid (S0.out.next hb)
      have N11 := Lib.hid (put_new v0 (fun _ => 0#8) zh HZ.out)
      have LQ := Lib.hid (S0.out.ts (q6, 26, x) (by simp)).lt
      have NO := Lib.hid (And.intro S0.out.off (show v0.heap.size < (v0.alloc (.cells zh 27)).heap.size by simp))
      refine hJ _ _ S1.out ?_
      clear hJ J hb
      generalize v0.alloc (.cells zh 27) = v1 at *
      generalize v0.heap.size = q11 at *
      try simp only [Act.put, List.setIfInBounds_toArray, List.set_cons_zero, List.set_cons_succ]
      refine wpTree_one rfl (by rfl) fun J hJ => ?_
      go_simp
      refine (HH2.out _ (S1.out.at (by simp))).mono ?_
      rintro e v2 ⟨V, rfl, hrow, hb⟩
      obtain ⟨a30, c30, rfl, h1, _, h2, _, _⟩ := hs_of hrow
      have S2 := Lib.hid (S1.out.next hb)
      have HA := Lib.hid (And.intro h1 h2)
      have HO := Lib.hid (NO.out.1.cons (f := f2) (n := n2) fun b o e _ => by have := row_ge hrow b o e; have := NO.out.2; omega)
      have N11b := Lib.hid (N11.out.below hb)
      clear N11
      have N11 := N11b
      clear N11b
      refine hJ _ _ S2.out ?_
      clear hJ J hb hrow h1 h2
      try simp only [Act.put, List.setIfInBounds_toArray, List.set_cons_zero, List.set_cons_succ]
      refine wpTree_one rfl (by rfl) fun J hJ => ?_
      go_simp
      refine (HF4.out _ _ _ HA.out.1 HA.out.2 (ktab_below HT.out S2.out.below)).mono ?_
      rintro e v3 ⟨rfl, hb⟩
      have S3 := Lib.hid (S2.out.next hb)
      have HA2 := Lib.hid (And.intro (HA.out.1.below hb) HA.out.2)
      clear HA
      have HA := HA2
      clear HA2
      have N11b := Lib.hid (N11.out.below hb)
      clear N11
      have N11 := N11b
      clear N11b
      refine hJ _ _ S3.out ?_
      clear hJ J hb
      try simp only [Act.put, List.setIfInBounds_toArray, List.set_cons_zero, List.set_cons_succ]
      refine wpTree_tk (some 26) (.tuple #[dv X, errV E]) rfl rfl (by rfl) (fun _ _ => rfl) ?_
      try simp only [Act.put, List.setIfInBounds_toArray, List.set_cons_zero, List.set_cons_succ]
      refine wpTree_tk (some 32) (dv X) rfl rfl (by rfl) (fun _ _ => rfl) ?_
      try simp only [Act.put, List.setIfInBounds_toArray, List.set_cons_zero, List.set_cons_succ]
      refine wpTree_tk (some 33) (errV E) rfl rfl (by rfl) (fun _ _ => rfl) ?_
      try simp only [Act.put, List.setIfInBounds_toArray, List.set_cons_zero, List.set_cons_succ]
      refine wpTree_done ⟨q11, a30, c30, ?_, N11.out, HA.out.1, HA.out.2, LQ.out, HO.out⟩
      rw [HFR.out]
  · rintro a y hS ⟨q11, a30, c30, rfl, h11, h30, hn30, hq11, hoff⟩
    have K1 := Lib.hid (And.intro (Mb.row hS h30 : Mb w [(a30, n2, f2), (a2, n2, f2), (a3, n3, f3)] [(q6, 26, x)] y) (And.intro h11 (And.intro hq11 hoff)))
    rw [HFR.out]
    clear hS h11 h30 HFR hq11 hoff LD T0 HH2 hn30
    have K2 : Hid (Mb w [(a30, n2, f2), (a2, n2, f2), (a3, n3, f3)] [(q11, 27, X), (q6, 26, x)] (y.setRow q11 (tab 32 fun i => bv (X i)))) := Lib.hid (K1.out.1.set K1.out.2.1 (by have := HQ6.out; have := K1.out.2.2.1; omega) (fun p hp => by
      have e : p = (q6, 26, x) := by simpa using hp
      rw [e]; have := K1.out.2.2.1; show q6 ≠ q11; omega) K1.out.2.2.2)
    refine wpTree_one (o := ⟨none, .store 27 (.tmp 11) (.tmp 32), 0, "law.go:74", _, none⟩) rfl (by rfl) fun J hJ => ?_
    refine wp_store_row 27 (.tmp 11) (.tmp 32) rfl q11 (tab 32 fun j => bv (X j)) rfl rfl 27 (tab 32 fun _ => bv 0#8) K1.out.2.1 (infH _) (by rw [tab_size, tab_size]) (one_bv _ _) ?_
    refine hJ _ _ ⟨fun r hr => K2.out.hs r (List.mem_cons_of_mem _ hr), fun p hp => K2.out.ts p (List.mem_cons_of_mem _ hp), K2.out.below⟩ ?_
    clear hJ J K1
    generalize y.setRow q11 (tab 32 fun j => bv (X j)) = y2 at *
    try simp only [Act.put, List.setIfInBounds_toArray, List.set_cons_zero, List.set_cons_succ]
    refine wpTree_one rfl (by rfl) fun J hJ => ?_
    go_simp
    refine hJ _ _ ⟨fun r hr => K2.out.hs r (List.mem_cons_of_mem _ hr), fun p hp => K2.out.ts p (List.mem_cons_of_mem _ hp), K2.out.below⟩ ?_
    clear hJ J
    try simp only [Act.put, List.setIfInBounds_toArray, List.set_cons_zero, List.set_cons_succ]
    refine wpTree_done (NoPanic.normal ?_)
    have D6 := Lib.hid (K2.out.loadR (q := q6) (x := x) (by simp))
    go_upto_region 3 with (first
      | ((with_reducible refine wpList_loadE (P := Tryd.prog) (w := y2) (ty := 26) (x := .tmp 6) (p := .pointer (some ⟨q6, 0, none⟩)) (v := dv x) ?_ ?_ ?_ D6.out ?_); (· exact rfl); (· exact rfl); (· exact rfl))
      | (go_at_call 20; (with_reducible refine (HF2.out _ (K2.out.at (by simp))).mono ?_); rintro e y3 ⟨rfl, hb⟩; have K3 := Lib.hid (K2.out.next hb); clear hb)
      | ((with_reducible refine wpList_store_row (P := Tryd.prog) (w := y3.alloc (.cells zh 26)) ?_ 26 (.tmp 13) (.tmp 39) ?_ y3.heap.size (tab 32 fun i => bv (X i)) ?_ ?_ 26 zh (heap_alloc_last y3 _) (inf26 _) ?_ (one_bv _ _) ?_); (· exact rfl); (· exact rfl); (· exact rfl); (· exact rfl); (· rw [HZL.out, tab_size]); rw [World.setRow_alloc_new]; simp only [Act.put]))
    have K4 := Lib.hid (K3.out.add 26 X)
    clear K2 K3 D6 HF2
    generalize y3.alloc (.cells (tab 32 fun i => bv (X i)) 26) = y4 at *
    generalize y3.heap.size = q13 at *
    have HF := Lib.hid (fixed5 y4 (ktab_below HT.out K4.out.below))
    go_upto_region 5 with (first
      | (go_at_call 10; (with_reducible refine HF.out.mono ?_); rintro e y5 ⟨rfl, hb⟩; have K5 := Lib.hid (K4.out.next hb); have D11 := Lib.hid (K5.out.loadH (q := q11) (x := X) (by simp)); have D13 := Lib.hid (K5.out.loadR (q := q13) (x := X) (by simp)); have HN5 := Lib.hid (number_any E HE3.out y5 (keep1 (by have h9 := K5.out.below; exact h9) HG.out)); clear hb)
      | ((with_reducible refine wpList_loadG (P := Tryd.prog) (w := y5) (ty := 27) (x := .tmp 11) (p := .pointer (some ⟨q11, 0, none⟩)) (v := dv X) ?_ ?_ ?_ D11.out ?_); rotate_left; (· exact rfl); (· exact rfl); rotate_left; (· go_simp))
      | ((with_reducible refine wpList_loadG (P := Tryd.prog) (w := y5) (ty := 26) (x := .tmp 13) (p := .pointer (some ⟨q13, 0, none⟩)) (v := dv X) ?_ ?_ ?_ D13.out ?_); rotate_left; (· exact rfl); (· exact rfl); rotate_left; (· go_simp))
      | ((with_reducible refine wpList_neqG (w := y5) ?_ (.tmp 44) (.tmp 45) 27 X ?_ ?_ ?_ ?_); rotate_left; (· exact rfl); (· exact rfl); (· exact rfl); rotate_left; (· go_simp))
      | (go_at_call 17; (with_reducible refine HN5.out.mono ?_); rintro e y6 ⟨rfl, hb⟩; have K6 := Lib.hid (K5.out.next hb); clear hb))
    clear HF HN5 D11 D13 K4 K5
    obtain ⟨D, hD0, hDb⟩ := u64_mod d 7 (by decide)
    have hDn : (D : Int) ≤ 6 := by omega
    go_upto_region 6 with (fail)
    clear hD0 hDb
    have hp : (2 : Int) ^ D ≤ 64 := by have := p2_nat D 6 (by omega); simpa using this
    have hp0 := p2_pos D
    obtain ⟨N, hN⟩ : ∃ N : Nat, N = min n3 (2 ^ D) := ⟨_, rfl⟩
    have hpe : ((2 ^ D : Nat) : Int) = (2 : Int) ^ D := by rw [Int.natCast_pow]; rfl
    have hpn : ((2 : Int) ^ D).toNat = 2 ^ D := by omega
    have HNN : Hid (N ≤ n3 ∧ N ≤ 2 ^ D ∧ N ≤ 64 ∧ N ≤ c3 ∧ D ≤ 6) := Lib.hid (by omega)
    have HPE := Lib.hid (And.intro hpe hpn)
    clear hpe hpn
    obtain ⟨I, hI, hIb⟩ := u64_mod i (2 ^ D) hp0
    have HIB : Hid (I < 2 ^ D ∧ I < 64) := Lib.hid (by have := HPE.out; omega)
    have hIb2 : (I : Int) < 64 := by have := HIB.out; omega
    clear hIb
    have HI5 := Lib.hid hI
    clear hI
    have K7 : Hid (Mb w [(a3, N, f3)] [(q6, 26, x)] y6 ∧ (a3 = none → N = 0 ∧ c3 = 0)) := Lib.hid ⟨⟨fun r hr => by
      have e : r = (a3, N, f3) := by simpa using hr
      rw [e]
      exact (K6.out.hs (a3, n3, f3) (by simp)).less HNN.out.1, fun p hp => by
      have e : p = (q6, 26, x) := by simpa using hp
      rw [e]
      exact K6.out.ts _ (by simp), K6.out.below⟩, fun e => by have := hnil3 e; have := HNN.out; omega⟩
    clear K6 hnil3 HE3
    have hcI : (c3 : Int) ≤ 4398046511104 := by omega
    have hnI : (n3 : Int) ≤ (c3 : Int) := by omega
    by_cases hgt : (2 : Int) ^ D < (n3 : Int)
    case' pos =>
      have hNe : ((2 : Int) ^ D).toNat = N := by rw [HPE.out.2, hN]; have := HPE.out.1; omega
      have HNE := Lib.hid hNe
      clear hNe hN
      go_upto_region 8 with (fail)
      rw [HNE.out]
      clear hgt HNE
      have hI := HI5.out
      go_upto_region 9 with (fail)
      clear hI
    case' neg =>
      have hNe : n3 = N := by rw [hN]; have := HPE.out.1; omega
      have HNE := Lib.hid hNe
      clear hNe hN
      go_upto_region 8 with (fail)
      rw [show Value.slice a3 n3 c3 = Value.slice a3 N c3 from by rw [← HNE.out]]
      clear hgt HNE
      have hI := HI5.out
      go_upto_region 9 with (fail)
      clear hI
    all_goals
      clear HI5 hnI hn3 hnc3 hc3 hd hi
      have hsh := fun u (hu : IsHs u a3 N f3) => hashes_walk a3 N c3 f3 u hu HNN.out.2.2.2.1 (by have := HNN.out.2.2.1; omega)
      have HSH := Lib.hid hsh
      clear hsh
      obtain ⟨g, hg⟩ : ∃ g, ext N f3 = g := ⟨_, rfl⟩
      obtain ⟨hwp, hpl⟩ := wrongP_in (D := D) (N := N) (I := I) (by have := HNN.out; omega) HNN.out.2.1 HIB.out.1
      have hpa := fun u a9 c9 (hu : IsHs u a9 N f3) (hn : a9 = none → N = 0 ∧ c9 = 0) (hc : N ≤ c9) (hk : Laid.KTab u) => path_any (D : Int) a9 N c9 f3 (I : Int) u hu hn hc (by have := HNN.out.2.2.1; omega) hk
      rw [hwp, hpl, err0, Int.toNat_natCast, hg] at hpa
      have HPA := Lib.hid hpa
      have hra := fun u a9 c9 (hu : IsHs u a9 N f3) (hn : a9 = none → N = 0 ∧ c9 = 0) (hc : N ≤ c9) (hk : Laid.KTab u) => root_any (D : Int) a9 N c9 f3 u hu hn hc (by have := HNN.out.2.2.1; omega) hk
      rw [wrong_in (by have := HNN.out; omega) HNN.out.2.1, rootOf_in (by have := HNN.out; omega) HNN.out.2.1, err0, hg] at hra
      have HRA := Lib.hid hra
      have HGG := Lib.hid hg
      clear hwp hpl hpa hra hg
      go_upto_region 10 with (first
        | (go_at_call 7; (with_reducible refine (HSH.out _ (K7.out.1.at (by simp))).mono ?_); rintro e y7 ⟨V9, rfl, hrow, hb⟩; obtain ⟨a9, c9, rfl, h91, h92, h93, _, _⟩ := hs_of hrow; have K8 := Lib.hid (Mb.row (K7.out.1.next hb) h91); have HC9 := Lib.hid (And.intro h92 h93); clear hrow hb h91 h92 h93)
        | (go_at_call 12; (with_reducible refine (HPA.out _ _ _ (K8.out.at (by simp)) HC9.out.1 HC9.out.2 (ktab_below HT.out K8.out.below)).mono ?_); rintro e y8 ⟨V15, rfl, hrow, hb⟩; obtain ⟨a15, c15, rfl, h15, _, h153, _, _⟩ := hs_of hrow; have K9 := Lib.hid (Mb.row (K8.out.next hb) h15); have HC15 := Lib.hid h153; clear hrow hb h15 h153))
      have HNIL := Lib.hid K7.out.2
      clear HPA K7 K8
      have bld0 : ∀ u : World, (Instr.buildSlice 22 0 #[]).run Tryd.prog u = .ok (.slice (some ⟨u.heap.size, 0, none⟩) 0 0) (u.alloc (.cells #[] 26)) := fun u => by kernel_rfl
      have BL0 : Hid (Below y8.heap.size y8 (y8.alloc (.cells #[] 26))) := Lib.hid ((Below.refl _ _).alloc (Nat.le_refl _) _)
      have OW0 := Lib.hid (owns_none y8 26 32)
      have SRC := Lib.hid (src_hs (c := c3) ((K9.out.at (a := a3) (n := N) (f := f3) (by simp)).below BL0.out) HNIL.out)
      have H32 : Hid (0 < 32) := Lib.hid (by decide)
      have HL1 : Hid (0 + N ≤ maxLen ∧ (0 + N) * 32 ≤ 140737488355328) := Lib.hid (by have := HNN.out; unfold maxLen; omega)
      obtain ⟨j0, hj0, hj1, hj2, hj3⟩ := infRs
      have HJ := Lib.hid (And.intro hj0 (And.intro hj1 (And.intro hj2 hj3)))
      clear hj0 hj1 hj2 hj3
      go_upto_region 11 with (first
        | (at_builtin; (with_reducible refine wpList_append_any (P := Tryd.prog) (w := y8.alloc (.cells #[] 26)) ?_ (.tmp 82) (.tmp 83) 22 ?_ y8.heap.size 26 j0 (dv fun _ => 0#8) 32 32 undRs HJ.out zcells H32.out (.slice (some ⟨y8.heap.size, 0, none⟩) 0 0) 0 [] ?_ OW0.out a3 N c3 (flat N f3) ?_ SRC.out (flat_one _ _) HL1.out.1 HL1.out.2 BL0.out.size ?_); (· exact rfl); (· exact rfl); (· exact rfl); (· exact rfl); intro V7 w7 hown7 hgr7 hat7; have BL1 := Lib.hid (And.intro (grown_below BL0.out OW0.out hgr7) hown7); clear hown7 hgr7 hat7))
      have HL : Hid (Me w y8.heap.size [(a15, D, sib g I), (a9, N, f3), (a3, N, f3)] [(q6, 26, x)] N g V7 w7) := Lib.hid (Me.start K9.out BL1.out.1 (by
        have h := BL1.out.2
        rw [List.nil_append, Nat.zero_add] at h
        rw [show flat N g = flat N f3 from flat_cong fun j hj => by rw [← HGG.out]; exact ext_in f3 hj]
        exact h))
      clear bld0 BL0 OW0 SRC HL1 BL1 K9
      obtain ⟨a16, c16, rfl, _, _, h161, h162, _⟩ := hs_of HL.out.row
      have hz := HZ.out
      subst hz
      go_loopw [16] (fun tv y => ∃ (M : Nat) (a' : Option Addr) (c' : Nat), N ≤ M ∧ M ≤ 64 ∧ Hid (M ≤ 2 ^ D) ∧ M ≤ c' ∧ c' ≤ maxLen ∧ tv = .slice a' M c' ∧ Hid (Me w y8.heap.size [(a15, D, sib g I), (a9, N, f3), (a3, N, f3)] [(q6, 26, x)] M g (.slice a' M c') y)) (fun tv _ => I + 1 - slLen tv)
      case atStart => exact ⟨N, a16, c16, Nat.le_refl _, HNN.out.2.2.1, Lib.hid HNN.out.2.1, h161, h162, rfl, HL⟩
      case round =>
        obtain ⟨M, a', c', hNM, hM5, HMD, hMc, hcm, rfl, hp⟩ := hrel
        clear HL
        unfold maxLen at hcm
        by_cases hlt : (M : Int) ≤ (I : Int)
        · have HBD := Lib.hid (buildR (fun _ => 0#8) wr)
          have HSR := Lib.hid (src1R wr (fun _ => 0#8))
          have HOW := Lib.hid (hp.out.row.alloc (.cells (tab 32 fun j => bv 0#8) 26))
          have HBS : Hid (y8.heap.size ≤ (wr.alloc (.cells (tab 32 fun j => bv 0#8) 26)).heap.size) := Lib.hid (by have := hp.out.big; simp; omega)
          have hlb : Hid (M + 1 ≤ maxLen ∧ (M + 1) * 32 ≤ 140737488355328) := Lib.hid ⟨by unfold maxLen; omega, by omega⟩
          have hM6 : M + 1 ≤ 64 := by omega
          go_upto_region 13 with (first
            | ((with_reducible refine wpList_build1 (P := Tryd.prog) (w := wr) (t := 22) (x := .tmp 90) (p := dv (fun _ => 0#8)) (v := .slice (some ⟨wr.heap.size, 0, none⟩) 1 1) (w' := wr.alloc (.cells (tab 32 fun j => bv 0#8) 26)) ?_ ?_ ?_ HBD.out ?_); (· exact rfl); (· exact rfl); (· exact rfl))
            | (at_builtin; (with_reducible refine wpList_append_any (P := Tryd.prog) (w := wr.alloc (.cells (tab 32 fun j => bv 0#8) 26)) ?_ (.tmp 89) (.tmp 91) 22 ?_ y8.heap.size 26 j0 (dv fun _ => 0#8) 32 32 undRs HJ.out zcells H32.out (.slice a' M c') M (flat M g) ?_ HOW.out (some ⟨wr.heap.size, 0, none⟩) 1 1 (flat 1 fun _ => (fun _ => 0#8)) ?_ HSR.out (flat_one _ _) hlb.out.1 hlb.out.2 HBS.out ?_); (· exact rfl); (· exact rfl); (· exact rfl); (· exact rfl); intro V7 w8 hown7 hgr7 hat7))
          have hown : w8.ownsRow y8.heap.size 26 32 V7 (M + 1) (flat (M + 1) g) := by
            have e : flat M g ++ flat 1 (fun _ => (fun _ => 0#8 : Hx)) = flat (M + 1) g := by
              have h1 := flat_step M g
              rw [show g M = zero 0 from by rw [← HGG.out]; exact ext_out N f3 M hNM] at h1
              exact h1
            rw [e] at hown7
            exact hown7
          have hpa := hp.out.next (y' := wr.alloc (.cells (tab 32 fun j => bv 0#8) 26)) ((Below.refl _ _).alloc (Nat.le_refl _) _)
          have HG2 := Lib.hid (hpa.grown hown hgr7 hat7)
          obtain ⟨a2', c2', rfl, _, _, hc21, hc22, _⟩ := hs_of hown
          clear hown hpa hown7 hgr7 hat7 HBD HSR HOW HBS hlb
          go_roundw
          case rel => exact ⟨M + 1, by omega, by omega, Lib.hid (by have := HIB.out.1; omega), a2', c2', hc21, hc22, rfl, HG2⟩
          case measure => simp [slLen]; omega
        · go_upto_region 13 with (fail)
          have hIM : I < M := by omega
          have HIM := Lib.hid hIM
          obtain ⟨b9, hb9, T9, hlv9⟩ : ∃ b9, a' = some ⟨b9, 0, none⟩ ∧ ∃ T, Lv wr b9 T M g := by
            obtain ⟨a, c, e1, _, _, e2⟩ := lv_of_row hp.out.row
            injection e1 with e3 e4 e5
            rcases e2 with ⟨e6, _⟩ | ⟨q, e6, e7, e8, e9⟩
            · exfalso; omega
            · exact ⟨q, by rw [e3]; exact e6, _, e9⟩
          subst hb9
          have DA := Lib.hid (loadR hlv9.at5 (k := I) (p := I * 32) hIM (by omega))
          clear hlv9
          go_upto_region 14 with (first
            | ((with_reducible refine wpList_loadE (P := Tryd.prog) (w := wr) (ty := 26) (x := .tmp 95) (p := .pointer (some ⟨b9, I * 32, none⟩)) (v := dv (g I)) ?_ ?_ ?_ DA.out ?_); (· exact rfl); (· exact rfl); (· exact rfl))
            | ((with_reducible refine wpList_store_row (P := Tryd.prog) (w := wr.alloc (.cells (tab 32 fun _ => bv 0#8) 26)) ?_ 26 (.tmp 17) (.tmp 96) ?_ wr.heap.size (tab 32 fun i => bv ((g I) i)) ?_ ?_ 26 (tab 32 fun _ => bv 0#8) (heap_alloc_last wr _) (inf26 _) ?_ (one_bv _ _) ?_); (· exact rfl); (· exact rfl); (· exact rfl); (· exact rfl); (· rw [tab_size, tab_size]); rw [World.setRow_alloc_new]; simp only [Act.put]))
          have H9 := Lib.hid (hp.out.add 26 (g I))
          clear DA hp
          generalize wr.alloc (.cells (tab 32 fun i => bv ((g I) i)) 26) = y9 at *
          generalize wr.heap.size = q17 at *
          have D6 := Lib.hid (H9.out.mb.loadR (q := q6) (x := x) (by simp))
          obtain ⟨T, hlv⟩ : ∃ T, Lv y9 b9 T M g := by
            obtain ⟨a, c, e1, _, _, e2⟩ := lv_of_row H9.out.row
            injection e1 with e3 e4 e5
            rcases e2 with ⟨e6, _⟩ | ⟨q, e6, e7, e8, e9⟩
            · exfalso; omega
            · rw [← e3] at e6
              injection e6 with e6
              injection e6 with e6
              exact ⟨_, by rw [e6]; exact e9⟩
          have HST := Lib.hid (H9.out.stored hlv (I := I) (z := x) (o := I * 32) (by omega))
          have HTH := Lib.hid (hlv.there (k := I) (p := I * 32) hIM (by omega) rfl)
          clear hlv
          go_upto_region 15 with (first
            | ((with_reducible refine wpList_loadE (P := Tryd.prog) (w := y9) (ty := 26) (x := .tmp 6) (p := .pointer (some ⟨q6, 0, none⟩)) (v := dv x) ?_ ?_ ?_ D6.out ?_); (· exact rfl); (· exact rfl); (· exact rfl))
            | ((with_reducible refine wpList_store_mid (P := Tryd.prog) (w := y9) (ty := 26) (x := .tmp 100) (y := .tmp 99) (b := b9) (o := I * 32) (cells := tab 32 fun i => bv (x i)) ?_ ?_ ?_ ?_ ?_ (inf26 _) (one_bv _ _) ?_); (· exact rfl); (· exact rfl); (· exact rfl); (· exact rfl); (· rw [tab_size]; exact HTH.out)))
          clear HTH D6 H9
          generalize y9.setCells b9 (I * 32) (tab 32 fun i => bv (x i)).toList = y10 at *
          obtain ⟨r, hr⟩ : ∃ r, und g D 0 = r := ⟨_, rfl⟩
          obtain ⟨t, ht⟩ : ∃ t, und (put g I x) D 0 = t := ⟨_, rfl⟩
          have hfo := fun u z (hu : IsHs u a15 D (sib g I)) (hk : Laid.KTab u) => fold_ok I z a15 D c15 (sib g I) u hu HC15.out (by have := HNN.out; omega) HIB.out.1 hk
          have hf1 := fun u (hu : IsHs u a15 D (sib g I)) (hk : Laid.KTab u) => hfo u (g I) hu hk
          have hf2 := fun u (hu : IsHs u a15 D (sib g I)) (hk : Laid.KTab u) => hfo u x hu hk
          rw [fold_own HIB.out.1 (fun _ _ => rfl), hr] at hf1
          rw [fold_other x HIB.out.1 (fun _ _ => rfl), ht] at hf2
          rw [hr] at HRA
          have HF1 := Lib.hid hf1
          have HF2 := Lib.hid hf2
          have hrb := fun u a9 c9 (hu : IsHs u a9 M (put g I x)) (hn : a9 = none → M = 0 ∧ c9 = 0) (hc : M ≤ c9) (hk : Laid.KTab u) => root_any (D : Int) a9 M c9 (put g I x) u hu hn hc (by omega) hk
          have hex : ext M (put g I x) = put g I x := by rw [← HGG.out]; exact ext_put hNM hIM
          rw [wrong_in (by have := HNN.out; omega) HMD.out, rootOf_in (by have := HNN.out; omega) HMD.out, err0, hex, ht] at hrb
          have HRB := Lib.hid hrb
          have hsh2 := fun u b (hu : IsHs u b M (put g I x)) => hashes_walk b M c' (put g I x) u hu hMc (by omega)
          have HSH2 := Lib.hid hsh2
          clear hfo hf1 hf2 hr ht hrb hex hsh2
          generalize g I = z at *
          have D17 := Lib.hid (HST.out.loadR (q := q17) (x := z) (by simp))
          go_upto_region 16 with (first
            | ((with_reducible refine wpList_loadE (P := Tryd.prog) (w := y10) (ty := 26) (x := .tmp 17) (p := .pointer (some ⟨q17, 0, none⟩)) (v := dv z) ?_ ?_ ?_ D17.out ?_); (· exact rfl); (· exact rfl); (· exact rfl))
            | (go_at_call 13; (with_reducible refine (HF1.out _ (HST.out.at (by simp)) (ktab_below HT.out HST.out.below)).mono ?_); rintro e y11 ⟨rfl, hb⟩; have K11 := Lib.hid (HST.out.next hb); clear hb)
            | ((with_reducible refine wpList_store_row (P := Tryd.prog) (w := y11.alloc (.cells (tab 32 fun _ => bv 0#8) 27)) ?_ 27 (.tmp 18) (.tmp 106) ?_ y11.heap.size (tab 32 fun i => bv (r i)) ?_ ?_ 27 (tab 32 fun _ => bv 0#8) (heap_alloc_last y11 _) (infH _) ?_ (one_bv _ _) ?_); (· exact rfl); (· exact rfl); (· exact rfl); (· exact rfl); (· rw [tab_size, tab_size]); rw [World.setRow_alloc_new]; simp only [Act.put]))
          have K12 := Lib.hid (K11.out.add 27 r)
          clear K11 D17 HF1 HST
          generalize y11.alloc (.cells (tab 32 fun i => bv (r i)) 27) = y12 at *
          generalize y11.heap.size = q18 at *
          have D6 := Lib.hid (K12.out.loadR (q := q6) (x := x) (by simp))
          go_upto_region 17 with (first
            | ((with_reducible refine wpList_loadE (P := Tryd.prog) (w := y12) (ty := 26) (x := .tmp 6) (p := .pointer (some ⟨q6, 0, none⟩)) (v := dv x) ?_ ?_ ?_ D6.out ?_); (· exact rfl); (· exact rfl); (· exact rfl))
            | (go_at_call 13; (with_reducible refine (HF2.out _ (K12.out.at (by simp)) (ktab_below HT.out K12.out.below)).mono ?_); rintro e y13 ⟨rfl, hb⟩; have K13 := Lib.hid (K12.out.next hb); clear hb)
            | ((with_reducible refine wpList_store_row (P := Tryd.prog) (w := y13.alloc (.cells (tab 32 fun _ => bv 0#8) 27)) ?_ 27 (.tmp 20) (.tmp 113) ?_ y13.heap.size (tab 32 fun i => bv (t i)) ?_ ?_ 27 (tab 32 fun _ => bv 0#8) (heap_alloc_last y13 _) (infH _) ?_ (one_bv _ _) ?_); (· exact rfl); (· exact rfl); (· exact rfl); (· exact rfl); (· rw [tab_size, tab_size]); rw [World.setRow_alloc_new]; simp only [Act.put]))
          have K14 := Lib.hid (K13.out.add 27 t)
          clear K12 K13 D6 HF2
          generalize y13.alloc (.cells (tab 32 fun i => bv (t i)) 27) = y14 at *
          generalize y13.heap.size = q20 at *
          go_upto_region 18 with (first
            | (go_at_call 7; (with_reducible refine (HSH.out _ (K14.out.at (by simp))).mono ?_); rintro e y15 ⟨V22, rfl, hrow, hb⟩; obtain ⟨a22, c22, rfl, h91, h92, h93, _, _⟩ := hs_of hrow; have K15 := Lib.hid (And.intro (Mb.row (K14.out.next hb) h91) (And.intro h92 h93)); clear hrow hb h91 h92 h93)
            | (go_at_call 8; (with_reducible refine (HRA.out _ _ _ (K15.out.1.at (by simp)) K15.out.2.1 K15.out.2.2 (ktab_below HT.out K15.out.1.below)).mono ?_); rintro e y16 ⟨rfl, hb⟩; have K16 := Lib.hid (K15.out.1.next hb); clear hb)
            | ((with_reducible refine wpList_store_row (P := Tryd.prog) (w := y16.alloc (.cells (tab 32 fun _ => bv 0#8) 27)) ?_ 27 (.tmp 22) (.tmp 120) ?_ y16.heap.size (tab 32 fun i => bv (r i)) ?_ ?_ 27 (tab 32 fun _ => bv 0#8) (heap_alloc_last y16 _) (infH _) ?_ (one_bv _ _) ?_); (· exact rfl); (· exact rfl); (· exact rfl); (· exact rfl); (· rw [tab_size, tab_size]); rw [World.setRow_alloc_new]; simp only [Act.put]))
          have K17 := Lib.hid (K16.out.add 27 r)
          clear K14 K15 K16 HSH HRA
          generalize y16.alloc (.cells (tab 32 fun i => bv (r i)) 27) = y17 at *
          generalize y16.heap.size = q22 at *
          go_upto_region 19 with (first
            | (go_at_call 7; (with_reducible refine (HSH2.out _ _ (K17.out.at (by simp))).mono ?_); rintro e y18 ⟨V24, rfl, hrow, hb⟩; obtain ⟨a24, c24, rfl, h91, h92, h93, _, _⟩ := hs_of hrow; have K18 := Lib.hid (And.intro (Mb.row (K17.out.next hb) h91) (And.intro h92 h93)); clear hrow hb h91 h92 h93)
            | (go_at_call 8; (with_reducible refine (HRB.out _ _ _ (K18.out.1.at (by simp)) K18.out.2.1 K18.out.2.2 (ktab_below HT.out K18.out.1.below)).mono ?_); rintro e y19 ⟨rfl, hb⟩; have K19 := Lib.hid (K18.out.1.next hb); clear hb)
            | ((with_reducible refine wpList_store_row (P := Tryd.prog) (w := y19.alloc (.cells (tab 32 fun _ => bv 0#8) 27)) ?_ 27 (.tmp 24) (.tmp 127) ?_ y19.heap.size (tab 32 fun i => bv (t i)) ?_ ?_ 27 (tab 32 fun _ => bv 0#8) (heap_alloc_last y19 _) (infH _) ?_ (one_bv _ _) ?_); (· exact rfl); (· exact rfl); (· exact rfl); (· exact rfl); (· rw [tab_size, tab_size]); rw [World.setRow_alloc_new]; simp only [Act.put]))
          have K20 := Lib.hid (K19.out.add 27 t)
          clear K17 K18 K19 HSH2 HRB
          generalize y19.alloc (.cells (tab 32 fun i => bv (t i)) 27) = y20 at *
          generalize y19.heap.size = q24 at *
          have E18 := Lib.hid (K20.out.loadH (q := q18) (x := r) (by simp))
          have E20 := Lib.hid (K20.out.loadH (q := q20) (x := t) (by simp))
          have E22 := Lib.hid (K20.out.loadH (q := q22) (x := r) (by simp))
          have E24 := Lib.hid (K20.out.loadH (q := q24) (x := t) (by simp))
          go_wp2_with (first
            | ((with_reducible refine wpList_loadG (P := Tryd.prog) (w := y20) (ty := 27) (x := .tmp 18) (p := .pointer (some ⟨q18, 0, none⟩)) (v := dv r) ?_ ?_ ?_ E18.out ?_); rotate_left; (· exact rfl); (· exact rfl); rotate_left; (· go_simp))
            | ((with_reducible refine wpList_loadG (P := Tryd.prog) (w := y20) (ty := 27) (x := .tmp 20) (p := .pointer (some ⟨q20, 0, none⟩)) (v := dv t) ?_ ?_ ?_ E20.out ?_); rotate_left; (· exact rfl); (· exact rfl); rotate_left; (· go_simp))
            | ((with_reducible refine wpList_loadG (P := Tryd.prog) (w := y20) (ty := 27) (x := .tmp 22) (p := .pointer (some ⟨q22, 0, none⟩)) (v := dv r) ?_ ?_ ?_ E22.out ?_); rotate_left; (· exact rfl); (· exact rfl); rotate_left; (· go_simp))
            | ((with_reducible refine wpList_loadG (P := Tryd.prog) (w := y20) (ty := 27) (x := .tmp 24) (p := .pointer (some ⟨q24, 0, none⟩)) (v := dv t) ?_ ?_ ?_ E24.out ?_); rotate_left; (· exact rfl); (· exact rfl); rotate_left; (· go_simp))
            | ((with_reducible refine wpList_eqG (w := y20) ?_ (.tmp 148) (.tmp 149) 27 r r ?_ ?_ ?_ ?_); rotate_left; (· exact rfl); (· exact rfl); (· exact rfl); rotate_left; (· go_simp); rw [same32_refl])
            | ((with_reducible refine wpList_eqG (w := y20) ?_ (.tmp 153) (.tmp 154) 27 t t ?_ ?_ ?_ ?_); rotate_left; (· exact rfl); (· exact rfl); (· exact rfl); rotate_left; (· go_simp); rw [same32_refl]))
          go_ret
          exact ⟨rfl, by have h := K20.out.below; exact h⟩
end Mk
theorem merkleFolds_walk {w : World} (a0 : Int) (x1 : Mk.Hx) (a2 : Option Addr) (len2 cap2 : Nat) (f2 : Nat → Mk.Hx) (a3 : Option Addr) (len3 cap3 : Nat) (f3 : Nat → Mk.Hx) (a4 : Int) (w0 : (Lit.int .i64 a0).wf = true) (w2 : Mk.IsHs w a2 len2 f2) (n2 : a2 = none → len2 = 0 ∧ cap2 = 0) (l2 : len2 ≤ cap2) (s2 : cap2 * 32 ≤ 140737488351232) (w3 : Mk.IsHs w a3 len3 f3) (n3 : a3 = none → len3 = 0 ∧ cap3 = 0) (l3 : len3 ≤ cap3) (s3 : cap3 * 32 ≤ 140737488351232) (w4 : (Lit.int .i64 a4).wf = true)
    (hg : w.cell? ⟨0, 0, none⟩ = some (.iface 82 (.agg #[.pointer (some ⟨2, 29, none⟩)]))) (ht : Laid.KTab w) :
    Calls Tryd.prog 6 #[.int .i64 a0, Mk.dv x1, .slice a2 len2 cap2, .slice a3 len3 cap3, .int .i64 a4] w fun e w' => e = .returned (.bool true) ∧ Below w.heap.size w w' :=
  Mk.folds_walk a0 x1 a2 len2 cap2 f2 a3 len3 cap3 f3 a4 w w2 l2 (by omega) w3 n3 l3 (by omega) (by omega) (by have := bounds_i64 w4; omega) (by have := bounds_i64 w0; omega) hg ht
end Go.Proofs.YtnfcjangminhoaaDoor
