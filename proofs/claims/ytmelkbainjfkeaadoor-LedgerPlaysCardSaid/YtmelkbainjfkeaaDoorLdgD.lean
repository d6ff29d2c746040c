/-
  Layer 18: the document's ledger: Do. Own work.
-/
import Derived.Test.YtmelkbainjfkeaaDoorLdgQ
import Derived.Test.YtmelkbainjfkeaaDoorLdg2
import Derived.RegionTactic
import Derived.Deep.RegionLaw
import Derived.Deep.Cut
namespace Go.Proofs.YtmelkbainjfkeaaDoor
open Go.RowKit
set_option linter.unusedVariables false
namespace Ev
def doN (L : LedS) (x : Ev) : Int := if x.k = 1 then (L.payIn x.p x.v).1 else if x.k = 2 then (L.payOut x.p x.v).1 else if x.k = 3 then (L.lockB x.p x.v).1 else (L.give x.b x.p).1
def doL (L : LedS) (x : Ev) : LedS := if x.k = 1 then (L.payIn x.p x.v).2 else if x.k = 2 then (L.payOut x.p x.v).2 else if x.k = 3 then (L.lockB x.p x.v).2 else (L.give x.b x.p).2
def doR (L : LedS) (x : Ev) : Int := if x.k = 3 then L.lockN x.p x.v else 0
def doX (L : LedS) (x : Ev) : Ev := if x.k = 4 then { x with v := (L.bonds[x.b.toNat]?.map Prod.fst).getD 0 } else x
def doE (L : LedS) (x : Ev) (l : List Ev) : List Ev := if doN L x = 0 then l ++ [doX L x] else l
theorem do_bad {L : LedS} {x : Ev} (h : x.p < 0 ∨ 8 ≤ x.p) : doN L x = 2 ∧ doR L x = 0 := by
  unfold doN doR LedS.lockN LedS.payIn LedS.payOut LedS.lockB LedS.give
  simp only [if_pos h]
  refine ⟨?_, ?_⟩
  · repeat' split
    all_goals rfl
  · split
    · rfl
    · rfl
theorem lockN_of {L : LedS} {p v : Int} (h : (L.lockB p v).1 ≠ 0) : L.lockN p v = 0 := if_neg h
theorem scan_len (b : Int) : ∀ (l : List Ev) (s : Nat × Int × Bool), (l.foldl (step b) s).1 ≤ s.1 + l.length
  | [], s => by simp
  | x :: t, s => by
    have := scan_len b t (step b s x)
    have h2 : (step b s x).1 ≤ s.1 + 1 := by unfold step; dsimp only; split <;> omega
    simp only [List.foldl, List.length_cons]; omega
theorem bonds_len {L : LedS} {l : List Ev} (r : Rel L l) : L.bonds.length ≤ l.length := by
  have h := r.scan 0
  have h2 := scan_len 0 l (0, 0, false)
  unfold scan at h
  rw [h] at h2
  simpa using h2
/-- The document's ledger in memory. -/
structure RefL (w : World) (tb : Nat) (l : List Ev) : Prop where
  row : ∃ V, w.cell? ⟨tb, 0, none⟩ = some V ∧ w.ownsRow (tb + 1) 46 4 V l.length (cells l)
  fz : w.frozen? ⟨tb, 0, none⟩ = false
/-- A world in the midst of Do: the ledger, and the event's own copy at q. -/
structure InDo (W : World) (tb q : Nat) (x : Ev) (l : List Ev) (V : Value) (y : World) : Prop where
  tc : y.cell? ⟨tb, 0, none⟩ = some V
  own : y.ownsRow (tb + 1) 46 4 V l.length (cells l)
  c0 : y.cell? ⟨q, 0, none⟩ = some (.int .i64 x.k)
  c1 : y.cell? ⟨q, 1, none⟩ = some (.int .i64 x.p)
  c2 : y.cell? ⟨q, 2, none⟩ = some (.int .i64 x.b)
  c3 : y.cell? ⟨q, 3, none⟩ = some (.int .u64 x.v)
  ft : y.frozen? ⟨tb, 0, none⟩ = false
  fq : ∀ o, y.frozen? ⟨q, o, none⟩ = false
  below : Below W.heap.size W y
  hq : W.heap.size ≤ q
  ht : tb < W.heap.size
  hv : ∀ k, V.ownBlock = some k → k < W.heap.size
theorem InDo.next {W : World} {tb q : Nat} {x : Ev} {l : List Ev} {V : Value} {y z : World} (h : InDo W tb q x l V y) (hb : Below y.heap.size y z) : InDo W tb q x l V z :=
  ⟨keep1 hb h.tc, (Kept.ofBelow (S := fun _ => False) hb).row h.own (fun _ _ hf => hf), keep1 hb h.c0, keep1 hb h.c1, keep1 hb h.c2, keep1 hb h.c3, keepF hb (inHeap h.tc) h.ft, fun o => keepF hb (inHeap h.c0) (h.fq o), bl h.below hb, h.hq, h.ht, h.hv⟩
theorem InDo.drew {W : World} {tb q : Nat} {x : Ev} {l : List Ev} {V : Value} {y : World} (h : InDo W tb q x l V y) : InDo W tb q x l V y.drew := h.next (Below.refl _ _).drew
theorem InDo.setV {W : World} {tb q : Nat} {x : Ev} {l : List Ev} {V : Value} {y : World} (h : InDo W tb q x l V y) (v : Int) : InDo W tb q { x with v := v } l V (y.setCell ⟨q, 3, none⟩ (.int .u64 v)) := by
  have hne : ∀ k, k < W.heap.size → k ≠ q := fun k hk e => by have := h.hq; omega
  have hc : ∀ k o, k ≠ q → (y.setCell ⟨q, 3, none⟩ (.int .u64 v)).cell? ⟨k, o, none⟩ = y.cell? ⟨k, o, none⟩ := fun k o hk => World.cell?_setCell_other _ _ _ _ (fun e => hk (congrArg Addr.block e).symm)
  have hd : ∀ o, o ≠ 3 → (y.setCell ⟨q, 3, none⟩ (.int .u64 v)).cell? ⟨q, o, none⟩ = y.cell? ⟨q, o, none⟩ := fun o ho => World.cell?_setCell_other _ _ _ _ (fun e => ho (congrArg Addr.off e).symm)
  refine ⟨(hc tb 0 (hne tb h.ht)).trans h.tc, ?_, (hd 0 (by omega)).trans h.c0, (hd 1 (by omega)).trans h.c1, (hd 2 (by omega)).trans h.c2, World.cell?_setCell_same _ _ _ h.c3, by simpa using h.ft, fun o => by simpa using h.fq o, h.below.setCell h.hq _, h.hq, h.ht, h.hv⟩
  exact (Kept.setCell (S := fun k => k = q) (p := ⟨q, 3, none⟩) (Kept.refl _ y) (.inl rfl) _).row h.own (fun k hk e => hne k (h.hv k hk) e)
theorem InDo.moves {W : World} {tb q : Nat} {x : Ev} {l : List Ev} {V : Value} {y : World} (h : InDo W tb q x l V y) (hV : W.cell? ⟨tb, 0, none⟩ = some V) : MovesS tb 0 W y := MovesS.ofBelow hV h.below
theorem InDo.refl' {W : World} {tb q : Nat} {x : Ev} {l : List Ev} {V : Value} {y : World} (h : InDo W tb q x l V y) : RefL y tb l := ⟨⟨V, h.tc, h.own⟩, h.ft⟩
theorem evInfo : (Tryd.prog.info? 46).map (fun i => (i.zero, i.size, i.bytes)) = some (some (.agg #[.int .i64 0, .int .i64 0, .int .i64 0, .int .u64 0]), 4, 32) := by kernel_rfl
theorem four_at {w : World} {n : Nat} (hn : n = w.heap.size) (a b c d : Value) (t : TypeId) : ∀ j u, [a, b, c, d][j]? = some u → (w.alloc (.cells #[a, b, c, d] t)).cell? ((⟨n, 0, none⟩ : Addr).add j) = some u := by
  subst hn
  intro j u hu
  have hj : j = 0 ∨ j = 1 ∨ j = 2 ∨ j = 3 := by
    have : j < 4 := by
      rcases Nat.lt_or_ge j 4 with h | h
      · exact h
      · rw [List.getElem?_eq_none (by simpa using h)] at hu; cases hu
    omega
  rw [add_at]
  rcases hj with rfl | rfl | rfl | rfl <;> simp at hu <;> subst hu <;> simp
/-- Behind the append: the ledger with one event more. -/
theorem InDo.app {W : World} {tb q : Nat} {x : Ev} {l : List Ev} {V V' : Value} {y w1 : World} {t : TypeId} (h : InDo W tb q x l V y) (hV : W.cell? ⟨tb, 0, none⟩ = some V)
    (hown : w1.ownsRow (tb + 1) 46 4 V' (l.length + 1) (cells l ++ [.int .i64 x.k, .int .i64 x.p, .int .i64 x.b, .int .u64 x.v]))
    (hg : (y.alloc (.cells #[.int .i64 x.k, .int .i64 x.p, .int .i64 x.b, .int .u64 x.v] t)).grownBy w1 V.ownBlock)
    (hw : ∀ k, V'.ownBlock = some k → V.ownBlock = some k ∨ k = (y.alloc (.cells #[.int .i64 x.k, .int .i64 x.p, .int .i64 x.b, .int .u64 x.v] t)).heap.size) :
    w1.cell? ⟨tb, 0, none⟩ = some V ∧ w1.frozen? ⟨tb, 0, none⟩ = false ∧ (w1.setCell ⟨tb, 0, none⟩ V').cell? ⟨q, 0, none⟩ = some (.int .i64 x.k) ∧ RefL (w1.setCell ⟨tb, 0, none⟩ V') tb (l ++ [x]) ∧ MovesS tb 0 W (w1.setCell ⟨tb, 0, none⟩ V') := by
  have hty : tb < y.heap.size := inHeap h.tc
  have hlt : tb < (y.alloc (.cells #[.int .i64 x.k, .int .i64 x.p, .int .i64 x.b, .int .u64 x.v] t)).heap.size := by simp; omega
  have hne : V.ownBlock ≠ some tb := fun e => by have := (h.own.lt tb e).1; omega
  have e1 : w1.cell? ⟨tb, 0, none⟩ = some V := (grown_cell hg hlt hne).trans ((World.cell?_alloc_lt _ _ _ hty).trans h.tc)
  have e2 : w1.frozen? ⟨tb, 0, none⟩ = false := (grown_frozen hg hlt hne).trans ((World.frozen?_alloc_old _ _ _ (by show tb ≠ _; omega)).trans h.ft)
  have e3 : (w1.setCell ⟨tb, 0, none⟩ V').cell? ⟨tb, 0, none⟩ = some V' := World.cell?_setCell_same _ _ _ e1
  have K : Kept (OwnS W tb 0) W w1 := ((Kept.ofBelow h.below).alloc _).grown hg (fun k hk => .inl (.inr ⟨V, hV, hk⟩))
  have hqy : q < y.heap.size := inHeap h.c0
  have hqt : tb ≠ q := by have := h.ht; have := h.hq; omega
  have e4 : (w1.setCell ⟨tb, 0, none⟩ V').cell? ⟨q, 0, none⟩ = some (.int .i64 x.k) := by
    rw [World.cell?_setCell_other _ _ _ _ (fun e => hqt (congrArg Addr.block e))]
    exact (grown_cell hg (by simp; omega) (fun e => by have := h.hv q e; have := h.hq; omega)).trans ((World.cell?_alloc_lt _ _ _ hqy).trans h.c0)
  refine ⟨e1, e2, e4, ⟨⟨V', e3, ?_⟩, by simpa using e2⟩, K.setCell (.inl (.inl rfl)) _, fun k hk => ?_⟩
  · rw [List.length_append, cells_app]; exact ownsRow_setCell_below hown (by simp) _
  · rcases hk with hk | ⟨V2, hV2, hk⟩
    · exact .inl (.inl hk)
    · rw [e3] at hV2; injection hV2 with e; subst e
      rcases hw k hk with h1 | h1
      · exact .inl (.inr ⟨V, hV, h1⟩)
      · refine .inr ?_
        have := h.below.size
        rw [h1]; simp; omega
end Ev
end Go.Proofs.YtmelkbainjfkeaaDoor
