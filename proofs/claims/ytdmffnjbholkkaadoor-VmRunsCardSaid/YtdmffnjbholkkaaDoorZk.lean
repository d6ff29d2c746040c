/- Merged. Own work. -/
import Derived.Test.YtdmffnjbholkkaaDoorZh
import Derived.Test.YtdmffnjbholkkaaDoorOz
namespace Go.Proofs.YtdmffnjbholkkaaDoor
open Go.RowKit
set_option linter.unusedVariables false
set_option linter.unusedSimpArgs false
set_option linter.unusedVariables false
set_option linter.unusedSimpArgs false
namespace Wt
open Kc Mk
def un (l : List Hx) : List (Hx × Unit) := l.map fun h => (h, ())
/-- Was it asked? -/
def asks (l : List Hx) (h : Hx) : Bool := has (un l) h
def askL (l : List Hx) (h : Hx) : List Hx := if asks l h then l else l ++ [h]
theorem seen_look {w : World} {T : Nat → Prop} {s kb pb : Nat} {S : Sto} {av : Value} {sv : Option Nat} (h : IsSto w T s kb S pb av sv) (k : Hx) :
    (Instr.lookup 115 (.map sv) (.agg (tab 32 fun i => bv (k i))) true).run Tryd.prog w = .ok (.tuple #[.agg #[], .bool (asks S.asked k)]) w := by
  rcases h.seen with ⟨h1, rfl⟩ | ⟨qb, rfl, _, _, h4⟩
  · rw [h1]
    exact nil_look w undMU (zeroU w) k
  · have := h4.look_ok undMU (zeroU w) k
    have e : ((look (S.asked.map fun h => (h, ())) k).map uv).getD (uv ()) = .agg #[] := by cases look (S.asked.map fun h => (h, ())) k <;> rfl
    rw [e] at this
    exact this
set_option maxHeartbeats 4000000 in
set_option maxRecDepth 100000 in
theorem ask_old (T : Nat → Prop) (s kb : Nat) (S : Sto) (pb : Nat) (av : Value) (sv : Option Nat) (h : Hx) (w : World) (ho : IsSto w T s kb S pb av sv) (ha : asks S.asked h = true) :
    Calls Tryd.prog 54 #[.pointer (some ⟨s, 0, none⟩), dv h] w fun e w' => e = .returned (.tuple #[]) ∧ Below w.heap.size w w' := by
  have HO := Lib.hid ho
  have HAS := Lib.hid ha
  clear ho ha
  unfold dv
  go_enter Tryd.func54, Tryd.ntmps54
  go_upto_region 1 with (fail)
  have H1 : Hid (IsTab (w.alloc (.cells (tab 32 fun i => bv (h i)) 39)).drew w.heap.size 39 32 (fun i => bv (h i)) ∧ Below w.heap.size w (w.alloc (.cells (tab 32 fun i => bv (h i)) 39)).drew ∧ (w.alloc (.cells (tab 32 fun i => bv (h i)) 39)).drew.heap.size = w.heap.size + 1) := Lib.hid ⟨(IsTab.new w _ 32 _).drew, ((Below.refl _ _).alloc (Nat.le_refl _) _).drew, by simp [World.drew]⟩
  have HO1 : Hid (IsSto (w.alloc (.cells (tab 32 fun i => bv (h i)) 39)).drew T s kb S pb av sv) := Lib.hid (HO.out.kept (kept_none H1.out.2.1) fun _ _ h => h)
  refine wp_region_og (fun y : World => Below (w.alloc (.cells (tab 32 fun i => bv (h i)) 39)).drew.heap.size (w.alloc (.cells (tab 32 fun i => bv (h i)) 39)).drew y) (.take 0 (.take 1 (.take 2 (.take 3 (.take 4 (.take 5 (.take 6 (.take 7 (.take 8 (.one 9 (.one 10 (.one 11 .done)))))))))))) (by kernel_rfl) (by kernel_rfl) (Below.refl _ _) ?_
  generalize (w.alloc (.cells (tab 32 fun i => bv (h i)) 39)).drew = y0 at *
  refine og_tk (some 7) (.pointer (some ⟨s, 0, none⟩)) rfl rfl (by go_simp) (fun _ _ => by simp [execOp, go_sem]) ?_
  simp only [Act.put, pS]
  refine og_tk (some 8) (.pointer (some ⟨s, 0, none⟩)) rfl rfl (by go_simp) (fun _ _ => by simp [execOp, go_sem]) ?_
  simp only [Act.put, pS]
  refine og_tk (some 9) (.pointer (some ⟨s, 2, none⟩)) rfl rfl (by go_simp) (fun _ _ => by simp [execOp, go_sem]) ?_
  simp only [Act.put, pS]
  refine og_ld (some 10) 115 (.tmp 9) (.pointer (some ⟨s, 2, none⟩)) (.map sv) rfl rfl (by go_simp) rfl rfl (fun y hy => by have h := keep1 hy HO1.out.box.k2; simp [Instr.loadAt, go_sem, h, Tryd.underlying115]) ?_
  simp only [Act.put, pS]
  refine og_ld (some 11) 39 (.tmp 3) (.pointer (some ⟨w.heap.size, 0, none⟩)) (.agg (tab 32 fun i => bv (h i))) rfl rfl (by go_simp) rfl rfl (fun y hy => loadHb (H1.out.1.below hy)) ?_
  simp only [Act.put, pS]
  refine og_tk (some 12) (.tuple #[.agg #[], .bool (asks S.asked h)]) rfl rfl (by go_simp) (fun y hy => by have h := seen_look (HO1.out.kept (Kept.ofBelow (S := fun _ => False) hy) fun _ _ h => h) h; simp [execOp, go_sem, h, Result.andThen]) ?_
  simp only [Act.put, pS]
  refine og_tk (some 6) (.tuple #[.agg #[], .bool (asks S.asked h)]) rfl rfl (by go_simp) (fun _ _ => by simp [execOp, go_sem]) ?_
  simp only [Act.put, pS]
  refine og_tk (some 13) (.agg #[]) rfl rfl (by go_simp) (fun _ _ => by simp [execOp, go_sem]) ?_
  simp only [Act.put, pS]
  refine og_tk (some 14) (.bool (asks S.asked h)) rfl rfl (by go_simp) (fun _ _ => by simp [execOp, go_sem]) ?_
  simp only [Act.put, pS]
  refine og_f rfl (by go_simp) fun K hK => ?_
  go_simp
  refine hK _ _ ((Below.refl _ _).alloc (Nat.le_refl _) (.cells #[] 169)) ?_
  clear hK K
  have HQ : Hid (Below y0.heap.size y0 (y0.alloc (.cells #[] 169)) ∧ w.heap.size ≤ y0.heap.size) := Lib.hid ⟨(Below.refl _ _).alloc (Nat.le_refl _) _, H1.out.2.1.size⟩
  generalize y0.alloc (.cells #[] 169) = y1 at *
  refine og_f rfl (by go_simp) fun K hK => ?_
  go_simp
  refine hK _ _ HQ.out.1 ?_
  clear hK K
  refine og_f rfl (by go_simp) fun K hK => ?_
  go_simp
  refine hK _ _ HQ.out.1 ?_
  clear hK K
  refine og_done (NoPanic.normal ?_)
  have HO2 := Lib.hid (HO1.out.kept (Kept.ofBelow (S := fun _ => False) HQ.out.1) fun _ _ h => h)
  rw [HAS.out]
  go_wp2_with (fail)
  exact bodyPost_ret (v := .tuple #[]) (by simp [results, Tryd.results54, go_sem]) rfl ⟨rfl, bl H1.out.2.1 HQ.out.1⟩
end Wt
end Go.Proofs.YtdmffnjbholkkaaDoor
namespace Go.Proofs.YtdmffnjbholkkaaDoor
open Go.RowKit
set_option linter.unusedVariables false
set_option linter.unusedSimpArgs false
section
variable {P : Program}
theorem wp_build1h {op : Oper} {a : Act} {w : World} {K : Act → World → Prop} {Q : Exit → Act → World → Prop} (t : TypeId) (x : Operand) (ho : op.op = .buildSlice t 1 #[(0, x)]) (p v : Value) (hx : a.eval x = p) (w' : World) (hl : (Instr.buildSlice t 1 #[(0, p)]).run P w = .ok v w')
    (h : K (a.put op.dst v) w') : op.wp P a w K Q := by
  unfold Oper.wp execOp
  simp only [ho, List.map_toArray, List.map_cons, List.map_nil, hx]
  simp [hl]
  exact h
end
namespace Wt
open Kc Mk
theorem undHa : Tryd.prog.underlying 56 = some (.slice 39) := by kernel_rfl
theorem zcellsH : (dv fun _ => 0#8).cells.size = 32 := by show (tab 32 _).size = 32; rw [tab_size]
theorem infHa : ∃ i, Tryd.prog.info? 39 = some i ∧ i.zero = some (dv fun _ => 0#8) ∧ i.size = 32 ∧ i.bytes = 32 :=
  ⟨(Tryd.prog.info? 39).get (by kernel_rfl), by kernel_rfl, by kernel_rfl, by kernel_rfl, by kernel_rfl⟩
theorem buildHa (x : Hx) (w : World) : (Instr.buildSlice 56 1 #[(0, .agg (tab 32 fun i => bv (x i)))]).run Tryd.prog w = .ok (.slice (some ⟨w.heap.size, 0, none⟩) 1 1) (w.alloc (.cells (tab 32 fun i => bv (x i)) 39)) := by kernel_rfl
theorem flat1h (x : Hx) : flat 1 (fun _ => x) = (tab 32 fun i => bv (x i)).toList := by
  unfold flat tab
  simp only [Nat.mul_one]
  exact List.map_congr_left fun i hi => by rw [Nat.mod_eq_of_lt (by simpa using hi)]
theorem src1h (w : World) (x : Hx) : ((some ⟨w.heap.size, 0, none⟩ : Option Addr) = none ∧ 1 = 0 ∧ 1 = 0 ∧ flat 1 (fun _ => x) = []) ∨ ∃ ad, (some ⟨w.heap.size, 0, none⟩ : Option Addr) = some ad ∧ (flat 1 fun _ => x).length = 1 * 32 ∧ ∀ j u, (flat 1 fun _ => x)[j]? = some u → (w.alloc (.cells (tab 32 fun i => bv (x i)) 39)).cell? (ad.add j) = some u :=
  .inr ⟨_, rfl, flat_len _ _, fun j u hu => by
    rw [flat1h] at hu
    rw [add_at, Nat.zero_add, cell_of_row _ _ _ _ _ _ (heap_alloc_last w _)]
    simpa using hu⟩
theorem eqMapN (w : World) : (binOp .eql 115 (.map none) (.map none)).run Tryd.prog w = .ok (.bool true) w := by kernel_rfl
theorem eqMapS (q : Nat) (w : World) : (binOp .eql 115 (.map (some q)) (.map none)).run Tryd.prog w = .ok (.bool false) w := by kernel_rfl
theorem own_slice {w : World} {base e size n : Nat} {v : Value} {xs : List Value} (h : w.ownsRow base e size v n xs) : ∃ a m c, v = .slice a m c := by
  rcases h.2 with ⟨rfl, _⟩ | ⟨g, cap, cur, rfl, _, hg, _⟩
  · exact ⟨_, _, _, rfl⟩
  · exact ⟨_, _, _, rfl⟩
theorem own_lt {w : World} {base e size n k : Nat} {v : Value} {xs : List Value} (h : w.ownsRow base e size v n xs) (hk : v.ownBlock = some k) : k < w.heap.size := by
  rcases h.2 with ⟨rfl, _⟩ | ⟨g, cap, cur, rfl, _, hg, _⟩
  · cases hk
  · cases hk; exact (Array.getElem?_eq_some_iff.1 hg).1
section
variable {w : World} {T : Nat → Prop} {s kb pb qb : Nat} {S : Sto} {av : Value}
theorem new_seen (h : IsSto w T s kb S pb av none) : IsSto ((w.alloc (.map #[] 0)).setCell ⟨s, 2, none⟩ (.map (some w.heap.size))) (fun k => T k ∨ k = w.heap.size) s kb S pb av (some w.heap.size) ∧ Kept (fun k => k = s) w ((w.alloc (.map #[] 0)).setCell ⟨s, 2, none⟩ (.map (some w.heap.size))) := by
  have hk1 : Kept (fun _ => False) w (w.alloc (.map #[] 0)) := (Kept.refl _ w).alloc _
  have h1 := h.kept hk1 (fun _ _ h => h)
  have hk2 : Kept (fun k => k = s) (w.alloc (.map #[] 0)) ((w.alloc (.map #[] 0)).setCell ⟨s, 2, none⟩ (.map (some w.heap.size))) := (Kept.refl (fun k => k = s) _).setCell (.inl rfl) _
  have hsl := h.box.lt
  have hpl := h.pres.lt
  have ha : S.asked = [] := by
    rcases h.seen with ⟨h1, _⟩ | ⟨qb, h1, _⟩
    · exact h1
    · cases h1
  refine ⟨⟨h1.box.p2 _, h1.pres.kept hk2 (fun e => map_ne h1.box h1.pres e.symm), hk2.row h1.row (fun k e => (h1.ta k e).2), .inr ⟨_, rfl, by omega, .inr rfl, ?_⟩, .inl h.ts, .inl h.tp, fun k e => ⟨.inl (h.ta k e).1, (h.ta k e).2⟩⟩, (hk1.mono fun _ _ h => h.elim).trans hk2 fun _ _ h => h⟩
  rw [ha]
  exact (IsMp.new uv w).kept hk2 (fun e => by omega)
theorem seen_of (h : IsSto w T s kb S pb av (some qb)) : qb ≠ pb ∧ T qb ∧ IsMp uv w qb (un S.asked) := by
  rcases h.seen with ⟨_, h1⟩ | ⟨q, h1, h2, h3, h4⟩
  · cases h1
  · cases h1; exact ⟨h2, h3, h4⟩
theorem put_seen (h : IsSto w T s kb S pb av (some qb)) (k : Hx) (ha : asks S.asked k = false) :
    ∃ w', (Instr.mapUpdate 115 (.map (some qb)) (.agg (tab 32 fun i => bv (k i))) (.agg #[])).run Tryd.prog w = .ok () w' ∧ (IsMp uv w' qb (un (S.asked ++ [k])) ∧ Kept (· = qb) w w') := by
  obtain ⟨w', h1, h2, h3, _⟩ := (seen_of h).2.2.store undMU k ()
  refine ⟨w', h1, ?_, h3⟩
  have e : putM (un S.asked) k () = un (S.asked ++ [k]) := by
    unfold putM
    rw [if_neg (by have : has (un S.asked) k = false := ha; rw [this]; decide)]
    simp [un]
  rw [← e]
  exact h2
/-- What stands when all is done. -/
theorem fin_ask {y4 y6 : World} {h : Hx} {v' : Value} (h3 : IsSto w T s kb S pb av (some qb)) (hm : IsMp uv y4 qb (un (S.asked ++ [h]))) (hk : Kept (· = qb) w y4)
    (hown : y6.ownsRow 0 39 32 v' (S.asked.length + 1) (fl S.asked ++ flat 1 fun _ => h)) (hk6 : Kept (fun k => av.ownBlock = some k) y4 y6) (hat : ∀ k, v'.ownBlock = some k → av.ownBlock = some k ∨ y4.heap.size ≤ k) :
    IsSto (y6.setCell ⟨s, 1, none⟩ v') (Grow T w (y6.setCell ⟨s, 1, none⟩ v')) s kb ⟨S.pres, S.asked ++ [h]⟩ pb v' (some qb) ∧ Kept T w (y6.setCell ⟨s, 1, none⟩ v') := by
  obtain ⟨hq1, hq2, _⟩ := seen_of h3
  have hks : Kept (fun k => k = s) y6 (y6.setCell ⟨s, 1, none⟩ v') := (Kept.refl (fun k => k = s) _).setCell (.inl rfl) _
  have hne : ∀ k, av.ownBlock = some k → k ≠ s := fun k e => (h3.ta k e).2
  have hpa : ¬ av.ownBlock = some pb := map_row h3.row h3.pres
  have hqa : ¬ av.ownBlock = some qb := map_row h3.row (seen_of h3).2.2
  have hsq : s ≠ qb := map_ne h3.box (seen_of h3).2.2
  have hsp : s ≠ pb := map_ne h3.box h3.pres
  have hb4 := h3.box.kept hk hsq
  have hb6 := hb4.kept hk6 (fun e => hne s e rfl)
  have hrow : (y6.setCell ⟨s, 1, none⟩ v').ownsRow 0 39 32 v' (S.asked.length + 1) (fl S.asked ++ flat 1 fun _ => h) := hks.row hown fun k e ek => by
    subst ek
    rcases hat k e with h1 | h1
    · exact hne k h1 rfl
    · have := hb4.lt; omega
  have hKT : Kept T w (y6.setCell ⟨s, 1, none⟩ v') := (((hk.mono fun k _ e => (show T k from by rw [e]; exact hq2)).trans (hk6.mono fun k _ e => (h3.ta k e).1) fun _ _ h => h).trans (hks.mono fun k _ e => (show T k from by rw [e]; exact h3.ts)) fun _ _ h => h)
  refine ⟨⟨hb6.p1 v', ((h3.pres.kept hk (fun e => hq1 e.symm)).kept hk6 hpa).kept hks (fun e => hsp e.symm), ?_, .inr ⟨qb, rfl, hq1, .inl hq2, (hm.kept hk6 hqa).kept hks (fun e => hsq e.symm)⟩, .inl h3.ts, .inl h3.tp, fun k e => ?_⟩, hKT⟩
  · rw [List.length_append, fl_append]; exact hrow
  · rcases hat k e with h1 | h1
    · exact ⟨.inl (h3.ta k h1).1, hne k h1⟩
    · have hl : k < y6.heap.size := by
        rcases hown.2 with ⟨rfl, _⟩ | ⟨g, cap, cur, rfl, _, hg, _⟩
        · cases e
        · cases e; exact (Array.getElem?_eq_some_iff.1 hg).1
      refine ⟨.inr ⟨Nat.le_trans hk.size h1, ?_⟩, fun e => by have := hb4.lt; omega⟩
      exact Nat.lt_of_lt_of_le hl hks.size
end
set_option maxHeartbeats 4000000 in
set_option maxRecDepth 100000 in
theorem ask_new0 (T : Nat → Prop) (s kb : Nat) (S : Sto) (pb : Nat) (av : Value)  (h : Hx) (w : World) (ho : IsSto w T s kb S pb av none) (ha : asks S.asked h = false) (hn : S.asked.length < 1073741824) :
    Calls Tryd.prog 54 #[.pointer (some ⟨s, 0, none⟩), dv h] w fun e w' => e = .returned (.tuple #[]) ∧ ((∃ av' sv', IsSto w' (Grow T w w') s kb ⟨S.pres, S.asked ++ [h]⟩ pb av' sv') ∧ Kept T w w') := by
  have HO := Lib.hid ho
  have HAS := Lib.hid ha
  have HN := Lib.hid hn
  clear ho ha hn
  unfold dv
  have hmm := @run_makeMap Tryd.prog
  have hme := eqMapN
  go_enter Tryd.func54, Tryd.ntmps54
  go_upto_region 1 with (fail)
  have H1 : Hid (IsTab (w.alloc (.cells (tab 32 fun i => bv (h i)) 39)).drew w.heap.size 39 32 (fun i => bv (h i)) ∧ Below w.heap.size w (w.alloc (.cells (tab 32 fun i => bv (h i)) 39)).drew ∧ (w.alloc (.cells (tab 32 fun i => bv (h i)) 39)).drew.heap.size = w.heap.size + 1) := Lib.hid ⟨(IsTab.new w _ 32 _).drew, ((Below.refl _ _).alloc (Nat.le_refl _) _).drew, by simp [World.drew]⟩
  have HO1 : Hid (IsSto (w.alloc (.cells (tab 32 fun i => bv (h i)) 39)).drew T s kb S pb av none) := Lib.hid (HO.out.kept (kept_none H1.out.2.1) fun _ _ h => h)
  refine wp_region_og (fun y : World => Below (w.alloc (.cells (tab 32 fun i => bv (h i)) 39)).drew.heap.size (w.alloc (.cells (tab 32 fun i => bv (h i)) 39)).drew y) (.take 0 (.take 1 (.take 2 (.take 3 (.take 4 (.take 5 (.take 6 (.take 7 (.take 8 (.one 9 (.one 10 (.one 11 .done)))))))))))) (by kernel_rfl) (by kernel_rfl) (Below.refl _ _) ?_
  generalize (w.alloc (.cells (tab 32 fun i => bv (h i)) 39)).drew = y0 at *
  refine og_tk (some 7) (.pointer (some ⟨s, 0, none⟩)) rfl rfl (by go_simp) (fun _ _ => by simp [execOp, go_sem]) ?_
  simp only [Act.put, pS]
  refine og_tk (some 8) (.pointer (some ⟨s, 0, none⟩)) rfl rfl (by go_simp) (fun _ _ => by simp [execOp, go_sem]) ?_
  simp only [Act.put, pS]
  refine og_tk (some 9) (.pointer (some ⟨s, 2, none⟩)) rfl rfl (by go_simp) (fun _ _ => by simp [execOp, go_sem]) ?_
  simp only [Act.put, pS]
  refine og_ld (some 10) 115 (.tmp 9) (.pointer (some ⟨s, 2, none⟩)) (.map none) rfl rfl (by go_simp) rfl rfl (fun y hy => by have h := keep1 hy HO1.out.box.k2; simp [Instr.loadAt, go_sem, h, Tryd.underlying115]) ?_
  simp only [Act.put, pS]
  refine og_ld (some 11) 39 (.tmp 3) (.pointer (some ⟨w.heap.size, 0, none⟩)) (.agg (tab 32 fun i => bv (h i))) rfl rfl (by go_simp) rfl rfl (fun y hy => loadHb (H1.out.1.below hy)) ?_
  simp only [Act.put, pS]
  refine og_tk (some 12) (.tuple #[.agg #[], .bool (asks S.asked h)]) rfl rfl (by go_simp) (fun y hy => by have h := seen_look (HO1.out.kept (Kept.ofBelow (S := fun _ => False) hy) fun _ _ h => h) h; simp [execOp, go_sem, h, Result.andThen]) ?_
  simp only [Act.put, pS]
  refine og_tk (some 6) (.tuple #[.agg #[], .bool (asks S.asked h)]) rfl rfl (by go_simp) (fun _ _ => by simp [execOp, go_sem]) ?_
  simp only [Act.put, pS]
  refine og_tk (some 13) (.agg #[]) rfl rfl (by go_simp) (fun _ _ => by simp [execOp, go_sem]) ?_
  simp only [Act.put, pS]
  refine og_tk (some 14) (.bool (asks S.asked h)) rfl rfl (by go_simp) (fun _ _ => by simp [execOp, go_sem]) ?_
  simp only [Act.put, pS]
  refine og_f rfl (by go_simp) fun K hK => ?_
  go_simp
  refine hK _ _ ((Below.refl _ _).alloc (Nat.le_refl _) (.cells #[] 169)) ?_
  clear hK K
  have HQ : Hid (Below y0.heap.size y0 (y0.alloc (.cells #[] 169)) ∧ w.heap.size ≤ y0.heap.size) := Lib.hid ⟨(Below.refl _ _).alloc (Nat.le_refl _) _, H1.out.2.1.size⟩
  generalize y0.alloc (.cells #[] 169) = y1 at *
  refine og_f rfl (by go_simp) fun K hK => ?_
  go_simp
  refine hK _ _ HQ.out.1 ?_
  clear hK K
  refine og_f rfl (by go_simp) fun K hK => ?_
  go_simp
  refine hK _ _ HQ.out.1 ?_
  clear hK K
  refine og_done (NoPanic.normal ?_)
  have HO2 := Lib.hid (HO1.out.kept (Kept.ofBelow (S := fun _ => False) HQ.out.1) fun _ _ h => h)
  have H2 : Hid (IsTab y1 w.heap.size 39 32 (fun i => bv (h i)) ∧ Below w.heap.size w y1 ∧ s < w.heap.size) := Lib.hid ⟨H1.out.1.below HQ.out.1, bl H1.out.2.1 HQ.out.1, HO.out.box.lt⟩
  rw [HAS.out]
  have k2 := HO2.out.box.k2
  clear HO1 HQ H1
  have f2 := HO2.out.box.f 2
  have hb := HO2.out.box.kept ((Kept.refl (fun _ => False) y1).alloc (.map #[] 0)) id
  have k2' := hb.k2
  have f2' := hb.f 2
  clear hb
  have HS := Lib.hid (new_seen HO2.out)
  go_upto_region 5 with (fail)
  clear k2 f2 k2' f2'
  have H3 : Hid (IsTab ((y1.alloc (.map #[] 0)).setCell ⟨s, 2, none⟩ (.map (some y1.heap.size))) w.heap.size 39 32 (fun i => bv (h i)) ∧ Kept T w ((y1.alloc (.map #[] 0)).setCell ⟨s, 2, none⟩ (.map (some y1.heap.size))) ∧ w.heap.size ≤ y1.heap.size) := Lib.hid ⟨Wt.IsTab.kept H2.out.1 HS.out.2 (by have := H2.out.2.2; omega), (kept_of H2.out.2.1 HS.out.2).mono fun k _ e => (show T k from by rw [e]; exact HO.out.ts), H2.out.2.1.size⟩
  generalize (y1.alloc (.map #[] 0)).setCell ⟨s, 2, none⟩ (.map (some y1.heap.size)) = y2 at *
  clear hmm hme
  generalize y1.heap.size = qb at *
  have HS3 := Lib.hid HS.out.1
  have HG : Hid (∀ k, (T k ∨ k = qb) → T k ∨ (w.heap.size ≤ k ∧ k = qb)) := Lib.hid fun k hk => hk.imp id fun e => ⟨by rw [e]; exact H3.out.2.2, e⟩
  clear HO2 H2
  have H4 : Hid (IsTab y2.drew w.heap.size 39 32 (fun i => bv (h i)) ∧ Kept T w y2.drew) := Lib.hid ⟨H3.out.1.drew, H3.out.2.1.drew⟩
  have HS4 : Hid (IsSto y2.drew (fun k => T k ∨ k = qb) s kb S pb av (some qb)) := Lib.hid (HS3.out.kept (Wt.kept_drew y2) fun _ _ h => h)
  obtain ⟨w4, hr4, hm4, hk4⟩ := put_seen HS4.out h HAS.out
  have HR4 := Lib.hid hr4
  have HM4 := Lib.hid (And.intro hm4 hk4)
  have HQW : Hid (w.heap.size ≠ qb) := Lib.hid (map_ne H4.out.1 (seen_of HS4.out).2.2)
  have HSQ : Hid (s ≠ qb) := Lib.hid (map_ne HS4.out.box (seen_of HS4.out).2.2)
  clear hr4 hm4 hk4 HS3 H3
  refine wp_region_og (fun y : World => Kept (· = qb) y2.drew y) (.take 0 (.take 1 (.take 2 (.take 3 (.take 4 (.one 5 (.one 6 .done))))))) (by kernel_rfl) (by kernel_rfl) (Kept.refl _ _) ?_
  generalize y2.drew = y3 at *
  refine og_tk (some 25) (.pointer (some ⟨s, 0, none⟩)) rfl rfl (by go_simp) (fun _ _ => by simp [execOp, go_sem]) ?_
  simp only [Act.put, pS]
  refine og_tk (some 26) (.pointer (some ⟨s, 0, none⟩)) rfl rfl (by go_simp) (fun _ _ => by simp [execOp, go_sem]) ?_
  simp only [Act.put, pS]
  refine og_tk (some 27) (.pointer (some ⟨s, 2, none⟩)) rfl rfl (by go_simp) (fun _ _ => by simp [execOp, go_sem]) ?_
  simp only [Act.put, pS]
  refine og_ld (some 28) 115 (.tmp 27) (.pointer (some ⟨s, 2, none⟩)) (.map (some qb)) rfl rfl (by go_simp) rfl rfl (fun y hy => by have h := hy.cell HSQ.out HS4.out.box.k2; simp [Instr.loadAt, go_sem, h, Tryd.underlying115]) ?_
  simp only [Act.put, pS]
  refine og_ld (some 29) 39 (.tmp 3) (.pointer (some ⟨w.heap.size, 0, none⟩)) (.agg (tab 32 fun i => bv (h i))) rfl rfl (by go_simp) rfl rfl (fun y hy => loadHb (Wt.IsTab.kept H4.out.1 hy HQW.out)) ?_
  simp only [Act.put, pS]
  refine og_f rfl (by go_simp) fun K hK => ?_
  go_simp
  refine hK _ _ (Kept.refl _ _) ?_
  clear hK K
  refine og_f rfl (by go_simp) fun K hK => ?_
  refine wp_mapUpdate none rfl 115 (.tmp 28) (.tmp 29) (.tmp 30) _ _ _ rfl rfl rfl rfl w4 HR4.out ?_
  refine hK _ _ HM4.out.2 ?_
  clear hK K
  simp only [Act.put, pS]
  refine og_done (NoPanic.normal ?_)
  have H5 : Hid (IsTab w4 w.heap.size 39 32 (fun i => bv (h i)) ∧ av.ownBlock ≠ some w.heap.size) := Lib.hid ⟨Wt.IsTab.kept H4.out.1 HM4.out.2 HQW.out, fun e => by have := own_lt HO.out.row e; omega⟩
  go_upto_region 6 with (fail)
  obtain ⟨i0, hi0⟩ := infHa
  have HI := Lib.hid hi0
  have H6 : Hid (IsTab w4.drew w.heap.size 39 32 (fun i => bv (h i)) ∧ Box4 w4.drew s 118 (.map (some pb)) av (.map (some qb)) (.pointer (some ⟨kb, 0, none⟩)) ∧ w4.drew.ownsRow 0 39 32 av S.asked.length (fl S.asked) ∧ ¬ av.ownBlock = some s) := Lib.hid ⟨H5.out.1.drew, (HS4.out.box.kept HM4.out.2 HSQ.out).kept (Wt.kept_drew w4) id, (Wt.kept_drew w4).row (HM4.out.2.row HS4.out.row fun k e ek => by subst ek; exact map_row HS4.out.row (seen_of HS4.out).2.2 e) (fun _ _ h => h), fun e => (HS4.out.ta s e).2 rfl⟩
  have HL : Hid (S.asked.length + 1 ≤ maxLen ∧ (S.asked.length + 1) * 32 ≤ 140737488355328) := Lib.hid (by have := HN.out; unfold maxLen; omega)
  have HD : Hid (Kept (fun _ => False) w4 w4.drew ∧ w4.drew.heap.size = w4.heap.size) := Lib.hid ⟨Wt.kept_drew w4, rfl⟩
  clear hi0
  refine wp_region_oz (fun y : World => Kept (fun k => av.ownBlock = some k) w4.drew y) 10 (.take 0 (.take 1 (.take 2 (.take 3 (.take 4 (.take 5 (.one 6 (.one 7 (.one 8 (.one 9 (.one 10 .done))))))))))) (by kernel_rfl) (by kernel_rfl) (Kept.refl _ _) ?_
  generalize w4.drew = y5 at *
  refine oz_tk (some 31) (.pointer (some ⟨s, 0, none⟩)) rfl rfl (by go_simp) (fun _ _ => by simp [execOp, go_sem]) ?_
  simp only [Act.put, pS]
  refine oz_tk (some 32) (.pointer (some ⟨s, 0, none⟩)) rfl rfl (by go_simp) (fun _ _ => by simp [execOp, go_sem]) ?_
  simp only [Act.put, pS]
  refine oz_tk (some 33) (.pointer (some ⟨s, 0, none⟩)) rfl rfl (by go_simp) (fun _ _ => by simp [execOp, go_sem]) ?_
  simp only [Act.put, pS]
  refine oz_tk (some 34) (.pointer (some ⟨s, 1, none⟩)) rfl rfl (by go_simp) (fun _ _ => by simp [execOp, go_sem]) ?_
  simp only [Act.put, pS]
  refine oz_ld (some 35) 56 (.tmp 34) (.pointer (some ⟨s, 1, none⟩)) av rfl rfl (by go_simp) rfl rfl (fun y hy => by have h := hy.cell H6.out.2.2.2 H6.out.2.1.k1; simp [Instr.loadAt, go_sem, h, Tryd.underlying56]) ?_
  simp only [Act.put, pS]
  refine oz_ld (some 36) 39 (.tmp 3) (.pointer (some ⟨w.heap.size, 0, none⟩)) (.agg (tab 32 fun i => bv (h i))) rfl rfl (by go_simp) rfl rfl (fun y hy => loadHb (Wt.IsTab.kept H6.out.1 hy H5.out.2)) ?_
  simp only [Act.put, pS]
  refine oz_f rfl (by go_simp) fun K hK => ?_
  refine wp_build1h 56 (.tmp 36) rfl (.agg (tab 32 fun i => bv (h i))) (.slice (some ⟨y5.heap.size, 0, none⟩) 1 1) rfl (y5.alloc (.cells (tab 32 fun i => bv (h i)) 39)) (buildHa h y5) ?_
  have HA : Hid (Kept (fun k => av.ownBlock = some k) y5 (y5.alloc (.cells (tab 32 fun i => bv (h i)) 39)) ∧ (y5.alloc (.cells (tab 32 fun i => bv (h i)) 39)).heap.size = y5.heap.size + 1) := Lib.hid ⟨(Kept.refl _ _).alloc _, by simp⟩
  have HR6 : Hid ((y5.alloc (.cells (tab 32 fun i => bv (h i)) 39)).ownsRow 0 39 32 av S.asked.length (fl S.asked)) := Lib.hid (((Kept.refl (fun _ => False) y5).alloc _).row H6.out.2.2.1 fun _ _ h => h)
  refine hK _ _ HA.out.1 ?_
  clear hK K
  simp only [Act.put, pS]
  refine oz_f rfl (by go_simp) fun K hK => ?_
  refine wp_append_any (.tmp 35) (.tmp 37) 56 rfl 0 39 i0 (dv fun _ => 0#8) 32 32 undHa HI.out zcellsH (by decide) av S.asked.length (fl S.asked) rfl HR6.out (some ⟨y5.heap.size, 0, none⟩) 1 1 (flat 1 fun _ => h) rfl (src1h y5 h) (flat_one _ _) HL.out.1 HL.out.2 (Nat.zero_le _) ?_
  intro V7 y7 hown hgr hat
  obtain ⟨a7, n7, c7, rfl⟩ := own_slice hown
  have HK7 : Hid (Kept (fun k => av.ownBlock = some k) y5 y7) := Lib.hid (HA.out.1.trans ⟨hgr.os, hgr.tape, hgr.output, hgr.size, fun k hk hn => hgr.block k hk (fun e => hn e.symm)⟩ fun _ _ h => h)
  have HF := Lib.hid (fin_ask (y6 := y7) (v' := .slice a7 n7 c7) HS4.out HM4.out.1 HM4.out.2 hown ((HD.out.1.mono fun _ _ h => h.elim).trans HK7.out fun _ _ h => h) (fun k e => (hat k e).imp id fun e => by have := HA.out.2; have := HD.out.2; omega))
  clear hown hgr hat
  refine hK _ _ HK7.out ?_
  clear hK K
  simp only [Act.put, pS]
  refine oz_f rfl (by go_simp) fun K hK => ?_
  go_simp
  refine hK _ _ HK7.out ?_
  clear hK K
  refine oz_f rfl (by go_simp) fun K hK => ?_
  go_simp
  refine hK _ _ HK7.out ?_
  clear hK K
  have hb7 := H6.out.2.1.kept HK7.out H6.out.2.2.2
  have kd := hb7.k1
  have fd := hb7.f 1
  clear hb7
  refine oz_z rfl (by go_simp) fun K hK => ?_
  go_simp
  refine hK _ _ ?_
  clear hK K kd fd
  refine oz_done (NoPanic.normal ?_)
  have HGR : Hid (∀ k, Grow (fun k => T k ∨ k = qb) y3 (y7.setCell ⟨s, 1, none⟩ (.slice a7 n7 c7)) k → Grow T w (y7.setCell ⟨s, 1, none⟩ (.slice a7 n7 c7)) k) := Lib.hid (fun k hk => by
    rcases hk with hk | hk
    · rcases HG.out k hk with h1 | ⟨h1, h2⟩
      · exact .inl h1
      · refine .inr ⟨h1, ?_⟩
        have := (seen_of HS4.out).2.2.lt
        exact Nat.lt_of_lt_of_le (by omega) HF.out.2.size
    · exact .inr ⟨Nat.le_trans H4.out.2.size hk.1, hk.2⟩)
  have HFF : Hid ((∃ av' sv', IsSto (y7.setCell ⟨s, 1, none⟩ (.slice a7 n7 c7)) (Grow T w (y7.setCell ⟨s, 1, none⟩ (.slice a7 n7 c7))) s kb ⟨S.pres, S.asked ++ [h]⟩ pb av' sv') ∧ Kept T w (y7.setCell ⟨s, 1, none⟩ (.slice a7 n7 c7))) := Lib.hid ⟨⟨_, some qb, HF.out.1.mono HGR.out⟩, H4.out.2.trans HF.out.2 fun k hk e => by
    rcases HG.out k e with h1 | ⟨h1, _⟩
    · exact h1
    · omega⟩
  generalize (y7.setCell ⟨s, 1, none⟩ (.slice a7 n7 c7)) = y8 at *
  go_wp2_with (fail)
  exact bodyPost_end (v := .tuple #[]) (by simp [results, Tryd.results54, go_sem]) rfl ⟨rfl, HFF.out⟩
set_option maxHeartbeats 4000000 in
set_option maxRecDepth 100000 in
theorem ask_new1 (T : Nat → Prop) (s kb : Nat) (S : Sto) (pb : Nat) (av : Value) (qb : Nat) (h : Hx) (w : World) (ho : IsSto w T s kb S pb av (some qb)) (ha : asks S.asked h = false) (hn : S.asked.length < 1073741824) :
    Calls Tryd.prog 54 #[.pointer (some ⟨s, 0, none⟩), dv h] w fun e w' => e = .returned (.tuple #[]) ∧ ((∃ av' sv', IsSto w' (Grow T w w') s kb ⟨S.pres, S.asked ++ [h]⟩ pb av' sv') ∧ Kept T w w') := by
  have HO := Lib.hid ho
  have HAS := Lib.hid ha
  have HN := Lib.hid hn
  clear ho ha hn
  unfold dv
  have hmm := @run_makeMap Tryd.prog
  have hme := eqMapS qb
  go_enter Tryd.func54, Tryd.ntmps54
  go_upto_region 1 with (fail)
  have H1 : Hid (IsTab (w.alloc (.cells (tab 32 fun i => bv (h i)) 39)).drew w.heap.size 39 32 (fun i => bv (h i)) ∧ Below w.heap.size w (w.alloc (.cells (tab 32 fun i => bv (h i)) 39)).drew ∧ (w.alloc (.cells (tab 32 fun i => bv (h i)) 39)).drew.heap.size = w.heap.size + 1) := Lib.hid ⟨(IsTab.new w _ 32 _).drew, ((Below.refl _ _).alloc (Nat.le_refl _) _).drew, by simp [World.drew]⟩
  have HO1 : Hid (IsSto (w.alloc (.cells (tab 32 fun i => bv (h i)) 39)).drew T s kb S pb av (some qb)) := Lib.hid (HO.out.kept (kept_none H1.out.2.1) fun _ _ h => h)
  refine wp_region_og (fun y : World => Below (w.alloc (.cells (tab 32 fun i => bv (h i)) 39)).drew.heap.size (w.alloc (.cells (tab 32 fun i => bv (h i)) 39)).drew y) (.take 0 (.take 1 (.take 2 (.take 3 (.take 4 (.take 5 (.take 6 (.take 7 (.take 8 (.one 9 (.one 10 (.one 11 .done)))))))))))) (by kernel_rfl) (by kernel_rfl) (Below.refl _ _) ?_
  generalize (w.alloc (.cells (tab 32 fun i => bv (h i)) 39)).drew = y0 at *
  refine og_tk (some 7) (.pointer (some ⟨s, 0, none⟩)) rfl rfl (by go_simp) (fun _ _ => by simp [execOp, go_sem]) ?_
  simp only [Act.put, pS]
  refine og_tk (some 8) (.pointer (some ⟨s, 0, none⟩)) rfl rfl (by go_simp) (fun _ _ => by simp [execOp, go_sem]) ?_
  simp only [Act.put, pS]
  refine og_tk (some 9) (.pointer (some ⟨s, 2, none⟩)) rfl rfl (by go_simp) (fun _ _ => by simp [execOp, go_sem]) ?_
  simp only [Act.put, pS]
  refine og_ld (some 10) 115 (.tmp 9) (.pointer (some ⟨s, 2, none⟩)) (.map (some qb)) rfl rfl (by go_simp) rfl rfl (fun y hy => by have h := keep1 hy HO1.out.box.k2; simp [Instr.loadAt, go_sem, h, Tryd.underlying115]) ?_
  simp only [Act.put, pS]
  refine og_ld (some 11) 39 (.tmp 3) (.pointer (some ⟨w.heap.size, 0, none⟩)) (.agg (tab 32 fun i => bv (h i))) rfl rfl (by go_simp) rfl rfl (fun y hy => loadHb (H1.out.1.below hy)) ?_
  simp only [Act.put, pS]
  refine og_tk (some 12) (.tuple #[.agg #[], .bool (asks S.asked h)]) rfl rfl (by go_simp) (fun y hy => by have h := seen_look (HO1.out.kept (Kept.ofBelow (S := fun _ => False) hy) fun _ _ h => h) h; simp [execOp, go_sem, h, Result.andThen]) ?_
  simp only [Act.put, pS]
  refine og_tk (some 6) (.tuple #[.agg #[], .bool (asks S.asked h)]) rfl rfl (by go_simp) (fun _ _ => by simp [execOp, go_sem]) ?_
  simp only [Act.put, pS]
  refine og_tk (some 13) (.agg #[]) rfl rfl (by go_simp) (fun _ _ => by simp [execOp, go_sem]) ?_
  simp only [Act.put, pS]
  refine og_tk (some 14) (.bool (asks S.asked h)) rfl rfl (by go_simp) (fun _ _ => by simp [execOp, go_sem]) ?_
  simp only [Act.put, pS]
  refine og_f rfl (by go_simp) fun K hK => ?_
  go_simp
  refine hK _ _ ((Below.refl _ _).alloc (Nat.le_refl _) (.cells #[] 169)) ?_
  clear hK K
  have HQ : Hid (Below y0.heap.size y0 (y0.alloc (.cells #[] 169)) ∧ w.heap.size ≤ y0.heap.size) := Lib.hid ⟨(Below.refl _ _).alloc (Nat.le_refl _) _, H1.out.2.1.size⟩
  generalize y0.alloc (.cells #[] 169) = y1 at *
  refine og_f rfl (by go_simp) fun K hK => ?_
  go_simp
  refine hK _ _ HQ.out.1 ?_
  clear hK K
  refine og_f rfl (by go_simp) fun K hK => ?_
  go_simp
  refine hK _ _ HQ.out.1 ?_
  clear hK K
  refine og_done (NoPanic.normal ?_)
  have HO2 := Lib.hid (HO1.out.kept (Kept.ofBelow (S := fun _ => False) HQ.out.1) fun _ _ h => h)
  have H2 : Hid (IsTab y1 w.heap.size 39 32 (fun i => bv (h i)) ∧ Below w.heap.size w y1 ∧ s < w.heap.size) := Lib.hid ⟨H1.out.1.below HQ.out.1, bl H1.out.2.1 HQ.out.1, HO.out.box.lt⟩
  rw [HAS.out]
  have k2 := HO2.out.box.k2
  clear HO1 HQ H1
  go_upto_region 5 with (fail)
  clear k2
  have H3 : Hid (IsTab y1 w.heap.size 39 32 (fun i => bv (h i)) ∧ Kept T w y1 ∧ w.heap.size ≤ y1.heap.size) := Lib.hid ⟨H2.out.1, Kept.ofBelow H2.out.2.1, H2.out.2.1.size⟩
  generalize y1 = y2 at *
  have HS3 := HO2
  have HG : Hid (∀ k, T k → T k ∨ (w.heap.size ≤ k ∧ k = qb)) := Lib.hid fun k hk => .inl hk
  clear HO2 H2
  have H4 : Hid (IsTab y2.drew w.heap.size 39 32 (fun i => bv (h i)) ∧ Kept T w y2.drew) := Lib.hid ⟨H3.out.1.drew, H3.out.2.1.drew⟩
  have HS4 : Hid (IsSto y2.drew T s kb S pb av (some qb)) := Lib.hid (HS3.out.kept (Wt.kept_drew y2) fun _ _ h => h)
  obtain ⟨w4, hr4, hm4, hk4⟩ := put_seen HS4.out h HAS.out
  have HR4 := Lib.hid hr4
  have HM4 := Lib.hid (And.intro hm4 hk4)
  have HQW : Hid (w.heap.size ≠ qb) := Lib.hid (map_ne H4.out.1 (seen_of HS4.out).2.2)
  have HSQ : Hid (s ≠ qb) := Lib.hid (map_ne HS4.out.box (seen_of HS4.out).2.2)
  clear hr4 hm4 hk4 HS3 H3
  refine wp_region_og (fun y : World => Kept (· = qb) y2.drew y) (.take 0 (.take 1 (.take 2 (.take 3 (.take 4 (.one 5 (.one 6 .done))))))) (by kernel_rfl) (by kernel_rfl) (Kept.refl _ _) ?_
  generalize y2.drew = y3 at *
  refine og_tk (some 25) (.pointer (some ⟨s, 0, none⟩)) rfl rfl (by go_simp) (fun _ _ => by simp [execOp, go_sem]) ?_
  simp only [Act.put, pS]
  refine og_tk (some 26) (.pointer (some ⟨s, 0, none⟩)) rfl rfl (by go_simp) (fun _ _ => by simp [execOp, go_sem]) ?_
  simp only [Act.put, pS]
  refine og_tk (some 27) (.pointer (some ⟨s, 2, none⟩)) rfl rfl (by go_simp) (fun _ _ => by simp [execOp, go_sem]) ?_
  simp only [Act.put, pS]
  refine og_ld (some 28) 115 (.tmp 27) (.pointer (some ⟨s, 2, none⟩)) (.map (some qb)) rfl rfl (by go_simp) rfl rfl (fun y hy => by have h := hy.cell HSQ.out HS4.out.box.k2; simp [Instr.loadAt, go_sem, h, Tryd.underlying115]) ?_
  simp only [Act.put, pS]
  refine og_ld (some 29) 39 (.tmp 3) (.pointer (some ⟨w.heap.size, 0, none⟩)) (.agg (tab 32 fun i => bv (h i))) rfl rfl (by go_simp) rfl rfl (fun y hy => loadHb (Wt.IsTab.kept H4.out.1 hy HQW.out)) ?_
  simp only [Act.put, pS]
  refine og_f rfl (by go_simp) fun K hK => ?_
  go_simp
  refine hK _ _ (Kept.refl _ _) ?_
  clear hK K
  refine og_f rfl (by go_simp) fun K hK => ?_
  refine wp_mapUpdate none rfl 115 (.tmp 28) (.tmp 29) (.tmp 30) _ _ _ rfl rfl rfl rfl w4 HR4.out ?_
  refine hK _ _ HM4.out.2 ?_
  clear hK K
  simp only [Act.put, pS]
  refine og_done (NoPanic.normal ?_)
  have H5 : Hid (IsTab w4 w.heap.size 39 32 (fun i => bv (h i)) ∧ av.ownBlock ≠ some w.heap.size) := Lib.hid ⟨Wt.IsTab.kept H4.out.1 HM4.out.2 HQW.out, fun e => by have := own_lt HO.out.row e; omega⟩
  go_upto_region 6 with (fail)
  obtain ⟨i0, hi0⟩ := infHa
  have HI := Lib.hid hi0
  have H6 : Hid (IsTab w4.drew w.heap.size 39 32 (fun i => bv (h i)) ∧ Box4 w4.drew s 118 (.map (some pb)) av (.map (some qb)) (.pointer (some ⟨kb, 0, none⟩)) ∧ w4.drew.ownsRow 0 39 32 av S.asked.length (fl S.asked) ∧ ¬ av.ownBlock = some s) := Lib.hid ⟨H5.out.1.drew, (HS4.out.box.kept HM4.out.2 HSQ.out).kept (Wt.kept_drew w4) id, (Wt.kept_drew w4).row (HM4.out.2.row HS4.out.row fun k e ek => by subst ek; exact map_row HS4.out.row (seen_of HS4.out).2.2 e) (fun _ _ h => h), fun e => (HS4.out.ta s e).2 rfl⟩
  have HL : Hid (S.asked.length + 1 ≤ maxLen ∧ (S.asked.length + 1) * 32 ≤ 140737488355328) := Lib.hid (by have := HN.out; unfold maxLen; omega)
  have HD : Hid (Kept (fun _ => False) w4 w4.drew ∧ w4.drew.heap.size = w4.heap.size) := Lib.hid ⟨Wt.kept_drew w4, rfl⟩
  clear hi0
  refine wp_region_oz (fun y : World => Kept (fun k => av.ownBlock = some k) w4.drew y) 10 (.take 0 (.take 1 (.take 2 (.take 3 (.take 4 (.take 5 (.one 6 (.one 7 (.one 8 (.one 9 (.one 10 .done))))))))))) (by kernel_rfl) (by kernel_rfl) (Kept.refl _ _) ?_
  generalize w4.drew = y5 at *
  refine oz_tk (some 31) (.pointer (some ⟨s, 0, none⟩)) rfl rfl (by go_simp) (fun _ _ => by simp [execOp, go_sem]) ?_
  simp only [Act.put, pS]
  refine oz_tk (some 32) (.pointer (some ⟨s, 0, none⟩)) rfl rfl (by go_simp) (fun _ _ => by simp [execOp, go_sem]) ?_
  simp only [Act.put, pS]
  refine oz_tk (some 33) (.pointer (some ⟨s, 0, none⟩)) rfl rfl (by go_simp) (fun _ _ => by simp [execOp, go_sem]) ?_
  simp only [Act.put, pS]
  refine oz_tk (some 34) (.pointer (some ⟨s, 1, none⟩)) rfl rfl (by go_simp) (fun _ _ => by simp [execOp, go_sem]) ?_
  simp only [Act.put, pS]
  refine oz_ld (some 35) 56 (.tmp 34) (.pointer (some ⟨s, 1, none⟩)) av rfl rfl (by go_simp) rfl rfl (fun y hy => by have h := hy.cell H6.out.2.2.2 H6.out.2.1.k1; simp [Instr.loadAt, go_sem, h, Tryd.underlying56]) ?_
  simp only [Act.put, pS]
  refine oz_ld (some 36) 39 (.tmp 3) (.pointer (some ⟨w.heap.size, 0, none⟩)) (.agg (tab 32 fun i => bv (h i))) rfl rfl (by go_simp) rfl rfl (fun y hy => loadHb (Wt.IsTab.kept H6.out.1 hy H5.out.2)) ?_
  simp only [Act.put, pS]
  refine oz_f rfl (by go_simp) fun K hK => ?_
  refine wp_build1h 56 (.tmp 36) rfl (.agg (tab 32 fun i => bv (h i))) (.slice (some ⟨y5.heap.size, 0, none⟩) 1 1) rfl (y5.alloc (.cells (tab 32 fun i => bv (h i)) 39)) (buildHa h y5) ?_
  have HA : Hid (Kept (fun k => av.ownBlock = some k) y5 (y5.alloc (.cells (tab 32 fun i => bv (h i)) 39)) ∧ (y5.alloc (.cells (tab 32 fun i => bv (h i)) 39)).heap.size = y5.heap.size + 1) := Lib.hid ⟨(Kept.refl _ _).alloc _, by simp⟩
  have HR6 : Hid ((y5.alloc (.cells (tab 32 fun i => bv (h i)) 39)).ownsRow 0 39 32 av S.asked.length (fl S.asked)) := Lib.hid (((Kept.refl (fun _ => False) y5).alloc _).row H6.out.2.2.1 fun _ _ h => h)
  refine hK _ _ HA.out.1 ?_
  clear hK K
  simp only [Act.put, pS]
  refine oz_f rfl (by go_simp) fun K hK => ?_
  refine wp_append_any (.tmp 35) (.tmp 37) 56 rfl 0 39 i0 (dv fun _ => 0#8) 32 32 undHa HI.out zcellsH (by decide) av S.asked.length (fl S.asked) rfl HR6.out (some ⟨y5.heap.size, 0, none⟩) 1 1 (flat 1 fun _ => h) rfl (src1h y5 h) (flat_one _ _) HL.out.1 HL.out.2 (Nat.zero_le _) ?_
  intro V7 y7 hown hgr hat
  obtain ⟨a7, n7, c7, rfl⟩ := own_slice hown
  have HK7 : Hid (Kept (fun k => av.ownBlock = some k) y5 y7) := Lib.hid (HA.out.1.trans ⟨hgr.os, hgr.tape, hgr.output, hgr.size, fun k hk hn => hgr.block k hk (fun e => hn e.symm)⟩ fun _ _ h => h)
  have HF := Lib.hid (fin_ask (y6 := y7) (v' := .slice a7 n7 c7) HS4.out HM4.out.1 HM4.out.2 hown ((HD.out.1.mono fun _ _ h => h.elim).trans HK7.out fun _ _ h => h) (fun k e => (hat k e).imp id fun e => by have := HA.out.2; have := HD.out.2; omega))
  clear hown hgr hat
  refine hK _ _ HK7.out ?_
  clear hK K
  simp only [Act.put, pS]
  refine oz_f rfl (by go_simp) fun K hK => ?_
  go_simp
  refine hK _ _ HK7.out ?_
  clear hK K
  refine oz_f rfl (by go_simp) fun K hK => ?_
  go_simp
  refine hK _ _ HK7.out ?_
  clear hK K
  have hb7 := H6.out.2.1.kept HK7.out H6.out.2.2.2
  have kd := hb7.k1
  have fd := hb7.f 1
  clear hb7
  refine oz_z rfl (by go_simp) fun K hK => ?_
  go_simp
  refine hK _ _ ?_
  clear hK K kd fd
  refine oz_done (NoPanic.normal ?_)
  have HGR : Hid (∀ k, Grow T y3 (y7.setCell ⟨s, 1, none⟩ (.slice a7 n7 c7)) k → Grow T w (y7.setCell ⟨s, 1, none⟩ (.slice a7 n7 c7)) k) := Lib.hid (fun k hk => by
    rcases hk with hk | hk
    · rcases HG.out k hk with h1 | ⟨h1, h2⟩
      · exact .inl h1
      · refine .inr ⟨h1, ?_⟩
        have := (seen_of HS4.out).2.2.lt
        exact Nat.lt_of_lt_of_le (by omega) HF.out.2.size
    · exact .inr ⟨Nat.le_trans H4.out.2.size hk.1, hk.2⟩)
  have HFF : Hid ((∃ av' sv', IsSto (y7.setCell ⟨s, 1, none⟩ (.slice a7 n7 c7)) (Grow T w (y7.setCell ⟨s, 1, none⟩ (.slice a7 n7 c7))) s kb ⟨S.pres, S.asked ++ [h]⟩ pb av' sv') ∧ Kept T w (y7.setCell ⟨s, 1, none⟩ (.slice a7 n7 c7))) := Lib.hid ⟨⟨_, some qb, HF.out.1.mono HGR.out⟩, H4.out.2.trans HF.out.2 fun k hk e => by
    rcases HG.out k e with h1 | ⟨h1, _⟩
    · exact h1
    · omega⟩
  generalize (y7.setCell ⟨s, 1, none⟩ (.slice a7 n7 c7)) = y8 at *
  go_wp2_with (fail)
  exact bodyPost_end (v := .tuple #[]) (by simp [results, Tryd.results54, go_sem]) rfl ⟨rfl, HFF.out⟩
theorem ask_walk (T : Nat → Prop) (s kb fb : Nat) (S : Sto) (h : Hx) (w : World) (hs : IsSt w T s kb fb S) (hn : S.asked.length < 1073741824) :
    Calls Tryd.prog 54 #[.pointer (some ⟨s, 0, none⟩), dv h] w fun e w' => e = .returned (.tuple #[]) ∧ (IsSt w' (Grow T w w') s kb fb ⟨S.pres, askL S.asked h⟩ ∧ Kept T w w') := by
  obtain ⟨pb, av, sv, ho⟩ := hs.own
  have hl := hs.kin.lt
  by_cases ha : asks S.asked h = true
  · refine (ask_old T s kb S pb av sv h w ho ha).mono ?_
    rintro e w' ⟨he, hb⟩
    have e1 : askL S.asked h = S.asked := by unfold askL; rw [if_pos ha]
    rw [e1]
    exact ⟨he, (hs.below hb).grow hl.1 hl.2, Kept.ofBelow hb⟩
  · have ha' : asks S.asked h = false := by simpa using ha
    have e1 : askL S.asked h = S.asked ++ [h] := by unfold askL; rw [if_neg ha]
    rw [e1]
    have fin : ∀ {w' : World}, ((∃ av' sv', IsSto w' (Grow T w w') s kb ⟨S.pres, S.asked ++ [h]⟩ pb av' sv') ∧ Kept T w w') → (IsSt w' (Grow T w w') s kb fb ⟨S.pres, S.asked ++ [h]⟩ ∧ Kept T w w') := fun {w'} ⟨⟨av', sv', h1⟩, hk⟩ => by
      refine ⟨⟨⟨pb, av', sv', h1⟩, hs.kin.kept hk hs.n1 hs.n2, fun hh => hh.elim hs.n1 fun hh => by omega, fun hh => hh.elim hs.n2 fun hh => by omega, fun k hk => ?_⟩, hk⟩
      have hlk := hs.lo kb (.inr (.inl rfl))
      rcases hk with (hk | hk) | hk
      · exact hs.lo k (.inl hk)
      · omega
      · exact hs.lo k (.inr hk)
    cases sv with
    | none =>
      refine (ask_new0 T s kb S pb av h w ho ha' hn).mono ?_
      rintro e w' ⟨he, hh⟩
      exact ⟨he, fin hh⟩
    | some qb =>
      refine (ask_new1 T s kb S pb av qb h w ho ha' hn).mono ?_
      rintro e w' ⟨he, hh⟩
      exact ⟨he, fin hh⟩
def missV (b : Bool) : Value := if b then .nilIface else .iface 62 (.int .i64 14)
theorem get_fin {T : Nat → Prop} {s kb fb : Nat} {S0 S1 : Sto} {w y0 y2 y5 y6 : World} (hs : IsSt w T s kb fb S0) (hS : IsSt y2 (Grow T y0 y2) s kb fb S1) (hk2 : Kept T y0 y2) (hb0 : Below w.heap.size w y0) (hz : y0.heap.size = w.heap.size + 2) (hb5 : Below y2.heap.size y2 y5)
    (hk6 : Kept (fun k => k = w.heap.size + 1) y5 y6) (hT : ∀ k, T k → k < w.heap.size) : IsSt y6 (Grow T w y6) s kb fb S1 ∧ Kept T w y6 := by
  have hl := hs.kin.lt
  have h6 := (hS.below hb5).kept hk6 (fun k hk e => by
    rcases hk with hk | hk
    · have := hT k hk; omega
    · omega) (by omega) (by omega)
  have z2 := hk2.size
  have z5 := hb5.size
  have z6 := hk6.size
  obtain ⟨pb, av, sv, ho⟩ := h6.own
  refine ⟨⟨⟨pb, av, sv, ho.mono fun k hk => ?_⟩, h6.kin, fun hh => hh.elim hs.n1 fun hh => by omega, fun hh => hh.elim hs.n2 fun hh => by omega, fun k hk => ?_⟩, ?_⟩
  · rcases hk with hk | hk
    · exact .inl hk
    · exact .inr (by omega)
  · have hlk := hs.lo kb (.inr (.inl rfl))
    rcases hk with (hk | hk) | hk
    · exact hs.lo k (.inl hk)
    · omega
    · exact hs.lo k (.inr hk)
  · exact (((Kept.ofBelow hb0).trans hk2 fun _ _ h => h).trans (Kept.ofBelow hb5) fun _ _ h => h).trans hk6 fun k hk e => by omega
theorem buildZ (w : World) : (Instr.build 37 #[]).run Tryd.prog w = .ok (.agg (tab 64 fun _ => bv 0#8)) w := by kernel_rfl
set_option maxHeartbeats 4000000 in
set_option maxRecDepth 100000 in
theorem get_walk (T : Nat → Prop) (s kb fb : Nat) (S : Sto) (h : Hx) (w : World) (hs : IsSt w T s kb fb S) (hT : ∀ k, T k → k < w.heap.size) (hn : S.asked.length < 1073741824) :
    Calls Tryd.prog 19 #[.pointer (some ⟨s, 0, none⟩), dv h] w fun e w' => e = .returned (.tuple #[pv ((look S.pres h).getD zp), missV (has S.pres h)]) ∧ (IsSt w' (Grow T w w') s kb fb ⟨S.pres, askL S.asked h⟩ ∧ Kept T w w') := by
  have z1 := zeroPre
  generalize hz : (tab 64 fun _ => bv 0#8) = zq at *
  have HZ := Lib.hid hz
  have HA : Hid (IsTab ((w.alloc (.cells (tab 32 fun i => bv (h i)) 39)).alloc (.cells zq 37)) w.heap.size 39 32 (fun i => bv (h i)) ∧ IsTab ((w.alloc (.cells (tab 32 fun i => bv (h i)) 39)).alloc (.cells zq 37)) (w.heap.size + 1) 37 64 (fun _ => bv 0#8) ∧ Below w.heap.size w ((w.alloc (.cells (tab 32 fun i => bv (h i)) 39)).alloc (.cells zq 37)) ∧ ((w.alloc (.cells (tab 32 fun i => bv (h i)) 39)).alloc (.cells zq 37)).heap.size = w.heap.size + 2) := by
    refine Lib.hid ⟨(IsTab.new w _ 32 _).alloc _, ?_, ((Below.refl _ _).alloc (Nat.le_refl _) _).alloc (by simp) _, by simp⟩
    rw [← hz]
    have := IsTab.new (w.alloc (.cells (tab 32 fun i => bv (h i)) 39)) 37 64 fun _ => bv 0#8
    simpa using this
  clear hz
  have HI : Hid ((Tryd.prog.info? 37).map (·.size) = some zq.size) := Lib.hid (by rw [← HZ.out]; exact infPre _)
  have HS := Lib.hid (hs.below HA.out.2.2.1)
  have HTT := Lib.hid (And.intro hT (And.intro hn hs))
  generalize hr : (look S.pres h).getD zp = r at *
  have HR := Lib.hid hr
  generalize hb : has S.pres h = b at *
  have HBB := Lib.hid hb
  clear hr hb hs hT hn
  unfold dv pv
  go_enter Tryd.func19, Tryd.ntmps19
  go_upto_region 1 with (fail)
  generalize ((w.alloc (.cells (tab 32 fun i => bv (h i)) 39)).alloc (.cells zq 37)) = y0 at *
  have hc := ask_walk T s kb fb S h y0 HS.out HTT.out.2.1
  unfold dv at hc
  have HC := Lib.hid hc
  have HLH := Lib.hid (loadHb HA.out.1)
  clear hc
  go_upto_region 4 with (first
    | ((with_reducible refine wpList_loadE (P := Tryd.prog) (w := y0) (ty := 39) (x := .tmp 3) (p := .pointer (some ⟨w.heap.size, 0, none⟩)) (v := .agg (tab 32 fun i => bv (h i))) ?_ ?_ ?_ HLH.out ?_); (· exact rfl); (· exact rfl); (· exact rfl))
    | (go_at_call 54; (with_reducible refine HC.out.mono ?_); rintro e y2 ⟨he, hst, hk⟩; obtain rfl : e = _ := he; have HS2 := Lib.hid hst; have HK2 := Lib.hid hk; clear hst hk))
  obtain ⟨pb, av, sv, ho⟩ := HS2.out.own
  have HO2 : Hid (IsSto y2.drew (Grow T y0 y2) s kb ⟨S.pres, askL S.asked h⟩ pb av sv) := Lib.hid (ho.kept (Wt.kept_drew y2) fun _ _ h => h)
  have H2 : Hid (IsTab y2.drew w.heap.size 39 32 (fun i => bv (h i)) ∧ IsTab y2.drew (w.heap.size + 1) 37 64 (fun _ => bv 0#8) ∧ Below y2.heap.size y2 y2.drew) := Lib.hid ⟨(Wt.IsTab.kept HA.out.1 HK2.out (fun e => by have := HTT.out.1 _ e; omega)).drew, (Wt.IsTab.kept HA.out.2.1 HK2.out (fun e => by have := HTT.out.1 _ e; omega)).drew, (Below.refl _ _).drew⟩
  have HB : Hid (∀ y, Below y2.drew.heap.size y2.drew y → (Instr.lookup 114 (.map (some pb)) (.agg (tab 32 fun i => bv (h i))) true).run Tryd.prog y = .ok (.tuple #[.agg (tab 64 fun i => bv (r i)), .bool b]) y) := Lib.hid fun y hy => HBB.out ▸ look_pv (HO2.out.pres.below hy) h r HR.out
  clear ho HC HLH
  refine wp_region_og (fun y : World => Below y2.drew.heap.size y2.drew y) (.take 0 (.take 1 (.take 2 (.take 3 (.take 4 (.take 5 (.take 6 (.take 7 (.take 8 (.one 9 (.one 10 (.one 11 .done)))))))))))) (by kernel_rfl) (by kernel_rfl) (Below.refl _ _) ?_
  have HYD : Hid (y2.drew.heap.size = y2.heap.size) := Lib.hid rfl
  generalize y2.drew = y3 at *
  refine og_tk (some 16) (.pointer (some ⟨s, 0, none⟩)) rfl rfl (by go_simp) (fun _ _ => by simp [execOp, go_sem]) ?_
  simp only [Act.put, pS]
  refine og_tk (some 17) (.pointer (some ⟨s, 0, none⟩)) rfl rfl (by go_simp) (fun _ _ => by simp [execOp, go_sem]) ?_
  simp only [Act.put, pS]
  refine og_tk (some 18) (.pointer (some ⟨s, 0, none⟩)) rfl rfl (by go_simp) (fun _ _ => by simp [execOp, go_sem]) ?_
  simp only [Act.put, pS]
  refine og_ld (some 19) 114 (.tmp 18) (.pointer (some ⟨s, 0, none⟩)) (.map (some pb)) rfl rfl (by go_simp) rfl rfl (fun y hy => by have h := keep1 hy HO2.out.box.k0; simp [Instr.loadAt, go_sem, h, Tryd.underlying114]) ?_
  simp only [Act.put, pS]
  refine og_ld (some 20) 39 (.tmp 3) (.pointer (some ⟨w.heap.size, 0, none⟩)) (.agg (tab 32 fun i => bv (h i))) rfl rfl (by go_simp) rfl rfl (fun y hy => loadHb (H2.out.1.below hy)) ?_
  simp only [Act.put, pS]
  refine og_tk (some 21) (.tuple #[.agg (tab 64 fun i => bv (r i)), .bool b]) rfl rfl (by go_simp) (fun y hy => by have h := HB.out y hy; simp [execOp, go_sem, h, Result.andThen]) ?_
  simp only [Act.put, pS]
  refine og_tk (some 15) (.tuple #[.agg (tab 64 fun i => bv (r i)), .bool b]) rfl rfl (by go_simp) (fun _ _ => by simp [execOp, go_sem]) ?_
  simp only [Act.put, pS]
  refine og_tk (some 22) (.agg (tab 64 fun i => bv (r i))) rfl rfl (by go_simp) (fun _ _ => by simp [execOp, go_sem]) ?_
  simp only [Act.put, pS]
  refine og_tk (some 23) (.bool b) rfl rfl (by go_simp) (fun _ _ => by simp [execOp, go_sem]) ?_
  simp only [Act.put, pS]
  have HN : Hid (Below y3.heap.size y3 (y3.alloc (.cells zq 37)) ∧ IsTab (y3.alloc (.cells zq 37)) y3.heap.size 37 64 (fun _ => bv 0#8)) := Lib.hid ⟨(Below.refl _ _).alloc (Nat.le_refl _) _, by rw [← HZ.out]; exact IsTab.new y3 _ 64 _⟩
  refine og_f rfl (by go_simp) fun K hK => ?_
  go_simp
  refine hK _ _ (HN.out.1) ?_
  clear hK K
  generalize y3.alloc (.cells zq 37) = y4 at *
  have HSR : Hid (Below y3.heap.size y3 (y4.setRow y3.heap.size (tab 64 fun i => bv (r i))) ∧ IsTab (y4.setRow y3.heap.size (tab 64 fun i => bv (r i))) y3.heap.size 37 64 (fun i => bv (r i))) := Lib.hid ⟨below_setRow HN.out.1 (Nat.le_refl _) _, HN.out.2.row⟩
  refine og_f rfl (by go_simp) fun K hK => ?_
  refine wp_store_row 37 (.tmp 6) (.tmp 22) rfl y3.heap.size (tab 64 fun i => bv (r i)) rfl rfl 37 _ HN.out.2 (infPre _) (by rw [tab_size, tab_size]) (one_bv _ _) ?_
  refine hK _ _ HSR.out.1 ?_
  clear hK K
  simp only [Act.put, pS]
  generalize y4.setRow y3.heap.size (tab 64 fun i => bv (r i)) = y5 at *
  refine og_f rfl (by go_simp) fun K hK => ?_
  go_simp
  refine hK _ _ (HSR.out.1) ?_
  clear hK K
  refine og_done (NoPanic.normal ?_)
  have H5 : Hid (IsTab y5 (w.heap.size + 1) 37 64 (fun _ => bv 0#8) ∧ IsTab y5 y3.heap.size 37 64 (fun i => bv (r i)) ∧ Below y2.heap.size y2 y5) := Lib.hid ⟨H2.out.2.1.below HSR.out.1, HSR.out.2, H2.out.2.2.trans (HYD.out ▸ HSR.out.1)⟩
  have HF : Hid (∀ xs, IsSt (y5.setRow (w.heap.size + 1) xs) (Grow T w (y5.setRow (w.heap.size + 1) xs)) s kb fb ⟨S.pres, askL S.asked h⟩ ∧ Kept T w (y5.setRow (w.heap.size + 1) xs)) := Lib.hid fun xs => get_fin HTT.out.2.2 HS2.out HK2.out HA.out.2.2.1 HA.out.2.2.2 H5.out.2.2 ⟨by simp, by simp, by simp, by simp, fun k _ hk => setRow_other _ _ _ _ hk⟩ HTT.out.1
  have HLR := Lib.hid (loadPb H5.out.2.1)
  have HBZ := Lib.hid (buildZ y5)
  clear HB H2 HO2 HN HSR HYD
  generalize y3.heap.size = q2 at *
  cases b
  · have hrz : r = zp := by
      rw [← HR.out]
      have : look S.pres h = none := by
        have := look_has S.pres h
        rw [HBB.out] at this
        simpa using this
      rw [this]; rfl
    subst hrz
    rw [HZ.out] at HBZ
    go_wp2_with (first
      | ((with_reducible refine Wt.wpList_buildM (P := Tryd.prog) (w := y5) ?_ 37 ?_ (.agg zq) HBZ.out ?_); (· exact rfl); (· exact rfl))
      | ((with_reducible refine wpList_store_row (P := Tryd.prog) (w := y5) ?_ 37 (.tmp 4) (.tmp 26) ?_ (w.heap.size + 1) zq ?_ ?_ 37 (tab 64 fun _ => bv 0#8) ?_ HI.out ?_ ?_ ?_); (· exact rfl); (· exact rfl); (· exact rfl); (· exact rfl); (· exact H5.out.1); (· rw [← HZ.out]); (· rw [← HZ.out]; exact one_bv _ _)))
    rw [← HZ.out]
    have hr : IsTab (y5.setRow (w.heap.size + 1) (tab 64 fun _ => bv 0#8)) (w.heap.size + 1) 37 64 fun i => bv (zp i) := H5.out.1.row
    exact bodyPost_ret (Kc.results_cell_tmp rfl _ _ (w.heap.size + 1) 37 _ (0, 0) _ rfl hr undPre rfl (infPre _) (missV false) rfl) rfl ⟨rfl, HF.out _⟩
  · skip
    go_wp2_with (first
      | ((with_reducible refine wpList_loadE (P := Tryd.prog) (w := y5) (ty := 37) (x := .tmp 6) (p := .pointer (some ⟨q2, 0, none⟩)) (v := .agg (tab 64 fun i => bv (r i))) ?_ ?_ ?_ HLR.out ?_); (· exact rfl); (· exact rfl); (· exact rfl))
      | ((with_reducible refine wpList_store_row (P := Tryd.prog) (w := y5) ?_ 37 (.tmp 4) (.tmp 28) ?_ (w.heap.size + 1) (tab 64 fun i => bv (r i)) ?_ ?_ 37 (tab 64 fun _ => bv 0#8) ?_ (infPre _) ?_ (one_bv _ _) ?_); (· exact rfl); (· exact rfl); (· exact rfl); (· exact rfl); (· exact H5.out.1); (· rw [tab_size, tab_size])))
    have hr : IsTab (y5.setRow (w.heap.size + 1) (tab 64 fun i => bv (r i))) (w.heap.size + 1) 37 64 fun i => bv (r i) := H5.out.1.row
    exact bodyPost_ret (Kc.results_cell_tmp rfl _ _ (w.heap.size + 1) 37 _ (0, 0) _ rfl hr undPre rfl (infPre _) (missV true) rfl) rfl ⟨rfl, HF.out _⟩
end Wt
end Go.Proofs.YtdmffnjbholkkaaDoor
