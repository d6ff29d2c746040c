/- Merged of Zj. Own work. -/
import Derived.Test.YtjfpbponjhpdhaaDoorP09
import Derived.Test.YtjfpbponjhpdhaaDoorP10
namespace Go.Proofs.YtjfpbponjhpdhaaDoor
open Go.RowKit
set_option linter.unusedVariables false
set_option linter.unusedSimpArgs false
section
variable {P : Program}
theorem wp_build1h {op : Oper} {a : Act} {w : World} {K : Act → World → Prop} {Q : Exit → Act → World → Prop} (t : TypeId) (x : Operand) (ho : op.op = .buildSlice t 1 #[(0, x)]) (p v : Value) (hx : a.eval x = p) (w' : World) (hl : (Instr.buildSlice t 1 #[(0, p)]).run P w = .ok v w')
    (h : K (a.put op.dst v) w') : op.wp P a w K Q := by
  unfold Oper.wp execOp
  simp only [ho, List.map_toArray, List.map_cons, List.map_nil, hx]
  simp [hl]
  exact h
end
namespace Wt
open Kc Mk
theorem undHa : Tryd.prog.underlying 52 = some (.slice 42) := by kernel_rfl
theorem zcellsH : (dv fun _ => 0#8).cells.size = 32 := by show (tab 32 _).size = 32; rw [tab_size]
theorem infHa : ∃ i, Tryd.prog.info? 42 = some i ∧ i.zero = some (dv fun _ => 0#8) ∧ i.size = 32 ∧ i.bytes = 32 :=
  ⟨(Tryd.prog.info? 42).get (by kernel_rfl), by kernel_rfl, by kernel_rfl, by kernel_rfl, by kernel_rfl⟩
theorem buildHa (x : Hx) (w : World) : (Instr.buildSlice 52 1 #[(0, .agg (tab 32 fun i => bv (x i)))]).run Tryd.prog w = .ok (.slice (some ⟨w.heap.size, 0, none⟩) 1 1) (w.alloc (.cells (tab 32 fun i => bv (x i)) 42)) := by kernel_rfl
theorem flat1h (x : Hx) : flat 1 (fun _ => x) = (tab 32 fun i => bv (x i)).toList := by
  unfold flat tab
  simp only [Nat.mul_one]
  exact List.map_congr_left fun i hi => by rw [Nat.mod_eq_of_lt (by simpa using hi)]
theorem src1h (w : World) (x : Hx) : ((some ⟨w.heap.size, 0, none⟩ : Option Addr) = none ∧ 1 = 0 ∧ 1 = 0 ∧ flat 1 (fun _ => x) = []) ∨ ∃ ad, (some ⟨w.heap.size, 0, none⟩ : Option Addr) = some ad ∧ (flat 1 fun _ => x).length = 1 * 32 ∧ ∀ j u, (flat 1 fun _ => x)[j]? = some u → (w.alloc (.cells (tab 32 fun i => bv (x i)) 42)).cell? (ad.add j) = some u :=
  .inr ⟨_, rfl, flat_len _ _, fun j u hu => by
    rw [flat1h] at hu
    rw [add_at, Nat.zero_add, cell_of_row _ _ _ _ _ _ (heap_alloc_last w _)]
    simpa using hu⟩
theorem eqMapN (w : World) : (binOp .eql 93 (.map none) (.map none)).run Tryd.prog w = .ok (.bool true) w := by kernel_rfl
theorem eqMapS (q : Nat) (w : World) : (binOp .eql 93 (.map (some q)) (.map none)).run Tryd.prog w = .ok (.bool false) w := by kernel_rfl
theorem own_slice {w : World} {base e size n : Nat} {v : Value} {xs : List Value} (h : w.ownsRow base e size v n xs) : ∃ a m c, v = .slice a m c := by
  rcases h.2 with ⟨rfl, _⟩ | ⟨g, cap, cur, rfl, _, hg, _⟩
  · exact ⟨_, _, _, rfl⟩
  · exact ⟨_, _, _, rfl⟩
theorem own_lt {w : World} {base e size n k : Nat} {v : Value} {xs : List Value} (h : w.ownsRow base e size v n xs) (hk : v.ownBlock = some k) : k < w.heap.size := by
  rcases h.2 with ⟨rfl, _⟩ | ⟨g, cap, cur, rfl, _, hg, _⟩
  · cases hk
  · cases hk; exact (Array.getElem?_eq_some_iff.1 hg).1
section
variable {w : World} {T : Nat → Prop} {s kb pb qb : Nat} {S : Sto} {av : Value}
theorem new_seen (h : IsSto w T s kb S pb av none) : IsSto ((w.alloc (.map #[] 0)).setCell ⟨s, 2, none⟩ (.map (some w.heap.size))) (fun k => T k ∨ k = w.heap.size) s kb S pb av (some w.heap.size) ∧ Kept (fun k => k = s) w ((w.alloc (.map #[] 0)).setCell ⟨s, 2, none⟩ (.map (some w.heap.size))) := by
  have hk1 : Kept (fun _ => False) w (w.alloc (.map #[] 0)) := (Kept.refl _ w).alloc _
  have h1 := h.kept hk1 (fun _ _ h => h)
  have hk2 : Kept (fun k => k = s) (w.alloc (.map #[] 0)) ((w.alloc (.map #[] 0)).setCell ⟨s, 2, none⟩ (.map (some w.heap.size))) := (Kept.refl (fun k => k = s) _).setCell (.inl rfl) _
  have hsl := h.box.lt
  have hpl := h.pres.lt
  have ha : S.asked = [] := by
    rcases h.seen with ⟨h1, _⟩ | ⟨qb, h1, _⟩
    · exact h1
    · cases h1
  refine ⟨⟨h1.box.p2 _, h1.pres.kept hk2 (fun e => map_ne h1.box h1.pres e.symm), hk2.row h1.row (fun k e => (h1.ta k e).2), .inr ⟨_, rfl, by omega, .inr rfl, ?_⟩, .inl h.ts, .inl h.tp, fun k e => ⟨.inl (h.ta k e).1, (h.ta k e).2⟩⟩, (hk1.mono fun _ _ h => h.elim).trans hk2 fun _ _ h => h⟩
  rw [ha]
  exact (IsMp.new uv w).kept hk2 (fun e => by omega)
theorem seen_of (h : IsSto w T s kb S pb av (some qb)) : qb ≠ pb ∧ T qb ∧ IsMp uv w qb (un S.asked) := by
  rcases h.seen with ⟨_, h1⟩ | ⟨q, h1, h2, h3, h4⟩
  · cases h1
  · cases h1; exact ⟨h2, h3, h4⟩
theorem put_seen (h : IsSto w T s kb S pb av (some qb)) (k : Hx) (ha : asks S.asked k = false) :
    ∃ w', (Instr.mapUpdate 93 (.map (some qb)) (.agg (tab 32 fun i => bv (k i))) (.agg #[])).run Tryd.prog w = .ok () w' ∧ (IsMp uv w' qb (un (S.asked ++ [k])) ∧ Kept (· = qb) w w') := by
  obtain ⟨w', h1, h2, h3, _⟩ := (seen_of h).2.2.store undMU k ()
  refine ⟨w', h1, ?_, h3⟩
  have e : putM (un S.asked) k () = un (S.asked ++ [k]) := by
    unfold putM
    rw [if_neg (by have : has (un S.asked) k = false := ha; rw [this]; decide)]
    simp [un]
  rw [← e]
  exact h2
/-- What stands when all is done. -/
theorem fin_ask {y4 y6 : World} {h : Hx} {v' : Value} (h3 : IsSto w T s kb S pb av (some qb)) (hm : IsMp uv y4 qb (un (S.asked ++ [h]))) (hk : Kept (· = qb) w y4)
    (hown : y6.ownsRow 0 42 32 v' (S.asked.length + 1) (fl S.asked ++ flat 1 fun _ => h)) (hk6 : Kept (fun k => av.ownBlock = some k) y4 y6) (hat : ∀ k, v'.ownBlock = some k → av.ownBlock = some k ∨ y4.heap.size ≤ k) :
    IsSto (y6.setCell ⟨s, 1, none⟩ v') (Grow T w (y6.setCell ⟨s, 1, none⟩ v')) s kb ⟨S.pres, S.asked ++ [h]⟩ pb v' (some qb) ∧ Kept T w (y6.setCell ⟨s, 1, none⟩ v') := by
  obtain ⟨hq1, hq2, _⟩ := seen_of h3
  have hks : Kept (fun k => k = s) y6 (y6.setCell ⟨s, 1, none⟩ v') := (Kept.refl (fun k => k = s) _).setCell (.inl rfl) _
  have hne : ∀ k, av.ownBlock = some k → k ≠ s := fun k e => (h3.ta k e).2
  have hpa : ¬ av.ownBlock = some pb := map_row h3.row h3.pres
  have hqa : ¬ av.ownBlock = some qb := map_row h3.row (seen_of h3).2.2
  have hsq : s ≠ qb := map_ne h3.box (seen_of h3).2.2
  have hsp : s ≠ pb := map_ne h3.box h3.pres
  have hb4 := h3.box.kept hk hsq
  have hb6 := hb4.kept hk6 (fun e => hne s e rfl)
  have hrow : (y6.setCell ⟨s, 1, none⟩ v').ownsRow 0 42 32 v' (S.asked.length + 1) (fl S.asked ++ flat 1 fun _ => h) := hks.row hown fun k e ek => by
    subst ek
    rcases hat k e with h1 | h1
    · exact hne k h1 rfl
    · have := hb4.lt; omega
  have hKT : Kept T w (y6.setCell ⟨s, 1, none⟩ v') := (((hk.mono fun k _ e => (show T k from by rw [e]; exact hq2)).trans (hk6.mono fun k _ e => (h3.ta k e).1) fun _ _ h => h).trans (hks.mono fun k _ e => (show T k from by rw [e]; exact h3.ts)) fun _ _ h => h)
  refine ⟨⟨hb6.p1 v', ((h3.pres.kept hk (fun e => hq1 e.symm)).kept hk6 hpa).kept hks (fun e => hsp e.symm), ?_, .inr ⟨qb, rfl, hq1, .inl hq2, (hm.kept hk6 hqa).kept hks (fun e => hsq e.symm)⟩, .inl h3.ts, .inl h3.tp, fun k e => ?_⟩, hKT⟩
  · rw [List.length_append, fl_append]; exact hrow
  · rcases hat k e with h1 | h1
    · exact ⟨.inl (h3.ta k h1).1, hne k h1⟩
    · have hl : k < y6.heap.size := by
        rcases hown.2 with ⟨rfl, _⟩ | ⟨g, cap, cur, rfl, _, hg, _⟩
        · cases e
        · cases e; exact (Array.getElem?_eq_some_iff.1 hg).1
      refine ⟨.inr ⟨Nat.le_trans hk.size h1, ?_⟩, fun e => by have := hb4.lt; omega⟩
      exact Nat.lt_of_lt_of_le hl hks.size
end
set_option maxHeartbeats 4000000 in
set_option maxRecDepth 100000 in
theorem ask_new0 (T : Nat → Prop) (s kb : Nat) (S : Sto) (pb : Nat) (av : Value)  (h : Hx) (w : World) (ho : IsSto w T s kb S pb av none) (ha : asks S.asked h = false) (hn : S.asked.length < 1073741824) :
    Calls Tryd.prog 97 #[.pointer (some ⟨s, 0, none⟩), dv h] w fun e w' => e = .returned (.tuple #[]) ∧ ((∃ av' sv', IsSto w' (Grow T w w') s kb ⟨S.pres, S.asked ++ [h]⟩ pb av' sv') ∧ Kept T w w') := by
  have HO := Lib.hid ho
  have HAS := Lib.hid ha
  have HN := Lib.hid hn
  clear ho ha hn
  unfold dv
  have hmm := @run_makeMap Tryd.prog
  have hme := eqMapN
  go_enter Tryd.func97, Tryd.ntmps97
  go_upto_region 1 with (fail)
  have H1 : Hid (IsTab (w.alloc (.cells (tab 32 fun i => bv (h i)) 42)).drew w.heap.size 42 32 (fun i => bv (h i)) ∧ Below w.heap.size w (w.alloc (.cells (tab 32 fun i => bv (h i)) 42)).drew ∧ (w.alloc (.cells (tab 32 fun i => bv (h i)) 42)).drew.heap.size = w.heap.size + 1) := Lib.hid ⟨(IsTab.new w _ 32 _).drew, ((Below.refl _ _).alloc (Nat.le_refl _) _).drew, by simp [World.drew]⟩
  have HO1 : Hid (IsSto (w.alloc (.cells (tab 32 fun i => bv (h i)) 42)).drew T s kb S pb av none) := Lib.hid (HO.out.kept (kept_none H1.out.2.1) fun _ _ h => h)
  refine wp_region_og (fun y : World => Below (w.alloc (.cells (tab 32 fun i => bv (h i)) 42)).drew.heap.size (w.alloc (.cells (tab 32 fun i => bv (h i)) 42)).drew y) (.take 0 (.take 1 (.take 2 (.take 3 (.take 4 (.take 5 (.take 6 (.take 7 (.take 8 (.one 9 (.one 10 (.one 11 .done)))))))))))) (by kernel_rfl) (by kernel_rfl) (Below.refl _ _) ?_
  generalize (w.alloc (.cells (tab 32 fun i => bv (h i)) 42)).drew = y0 at *
  refine og_tk (some 7) (.pointer (some ⟨s, 0, none⟩)) rfl rfl (by go_simp) (fun _ _ => by simp [execOp, go_sem]) ?_
  simp only [Act.put, pS]
  refine og_tk (some 8) (.pointer (some ⟨s, 0, none⟩)) rfl rfl (by go_simp) (fun _ _ => by simp [execOp, go_sem]) ?_
  simp only [Act.put, pS]
  refine og_tk (some 9) (.pointer (some ⟨s, 2, none⟩)) rfl rfl (by go_simp) (fun _ _ => by simp [execOp, go_sem]) ?_
  simp only [Act.put, pS]
  refine og_ld (some 10) 93 (.tmp 9) (.pointer (some ⟨s, 2, none⟩)) (.map none) rfl rfl (by go_simp) rfl rfl (fun y hy => by have h := keep1 hy HO1.out.box.k2; simp [Instr.loadAt, go_sem, h, Tryd.underlying93]) ?_
  simp only [Act.put, pS]
  refine og_ld (some 11) 42 (.tmp 3) (.pointer (some ⟨w.heap.size, 0, none⟩)) (.agg (tab 32 fun i => bv (h i))) rfl rfl (by go_simp) rfl rfl (fun y hy => loadHb (H1.out.1.below hy)) ?_
  simp only [Act.put, pS]
  refine og_tk (some 12) (.tuple #[.agg #[], .bool (asks S.asked h)]) rfl rfl (by go_simp) (fun y hy => by have h := seen_look (HO1.out.kept (Kept.ofBelow (S := fun _ => False) hy) fun _ _ h => h) h; simp [execOp, go_sem, h, Result.andThen]) ?_
  simp only [Act.put, pS]
  refine og_tk (some 6) (.tuple #[.agg #[], .bool (asks S.asked h)]) rfl rfl (by go_simp) (fun _ _ => by simp [execOp, go_sem]) ?_
  simp only [Act.put, pS]
  refine og_tk (some 13) (.agg #[]) rfl rfl (by go_simp) (fun _ _ => by simp [execOp, go_sem]) ?_
  simp only [Act.put, pS]
  refine og_tk (some 14) (.bool (asks S.asked h)) rfl rfl (by go_simp) (fun _ _ => by simp [execOp, go_sem]) ?_
  simp only [Act.put, pS]
  refine og_f rfl (by go_simp) fun K hK => ?_
  go_simp
  refine hK _ _ ((Below.refl _ _).alloc (Nat.le_refl _) (.cells #[] 206)) ?_
  clear hK K
  have HQ : Hid (Below y0.heap.size y0 (y0.alloc (.cells #[] 206)) ∧ w.heap.size ≤ y0.heap.size) := Lib.hid ⟨(Below.refl _ _).alloc (Nat.le_refl _) _, H1.out.2.1.size⟩
  generalize y0.alloc (.cells #[] 206) = y1 at *
  refine og_f rfl (by go_simp) fun K hK => ?_
  go_simp
  refine hK _ _ HQ.out.1 ?_
  clear hK K
  refine og_f rfl (by go_simp) fun K hK => ?_
  go_simp
  refine hK _ _ HQ.out.1 ?_
  clear hK K
  refine og_done (NoPanic.normal ?_)
  have HO2 := Lib.hid (HO1.out.kept (Kept.ofBelow (S := fun _ => False) HQ.out.1) fun _ _ h => h)
  have H2 : Hid (IsTab y1 w.heap.size 42 32 (fun i => bv (h i)) ∧ Below w.heap.size w y1 ∧ s < w.heap.size) := Lib.hid ⟨H1.out.1.below HQ.out.1, bl H1.out.2.1 HQ.out.1, HO.out.box.lt⟩
  rw [HAS.out]
  have k2 := HO2.out.box.k2
  clear HO1 HQ H1
  have f2 := HO2.out.box.f 2
  have hb := HO2.out.box.kept ((Kept.refl (fun _ => False) y1).alloc (.map #[] 0)) id
  have k2' := hb.k2
  have f2' := hb.f 2
  clear hb
  have HS := Lib.hid (new_seen HO2.out)
  go_upto_region 5 with (fail)
  clear k2 f2 k2' f2'
  have H3 : Hid (IsTab ((y1.alloc (.map #[] 0)).setCell ⟨s, 2, none⟩ (.map (some y1.heap.size))) w.heap.size 42 32 (fun i => bv (h i)) ∧ Kept T w ((y1.alloc (.map #[] 0)).setCell ⟨s, 2, none⟩ (.map (some y1.heap.size))) ∧ w.heap.size ≤ y1.heap.size) := Lib.hid ⟨Wt.IsTab.kept H2.out.1 HS.out.2 (by have := H2.out.2.2; omega), (kept_of H2.out.2.1 HS.out.2).mono fun k _ e => (show T k from by rw [e]; exact HO.out.ts), H2.out.2.1.size⟩
  generalize (y1.alloc (.map #[] 0)).setCell ⟨s, 2, none⟩ (.map (some y1.heap.size)) = y2 at *
  clear hmm hme
  generalize y1.heap.size = qb at *
  have HS3 := Lib.hid HS.out.1
  have HG : Hid (∀ k, (T k ∨ k = qb) → T k ∨ (w.heap.size ≤ k ∧ k = qb)) := Lib.hid fun k hk => hk.imp id fun e => ⟨by rw [e]; exact H3.out.2.2, e⟩
  clear HO2 H2
  have H4 : Hid (IsTab y2.drew w.heap.size 42 32 (fun i => bv (h i)) ∧ Kept T w y2.drew) := Lib.hid ⟨H3.out.1.drew, H3.out.2.1.drew⟩
  have HS4 : Hid (IsSto y2.drew (fun k => T k ∨ k = qb) s kb S pb av (some qb)) := Lib.hid (HS3.out.kept (Wt.kept_drew y2) fun _ _ h => h)
  obtain ⟨w4, hr4, hm4, hk4⟩ := put_seen HS4.out h HAS.out
  have HR4 := Lib.hid hr4
  have HM4 := Lib.hid (And.intro hm4 hk4)
  have HQW : Hid (w.heap.size ≠ qb) := Lib.hid (map_ne H4.out.1 (seen_of HS4.out).2.2)
  have HSQ : Hid (s ≠ qb) := Lib.hid (map_ne HS4.out.box (seen_of HS4.out).2.2)
  clear hr4 hm4 hk4 HS3 H3
  refine wp_region_og (fun y : World => Kept (· = qb) y2.drew y) (.take 0 (.take 1 (.take 2 (.take 3 (.take 4 (.one 5 (.one 6 .done))))))) (by kernel_rfl) (by kernel_rfl) (Kept.refl _ _) ?_
  generalize y2.drew = y3 at *
  refine og_tk (some 25) (.pointer (some ⟨s, 0, none⟩)) rfl rfl (by go_simp) (fun _ _ => by simp [execOp, go_sem]) ?_
  simp only [Act.put, pS]
  refine og_tk (some 26) (.pointer (some ⟨s, 0, none⟩)) rfl rfl (by go_simp) (fun _ _ => by simp [execOp, go_sem]) ?_
  simp only [Act.put, pS]
  refine og_tk (some 27) (.pointer (some ⟨s, 2, none⟩)) rfl rfl (by go_simp) (fun _ _ => by simp [execOp, go_sem]) ?_
  simp only [Act.put, pS]
  refine og_ld (some 28) 93 (.tmp 27) (.pointer (some ⟨s, 2, none⟩)) (.map (some qb)) rfl rfl (by go_simp) rfl rfl (fun y hy => by have h := hy.cell HSQ.out HS4.out.box.k2; simp [Instr.loadAt, go_sem, h, Tryd.underlying93]) ?_
  simp only [Act.put, pS]
  refine og_ld (some 29) 42 (.tmp 3) (.pointer (some ⟨w.heap.size, 0, none⟩)) (.agg (tab 32 fun i => bv (h i))) rfl rfl (by go_simp) rfl rfl (fun y hy => loadHb (Wt.IsTab.kept H4.out.1 hy HQW.out)) ?_
  simp only [Act.put, pS]
  refine og_f rfl (by go_simp) fun K hK => ?_
  go_simp
  refine hK _ _ (Kept.refl _ _) ?_
  clear hK K
  refine og_f rfl (by go_simp) fun K hK => ?_
  refine wp_mapUpdate none rfl 93 (.tmp 28) (.tmp 29) (.tmp 30) _ _ _ rfl rfl rfl rfl w4 HR4.out ?_
  refine hK _ _ HM4.out.2 ?_
  clear hK K
  simp only [Act.put, pS]
  refine og_done (NoPanic.normal ?_)
  have H5 : Hid (IsTab w4 w.heap.size 42 32 (fun i => bv (h i)) ∧ av.ownBlock ≠ some w.heap.size) := Lib.hid ⟨Wt.IsTab.kept H4.out.1 HM4.out.2 HQW.out, fun e => by have := own_lt HO.out.row e; omega⟩
  go_upto_region 6 with (fail)
  obtain ⟨i0, hi0⟩ := infHa
  have HI := Lib.hid hi0
  have H6 : Hid (IsTab w4.drew w.heap.size 42 32 (fun i => bv (h i)) ∧ Box4 w4.drew s 96 (.map (some pb)) av (.map (some qb)) (.pointer (some ⟨kb, 0, none⟩)) ∧ w4.drew.ownsRow 0 42 32 av S.asked.length (fl S.asked) ∧ ¬ av.ownBlock = some s) := Lib.hid ⟨H5.out.1.drew, (HS4.out.box.kept HM4.out.2 HSQ.out).kept (Wt.kept_drew w4) id, (Wt.kept_drew w4).row (HM4.out.2.row HS4.out.row fun k e ek => by subst ek; exact map_row HS4.out.row (seen_of HS4.out).2.2 e) (fun _ _ h => h), fun e => (HS4.out.ta s e).2 rfl⟩
  have HL : Hid (S.asked.length + 1 ≤ maxLen ∧ (S.asked.length + 1) * 32 ≤ 140737488355328) := Lib.hid (by have := HN.out; unfold maxLen; omega)
  have HD : Hid (Kept (fun _ => False) w4 w4.drew ∧ w4.drew.heap.size = w4.heap.size) := Lib.hid ⟨Wt.kept_drew w4, rfl⟩
  clear hi0
  refine wp_region_oz (fun y : World => Kept (fun k => av.ownBlock = some k) w4.drew y) 10 (.take 0 (.take 1 (.take 2 (.take 3 (.take 4 (.take 5 (.one 6 (.one 7 (.one 8 (.one 9 (.one 10 .done))))))))))) (by kernel_rfl) (by kernel_rfl) (Kept.refl _ _) ?_
  generalize w4.drew = y5 at *
  refine oz_tk (some 31) (.pointer (some ⟨s, 0, none⟩)) rfl rfl (by go_simp) (fun _ _ => by simp [execOp, go_sem]) ?_
  simp only [Act.put, pS]
  refine oz_tk (some 32) (.pointer (some ⟨s, 0, none⟩)) rfl rfl (by go_simp) (fun _ _ => by simp [execOp, go_sem]) ?_
  simp only [Act.put, pS]
  refine oz_tk (some 33) (.pointer (some ⟨s, 0, none⟩)) rfl rfl (by go_simp) (fun _ _ => by simp [execOp, go_sem]) ?_
  simp only [Act.put, pS]
  refine oz_tk (some 34) (.pointer (some ⟨s, 1, none⟩)) rfl rfl (by go_simp) (fun _ _ => by simp [execOp, go_sem]) ?_
  simp only [Act.put, pS]
  refine oz_ld (some 35) 52 (.tmp 34) (.pointer (some ⟨s, 1, none⟩)) av rfl rfl (by go_simp) rfl rfl (fun y hy => by have h := hy.cell H6.out.2.2.2 H6.out.2.1.k1; simp [Instr.loadAt, go_sem, h, Tryd.underlying52]) ?_
  simp only [Act.put, pS]
  refine oz_ld (some 36) 42 (.tmp 3) (.pointer (some ⟨w.heap.size, 0, none⟩)) (.agg (tab 32 fun i => bv (h i))) rfl rfl (by go_simp) rfl rfl (fun y hy => loadHb (Wt.IsTab.kept H6.out.1 hy H5.out.2)) ?_
  simp only [Act.put, pS]
  refine oz_f rfl (by go_simp) fun K hK => ?_
  refine wp_build1h 52 (.tmp 36) rfl (.agg (tab 32 fun i => bv (h i))) (.slice (some ⟨y5.heap.size, 0, none⟩) 1 1) rfl (y5.alloc (.cells (tab 32 fun i => bv (h i)) 42)) (buildHa h y5) ?_
  have HA : Hid (Kept (fun k => av.ownBlock = some k) y5 (y5.alloc (.cells (tab 32 fun i => bv (h i)) 42)) ∧ (y5.alloc (.cells (tab 32 fun i => bv (h i)) 42)).heap.size = y5.heap.size + 1) := Lib.hid ⟨(Kept.refl _ _).alloc _, by simp⟩
  have HR6 : Hid ((y5.alloc (.cells (tab 32 fun i => bv (h i)) 42)).ownsRow 0 42 32 av S.asked.length (fl S.asked)) := Lib.hid (((Kept.refl (fun _ => False) y5).alloc _).row H6.out.2.2.1 fun _ _ h => h)
  refine hK _ _ HA.out.1 ?_
  clear hK K
  simp only [Act.put, pS]
  refine oz_f rfl (by go_simp) fun K hK => ?_
  refine wp_append_any (.tmp 35) (.tmp 37) 52 rfl 0 42 i0 (dv fun _ => 0#8) 32 32 undHa HI.out zcellsH (by decide) av S.asked.length (fl S.asked) rfl HR6.out (some ⟨y5.heap.size, 0, none⟩) 1 1 (flat 1 fun _ => h) rfl (src1h y5 h) (flat_one _ _) HL.out.1 HL.out.2 (Nat.zero_le _) ?_
  intro V7 y7 hown hgr hat
  obtain ⟨a7, n7, c7, rfl⟩ := own_slice hown
  have HK7 : Hid (Kept (fun k => av.ownBlock = some k) y5 y7) := Lib.hid (HA.out.1.trans ⟨hgr.os, hgr.tape, hgr.output, hgr.size, fun k hk hn => hgr.block k hk (fun e => hn e.symm)⟩ fun _ _ h => h)
  have HF := Lib.hid (fin_ask (y6 := y7) (v' := .slice a7 n7 c7) HS4.out HM4.out.1 HM4.out.2 hown ((HD.out.1.mono fun _ _ h => h.elim).trans HK7.out fun _ _ h => h) (fun k e => (hat k e).imp id fun e => by have := HA.out.2; have := HD.out.2; omega))
  clear hown hgr hat
  refine hK _ _ HK7.out ?_
  clear hK K
  simp only [Act.put, pS]
  refine oz_f rfl (by go_simp) fun K hK => ?_
  go_simp
  refine hK _ _ HK7.out ?_
  clear hK K
  refine oz_f rfl (by go_simp) fun K hK => ?_
  go_simp
  refine hK _ _ HK7.out ?_
  clear hK K
  have hb7 := H6.out.2.1.kept HK7.out H6.out.2.2.2
  have kd := hb7.k1
  have fd := hb7.f 1
  clear hb7
  refine oz_z rfl (by go_simp) fun K hK => ?_
  go_simp
  refine hK _ _ ?_
  clear hK K kd fd
  refine oz_done (NoPanic.normal ?_)
  have HGR : Hid (∀ k, Grow (fun k => T k ∨ k = qb) y3 (y7.setCell ⟨s, 1, none⟩ (.slice a7 n7 c7)) k → Grow T w (y7.setCell ⟨s, 1, none⟩ (.slice a7 n7 c7)) k) := Lib.hid (fun k hk => by
    rcases hk with hk | hk
    · rcases HG.out k hk with h1 | ⟨h1, h2⟩
      · exact .inl h1
      · refine .inr ⟨h1, ?_⟩
        have := (seen_of HS4.out).2.2.lt
        exact Nat.lt_of_lt_of_le (by omega) HF.out.2.size
    · exact .inr ⟨Nat.le_trans H4.out.2.size hk.1, hk.2⟩)
  have HFF : Hid ((∃ av' sv', IsSto (y7.setCell ⟨s, 1, none⟩ (.slice a7 n7 c7)) (Grow T w (y7.setCell ⟨s, 1, none⟩ (.slice a7 n7 c7))) s kb ⟨S.pres, S.asked ++ [h]⟩ pb av' sv') ∧ Kept T w (y7.setCell ⟨s, 1, none⟩ (.slice a7 n7 c7))) := Lib.hid ⟨⟨_, some qb, HF.out.1.mono HGR.out⟩, H4.out.2.trans HF.out.2 fun k hk e => by
    rcases HG.out k e with h1 | ⟨h1, _⟩
    · exact h1
    · omega⟩
  generalize (y7.setCell ⟨s, 1, none⟩ (.slice a7 n7 c7)) = y8 at *
  go_wp2_with (fail)
  exact bodyPost_end (v := .tuple #[]) (by simp [results, Tryd.results97, go_sem]) rfl ⟨rfl, HFF.out⟩
set_option maxHeartbeats 4000000 in
set_option maxRecDepth 100000 in
theorem ask_new1 (T : Nat → Prop) (s kb : Nat) (S : Sto) (pb : Nat) (av : Value) (qb : Nat) (h : Hx) (w : World) (ho : IsSto w T s kb S pb av (some qb)) (ha : asks S.asked h = false) (hn : S.asked.length < 1073741824) :
    Calls Tryd.prog 97 #[.pointer (some ⟨s, 0, none⟩), dv h] w fun e w' => e = .returned (.tuple #[]) ∧ ((∃ av' sv', IsSto w' (Grow T w w') s kb ⟨S.pres, S.asked ++ [h]⟩ pb av' sv') ∧ Kept T w w') := by
  have HO := Lib.hid ho
  have HAS := Lib.hid ha
  have HN := Lib.hid hn
  clear ho ha hn
  unfold dv
  have hmm := @run_makeMap Tryd.prog
  have hme := eqMapS qb
  go_enter Tryd.func97, Tryd.ntmps97
  go_upto_region 1 with (fail)
  have H1 : Hid (IsTab (w.alloc (.cells (tab 32 fun i => bv (h i)) 42)).drew w.heap.size 42 32 (fun i => bv (h i)) ∧ Below w.heap.size w (w.alloc (.cells (tab 32 fun i => bv (h i)) 42)).drew ∧ (w.alloc (.cells (tab 32 fun i => bv (h i)) 42)).drew.heap.size = w.heap.size + 1) := Lib.hid ⟨(IsTab.new w _ 32 _).drew, ((Below.refl _ _).alloc (Nat.le_refl _) _).drew, by simp [World.drew]⟩
  have HO1 : Hid (IsSto (w.alloc (.cells (tab 32 fun i => bv (h i)) 42)).drew T s kb S pb av (some qb)) := Lib.hid (HO.out.kept (kept_none H1.out.2.1) fun _ _ h => h)
  refine wp_region_og (fun y : World => Below (w.alloc (.cells (tab 32 fun i => bv (h i)) 42)).drew.heap.size (w.alloc (.cells (tab 32 fun i => bv (h i)) 42)).drew y) (.take 0 (.take 1 (.take 2 (.take 3 (.take 4 (.take 5 (.take 6 (.take 7 (.take 8 (.one 9 (.one 10 (.one 11 .done)))))))))))) (by kernel_rfl) (by kernel_rfl) (Below.refl _ _) ?_
  generalize (w.alloc (.cells (tab 32 fun i => bv (h i)) 42)).drew = y0 at *
  refine og_tk (some 7) (.pointer (some ⟨s, 0, none⟩)) rfl rfl (by go_simp) (fun _ _ => by simp [execOp, go_sem]) ?_
  simp only [Act.put, pS]
  refine og_tk (some 8) (.pointer (some ⟨s, 0, none⟩)) rfl rfl (by go_simp) (fun _ _ => by simp [execOp, go_sem]) ?_
  simp only [Act.put, pS]
  refine og_tk (some 9) (.pointer (some ⟨s, 2, none⟩)) rfl rfl (by go_simp) (fun _ _ => by simp [execOp, go_sem]) ?_
  simp only [Act.put, pS]
  refine og_ld (some 10) 93 (.tmp 9) (.pointer (some ⟨s, 2, none⟩)) (.map (some qb)) rfl rfl (by go_simp) rfl rfl (fun y hy => by have h := keep1 hy HO1.out.box.k2; simp [Instr.loadAt, go_sem, h, Tryd.underlying93]) ?_
  simp only [Act.put, pS]
  refine og_ld (some 11) 42 (.tmp 3) (.pointer (some ⟨w.heap.size, 0, none⟩)) (.agg (tab 32 fun i => bv (h i))) rfl rfl (by go_simp) rfl rfl (fun y hy => loadHb (H1.out.1.below hy)) ?_
  simp only [Act.put, pS]
  refine og_tk (some 12) (.tuple #[.agg #[], .bool (asks S.asked h)]) rfl rfl (by go_simp) (fun y hy => by have h := seen_look (HO1.out.kept (Kept.ofBelow (S := fun _ => False) hy) fun _ _ h => h) h; simp [execOp, go_sem, h, Result.andThen]) ?_
  simp only [Act.put, pS]
  refine og_tk (some 6) (.tuple #[.agg #[], .bool (asks S.asked h)]) rfl rfl (by go_simp) (fun _ _ => by simp [execOp, go_sem]) ?_
  simp only [Act.put, pS]
  refine og_tk (some 13) (.agg #[]) rfl rfl (by go_simp) (fun _ _ => by simp [execOp, go_sem]) ?_
  simp only [Act.put, pS]
  refine og_tk (some 14) (.bool (asks S.asked h)) rfl rfl (by go_simp) (fun _ _ => by simp [execOp, go_sem]) ?_
  simp only [Act.put, pS]
  refine og_f rfl (by go_simp) fun K hK => ?_
  go_simp
  refine hK _ _ ((Below.refl _ _).alloc (Nat.le_refl _) (.cells #[] 206)) ?_
  clear hK K
  have HQ : Hid (Below y0.heap.size y0 (y0.alloc (.cells #[] 206)) ∧ w.heap.size ≤ y0.heap.size) := Lib.hid ⟨(Below.refl _ _).alloc (Nat.le_refl _) _, H1.out.2.1.size⟩
  generalize y0.alloc (.cells #[] 206) = y1 at *
  refine og_f rfl (by go_simp) fun K hK => ?_
  go_simp
  refine hK _ _ HQ.out.1 ?_
  clear hK K
  refine og_f rfl (by go_simp) fun K hK => ?_
  go_simp
  refine hK _ _ HQ.out.1 ?_
  clear hK K
  refine og_done (NoPanic.normal ?_)
  have HO2 := Lib.hid (HO1.out.kept (Kept.ofBelow (S := fun _ => False) HQ.out.1) fun _ _ h => h)
  have H2 : Hid (IsTab y1 w.heap.size 42 32 (fun i => bv (h i)) ∧ Below w.heap.size w y1 ∧ s < w.heap.size) := Lib.hid ⟨H1.out.1.below HQ.out.1, bl H1.out.2.1 HQ.out.1, HO.out.box.lt⟩
  rw [HAS.out]
  have k2 := HO2.out.box.k2
  clear HO1 HQ H1
  go_upto_region 5 with (fail)
  clear k2
  have H3 : Hid (IsTab y1 w.heap.size 42 32 (fun i => bv (h i)) ∧ Kept T w y1 ∧ w.heap.size ≤ y1.heap.size) := Lib.hid ⟨H2.out.1, Kept.ofBelow H2.out.2.1, H2.out.2.1.size⟩
  generalize y1 = y2 at *
  have HS3 := HO2
  have HG : Hid (∀ k, T k → T k ∨ (w.heap.size ≤ k ∧ k = qb)) := Lib.hid fun k hk => .inl hk
  clear HO2 H2
  have H4 : Hid (IsTab y2.drew w.heap.size 42 32 (fun i => bv (h i)) ∧ Kept T w y2.drew) := Lib.hid ⟨H3.out.1.drew, H3.out.2.1.drew⟩
  have HS4 : Hid (IsSto y2.drew T s kb S pb av (some qb)) := Lib.hid (HS3.out.kept (Wt.kept_drew y2) fun _ _ h => h)
  obtain ⟨w4, hr4, hm4, hk4⟩ := put_seen HS4.out h HAS.out
  have HR4 := Lib.hid hr4
  have HM4 := Lib.hid (And.intro hm4 hk4)
  have HQW : Hid (w.heap.size ≠ qb) := Lib.hid (map_ne H4.out.1 (seen_of HS4.out).2.2)
  have HSQ : Hid (s ≠ qb) := Lib.hid (map_ne HS4.out.box (seen_of HS4.out).2.2)
  clear hr4 hm4 hk4 HS3 H3
  refine wp_region_og (fun y : World => Kept (· = qb) y2.drew y) (.take 0 (.take 1 (.take 2 (.take 3 (.take 4 (.one 5 (.one 6 .done))))))) (by kernel_rfl) (by kernel_rfl) (Kept.refl _ _) ?_
  generalize y2.drew = y3 at *
  refine og_tk (some 25) (.pointer (some ⟨s, 0, none⟩)) rfl rfl (by go_simp) (fun _ _ => by simp [execOp, go_sem]) ?_
  simp only [Act.put, pS]
  refine og_tk (some 26) (.pointer (some ⟨s, 0, none⟩)) rfl rfl (by go_simp) (fun _ _ => by simp [execOp, go_sem]) ?_
  simp only [Act.put, pS]
  refine og_tk (some 27) (.pointer (some ⟨s, 2, none⟩)) rfl rfl (by go_simp) (fun _ _ => by simp [execOp, go_sem]) ?_
  simp only [Act.put, pS]
  refine og_ld (some 28) 93 (.tmp 27) (.pointer (some ⟨s, 2, none⟩)) (.map (some qb)) rfl rfl (by go_simp) rfl rfl (fun y hy => by have h := hy.cell HSQ.out HS4.out.box.k2; simp [Instr.loadAt, go_sem, h, Tryd.underlying93]) ?_
  simp only [Act.put, pS]
  refine og_ld (some 29) 42 (.tmp 3) (.pointer (some ⟨w.heap.size, 0, none⟩)) (.agg (tab 32 fun i => bv (h i))) rfl rfl (by go_simp) rfl rfl (fun y hy => loadHb (Wt.IsTab.kept H4.out.1 hy HQW.out)) ?_
  simp only [Act.put, pS]
  refine og_f rfl (by go_simp) fun K hK => ?_
  go_simp
  refine hK _ _ (Kept.refl _ _) ?_
  clear hK K
  refine og_f rfl (by go_simp) fun K hK => ?_
  refine wp_mapUpdate none rfl 93 (.tmp 28) (.tmp 29) (.tmp 30) _ _ _ rfl rfl rfl rfl w4 HR4.out ?_
  refine hK _ _ HM4.out.2 ?_
  clear hK K
  simp only [Act.put, pS]
  refine og_done (NoPanic.normal ?_)
  have H5 : Hid (IsTab w4 w.heap.size 42 32 (fun i => bv (h i)) ∧ av.ownBlock ≠ some w.heap.size) := Lib.hid ⟨Wt.IsTab.kept H4.out.1 HM4.out.2 HQW.out, fun e => by have := own_lt HO.out.row e; omega⟩
  go_upto_region 6 with (fail)
  obtain ⟨i0, hi0⟩ := infHa
  have HI := Lib.hid hi0
  have H6 : Hid (IsTab w4.drew w.heap.size 42 32 (fun i => bv (h i)) ∧ Box4 w4.drew s 96 (.map (some pb)) av (.map (some qb)) (.pointer (some ⟨kb, 0, none⟩)) ∧ w4.drew.ownsRow 0 42 32 av S.asked.length (fl S.asked) ∧ ¬ av.ownBlock = some s) := Lib.hid ⟨H5.out.1.drew, (HS4.out.box.kept HM4.out.2 HSQ.out).kept (Wt.kept_drew w4) id, (Wt.kept_drew w4).row (HM4.out.2.row HS4.out.row fun k e ek => by subst ek; exact map_row HS4.out.row (seen_of HS4.out).2.2 e) (fun _ _ h => h), fun e => (HS4.out.ta s e).2 rfl⟩
  have HL : Hid (S.asked.length + 1 ≤ maxLen ∧ (S.asked.length + 1) * 32 ≤ 140737488355328) := Lib.hid (by have := HN.out; unfold maxLen; omega)
  have HD : Hid (Kept (fun _ => False) w4 w4.drew ∧ w4.drew.heap.size = w4.heap.size) := Lib.hid ⟨Wt.kept_drew w4, rfl⟩
  clear hi0
  refine wp_region_oz (fun y : World => Kept (fun k => av.ownBlock = some k) w4.drew y) 10 (.take 0 (.take 1 (.take 2 (.take 3 (.take 4 (.take 5 (.one 6 (.one 7 (.one 8 (.one 9 (.one 10 .done))))))))))) (by kernel_rfl) (by kernel_rfl) (Kept.refl _ _) ?_
  generalize w4.drew = y5 at *
  refine oz_tk (some 31) (.pointer (some ⟨s, 0, none⟩)) rfl rfl (by go_simp) (fun _ _ => by simp [execOp, go_sem]) ?_
  simp only [Act.put, pS]
  refine oz_tk (some 32) (.pointer (some ⟨s, 0, none⟩)) rfl rfl (by go_simp) (fun _ _ => by simp [execOp, go_sem]) ?_
  simp only [Act.put, pS]
  refine oz_tk (some 33) (.pointer (some ⟨s, 0, none⟩)) rfl rfl (by go_simp) (fun _ _ => by simp [execOp, go_sem]) ?_
  simp only [Act.put, pS]
  refine oz_tk (some 34) (.pointer (some ⟨s, 1, none⟩)) rfl rfl (by go_simp) (fun _ _ => by simp [execOp, go_sem]) ?_
  simp only [Act.put, pS]
  refine oz_ld (some 35) 52 (.tmp 34) (.pointer (some ⟨s, 1, none⟩)) av rfl rfl (by go_simp) rfl rfl (fun y hy => by have h := hy.cell H6.out.2.2.2 H6.out.2.1.k1; simp [Instr.loadAt, go_sem, h, Tryd.underlying52]) ?_
  simp only [Act.put, pS]
  refine oz_ld (some 36) 42 (.tmp 3) (.pointer (some ⟨w.heap.size, 0, none⟩)) (.agg (tab 32 fun i => bv (h i))) rfl rfl (by go_simp) rfl rfl (fun y hy => loadHb (Wt.IsTab.kept H6.out.1 hy H5.out.2)) ?_
  simp only [Act.put, pS]
  refine oz_f rfl (by go_simp) fun K hK => ?_
  refine wp_build1h 52 (.tmp 36) rfl (.agg (tab 32 fun i => bv (h i))) (.slice (some ⟨y5.heap.size, 0, none⟩) 1 1) rfl (y5.alloc (.cells (tab 32 fun i => bv (h i)) 42)) (buildHa h y5) ?_
  have HA : Hid (Kept (fun k => av.ownBlock = some k) y5 (y5.alloc (.cells (tab 32 fun i => bv (h i)) 42)) ∧ (y5.alloc (.cells (tab 32 fun i => bv (h i)) 42)).heap.size = y5.heap.size + 1) := Lib.hid ⟨(Kept.refl _ _).alloc _, by simp⟩
  have HR6 : Hid ((y5.alloc (.cells (tab 32 fun i => bv (h i)) 42)).ownsRow 0 42 32 av S.asked.length (fl S.asked)) := Lib.hid (((Kept.refl (fun _ => False) y5).alloc _).row H6.out.2.2.1 fun _ _ h => h)
  refine hK _ _ HA.out.1 ?_
  clear hK K
  simp only [Act.put, pS]
  refine oz_f rfl (by go_simp) fun K hK => ?_
  refine wp_append_any (.tmp 35) (.tmp 37) 52 rfl 0 42 i0 (dv fun _ => 0#8) 32 32 undHa HI.out zcellsH (by decide) av S.asked.length (fl S.asked) rfl HR6.out (some ⟨y5.heap.size, 0, none⟩) 1 1 (flat 1 fun _ => h) rfl (src1h y5 h) (flat_one _ _) HL.out.1 HL.out.2 (Nat.zero_le _) ?_
  intro V7 y7 hown hgr hat
  obtain ⟨a7, n7, c7, rfl⟩ := own_slice hown
  have HK7 : Hid (Kept (fun k => av.ownBlock = some k) y5 y7) := Lib.hid (HA.out.1.trans ⟨hgr.os, hgr.tape, hgr.output, hgr.size, fun k hk hn => hgr.block k hk (fun e => hn e.symm)⟩ fun _ _ h => h)
  have HF := Lib.hid (fin_ask (y6 := y7) (v' := .slice a7 n7 c7) HS4.out HM4.out.1 HM4.out.2 hown ((HD.out.1.mono fun _ _ h => h.elim).trans HK7.out fun _ _ h => h) (fun k e => (hat k e).imp id fun e => by have := HA.out.2; have := HD.out.2; omega))
  clear hown hgr hat
  refine hK _ _ HK7.out ?_
  clear hK K
  simp only [Act.put, pS]
  refine oz_f rfl (by go_simp) fun K hK => ?_
  go_simp
  refine hK _ _ HK7.out ?_
  clear hK K
  refine oz_f rfl (by go_simp) fun K hK => ?_
  go_simp
  refine hK _ _ HK7.out ?_
  clear hK K
  have hb7 := H6.out.2.1.kept HK7.out H6.out.2.2.2
  have kd := hb7.k1
  have fd := hb7.f 1
  clear hb7
  refine oz_z rfl (by go_simp) fun K hK => ?_
  go_simp
  refine hK _ _ ?_
  clear hK K kd fd
  refine oz_done (NoPanic.normal ?_)
  have HGR : Hid (∀ k, Grow T y3 (y7.setCell ⟨s, 1, none⟩ (.slice a7 n7 c7)) k → Grow T w (y7.setCell ⟨s, 1, none⟩ (.slice a7 n7 c7)) k) := Lib.hid (fun k hk => by
    rcases hk with hk | hk
    · rcases HG.out k hk with h1 | ⟨h1, h2⟩
      · exact .inl h1
      · refine .inr ⟨h1, ?_⟩
        have := (seen_of HS4.out).2.2.lt
        exact Nat.lt_of_lt_of_le (by omega) HF.out.2.size
    · exact .inr ⟨Nat.le_trans H4.out.2.size hk.1, hk.2⟩)
  have HFF : Hid ((∃ av' sv', IsSto (y7.setCell ⟨s, 1, none⟩ (.slice a7 n7 c7)) (Grow T w (y7.setCell ⟨s, 1, none⟩ (.slice a7 n7 c7))) s kb ⟨S.pres, S.asked ++ [h]⟩ pb av' sv') ∧ Kept T w (y7.setCell ⟨s, 1, none⟩ (.slice a7 n7 c7))) := Lib.hid ⟨⟨_, some qb, HF.out.1.mono HGR.out⟩, H4.out.2.trans HF.out.2 fun k hk e => by
    rcases HG.out k e with h1 | ⟨h1, _⟩
    · exact h1
    · omega⟩
  generalize (y7.setCell ⟨s, 1, none⟩ (.slice a7 n7 c7)) = y8 at *
  go_wp2_with (fail)
  exact bodyPost_end (v := .tuple #[]) (by simp [results, Tryd.results97, go_sem]) rfl ⟨rfl, HFF.out⟩
end Wt
end Go.Proofs.YtjfpbponjhpdhaaDoor
