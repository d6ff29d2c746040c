/-
  witness: Store.Add. Written by genZf.py. Own work.
-/
import Derived.Test.YtdmffnjbholkkaaDoorZe
import Derived.Test.YtdmffnjbholkkaaDoorK1
import Derived.Test.YtdmffnjbholkkaaDoorPis
namespace Go.Proofs.YtdmffnjbholkkaaDoor
open Go.RowKit
set_option linter.unusedVariables false
set_option linter.unusedSimpArgs false
namespace Wt
open Kc Mk
theorem ktab_kept {U : Nat → Prop} {w w' : World} (h : Laid.KTab w) (hk : Kept U w w') (hU : ∀ k, U k → w.heap.size ≤ k ∨ lowB ≤ k) : Laid.KTab w' := fun i hi => hk.cell (fun hu => by
  have h1 := inHeap (h i hi)
  have h2 : 1 < lowB := by unfold lowB; omega
  have := hU _ hu
  omega) (h i hi)
theorem isBs_pre {w : World} {q : Nat} {p : Px} (h : IsTab w q 37 64 fun i => bv (p i)) : IsBs w (some ⟨q, 0, none⟩) (pre p) := .inr ⟨q, 0, rfl, fun j hj => by
  rw [pre_len] at hj
  rw [Nat.zero_add, h.cell j hj, pre_at p j hj]⟩
/-- The digest of a preimage, as the program asks for it. -/
theorem sumP_walk {w : World} {q : Nat} {p : Px} (h : IsTab w q 37 64 fun i => bv (p i)) (ht : Laid.KTab w) :
    Calls Tryd.prog 50 #[.slice (some ⟨q, 0, none⟩) 64 64] w fun e w' => e = .returned (.agg (tab 32 fun i => bv (hs p i))) ∧ Below w.heap.size w w' := by
  have := sum_walk permIs (pre p) (some ⟨q, 0, none⟩) 64 w ht (isBs_pre h) (fun z hz => by cases hz; exact h.lt) (by rw [pre_len]; exact Nat.le_refl _) (by decide)
  rw [pre_len] at this
  exact this
/-- What Add keeps on its way: the boxes of the preimage (q0), of the answer (q1) and of the digest (q2). -/
structure Ad (W : World) (q0 q1 : Nat) (p : Px) (y : World) : Prop where
  b0 : IsTab y q0 37 64 fun i => bv (p i)
  b1 : IsTab y q1 39 32 fun _ => bv 0#8
theorem Ad.kept {U : Nat → Prop} {W y y' : World} {q0 q1 : Nat} {p : Px} (h : Ad W q0 q1 p y) (hk : Kept U y y') (h0 : ¬ U q0) (h1 : ¬ U q1) : Ad W q0 q1 p y' := ⟨Wt.IsTab.kept h.b0 hk h0, Wt.IsTab.kept h.b1 hk h1⟩
theorem kept_none {w w' : World} (h : Below w.heap.size w w') : Kept (fun _ => False) w w' := Kept.ofBelow h
theorem kept_drew (w : World) : Kept (fun _ => False) w w.drew := Kept.drew (Kept.refl _ _)
theorem sto_put {T : Nat → Prop} {w w' : World} {s kb pb : Nat} {S : Sto} {av : Value} {sv : Option Nat} {M : List (Hx × Px)} (h : IsSto w T s kb S pb av sv) (hm : IsMp pv w' pb M) (hk : Kept (fun k => k = pb) w w') : IsSto w' T s kb ⟨M, S.asked⟩ pb av sv :=
  ⟨h.box.kept hk (map_ne h.box h.pres), hm, hk.row h.row fun k e hh => map_row h.row h.pres (by rw [e, hh]), h.seen.imp id fun ⟨qb, h1, h2, h3, h4⟩ => ⟨qb, h1, h2, h3, h4.kept hk h2⟩, h.ts, h.tp, h.ta⟩
set_option maxHeartbeats 4000000 in
set_option maxRecDepth 100000 in
theorem add_walk (T : Nat → Prop) (s kb fb : Nat) (S : Sto) (p : Px) (w : World) (ht : Laid.KTab w) (h : IsSt w T s kb fb S) (hT : ∀ k, T k → k < w.heap.size) :
    Calls Tryd.prog 17 #[.pointer (some ⟨s, 0, none⟩), pv p] w fun e w' => e = .returned (.tuple #[dv (hs p), .nilIface]) ∧ IsSt w' T s kb fb ⟨putM S.pres (hs p) p, S.asked⟩ ∧ Kept (Foot T kb fb) w w' := by
  obtain ⟨⟨pb, av, sv, ho⟩, hn, hx1, hx2, hx3⟩ := h
  have HW := Lib.hid (And.intro hT hx3)
  have z2 := zeroHash
  generalize hz : (tab 32 fun _ => bv 0#8) = zh at *
  have HA : Hid (Ad w w.heap.size (w.heap.size + 1) p ((w.alloc (.cells (tab 64 fun i => bv (p i)) 37)).alloc (.cells zh 39))) := by
    rw [← hz]
    refine Lib.hid ⟨(IsTab.new w _ 64 _).alloc _, ?_⟩
    have := IsTab.new (w.alloc (.cells (tab 64 fun i => bv (p i)) 37)) 39 32 fun _ => bv 0#8
    simpa using this
  have HBW : Hid (Below w.heap.size w ((w.alloc (.cells (tab 64 fun i => bv (p i)) 37)).alloc (.cells zh 39)) ∧ ((w.alloc (.cells (tab 64 fun i => bv (p i)) 37)).alloc (.cells zh 39)).heap.size = w.heap.size + 2) := Lib.hid ⟨((Below.refl _ _).alloc (Nat.le_refl _) _).alloc (by simp) _, by simp⟩
  have HO := Lib.hid (ho.kept (kept_none HBW.out.1) fun _ _ h => h)
  have HN := Lib.hid (hn.kept (kept_none HBW.out.1) id id)
  have HT := Lib.hid (ktab_below ht HBW.out.1)
  have HX : Hid (¬ T kb ∧ ¬ T fb ∧ w.heap.size ≠ kb ∧ w.heap.size ≠ fb ∧ w.heap.size + 1 ≠ kb ∧ w.heap.size + 1 ≠ fb) := Lib.hid ⟨hx1, hx2, by have := hn.lt.1; omega, by have := hn.lt.2; omega, by have := hn.lt.1; omega, by have := hn.lt.2; omega⟩
  clear ho hn hx1 hx2 hx3 ht hT
  unfold dv pv
  go_enter Tryd.func17, Tryd.ntmps17
  go_upto_region 1 with (fail)
  subst hz
  generalize (w.alloc (.cells (tab 64 fun i => bv (p i)) 37)).alloc (.cells (tab 32 fun _ => bv 0#8) 39) = y at *
  have k3 := HO.out.box.k3
  go_upto_region 6 with (fail)
  clear k3 z2
  have s1 := slPreA w.heap.size
  have HC := Lib.hid (sumP_walk HA.out.b0 HT.out)
  have z2 := zeroHash
  generalize hz : (tab 32 fun _ => bv 0#8) = zh at *
  have HZ : Hid (zh.size = 32) := Lib.hid (by rw [← hz, tab_size])
  go_upto_region 7 with (first
    | (go_at_call 50; (with_reducible refine HC.out.mono ?_); rintro e y1 ⟨he, hb1⟩; obtain rfl : e = _ := he; have HB1 := Lib.hid hb1; clear hb1)
    | ((with_reducible refine wpList_store_row (P := Tryd.prog) (w := y1.alloc (.cells zh 39)) ?_ 39 (.tmp 6) (.tmp 27) ?_ y1.heap.size (tab 32 fun i => bv (hs p i)) ?_ ?_ 39 zh (heap_alloc_last y1 _) (infH _) ?_ (one_bv _ _) ?_); (· exact rfl); (· exact rfl); (· exact rfl); (· exact rfl); (· rw [HZ.out, tab_size]); rw [World.setRow_alloc_new]; simp only [Act.put]))
  subst hz
  have HK2 : Hid (Kept (fun _ => False) y (y1.alloc (.cells (tab 32 fun i => bv (hs p i)) 39)).drew) := Lib.hid ((kept_none HB1.out).alloc _).drew
  have HQ2 : Hid (IsTab (y1.alloc (.cells (tab 32 fun i => bv (hs p i)) 39)).drew y1.heap.size 39 32 (fun i => bv (hs p i)) ∧ y.heap.size ≤ y1.heap.size ∧ y1.heap.size < (y1.alloc (.cells (tab 32 fun i => bv (hs p i)) 39)).drew.heap.size) := Lib.hid ⟨(IsTab.new y1 _ 32 _).drew, HB1.out.size, by show y1.heap.size < (y1.alloc _).heap.size; simp⟩
  have HO2 := Lib.hid (HO.out.kept HK2.out fun _ _ h => h)
  have HN2 := Lib.hid (HN.out.kept HK2.out id id)
  have HA2 := Lib.hid (HA.out.kept HK2.out id id)
  have HT2 := Lib.hid (ktab_kept HT.out HK2.out fun _ h => h.elim)
  obtain ⟨w4, hr4, hm4, hk4, hs4⟩ := store_pv HO2.out.pres (hs p) p
  have HR4 := Lib.hid hr4
  have HM4 := Lib.hid (And.intro hm4 (And.intro hk4 hs4))
  clear hr4 hm4 hk4 hs4 z2 s1 HC HB1 HZ
  refine wp_region_og (fun y' : World => Kept (fun k => k = pb) (y1.alloc (.cells (tab 32 fun i => bv (hs p i)) 39)).drew y') (.take 0 (.take 1 (.take 2 (.take 3 (.take 4 (.take 5 (.one 6 .done))))))) (by kernel_rfl) (by kernel_rfl) (Kept.refl _ _) ?_
  generalize (y1.alloc (.cells (tab 32 fun i => bv (hs p i)) 39)).drew = y2 at *
  generalize y1.heap.size = q2 at *
  refine og_tk (some 28) (.pointer (some ⟨s, 0, none⟩)) rfl rfl (by go_simp) (fun _ _ => by simp [execOp, go_sem]) ?_
  simp only [Act.put, pS]
  refine og_tk (some 29) (.pointer (some ⟨s, 0, none⟩)) rfl rfl (by go_simp) (fun _ _ => by simp [execOp, go_sem]) ?_
  simp only [Act.put, pS]
  refine og_tk (some 30) (.pointer (some ⟨s, 0, none⟩)) rfl rfl (by go_simp) (fun _ _ => by simp [execOp, go_sem]) ?_
  simp only [Act.put, pS]
  refine og_ld (some 31) 114 (.tmp 30) (.pointer (some ⟨s, 0, none⟩)) (.map (some pb)) rfl rfl (by go_simp) rfl rfl (fun y hy => by have h := hy.cell (map_ne HO2.out.box HO2.out.pres) HO2.out.box.k0; simp [Instr.loadAt, go_sem, h, Tryd.underlying114]) ?_
  simp only [Act.put, pS]
  refine og_ld (some 32) 39 (.tmp 6) (.pointer (some ⟨q2, 0, none⟩)) (.agg (tab 32 fun i => bv (hs p i))) rfl rfl (by go_simp) rfl rfl (fun y hy => loadHb (Wt.IsTab.kept HQ2.out.1 hy (map_ne HQ2.out.1 HO2.out.pres))) ?_
  simp only [Act.put, pS]
  refine og_ld (some 33) 37 (.tmp 3) (.pointer (some ⟨w.heap.size, 0, none⟩)) (.agg (tab 64 fun i => bv (p i))) rfl rfl (by go_simp) rfl rfl (fun y hy => loadPb (Wt.IsTab.kept HA2.out.b0 hy (map_ne HA2.out.b0 HO2.out.pres))) ?_
  simp only [Act.put, pS]
  refine og_f rfl (by go_simp) fun K hK => ?_
  refine wp_mapUpdate none rfl 114 (.tmp 31) (.tmp 32) (.tmp 33) _ _ _ rfl rfl rfl rfl w4 HR4.out ?_
  refine hK _ _ HM4.out.2.1 ?_
  clear hK K
  simp only [Act.put, pS]
  refine og_done (NoPanic.normal ?_)
  have HO4 : Hid (IsSto w4 T s kb ⟨putM S.pres (hs p) p, S.asked⟩ pb av sv) := Lib.hid (sto_put HO2.out HM4.out.1 HM4.out.2.1)
  have HN4 := Lib.hid (HN2.out.kept HM4.out.2.1 (fun e => HX.out.1 (e ▸ HO2.out.tp)) (fun e => HX.out.2.1 (e ▸ HO2.out.tp)))
  have HA4 := Lib.hid (HA2.out.kept HM4.out.2.1 (map_ne HA2.out.b0 HO2.out.pres) (map_ne HA2.out.b1 HO2.out.pres))
  have HQ4 : Hid (IsTab w4 q2 39 32 (fun i => bv (hs p i))) := Lib.hid (Wt.IsTab.kept HQ2.out.1 HM4.out.2.1 (map_ne HQ2.out.1 HO2.out.pres))
  have HK4 : Hid (Kept (Foot T kb fb) y w4) := Lib.hid ((HK2.out.mono fun _ _ h => h.elim).trans HM4.out.2.1 fun k _ hk => .inl (hk ▸ HO2.out.tp))
  have HL : Hid (y.heap.size ≤ q2 ∧ q2 < w4.heap.size ∧ kb < y.heap.size ∧ fb < y.heap.size) := Lib.hid ⟨HQ2.out.2.1, HQ4.out.lt, HN.out.lt.1, HN.out.lt.2⟩
  clear HO2 HN2 HA2 HT2 HQ2 HR4 HM4 HK2 HO HN
  go_upto_region 8 with (fail)
  have HNS : Hid (¬ (s = kb ∨ s = fb)) := Lib.hid (fun e => e.elim (fun e => HX.out.1 (e ▸ HO4.out.ts)) (fun e => HX.out.2.1 (e ▸ HO4.out.ts)))
  have HC := Lib.hid (note_walk kb fb (hs p) p w4.drew (HN4.out.kept (kept_drew w4) id id))
  refine wp_region_og (fun y' : World => Kept (fun k => k = kb ∨ k = fb) w4.drew y') (.take 0 (.take 1 (.take 2 (.take 3 (.take 4 (.take 5 (.one 6 .done))))))) (by kernel_rfl) (by kernel_rfl) (Kept.refl _ _) ?_
  have HO5 := Lib.hid (HO4.out.kept (kept_drew w4) fun _ _ h => h)
  have HA5 := Lib.hid (HA4.out.kept (kept_drew w4) id id)
  have HQ5 := Lib.hid (Wt.IsTab.kept HQ4.out (kept_drew w4) id)
  have HK5 := Lib.hid (HK4.out.drew)
  have HL : Hid (y.heap.size ≤ q2 ∧ q2 < w4.drew.heap.size ∧ kb < y.heap.size ∧ fb < y.heap.size) := Lib.hid HL.out
  clear HO4 HA4 HQ4 HK4 HN4
  generalize w4.drew = y5 at *
  refine og_tk (some 34) (.pointer (some ⟨s, 0, none⟩)) rfl rfl (by go_simp) (fun _ _ => by simp [execOp, go_sem]) ?_
  simp only [Act.put, pS]
  refine og_tk (some 35) (.pointer (some ⟨s, 0, none⟩)) rfl rfl (by go_simp) (fun _ _ => by simp [execOp, go_sem]) ?_
  simp only [Act.put, pS]
  refine og_tk (some 36) (.pointer (some ⟨s, 3, none⟩)) rfl rfl (by go_simp) (fun _ _ => by simp [execOp, go_sem]) ?_
  simp only [Act.put, pS]
  refine og_ld (some 37) 116 (.tmp 36) (.pointer (some ⟨s, 3, none⟩)) (.pointer (some ⟨kb, 0, none⟩)) rfl rfl (by go_simp) rfl rfl (fun y hy => by have h := hy.cell HNS.out HO5.out.box.k3; simp [Instr.loadAt, go_sem, h, Tryd.underlying116]) ?_
  simp only [Act.put, pS]
  refine og_ld (some 38) 39 (.tmp 6) (.pointer (some ⟨q2, 0, none⟩)) (.agg (tab 32 fun i => bv (hs p i))) rfl rfl (by go_simp) rfl rfl (fun y hy => loadHb (Wt.IsTab.kept HQ5.out hy (by have := HL.out; omega))) ?_
  simp only [Act.put, pS]
  refine og_ld (some 39) 37 (.tmp 3) (.pointer (some ⟨w.heap.size, 0, none⟩)) (.agg (tab 64 fun i => bv (p i))) rfl rfl (by go_simp) rfl rfl (fun y hy => loadPb (Wt.IsTab.kept HA5.out.b0 hy (by have := HX.out.2.2; omega))) ?_
  simp only [Act.put, pS]
  refine og_f rfl (by go_simp) fun K hK => ?_
  go_simp
  refine HC.out.mono ?_
  rintro e y6 ⟨he, hn6, hk6⟩
  obtain rfl : e = _ := he
  have HN6 := Lib.hid hn6
  have HK6 := Lib.hid hk6
  refine hK _ _ HK6.out ?_
  clear hK K hn6 hk6 HC
  refine og_done (NoPanic.normal ?_)
  have HO6 := Lib.hid (HO5.out.kept HK6.out fun k hk e => e.elim (fun e => HX.out.1 (e ▸ hk)) (fun e => HX.out.2.1 (e ▸ hk)))
  have HA6 := Lib.hid (HA5.out.kept HK6.out (by have := HX.out.2.2; omega) (by have := HX.out.2.2; omega))
  have HQ6 := Lib.hid (loadHb (Wt.IsTab.kept HQ5.out HK6.out (by have := HL.out; omega)))
  have HK7 : Hid (Kept (Foot T kb fb) y y6) := Lib.hid (HK5.out.trans HK6.out fun k _ hk => .inr hk)
  clear HO5 HA5 HQ5 HK5 HK6
  have HB1 := Lib.hid HA6.out.b1
  generalize hz : (fun _ : Nat => bv 0#8) = gz at *
  go_wp2_with (first
    | ((with_reducible refine wpList_loadE (P := Tryd.prog) (w := y6) (ty := 39) (x := .tmp 6) (p := .pointer (some ⟨q2, 0, none⟩)) (v := .agg (tab 32 fun i => bv (hs p i))) ?_ ?_ ?_ HQ6.out ?_); (· exact rfl); (· exact rfl); (· exact rfl))
    | ((with_reducible refine wpList_store_row (P := Tryd.prog) (w := y6) ?_ 39 (.tmp 4) (.tmp 41) ?_ (w.heap.size + 1) (tab 32 (fun i => bv (hs p i))) ?_ ?_ 39 (tab 32 gz) ?_ (infH _) ?_ (tab_one fun i => rfl) ?_); (· exact rfl); (· exact rfl); (· exact rfl); (· exact rfl); (· exact HB1.out); (· rw [tab_size, tab_size])))
  have hr : IsTab (World.setRow y6 (w.heap.size + 1) (tab 32 fun i => bv (hs p i))) (w.heap.size + 1) 39 32 fun i => bv (hs p i) := HB1.out.row
  have hk8 : Kept (fun k => k = w.heap.size + 1) y6 (World.setRow y6 (w.heap.size + 1) (tab 32 fun i => bv (hs p i))) := ⟨by simp, by simp, by simp, by simp, fun k _ hk => setRow_other _ _ _ _ hk⟩
  refine bodyPost_ret (Kc.results_cell_tmp rfl _ _ (w.heap.size + 1) 39 _ (0, 0) _ rfl hr undH rfl (infH _) .nilIface rfl) rfl ⟨rfl, ?_⟩
  have hkk : Kept (Foot T kb fb) w (World.setRow y6 (w.heap.size + 1) (tab 32 fun i => bv (hs p i))) := by
    have h1 : Kept (Foot T kb fb) w y6 := ((kept_none HBW.out.1).mono fun _ _ h => h.elim).trans HK7.out fun _ _ h => h
    exact (h1.trans hk8 (fun i hi e => by omega))
  have hTn : ¬ (w.heap.size + 1 = kb) ∧ ¬ (w.heap.size + 1 = fb) := by have := HX.out.2.2; omega
  exact ⟨⟨⟨pb, av, sv, HO6.out.kept hk8 fun k hk e => by have := HW.out.1 k hk; omega⟩, HN6.out.kept hk8 (fun e => hTn.1 e.symm) (fun e => hTn.2 e.symm), HX.out.1, HX.out.2.1, HW.out.2⟩, hkk⟩
end Wt
end Go.Proofs.YtdmffnjbholkkaaDoor
