/- Merged of Uf Ug. Own work. -/
import Derived.Test.YtcgpdijpppcbiaaGreatDoorQ27
import Derived.Test.YtcgpdijpppcbiaaGreatDoorQ23
namespace Go.Proofs.YtcgpdijpppcbiaaGreatDoor
open Go.RowKit
set_option linter.unusedVariables false
set_option linter.unusedSimpArgs false
namespace Wt
open Kc Mk
theorem rsum_pre (q : Nat) (p : Px) (w : World) (h : IsTab w q 73 64 fun i => bv (p i)) : Calls Tryz.prog 52 #[.slice (some ⟨q, 0, none⟩) 64 64] w fun e w' => e = .returned (.agg (tab 32 fun i => bv (hs p i))) ∧ Below w.heap.size w w' := by
  have h9 := rsum_walk (pre p) (some ⟨q, 0, none⟩) 64 w (isBs_pre h) (fun e => by cases e) (by rw [pre_len]; exact Nat.le_refl _) (by rw [pre_len]; decide)
  rw [pre_len] at h9
  exact h9
theorem srcP (w : World) (x : Px) : ((some ⟨w.heap.size, 0, none⟩ : Option Addr) = none ∧ 1 = 0 ∧ 1 = 0 ∧ flp 1 (fun _ => x) = []) ∨ ∃ ad, (some ⟨w.heap.size, 0, none⟩ : Option Addr) = some ad ∧ (flp 1 fun _ => x).length = 1 * 64 ∧ ∀ j u, (flp 1 fun _ => x)[j]? = some u → (w.alloc (.cells (tab 64 fun i => bv (x i)) 73)).cell? (ad.add j) = some u :=
  .inr ⟨_, rfl, flp_len _ _, src1p w x⟩
theorem kf_app (M : List (Hx × Px)) (h : Hx) (p : Px) : flat M.length (kf M) ++ flat 1 (fun _ => h) = flat (M ++ [(h, p)]).length (kf (M ++ [(h, p)])) := by
  rw [flat_append, List.length_append]
  refine flat_cong fun k hk => ?_
  have hk : k < M.length + 1 := hk
  unfold kf
  by_cases h1 : k < M.length
  · rw [if_pos h1]
    simp [List.getElem?_append, h1]
  · rw [if_neg h1]
    have : k = M.length := by omega
    subst this
    simp
theorem pf_app (M : List (Hx × Px)) (h : Hx) (p : Px) : flp M.length (pf M) ++ flp 1 (fun _ => p) = flp (M ++ [(h, p)]).length (pf (M ++ [(h, p)])) := by
  have e : ∀ k, k < M.length → pf (M ++ [(h, p)]) k = pf M k := fun k hk => by unfold pf; simp [List.getElem?_append, hk]
  have e2 : pf (M ++ [(h, p)]) M.length = p := by unfold pf; simp
  rw [List.length_append, List.length_singleton, ← flp_step M.length (pf (M ++ [(h, p)])), e2]
  congr 1
  unfold flp
  refine List.map_congr_left fun i hi => ?_
  have hi' : i < 64 * M.length := by simpa using hi
  rw [e (i / 64) (by omega)]
/-- Between the two appends. -/
structure Ra (W : World) (T : Nat → Prop) (r q q1 q2 : Nat) (S : Sto) (met : Bool) (h : Hx) (p : Px) (vh vp va : Value) (y : World) : Prop where
  box : Box4 y r 107 vh vp va (.bool met)
  hrow : y.ownsRow 0 74 32 vh (S.pres.length + 1) (flat S.pres.length (kf S.pres) ++ flat 1 fun _ => h)
  prow : y.ownsRow 0 73 64 vp S.pres.length (flp S.pres.length (pf S.pres))
  arow : y.ownsRow 0 74 32 va S.asked.length (fl S.asked)
  sp : IsTab y q 73 64 fun i => bv (p i)
  sr : IsTab y q1 74 32 fun _ => bv 0#8
  sh : IsTab y q2 74 32 fun i => bv (h i)
  th : ∀ k, vh.ownBlock = some k → (T k ∨ W.heap.size ≤ k) ∧ k ≠ r ∧ vp.ownBlock ≠ some k ∧ va.ownBlock ≠ some k ∧ k ≠ q1 ∧ k ≠ q2
  tp : ∀ k, vp.ownBlock = some k → T k ∧ k ≠ r
  ta : ∀ k, va.ownBlock = some k → T k ∧ k ≠ r ∧ vp.ownBlock ≠ some k
  tt : T r ∧ ∀ k, T k → k < W.heap.size
  o : W.heap.size ≤ q ∧ W.heap.size ≤ q1 ∧ W.heap.size ≤ q2 ∧ q1 ≠ q2
  kp : Kept T W y
theorem Ra.drew {W : World} {T : Nat → Prop} {r q q1 q2 : Nat} {S : Sto} {met : Bool} {h : Hx} {p : Px} {vh vp va : Value} {y : World} (H : Ra W T r q q1 q2 S met h p vh vp va y) : Ra W T r q q1 q2 S met h p vh vp va y.drew :=
  ⟨H.box.kept (Wt.kept_drew y) id, (Wt.kept_drew y).row H.hrow fun _ _ h => h, (Wt.kept_drew y).row H.prow fun _ _ h => h, (Wt.kept_drew y).row H.arow fun _ _ h => h, H.sp.drew, H.sr.drew, H.sh.drew, H.th, H.tp, H.ta, H.tt, H.o, H.kp.trans (Wt.kept_drew y) fun _ _ h => h.elim⟩
theorem ra_of {W : World} {T : Nat → Prop} {r q q1 q2 : Nat} {S : Sto} {met : Bool} {h : Hx} {p : Px} {vh vp va v' : Value} {y y' : World} (hr : IsRo W T r S met vh vp va) (hT : ∀ k, T k → k < W.heap.size) (hb : Below W.heap.size W y) (sp : IsTab y q 73 64 fun i => bv (p i)) (sr : IsTab y q1 74 32 fun _ => bv 0#8) (sh : IsTab y q2 74 32 fun i => bv (h i)) (ho : W.heap.size ≤ q ∧ W.heap.size ≤ q1 ∧ W.heap.size ≤ q2 ∧ q1 ≠ q2)
    (hown : y'.ownsRow 0 74 32 v' (S.pres.length + 1) (flat S.pres.length (kf S.pres) ++ flat 1 fun _ => h)) (hk : Kept (fun k => vh.ownBlock = some k) y y') (hat : ∀ k, v'.ownBlock = some k → vh.ownBlock = some k ∨ y.heap.size ≤ k) :
    Ra W T r q q1 q2 S met h p v' vp va (y'.setCell ⟨r, 0, none⟩ v') := by
  have hy := hr.below hb
  have hks : Kept (fun k => k = r) y' (y'.setCell ⟨r, 0, none⟩ v') := (Kept.refl (fun k => k = r) _).setCell (.inl rfl) _
  have hrl := hr.box.lt
  have hz := hb.size
  have hov : ∀ k, vh.ownBlock = some k → k < W.heap.size := fun k e => own_lt hr.hrow e
  have hop : ∀ k, vp.ownBlock = some k → k < W.heap.size := fun k e => own_lt hr.prow e
  have hoa : ∀ k, va.ownBlock = some k → k < W.heap.size := fun k e => own_lt hr.arow e
  have hb6 := hy.box.kept hk (fun e => (hy.th r e).2 rfl)
  have hvr : ∀ k, v'.ownBlock = some k → k ≠ r := fun k e => by
    rcases hat k e with h1 | h1
    · exact (hr.th k h1).2
    · omega
  have tk : ∀ {q T0 n : Nat} {g : Nat → Value}, W.heap.size ≤ q → IsTab y q T0 n g → IsTab (y'.setCell ⟨r, 0, none⟩ v') q T0 n g := fun {q T0 n g} h1 h2 => Wt.IsTab.kept (Wt.IsTab.kept h2 hk fun e => by have := hov _ e; omega) hks (by omega)
  refine ⟨hb6.p0 v', hks.row hown fun k e ek => hvr k e ek, hks.row (hk.row hy.prow fun k e e2 => (hy.tp k e).2.2 e2) fun k e e2 => (hy.tp k e).2.1 e2, hks.row (hk.row hy.arow fun k e e2 => (hy.ta k e).2.2.1 e2) fun k e e2 => (hy.ta k e).2.1 e2, tk ho.1 sp, tk ho.2.1 sr, tk ho.2.2.1 sh, fun k e => ?_, fun k e => ⟨(hr.tp k e).1, (hr.tp k e).2.1⟩, fun k e => ⟨(hr.ta k e).1, (hr.ta k e).2.1, (hr.ta k e).2.2.2⟩, ⟨hr.tr, hT⟩, ho, ((Kept.ofBelow hb).trans hk fun k _ e => (hr.th k e).1).trans hks fun k _ e => by rw [e]; exact hr.tr⟩
  have hq1 := sr.lt
  have hq2 := sh.lt
  rcases hat k e with h1 | h1
  · have := hov k h1
    exact ⟨.inl (hr.th k h1).1, (hr.th k h1).2, fun e2 => (hr.tp k e2).2.2 h1, fun e2 => (hr.ta k e2).2.2.1 h1, by omega, by omega⟩
  · exact ⟨.inr (by omega), by omega, fun e2 => by have := hop k e2; omega, fun e2 => by have := hoa k e2; omega, by omega, by omega⟩
/-- Behind both. -/
theorem ra_fin {W : World} {T : Nat → Prop} {r q q1 q2 : Nat} {S : Sto} {met : Bool} {h : Hx} {p : Px} {vh vp va v' : Value} {y y' : World} (H : Ra W T r q q1 q2 S met h p vh vp va y) (hap : Apart (S.pres ++ [(h, p)]))
    (hown : y'.ownsRow 0 73 64 v' (S.pres.length + 1) (flp S.pres.length (pf S.pres) ++ flp 1 fun _ => p)) (hk : Kept (fun k => vp.ownBlock = some k) y y') (hat : ∀ k, v'.ownBlock = some k → vp.ownBlock = some k ∨ y.heap.size ≤ k) :
    IsRo (y'.setCell ⟨r, 1, none⟩ v') (fun j => T j ∨ vh.ownBlock = some j ∨ v'.ownBlock = some j) r ⟨S.pres ++ [(h, p)], S.asked⟩ met vh v' va ∧ IsTab (y'.setCell ⟨r, 1, none⟩ v') q1 74 32 (fun _ => bv 0#8) ∧ IsTab (y'.setCell ⟨r, 1, none⟩ v') q2 74 32 (fun i => bv (h i)) ∧ Kept T W (y'.setCell ⟨r, 1, none⟩ v') ∧ ∀ j, (T j ∨ vh.ownBlock = some j ∨ v'.ownBlock = some j) → (T j ∨ W.heap.size ≤ j) ∧ j < (y'.setCell ⟨r, 1, none⟩ v').heap.size ∧ j ≠ q1 ∧ j ≠ q2 := by
  have hks : Kept (fun k => k = r) y' (y'.setCell ⟨r, 1, none⟩ v') := (Kept.refl (fun k => k = r) _).setCell (.inl rfl) _
  have hrl := H.box.lt
  have hrW := H.tt.2 r H.tt.1
  have hz := H.kp.size
  have hsz : (y'.setCell ⟨r, 1, none⟩ v').heap.size = y'.heap.size := by simp
  have hyy := hk.size
  have ho := H.o
  have hq1 := H.sr.lt
  have hq2 := H.sh.lt
  have hov : ∀ k, vh.ownBlock = some k → k < y.heap.size := fun k e => own_lt H.hrow e
  have hvr : ∀ k, v'.ownBlock = some k → k ≠ r := fun k e => by
    rcases hat k e with h1 | h1
    · exact (H.tp k h1).2
    · omega
  have hb6 := H.box.kept hk (fun e => (H.tp r e).2 rfl)
  have tk : ∀ {q T0 n : Nat} {g : Nat → Value}, W.heap.size ≤ q → IsTab y q T0 n g → IsTab (y'.setCell ⟨r, 1, none⟩ v') q T0 n g := fun {q T0 n g} h1 h2 => Wt.IsTab.kept (Wt.IsTab.kept h2 hk fun e => by have := H.tt.2 _ (H.tp _ e).1; omega) hks (by omega)
  refine ⟨⟨hb6.p1 v', hks.row (hk.row ?_ fun k e e2 => (H.th k e).2.2.1 e2) fun k e e2 => (H.th k e).2.1 e2, hks.row ?_ fun k e ek => hvr k e ek, hks.row (hk.row H.arow fun k e e2 => (H.ta k e).2.2 e2) fun k e e2 => (H.ta k e).2.1 e2, hap, .inl H.tt.1, fun k e => ⟨.inr (.inl e), (H.th k e).2.1⟩, fun k e => ⟨.inr (.inr e), hvr k e, fun e2 => ?_⟩, fun k e => ⟨.inl (H.ta k e).1, (H.ta k e).2.1, fun e2 => (H.th k e2).2.2.2.1 e, fun e2 => ?_⟩⟩, tk ho.2.1 H.sr, tk ho.2.2.1 H.sh, (H.kp.trans hk fun k _ e => (H.tp k e).1).trans hks fun k _ e => by rw [e]; exact H.tt.1, fun j hj => ?_⟩
  · have := H.hrow
    rw [kf_app S.pres h p] at this
    simpa using this
  · rw [pf_app S.pres h p] at hown
    simpa using hown
  · rcases hat k e with h1 | h1
    · exact (H.th k e2).2.2.1 h1
    · have := hov k e2; omega
  · rcases hat k e2 with h1 | h1
    · exact (H.ta k e).2.2 h1
    · have := H.tt.2 _ (H.ta k e).1; omega
  · rcases hj with hj | hj | hj
    · have := H.tt.2 _ hj
      exact ⟨.inl hj, by omega, by omega, by omega⟩
    · have := hov j hj
      exact ⟨(H.th j hj).1, by omega, (H.th j hj).2.2.2.2.1, (H.th j hj).2.2.2.2.2⟩
    · have hl := own_lt hown hj
      rcases hat j hj with h1 | h1
      · have := H.tt.2 _ (H.tp j h1).1
        exact ⟨.inl (H.tp j h1).1, by omega, by omega, by omega⟩
      · exact ⟨.inr (by omega), by omega, by omega, by omega⟩
set_option maxHeartbeats 8000000 in
set_option maxRecDepth 100000 in
theorem radd_new (T : Nat → Prop) (r : Nat) (S : Sto) (met : Bool) (p : Px) (w : World) (hs : IsR w T r S met) (hT : ∀ k, T k → k < w.heap.size) (hl : S.pres.length < 1073741824) (hno : ∀ i, i < S.pres.length → key (kf S.pres i) ≠ key (Wt.hs p)) (hap : Apart (S.pres ++ [(Wt.hs p, p)])) :
    Calls Tryz.prog 31 #[.pointer (some ⟨r, 0, none⟩), pv p] w fun e w' => e = .returned (dv (Wt.hs p)) ∧ ∃ T' : Nat → Prop, IsR w' T' r ⟨S.pres ++ [(Wt.hs p, p)], S.asked⟩ met ∧ (∀ j, T' j → (T j ∨ w.heap.size ≤ j) ∧ j < w'.heap.size) ∧ Kept T w w' := by
  obtain ⟨vh, vp, va, hro⟩ := hs
  obtain ⟨ah, nh, ch, hvh⟩ := own_slice hro.hrow
  subst hvh
  obtain ⟨ap, np, cp, hvp⟩ := own_slice hro.prow
  subst hvp
  have HRO := Lib.hid (And.intro hro hT)
  obtain ⟨h, hh⟩ : ∃ h, Wt.hs p = h := ⟨_, rfl⟩
  rw [hh] at hno hap ⊢
  have HHH := Lib.hid (And.intro hh (And.intro hno (And.intro hap hl)))
  clear hro hT hh hno hap hl
  have z0 := zero26
  generalize hz : (tab 32 fun _ => bv 0#8) = zr at *
  have HZR := Lib.hid hz
  have HA : Hid (IsTab ((w.alloc (.cells (tab 64 fun i => bv (p i)) 73)).alloc (.cells zr 74)) w.heap.size 73 64 (fun i => bv (p i)) ∧ IsTab ((w.alloc (.cells (tab 64 fun i => bv (p i)) 73)).alloc (.cells zr 74)) (w.heap.size + 1) 74 32 (fun _ => bv 0#8) ∧ Below w.heap.size w ((w.alloc (.cells (tab 64 fun i => bv (p i)) 73)).alloc (.cells zr 74)) ∧ ((w.alloc (.cells (tab 64 fun i => bv (p i)) 73)).alloc (.cells zr 74)).heap.size = w.heap.size + 2) := by
    refine Lib.hid ⟨(IsTab.new w _ 64 _).alloc _, ?_, ((Below.refl _ _).alloc (Nat.le_refl _) _).alloc (by simp) _, by simp⟩
    rw [← HZR.out]
    have := IsTab.new (w.alloc (.cells (tab 64 fun i => bv (p i)) 73)) 74 32 fun _ => bv 0#8
    simpa using this
  clear hz
  unfold dv pv
  go_enter Tryz.func31, Tryz.ntmps31
  go_upto_region 1 with (fail)
  generalize ((w.alloc (.cells (tab 64 fun i => bv (p i)) 73)).alloc (.cells zr 74)) = y0 at *
  have s1 := slPreA w.heap.size
  have hsm := rsum_pre w.heap.size p y0 HA.out.1
  rw [HHH.out.1] at hsm
  have HSM := Lib.hid hsm
  clear hsm
  go_upto_region 2 with (first
    | (go_at_call 52; (with_reducible refine HSM.out.mono ?_); rintro e y2 ⟨he, hb⟩; obtain rfl : e = _ := he; have HB2 := Lib.hid hb; clear hb HSM)
    | ((with_reducible refine wpList_store_row (P := Tryz.prog) (w := y2.alloc (.cells zr 74)) ?_ 74 (.tmp 5) (.tmp 8) ?_ y2.heap.size (tab 32 fun i => bv (h i)) ?_ ?_ 74 zr (heap_alloc_last y2 _) (by rw [tab_size]; exact infR) ?_ (one_bv _ _) ?_); (· exact rfl); (· exact rfl); (· exact rfl); (· exact rfl); (· rw [← HZR.out] <;> rw [tab_size, tab_size]); rw [World.setRow_alloc_new]; simp only [Act.put]))
  clear s1
  have H3 : Hid (IsTab (y2.alloc (.cells (tab 32 fun i => bv (h i)) 74)) w.heap.size 73 64 (fun i => bv (p i)) ∧ IsTab (y2.alloc (.cells (tab 32 fun i => bv (h i)) 74)) (w.heap.size + 1) 74 32 (fun _ => bv 0#8) ∧ IsTab (y2.alloc (.cells (tab 32 fun i => bv (h i)) 74)) y2.heap.size 74 32 (fun i => bv (h i)) ∧ Below w.heap.size w (y2.alloc (.cells (tab 32 fun i => bv (h i)) 74)) ∧ w.heap.size + 1 < y2.heap.size) := Lib.hid ⟨(HA.out.1.below HB2.out).alloc _, (HA.out.2.1.below HB2.out).alloc _, IsTab.new y2 _ 32 _, bl (bl HA.out.2.2.1 HB2.out) (ba _ _), by have := HA.out.2.2.2; have := HB2.out.size; omega⟩
  clear HA HB2
  generalize y2.alloc (.cells (tab 32 fun i => bv (h i)) 74) = y3 at *
  generalize y2.heap.size = q2 at *
  have hix := index_walk T r S met h S.pres.length y3 ⟨_, _, va, HRO.out.1.below H3.out.2.2.2.1⟩ HHH.out.2.2.2 (Nat.le_refl _) HHH.out.2.1 (.inl rfl) (-1) ⟨fun h => by omega, fun _ => rfl⟩
  unfold dv at hix
  have HC := Lib.hid hix
  have HLH := Lib.hid (loadRb H3.out.2.2.1)
  clear hix
  go_upto_region 4 with (first
    | ((with_reducible refine wpList_loadE (P := Tryz.prog) (w := y3) (ty := 74) (x := .tmp 5) (p := .pointer (some ⟨q2, 0, none⟩)) (v := .agg (tab 32 fun i => bv (h i))) ?_ ?_ ?_ HLH.out ?_); (· exact rfl); (· exact rfl); (· exact rfl))
    | (go_at_call 53; (with_reducible refine HC.out.mono ?_); rintro e y4 ⟨he, hb⟩; obtain rfl : e = _ := he; have HB4 := Lib.hid hb; clear hb HC))
  have H5 : Hid (IsTab y4.drew w.heap.size 73 64 (fun i => bv (p i)) ∧ IsTab y4.drew (w.heap.size + 1) 74 32 (fun _ => bv 0#8) ∧ IsTab y4.drew q2 74 32 (fun i => bv (h i)) ∧ Below w.heap.size w y4.drew ∧ w.heap.size + 1 < q2) := Lib.hid ⟨(H3.out.1.below HB4.out).drew, (H3.out.2.1.below HB4.out).drew, (H3.out.2.2.1.below HB4.out).drew, (bl H3.out.2.2.2.1 HB4.out).drew, H3.out.2.2.2.2⟩
  clear H3 HB4 HLH
  have HLX : Hid (S.pres.length + 1 ≤ maxLen ∧ (S.pres.length + 1) * 32 ≤ 140737488355328) := Lib.hid (by have := HHH.out; unfold maxLen; omega)
  have HLY : Hid (S.pres.length + 1 ≤ maxLen ∧ (S.pres.length + 1) * 64 ≤ 140737488355328) := Lib.hid (by have := HHH.out; unfold maxLen; omega)
  obtain ⟨i0, hi0⟩ := infRa
  have HI := Lib.hid hi0
  clear hi0
  have HOW : Hid (∀ q, (Value.slice ah nh ch).ownBlock = some q → q < w.heap.size ∧ q ≠ r) := Lib.hid fun q e => ⟨own_lt HRO.out.1.hrow e, (HRO.out.1.th q e).2⟩
  have HR1 := Lib.hid (HRO.out.1.below H5.out.2.2.2.1)
  refine wp_region_oz (fun z : World => Kept (fun k => (Value.slice ah nh ch).ownBlock = some k) y4.drew z) 10 (.take 0 (.take 1 (.take 2 (.take 3 (.take 4 (.take 5 (.one 6 (.one 7 (.one 8 (.one 9 (.one 10 .done))))))))))) (by kernel_rfl) (by kernel_rfl) (Kept.refl _ _) ?_
  generalize y4.drew = y1 at *
  refine oz_tk (some 14) (.pointer (some ⟨r, 0, none⟩)) rfl rfl (by go_simp) (fun _ _ => by simp [execOp, go_sem]) ?_
  simp only [Act.put, pS]
  refine oz_tk (some 15) (.pointer (some ⟨r, 0, none⟩)) rfl rfl (by go_simp) (fun _ _ => by simp [execOp, go_sem]) ?_
  simp only [Act.put, pS]
  refine oz_tk (some 16) (.pointer (some ⟨r, 0, none⟩)) rfl rfl (by go_simp) (fun _ _ => by simp [execOp, go_sem]) ?_
  simp only [Act.put, pS]
  refine oz_tk (some 17) (.pointer (some ⟨r, 0, none⟩)) rfl rfl (by go_simp) (fun _ _ => by simp [execOp, go_sem]) ?_
  simp only [Act.put, pS]
  refine oz_ld (some 18) 105 (.tmp 17) (.pointer (some ⟨r, 0, none⟩)) (.slice ah nh ch) rfl rfl (by go_simp) rfl rfl (fun y hy => by have h := hy.cell (fun e => (HOW.out r e).2 rfl) HR1.out.box.k0; simp [Instr.loadAt, go_sem, h, Tryz.underlying105]) ?_
  simp only [Act.put, pS]
  refine oz_ld (some 19) 74 (.tmp 5) (.pointer (some ⟨q2, 0, none⟩)) (.agg (tab 32 fun i => bv (h i))) rfl rfl (by go_simp) rfl rfl (fun y hy => loadRb (Wt.IsTab.kept H5.out.2.2.1 hy fun e => by have := (HOW.out _ e).1; have := H5.out.2.2.2.2; omega)) ?_
  simp only [Act.put, pS]
  refine oz_f rfl (by go_simp) fun K hK => ?_
  refine wp_build1h 105 (.tmp 19) rfl (.agg (tab 32 fun i => bv (h i))) (.slice (some ⟨y1.heap.size, 0, none⟩) 1 1) rfl (y1.alloc (.cells (tab 32 fun i => bv (h i)) 74)) (buildRa h y1) ?_
  have HA : Hid (Kept (fun k => (Value.slice ah nh ch).ownBlock = some k) y1 (y1.alloc (.cells (tab 32 fun i => bv (h i)) 74)) ∧ (y1.alloc (.cells (tab 32 fun i => bv (h i)) 74)).heap.size = y1.heap.size + 1) := Lib.hid ⟨(Kept.refl _ _).alloc _, by simp⟩
  have HR6 : Hid ((y1.alloc (.cells (tab 32 fun i => bv (h i)) 74)).ownsRow 0 74 32 (.slice ah nh ch) S.pres.length (flat S.pres.length (kf S.pres))) := Lib.hid (((Kept.refl (fun _ => False) y1).alloc _).row HR1.out.hrow fun _ _ h => h)
  refine hK _ _ HA.out.1 ?_
  clear hK K
  simp only [Act.put, pS]
  refine oz_f rfl (by go_simp) fun K hK => ?_
  refine wp_append_any (.tmp 18) (.tmp 20) 105 rfl 0 74 i0 (dv fun _ => 0#8) 32 32 undRa HI.out zcellsH (by decide) (.slice ah nh ch) S.pres.length (flat S.pres.length (kf S.pres)) rfl HR6.out (some ⟨y1.heap.size, 0, none⟩) 1 1 (flat 1 fun _ => h) rfl (src1r y1 h) (flat_one _ _) HLX.out.1 HLX.out.2 (Nat.zero_le _) ?_
  intro V7 y7 hown hgr hat
  obtain ⟨a7, n7, c7, rfl⟩ := own_slice hown
  have HK7 : Hid (Kept (fun k => (Value.slice ah nh ch).ownBlock = some k) y1 y7) := Lib.hid (HA.out.1.trans ⟨hgr.os, hgr.tape, hgr.output, hgr.size, fun k hk hn => hgr.block k hk (fun e => hn e.symm)⟩ fun _ _ h => h)
  have HF := Lib.hid (ra_of (p := p) HRO.out.1 HRO.out.2 H5.out.2.2.2.1 H5.out.1 H5.out.2.1 H5.out.2.2.1 ⟨Nat.le_refl _, by omega, by have := H5.out.2.2.2.2; omega, by have := H5.out.2.2.2.2; omega⟩ hown HK7.out (fun k e => (hat k e).imp id fun e => by have := HA.out.2; omega))
  clear hown hgr hat
  refine hK _ _ HK7.out ?_
  clear hK K
  simp only [Act.put, pS]
  refine oz_f rfl (by go_simp) fun K hK => ?_
  go_simp
  refine hK _ _ HK7.out ?_
  clear hK K
  refine oz_f rfl (by go_simp) fun K hK => ?_
  go_simp
  refine hK _ _ HK7.out ?_
  clear hK K
  have hb7 := Box4.kept HR1.out.box HK7.out (fun e => (HOW.out r e).2 rfl)
  have kd := hb7.k0
  have fd := hb7.f 0
  clear hb7
  refine oz_z rfl (by go_simp) fun K hK => ?_
  go_simp
  refine hK _ _ ?_
  clear hK K kd fd
  refine oz_done (NoPanic.normal ?_)
  obtain ⟨vh7, hvh7⟩ : ∃ vh7, Value.slice a7 n7 c7 = vh7 := ⟨_, rfl⟩
  clear HK7 HA HR6 HR1 HOW HI
  clear i0
  go_upto_region 5 with (fail)
  have HF := Lib.hid HF.out.drew
  obtain ⟨i0, hi0⟩ := infPa
  have HI := Lib.hid hi0
  clear hi0
  have HOW : Hid (∀ q, (Value.slice ap np cp).ownBlock = some q → q < w.heap.size ∧ q ≠ r) := Lib.hid fun q e => ⟨own_lt HRO.out.1.prow e, (HRO.out.1.tp q e).2.1⟩
  have HQL : Hid (w.heap.size + 1 < q2) := Lib.hid H5.out.2.2.2.2
  clear H5 hvh7
  refine wp_region_oz (fun z : World => Kept (fun k => (Value.slice ap np cp).ownBlock = some k) ((World.setCell y7 ⟨r, 0, none⟩ (.slice a7 n7 c7)).drew) z) 10 (.take 0 (.take 1 (.take 2 (.take 3 (.take 4 (.take 5 (.one 6 (.one 7 (.one 8 (.one 9 (.one 10 .done))))))))))) (by kernel_rfl) (by kernel_rfl) (Kept.refl _ _) ?_
  obtain ⟨vh7, HF1⟩ : ∃ vh7, Hid (Ra w T r w.heap.size (w.heap.size + 1) q2 S met h p vh7 (.slice ap np cp) va ((World.setCell y7 ⟨r, 0, none⟩ (.slice a7 n7 c7)).drew)) := ⟨_, HF⟩
  clear HF
  generalize ((World.setCell y7 ⟨r, 0, none⟩ (.slice a7 n7 c7)).drew) = y1 at *
  refine oz_tk (some 24) (.pointer (some ⟨r, 0, none⟩)) rfl rfl (by go_simp) (fun _ _ => by simp [execOp, go_sem]) ?_
  simp only [Act.put, pS]
  refine oz_tk (some 25) (.pointer (some ⟨r, 0, none⟩)) rfl rfl (by go_simp) (fun _ _ => by simp [execOp, go_sem]) ?_
  simp only [Act.put, pS]
  refine oz_tk (some 26) (.pointer (some ⟨r, 0, none⟩)) rfl rfl (by go_simp) (fun _ _ => by simp [execOp, go_sem]) ?_
  simp only [Act.put, pS]
  refine oz_tk (some 27) (.pointer (some ⟨r, 1, none⟩)) rfl rfl (by go_simp) (fun _ _ => by simp [execOp, go_sem]) ?_
  simp only [Act.put, pS]
  refine oz_ld (some 28) 69 (.tmp 27) (.pointer (some ⟨r, 1, none⟩)) (.slice ap np cp) rfl rfl (by go_simp) rfl rfl (fun y hy => by have h := hy.cell (fun e => (HOW.out r e).2 rfl) HF1.out.box.k1; simp [Instr.loadAt, go_sem, h, Tryz.underlying69]) ?_
  simp only [Act.put, pS]
  refine oz_ld (some 29) 73 (.tmp 3) (.pointer (some ⟨w.heap.size, 0, none⟩)) (.agg (tab 64 fun i => bv (p i))) rfl rfl (by go_simp) rfl rfl (fun y hy => loadPb (Wt.IsTab.kept HF1.out.sp hy fun e => by have := (HOW.out _ e).1; omega)) ?_
  simp only [Act.put, pS]
  refine oz_f rfl (by go_simp) fun K hK => ?_
  refine wp_build1h 69 (.tmp 29) rfl (.agg (tab 64 fun i => bv (p i))) (.slice (some ⟨y1.heap.size, 0, none⟩) 1 1) rfl (y1.alloc (.cells (tab 64 fun i => bv (p i)) 73)) (buildPa p y1) ?_
  have HA : Hid (Kept (fun k => (Value.slice ap np cp).ownBlock = some k) y1 (y1.alloc (.cells (tab 64 fun i => bv (p i)) 73)) ∧ (y1.alloc (.cells (tab 64 fun i => bv (p i)) 73)).heap.size = y1.heap.size + 1) := Lib.hid ⟨(Kept.refl _ _).alloc _, by simp⟩
  have HR6 : Hid ((y1.alloc (.cells (tab 64 fun i => bv (p i)) 73)).ownsRow 0 73 64 (.slice ap np cp) S.pres.length (flp S.pres.length (pf S.pres))) := Lib.hid (((Kept.refl (fun _ => False) y1).alloc _).row HF1.out.prow fun _ _ h => h)
  refine hK _ _ HA.out.1 ?_
  clear hK K
  simp only [Act.put, pS]
  refine oz_f rfl (by go_simp) fun K hK => ?_
  refine wp_append_any (.tmp 28) (.tmp 30) 69 rfl 0 73 i0 (pv zp) 64 64 undPa HI.out zcellsP (by decide) (.slice ap np cp) S.pres.length (flp S.pres.length (pf S.pres)) rfl HR6.out (some ⟨y1.heap.size, 0, none⟩) 1 1 (flp 1 fun _ => p) rfl (srcP y1 p) (flp_one _ _) HLY.out.1 HLY.out.2 (Nat.zero_le _) ?_
  intro V9 y9 hown hgr hat
  obtain ⟨a9, n9, c9, rfl⟩ := own_slice hown
  have HK9 : Hid (Kept (fun k => (Value.slice ap np cp).ownBlock = some k) y1 y9) := Lib.hid (HA.out.1.trans ⟨hgr.os, hgr.tape, hgr.output, hgr.size, fun k hk hn => hgr.block k hk (fun e => hn e.symm)⟩ fun _ _ h => h)
  have HF := Lib.hid (ra_fin HF1.out HHH.out.2.2.1 hown HK9.out (fun k e => (hat k e).imp id fun e => by have := HA.out.2; omega))
  clear hown hgr hat
  refine hK _ _ HK9.out ?_
  clear hK K
  simp only [Act.put, pS]
  refine oz_f rfl (by go_simp) fun K hK => ?_
  go_simp
  refine hK _ _ HK9.out ?_
  clear hK K
  refine oz_f rfl (by go_simp) fun K hK => ?_
  go_simp
  refine hK _ _ HK9.out ?_
  clear hK K
  have hb7 := Box4.kept HF1.out.box HK9.out (fun e => (HOW.out r e).2 rfl)
  have kd := hb7.k1
  have fd := hb7.f 1
  clear hb7
  refine oz_z rfl (by go_simp) fun K hK => ?_
  go_simp
  refine hK _ _ ?_
  clear hK K kd fd
  refine oz_done (NoPanic.normal ?_)
  have H10 : Hid (IsTab (World.setCell y9 ⟨r, 1, none⟩ (.slice a9 n9 c9)) q2 74 32 (fun i => bv (h i)) ∧ IsTab (World.setCell y9 ⟨r, 1, none⟩ (.slice a9 n9 c9)) (w.heap.size + 1) 74 32 (fun _ => bv 0#8) ∧ ∃ T', IsR (World.setCell y9 ⟨r, 1, none⟩ (.slice a9 n9 c9)) T' r ⟨S.pres ++ [(h, p)], S.asked⟩ met ∧ (∀ j, T' j → (T j ∨ w.heap.size ≤ j) ∧ j < (World.setCell y9 ⟨r, 1, none⟩ (.slice a9 n9 c9)).heap.size ∧ j ≠ w.heap.size + 1 ∧ j ≠ q2) ∧ Kept T w (World.setCell y9 ⟨r, 1, none⟩ (.slice a9 n9 c9))) := by
    obtain ⟨b1, b2, b3, b4, b5⟩ := HF.out
    exact Lib.hid ⟨b3, b2, _, ⟨_, _, _, b1⟩, b5, b4⟩
  clear HF HF1 HK9
  generalize World.setCell y9 ⟨r, 1, none⟩ (.slice a9 n9 c9) = y10 at *
  have HLH := Lib.hid (loadRb H10.out.1)
  go_wp2_with (first
    | ((with_reducible refine wpList_loadE (P := Tryz.prog) (w := y10) (ty := 74) (x := .tmp 5) (p := .pointer (some ⟨q2, 0, none⟩)) (v := .agg (tab 32 fun i => bv (h i))) ?_ ?_ ?_ HLH.out ?_); (· exact rfl); (· exact rfl); (· exact rfl))
    | ((with_reducible refine wpList_store_row (P := Tryz.prog) (w := y10) ?_ 74 (.tmp 4) (.tmp 53) ?_ (w.heap.size + 1) (tab 32 fun i => bv (h i)) ?_ ?_ 74 (tab 32 fun _ => bv 0#8) ?_ (by rw [tab_size]; exact infR) ?_ (one_bv _ _) ?_); (· exact rfl); (· exact rfl); (· exact rfl); (· exact rfl); (· exact H10.out.2.1); (· rw [tab_size, tab_size])))
  have hr : IsTab (y10.setRow (w.heap.size + 1) (tab 32 fun i => bv (h i))) (w.heap.size + 1) 74 32 fun i => bv (h i) := H10.out.2.1.row
  have hk : Kept (fun k => k = w.heap.size + 1) y10 (y10.setRow (w.heap.size + 1) (tab 32 fun i => bv (h i))) := ⟨by simp, by simp, by simp, by simp, fun k _ hk => setRow_other _ _ _ _ hk⟩
  obtain ⟨T', c1, c2, c3⟩ := H10.out.2.2
  exact bodyPost_ret (results_cell_row rfl _ _ (w.heap.size + 1) 74 _ (0, 0) _ rfl hr und26 rfl (by rw [tab_size]; exact infR)) rfl ⟨rfl, T', c1.kept hk fun j hj => (c2 j hj).2.2.1, fun j hj => ⟨(c2 j hj).1, by simpa using (c2 j hj).2.1⟩, c3.trans hk fun k hlt e => by omega⟩
end Wt
end Go.Proofs.YtcgpdijpppcbiaaGreatDoor
namespace Go.Proofs.YtcgpdijpppcbiaaGreatDoor
open Go.RowKit
set_option linter.unusedVariables false
set_option linter.unusedSimpArgs false
namespace Mk
open Kc
theorem undRs : Tryz.prog.underlying 105 = some (.slice 74) := by kernel_rfl
theorem infRs : ∃ i, Tryz.prog.info? 74 = some i ∧ i.zero = some (dv fun _ => 0#8) ∧ i.size = 32 ∧ i.bytes = 32 :=
  ⟨(Tryz.prog.info? 74).get (by kernel_rfl), by kernel_rfl, by kernel_rfl, by kernel_rfl, by kernel_rfl⟩
theorem flat1 (x : Hx) : flat 1 (fun _ => x) = (tab 32 fun i => bv (x i)).toList := by
  unfold flat tab
  simp only [Nat.mul_one]
  exact List.map_congr_left fun i hi => by rw [Nat.mod_eq_of_lt (by simpa using hi)]
theorem zcells : (dv fun _ => 0#8).cells.size = 32 := by show (tab 32 _).size = 32; rw [tab_size]
theorem flat_step (h : Nat) (g : Nat → Hx) : flat h g ++ flat 1 (fun _ => g h) = flat (h + 1) g := by
  rw [flat_append]
  exact flat_cong fun k hk => by
    split
    · rfl
    · rw [show k = h from by omega]
theorem buildR (x : Hx) (w : World) : (Instr.buildSlice 105 1 #[(0, dv x)]).run Tryz.prog w = .ok (.slice (some ⟨w.heap.size, 0, none⟩) 1 1) (w.alloc (.cells (tab 32 fun i => bv (x i)) 74)) := by kernel_rfl
theorem mk1R (w : World) : (Instr.makeSlice 105 (.int .i64 1) (.int .i64 1)).run Tryz.prog w = .ok (.slice (some ⟨w.heap.size, 0, none⟩) 1 1) (w.alloc (.cells (tab 32 fun _ => bv 0#8) 74)) := by kernel_rfl
theorem src1R' (w : World) (x : Hx) : (flat 1 fun _ => x).length = 1 * 32 ∧ ∀ j u, (flat 1 fun _ => x)[j]? = some u → (w.alloc (.cells (tab 32 fun i => bv (x i)) 74)).cell? ((⟨w.heap.size, 0, none⟩ : Addr).add j) = some u :=
  ⟨flat_len _ _, fun j u hu => by
    rw [flat1] at hu
    rw [add_at, Nat.zero_add, cell_of_row _ _ _ _ _ _ (heap_alloc_last w _)]
    simpa using hu⟩
theorem owns1 (w : World) (x : Hx) : (w.alloc (.cells (tab 32 fun i => bv (x i)) 74)).ownsRow w.heap.size 74 32 (.slice (some ⟨w.heap.size, 0, none⟩) 1 1) 1 (flat 1 fun _ => x) :=
  ⟨by rw [flat_len], .inr ⟨w.heap.size, 1, _, rfl, Nat.le_refl _, heap_alloc_last w _, Nat.le_refl _, by decide, by rw [tab_size], by rw [flat1]; exact List.take_of_length_le (by simp [tab])⟩⟩
structure Zs (W : World) (k : Nat) (V : Value) (y : World) : Prop where
  row : y.ownsRow W.heap.size 74 32 V k (flat k zero)
  below : Below W.heap.size W y
theorem Zs.next {W y y' : World} {k : Nat} {V : Value} (h : Zs W k V y) (hb : Below y.heap.size y y') : Zs W k V y' :=
  ⟨(Kept.ofBelow (S := fun _ => False) hb).row h.row (fun _ _ h => h), bl h.below hb⟩
theorem Zs.drew {W y : World} {k : Nat} {V : Value} (h : Zs W k V y) : Zs W k V y.drew := ⟨h.row, h.below.drew⟩
set_option maxHeartbeats 2000000 in
set_option maxRecDepth 100000 in
theorem zeros_walk (w : World) :
    Calls Tryz.prog 48 #[] w fun e w' => ∃ V, e = .returned V ∧ w'.ownsRow w.heap.size 74 32 V 17 (flat 17 zero) ∧ Below w.heap.size w w' := by
  have hmk := mk1R
  obtain ⟨i0, hi0, hi1, hi2, hi3⟩ := infRs
  have HI := Lib.hid (And.intro hi0 (And.intro hi1 (And.intro hi2 hi3)))
  clear hi0 hi1 hi2 hi3
  go_enter Tryz.func48, Tryz.ntmps48
  go_upto_region 3 with (fail)
  have H1 : Hid (Zs w 1 (.slice (some ⟨w.heap.size, 0, none⟩) 1 1) (w.alloc (.cells (tab 32 fun _ => bv 0#8) 74))) := by
    have h1 := owns1 w (fun _ => 0#8)
    rw [show flat 1 (fun _ => fun _ => 0#8) = flat 1 zero from flat_cong fun k hk => by rw [show k = 0 by omega]; rfl] at h1
    exact Lib.hid ⟨h1, (Below.refl _ _).alloc (Nat.le_refl _) _⟩
  clear hmk
  generalize w.alloc (.cells (tab 32 fun _ => bv 0#8) 74) = y0 at *
  generalize (Value.slice (some ⟨w.heap.size, 0, none⟩) 1 1) = V0 at *
  go_loopw [1, 2] (fun tv t y => ∃ k : Nat, k ≤ 16 ∧ t = .int .i64 k ∧ Hid (Zs w (k + 1) tv y)) (fun _ t _ => 16 - (intOf t).toNat)
  case atStart => exact ⟨0, by decide, rfl, H1⟩
  case round =>
    obtain ⟨k, hk, rfl, hp⟩ := hrel
    clear H1
    generalize u1 = V at *
    by_cases hlt : (k : Int) < 16
    · go_upto_region 5 with (fail)
      obtain ⟨a1, c1, rfl, hs1, hn1, hc1, hc2, _⟩ := hs_of hp.out.row
      obtain ⟨b, o, rfl, _⟩ := hs1.at (show k < k + 1 by omega)
      have hld : ∀ u, Zs w (k + 1) (.slice (some ⟨b, o, none⟩) (k + 1) c1) u → (Instr.loadAt 74 (.pointer (some ⟨b, o + k * 32, none⟩))).run Tryz.prog u = .ok (dv (zero k)) u := fun u hu => by
        obtain ⟨a2, c2, e2, hs2, _⟩ := hs_of hu.row
        injection e2 with e2 e3 e4
        subst e2
        obtain ⟨b3, o3, e5, h5⟩ := hs2.at (show k < k + 1 by omega)
        injection e5 with e5
        injection e5 with e6 e7
        subst e6 e7
        exact loadR h5 (k := k) (p := o + k * 32) (by omega) (by omega)
      have LD := Lib.hid hld
      have hk0 : (0 : Int) ≤ (k : Int) ∧ (k : Int) < (k : Int) + 1 := by omega
      have HK := Lib.hid hk0
      clear hld hs1 hn1 hk0
      refine wp_region_ord (Zs w (k + 1) (.slice (some ⟨b, o, none⟩) (k + 1) c1)) [(0, true), (1, true), (2, true), (3, true), (4, true), (5, true), (6, true), (7, true), (8, true), (9, false), (10, false), (11, false), (12, false)] (by kernel_rfl) (by kernel_rfl) hp.out.drew ?_
      refine wpOrd_tk (some 8) (.slice (some ⟨b, o, none⟩) (k + 1) c1) rfl rfl (by rfl) (fun _ _ => rfl) ?_
      simp only [Act.put, pS]
      refine wpOrd_tk (some 9) (.slice (some ⟨b, o, none⟩) (k + 1) c1) rfl rfl (by rfl) (fun _ _ => rfl) ?_
      simp only [Act.put, pS]
      refine wpOrd_tk (some 10) (.int .i64 k) rfl rfl (by rfl) (fun _ _ => rfl) ?_
      simp only [Act.put, pS]
      refine wpOrd_tk (some 11) (.pointer (some ⟨b, o + k * 32, none⟩)) rfl rfl (by rfl) (fun _ _ => by have := HK.out; simp [execOp, go_sem, this]) ?_
      simp only [Act.put, pS]
      refine wpOrd_ld (some 12) 74 (.tmp 11) (.pointer (some ⟨b, o + k * 32, none⟩)) (dv (zero k)) rfl rfl (by rfl) rfl rfl LD.out ?_
      simp only [Act.put, pS]
      refine wpOrd_tk (some 13) (.slice (some ⟨b, o, none⟩) (k + 1) c1) rfl rfl (by rfl) (fun _ _ => rfl) ?_
      simp only [Act.put, pS]
      refine wpOrd_tk (some 14) (.int .i64 k) rfl rfl (by rfl) (fun _ _ => rfl) ?_
      simp only [Act.put, pS]
      refine wpOrd_tk (some 15) (.pointer (some ⟨b, o + k * 32, none⟩)) rfl rfl (by rfl) (fun _ _ => by have := HK.out; simp [execOp, go_sem, this]) ?_
      simp only [Act.put, pS]
      refine wpOrd_ld (some 16) 74 (.tmp 15) (.pointer (some ⟨b, o + k * 32, none⟩)) (dv (zero k)) rfl rfl (by rfl) rfl rfl LD.out ?_
      simp only [Act.put, pS]
      have HPR := Lib.hid (rpair_dv (zero k) (zero k) wr.drew)
      have HD := Lib.hid hp.out.drew
      clear hp LD
      generalize wr.drew = y0 at *
      refine wpOrd_f (o := ⟨some 17, .call { callee := .value (.func 60), args := #[.tmp 12, .tmp 16], argTypes := #[74, 74] }, 74, "ref.go:38", _, none⟩) rfl (by rfl) fun J hJ => ?_
      go_simp
      refine HPR.out.mono ?_
      rintro e y1 ⟨rfl, hb⟩
      have HZ := Lib.hid (HD.out.next hb)
      clear hb HD HPR
      refine hJ _ _ HZ.out ?_
      clear hJ J
      try simp only [Act.put, pS]
      have hba : Below y1.heap.size y1 (y1.alloc (.cells (tab 32 fun j => bv (pr (zero k) (zero k) j)) 74)) := (Below.refl _ _).alloc (Nat.le_refl _) _
      have HB := Lib.hid (HZ.out.next hba)
      clear hba
      refine wpOrd_f (o := ⟨some 18, .buildSlice 105 1 #[(0, .tmp 17)], 105, "ref.go:38", _, none⟩) rfl (by rfl) fun J hJ => ?_
      refine wp_build1h 105 (.tmp 17) rfl (dv (pr (zero k) (zero k))) (.slice (some ⟨y1.heap.size, 0, none⟩) 1 1) rfl (y1.alloc (.cells (tab 32 fun j => bv (pr (zero k) (zero k) j)) 74)) (buildR _ y1) ?_
      refine hJ _ _ HB.out ?_
      clear hJ J
      simp only [Act.put, pS]
      have HSR := Lib.hid (src1R' y1 (pr (zero k) (zero k)))
      have hlb : Hid (k + 1 + 1 ≤ maxLen ∧ (k + 1 + 1) * 32 ≤ 140737488355328) := Lib.hid ⟨by unfold maxLen; omega, by omega⟩
      refine wpOrd_f (o := ⟨some 19, .call { callee := .builtin .append, args := #[.tmp 8, .tmp 18], argTypes := #[105, 105] }, 105, "ref.go:38", _, none⟩) rfl (by rfl) fun J hJ => ?_
      refine wp_append_old (w := y1.alloc (.cells (tab 32 fun j => bv (pr (zero k) (zero k) j)) 74)) (.tmp 8) (.tmp 18) 105 rfl w.heap.size 74 i0 (dv fun _ => 0#8) 32 32 undRs HI.out zcells (by decide) (.slice (some ⟨b, o, none⟩) (k + 1) c1) (k + 1) (flat (k + 1) zero) rfl HB.out.row ⟨y1.heap.size, 0, none⟩ 1 1 (flat 1 fun _ => pr (zero k) (zero k)) rfl HSR.out.1 HSR.out.2 (flat_one _ _) hlb.out.1 hlb.out.2 (by have := HB.out.below.size; omega) ?_
      intro V7 w7 hown7 hgr7 hold7
      have hown : w7.ownsRow w.heap.size 74 32 V7 (k + 1 + 1) (flat (k + 1 + 1) zero) := by
        have e : flat (k + 1) zero ++ flat 1 (fun _ => pr (zero k) (zero k)) = flat (k + 1 + 1) zero := flat_step (k + 1) zero
        rw [e] at hown7; exact hown7
      have hbw : Below w.heap.size w w7 := below_grown (Nat.le_refl _) HB.out.below hgr7 (fun j hj => (HB.out.row.lt j hj).1)
      have H7 : Hid (Zs w (k + 1 + 1) V7 w7 ∧ Zs w (k + 1) (.slice (some ⟨b, o, none⟩) (k + 1) c1) w7) := Lib.hid ⟨⟨hown, hbw⟩, ⟨hold7, hbw⟩⟩
      clear hown hbw hown7 hgr7 hold7 HZ HSR hlb HB
      refine hJ _ _ H7.out.2 ?_
      clear hJ J
      simp only [Act.put, pS]
      refine wpOrd_f (o := ⟨some 1, .assign (.tmp 19), 105, "ref.go:38", _, none⟩) rfl (by rfl) fun J hJ => ?_
      go_simp
      refine hJ _ _ H7.out.2 ?_
      clear hJ J
      refine wpOrd_done (NoPanic.normal ?_)
      go_wp2_with fail
      go_roundw
      case rel => exact ⟨k + 1, by omega, by go_num, Lib.hid H7.out.1⟩
      case measure => simp [intOf]; omega
    · obtain rfl : k = 16 := by omega
      go_wp2_with fail
      go_ret
      exact ⟨_, rfl, hp.out.row, hp.out.below⟩
end Mk
end Go.Proofs.YtcgpdijpppcbiaaGreatDoor
