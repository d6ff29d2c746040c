/- Merged. Own work. -/
import Derived.Test.YtdmffnjbholkkaaDoorUh
namespace Go.Proofs.YtdmffnjbholkkaaDoor
open Go.RowKit
set_option linter.unusedVariables false
set_option linter.unusedSimpArgs false
set_option linter.unusedVariables false
set_option linter.unusedSimpArgs false
namespace Wt
open Kc Mk
theorem guardP (x y : Operand) (A B : Px) (u : World) : (eqGuard .neq 37 x y (pv A) (pv B)).run Tryd.prog u = .ok () u := by kernel_rfl
theorem exec_neP {o : Oper} {ev : Operand → Value} {u : World} (x y : Operand) (yt : TypeId) (a b : Px) (ho : o.op = .binOp .neq 37 x y yt) (hx : ev x = pv a) (hy : ev y = pv b) : (execOp ev o).run Tryd.prog u = .ok (.value (.bool (!same64 a b))) u := by
  have e := neq64 a b u
  unfold execOp
  simp only [ho, hx, hy, Sem.run_bind, Sem.run_pure, Result.andThen_ok, guardP]
  unfold pv
  rw [e, Result.andThen_ok]
set_option maxHeartbeats 8000000 in
set_option maxRecDepth 100000 in
theorem radd_same (T : Nat → Prop) (r : Nat) (S : Sto) (met : Bool) (p : Px) (w : World) (hs : IsR w T r S met) (hT : ∀ k, T k → k < w.heap.size) (hl : S.pres.length < 1073741824) (k : Nat) (hk : k < S.pres.length) (hke : key (kf S.pres k) = key (Wt.hs p)) (hno : ∀ i, i < k → key (kf S.pres i) ≠ key (Wt.hs p)) (hpp : pre (pf S.pres k) = pre p) :
    Calls Tryd.prog 18 #[.pointer (some ⟨r, 0, none⟩), pv p] w fun e w' => e = .returned (dv (Wt.hs p)) ∧ Below w.heap.size w w' := by
  obtain ⟨vh, vp, va, hro⟩ := hs
  obtain ⟨ah, nh, ch, hvh⟩ := own_slice hro.hrow
  subst hvh
  obtain ⟨ap, np, cp, hvp⟩ := own_slice hro.prow
  subst hvp
  have HRO := Lib.hid (And.intro hro hT)
  obtain ⟨h, hh⟩ : ∃ h, Wt.hs p = h := ⟨_, rfl⟩
  rw [hh] at hno hke ⊢
  have HHH := Lib.hid (And.intro hh (And.intro hno (And.intro hke (And.intro hk hl))))
  clear hro hT hh hno hke hl
  have z0 := zero26
  generalize hz : (tab 32 fun _ => bv 0#8) = zr at *
  have HZR := Lib.hid hz
  have HA : Hid (IsTab ((w.alloc (.cells (tab 64 fun i => bv (p i)) 37)).alloc (.cells zr 28)) w.heap.size 37 64 (fun i => bv (p i)) ∧ IsTab ((w.alloc (.cells (tab 64 fun i => bv (p i)) 37)).alloc (.cells zr 28)) (w.heap.size + 1) 28 32 (fun _ => bv 0#8) ∧ Below w.heap.size w ((w.alloc (.cells (tab 64 fun i => bv (p i)) 37)).alloc (.cells zr 28)) ∧ ((w.alloc (.cells (tab 64 fun i => bv (p i)) 37)).alloc (.cells zr 28)).heap.size = w.heap.size + 2) := by
    refine Lib.hid ⟨(IsTab.new w _ 64 _).alloc _, ?_, ((Below.refl _ _).alloc (Nat.le_refl _) _).alloc (by simp) _, by simp⟩
    rw [← HZR.out]
    have := IsTab.new (w.alloc (.cells (tab 64 fun i => bv (p i)) 37)) 28 32 fun _ => bv 0#8
    simpa using this
  clear hz
  unfold dv pv
  go_enter Tryd.func18, Tryd.ntmps18
  go_upto_region 1 with (fail)
  generalize ((w.alloc (.cells (tab 64 fun i => bv (p i)) 37)).alloc (.cells zr 28)) = y0 at *
  have s1 := slPreA w.heap.size
  have hsm := rsum_pre w.heap.size p y0 HA.out.1
  rw [HHH.out.1] at hsm
  have HSM := Lib.hid hsm
  clear hsm
  go_upto_region 2 with (first
    | (go_at_call 52; (with_reducible refine HSM.out.mono ?_); rintro e y2 ⟨he, hb⟩; obtain rfl : e = _ := he; have HB2 := Lib.hid hb; clear hb HSM)
    | ((with_reducible refine wpList_store_row (P := Tryd.prog) (w := y2.alloc (.cells zr 28)) ?_ 28 (.tmp 5) (.tmp 8) ?_ y2.heap.size (tab 32 fun i => bv (h i)) ?_ ?_ 28 zr (heap_alloc_last y2 _) (by rw [tab_size]; exact infR) ?_ (one_bv _ _) ?_); (· exact rfl); (· exact rfl); (· exact rfl); (· exact rfl); (· rw [← HZR.out] <;> rw [tab_size, tab_size]); rw [World.setRow_alloc_new]; simp only [Act.put]))
  clear s1
  have H3 : Hid (IsTab (y2.alloc (.cells (tab 32 fun i => bv (h i)) 28)) w.heap.size 37 64 (fun i => bv (p i)) ∧ IsTab (y2.alloc (.cells (tab 32 fun i => bv (h i)) 28)) (w.heap.size + 1) 28 32 (fun _ => bv 0#8) ∧ IsTab (y2.alloc (.cells (tab 32 fun i => bv (h i)) 28)) y2.heap.size 28 32 (fun i => bv (h i)) ∧ Below w.heap.size w (y2.alloc (.cells (tab 32 fun i => bv (h i)) 28)) ∧ w.heap.size + 1 < y2.heap.size) := Lib.hid ⟨(HA.out.1.below HB2.out).alloc _, (HA.out.2.1.below HB2.out).alloc _, IsTab.new y2 _ 32 _, bl (bl HA.out.2.2.1 HB2.out) (ba _ _), by have := HA.out.2.2.2; have := HB2.out.size; omega⟩
  clear HA HB2
  generalize y2.alloc (.cells (tab 32 fun i => bv (h i)) 28) = y3 at *
  generalize y2.heap.size = q2 at *
  have hix := index_walk T r S met h k y3 ⟨_, _, va, HRO.out.1.below H3.out.2.2.2.1⟩ HHH.out.2.2.2.2 (Nat.le_of_lt HHH.out.2.2.2.1) HHH.out.2.1 (.inr HHH.out.2.2.1) k ⟨fun _ => rfl, fun h => by have := HHH.out.2.2.2.1; omega⟩
  unfold dv at hix
  have HC := Lib.hid hix
  have HLH := Lib.hid (loadRb H3.out.2.2.1)
  clear hix
  obtain ⟨g, cp, hV, hO, hcells⟩ := row_pre HRO.out.1.prow (Nat.lt_of_le_of_lt (Nat.zero_le _) hk)
  injection hV with hV1 hV2 hV3
  subst hV1
  subst hV3
  obtain ⟨o, ho⟩ : ∃ o, 64 * k = o := ⟨_, rfl⟩
  have hko : k * 64 = o := by omega
  have HGL : Hid (g < w.heap.size) := Lib.hid (own_lt HRO.out.1.prow hO)
  have HCE : Hid (∀ x, x < 64 → w.cell? ⟨g, o + x, none⟩ = some (bv (pf S.pres k x))) := Lib.hid fun x hx => by rw [← ho]; exact hcells k hk x hx
  have hkL : (k : Int) < (np : Int) := by omega
  have HLL := Lib.hid hV2
  have hne := neq64 (pf S.pres k) p
  generalize hpk : pf S.pres k = pk at *
  have HPK := Lib.hid hpk
  clear hcells hO ho hV2 hk hpk
  go_upto_region 3 with (first
    | ((with_reducible refine wpList_loadE (P := Tryd.prog) (w := y3) (ty := 28) (x := .tmp 5) (p := .pointer (some ⟨q2, 0, none⟩)) (v := .agg (tab 32 fun i => bv (h i))) ?_ ?_ ?_ HLH.out ?_); (· exact rfl); (· exact rfl); (· exact rfl))
    | (go_at_call 53; (with_reducible refine HC.out.mono ?_); rintro e y4 ⟨he, hb⟩; obtain rfl : e = _ := he; have HB4 := Lib.hid hb; clear hb HC))
  have HB40 : Hid (Below w.heap.size w y4) := Lib.hid (bl H3.out.2.2.2.1 HB4.out)
  have HLK : Hid ((Instr.loadAt 37 (.pointer (some ⟨g, o, none⟩))).run Tryd.prog y4 = .ok (.agg (tab 64 fun i => bv (pk i))) y4) := Lib.hid (loadPm fun x hx => (HB40.out.cell HGL.out).trans (HCE.out x hx))
  have HLP := Lib.hid (loadPb (H3.out.1.below HB4.out))
  have k1 : y4.cell? ⟨r, 1, none⟩ = some (.slice (some ⟨g, 0, none⟩) np cp) := (HRO.out.1.below HB40.out).box.k1
  go_upto_region 6 with (fail)
  have H5 : Hid (IsTab y4.drew w.heap.size 37 64 (fun i => bv (p i)) ∧ IsTab y4.drew (w.heap.size + 1) 28 32 (fun _ => bv 0#8) ∧ IsTab y4.drew q2 28 32 (fun i => bv (h i)) ∧ Below w.heap.size w y4.drew ∧ w.heap.size + 1 < q2) := Lib.hid ⟨(H3.out.1.below HB4.out).drew, (H3.out.2.1.below HB4.out).drew, (H3.out.2.2.1.below HB4.out).drew, (bl H3.out.2.2.2.1 HB4.out).drew, H3.out.2.2.2.2⟩
  clear H3 HB4 HLH HLK HLP k1 HB40
  refine wp_region_og (fun z : World => y4.drew = z) (.take 0 (.take 1 (.take 2 (.take 3 (.take 4 (.take 5 (.take 6 (.take 7 (.take 8 .done))))))))) (by kernel_rfl) (by kernel_rfl) rfl ?_
  generalize y4.drew = y5 at *
  have HLK : Hid ((Instr.loadAt 37 (.pointer (some ⟨g, o, none⟩))).run Tryd.prog y5 = .ok (.agg (tab 64 fun i => bv (pk i))) y5) := Lib.hid (loadPm fun x hx => (H5.out.2.2.2.1.cell HGL.out).trans (HCE.out x hx))
  have HLP := Lib.hid (loadPb H5.out.1)
  have HK1 : Hid (y5.cell? ⟨r, 1, none⟩ = some (.slice (some ⟨g, 0, none⟩) np cp)) := Lib.hid (HRO.out.1.below H5.out.2.2.2.1).box.k1
  have HKL := Lib.hid (And.intro hkL hko)
  have HNE : Hid (same64 pk p = true) := Lib.hid ((same64_iff _ _).2 hpp)
  clear hne hkL hko
  refine og_tk (some 34) (.pointer (some ⟨r, 0, none⟩)) rfl rfl (by go_simp) (fun _ _ => by simp [execOp, go_sem]) ?_
  simp only [Act.put, pS]
  refine og_tk (some 35) (.pointer (some ⟨r, 0, none⟩)) rfl rfl (by go_simp) (fun _ _ => by simp [execOp, go_sem]) ?_
  simp only [Act.put, pS]
  refine og_tk (some 36) (.pointer (some ⟨r, 1, none⟩)) rfl rfl (by go_simp) (fun _ _ => by simp [execOp, go_sem]) ?_
  simp only [Act.put, pS]
  refine og_ld (some 37) 30 (.tmp 36) (.pointer (some ⟨r, 1, none⟩)) (.slice (some ⟨g, 0, none⟩) np cp) rfl rfl (by go_simp) rfl rfl (fun y hy => by have h := hy ▸ HK1.out; simp [Instr.loadAt, go_sem, h, Tryd.underlying30]) ?_
  simp only [Act.put, pS]
  refine og_tk (some 38) (.int .i64 k) rfl rfl (by go_simp) (fun _ _ => by simp [execOp, go_sem]) ?_
  simp only [Act.put, pS]
  refine og_tk (some 39) (.pointer (some ⟨g, o, none⟩)) rfl rfl (by go_simp) (fun y hy => by have h1 := HKL.out.1; have h2 := HKL.out.2; simp [execOp, go_sem, h1, h2, Result.andThen, Tryd.underlying30]) ?_
  simp only [Act.put, pS]
  refine og_ld (some 40) 37 (.tmp 39) (.pointer (some ⟨g, o, none⟩)) (.agg (tab 64 fun i => bv (pk i))) rfl rfl (by go_simp) rfl rfl (fun y hy => hy ▸ HLK.out) ?_
  simp only [Act.put, pS]
  refine og_ld (some 41) 37 (.tmp 3) (.pointer (some ⟨w.heap.size, 0, none⟩)) (.agg (tab 64 fun i => bv (p i))) rfl rfl (by go_simp) rfl rfl (fun y hy => hy ▸ HLP.out) ?_
  simp only [Act.put, pS]
  refine og_tk (some 42) (.bool (!true)) rfl rfl (by go_simp) (fun y hy => (exec_neP (.tmp 40) (.tmp 41) 37 pk p rfl rfl rfl).trans (by rw [HNE.out])) ?_
  simp only [Act.put, pS]
  refine og_done (NoPanic.normal ?_)
  simp only [Bool.not_true]
  have HLH := Lib.hid (loadRb H5.out.2.2.1)
  go_wp2_with (first
    | ((with_reducible refine wpList_loadE (P := Tryd.prog) (w := y5) (ty := 28) (x := .tmp 5) (p := .pointer (some ⟨q2, 0, none⟩)) (v := .agg (tab 32 fun i => bv (h i))) ?_ ?_ ?_ HLH.out ?_); (· exact rfl); (· exact rfl); (· exact rfl))
    | ((with_reducible refine wpList_store_row (P := Tryd.prog) (w := y5) ?_ 28 (.tmp 4) (.tmp 53) ?_ (w.heap.size + 1) (tab 32 fun i => bv (h i)) ?_ ?_ 28 (tab 32 fun _ => bv 0#8) ?_ (by rw [tab_size]; exact infR) ?_ (one_bv _ _) ?_); (· exact rfl); (· exact rfl); (· exact rfl); (· exact rfl); (· exact H5.out.2.1); (· rw [tab_size, tab_size])))
  have hr : IsTab (y5.setRow (w.heap.size + 1) (tab 32 fun i => bv (h i))) (w.heap.size + 1) 28 32 fun i => bv (h i) := H5.out.2.1.row
  have hk : Below w.heap.size w (y5.setRow (w.heap.size + 1) (tab 32 fun i => bv (h i))) := below_of H5.out.2.2.2.1 (⟨by simp, by simp, by simp, by simp, fun k _ hk => setRow_other _ _ _ _ hk⟩ : Kept (fun k => k = w.heap.size + 1) y5 (y5.setRow (w.heap.size + 1) (tab 32 fun i => bv (h i)))) fun k _ e => by omega
  exact bodyPost_ret (results_cell_row rfl _ _ (w.heap.size + 1) 28 _ (0, 0) _ rfl hr und26 rfl (by rw [tab_size]; exact infR)) rfl ⟨rfl, hk⟩
/-- Values laid over a list from a place on. -/
def setL : List Value → Nat → List Value → List Value
  | xs, _, [] => xs
  | xs, o, v :: r => setL (xs.set o v) (o + 1) r
theorem setL_at : ∀ (vs : List Value) (o : Nat) (xs : List Value) (j : Nat), (setL xs o vs)[j]? = if o ≤ j ∧ j < o + vs.length ∧ j < xs.length then vs[j - o]? else xs[j]?
  | [], o, xs, j => by
    unfold setL
    rw [if_neg (by simp only [List.length_nil]; omega)]
  | v :: r, o, xs, j => by
    unfold setL
    rw [setL_at r (o + 1) (xs.set o v) j, List.length_set, List.length_cons]
    by_cases h1 : j = o
    · subst h1
      rw [if_neg (by omega)]
      by_cases h2 : j < xs.length
      · rw [if_pos ⟨by omega, by omega, h2⟩]; simp [h2]
      · rw [if_neg (by omega)]; simp [h2]
    · by_cases h2 : o + 1 ≤ j ∧ j < o + 1 + r.length ∧ j < xs.length
      · rw [if_pos h2, if_pos ⟨by omega, by omega, h2.2.2⟩]
        obtain ⟨t, rfl⟩ : ∃ t, j = o + 1 + t := ⟨j - (o + 1), by omega⟩
        rw [show o + 1 + t - (o + 1) = t from by omega, show o + 1 + t - o = t + 1 from by omega, List.getElem?_cons_succ]
      · rw [if_neg h2, if_neg (by omega)]
        exact List.getElem?_set_ne (Ne.symm h1)
theorem own_setCells {base size g n cap : Nat} {e : TypeId} : ∀ (vs : List Value) (o : Nat) (w : World) (xs : List Value), w.ownsRow base e size (.slice (some ⟨g, 0, none⟩) n cap) n xs → (w.setCells g o vs).ownsRow base e size (.slice (some ⟨g, 0, none⟩) n cap) n (setL xs o vs)
  | [], _, _, _, h => h
  | v :: r, o, _, _, h => own_setCells r (o + 1) _ _ (h.stored o v).1
theorem kept_setC {S : Nat → Prop} {g : Nat} (hg : S g) : ∀ (vs : List Value) (o : Nat) (w0 w : World), Kept S w0 w → Kept S w0 (w.setCells g o vs)
  | [], _, _, _, h => h
  | v :: r, o, _, _, h => kept_setC hg r (o + 1) _ _ (h.setCell (.inl hg) v)
theorem flp_at (n : Nat) (f : Nat → Px) (j : Nat) (hj : j < 64 * n) : (flp n f)[j]? = some (bv (f (j / 64) (j % 64))) := by
  unfold flp
  simp [hj]
theorem flp_set (n k : Nat) (hk : k < n) (f f' : Nat → Px) (p : Px) (h1 : f' k = p) (h2 : ∀ i, i < n → i ≠ k → f' i = f i) : setL (flp n f) (64 * k) (tab 64 fun i => bv (p i)).toList = flp n f' := by
  have hl : (tab 64 fun i => bv (p i)).toList.length = 64 := by rw [Array.length_toList, tab_size]
  have hta : ∀ i, i < 64 → (tab 64 fun i => bv (p i)).toList[i]? = some (bv (p i)) := fun i hi => by
    have : (tab 64 fun i => bv (p i)).toList = (List.range 64).map fun i => bv (p i) := rfl
    rw [this]
    simp [hi]
  refine List.ext_getElem? fun j => ?_
  rw [setL_at, hl, flp_len]
  by_cases hj : j < 64 * n
  · rw [flp_at n f' j hj]
    by_cases hb : 64 * k ≤ j ∧ j < 64 * k + 64 ∧ j < n * 64
    · rw [if_pos hb, hta _ (by omega), show j / 64 = k from by omega, h1, show j - 64 * k = j % 64 from by omega]
    · rw [if_neg hb, flp_at n f j hj, h2 (j / 64) (by omega) (by omega)]
  · rw [if_neg (by omega), List.getElem?_eq_none (by rw [flp_len]; omega), List.getElem?_eq_none (by rw [flp_len]; omega)]
theorem ro_set {y : World} {T : Nat → Prop} {r g n c k : Nat} {S : Sto} {met : Bool} {vh va : Value} {p : Px} {M' : List (Hx × Px)} (hr : IsRo y T r S met vh (.slice (some ⟨g, 0, none⟩) n c) va) (hn : n = S.pres.length) (hk : k < S.pres.length) (hl : M'.length = S.pres.length) (hkf : ∀ i, i < S.pres.length → kf M' i = kf S.pres i) (hpf : pf M' k = p) (hpf2 : ∀ i, i < S.pres.length → i ≠ k → pf M' i = pf S.pres i) (hap : Apart M') :
    IsRo (y.setCells g (64 * k) (tab 64 fun i => bv (p i)).toList) T r ⟨M', S.asked⟩ met vh (.slice (some ⟨g, 0, none⟩) n c) va ∧ Kept T y (y.setCells g (64 * k) (tab 64 fun i => bv (p i)).toList) := by
  have hks : Kept (fun j => j = g) y (y.setCells g (64 * k) (tab 64 fun i => bv (p i)).toList) := kept_setC (S := fun j => j = g) rfl _ _ _ _ (Kept.refl _ _)
  have hg := hr.tp g rfl
  refine ⟨⟨hr.box.kept hks fun e => hg.2.1 e.symm, ?_, ?_, hks.row hr.arow fun j e e2 => (hr.ta j e).2.2.2 (e2 ▸ rfl), hap, hr.tr, hr.th, hr.tp, hr.ta⟩, kept_setC hg.1 _ _ _ _ (Kept.refl _ _)⟩
  · show World.ownsRow _ 0 _ 32 vh M'.length (flat M'.length (kf M'))
    rw [hl, flat_cong hkf]
    exact hks.row hr.hrow fun j e e2 => hg.2.2 (e2 ▸ e)
  · show World.ownsRow _ 0 _ 64 _ M'.length (flp M'.length (pf M'))
    have h9 := hr.prow
    rw [← hn] at h9
    have h8 := own_setCells (tab 64 fun i => bv (p i)).toList (64 * k) _ _ h9
    rw [flp_set n k (by omega) (pf S.pres) (pf M') p hpf fun i hi => hpf2 i (by omega)] at h8
    rw [hl, ← hn]
    exact h8
theorem ro_met {y : World} {T : Nat → Prop} {r : Nat} {S : Sto} {met : Bool} {vh vp va : Value} (b : Bool) (hr : IsRo y T r S met vh vp va) : IsRo (y.setCell ⟨r, 3, none⟩ (.bool b)) T r S b vh vp va ∧ Kept T y (y.setCell ⟨r, 3, none⟩ (.bool b)) := by
  have hks : Kept (fun k => k = r) y (y.setCell ⟨r, 3, none⟩ (.bool b)) := (Kept.refl (fun k => k = r) _).setCell (.inl rfl) _
  exact ⟨⟨hr.box.p3 _, hks.row hr.hrow fun k e e2 => (hr.th k e).2 e2, hks.row hr.prow fun k e e2 => (hr.tp k e).2.1 e2, hks.row hr.arow fun k e e2 => (hr.ta k e).2.1 e2, hr.ap, hr.tr, hr.th, hr.tp, hr.ta⟩, (Kept.refl T _).setCell (.inl hr.tr) _⟩
set_option maxHeartbeats 8000000 in
set_option maxRecDepth 100000 in
theorem radd_other (T : Nat → Prop) (r : Nat) (S : Sto) (met : Bool) (p : Px) (w : World) (hs : IsR w T r S met) (hT : ∀ k, T k → k < w.heap.size) (hl : S.pres.length < 1073741824) (k : Nat) (hk : k < S.pres.length) (hke : key (kf S.pres k) = key (Wt.hs p)) (hno : ∀ i, i < k → key (kf S.pres i) ≠ key (Wt.hs p)) (hpp : pre (pf S.pres k) ≠ pre p) (M' : List (Hx × Px)) (hM : M'.length = S.pres.length ∧ (∀ i, i < S.pres.length → kf M' i = kf S.pres i) ∧ pf M' k = p ∧ (∀ i, i < S.pres.length → i ≠ k → pf M' i = pf S.pres i) ∧ Apart M') :
    Calls Tryd.prog 18 #[.pointer (some ⟨r, 0, none⟩), pv p] w fun e w' => e = .returned (dv (Wt.hs p)) ∧ IsR w' T r ⟨M', S.asked⟩ true ∧ Kept T w w' := by
  have HM := Lib.hid (And.intro hk hM)
  clear hM
  obtain ⟨vh, vp, va, hro⟩ := hs
  obtain ⟨ah, nh, ch, hvh⟩ := own_slice hro.hrow
  subst hvh
  obtain ⟨ap, np, cp, hvp⟩ := own_slice hro.prow
  subst hvp
  have HRO := Lib.hid (And.intro hro hT)
  obtain ⟨h, hh⟩ : ∃ h, Wt.hs p = h := ⟨_, rfl⟩
  rw [hh] at hno hke ⊢
  have HHH := Lib.hid (And.intro hh (And.intro hno (And.intro hke (And.intro hk hl))))
  clear hro hT hh hno hke hl
  have z0 := zero26
  generalize hz : (tab 32 fun _ => bv 0#8) = zr at *
  have HZR := Lib.hid hz
  have HA : Hid (IsTab ((w.alloc (.cells (tab 64 fun i => bv (p i)) 37)).alloc (.cells zr 28)) w.heap.size 37 64 (fun i => bv (p i)) ∧ IsTab ((w.alloc (.cells (tab 64 fun i => bv (p i)) 37)).alloc (.cells zr 28)) (w.heap.size + 1) 28 32 (fun _ => bv 0#8) ∧ Below w.heap.size w ((w.alloc (.cells (tab 64 fun i => bv (p i)) 37)).alloc (.cells zr 28)) ∧ ((w.alloc (.cells (tab 64 fun i => bv (p i)) 37)).alloc (.cells zr 28)).heap.size = w.heap.size + 2) := by
    refine Lib.hid ⟨(IsTab.new w _ 64 _).alloc _, ?_, ((Below.refl _ _).alloc (Nat.le_refl _) _).alloc (by simp) _, by simp⟩
    rw [← HZR.out]
    have := IsTab.new (w.alloc (.cells (tab 64 fun i => bv (p i)) 37)) 28 32 fun _ => bv 0#8
    simpa using this
  clear hz
  unfold dv pv
  go_enter Tryd.func18, Tryd.ntmps18
  go_upto_region 1 with (fail)
  generalize ((w.alloc (.cells (tab 64 fun i => bv (p i)) 37)).alloc (.cells zr 28)) = y0 at *
  have s1 := slPreA w.heap.size
  have hsm := rsum_pre w.heap.size p y0 HA.out.1
  rw [HHH.out.1] at hsm
  have HSM := Lib.hid hsm
  clear hsm
  go_upto_region 2 with (first
    | (go_at_call 52; (with_reducible refine HSM.out.mono ?_); rintro e y2 ⟨he, hb⟩; obtain rfl : e = _ := he; have HB2 := Lib.hid hb; clear hb HSM)
    | ((with_reducible refine wpList_store_row (P := Tryd.prog) (w := y2.alloc (.cells zr 28)) ?_ 28 (.tmp 5) (.tmp 8) ?_ y2.heap.size (tab 32 fun i => bv (h i)) ?_ ?_ 28 zr (heap_alloc_last y2 _) (by rw [tab_size]; exact infR) ?_ (one_bv _ _) ?_); (· exact rfl); (· exact rfl); (· exact rfl); (· exact rfl); (· rw [← HZR.out] <;> rw [tab_size, tab_size]); rw [World.setRow_alloc_new]; simp only [Act.put]))
  clear s1
  have H3 : Hid (IsTab (y2.alloc (.cells (tab 32 fun i => bv (h i)) 28)) w.heap.size 37 64 (fun i => bv (p i)) ∧ IsTab (y2.alloc (.cells (tab 32 fun i => bv (h i)) 28)) (w.heap.size + 1) 28 32 (fun _ => bv 0#8) ∧ IsTab (y2.alloc (.cells (tab 32 fun i => bv (h i)) 28)) y2.heap.size 28 32 (fun i => bv (h i)) ∧ Below w.heap.size w (y2.alloc (.cells (tab 32 fun i => bv (h i)) 28)) ∧ w.heap.size + 1 < y2.heap.size) := Lib.hid ⟨(HA.out.1.below HB2.out).alloc _, (HA.out.2.1.below HB2.out).alloc _, IsTab.new y2 _ 32 _, bl (bl HA.out.2.2.1 HB2.out) (ba _ _), by have := HA.out.2.2.2; have := HB2.out.size; omega⟩
  clear HA HB2
  generalize y2.alloc (.cells (tab 32 fun i => bv (h i)) 28) = y3 at *
  generalize y2.heap.size = q2 at *
  have hix := index_walk T r S met h k y3 ⟨_, _, va, HRO.out.1.below H3.out.2.2.2.1⟩ HHH.out.2.2.2.2 (Nat.le_of_lt HHH.out.2.2.2.1) HHH.out.2.1 (.inr HHH.out.2.2.1) k ⟨fun _ => rfl, fun h => by have := HHH.out.2.2.2.1; omega⟩
  unfold dv at hix
  have HC := Lib.hid hix
  have HLH := Lib.hid (loadRb H3.out.2.2.1)
  clear hix
  obtain ⟨g, cp, hV, hO, hcells⟩ := row_pre HRO.out.1.prow (Nat.lt_of_le_of_lt (Nat.zero_le _) hk)
  injection hV with hV1 hV2 hV3
  subst hV1
  subst hV3
  obtain ⟨o, ho⟩ : ∃ o, 64 * k = o := ⟨_, rfl⟩
  have hko : k * 64 = o := by omega
  have HGL : Hid (g < w.heap.size) := Lib.hid (own_lt HRO.out.1.prow hO)
  have HCE : Hid (∀ x, x < 64 → w.cell? ⟨g, o + x, none⟩ = some (bv (pf S.pres k x))) := Lib.hid fun x hx => by rw [← ho]; exact hcells k hk x hx
  have hkL : (k : Int) < (np : Int) := by omega
  have HLL := Lib.hid hV2
  have hne := neq64 (pf S.pres k) p
  generalize hpk : pf S.pres k = pk at *
  have HPK := Lib.hid hpk
  clear hcells hO ho hV2 hk hpk
  go_upto_region 3 with (first
    | ((with_reducible refine wpList_loadE (P := Tryd.prog) (w := y3) (ty := 28) (x := .tmp 5) (p := .pointer (some ⟨q2, 0, none⟩)) (v := .agg (tab 32 fun i => bv (h i))) ?_ ?_ ?_ HLH.out ?_); (· exact rfl); (· exact rfl); (· exact rfl))
    | (go_at_call 53; (with_reducible refine HC.out.mono ?_); rintro e y4 ⟨he, hb⟩; obtain rfl : e = _ := he; have HB4 := Lib.hid hb; clear hb HC))
  have HB40 : Hid (Below w.heap.size w y4) := Lib.hid (bl H3.out.2.2.2.1 HB4.out)
  have HLK : Hid ((Instr.loadAt 37 (.pointer (some ⟨g, o, none⟩))).run Tryd.prog y4 = .ok (.agg (tab 64 fun i => bv (pk i))) y4) := Lib.hid (loadPm fun x hx => (HB40.out.cell HGL.out).trans (HCE.out x hx))
  have HLP := Lib.hid (loadPb (H3.out.1.below HB4.out))
  have k1 : y4.cell? ⟨r, 1, none⟩ = some (.slice (some ⟨g, 0, none⟩) np cp) := (HRO.out.1.below HB40.out).box.k1
  go_upto_region 6 with (fail)
  have H5 : Hid (IsTab y4.drew w.heap.size 37 64 (fun i => bv (p i)) ∧ IsTab y4.drew (w.heap.size + 1) 28 32 (fun _ => bv 0#8) ∧ IsTab y4.drew q2 28 32 (fun i => bv (h i)) ∧ Below w.heap.size w y4.drew ∧ w.heap.size + 1 < q2) := Lib.hid ⟨(H3.out.1.below HB4.out).drew, (H3.out.2.1.below HB4.out).drew, (H3.out.2.2.1.below HB4.out).drew, (bl H3.out.2.2.2.1 HB4.out).drew, H3.out.2.2.2.2⟩
  clear H3 HB4 HLH HLK HLP k1 HB40
  refine wp_region_og (fun z : World => y4.drew = z) (.take 0 (.take 1 (.take 2 (.take 3 (.take 4 (.take 5 (.take 6 (.take 7 (.take 8 .done))))))))) (by kernel_rfl) (by kernel_rfl) rfl ?_
  generalize y4.drew = y5 at *
  have HLK : Hid ((Instr.loadAt 37 (.pointer (some ⟨g, o, none⟩))).run Tryd.prog y5 = .ok (.agg (tab 64 fun i => bv (pk i))) y5) := Lib.hid (loadPm fun x hx => (H5.out.2.2.2.1.cell HGL.out).trans (HCE.out x hx))
  have HLP := Lib.hid (loadPb H5.out.1)
  have HK1 : Hid (y5.cell? ⟨r, 1, none⟩ = some (.slice (some ⟨g, 0, none⟩) np cp)) := Lib.hid (HRO.out.1.below H5.out.2.2.2.1).box.k1
  have HKL := Lib.hid (And.intro hkL hko)
  have HNE : Hid (same64 pk p = false) := Lib.hid (Bool.eq_false_iff.2 fun e => hpp ((same64_iff _ _).1 e))
  clear hne hkL hko
  refine og_tk (some 34) (.pointer (some ⟨r, 0, none⟩)) rfl rfl (by go_simp) (fun _ _ => by simp [execOp, go_sem]) ?_
  simp only [Act.put, pS]
  refine og_tk (some 35) (.pointer (some ⟨r, 0, none⟩)) rfl rfl (by go_simp) (fun _ _ => by simp [execOp, go_sem]) ?_
  simp only [Act.put, pS]
  refine og_tk (some 36) (.pointer (some ⟨r, 1, none⟩)) rfl rfl (by go_simp) (fun _ _ => by simp [execOp, go_sem]) ?_
  simp only [Act.put, pS]
  refine og_ld (some 37) 30 (.tmp 36) (.pointer (some ⟨r, 1, none⟩)) (.slice (some ⟨g, 0, none⟩) np cp) rfl rfl (by go_simp) rfl rfl (fun y hy => by have h := hy ▸ HK1.out; simp [Instr.loadAt, go_sem, h, Tryd.underlying30]) ?_
  simp only [Act.put, pS]
  refine og_tk (some 38) (.int .i64 k) rfl rfl (by go_simp) (fun _ _ => by simp [execOp, go_sem]) ?_
  simp only [Act.put, pS]
  refine og_tk (some 39) (.pointer (some ⟨g, o, none⟩)) rfl rfl (by go_simp) (fun y hy => by have h1 := HKL.out.1; have h2 := HKL.out.2; simp [execOp, go_sem, h1, h2, Result.andThen, Tryd.underlying30]) ?_
  simp only [Act.put, pS]
  refine og_ld (some 40) 37 (.tmp 39) (.pointer (some ⟨g, o, none⟩)) (.agg (tab 64 fun i => bv (pk i))) rfl rfl (by go_simp) rfl rfl (fun y hy => hy ▸ HLK.out) ?_
  simp only [Act.put, pS]
  refine og_ld (some 41) 37 (.tmp 3) (.pointer (some ⟨w.heap.size, 0, none⟩)) (.agg (tab 64 fun i => bv (p i))) rfl rfl (by go_simp) rfl rfl (fun y hy => hy ▸ HLP.out) ?_
  simp only [Act.put, pS]
  refine og_tk (some 42) (.bool (!false)) rfl rfl (by go_simp) (fun y hy => (exec_neP (.tmp 40) (.tmp 41) 37 pk p rfl rfl rfl).trans (by rw [HNE.out])) ?_
  simp only [Act.put, pS]
  refine og_done (NoPanic.normal ?_)
  simp only [Bool.not_false]
  go_upto_region 7 with (fail)
  have H6 : Hid (IsTab y5.drew w.heap.size 37 64 (fun i => bv (p i)) ∧ IsTab y5.drew (w.heap.size + 1) 28 32 (fun _ => bv 0#8) ∧ IsTab y5.drew q2 28 32 (fun i => bv (h i)) ∧ Below w.heap.size w y5.drew ∧ w.heap.size + 1 < q2) := Lib.hid ⟨H5.out.1.drew, H5.out.2.1.drew, H5.out.2.2.1.drew, H5.out.2.2.2.1.drew, H5.out.2.2.2.2⟩
  clear H5 HLK HLP HK1
  refine wp_region_oz (fun z : World => y5.drew = z) 7 (.take 0 (.take 1 (.take 2 (.take 3 (.take 4 (.take 5 (.take 6 (.one 7 .done)))))))) (by kernel_rfl) (by kernel_rfl) rfl ?_
  generalize y5.drew = y6 at *
  have HRP := Lib.hid (HRO.out.1.below H6.out.2.2.2.1)
  have HLP := Lib.hid (loadPb H6.out.1)
  have HK1 : Hid (y6.cell? ⟨r, 1, none⟩ = some (.slice (some ⟨g, 0, none⟩) np cp)) := Lib.hid HRP.out.box.k1
  have HTH : Hid (y6.there g o (tab 64 fun i => bv (p i)).size) := Lib.hid (by
    have h9 := HRP.out.prow
    rw [← HLL.out] at h9
    rw [tab_size]
    exact fun j hj => ⟨by rw [(H6.out.2.2.2.1.cell HGL.out).trans (HCE.out j hj)]; rfl, h9.frozenAt _⟩)
  have HI6 := Lib.hid (infPre fun i => bv (p i))
  have HO6 : Hid ((tab 64 fun i => bv (p i)).all (·.oneCell') = true) := Lib.hid (one_bv _ _)
  refine oz_tk (some 43) (.pointer (some ⟨r, 0, none⟩)) rfl rfl (by go_simp) (fun _ _ => by simp [execOp, go_sem]) ?_
  simp only [Act.put, pS]
  refine oz_tk (some 44) (.pointer (some ⟨r, 0, none⟩)) rfl rfl (by go_simp) (fun _ _ => by simp [execOp, go_sem]) ?_
  simp only [Act.put, pS]
  refine oz_tk (some 45) (.pointer (some ⟨r, 1, none⟩)) rfl rfl (by go_simp) (fun _ _ => by simp [execOp, go_sem]) ?_
  simp only [Act.put, pS]
  refine oz_ld (some 46) 30 (.tmp 45) (.pointer (some ⟨r, 1, none⟩)) (.slice (some ⟨g, 0, none⟩) np cp) rfl rfl (by go_simp) rfl rfl (fun y hy => by have h := hy ▸ HK1.out; simp [Instr.loadAt, go_sem, h, Tryd.underlying30]) ?_
  simp only [Act.put, pS]
  refine oz_tk (some 47) (.int .i64 k) rfl rfl (by go_simp) (fun _ _ => by simp [execOp, go_sem]) ?_
  simp only [Act.put, pS]
  refine oz_ld (some 48) 37 (.tmp 3) (.pointer (some ⟨w.heap.size, 0, none⟩)) (.agg (tab 64 fun i => bv (p i))) rfl rfl (by go_simp) rfl rfl (fun y hy => hy ▸ HLP.out) ?_
  simp only [Act.put, pS]
  refine oz_tk (some 49) (.pointer (some ⟨g, o, none⟩)) rfl rfl (by go_simp) (fun y hy => by have h1 := HKL.out.1; have h2 := HKL.out.2; simp [execOp, go_sem, h1, h2, Result.andThen, Tryd.underlying30]) ?_
  simp only [Act.put, pS]
  refine oz_z rfl (by go_simp) fun K hK => ?_
  refine wp_store_mid 37 (.tmp 49) (.tmp 48) rfl g o (tab 64 fun i => bv (p i)) rfl rfl HTH.out HI6.out HO6.out ?_
  refine hK _ _ ?_
  clear hK K
  simp only [Act.put, List.getElem_toArray, List.getElem_cons_succ, List.getElem_cons_zero]
  refine oz_done (NoPanic.normal ?_)
  have H7 : Hid (IsRo (y6.setCells g o (tab 64 fun i => bv (p i)).toList) T r ⟨M', S.asked⟩ met (.slice ah nh ch) (.slice (some ⟨g, 0, none⟩) np cp) va ∧ Kept T y6 (y6.setCells g o (tab 64 fun i => bv (p i)).toList)) := Lib.hid (by
    rw [show o = 64 * k from by have := HKL.out.2; omega]
    exact ro_set HRP.out HLL.out HM.out.1 HM.out.2.1 HM.out.2.2.1 HM.out.2.2.2.1 HM.out.2.2.2.2.1 HM.out.2.2.2.2.2)
  clear HTH HI6 HO6 HLP HK1
  generalize y6.setCells g o (tab 64 fun i => bv (p i)).toList = y7 at *
  have H8 : Hid (IsTab (y7.setCell ⟨r, 3, none⟩ (.bool true)) w.heap.size 37 64 (fun i => bv (p i)) ∧ IsTab (y7.setCell ⟨r, 3, none⟩ (.bool true)) (w.heap.size + 1) 28 32 (fun _ => bv 0#8) ∧ IsTab (y7.setCell ⟨r, 3, none⟩ (.bool true)) q2 28 32 (fun i => bv (h i)) ∧ IsR (y7.setCell ⟨r, 3, none⟩ (.bool true)) T r ⟨M', S.asked⟩ true ∧ Kept T w (y7.setCell ⟨r, 3, none⟩ (.bool true))) := Lib.hid (by
    have h1 := ro_met true H7.out.1
    have h2 := H7.out.2.trans h1.2 fun _ _ h => h
    have h3 := HRO.out.2
    have h4 := H6.out.2.2.2.2
    exact ⟨Wt.IsTab.kept H6.out.1 h2 fun e => by have := h3 _ e; omega, Wt.IsTab.kept H6.out.2.1 h2 fun e => by have := h3 _ e; omega, Wt.IsTab.kept H6.out.2.2.1 h2 fun e => by have := h3 _ e; omega, ⟨_, _, _, h1.1⟩, (Kept.ofBelow H6.out.2.2.2.1).trans h2 fun _ _ h => h⟩)
  have k3 := H7.out.1.box.k3
  have f3 := H7.out.1.box.f 3
  go_upto_region 9 with (fail)
  generalize y7.setCell ⟨r, 3, none⟩ (.bool true) = y8 at *
  clear k3 f3
  have HLH := Lib.hid (loadRb H8.out.2.2.1)
  go_wp2_with (first
    | ((with_reducible refine wpList_loadE (P := Tryd.prog) (w := y8) (ty := 28) (x := .tmp 5) (p := .pointer (some ⟨q2, 0, none⟩)) (v := .agg (tab 32 fun i => bv (h i))) ?_ ?_ ?_ HLH.out ?_); (· exact rfl); (· exact rfl); (· exact rfl))
    | ((with_reducible refine wpList_store_row (P := Tryd.prog) (w := y8) ?_ 28 (.tmp 4) (.tmp 53) ?_ (w.heap.size + 1) (tab 32 fun i => bv (h i)) ?_ ?_ 28 (tab 32 fun _ => bv 0#8) ?_ (by rw [tab_size]; exact infR) ?_ (one_bv _ _) ?_); (· exact rfl); (· exact rfl); (· exact rfl); (· exact rfl); (· exact H8.out.2.1); (· rw [tab_size, tab_size])))
  have hr : IsTab (y8.setRow (w.heap.size + 1) (tab 32 fun i => bv (h i))) (w.heap.size + 1) 28 32 fun i => bv (h i) := H8.out.2.1.row
  have hk : Kept (fun k => k = w.heap.size + 1) y8 (y8.setRow (w.heap.size + 1) (tab 32 fun i => bv (h i))) := ⟨by simp, by simp, by simp, by simp, fun k _ hk => setRow_other _ _ _ _ hk⟩
  have hT := HRO.out.2
  exact bodyPost_ret (results_cell_row rfl _ _ (w.heap.size + 1) 28 _ (0, 0) _ rfl hr und26 rfl (by rw [tab_size]; exact infR)) rfl ⟨rfl, H8.out.2.2.2.1.kept hk fun k e e2 => by have := hT k e; omega, H8.out.2.2.2.2.trans hk fun k hlt e => by omega⟩
theorem kf_at {M : List (Hx × Px)} {i : Nat} {q : Hx × Px} (h : M[i]? = some q) : kf M i = q.1 := by unfold kf; simp [List.getD, h]
theorem pf_at {M : List (Hx × Px)} {i : Nat} {q : Hx × Px} (h : M[i]? = some q) : pf M i = q.2 := by unfold pf; simp [List.getD, h]
theorem first_key (h : Hx) : ∀ M : List (Hx × Px), has M h = true → ∃ k q, M[k]? = some q ∧ k < M.length ∧ key q.1 = key h ∧ ∀ i, i < k → key (kf M i) ≠ key h
  | [], hh => by simp [has] at hh
  | q :: M, hh => by
    by_cases e : key q.1 = key h
    · exact ⟨0, q, rfl, by simp, e, fun i hi => by omega⟩
    · have h2 : has M h = true := by
        unfold has at hh ⊢
        rw [List.any_cons, show (key q.1 == key h) = false from by simpa using e, Bool.false_or] at hh
        exact hh
      obtain ⟨k, q', h3, h4, h5, h6⟩ := first_key h M h2
      refine ⟨k + 1, q', by simpa using h3, by simpa using h4, h5, fun i hi => ?_⟩
      cases i with
      | zero => exact e
      | succ i => exact h6 i (by omega)
theorem not_has {M : List (Hx × Px)} {h : Hx} (hh : has M h = false) (i : Nat) (hi : i < M.length) : key (kf M i) ≠ key h := by
  rw [kf_at (List.getElem?_eq_getElem hi)]
  unfold has at hh
  have := List.any_eq_false.1 hh M[i] (List.getElem_mem hi)
  simpa using this
theorem put_known {M : List (Hx × Px)} (hA : Apart M) {h : Hx} {p : Px} {k : Nat} {q : Hx × Px} (hk : M[k]? = some q) (hq : key q.1 = key h) : putM M h p = M.set k (q.1, p) := by
  unfold putM
  rw [if_pos (has_at hk hq)]
  exact map_at hA p hk hq
/-- Is another preimage known for the digest? -/
def clash (M : List (Hx × Px)) (p : Px) : Bool := !decide (pre ((look M (hs p)).getD p) = pre p)
theorem ro_cong {y : World} {T : Nat → Prop} {r : Nat} {S : Sto} {met : Bool} {vh vp va : Value} {M' : List (Hx × Px)} (hr : IsRo y T r S met vh vp va) (hl : M'.length = S.pres.length) (hkf : ∀ i, i < S.pres.length → kf M' i = kf S.pres i) (hpf : ∀ i, i < S.pres.length → pre (pf M' i) = pre (pf S.pres i)) (hap : Apart M') : IsRo y T r ⟨M', S.asked⟩ met vh vp va := by
  refine ⟨hr.box, ?_, ?_, hr.arow, hap, hr.tr, hr.th, hr.tp, hr.ta⟩
  · show World.ownsRow _ 0 _ 32 vh M'.length (flat M'.length (kf M'))
    rw [hl, flat_cong hkf]
    exact hr.hrow
  · show World.ownsRow _ 0 _ 64 vp M'.length (flp M'.length (pf M'))
    rw [hl]
    have e : flp S.pres.length (pf M') = flp S.pres.length (pf S.pres) := by
      unfold flp
      refine List.map_congr_left fun i hi => ?_
      have hi' : i < 64 * S.pres.length := by simpa using hi
      have := congrArg (fun l => l.getD (i % 64) 0#8) (hpf (i / 64) (by omega))
      simp only [pre_at _ (i % 64) (by omega)] at this
      rw [this]
    rw [e]
    exact hr.prow
theorem radd_walk (T : Nat → Prop) (r : Nat) (S : Sto) (met : Bool) (p : Px) (w : World) (hs : IsR w T r S met) (hT : ∀ k, T k → k < w.heap.size) (hl : S.pres.length < 1073741824) :
    Calls Tryd.prog 18 #[.pointer (some ⟨r, 0, none⟩), pv p] w fun e w' => e = .returned (dv (Wt.hs p)) ∧ ∃ T' : Nat → Prop, IsR w' T' r ⟨putM S.pres (Wt.hs p) p, S.asked⟩ (met || clash S.pres p) ∧ (∀ j, T' j → (T j ∨ w.heap.size ≤ j) ∧ j < w'.heap.size) ∧ Kept T w w' := by
  have hA : Apart S.pres := by obtain ⟨_, _, _, h⟩ := hs; exact h.ap
  have hap := apart_put hA (Wt.hs p) p
  cases hh : has S.pres (Wt.hs p)
  · have e1 : putM S.pres (Wt.hs p) p = S.pres ++ [(Wt.hs p, p)] := by unfold putM; rw [if_neg (by rw [hh]; decide)]
    have e2 : clash S.pres p = false := by
      have h1 : look S.pres (Wt.hs p) = none := by
        have := look_has S.pres (Wt.hs p)
        rw [hh] at this
        simpa using this
      unfold clash
      rw [h1]
      simp
    rw [e1] at hap ⊢
    rw [e2, Bool.or_false]
    exact radd_new T r S met p w hs hT hl (fun i hi => not_has hh i hi) hap
  · obtain ⟨k, q, hk, hkl, hq, hmin⟩ := first_key (Wt.hs p) S.pres hh
    have e1 := put_known hA (p := p) hk hq
    have hlk := look_at hA hk hq
    rw [e1] at hap
    have hlen : (S.pres.set k (q.1, p)).length = S.pres.length := by simp
    have hkf : ∀ i, i < S.pres.length → kf (S.pres.set k (q.1, p)) i = kf S.pres i := fun i hi => by
      by_cases h : i = k
      · subst h
        rw [kf_at hk, kf_at (q := (q.1, p)) (by simp [hi])]
      · rw [kf_at (List.getElem?_eq_getElem hi), kf_at (q := S.pres[i]) (by rw [List.getElem?_set_ne (fun e => h e.symm)]; exact List.getElem?_eq_getElem hi)]
    have hpk : pf (S.pres.set k (q.1, p)) k = p := pf_at (q := (q.1, p)) (by simp [hkl])
    have hpf : ∀ i, i < S.pres.length → i ≠ k → pf (S.pres.set k (q.1, p)) i = pf S.pres i := fun i hi h => by
      rw [pf_at (List.getElem?_eq_getElem hi), pf_at (q := S.pres[i]) (by rw [List.getElem?_set_ne (fun e => h e.symm)]; exact List.getElem?_eq_getElem hi)]
    have hpq : pf S.pres k = q.2 := pf_at hk
    have hke : key (kf S.pres k) = key (Wt.hs p) := by rw [kf_at hk]; exact hq
    rw [e1]
    by_cases hpp : pre q.2 = pre p
    · have e2 : clash S.pres p = false := by unfold clash; rw [hlk]; simp [hpp]
      rw [e2, Bool.or_false]
      refine (radd_same T r S met p w hs hT hl k hkl hke hmin (by rw [hpq]; exact hpp)).mono ?_
      rintro e w' ⟨he, hb⟩
      obtain ⟨vh, vp, va, hro⟩ := hs
      refine ⟨he, T, ⟨vh, vp, va, ro_cong (hro.below hb) hlen hkf (fun i hi => ?_) hap⟩, fun j hj => ⟨.inl hj, Nat.lt_of_lt_of_le (hT j hj) hb.size⟩, Kept.ofBelow hb⟩
      by_cases h : i = k
      · subst h
        rw [hpk, hpq, hpp]
      · rw [hpf i hi h]
    · have e2 : clash S.pres p = true := by unfold clash; rw [hlk]; simp [hpp]
      rw [e2, Bool.or_true]
      refine (radd_other T r S met p w hs hT hl k hkl hke hmin (by rw [hpq]; exact hpp) (S.pres.set k (q.1, p)) ⟨hlen, hkf, hpk, hpf, hap⟩).mono ?_
      rintro e w' ⟨he, h1, h2⟩
      exact ⟨he, T, h1, fun j hj => ⟨.inl hj, Nat.lt_of_lt_of_le (hT j hj) h2.size⟩, h2⟩
theorem rget_none (T : Nat → Prop) (r : Nat) (S : Sto) (met : Bool) (h : Hx) (w : World) (hs : IsR w T r S met) (hT : ∀ k, T k → k < w.heap.size) (hl : S.pres.length < 1073741824) (hn : S.asked.length < 1073741824) (hh : has S.pres h = false) :
    Calls Tryd.prog 20 #[.pointer (some ⟨r, 0, none⟩), dv h] w fun e w' => e = .returned (.tuple #[pv zp, .int .i64 14]) ∧ ∃ T' : Nat → Prop, IsR w' T' r ⟨S.pres, askL S.asked h⟩ met ∧ (∀ j, T' j → (T j ∨ w.heap.size ≤ j) ∧ j < w'.heap.size) ∧ Kept T w w' :=
  rget_walk T r S met h w hs hT hl hn S.pres.length (Nat.le_refl _) (fun i hi => not_has hh i hi) (.inl rfl) 14 ⟨fun e => absurd e (Nat.lt_irrefl _), fun _ => rfl⟩ zp ⟨fun e => absurd e (Nat.lt_irrefl _), fun _ => rfl⟩
theorem rget_some (T : Nat → Prop) (r : Nat) (S : Sto) (met : Bool) (h : Hx) (w : World) (hs : IsR w T r S met) (hT : ∀ k, T k → k < w.heap.size) (hl : S.pres.length < 1073741824) (hn : S.asked.length < 1073741824) (hh : has S.pres h = true) :
    Calls Tryd.prog 20 #[.pointer (some ⟨r, 0, none⟩), dv h] w fun e w' => e = .returned (.tuple #[pv ((look S.pres h).getD zp), .int .i64 0]) ∧ ∃ T' : Nat → Prop, IsR w' T' r ⟨S.pres, askL S.asked h⟩ met ∧ (∀ j, T' j → (T j ∨ w.heap.size ≤ j) ∧ j < w'.heap.size) ∧ Kept T w w' := by
  have hA : Apart S.pres := by obtain ⟨_, _, _, h⟩ := hs; exact h.ap
  obtain ⟨k, q, hk, hkl, hq, hmin⟩ := first_key h S.pres hh
  rw [look_at hA hk hq]
  exact rget_walk T r S met h w hs hT hl hn k (Nat.le_of_lt hkl) hmin (.inr (by rw [kf_at hk]; exact hq)) 0 ⟨fun _ => rfl, fun e => by omega⟩ q.2 ⟨fun _ => pf_at hk, fun e => by omega⟩
theorem results_cells22 {P : Program} {fn : Func} {p q s u : Tmp} {ty : TypeId} (h : fn.results = #[.cell p ty, .cell q ty, .tmp s, .tmp u]) (tmps : Array Value) (w : World) (g g' : Nat) (t t' : TypeId) (cs cs' : Array Value) (fr fr' : Nat × Nat) (d : TypeDesc)
    (hp : tmps.getD p undef = .pointer (some ⟨g, 0, none⟩)) (hg : w.heap[g]? = some (.cells cs t fr)) (hq : tmps.getD q undef = .pointer (some ⟨g', 0, none⟩)) (hg' : w.heap[g']? = some (.cells cs' t' fr'))
    (hu : P.underlying ty = some d) (hd : (match d with | .struct _ | .array _ _ => true | _ => false) = true) (hi : (P.info? ty).map (·.size) = some cs.size) (hi' : (P.info? ty).map (·.size) = some cs'.size) (v x : Value) (hs : tmps.getD s undef = v) (hx : tmps.getD u undef = x) :
    (results fn tmps).run P w = .ok (.tuple #[.agg cs, .agg cs', v, x]) w := by
  have hs' : tmps[s]?.getD undef = v := by simpa using hs
  have hx' : tmps[u]?.getD undef = x := by simpa using hx
  have hp' : tmps[p]?.getD undef = .pointer (some ⟨g, 0, none⟩) := by simpa using hp
  have hq' : tmps[q]?.getD undef = .pointer (some ⟨g', 0, none⟩) := by simpa using hq
  simp [results, h, hp', hq', hs', hx', asAddr, run_loadVar_row w g t ty cs fr d hg hu hd hi, run_loadVar_row w g' t' ty cs' fr' d hg' hu hd hi']
/-- What the loops keep: the root, the leaf, the two answers, the nought, the digest at hand. -/
structure Rw (W : World) (T : Nat → Prop) (r : Nat) (S : Sto) (met : Bool) (l : Nat) (rt lf h : Hx) (sd : Nat → Hx) (V : Value) (T' : Nat → Prop) (y : World) : Prop where
  st : IsR y T' r S met
  tt : ∀ k, T' k → (T k ∨ W.heap.size + 6 ≤ k) ∧ k < y.heap.size
  c0 : IsTab y W.heap.size 28 32 fun i => bv (rt i)
  c1 : IsTab y (W.heap.size + 1) 28 32 fun i => bv (lf i)
  c2 : IsTab y (W.heap.size + 2) 28 32 fun _ => bv 0#8
  c3 : IsTab y (W.heap.size + 3) 28 32 fun _ => bv 0#8
  c4 : IsTab y (W.heap.size + 4) 28 32 fun _ => bv 0#8
  c5 : IsTab y (W.heap.size + 5) 28 32 fun i => bv (h i)
  row : y.ownsRow (W.heap.size + 6) 28 32 V l (flat l sd)
  vt : ∀ k, V.ownBlock = some k → ¬ T' k
  kp : Kept T W y
  tw : ∀ k, T k → k < W.heap.size
  ob : W.heap.size + 6 ≤ y.heap.size
section
variable {W y y' : World} {T T' : Nat → Prop} {r l : Nat} {S : Sto} {met : Bool} {rt lf h : Hx} {sd : Nat → Hx} {V : Value}
theorem Rw.far (H : Rw W T r S met l rt lf h sd V T' y) (k : Nat) (hk : T' k) : k < W.heap.size ∨ W.heap.size + 6 ≤ k := (H.tt k hk).1.imp (H.tw k) id
theorem Rw.next (H : Rw W T r S met l rt lf h sd V T' y) (hb : Below y.heap.size y y') : Rw W T r S met l rt lf h sd V T' y' :=
  ⟨H.st.below hb, fun k hk => ⟨(H.tt k hk).1, Nat.lt_of_lt_of_le (H.tt k hk).2 hb.size⟩, H.c0.below hb, H.c1.below hb, H.c2.below hb, H.c3.below hb, H.c4.below hb, H.c5.below hb, (Kept.ofBelow (S := fun _ => False) hb).row H.row (fun _ _ h => h), H.vt,
    H.kp.trans (Kept.ofBelow hb) fun _ _ h => h, H.tw, Nat.le_trans H.ob hb.size⟩
/-- Behind a Get or an Add. -/
theorem Rw.got {S' : Sto} {met' : Bool} {T2 : Nat → Prop} (H : Rw W T r S met l rt lf h sd V T' y) (hs : IsR y' T2 r S' met') (ht : ∀ k, T2 k → (T' k ∨ y.heap.size ≤ k) ∧ k < y'.heap.size) (hk : Kept T' y y') : Rw W T r S' met' l rt lf h sd V T2 y' := by
  have hz := hk.size
  have hob := H.ob
  have far := H.far
  refine ⟨hs, fun k hk => ?_, Wt.IsTab.kept H.c0 hk (fun e => by have := far _ e; omega), Wt.IsTab.kept H.c1 hk (fun e => by have := far _ e; omega), Wt.IsTab.kept H.c2 hk (fun e => by have := far _ e; omega), Wt.IsTab.kept H.c3 hk (fun e => by have := far _ e; omega), Wt.IsTab.kept H.c4 hk (fun e => by have := far _ e; omega), Wt.IsTab.kept H.c5 hk (fun e => by have := far _ e; omega), hk.row H.row H.vt, fun k e hk => ?_, H.kp.trans hk fun k hlt hk => (H.tt k hk).1.elim id fun h => absurd h (by omega), H.tw, Nat.le_trans H.ob hz⟩
  · have h1 := ht k hk
    rcases h1.1 with h2 | h2
    · exact ⟨(H.tt k h2).1, h1.2⟩
    · exact ⟨.inr (by omega), h1.2⟩
  · have := own_lt H.row e
    rcases (ht k hk).1 with h2 | h2
    · exact H.vt k e h2
    · omega
/-- Behind the append. -/
theorem Rw.grown {V' : Value} (H : Rw W T r S met l rt lf h sd V T' y) (hr : y'.ownsRow (W.heap.size + 6) 28 32 V' (l + 1) (flat l sd ++ flat 1 fun _ => sd l)) (hg : y.grownBy y' V.ownBlock) (hV : ∀ k, V'.ownBlock = some k → V.ownBlock = some k ∨ k = y.heap.size) : Rw W T r S met (l + 1) rt lf h sd V' T' y' := by
  have hk : Kept (fun k => V.ownBlock = some k) y y' := ⟨hg.os, hg.tape, hg.output, hg.size, fun k hk hn => hg.block k hk (fun e => hn e.symm)⟩
  have hB : ∀ k, V.ownBlock = some k → W.heap.size + 6 ≤ k := fun k hk => owns_base H.row hk
  have hn : ∀ k, T' k → ¬ V.ownBlock = some k := fun k h1 h2 => H.vt k h2 h1
  refine ⟨H.st.kept hk hn, fun k hk' => ⟨(H.tt k hk').1, Nat.lt_of_lt_of_le (H.tt k hk').2 hk.size⟩, Wt.IsTab.kept H.c0 hk (fun e => by have := hB _ e; omega), Wt.IsTab.kept H.c1 hk (fun e => by have := hB _ e; omega), Wt.IsTab.kept H.c2 hk (fun e => by have := hB _ e; omega), Wt.IsTab.kept H.c3 hk (fun e => by have := hB _ e; omega), Wt.IsTab.kept H.c4 hk (fun e => by have := hB _ e; omega), Wt.IsTab.kept H.c5 hk (fun e => by have := hB _ e; omega), by rw [flat_append] at hr; refine (flat_cong fun k hk => ?_) ▸ hr; show _ = _; split; rfl; rw [show k = l from by omega], fun k e hk' => ?_,
    H.kp.trans hk fun k hlt e => ?_, H.tw, Nat.le_trans H.ob hk.size⟩
  · rcases hV k e with e | e
    · exact H.vt k e hk'
    · have := (H.tt k hk').2; omega
  · have := hB _ e; omega
/-- Behind a new digest at hand. -/
theorem Rw.step {g : Nat → Value} {h' : Hx} (H : Rw W T r S met l rt lf h sd V T' y) (hg : ∀ i, i < 32 → g i = bv (h' i)) : Rw W T r S met l rt lf h' sd V T' (y.setRow (W.heap.size + 5) (tab 32 g)) := by
  have hk : Kept (fun k => k = W.heap.size + 5) y (y.setRow (W.heap.size + 5) (tab 32 g)) := ⟨by simp, by simp, by simp, by simp, fun k _ hk => setRow_other _ _ _ _ hk⟩
  have hr : IsTab (y.setRow (W.heap.size + 5) (tab 32 g)) (W.heap.size + 5) 28 32 g := H.c5.row
  have far := H.far
  refine ⟨H.st.kept hk (fun k hk e => by have := far k hk; omega), fun k hk' => ⟨(H.tt k hk').1, Nat.lt_of_lt_of_le (H.tt k hk').2 hk.size⟩, Wt.IsTab.kept H.c0 hk (by omega), Wt.IsTab.kept H.c1 hk (by omega), Wt.IsTab.kept H.c2 hk (by omega), Wt.IsTab.kept H.c3 hk (by omega), Wt.IsTab.kept H.c4 hk (by omega), hr.cong hg, hk.row H.row fun k e h => ?_, H.vt,
    H.kp.trans hk fun k hlt e => by omega, H.tw, by simpa using H.ob⟩
  have := owns_base H.row e; omega
/-- Behind a new leaf. -/
theorem Rw.leaf {g : Nat → Value} {lf' : Hx} (H : Rw W T r S met l rt lf h sd V T' y) (hg : ∀ i, i < 32 → g i = bv (lf' i)) : Rw W T r S met l rt lf' h sd V T' (y.setRow (W.heap.size + 1) (tab 32 g)) := by
  have hk : Kept (fun k => k = W.heap.size + 1) y (y.setRow (W.heap.size + 1) (tab 32 g)) := ⟨by simp, by simp, by simp, by simp, fun k _ hk => setRow_other _ _ _ _ hk⟩
  have hr : IsTab (y.setRow (W.heap.size + 1) (tab 32 g)) (W.heap.size + 1) 28 32 g := H.c1.row
  have far := H.far
  refine ⟨H.st.kept hk (fun k hk e => by have := far k hk; omega), fun k hk' => ⟨(H.tt k hk').1, Nat.lt_of_lt_of_le (H.tt k hk').2 hk.size⟩, Wt.IsTab.kept H.c0 hk (by omega), hr.cong hg, Wt.IsTab.kept H.c2 hk (by omega), Wt.IsTab.kept H.c3 hk (by omega), Wt.IsTab.kept H.c4 hk (by omega), Wt.IsTab.kept H.c5 hk (by omega), hk.row H.row fun k e h => ?_, H.vt,
    H.kp.trans hk fun k hlt e => by omega, H.tw, by simpa using H.ob⟩
  have := owns_base H.row e; omega
end
/-- Does the way go right at a level? -/
def bt (d i j : Nat) : Bool := decide (i / 2 ^ (d - 1 - j) % 2 = 1)
theorem bt_walk (d i l : Nat) (hl : l < d) (hd : d ≤ 16) : (((i : Int) / 2 ^ min (IntKind.u64.wrap ((d : Int) - 1 - (l : Int))).toNat 64).tmod 2 == 1) = bt d i l := by
  have e1 : ((d : Int) - 1 - (l : Int)) = ((d - 1 - l : Nat) : Int) := by omega
  have e2 : IntKind.u64.wrap ((d - 1 - l : Nat) : Int) = ((d - 1 - l : Nat) : Int) := IntWalk.u64_in _ (by omega)
  rw [e1, e2, Int.toNat_natCast, Nat.min_eq_left (by omega), show ((2 : Int) ^ (d - 1 - l)) = ((2 ^ (d - 1 - l) : Nat) : Int) from (Int.natCast_pow 2 _).symm, ← Int.natCast_ediv, Int.tmod_eq_emod_of_nonneg (Int.natCast_nonneg _)]
  unfold bt
  rw [Bool.eq_iff_iff]
  simp only [beq_iff_eq, decide_eq_true_iff]
  omega
theorem src1w (w : World) (x : Hx) : ∀ j u, (flat 1 fun _ => x)[j]? = some u → (w.alloc (.cells (tab 32 fun i => bv (x i)) 28)).cell? ((⟨w.heap.size, 0, none⟩ : Addr).add j) = some u := fun j u hu => by
  rw [flat1h] at hu
  rw [add_at, Nat.zero_add, cell_of_row _ _ _ _ _ _ (heap_alloc_last w _)]
  simpa using hu
/-- Behind the answers. -/
theorem Rw.fin {W y : World} {T T' : Nat → Prop} {r l : Nat} {S : Sto} {met : Bool} {rt lf h : Hx} {sd : Nat → Hx} {V : Value} (H : Rw W T r S met l rt lf h sd V T' y) (a b : Hx) :
    IsTab ((y.setRow (W.heap.size + 2) (tab 32 fun i => bv (a i))).setRow (W.heap.size + 3) (tab 32 fun i => bv (b i))) (W.heap.size + 2) 28 32 (fun i => bv (a i)) ∧ IsTab ((y.setRow (W.heap.size + 2) (tab 32 fun i => bv (a i))).setRow (W.heap.size + 3) (tab 32 fun i => bv (b i))) (W.heap.size + 3) 28 32 (fun i => bv (b i)) ∧ IsR ((y.setRow (W.heap.size + 2) (tab 32 fun i => bv (a i))).setRow (W.heap.size + 3) (tab 32 fun i => bv (b i))) T' r S met ∧ (∀ j, T' j → (T j ∨ W.heap.size ≤ j) ∧ j < ((y.setRow (W.heap.size + 2) (tab 32 fun i => bv (a i))).setRow (W.heap.size + 3) (tab 32 fun i => bv (b i))).heap.size) ∧ Kept T W ((y.setRow (W.heap.size + 2) (tab 32 fun i => bv (a i))).setRow (W.heap.size + 3) (tab 32 fun i => bv (b i))) := by
  have k1 : Kept (fun k => k = W.heap.size + 2) y (y.setRow (W.heap.size + 2) (tab 32 fun i => bv (a i))) := ⟨by simp, by simp, by simp, by simp, fun k _ hk => setRow_other _ _ _ _ hk⟩
  have h2 : IsTab (y.setRow (W.heap.size + 2) (tab 32 fun i => bv (a i))) (W.heap.size + 2) 28 32 fun i => bv (a i) := H.c2.row
  have h3 := Wt.IsTab.kept H.c3 k1 (by omega)
  generalize y.setRow (W.heap.size + 2) (tab 32 fun i => bv (a i)) = y1 at *
  have k2 : Kept (fun k => k = W.heap.size + 3) y1 (y1.setRow (W.heap.size + 3) (tab 32 fun i => bv (b i))) := ⟨by simp, by simp, by simp, by simp, fun k _ hk => setRow_other _ _ _ _ hk⟩
  have h4 : IsTab (y1.setRow (W.heap.size + 3) (tab 32 fun i => bv (b i))) (W.heap.size + 3) 28 32 fun i => bv (b i) := h3.row
  have far := H.far
  refine ⟨Wt.IsTab.kept h2 k2 (by omega), h4, (H.st.kept k1 fun k hk e => by have := far k hk; omega).kept k2 fun k hk e => by have := far k hk; omega, fun j hj => ⟨(H.tt j hj).1.imp id fun h => by omega, Nat.lt_of_lt_of_le (H.tt j hj).2 (Nat.le_trans k1.size k2.size)⟩, (H.kp.trans k1 fun k hlt e => by omega).trans k2 fun k hlt e => by omega⟩
/-- The half that the way doesn't take. -/
def sdv (M : List (Hx × Px)) (hh : Nat → Hx) (d i : Nat) : Nat → Hx := fun j => hfb (px M hh j) (!bt d i j)
theorem bt_walk2 (d i l : Nat) : (((i : Int) / 2 ^ (d - 1 - l)).tmod 2 == 1) = bt d i l := by
  rw [show ((2 : Int) ^ (d - 1 - l)) = ((2 ^ (d - 1 - l) : Nat) : Int) from (Int.natCast_pow 2 _).symm, ← Int.natCast_ediv, Int.tmod_eq_emod_of_nonneg (Int.natCast_nonneg _)]
  unfold bt
  rw [Bool.eq_iff_iff]
  simp only [beq_iff_eq, decide_eq_true_iff]
  omega
/-- The preimage of a level on the way up, the digests, the preimages that are held, and whether two met. -/
def wjn (sd : Nat → Hx) (d i j : Nat) (leaf : Hx) : Px := if bt d i (d - 1 - j) then jn (sd (d - 1 - j)) leaf else jn leaf (sd (d - 1 - j))
def wlf (sd : Nat → Hx) (d i : Nat) (lf : Hx) : Nat → Hx
  | 0 => lf
  | j + 1 => hs (wjn sd d i j (wlf sd d i lf j))
def wpr (M : List (Hx × Px)) (sd : Nat → Hx) (d i : Nat) (lf : Hx) : Nat → List (Hx × Px)
  | 0 => M
  | j + 1 => putM (wpr M sd d i lf j) (hs (wjn sd d i j (wlf sd d i lf j))) (wjn sd d i j (wlf sd d i lf j))
def wmt (met : Bool) (M : List (Hx × Px)) (sd : Nat → Hx) (d i : Nat) (lf : Hx) : Nat → Bool
  | 0 => met
  | j + 1 => wmt met M sd d i lf j || clash (wpr M sd d i lf j) (wjn sd d i j (wlf sd d i lf j))
theorem putM_len (M : List (Hx × Px)) (h : Hx) (p : Px) : (putM M h p).length ≤ M.length + 1 := by unfold putM; split <;> simp
theorem wpr_len (M : List (Hx × Px)) (sd : Nat → Hx) (d i : Nat) (lf : Hx) : ∀ j, (wpr M sd d i lf j).length ≤ M.length + j
  | 0 => Nat.le_refl _
  | j + 1 => by have h1 := wpr_len M sd d i lf j; have h2 := putM_len (wpr M sd d i lf j) (hs (wjn sd d i j (wlf sd d i lf j))) (wjn sd d i j (wlf sd d i lf j)); unfold wpr; omega
set_option maxHeartbeats 8000000 in
set_option maxRecDepth 100000 in
theorem rwrite_walk (T : Nat → Prop) (r : Nat) (S : Sto) (met : Bool) (d i k : Nat) (hh : Nat → Hx) (lf : Hx) (w : World) (hs : IsR w T r S met) (hT : ∀ j, T j → j < w.heap.size) (hl : S.pres.length + 17 < 1073741824) (hn : S.asked.length + 17 < 1073741824) (hd : d ≤ 16) (hi : i < 2 ^ d) (hk : k ≤ d)
    (hstep : ∀ j, j < k → hh (j + 1) = hfb (px S.pres hh j) (bt d i j)) (hhas : ∀ j, j < k → has S.pres (hh j) = true) (hend : k = d ∨ has S.pres (hh k) = false) (x y : Hx) (V E : Int) (S' : Sto) (met' : Bool) (hv : (k = d → x = hh d ∧ y = wlf (sdv S.pres hh d i) d i lf d ∧ V = -1 ∧ E = 0 ∧ S' = ⟨wpr S.pres (sdv S.pres hh d i) d i lf d, askN S.asked hh d⟩ ∧ met' = wmt met S.pres (sdv S.pres hh d i) d i lf d) ∧ (k < d → x = (fun _ => 0#8) ∧ y = (fun _ => 0#8) ∧ V = k ∧ E = 14 ∧ S' = ⟨S.pres, askN S.asked hh (k + 1)⟩ ∧ met' = met)) :
    Calls Tryd.prog 25 #[.pointer (some ⟨r, 0, none⟩), .int .i64 d, dv (hh 0), .int .i64 i, dv lf, .bool true] w fun e w' => e = .returned (.tuple #[dv x, dv y, .int .i64 V, .int .i64 E]) ∧ ∃ T' : Nat → Prop, IsR w' T' r S' met' ∧ (∀ j, T' j → (T j ∨ w.heap.size ≤ j) ∧ j < w'.heap.size) ∧ Kept T w w' := by
  have hp2 : (2 : Nat) ^ d ≤ 2 ^ 16 := Nat.pow_le_pow_right (by decide) hd
  have t1 : decide ((d : Int) < 0) = false := by simp
  have t2 : decide (16 < (d : Int)) = false := by simp; omega
  have t3 : decide ((i : Int) < 0) = false := by simp
  have t5 : decide (wrap64 ((2 : Int) ^ d) ≤ (i : Int)) = false := by
    rw [decide_eq_false_iff_not, show ((2 : Int) ^ d) = ((2 ^ d : Nat) : Int) from (Int.natCast_pow 2 d).symm]
    have h9 : (2 : Nat) ^ d ≤ 65536 := hp2
    unfold wrap64
    omega
  have HP2 := Lib.hid hp2
  have HST := Lib.hid (And.intro hs (And.intro hT hl))
  have HDK := Lib.hid (And.intro hd (And.intro hk (And.intro hi hn)))
  have HHH := Lib.hid (And.intro hstep (And.intro hhas hend))
  have HV := Lib.hid hv
  clear hp2 hs hT hl hn hi hstep hhas hend hv
  have z1 := zeroPre
  generalize hz : (tab 64 fun _ => bv 0#8) = zq at *
  have HZQ := Lib.hid hz
  clear hz
  have z2 := zero26
  generalize hz : (tab 32 fun _ => bv 0#8) = zh at *
  have HZH := Lib.hid hz
  clear hz
  unfold dv
  go_enter Tryd.func25, Tryd.ntmps25
  go_upto_region 2 with (fail)
  have HA : Hid (IsTab (((((w.alloc (.cells (tab 32 fun i => bv (hh 0 i)) 28)).alloc (.cells (tab 32 fun i => bv (lf i)) 28)).alloc (.cells zh 28)).alloc (.cells zh 28)).alloc (.cells zh 28)) w.heap.size 28 32 (fun i => bv (hh 0 i)) ∧ IsTab (((((w.alloc (.cells (tab 32 fun i => bv (hh 0 i)) 28)).alloc (.cells (tab 32 fun i => bv (lf i)) 28)).alloc (.cells zh 28)).alloc (.cells zh 28)).alloc (.cells zh 28)) (w.heap.size + 1) 28 32 (fun i => bv (lf i)) ∧ IsTab (((((w.alloc (.cells (tab 32 fun i => bv (hh 0 i)) 28)).alloc (.cells (tab 32 fun i => bv (lf i)) 28)).alloc (.cells zh 28)).alloc (.cells zh 28)).alloc (.cells zh 28)) (w.heap.size + 2) 28 32 (fun _ => bv 0#8) ∧ IsTab (((((w.alloc (.cells (tab 32 fun i => bv (hh 0 i)) 28)).alloc (.cells (tab 32 fun i => bv (lf i)) 28)).alloc (.cells zh 28)).alloc (.cells zh 28)).alloc (.cells zh 28)) (w.heap.size + 3) 28 32 (fun _ => bv 0#8) ∧ IsTab (((((w.alloc (.cells (tab 32 fun i => bv (hh 0 i)) 28)).alloc (.cells (tab 32 fun i => bv (lf i)) 28)).alloc (.cells zh 28)).alloc (.cells zh 28)).alloc (.cells zh 28)) (w.heap.size + 4) 28 32 (fun _ => bv 0#8) ∧ Below w.heap.size w (((((w.alloc (.cells (tab 32 fun i => bv (hh 0 i)) 28)).alloc (.cells (tab 32 fun i => bv (lf i)) 28)).alloc (.cells zh 28)).alloc (.cells zh 28)).alloc (.cells zh 28)) ∧ (((((w.alloc (.cells (tab 32 fun i => bv (hh 0 i)) 28)).alloc (.cells (tab 32 fun i => bv (lf i)) 28)).alloc (.cells zh 28)).alloc (.cells zh 28)).alloc (.cells zh 28)).heap.size = w.heap.size + 5) := by
    rw [← HZH.out]
    refine Lib.hid ⟨((((IsTab.new w _ 32 _).alloc _).alloc _).alloc _).alloc _, ?_, ?_, ?_, ?_, (((((Below.refl _ _).alloc (Nat.le_refl _) _).alloc (by simp) _).alloc (by simp; omega) _).alloc (by simp; omega) _).alloc (by simp; omega) _, by simp⟩
    · have := ((((IsTab.new (w.alloc (.cells (tab 32 fun i => bv (hh 0 i)) 28)) 28 32 fun i => bv (lf i)).alloc (.cells (tab 32 fun _ => bv 0#8) 28)).alloc (.cells (tab 32 fun _ => bv 0#8) 28)).alloc (.cells (tab 32 fun _ => bv 0#8) 28))
      simpa using this
    · have := (((IsTab.new ((w.alloc (.cells (tab 32 fun i => bv (hh 0 i)) 28)).alloc (.cells (tab 32 fun i => bv (lf i)) 28)) 28 32 fun _ => bv 0#8).alloc (.cells (tab 32 fun _ => bv 0#8) 28)).alloc (.cells (tab 32 fun _ => bv 0#8) 28))
      simpa using this
    · have := ((IsTab.new (((w.alloc (.cells (tab 32 fun i => bv (hh 0 i)) 28)).alloc (.cells (tab 32 fun i => bv (lf i)) 28)).alloc (.cells (tab 32 fun _ => bv 0#8) 28)) 28 32 fun _ => bv 0#8).alloc (.cells (tab 32 fun _ => bv 0#8) 28))
      simpa using this
    · have := (IsTab.new ((((w.alloc (.cells (tab 32 fun i => bv (hh 0 i)) 28)).alloc (.cells (tab 32 fun i => bv (lf i)) 28)).alloc (.cells (tab 32 fun _ => bv 0#8) 28)).alloc (.cells (tab 32 fun _ => bv 0#8) 28)) 28 32 fun _ => bv 0#8)
      simpa using this
  generalize (((((w.alloc (.cells (tab 32 fun i => bv (hh 0 i)) 28)).alloc (.cells (tab 32 fun i => bv (lf i)) 28)).alloc (.cells zh 28)).alloc (.cells zh 28)).alloc (.cells zh 28)) = y0 at *
  have HL0 := Lib.hid (loadRb HA.out.1)
  go_upto_region 6 with (first
    | ((with_reducible refine wpList_loadE (P := Tryd.prog) (w := y0) (ty := 28) (x := .tmp 8) (p := .pointer (some ⟨w.heap.size, 0, none⟩)) (v := .agg (tab 32 fun i => bv (hh 0 i))) ?_ ?_ ?_ HL0.out ?_); (· exact rfl); (· exact rfl); (· exact rfl))
    | ((with_reducible refine wpList_store_row (P := Tryd.prog) (w := y0.alloc (.cells zh 28)) ?_ 28 (.tmp 18) (.tmp 43) ?_ y0.heap.size (tab 32 fun i => bv (hh 0 i)) ?_ ?_ 28 zh (heap_alloc_last y0 _) (by rw [tab_size]; exact infR) ?_ (one_bv _ _) ?_); (· exact rfl); (· exact rfl); (· exact rfl); (· exact rfl); (· rw [← HZH.out, tab_size, tab_size]); rw [World.setRow_alloc_new]; simp only [Act.put]))
  have H0 : Hid (∃ T', Rw w T r ⟨S.pres, askN S.asked hh 0⟩ met 0 (hh 0) lf (hh 0) (sdv S.pres hh d i) (.slice none 0 0) T' (y0.alloc (.cells (tab 32 fun i => bv (hh 0 i)) 28))) := by
    have hb : Below w.heap.size w (y0.alloc (.cells (tab 32 fun i => bv (hh 0 i)) 28)) := bl HA.out.2.2.2.2.2.1 (ba _ _)
    have hz0 := HA.out.2.2.2.2.2.2
    have h5 := IsTab.new y0 28 32 fun i => bv (hh 0 i)
    rw [hz0] at h5
    exact Lib.hid ⟨T, HST.out.1.below hb, fun k hk => ⟨.inl hk, by have := HST.out.2.1 k hk; have := hb.size; omega⟩, HA.out.1.alloc _, HA.out.2.1.alloc _, HA.out.2.2.1.alloc _, HA.out.2.2.2.1.alloc _, HA.out.2.2.2.2.1.alloc _, h5, World.ownsRow_nil _ _ _ _, (fun k e => by cases e), Kept.ofBelow hb, HST.out.2.1, by simp; omega⟩
  have hz0 : y0.heap.size = w.heap.size + 5 := HA.out.2.2.2.2.2.2
  rw [hz0]
  clear t1 t2 t3 t5 HL0 HA hz0
  generalize y0.alloc (.cells (tab 32 fun i => bv (hh 0 i)) 28) = y1 at *
  go_wp2_with (fail)
  generalize hV0 : (Value.slice none 0 0) = V0 at *
  clear hV0
  go_loopw [17, 19] (fun ts tl y => ∃ l : Nat, l ≤ k ∧ tl = .int .i64 l ∧ Hid (∃ T', Rw w T r ⟨S.pres, askN S.asked hh l⟩ met l (hh 0) lf (hh l) (sdv S.pres hh d i) ts T' y)) (fun _ tl _ => d - (intOf tl).toNat)
  case atStart => exact ⟨0, Nat.zero_le _, rfl, H0⟩
  case round =>
    obtain ⟨l, hlk, rfl, hp⟩ := hrel
    obtain ⟨T1, hp⟩ := hp.out
    have HP := Lib.hid hp
    clear hp H0
    by_cases hlt : l < k
    · have t1 : decide (l < d) = true := by have := HDK.out.2.1; simp; omega
      have hg := rget_some T1 r ⟨S.pres, askN S.asked hh l⟩ met (hh l) wr HP.out.st (fun k hk => (HP.out.tt k hk).2) (Nat.lt_of_le_of_lt (Nat.le_add_right _ 17) HST.out.2.2) (by have h1 := askN_len S.asked hh l; have h2 := HDK.out; show (askN S.asked hh l).length < _; omega) (HHH.out.2.1 l hlt)
      rw [show (look (⟨S.pres, askN S.asked hh l⟩ : Sto).pres (hh l)).getD zp = px S.pres hh l from rfl] at hg
      unfold dv pv at hg
      have HG := Lib.hid hg
      clear hg
      have HLH := Lib.hid (loadRb HP.out.c5)
      have HLT := Lib.hid hlt
      clear hlt
      go_upto_region 10 with (first
        | ((with_reducible refine wpList_loadE (P := Tryd.prog) (w := wr) (ty := 28) (x := .tmp 18) (p := .pointer (some ⟨w.heap.size + 5, 0, none⟩)) (v := .agg (tab 32 fun i => bv (hh l i))) ?_ ?_ ?_ HLH.out ?_); (· exact rfl); (· exact rfl); (· exact rfl))
        | (go_at_call 20; (with_reducible refine HG.out.mono ?_); rintro e y3 ⟨he, T2, c1, c2, c3⟩; obtain rfl : e = _ := he; have HP3 := Lib.hid (HP.out.got c1 c2 c3); clear c1 c2 c3 HG)
        | ((with_reducible refine wpList_store_row (P := Tryd.prog) (w := y3.alloc (.cells zq 37)) ?_ 37 (.tmp 20) (.tmp 53) ?_ y3.heap.size (tab 64 fun i => bv (px S.pres hh l i)) ?_ ?_ 37 zq (heap_alloc_last y3 _) (infPre _) ?_ (one_bv _ _) ?_); (· exact rfl); (· exact rfl); (· exact rfl); (· exact rfl); (· rw [← HZQ.out, tab_size, tab_size]); rw [World.setRow_alloc_new]; simp only [Act.put]))
      have H4 : Hid (Rw w T r ⟨S.pres, askN S.asked hh (l + 1)⟩ met l (hh 0) lf (hh l) (sdv S.pres hh d i) u17 T2 (y3.alloc (.cells (tab 64 fun i => bv (px S.pres hh l i)) 37)) ∧ IsTab (y3.alloc (.cells (tab 64 fun i => bv (px S.pres hh l i)) 37)) y3.heap.size 37 64 (fun i => bv (px S.pres hh l i)) ∧ w.heap.size + 6 ≤ y3.heap.size ∧ (∀ j, T2 j → j < y3.heap.size) ∧ ∀ k, u17.ownBlock = some k → k < y3.heap.size) := Lib.hid ⟨HP3.out.next (ba _ _), IsTab.new y3 _ 64 _, HP3.out.ob, fun j hj => (HP3.out.tt j hj).2, fun k hk => own_lt HP3.out.row hk⟩
      clear HP HP3 HLH t1
      generalize y3.alloc (.cells (tab 64 fun i => bv (px S.pres hh l i)) 37) = y4 at *
      generalize y3.heap.size = q20 at *
      go_upto_region 13 with (fail)
      rw [bt_walk d i l (Nat.lt_of_lt_of_le HLT.out HDK.out.2.1) HDK.out.1]
      have HRB : Hid (hh (l + 1) = hfb (px S.pres hh l) (bt d i l)) := Lib.hid (HHH.out.1 l HLT.out)
      have HLP := Lib.hid (loadPb H4.out.2.1)
      obtain ⟨z, hz⟩ : ∃ z, sdv S.pres hh d i l = z := ⟨_, rfl⟩
      have hj := half_walk (px S.pres hh l) (!bt d i l) y4
      rw [show hfb (px S.pres hh l) (!bt d i l) = z from hz] at hj
      unfold dv pv at hj
      have HJ := Lib.hid hj
      have HZ := Lib.hid hz
      clear hj hz
      have HLB : Hid (l + 1 ≤ maxLen ∧ (l + 1) * 32 ≤ 140737488355328) := Lib.hid ⟨by unfold maxLen; have := HDK.out; have := HLT.out; omega, by have := HDK.out; have := HLT.out; omega⟩
      obtain ⟨i0, hi0⟩ := infRa
      have HI := Lib.hid hi0
      clear hi0
      have H32 : Hid (0 < 32) := Lib.hid (by decide)
      generalize bt d i l = rb at *
      go_upto_region 14 with (first
        | ((with_reducible refine wpList_loadE (P := Tryd.prog) (w := y4) (ty := 37) (x := .tmp 20) (p := .pointer (some ⟨q20, 0, none⟩)) (v := .agg (tab 64 fun i => bv (px S.pres hh l i))) ?_ ?_ ?_ HLP.out ?_); (· exact rfl); (· exact rfl); (· exact rfl))
        | (go_at_call 56; (with_reducible refine HJ.out.mono ?_); rintro e y5 ⟨he, hb⟩; obtain rfl : e = _ := he; have HB5 := Lib.hid hb; clear hb HJ; have HBD := Lib.hid (buildRa z y5); have H5 := Lib.hid (And.intro ((H4.out.1.next HB5.out).next (ba y5 (.cells (tab 32 fun i => bv (z i)) 28))) (And.intro ((H4.out.2.1.below HB5.out).alloc (.cells (tab 32 fun i => bv (z i)) 28)) (src1w y5 z))))
        | ((with_reducible refine wpList_build1 (P := Tryd.prog) (w := y5) (t := 29) (x := .tmp 74) (p := .agg (tab 32 fun i => bv (z i))) (v := .slice (some ⟨y5.heap.size, 0, none⟩) 1 1) (w' := y5.alloc (.cells (tab 32 fun i => bv (z i)) 28)) ?_ ?_ ?_ HBD.out ?_); (· exact rfl); (· exact rfl); (· exact rfl))
        | (at_builtin; (with_reducible refine wpList_append_at (P := Tryd.prog) (w := y5.alloc (.cells (tab 32 fun i => bv (z i)) 28)) ?_ (.tmp 70) (.tmp 75) 29 ?_ (w.heap.size + 6) 28 i0 (dv fun _ => 0#8) 32 32 undRa HI.out zcellsH H32.out u17 l (flat l (sdv S.pres hh d i)) ?_ H5.out.1.row ⟨y5.heap.size, 0, none⟩ 1 1 (flat 1 fun _ => z) ?_ (flat_len _ _) H5.out.2.2 (flat_one _ _) HLB.out.1 HLB.out.2 H5.out.1.ob ?_); (· exact rfl); (· exact rfl); (· exact rfl); (· exact rfl); intro V7 w7 hown7 hgr7 hat7))
      have H7 : Hid (Rw w T r ⟨S.pres, askN S.asked hh (l + 1)⟩ met (l + 1) (hh 0) lf (hh l) (sdv S.pres hh d i) V7 T2 w7 ∧ IsTab w7 q20 37 64 (fun i => bv (px S.pres hh l i))) := by
        rw [← HZ.out] at hown7
        exact Lib.hid ⟨H5.out.1.grown hown7 hgr7 hat7, (hgr7.block q20 H5.out.2.1.lt (fun e => by have := H4.out.2.2.2.2 q20 e.symm; omega)).trans H5.out.2.1⟩
      clear H4 H5 hown7 hgr7 hat7 HLP HBD HLB H32 HB5
      have hj := half_walk (px S.pres hh l) rb w7
      rw [← HRB.out] at hj
      unfold dv pv at hj
      have HJ := Lib.hid hj
      clear hj
      have HLP := Lib.hid (loadPb H7.out.2)
      have hw1 : wrap64 ((l : Int) + 1) = ((l + 1 : Nat) : Int) := by have := HDK.out; have := HLT.out; unfold wrap64; omega
      go_wp2_with (first
        | ((with_reducible refine wpList_loadE (P := Tryd.prog) (w := w7) (ty := 37) (x := .tmp 20) (p := .pointer (some ⟨q20, 0, none⟩)) (v := .agg (tab 64 fun i => bv (px S.pres hh l i))) ?_ ?_ ?_ HLP.out ?_); (· exact rfl); (· exact rfl); (· exact rfl))
        | (go_at_call 56; (with_reducible refine HJ.out.mono ?_); rintro e y8 ⟨he, hb⟩; obtain rfl : e = _ := he; have H8 := Lib.hid (H7.out.1.next hb); clear hb HJ)
        | ((with_reducible refine wpList_store_row (P := Tryd.prog) (w := y8) ?_ 28 (.tmp 18) (.tmp 79) ?_ (w.heap.size + 5) (tab 32 fun i => bv (hh (l + 1) i)) ?_ ?_ 28 (tab 32 fun i => bv (hh l i)) ?_ (by rw [tab_size]; exact infR) ?_ (one_bv _ _) ?_); (· exact rfl); (· exact rfl); (· exact rfl); (· exact rfl); (· exact H8.out.c5); (· rw [tab_size, tab_size])))
      go_roundw
      case rel => exact ⟨l + 1, HLT.out, by go_num, Lib.hid ⟨T2, H8.out.step (h' := hh (l + 1)) fun _ _ => rfl⟩⟩
      case measure => have := HDK.out; have := HLT.out; simp [intOf]; omega
    · obtain rfl : l = k := by omega
      by_cases hkd : l < d
      · have t1 : decide (l < d) = true := by simp; omega
        have hg := rget_none T1 r ⟨S.pres, askN S.asked hh l⟩ met (hh l) wr HP.out.st (fun k hk => (HP.out.tt k hk).2) (Nat.lt_of_le_of_lt (Nat.le_add_right _ 17) HST.out.2.2) (by have h1 := askN_len S.asked hh l; have h2 := HDK.out; show (askN S.asked hh l).length < _; omega) (HHH.out.2.2.resolve_left (by omega))
        unfold dv pv at hg
        have HG := Lib.hid hg
        clear hg
        have HLH := Lib.hid (loadRb HP.out.c5)
        have HLT := Lib.hid hkd
        clear hkd hlt
        go_upto_region 11 with (first
          | ((with_reducible refine wpList_loadE (P := Tryd.prog) (w := wr) (ty := 28) (x := .tmp 18) (p := .pointer (some ⟨w.heap.size + 5, 0, none⟩)) (v := .agg (tab 32 fun i => bv (hh l i))) ?_ ?_ ?_ HLH.out ?_); (· exact rfl); (· exact rfl); (· exact rfl))
          | (go_at_call 20; (with_reducible refine HG.out.mono ?_); rintro e y3 ⟨he, T2, c1, c2, c3⟩; obtain rfl : e = _ := he; have HP3 := Lib.hid (HP.out.got c1 c2 c3); clear c1 c2 c3 HG)
          | ((with_reducible refine wpList_store_row (P := Tryd.prog) (w := y3.alloc (.cells zq 37)) ?_ 37 (.tmp 20) (.tmp 53) ?_ y3.heap.size (tab 64 fun i => bv (zp i)) ?_ ?_ 37 zq (heap_alloc_last y3 _) (infPre _) ?_ (one_bv _ _) ?_); (· exact rfl); (· exact rfl); (· exact rfl); (· exact rfl); (· rw [← HZQ.out, tab_size, tab_size]); rw [World.setRow_alloc_new]; simp only [Act.put]))
        have H4 := Lib.hid ((HP3.out.next (ba y3 (.cells (tab 64 fun i => bv (zp i)) 37))).next (Below.refl _ _).drew)
        clear HP HP3 HLH t1
        generalize y3.alloc (.cells (tab 64 fun i => bv (zp i)) 37) = y4 at *
        refine wp_region_og (fun z : World => IsTab z (w.heap.size + 4) 28 32 fun _ => bv 0#8) (.take 0 (.take 1 (.take 2 (.take 3 (.one 4 (.one 5 (.take 6 (.take 7 .done)))))))) (by kernel_rfl) (by kernel_rfl) (H4.out.c4) ?_
        generalize y4.drew = y5 at *
        refine og_ld (some 57) 28 (.tmp 16) (.pointer (some ⟨w.heap.size + 4, 0, none⟩)) (.agg (tab 32 fun _ => bv 0#8)) rfl rfl (by go_simp) rfl rfl (fun y hy => loadRb (x := fun _ => 0#8) hy) ?_
        simp only [Act.put, pS]
        refine og_ld (some 58) 28 (.tmp 16) (.pointer (some ⟨w.heap.size + 4, 0, none⟩)) (.agg (tab 32 fun _ => bv 0#8)) rfl rfl (by go_simp) rfl rfl (fun y hy => loadRb (x := fun _ => 0#8) hy) ?_
        simp only [Act.put, pS]
        refine og_tk (some 59) (.int .i64 l) rfl rfl (by go_simp) (fun _ _ => by simp [execOp, go_sem]) ?_
        simp only [Act.put, pS]
        refine og_tk (some 60) (.int .i64 14) rfl rfl (by go_simp) (fun _ _ => by simp [execOp, go_sem]) ?_
        simp only [Act.put, pS]
        refine og_f rfl (by go_simp) fun K hK => ?_
        refine wp_store_row 28 (.tmp 12) (.tmp 57) rfl (w.heap.size + 2) (tab 32 fun _ => bv 0#8) rfl rfl 28 _ (H4.out.c2) (by rw [tab_size]; exact infR) (by simp only [tab_size]) (one_bv _ _) ?_
        refine hK _ _ (Wt.IsTab.kept H4.out.c4 (⟨by simp, by simp, by simp, by simp, fun k _ hk => setRow_other _ _ _ _ hk⟩ : Kept (fun k => k = w.heap.size + 2) y5 (y5.setRow (w.heap.size + 2) (tab 32 fun _ => bv 0#8))) (by omega)) ?_
        clear hK K
        try simp only [Act.put, pS]
        refine og_f rfl (by go_simp) fun K hK => ?_
        refine wp_store_row 28 (.tmp 13) (.tmp 58) rfl (w.heap.size + 3) (tab 32 fun _ => bv 0#8) rfl rfl 28 _ (Wt.IsTab.kept H4.out.c3 (⟨by simp, by simp, by simp, by simp, fun k _ hk => setRow_other _ _ _ _ hk⟩ : Kept (fun k => k = w.heap.size + 2) y5 (y5.setRow (w.heap.size + 2) (tab 32 fun _ => bv 0#8))) (by omega)) (by rw [tab_size]; exact infR) (by simp only [tab_size]) (one_bv _ _) ?_
        refine hK _ _ (Wt.IsTab.kept (Wt.IsTab.kept H4.out.c4 (⟨by simp, by simp, by simp, by simp, fun k _ hk => setRow_other _ _ _ _ hk⟩ : Kept (fun k => k = w.heap.size + 2) y5 (y5.setRow (w.heap.size + 2) (tab 32 fun _ => bv 0#8))) (by omega)) (⟨by simp, by simp, by simp, by simp, fun k _ hk => setRow_other _ _ _ _ hk⟩ : Kept (fun k => k = w.heap.size + 3) (y5.setRow (w.heap.size + 2) (tab 32 fun _ => bv 0#8)) ((y5.setRow (w.heap.size + 2) (tab 32 fun _ => bv 0#8)).setRow (w.heap.size + 3) (tab 32 fun _ => bv 0#8))) (by omega)) ?_
        clear hK K
        try simp only [Act.put, pS]
        refine og_tk (some 14) (.int .i64 l) rfl rfl (by go_simp) (fun _ _ => by simp [execOp, go_sem]) ?_
        simp only [Act.put, pS]
        refine og_tk (some 15) (.int .i64 14) rfl rfl (by go_simp) (fun _ _ => by simp [execOp, go_sem]) ?_
        simp only [Act.put, pS]
        refine og_done (NoPanic.normal ?_)
        go_wp2_with (fail)
        obtain ⟨b1, b2, b3, b4, b5⟩ := H4.out.fin (fun _ => 0#8) fun _ => 0#8
        have hv := HV.out.2 HLT.out
        exact bodyPost_ret (results_cells22 rfl _ _ (w.heap.size + 2) (w.heap.size + 3) 28 28 _ _ (0, 0) (0, 0) _ rfl b1 rfl b2 und26 rfl (by rw [tab_size]; exact infR) (by rw [tab_size]; exact infR) (.int .i64 l) (.int .i64 14) rfl rfl) rfl ⟨by rw [hv.1, hv.2.1, hv.2.2.1, hv.2.2.2.1], T2, by rw [hv.2.2.2.2.1, hv.2.2.2.2.2]; exact b3, b4, b5⟩
      · obtain rfl : l = d := by have := HDK.out.2.1; omega
        clear hlt hkd
        go_upto_region 17 with (fail)
        obtain ⟨va, vn, vc, hvv⟩ := own_slice HP.out.row
        subst hvv
        have H0 : Hid (∃ T', Rw w T r ⟨wpr S.pres (sdv S.pres hh l i) l i lf 0, askN S.asked hh l⟩ (wmt met S.pres (sdv S.pres hh l i) l i lf 0) l (hh 0) (wlf (sdv S.pres hh l i) l i lf 0) (hh l) (sdv S.pres hh l i) (.slice va vn vc) T' wr) := Lib.hid ⟨T1, HP.out⟩
        clear HP
        go_wp2_with (fail)
        go_loopw [23] (fun tl y => ∃ j : Nat, j ≤ l ∧ tl = .int .i64 ((l : Int) - 1 - (j : Int)) ∧ Hid (∃ T', Rw w T r ⟨wpr S.pres (sdv S.pres hh l i) l i lf j, askN S.asked hh l⟩ (wmt met S.pres (sdv S.pres hh l i) l i lf j) l (hh 0) (wlf (sdv S.pres hh l i) l i lf j) (hh l) (sdv S.pres hh l i) (.slice va vn vc) T' y)) (fun tl _ => (intOf tl + 1).toNat)
        case atStart => exact ⟨0, Nat.zero_le _, by simp, H0⟩
        case round =>
          obtain ⟨j, hj, rfl, hp⟩ := hrel
          obtain ⟨T3, hp⟩ := hp.out
          have HP := Lib.hid hp
          clear hp H0
          by_cases hjl : j < l
          · obtain ⟨c, hc⟩ : ∃ c : Nat, (l : Int) - 1 - (j : Int) = (c : Int) := ⟨l - 1 - j, by omega⟩
            rw [hc]
            have hcl : c < l := by omega
            have HJL : Hid (j + 1 ≤ l ∧ c < l ∧ l - 1 - j = c) := Lib.hid ⟨hjl, hcl, by omega⟩
            have HCC := Lib.hid hc
            obtain ⟨a', c', hv, hld⟩ := row_hx (row_base HP.out.row (Nat.zero_le _))
            obtain ⟨h1, h2, h3⟩ := Value.slice.inj hv
            obtain ⟨g, hg, _⟩ := hld c hcl
            rw [hg] at h1
            subst h1
            subst vn
            clear h3 hv hld hg
            obtain ⟨o, ho⟩ : ∃ o, 32 * c = o := ⟨_, rfl⟩
            have hko : c * 32 = o := by omega
            have hcl2 : (c : Int) < (l : Int) := by omega
            have HKO := Lib.hid (And.intro hcl2 hko)
            obtain ⟨lj, hlj⟩ : ∃ z, wlf (sdv S.pres hh l i) l i lf j = z := ⟨_, rfl⟩
            obtain ⟨sj, hsj⟩ : ∃ z, (sdv S.pres hh l i) c = z := ⟨_, rfl⟩
            have HLJ := Lib.hid hlj
            have HSJ := Lib.hid hsj
            have HLW : Hid (∀ y : World, y.ownsRow 0 28 32 (.slice (some ⟨g, 0, none⟩) l vc) l (flat l (sdv S.pres hh l i)) → (Instr.loadAt 28 (.pointer (some ⟨g, o, none⟩))).run Tryd.prog y = .ok (.agg (tab 32 fun x => bv (sj x))) y) := Lib.hid fun y hy => by rw [← hsj, ← ho]; exact row_ld hy hcl
            rw [hlj] at HP
            have hbt := bt_walk2 l i c
            have hw0 : wrap64 ((l : Int) - 1 - (c : Int)) = (l : Int) - 1 - (c : Int) := by have h2 := HDK.out; unfold wrap64; omega
            clear hlj hsj ho hko hcl2 hc hj
            cases hb : bt l i c
            · rw [hb] at hbt
              have HB := Lib.hid hb
              clear hb hjl
              go_upto_region 22 with (fail)
              clear hcl hbt hw0
              have HD := Lib.hid (HP.out.next (Below.refl _ _).drew)
              clear HP
              refine wp_region_oz (fun z : World => z.ownsRow 0 28 32 (.slice (some ⟨g, 0, none⟩) l vc) l (flat l (sdv S.pres hh l i)) ∧ IsTab z (w.heap.size + 1) 28 32 fun x => bv (lj x)) 8 (.take 0 (.take 1 (.take 2 (.take 3 (.take 4 (.take 5 (.one 6 (.one 7 (.one 8 .done))))))))) (by kernel_rfl) (by kernel_rfl) ⟨row_base HD.out.row (Nat.zero_le _), HD.out.c1⟩ ?_
              generalize wr.drew = y2 at *
              refine oz_tk (some 107) (.pointer (some ⟨r, 0, none⟩)) rfl rfl (by go_simp) (fun _ _ => by simp [execOp, go_sem]) ?_
              simp only [Act.put, pS]
              refine oz_ld (some 108) 28 (.tmp 10) (.pointer (some ⟨w.heap.size + 1, 0, none⟩)) (.agg (tab 32 fun x => bv (lj x))) rfl rfl (by go_simp) rfl rfl (fun y hy => loadRb hy.2) ?_
              simp only [Act.put, pS]
              refine oz_tk (some 109) (.slice (some ⟨g, 0, none⟩) l vc) rfl rfl (by go_simp) (fun _ _ => by simp [execOp, go_sem]) ?_
              simp only [Act.put, pS]
              refine oz_tk (some 110) (.int .i64 c) rfl rfl (by go_simp) (fun _ _ => by simp [execOp, go_sem]) ?_
              simp only [Act.put, pS]
              refine oz_tk (some 111) (.pointer (some ⟨g, o, none⟩)) rfl rfl (by go_simp) (fun y hy => by have h1 := HKO.out.1; have h2 := HKO.out.2; simp [execOp, go_sem, h1, h2, Result.andThen, Tryd.underlying29]) ?_
              simp only [Act.put, pS]
              refine oz_ld (some 112) 28 (.tmp 111) (.pointer (some ⟨g, o, none⟩)) (.agg (tab 32 fun x => bv (sj x))) rfl rfl (by go_simp) rfl rfl (fun y hy => HLW.out y hy.1) ?_
              simp only [Act.put, pS]
              have hj := joined_walk lj sj y2
              unfold dv at hj
              have HJ := Lib.hid hj
              clear hj
              refine oz_f rfl (by go_simp) fun K hK => ?_
              go_simp
              refine HJ.out.mono ?_
              rintro e y3 ⟨he, hb⟩
              obtain rfl : e = _ := he
              have HD3 := Lib.hid (HD.out.next hb)
              have hc := radd_walk T3 r ⟨wpr S.pres (sdv S.pres hh l i) l i lf j, askN S.asked hh l⟩ (wmt met S.pres (sdv S.pres hh l i) l i lf j) (jn lj sj) y3 HD3.out.st (fun q hq => (HD3.out.tt q hq).2) (by have h1 := wpr_len S.pres (sdv S.pres hh l i) l i lf j; have h2 := HST.out.2.2; have h3 := HDK.out; have h4 := HJL.out; show (wpr S.pres (sdv S.pres hh l i) l i lf j).length < _; omega)
              refine hK _ _ ⟨row_base HD3.out.row (Nat.zero_le _), HD3.out.c1⟩ ?_
              clear hK K hb HJ HD
              try simp only [Act.put, pS]
              obtain ⟨pj, hpj⟩ : ∃ pj, jn lj sj = pj := ⟨_, rfl⟩
              rw [hpj] at hc
              rw [hpj]
              unfold dv pv at hc
              have HC := Lib.hid hc
              clear hc
              have HN : Hid (wlf (sdv S.pres hh l i) l i lf (j + 1) = hs pj ∧ wpr S.pres (sdv S.pres hh l i) l i lf (j + 1) = putM (wpr S.pres (sdv S.pres hh l i) l i lf j) (hs pj) pj ∧ wmt met S.pres (sdv S.pres hh l i) l i lf (j + 1) = (wmt met S.pres (sdv S.pres hh l i) l i lf j || clash (wpr S.pres (sdv S.pres hh l i) l i lf j) pj)) := by
                have e : wjn (sdv S.pres hh l i) l i j (wlf (sdv S.pres hh l i) l i lf j) = pj := by
                  unfold wjn
                  rw [HJL.out.2.2, HB.out, HLJ.out, HSJ.out]
                  exact hpj
                exact Lib.hid ⟨by rw [wlf, e], by rw [wpr, e], by rw [wmt, e]⟩
              clear hpj
              refine oz_f rfl (by go_simp) fun K hK => ?_
              unfold pv
              go_simp
              refine HC.out.mono ?_
              rintro e y4 ⟨he, T4, c1, c2, c3⟩
              obtain rfl : e = _ := he
              have HD4 := HD3.out.got c1 c2 c3
              rw [← HN.out.2.1, ← HN.out.2.2] at HD4
              have HD5 := Lib.hid HD4
              refine hK _ _ ⟨row_base HD5.out.row (Nat.zero_le _), HD5.out.c1⟩ ?_
              clear hK K HD4 c1 c2 c3 HC HD3
              try simp only [Act.put, pS]
              refine oz_z rfl (by go_simp) fun K hK => ?_
              refine wp_store_row 28 (.tmp 10) (.tmp 114) rfl (w.heap.size + 1) (tab 32 fun x => bv (hs pj x)) rfl rfl 28 _ HD5.out.c1 (by rw [tab_size]; exact infR) (by simp only [tab_size]) (one_bv _ _) ?_
              refine hK _ _ ?_
              clear hK K
              simp only [Act.put, List.getElem_toArray, List.getElem_cons_succ, List.getElem_cons_zero]
              refine oz_done (NoPanic.normal ?_)
              have HF := Lib.hid (HD5.out.leaf (g := fun x => bv (hs pj x)) (lf' := wlf (sdv S.pres hh l i) l i lf (j + 1)) fun x _ => by rw [HN.out.1])
              generalize y4.setRow (w.heap.size + 1) (tab 32 fun x => bv (hs pj x)) = y6 at *
              have hw1 : wrap64 ((c : Int) - 1) = (c : Int) - 1 := by have h1 := HJL.out; have h2 := HDK.out; unfold wrap64; omega
              go_wp2_with (fail)
              go_roundw
              case rel => exact ⟨j + 1, HJL.out.1, congrArg (Value.int .i64) (by have := HCC.out; omega), Lib.hid ⟨T4, HF.out⟩⟩
              case measure => simp [intOf]; omega
            · rw [hb] at hbt
              have HB := Lib.hid hb
              clear hb hjl
              go_upto_region 21 with (fail)
              clear hcl hbt hw0
              have HD := Lib.hid (HP.out.next (Below.refl _ _).drew)
              clear HP
              refine wp_region_oz (fun z : World => z.ownsRow 0 28 32 (.slice (some ⟨g, 0, none⟩) l vc) l (flat l (sdv S.pres hh l i)) ∧ IsTab z (w.heap.size + 1) 28 32 fun x => bv (lj x)) 8 (.take 0 (.take 1 (.take 2 (.take 3 (.take 4 (.take 5 (.one 6 (.one 7 (.one 8 .done))))))))) (by kernel_rfl) (by kernel_rfl) ⟨row_base HD.out.row (Nat.zero_le _), HD.out.c1⟩ ?_
              generalize wr.drew = y2 at *
              refine oz_tk (some 99) (.pointer (some ⟨r, 0, none⟩)) rfl rfl (by go_simp) (fun _ _ => by simp [execOp, go_sem]) ?_
              simp only [Act.put, pS]
              refine oz_tk (some 100) (.slice (some ⟨g, 0, none⟩) l vc) rfl rfl (by go_simp) (fun _ _ => by simp [execOp, go_sem]) ?_
              simp only [Act.put, pS]
              refine oz_tk (some 101) (.int .i64 c) rfl rfl (by go_simp) (fun _ _ => by simp [execOp, go_sem]) ?_
              simp only [Act.put, pS]
              refine oz_tk (some 102) (.pointer (some ⟨g, o, none⟩)) rfl rfl (by go_simp) (fun y hy => by have h1 := HKO.out.1; have h2 := HKO.out.2; simp [execOp, go_sem, h1, h2, Result.andThen, Tryd.underlying29]) ?_
              simp only [Act.put, pS]
              refine oz_ld (some 103) 28 (.tmp 102) (.pointer (some ⟨g, o, none⟩)) (.agg (tab 32 fun x => bv (sj x))) rfl rfl (by go_simp) rfl rfl (fun y hy => HLW.out y hy.1) ?_
              simp only [Act.put, pS]
              refine oz_ld (some 104) 28 (.tmp 10) (.pointer (some ⟨w.heap.size + 1, 0, none⟩)) (.agg (tab 32 fun x => bv (lj x))) rfl rfl (by go_simp) rfl rfl (fun y hy => loadRb hy.2) ?_
              simp only [Act.put, pS]
              have hj := joined_walk sj lj y2
              unfold dv at hj
              have HJ := Lib.hid hj
              clear hj
              refine oz_f rfl (by go_simp) fun K hK => ?_
              go_simp
              refine HJ.out.mono ?_
              rintro e y3 ⟨he, hb⟩
              obtain rfl : e = _ := he
              have HD3 := Lib.hid (HD.out.next hb)
              have hc := radd_walk T3 r ⟨wpr S.pres (sdv S.pres hh l i) l i lf j, askN S.asked hh l⟩ (wmt met S.pres (sdv S.pres hh l i) l i lf j) (jn sj lj) y3 HD3.out.st (fun q hq => (HD3.out.tt q hq).2) (by have h1 := wpr_len S.pres (sdv S.pres hh l i) l i lf j; have h2 := HST.out.2.2; have h3 := HDK.out; have h4 := HJL.out; show (wpr S.pres (sdv S.pres hh l i) l i lf j).length < _; omega)
              refine hK _ _ ⟨row_base HD3.out.row (Nat.zero_le _), HD3.out.c1⟩ ?_
              clear hK K hb HJ HD
              try simp only [Act.put, pS]
              obtain ⟨pj, hpj⟩ : ∃ pj, jn sj lj = pj := ⟨_, rfl⟩
              rw [hpj] at hc
              rw [hpj]
              unfold dv pv at hc
              have HC := Lib.hid hc
              clear hc
              have HN : Hid (wlf (sdv S.pres hh l i) l i lf (j + 1) = hs pj ∧ wpr S.pres (sdv S.pres hh l i) l i lf (j + 1) = putM (wpr S.pres (sdv S.pres hh l i) l i lf j) (hs pj) pj ∧ wmt met S.pres (sdv S.pres hh l i) l i lf (j + 1) = (wmt met S.pres (sdv S.pres hh l i) l i lf j || clash (wpr S.pres (sdv S.pres hh l i) l i lf j) pj)) := by
                have e : wjn (sdv S.pres hh l i) l i j (wlf (sdv S.pres hh l i) l i lf j) = pj := by
                  unfold wjn
                  rw [HJL.out.2.2, HB.out, HLJ.out, HSJ.out]
                  exact hpj
                exact Lib.hid ⟨by rw [wlf, e], by rw [wpr, e], by rw [wmt, e]⟩
              clear hpj
              refine oz_f rfl (by go_simp) fun K hK => ?_
              unfold pv
              go_simp
              refine HC.out.mono ?_
              rintro e y4 ⟨he, T4, c1, c2, c3⟩
              obtain rfl : e = _ := he
              have HD4 := HD3.out.got c1 c2 c3
              rw [← HN.out.2.1, ← HN.out.2.2] at HD4
              have HD5 := Lib.hid HD4
              refine hK _ _ ⟨row_base HD5.out.row (Nat.zero_le _), HD5.out.c1⟩ ?_
              clear hK K HD4 c1 c2 c3 HC HD3
              try simp only [Act.put, pS]
              refine oz_z rfl (by go_simp) fun K hK => ?_
              refine wp_store_row 28 (.tmp 10) (.tmp 106) rfl (w.heap.size + 1) (tab 32 fun x => bv (hs pj x)) rfl rfl 28 _ HD5.out.c1 (by rw [tab_size]; exact infR) (by simp only [tab_size]) (one_bv _ _) ?_
              refine hK _ _ ?_
              clear hK K
              simp only [Act.put, List.getElem_toArray, List.getElem_cons_succ, List.getElem_cons_zero]
              refine oz_done (NoPanic.normal ?_)
              have HF := Lib.hid (HD5.out.leaf (g := fun x => bv (hs pj x)) (lf' := wlf (sdv S.pres hh l i) l i lf (j + 1)) fun x _ => by rw [HN.out.1])
              generalize y4.setRow (w.heap.size + 1) (tab 32 fun x => bv (hs pj x)) = y6 at *
              have hw1 : wrap64 ((c : Int) - 1) = (c : Int) - 1 := by have h1 := HJL.out; have h2 := HDK.out; unfold wrap64; omega
              go_wp2_with (fail)
              go_roundw
              case rel => exact ⟨j + 1, HJL.out.1, congrArg (Value.int .i64) (by have := HCC.out; omega), Lib.hid ⟨T4, HF.out⟩⟩
              case measure => simp [intOf]; omega
          · obtain rfl : j = l := by omega
            go_upto_region 23 with (fail)
            have H4 := Lib.hid (HP.out.next (Below.refl _ _).drew)
            clear HP
            refine wp_region_og (fun z : World => (IsTab z (w.heap.size + 5) 28 32 fun i => bv (hh j i)) ∧ IsTab z (w.heap.size + 1) 28 32 fun x => bv (wlf (sdv S.pres hh j i) j i lf j x)) (.take 0 (.take 1 (.one 2 (.one 3 (.take 4 (.take 5 .done)))))) (by kernel_rfl) (by kernel_rfl) (And.intro H4.out.c5 H4.out.c1) ?_
            generalize wr.drew = y5 at *
            refine og_ld (some 115) 28 (.tmp 18) (.pointer (some ⟨w.heap.size + 5, 0, none⟩)) (.agg (tab 32 fun i => bv (hh j i))) rfl rfl (by go_simp) rfl rfl (fun y hy => loadRb hy.1) ?_
            simp only [Act.put, pS]
            refine og_ld (some 116) 28 (.tmp 10) (.pointer (some ⟨w.heap.size + 1, 0, none⟩)) (.agg (tab 32 fun x => bv (wlf (sdv S.pres hh j i) j i lf j x))) rfl rfl (by go_simp) rfl rfl (fun y hy => loadRb hy.2) ?_
            simp only [Act.put, pS]
            refine og_f rfl (by go_simp) fun K hK => ?_
            refine wp_store_row 28 (.tmp 12) (.tmp 115) rfl (w.heap.size + 2) (tab 32 fun i => bv (hh j i)) rfl rfl 28 _ (H4.out.c2) (by rw [tab_size]; exact infR) (by simp only [tab_size]) (one_bv _ _) ?_
            refine hK _ _ (And.intro (Wt.IsTab.kept H4.out.c5 (⟨by simp, by simp, by simp, by simp, fun k _ hk => setRow_other _ _ _ _ hk⟩ : Kept (fun k => k = w.heap.size + 2) y5 (y5.setRow (w.heap.size + 2) (tab 32 fun i => bv (hh j i)))) (by omega)) (Wt.IsTab.kept H4.out.c1 (⟨by simp, by simp, by simp, by simp, fun k _ hk => setRow_other _ _ _ _ hk⟩ : Kept (fun k => k = w.heap.size + 2) y5 (y5.setRow (w.heap.size + 2) (tab 32 fun i => bv (hh j i)))) (by omega))) ?_
            clear hK K
            try simp only [Act.put, pS]
            refine og_f rfl (by go_simp) fun K hK => ?_
            refine wp_store_row 28 (.tmp 13) (.tmp 116) rfl (w.heap.size + 3) (tab 32 fun x => bv (wlf (sdv S.pres hh j i) j i lf j x)) rfl rfl 28 _ (Wt.IsTab.kept H4.out.c3 (⟨by simp, by simp, by simp, by simp, fun k _ hk => setRow_other _ _ _ _ hk⟩ : Kept (fun k => k = w.heap.size + 2) y5 (y5.setRow (w.heap.size + 2) (tab 32 fun i => bv (hh j i)))) (by omega)) (by rw [tab_size]; exact infR) (by simp only [tab_size]) (one_bv _ _) ?_
            refine hK _ _ (And.intro (Wt.IsTab.kept (Wt.IsTab.kept H4.out.c5 (⟨by simp, by simp, by simp, by simp, fun k _ hk => setRow_other _ _ _ _ hk⟩ : Kept (fun k => k = w.heap.size + 2) y5 (y5.setRow (w.heap.size + 2) (tab 32 fun i => bv (hh j i)))) (by omega)) (⟨by simp, by simp, by simp, by simp, fun k _ hk => setRow_other _ _ _ _ hk⟩ : Kept (fun k => k = w.heap.size + 3) (y5.setRow (w.heap.size + 2) (tab 32 fun i => bv (hh j i))) ((y5.setRow (w.heap.size + 2) (tab 32 fun i => bv (hh j i))).setRow (w.heap.size + 3) (tab 32 fun x => bv (wlf (sdv S.pres hh j i) j i lf j x)))) (by omega)) (Wt.IsTab.kept (Wt.IsTab.kept H4.out.c1 (⟨by simp, by simp, by simp, by simp, fun k _ hk => setRow_other _ _ _ _ hk⟩ : Kept (fun k => k = w.heap.size + 2) y5 (y5.setRow (w.heap.size + 2) (tab 32 fun i => bv (hh j i)))) (by omega)) (⟨by simp, by simp, by simp, by simp, fun k _ hk => setRow_other _ _ _ _ hk⟩ : Kept (fun k => k = w.heap.size + 3) (y5.setRow (w.heap.size + 2) (tab 32 fun i => bv (hh j i))) ((y5.setRow (w.heap.size + 2) (tab 32 fun i => bv (hh j i))).setRow (w.heap.size + 3) (tab 32 fun x => bv (wlf (sdv S.pres hh j i) j i lf j x)))) (by omega))) ?_
            clear hK K
            try simp only [Act.put, pS]
            refine og_tk (some 14) (.int .i64 (-1)) rfl rfl (by go_simp) (fun _ _ => by simp [execOp, go_sem]) ?_
            simp only [Act.put, pS]
            refine og_tk (some 15) (.int .i64 0) rfl rfl (by go_simp) (fun _ _ => by simp [execOp, go_sem]) ?_
            simp only [Act.put, pS]
            refine og_done (NoPanic.normal ?_)
            go_wp2_with (fail)
            obtain ⟨b1, b2, b3, b4, b5⟩ := H4.out.fin (hh j) (wlf (sdv S.pres hh j i) j i lf j)
            have hv := HV.out.1 trivial
            exact bodyPost_ret (results_cells22 rfl _ _ (w.heap.size + 2) (w.heap.size + 3) 28 28 _ _ (0, 0) (0, 0) _ rfl b1 rfl b2 und26 rfl (by rw [tab_size]; exact infR) (by rw [tab_size]; exact infR) (.int .i64 (-1)) (.int .i64 0) rfl rfl) rfl ⟨by rw [hv.1, hv.2.1, hv.2.2.1, hv.2.2.2.1], T3, by rw [hv.2.2.2.2.1, hv.2.2.2.2.2]; exact b3, b4, b5⟩
set_option maxHeartbeats 2000000 in
set_option maxRecDepth 100000 in
theorem rwrite_r1 (r : Nat) (d i : Int) (rt lf : Hx) (c : Bool) (w : World) (h1 : d < 0) : Calls Tryd.prog 25 #[.pointer (some ⟨r, 0, none⟩), .int .i64 d, dv rt, .int .i64 i, dv lf, .bool c] w fun e w' => e = .returned (.tuple #[dv fun _ => 0#8, dv fun _ => 0#8, .int .i64 (-1), .int .i64 2]) ∧ Below w.heap.size w w' := by
  have t1 : decide (d < 0) = true := by simp; omega
  clear h1
  have z2 := zero26
  generalize hz : (tab 32 fun _ => bv 0#8) = zh at *
  have HZH := Lib.hid hz
  clear hz
  unfold dv
  go_enter Tryd.func25, Tryd.ntmps25
  go_upto_region 2 with (fail)
  have HA : Hid (IsTab (((((w.alloc (.cells (tab 32 fun i => bv (rt i)) 28)).alloc (.cells (tab 32 fun i => bv (lf i)) 28)).alloc (.cells zh 28)).alloc (.cells zh 28)).alloc (.cells zh 28)) w.heap.size 28 32 (fun i => bv (rt i)) ∧ IsTab (((((w.alloc (.cells (tab 32 fun i => bv (rt i)) 28)).alloc (.cells (tab 32 fun i => bv (lf i)) 28)).alloc (.cells zh 28)).alloc (.cells zh 28)).alloc (.cells zh 28)) (w.heap.size + 1) 28 32 (fun i => bv (lf i)) ∧ IsTab (((((w.alloc (.cells (tab 32 fun i => bv (rt i)) 28)).alloc (.cells (tab 32 fun i => bv (lf i)) 28)).alloc (.cells zh 28)).alloc (.cells zh 28)).alloc (.cells zh 28)) (w.heap.size + 2) 28 32 (fun _ => bv 0#8) ∧ IsTab (((((w.alloc (.cells (tab 32 fun i => bv (rt i)) 28)).alloc (.cells (tab 32 fun i => bv (lf i)) 28)).alloc (.cells zh 28)).alloc (.cells zh 28)).alloc (.cells zh 28)) (w.heap.size + 3) 28 32 (fun _ => bv 0#8) ∧ IsTab (((((w.alloc (.cells (tab 32 fun i => bv (rt i)) 28)).alloc (.cells (tab 32 fun i => bv (lf i)) 28)).alloc (.cells zh 28)).alloc (.cells zh 28)).alloc (.cells zh 28)) (w.heap.size + 4) 28 32 (fun _ => bv 0#8) ∧ Below w.heap.size w (((((w.alloc (.cells (tab 32 fun i => bv (rt i)) 28)).alloc (.cells (tab 32 fun i => bv (lf i)) 28)).alloc (.cells zh 28)).alloc (.cells zh 28)).alloc (.cells zh 28)) ∧ (((((w.alloc (.cells (tab 32 fun i => bv (rt i)) 28)).alloc (.cells (tab 32 fun i => bv (lf i)) 28)).alloc (.cells zh 28)).alloc (.cells zh 28)).alloc (.cells zh 28)).heap.size = w.heap.size + 5) := by
    rw [← HZH.out]
    refine Lib.hid ⟨((((IsTab.new w _ 32 _).alloc _).alloc _).alloc _).alloc _, ?_, ?_, ?_, ?_, (((((Below.refl _ _).alloc (Nat.le_refl _) _).alloc (by simp) _).alloc (by simp; omega) _).alloc (by simp; omega) _).alloc (by simp; omega) _, by simp⟩
    · have := ((((IsTab.new (w.alloc (.cells (tab 32 fun i => bv (rt i)) 28)) 28 32 fun i => bv (lf i)).alloc (.cells (tab 32 fun _ => bv 0#8) 28)).alloc (.cells (tab 32 fun _ => bv 0#8) 28)).alloc (.cells (tab 32 fun _ => bv 0#8) 28))
      simpa using this
    · have := (((IsTab.new ((w.alloc (.cells (tab 32 fun i => bv (rt i)) 28)).alloc (.cells (tab 32 fun i => bv (lf i)) 28)) 28 32 fun _ => bv 0#8).alloc (.cells (tab 32 fun _ => bv 0#8) 28)).alloc (.cells (tab 32 fun _ => bv 0#8) 28))
      simpa using this
    · have := ((IsTab.new (((w.alloc (.cells (tab 32 fun i => bv (rt i)) 28)).alloc (.cells (tab 32 fun i => bv (lf i)) 28)).alloc (.cells (tab 32 fun _ => bv 0#8) 28)) 28 32 fun _ => bv 0#8).alloc (.cells (tab 32 fun _ => bv 0#8) 28))
      simpa using this
    · have := (IsTab.new ((((w.alloc (.cells (tab 32 fun i => bv (rt i)) 28)).alloc (.cells (tab 32 fun i => bv (lf i)) 28)).alloc (.cells (tab 32 fun _ => bv 0#8) 28)).alloc (.cells (tab 32 fun _ => bv 0#8) 28)) 28 32 fun _ => bv 0#8)
      simpa using this
  generalize (((((w.alloc (.cells (tab 32 fun i => bv (rt i)) 28)).alloc (.cells (tab 32 fun i => bv (lf i)) 28)).alloc (.cells zh 28)).alloc (.cells zh 28)).alloc (.cells zh 28)) = y0 at *
  go_upto_region 3 with (fail)
  have H4 : Hid (IsTab y0.drew (w.heap.size + 2) 28 32 (fun _ => bv 0#8) ∧ IsTab y0.drew (w.heap.size + 3) 28 32 (fun _ => bv 0#8) ∧ IsTab y0.drew (w.heap.size + 4) 28 32 (fun _ => bv 0#8) ∧ Below w.heap.size w y0.drew) := Lib.hid ⟨HA.out.2.2.1.drew, HA.out.2.2.2.1.drew, HA.out.2.2.2.2.1.drew, HA.out.2.2.2.2.2.1.drew⟩
  clear HA
  refine wp_region_og (fun z : World => IsTab z (w.heap.size + 4) 28 32 fun _ => bv 0#8) (.take 0 (.take 1 (.one 2 (.one 3 (.take 4 (.take 5 .done)))))) (by kernel_rfl) (by kernel_rfl) (H4.out.2.2.1) ?_
  generalize y0.drew = y5 at *
  refine og_ld (some 41) 28 (.tmp 16) (.pointer (some ⟨w.heap.size + 4, 0, none⟩)) (.agg (tab 32 fun _ => bv 0#8)) rfl rfl (by go_simp) rfl rfl (fun y hy => loadRb (x := fun _ => 0#8) hy) ?_
  simp only [Act.put, pS]
  refine og_ld (some 42) 28 (.tmp 16) (.pointer (some ⟨w.heap.size + 4, 0, none⟩)) (.agg (tab 32 fun _ => bv 0#8)) rfl rfl (by go_simp) rfl rfl (fun y hy => loadRb (x := fun _ => 0#8) hy) ?_
  simp only [Act.put, pS]
  refine og_f rfl (by go_simp) fun K hK => ?_
  refine wp_store_row 28 (.tmp 12) (.tmp 41) rfl (w.heap.size + 2) (tab 32 fun _ => bv 0#8) rfl rfl 28 _ (H4.out.1) (by rw [tab_size]; exact infR) (by simp only [tab_size]) (one_bv _ _) ?_
  refine hK _ _ (Wt.IsTab.kept H4.out.2.2.1 (⟨by simp, by simp, by simp, by simp, fun k _ hk => setRow_other _ _ _ _ hk⟩ : Kept (fun k => k = w.heap.size + 2) y5 (y5.setRow (w.heap.size + 2) (tab 32 fun _ => bv 0#8))) (by omega)) ?_
  clear hK K
  try simp only [Act.put, pS]
  refine og_f rfl (by go_simp) fun K hK => ?_
  refine wp_store_row 28 (.tmp 13) (.tmp 42) rfl (w.heap.size + 3) (tab 32 fun _ => bv 0#8) rfl rfl 28 _ (Wt.IsTab.kept H4.out.2.1 (⟨by simp, by simp, by simp, by simp, fun k _ hk => setRow_other _ _ _ _ hk⟩ : Kept (fun k => k = w.heap.size + 2) y5 (y5.setRow (w.heap.size + 2) (tab 32 fun _ => bv 0#8))) (by omega)) (by rw [tab_size]; exact infR) (by simp only [tab_size]) (one_bv _ _) ?_
  refine hK _ _ (Wt.IsTab.kept (Wt.IsTab.kept H4.out.2.2.1 (⟨by simp, by simp, by simp, by simp, fun k _ hk => setRow_other _ _ _ _ hk⟩ : Kept (fun k => k = w.heap.size + 2) y5 (y5.setRow (w.heap.size + 2) (tab 32 fun _ => bv 0#8))) (by omega)) (⟨by simp, by simp, by simp, by simp, fun k _ hk => setRow_other _ _ _ _ hk⟩ : Kept (fun k => k = w.heap.size + 3) (y5.setRow (w.heap.size + 2) (tab 32 fun _ => bv 0#8)) ((y5.setRow (w.heap.size + 2) (tab 32 fun _ => bv 0#8)).setRow (w.heap.size + 3) (tab 32 fun _ => bv 0#8))) (by omega)) ?_
  clear hK K
  try simp only [Act.put, pS]
  refine og_tk (some 14) (.int .i64 (-1)) rfl rfl (by go_simp) (fun _ _ => by simp [execOp, go_sem]) ?_
  simp only [Act.put, pS]
  refine og_tk (some 15) (.int .i64 2) rfl rfl (by go_simp) (fun _ _ => by simp [execOp, go_sem]) ?_
  simp only [Act.put, pS]
  refine og_done (NoPanic.normal ?_)
  go_wp2_with (fail)
  have k1 : Kept (fun k => k = w.heap.size + 2) y5 (y5.setRow (w.heap.size + 2) (tab 32 fun _ => bv 0#8)) := ⟨by simp, by simp, by simp, by simp, fun k _ hk => setRow_other _ _ _ _ hk⟩
  have h2 : IsTab (y5.setRow (w.heap.size + 2) (tab 32 fun _ => bv 0#8)) (w.heap.size + 2) 28 32 fun _ => bv 0#8 := H4.out.1.row
  have h3 := Wt.IsTab.kept H4.out.2.1 k1 (by omega)
  have hb := below_of H4.out.2.2.2 k1 fun k _ e => by omega
  generalize y5.setRow (w.heap.size + 2) (tab 32 fun _ => bv 0#8) = y6 at *
  have k2 : Kept (fun k => k = w.heap.size + 3) y6 (y6.setRow (w.heap.size + 3) (tab 32 fun _ => bv 0#8)) := ⟨by simp, by simp, by simp, by simp, fun k _ hk => setRow_other _ _ _ _ hk⟩
  have h4 : IsTab (y6.setRow (w.heap.size + 3) (tab 32 fun _ => bv 0#8)) (w.heap.size + 3) 28 32 fun _ => bv 0#8 := h3.row
  exact bodyPost_ret (results_cells22 rfl _ _ (w.heap.size + 2) (w.heap.size + 3) 28 28 _ _ (0, 0) (0, 0) _ rfl (Wt.IsTab.kept h2 k2 (by omega)) rfl h4 und26 rfl (by rw [tab_size]; exact infR) (by rw [tab_size]; exact infR) (.int .i64 (-1)) (.int .i64 2) rfl rfl) rfl ⟨rfl, below_of hb k2 fun k _ e => by omega⟩
set_option maxHeartbeats 2000000 in
set_option maxRecDepth 100000 in
theorem rwrite_r2 (r : Nat) (d i : Int) (rt lf : Hx) (c : Bool) (w : World) (h1 : 16 < d) : Calls Tryd.prog 25 #[.pointer (some ⟨r, 0, none⟩), .int .i64 d, dv rt, .int .i64 i, dv lf, .bool c] w fun e w' => e = .returned (.tuple #[dv fun _ => 0#8, dv fun _ => 0#8, .int .i64 (-1), .int .i64 2]) ∧ Below w.heap.size w w' := by
  have t1 : decide (d < 0) = false := by simp; omega
  have t2 : decide (16 < d) = true := by simp; omega
  clear h1
  have z2 := zero26
  generalize hz : (tab 32 fun _ => bv 0#8) = zh at *
  have HZH := Lib.hid hz
  clear hz
  unfold dv
  go_enter Tryd.func25, Tryd.ntmps25
  go_upto_region 2 with (fail)
  have HA : Hid (IsTab (((((w.alloc (.cells (tab 32 fun i => bv (rt i)) 28)).alloc (.cells (tab 32 fun i => bv (lf i)) 28)).alloc (.cells zh 28)).alloc (.cells zh 28)).alloc (.cells zh 28)) w.heap.size 28 32 (fun i => bv (rt i)) ∧ IsTab (((((w.alloc (.cells (tab 32 fun i => bv (rt i)) 28)).alloc (.cells (tab 32 fun i => bv (lf i)) 28)).alloc (.cells zh 28)).alloc (.cells zh 28)).alloc (.cells zh 28)) (w.heap.size + 1) 28 32 (fun i => bv (lf i)) ∧ IsTab (((((w.alloc (.cells (tab 32 fun i => bv (rt i)) 28)).alloc (.cells (tab 32 fun i => bv (lf i)) 28)).alloc (.cells zh 28)).alloc (.cells zh 28)).alloc (.cells zh 28)) (w.heap.size + 2) 28 32 (fun _ => bv 0#8) ∧ IsTab (((((w.alloc (.cells (tab 32 fun i => bv (rt i)) 28)).alloc (.cells (tab 32 fun i => bv (lf i)) 28)).alloc (.cells zh 28)).alloc (.cells zh 28)).alloc (.cells zh 28)) (w.heap.size + 3) 28 32 (fun _ => bv 0#8) ∧ IsTab (((((w.alloc (.cells (tab 32 fun i => bv (rt i)) 28)).alloc (.cells (tab 32 fun i => bv (lf i)) 28)).alloc (.cells zh 28)).alloc (.cells zh 28)).alloc (.cells zh 28)) (w.heap.size + 4) 28 32 (fun _ => bv 0#8) ∧ Below w.heap.size w (((((w.alloc (.cells (tab 32 fun i => bv (rt i)) 28)).alloc (.cells (tab 32 fun i => bv (lf i)) 28)).alloc (.cells zh 28)).alloc (.cells zh 28)).alloc (.cells zh 28)) ∧ (((((w.alloc (.cells (tab 32 fun i => bv (rt i)) 28)).alloc (.cells (tab 32 fun i => bv (lf i)) 28)).alloc (.cells zh 28)).alloc (.cells zh 28)).alloc (.cells zh 28)).heap.size = w.heap.size + 5) := by
    rw [← HZH.out]
    refine Lib.hid ⟨((((IsTab.new w _ 32 _).alloc _).alloc _).alloc _).alloc _, ?_, ?_, ?_, ?_, (((((Below.refl _ _).alloc (Nat.le_refl _) _).alloc (by simp) _).alloc (by simp; omega) _).alloc (by simp; omega) _).alloc (by simp; omega) _, by simp⟩
    · have := ((((IsTab.new (w.alloc (.cells (tab 32 fun i => bv (rt i)) 28)) 28 32 fun i => bv (lf i)).alloc (.cells (tab 32 fun _ => bv 0#8) 28)).alloc (.cells (tab 32 fun _ => bv 0#8) 28)).alloc (.cells (tab 32 fun _ => bv 0#8) 28))
      simpa using this
    · have := (((IsTab.new ((w.alloc (.cells (tab 32 fun i => bv (rt i)) 28)).alloc (.cells (tab 32 fun i => bv (lf i)) 28)) 28 32 fun _ => bv 0#8).alloc (.cells (tab 32 fun _ => bv 0#8) 28)).alloc (.cells (tab 32 fun _ => bv 0#8) 28))
      simpa using this
    · have := ((IsTab.new (((w.alloc (.cells (tab 32 fun i => bv (rt i)) 28)).alloc (.cells (tab 32 fun i => bv (lf i)) 28)).alloc (.cells (tab 32 fun _ => bv 0#8) 28)) 28 32 fun _ => bv 0#8).alloc (.cells (tab 32 fun _ => bv 0#8) 28))
      simpa using this
    · have := (IsTab.new ((((w.alloc (.cells (tab 32 fun i => bv (rt i)) 28)).alloc (.cells (tab 32 fun i => bv (lf i)) 28)).alloc (.cells (tab 32 fun _ => bv 0#8) 28)).alloc (.cells (tab 32 fun _ => bv 0#8) 28)) 28 32 fun _ => bv 0#8)
      simpa using this
  generalize (((((w.alloc (.cells (tab 32 fun i => bv (rt i)) 28)).alloc (.cells (tab 32 fun i => bv (lf i)) 28)).alloc (.cells zh 28)).alloc (.cells zh 28)).alloc (.cells zh 28)) = y0 at *
  go_upto_region 3 with (fail)
  have H4 : Hid (IsTab y0.drew (w.heap.size + 2) 28 32 (fun _ => bv 0#8) ∧ IsTab y0.drew (w.heap.size + 3) 28 32 (fun _ => bv 0#8) ∧ IsTab y0.drew (w.heap.size + 4) 28 32 (fun _ => bv 0#8) ∧ Below w.heap.size w y0.drew) := Lib.hid ⟨HA.out.2.2.1.drew, HA.out.2.2.2.1.drew, HA.out.2.2.2.2.1.drew, HA.out.2.2.2.2.2.1.drew⟩
  clear HA
  refine wp_region_og (fun z : World => IsTab z (w.heap.size + 4) 28 32 fun _ => bv 0#8) (.take 0 (.take 1 (.one 2 (.one 3 (.take 4 (.take 5 .done)))))) (by kernel_rfl) (by kernel_rfl) (H4.out.2.2.1) ?_
  generalize y0.drew = y5 at *
  refine og_ld (some 41) 28 (.tmp 16) (.pointer (some ⟨w.heap.size + 4, 0, none⟩)) (.agg (tab 32 fun _ => bv 0#8)) rfl rfl (by go_simp) rfl rfl (fun y hy => loadRb (x := fun _ => 0#8) hy) ?_
  simp only [Act.put, pS]
  refine og_ld (some 42) 28 (.tmp 16) (.pointer (some ⟨w.heap.size + 4, 0, none⟩)) (.agg (tab 32 fun _ => bv 0#8)) rfl rfl (by go_simp) rfl rfl (fun y hy => loadRb (x := fun _ => 0#8) hy) ?_
  simp only [Act.put, pS]
  refine og_f rfl (by go_simp) fun K hK => ?_
  refine wp_store_row 28 (.tmp 12) (.tmp 41) rfl (w.heap.size + 2) (tab 32 fun _ => bv 0#8) rfl rfl 28 _ (H4.out.1) (by rw [tab_size]; exact infR) (by simp only [tab_size]) (one_bv _ _) ?_
  refine hK _ _ (Wt.IsTab.kept H4.out.2.2.1 (⟨by simp, by simp, by simp, by simp, fun k _ hk => setRow_other _ _ _ _ hk⟩ : Kept (fun k => k = w.heap.size + 2) y5 (y5.setRow (w.heap.size + 2) (tab 32 fun _ => bv 0#8))) (by omega)) ?_
  clear hK K
  try simp only [Act.put, pS]
  refine og_f rfl (by go_simp) fun K hK => ?_
  refine wp_store_row 28 (.tmp 13) (.tmp 42) rfl (w.heap.size + 3) (tab 32 fun _ => bv 0#8) rfl rfl 28 _ (Wt.IsTab.kept H4.out.2.1 (⟨by simp, by simp, by simp, by simp, fun k _ hk => setRow_other _ _ _ _ hk⟩ : Kept (fun k => k = w.heap.size + 2) y5 (y5.setRow (w.heap.size + 2) (tab 32 fun _ => bv 0#8))) (by omega)) (by rw [tab_size]; exact infR) (by simp only [tab_size]) (one_bv _ _) ?_
  refine hK _ _ (Wt.IsTab.kept (Wt.IsTab.kept H4.out.2.2.1 (⟨by simp, by simp, by simp, by simp, fun k _ hk => setRow_other _ _ _ _ hk⟩ : Kept (fun k => k = w.heap.size + 2) y5 (y5.setRow (w.heap.size + 2) (tab 32 fun _ => bv 0#8))) (by omega)) (⟨by simp, by simp, by simp, by simp, fun k _ hk => setRow_other _ _ _ _ hk⟩ : Kept (fun k => k = w.heap.size + 3) (y5.setRow (w.heap.size + 2) (tab 32 fun _ => bv 0#8)) ((y5.setRow (w.heap.size + 2) (tab 32 fun _ => bv 0#8)).setRow (w.heap.size + 3) (tab 32 fun _ => bv 0#8))) (by omega)) ?_
  clear hK K
  try simp only [Act.put, pS]
  refine og_tk (some 14) (.int .i64 (-1)) rfl rfl (by go_simp) (fun _ _ => by simp [execOp, go_sem]) ?_
  simp only [Act.put, pS]
  refine og_tk (some 15) (.int .i64 2) rfl rfl (by go_simp) (fun _ _ => by simp [execOp, go_sem]) ?_
  simp only [Act.put, pS]
  refine og_done (NoPanic.normal ?_)
  go_wp2_with (fail)
  have k1 : Kept (fun k => k = w.heap.size + 2) y5 (y5.setRow (w.heap.size + 2) (tab 32 fun _ => bv 0#8)) := ⟨by simp, by simp, by simp, by simp, fun k _ hk => setRow_other _ _ _ _ hk⟩
  have h2 : IsTab (y5.setRow (w.heap.size + 2) (tab 32 fun _ => bv 0#8)) (w.heap.size + 2) 28 32 fun _ => bv 0#8 := H4.out.1.row
  have h3 := Wt.IsTab.kept H4.out.2.1 k1 (by omega)
  have hb := below_of H4.out.2.2.2 k1 fun k _ e => by omega
  generalize y5.setRow (w.heap.size + 2) (tab 32 fun _ => bv 0#8) = y6 at *
  have k2 : Kept (fun k => k = w.heap.size + 3) y6 (y6.setRow (w.heap.size + 3) (tab 32 fun _ => bv 0#8)) := ⟨by simp, by simp, by simp, by simp, fun k _ hk => setRow_other _ _ _ _ hk⟩
  have h4 : IsTab (y6.setRow (w.heap.size + 3) (tab 32 fun _ => bv 0#8)) (w.heap.size + 3) 28 32 fun _ => bv 0#8 := h3.row
  exact bodyPost_ret (results_cells22 rfl _ _ (w.heap.size + 2) (w.heap.size + 3) 28 28 _ _ (0, 0) (0, 0) _ rfl (Wt.IsTab.kept h2 k2 (by omega)) rfl h4 und26 rfl (by rw [tab_size]; exact infR) (by rw [tab_size]; exact infR) (.int .i64 (-1)) (.int .i64 2) rfl rfl) rfl ⟨rfl, below_of hb k2 fun k _ e => by omega⟩
set_option maxHeartbeats 2000000 in
set_option maxRecDepth 100000 in
theorem rwrite_r3 (r : Nat) (d i : Int) (rt lf : Hx) (c : Bool) (w : World) (h1 : 0 ≤ d ∧ d ≤ 16) (h2 : i < 0) : Calls Tryd.prog 25 #[.pointer (some ⟨r, 0, none⟩), .int .i64 d, dv rt, .int .i64 i, dv lf, .bool c] w fun e w' => e = .returned (.tuple #[dv fun _ => 0#8, dv fun _ => 0#8, .int .i64 (-1), .int .i64 2]) ∧ Below w.heap.size w w' := by
  have t1 : decide (d < 0) = false := by simp; omega
  have t2 : decide (16 < d) = false := by simp; omega
  have t3 : decide (i < 0) = true := by simp; omega
  clear h1 h2
  have z2 := zero26
  generalize hz : (tab 32 fun _ => bv 0#8) = zh at *
  have HZH := Lib.hid hz
  clear hz
  unfold dv
  go_enter Tryd.func25, Tryd.ntmps25
  go_upto_region 2 with (fail)
  have HA : Hid (IsTab (((((w.alloc (.cells (tab 32 fun i => bv (rt i)) 28)).alloc (.cells (tab 32 fun i => bv (lf i)) 28)).alloc (.cells zh 28)).alloc (.cells zh 28)).alloc (.cells zh 28)) w.heap.size 28 32 (fun i => bv (rt i)) ∧ IsTab (((((w.alloc (.cells (tab 32 fun i => bv (rt i)) 28)).alloc (.cells (tab 32 fun i => bv (lf i)) 28)).alloc (.cells zh 28)).alloc (.cells zh 28)).alloc (.cells zh 28)) (w.heap.size + 1) 28 32 (fun i => bv (lf i)) ∧ IsTab (((((w.alloc (.cells (tab 32 fun i => bv (rt i)) 28)).alloc (.cells (tab 32 fun i => bv (lf i)) 28)).alloc (.cells zh 28)).alloc (.cells zh 28)).alloc (.cells zh 28)) (w.heap.size + 2) 28 32 (fun _ => bv 0#8) ∧ IsTab (((((w.alloc (.cells (tab 32 fun i => bv (rt i)) 28)).alloc (.cells (tab 32 fun i => bv (lf i)) 28)).alloc (.cells zh 28)).alloc (.cells zh 28)).alloc (.cells zh 28)) (w.heap.size + 3) 28 32 (fun _ => bv 0#8) ∧ IsTab (((((w.alloc (.cells (tab 32 fun i => bv (rt i)) 28)).alloc (.cells (tab 32 fun i => bv (lf i)) 28)).alloc (.cells zh 28)).alloc (.cells zh 28)).alloc (.cells zh 28)) (w.heap.size + 4) 28 32 (fun _ => bv 0#8) ∧ Below w.heap.size w (((((w.alloc (.cells (tab 32 fun i => bv (rt i)) 28)).alloc (.cells (tab 32 fun i => bv (lf i)) 28)).alloc (.cells zh 28)).alloc (.cells zh 28)).alloc (.cells zh 28)) ∧ (((((w.alloc (.cells (tab 32 fun i => bv (rt i)) 28)).alloc (.cells (tab 32 fun i => bv (lf i)) 28)).alloc (.cells zh 28)).alloc (.cells zh 28)).alloc (.cells zh 28)).heap.size = w.heap.size + 5) := by
    rw [← HZH.out]
    refine Lib.hid ⟨((((IsTab.new w _ 32 _).alloc _).alloc _).alloc _).alloc _, ?_, ?_, ?_, ?_, (((((Below.refl _ _).alloc (Nat.le_refl _) _).alloc (by simp) _).alloc (by simp; omega) _).alloc (by simp; omega) _).alloc (by simp; omega) _, by simp⟩
    · have := ((((IsTab.new (w.alloc (.cells (tab 32 fun i => bv (rt i)) 28)) 28 32 fun i => bv (lf i)).alloc (.cells (tab 32 fun _ => bv 0#8) 28)).alloc (.cells (tab 32 fun _ => bv 0#8) 28)).alloc (.cells (tab 32 fun _ => bv 0#8) 28))
      simpa using this
    · have := (((IsTab.new ((w.alloc (.cells (tab 32 fun i => bv (rt i)) 28)).alloc (.cells (tab 32 fun i => bv (lf i)) 28)) 28 32 fun _ => bv 0#8).alloc (.cells (tab 32 fun _ => bv 0#8) 28)).alloc (.cells (tab 32 fun _ => bv 0#8) 28))
      simpa using this
    · have := ((IsTab.new (((w.alloc (.cells (tab 32 fun i => bv (rt i)) 28)).alloc (.cells (tab 32 fun i => bv (lf i)) 28)).alloc (.cells (tab 32 fun _ => bv 0#8) 28)) 28 32 fun _ => bv 0#8).alloc (.cells (tab 32 fun _ => bv 0#8) 28))
      simpa using this
    · have := (IsTab.new ((((w.alloc (.cells (tab 32 fun i => bv (rt i)) 28)).alloc (.cells (tab 32 fun i => bv (lf i)) 28)).alloc (.cells (tab 32 fun _ => bv 0#8) 28)).alloc (.cells (tab 32 fun _ => bv 0#8) 28)) 28 32 fun _ => bv 0#8)
      simpa using this
  generalize (((((w.alloc (.cells (tab 32 fun i => bv (rt i)) 28)).alloc (.cells (tab 32 fun i => bv (lf i)) 28)).alloc (.cells zh 28)).alloc (.cells zh 28)).alloc (.cells zh 28)) = y0 at *
  go_upto_region 3 with (fail)
  have H4 : Hid (IsTab y0.drew (w.heap.size + 2) 28 32 (fun _ => bv 0#8) ∧ IsTab y0.drew (w.heap.size + 3) 28 32 (fun _ => bv 0#8) ∧ IsTab y0.drew (w.heap.size + 4) 28 32 (fun _ => bv 0#8) ∧ Below w.heap.size w y0.drew) := Lib.hid ⟨HA.out.2.2.1.drew, HA.out.2.2.2.1.drew, HA.out.2.2.2.2.1.drew, HA.out.2.2.2.2.2.1.drew⟩
  clear HA
  refine wp_region_og (fun z : World => IsTab z (w.heap.size + 4) 28 32 fun _ => bv 0#8) (.take 0 (.take 1 (.one 2 (.one 3 (.take 4 (.take 5 .done)))))) (by kernel_rfl) (by kernel_rfl) (H4.out.2.2.1) ?_
  generalize y0.drew = y5 at *
  refine og_ld (some 41) 28 (.tmp 16) (.pointer (some ⟨w.heap.size + 4, 0, none⟩)) (.agg (tab 32 fun _ => bv 0#8)) rfl rfl (by go_simp) rfl rfl (fun y hy => loadRb (x := fun _ => 0#8) hy) ?_
  simp only [Act.put, pS]
  refine og_ld (some 42) 28 (.tmp 16) (.pointer (some ⟨w.heap.size + 4, 0, none⟩)) (.agg (tab 32 fun _ => bv 0#8)) rfl rfl (by go_simp) rfl rfl (fun y hy => loadRb (x := fun _ => 0#8) hy) ?_
  simp only [Act.put, pS]
  refine og_f rfl (by go_simp) fun K hK => ?_
  refine wp_store_row 28 (.tmp 12) (.tmp 41) rfl (w.heap.size + 2) (tab 32 fun _ => bv 0#8) rfl rfl 28 _ (H4.out.1) (by rw [tab_size]; exact infR) (by simp only [tab_size]) (one_bv _ _) ?_
  refine hK _ _ (Wt.IsTab.kept H4.out.2.2.1 (⟨by simp, by simp, by simp, by simp, fun k _ hk => setRow_other _ _ _ _ hk⟩ : Kept (fun k => k = w.heap.size + 2) y5 (y5.setRow (w.heap.size + 2) (tab 32 fun _ => bv 0#8))) (by omega)) ?_
  clear hK K
  try simp only [Act.put, pS]
  refine og_f rfl (by go_simp) fun K hK => ?_
  refine wp_store_row 28 (.tmp 13) (.tmp 42) rfl (w.heap.size + 3) (tab 32 fun _ => bv 0#8) rfl rfl 28 _ (Wt.IsTab.kept H4.out.2.1 (⟨by simp, by simp, by simp, by simp, fun k _ hk => setRow_other _ _ _ _ hk⟩ : Kept (fun k => k = w.heap.size + 2) y5 (y5.setRow (w.heap.size + 2) (tab 32 fun _ => bv 0#8))) (by omega)) (by rw [tab_size]; exact infR) (by simp only [tab_size]) (one_bv _ _) ?_
  refine hK _ _ (Wt.IsTab.kept (Wt.IsTab.kept H4.out.2.2.1 (⟨by simp, by simp, by simp, by simp, fun k _ hk => setRow_other _ _ _ _ hk⟩ : Kept (fun k => k = w.heap.size + 2) y5 (y5.setRow (w.heap.size + 2) (tab 32 fun _ => bv 0#8))) (by omega)) (⟨by simp, by simp, by simp, by simp, fun k _ hk => setRow_other _ _ _ _ hk⟩ : Kept (fun k => k = w.heap.size + 3) (y5.setRow (w.heap.size + 2) (tab 32 fun _ => bv 0#8)) ((y5.setRow (w.heap.size + 2) (tab 32 fun _ => bv 0#8)).setRow (w.heap.size + 3) (tab 32 fun _ => bv 0#8))) (by omega)) ?_
  clear hK K
  try simp only [Act.put, pS]
  refine og_tk (some 14) (.int .i64 (-1)) rfl rfl (by go_simp) (fun _ _ => by simp [execOp, go_sem]) ?_
  simp only [Act.put, pS]
  refine og_tk (some 15) (.int .i64 2) rfl rfl (by go_simp) (fun _ _ => by simp [execOp, go_sem]) ?_
  simp only [Act.put, pS]
  refine og_done (NoPanic.normal ?_)
  go_wp2_with (fail)
  have k1 : Kept (fun k => k = w.heap.size + 2) y5 (y5.setRow (w.heap.size + 2) (tab 32 fun _ => bv 0#8)) := ⟨by simp, by simp, by simp, by simp, fun k _ hk => setRow_other _ _ _ _ hk⟩
  have h2 : IsTab (y5.setRow (w.heap.size + 2) (tab 32 fun _ => bv 0#8)) (w.heap.size + 2) 28 32 fun _ => bv 0#8 := H4.out.1.row
  have h3 := Wt.IsTab.kept H4.out.2.1 k1 (by omega)
  have hb := below_of H4.out.2.2.2 k1 fun k _ e => by omega
  generalize y5.setRow (w.heap.size + 2) (tab 32 fun _ => bv 0#8) = y6 at *
  have k2 : Kept (fun k => k = w.heap.size + 3) y6 (y6.setRow (w.heap.size + 3) (tab 32 fun _ => bv 0#8)) := ⟨by simp, by simp, by simp, by simp, fun k _ hk => setRow_other _ _ _ _ hk⟩
  have h4 : IsTab (y6.setRow (w.heap.size + 3) (tab 32 fun _ => bv 0#8)) (w.heap.size + 3) 28 32 fun _ => bv 0#8 := h3.row
  exact bodyPost_ret (results_cells22 rfl _ _ (w.heap.size + 2) (w.heap.size + 3) 28 28 _ _ (0, 0) (0, 0) _ rfl (Wt.IsTab.kept h2 k2 (by omega)) rfl h4 und26 rfl (by rw [tab_size]; exact infR) (by rw [tab_size]; exact infR) (.int .i64 (-1)) (.int .i64 2) rfl rfl) rfl ⟨rfl, below_of hb k2 fun k _ e => by omega⟩
set_option maxHeartbeats 2000000 in
set_option maxRecDepth 100000 in
theorem rwrite_r4 (r : Nat) (d i : Int) (rt lf : Hx) (c : Bool) (w : World) (n : Nat) (hd : d = n) (h1 : n ≤ 16) (h2 : 0 ≤ i) (h3 : 2 ^ n ≤ i) : Calls Tryd.prog 25 #[.pointer (some ⟨r, 0, none⟩), .int .i64 d, dv rt, .int .i64 i, dv lf, .bool c] w fun e w' => e = .returned (.tuple #[dv fun _ => 0#8, dv fun _ => 0#8, .int .i64 (-1), .int .i64 2]) ∧ Below w.heap.size w w' := by
  subst hd
  have t1 : decide ((n : Int) < 0) = false := by simp
  have t2 : decide (16 < (n : Int)) = false := by simp; omega
  have t3 : decide (i < 0) = false := by simp; omega
  have t5 : decide (wrap64 ((2 : Int) ^ n) ≤ i) = true := by
    have h8 : (2 : Nat) ^ n ≤ 2 ^ 16 := Nat.pow_le_pow_right (by decide) h1
    have h9 : (2 : Nat) ^ n ≤ 65536 := h8
    rw [decide_eq_true_iff]
    rw [show ((2 : Int) ^ n) = ((2 ^ n : Nat) : Int) from (Int.natCast_pow 2 n).symm] at h3 ⊢
    generalize (2 : Nat) ^ n = q at *
    unfold wrap64
    omega
  clear h2 h3
  have z2 := zero26
  generalize hz : (tab 32 fun _ => bv 0#8) = zh at *
  have HZH := Lib.hid hz
  clear hz
  unfold dv
  go_enter Tryd.func25, Tryd.ntmps25
  go_upto_region 2 with (fail)
  have HA : Hid (IsTab (((((w.alloc (.cells (tab 32 fun i => bv (rt i)) 28)).alloc (.cells (tab 32 fun i => bv (lf i)) 28)).alloc (.cells zh 28)).alloc (.cells zh 28)).alloc (.cells zh 28)) w.heap.size 28 32 (fun i => bv (rt i)) ∧ IsTab (((((w.alloc (.cells (tab 32 fun i => bv (rt i)) 28)).alloc (.cells (tab 32 fun i => bv (lf i)) 28)).alloc (.cells zh 28)).alloc (.cells zh 28)).alloc (.cells zh 28)) (w.heap.size + 1) 28 32 (fun i => bv (lf i)) ∧ IsTab (((((w.alloc (.cells (tab 32 fun i => bv (rt i)) 28)).alloc (.cells (tab 32 fun i => bv (lf i)) 28)).alloc (.cells zh 28)).alloc (.cells zh 28)).alloc (.cells zh 28)) (w.heap.size + 2) 28 32 (fun _ => bv 0#8) ∧ IsTab (((((w.alloc (.cells (tab 32 fun i => bv (rt i)) 28)).alloc (.cells (tab 32 fun i => bv (lf i)) 28)).alloc (.cells zh 28)).alloc (.cells zh 28)).alloc (.cells zh 28)) (w.heap.size + 3) 28 32 (fun _ => bv 0#8) ∧ IsTab (((((w.alloc (.cells (tab 32 fun i => bv (rt i)) 28)).alloc (.cells (tab 32 fun i => bv (lf i)) 28)).alloc (.cells zh 28)).alloc (.cells zh 28)).alloc (.cells zh 28)) (w.heap.size + 4) 28 32 (fun _ => bv 0#8) ∧ Below w.heap.size w (((((w.alloc (.cells (tab 32 fun i => bv (rt i)) 28)).alloc (.cells (tab 32 fun i => bv (lf i)) 28)).alloc (.cells zh 28)).alloc (.cells zh 28)).alloc (.cells zh 28)) ∧ (((((w.alloc (.cells (tab 32 fun i => bv (rt i)) 28)).alloc (.cells (tab 32 fun i => bv (lf i)) 28)).alloc (.cells zh 28)).alloc (.cells zh 28)).alloc (.cells zh 28)).heap.size = w.heap.size + 5) := by
    rw [← HZH.out]
    refine Lib.hid ⟨((((IsTab.new w _ 32 _).alloc _).alloc _).alloc _).alloc _, ?_, ?_, ?_, ?_, (((((Below.refl _ _).alloc (Nat.le_refl _) _).alloc (by simp) _).alloc (by simp; omega) _).alloc (by simp; omega) _).alloc (by simp; omega) _, by simp⟩
    · have := ((((IsTab.new (w.alloc (.cells (tab 32 fun i => bv (rt i)) 28)) 28 32 fun i => bv (lf i)).alloc (.cells (tab 32 fun _ => bv 0#8) 28)).alloc (.cells (tab 32 fun _ => bv 0#8) 28)).alloc (.cells (tab 32 fun _ => bv 0#8) 28))
      simpa using this
    · have := (((IsTab.new ((w.alloc (.cells (tab 32 fun i => bv (rt i)) 28)).alloc (.cells (tab 32 fun i => bv (lf i)) 28)) 28 32 fun _ => bv 0#8).alloc (.cells (tab 32 fun _ => bv 0#8) 28)).alloc (.cells (tab 32 fun _ => bv 0#8) 28))
      simpa using this
    · have := ((IsTab.new (((w.alloc (.cells (tab 32 fun i => bv (rt i)) 28)).alloc (.cells (tab 32 fun i => bv (lf i)) 28)).alloc (.cells (tab 32 fun _ => bv 0#8) 28)) 28 32 fun _ => bv 0#8).alloc (.cells (tab 32 fun _ => bv 0#8) 28))
      simpa using this
    · have := (IsTab.new ((((w.alloc (.cells (tab 32 fun i => bv (rt i)) 28)).alloc (.cells (tab 32 fun i => bv (lf i)) 28)).alloc (.cells (tab 32 fun _ => bv 0#8) 28)).alloc (.cells (tab 32 fun _ => bv 0#8) 28)) 28 32 fun _ => bv 0#8)
      simpa using this
  generalize (((((w.alloc (.cells (tab 32 fun i => bv (rt i)) 28)).alloc (.cells (tab 32 fun i => bv (lf i)) 28)).alloc (.cells zh 28)).alloc (.cells zh 28)).alloc (.cells zh 28)) = y0 at *
  go_upto_region 3 with (fail)
  have H4 : Hid (IsTab y0.drew (w.heap.size + 2) 28 32 (fun _ => bv 0#8) ∧ IsTab y0.drew (w.heap.size + 3) 28 32 (fun _ => bv 0#8) ∧ IsTab y0.drew (w.heap.size + 4) 28 32 (fun _ => bv 0#8) ∧ Below w.heap.size w y0.drew) := Lib.hid ⟨HA.out.2.2.1.drew, HA.out.2.2.2.1.drew, HA.out.2.2.2.2.1.drew, HA.out.2.2.2.2.2.1.drew⟩
  clear HA
  refine wp_region_og (fun z : World => IsTab z (w.heap.size + 4) 28 32 fun _ => bv 0#8) (.take 0 (.take 1 (.one 2 (.one 3 (.take 4 (.take 5 .done)))))) (by kernel_rfl) (by kernel_rfl) (H4.out.2.2.1) ?_
  generalize y0.drew = y5 at *
  refine og_ld (some 41) 28 (.tmp 16) (.pointer (some ⟨w.heap.size + 4, 0, none⟩)) (.agg (tab 32 fun _ => bv 0#8)) rfl rfl (by go_simp) rfl rfl (fun y hy => loadRb (x := fun _ => 0#8) hy) ?_
  simp only [Act.put, pS]
  refine og_ld (some 42) 28 (.tmp 16) (.pointer (some ⟨w.heap.size + 4, 0, none⟩)) (.agg (tab 32 fun _ => bv 0#8)) rfl rfl (by go_simp) rfl rfl (fun y hy => loadRb (x := fun _ => 0#8) hy) ?_
  simp only [Act.put, pS]
  refine og_f rfl (by go_simp) fun K hK => ?_
  refine wp_store_row 28 (.tmp 12) (.tmp 41) rfl (w.heap.size + 2) (tab 32 fun _ => bv 0#8) rfl rfl 28 _ (H4.out.1) (by rw [tab_size]; exact infR) (by simp only [tab_size]) (one_bv _ _) ?_
  refine hK _ _ (Wt.IsTab.kept H4.out.2.2.1 (⟨by simp, by simp, by simp, by simp, fun k _ hk => setRow_other _ _ _ _ hk⟩ : Kept (fun k => k = w.heap.size + 2) y5 (y5.setRow (w.heap.size + 2) (tab 32 fun _ => bv 0#8))) (by omega)) ?_
  clear hK K
  try simp only [Act.put, pS]
  refine og_f rfl (by go_simp) fun K hK => ?_
  refine wp_store_row 28 (.tmp 13) (.tmp 42) rfl (w.heap.size + 3) (tab 32 fun _ => bv 0#8) rfl rfl 28 _ (Wt.IsTab.kept H4.out.2.1 (⟨by simp, by simp, by simp, by simp, fun k _ hk => setRow_other _ _ _ _ hk⟩ : Kept (fun k => k = w.heap.size + 2) y5 (y5.setRow (w.heap.size + 2) (tab 32 fun _ => bv 0#8))) (by omega)) (by rw [tab_size]; exact infR) (by simp only [tab_size]) (one_bv _ _) ?_
  refine hK _ _ (Wt.IsTab.kept (Wt.IsTab.kept H4.out.2.2.1 (⟨by simp, by simp, by simp, by simp, fun k _ hk => setRow_other _ _ _ _ hk⟩ : Kept (fun k => k = w.heap.size + 2) y5 (y5.setRow (w.heap.size + 2) (tab 32 fun _ => bv 0#8))) (by omega)) (⟨by simp, by simp, by simp, by simp, fun k _ hk => setRow_other _ _ _ _ hk⟩ : Kept (fun k => k = w.heap.size + 3) (y5.setRow (w.heap.size + 2) (tab 32 fun _ => bv 0#8)) ((y5.setRow (w.heap.size + 2) (tab 32 fun _ => bv 0#8)).setRow (w.heap.size + 3) (tab 32 fun _ => bv 0#8))) (by omega)) ?_
  clear hK K
  try simp only [Act.put, pS]
  refine og_tk (some 14) (.int .i64 (-1)) rfl rfl (by go_simp) (fun _ _ => by simp [execOp, go_sem]) ?_
  simp only [Act.put, pS]
  refine og_tk (some 15) (.int .i64 2) rfl rfl (by go_simp) (fun _ _ => by simp [execOp, go_sem]) ?_
  simp only [Act.put, pS]
  refine og_done (NoPanic.normal ?_)
  go_wp2_with (fail)
  have k1 : Kept (fun k => k = w.heap.size + 2) y5 (y5.setRow (w.heap.size + 2) (tab 32 fun _ => bv 0#8)) := ⟨by simp, by simp, by simp, by simp, fun k _ hk => setRow_other _ _ _ _ hk⟩
  have h2 : IsTab (y5.setRow (w.heap.size + 2) (tab 32 fun _ => bv 0#8)) (w.heap.size + 2) 28 32 fun _ => bv 0#8 := H4.out.1.row
  have h3 := Wt.IsTab.kept H4.out.2.1 k1 (by omega)
  have hb := below_of H4.out.2.2.2 k1 fun k _ e => by omega
  generalize y5.setRow (w.heap.size + 2) (tab 32 fun _ => bv 0#8) = y6 at *
  have k2 : Kept (fun k => k = w.heap.size + 3) y6 (y6.setRow (w.heap.size + 3) (tab 32 fun _ => bv 0#8)) := ⟨by simp, by simp, by simp, by simp, fun k _ hk => setRow_other _ _ _ _ hk⟩
  have h4 : IsTab (y6.setRow (w.heap.size + 3) (tab 32 fun _ => bv 0#8)) (w.heap.size + 3) 28 32 fun _ => bv 0#8 := h3.row
  exact bodyPost_ret (results_cells22 rfl _ _ (w.heap.size + 2) (w.heap.size + 3) 28 28 _ _ (0, 0) (0, 0) _ rfl (Wt.IsTab.kept h2 k2 (by omega)) rfl h4 und26 rfl (by rw [tab_size]; exact infR) (by rw [tab_size]; exact infR) (.int .i64 (-1)) (.int .i64 2) rfl rfl) rfl ⟨rfl, below_of hb k2 fun k _ e => by omega⟩
/-- Where the place is none, that is told. -/
theorem rwrite_range (r : Nat) (d i : Int) (rt lf : Hx) (c : Bool) (w : World) (h : ¬ place d i) : Calls Tryd.prog 25 #[.pointer (some ⟨r, 0, none⟩), .int .i64 d, dv rt, .int .i64 i, dv lf, .bool c] w fun e w' => e = .returned (.tuple #[dv fun _ => 0#8, dv fun _ => 0#8, .int .i64 (-1), .int .i64 2]) ∧ Below w.heap.size w w' := by
  by_cases h1 : d < 0
  · exact rwrite_r1 r d i rt lf c w h1
  by_cases h2 : 16 < d
  · exact rwrite_r2 r d i rt lf c w h2
  by_cases h3 : i < 0
  · exact rwrite_r3 r d i rt lf c w ⟨by omega, by omega⟩ h3
  obtain ⟨n, hn⟩ : ∃ n : Nat, d = n := ⟨d.toNat, by omega⟩
  refine rwrite_r4 r d i rt lf c w n hn (by omega) (by omega) ?_
  have e : d.toNat = n := by omega
  rcases Int.lt_or_le i (2 ^ n) with h4 | h4
  · exact absurd ⟨by omega, by omega, by omega, by rw [e]; exact h4⟩ h
  · exact h4
end Wt
end Go.Proofs.YtdmffnjbholkkaaDoor
