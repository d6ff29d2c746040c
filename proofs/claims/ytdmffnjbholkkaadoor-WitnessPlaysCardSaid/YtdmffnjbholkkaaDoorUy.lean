/- Merged. Own work. -/
import Derived.Test.YtdmffnjbholkkaaDoorUp
import Derived.Test.YtdmffnjbholkkaaDoorZz
namespace Go.Proofs.YtdmffnjbholkkaaDoor
open Go.RowKit
set_option linter.unusedVariables false
set_option linter.unusedSimpArgs false
set_option linter.unusedVariables false
set_option linter.unusedSimpArgs false
namespace Wt
open Kc Mk
set_option maxRecDepth 100000 in
theorem wrong_walk (E : Value) (n p a y : Int) (w : World) (hw : Calls Tryd.prog 49 #[E] w fun e w' => e = .returned (.tuple #[.int .i64 n, .int .i64 p]) ∧ Below w.heap.size w w') : Calls Tryd.prog 21 #[E, .int .i64 a, .int .i64 y] w fun e w' => e = .returned (.bool (decide (n = y) && decide (p = a))) ∧ Below w.heap.size w w' := by
  have HW := Lib.hid hw
  clear hw
  go_enter Tryd.func21, Tryd.ntmps21
  go_upto_region 2 with (first
    | (go_at_call 49; (with_reducible refine HW.out.mono ?_); rintro e y1 ⟨he, hb⟩; obtain rfl : e = _ := he; have HB := Lib.hid hb; clear hb HW))
  by_cases h1 : n = y
  · by_cases h2 : p = a
    · have t1 : (n == y) = true := by simp [h1]
      go_wp2_with (fail)
      exact bodyPost_ret (v := .bool (decide (n = y) && decide (p = a))) (by simp [results, Tryd.results21, go_sem, h1, h2]) rfl ⟨rfl, HB.out⟩
    · go_wp2_with (fail)
      exact bodyPost_ret (v := .bool (decide (n = y) && decide (p = a))) (by simp [results, Tryd.results21, go_sem, h1, h2]) rfl ⟨rfl, HB.out⟩
  · go_wp2_with (fail)
    exact bodyPost_ret (v := .bool (decide (n = y) && decide (p = a))) (by simp [results, Tryd.results21, go_sem, h1]) rfl ⟨rfl, HB.out⟩
/-- How many stand before a place when the k-th is left out, and which. -/
def cnt (k i : Nat) : Nat := if i ≤ k then i else i - 1
def lft {β : Type} (f : Nat → β) (k : Nat) : Nat → β := fun j => if j < k then f j else f (j + 1)
theorem cnt_same (k : Nat) : cnt k (k + 1) = cnt k k := by unfold cnt; simp
theorem cnt_next {k i : Nat} (h : i ≠ k) : cnt k (i + 1) = cnt k i + 1 := by unfold cnt; split <;> split <;> omega
theorem lft_cnt {β : Type} (f : Nat → β) {k i : Nat} (h : i ≠ k) : lft f k (cnt k i) = f i := by
  unfold lft cnt
  split <;> split <;> first | omega | (congr 1; omega) | rfl
/-- What Drop's loop keeps. -/
structure Rd (W : World) (k i : Nat) (M : List (Hx × Px)) (V6 V7 : Value) (y : World) : Prop where
  r6 : y.ownsRow (W.heap.size + 1) 28 32 V6 (cnt k i) (flat (cnt k i) (lft (kf M) k))
  r7 : y.ownsRow (W.heap.size + 1) 37 64 V7 (cnt k i) (flp (cnt k i) (lft (pf M) k))
  ne : ∀ q, V6.ownBlock = some q → V7.ownBlock ≠ some q
  bel : Below W.heap.size W y
  sz : W.heap.size + 1 ≤ y.heap.size
section
variable {W y y' : World} {k i : Nat} {M : List (Hx × Px)} {V6 V7 V' : Value}
theorem Rd.next (H : Rd W k i M V6 V7 y) (hb : Below y.heap.size y y') : Rd W k i M V6 V7 y' :=
  ⟨(Kept.ofBelow (S := fun _ => False) hb).row H.r6 (fun _ _ h => h), (Kept.ofBelow (S := fun _ => False) hb).row H.r7 (fun _ _ h => h), H.ne, bl H.bel hb, Nat.le_trans H.sz hb.size⟩
/-- The rows while the first has grown. -/
structure Rd1 (W : World) (k i : Nat) (M : List (Hx × Px)) (V6 V7 : Value) (y : World) : Prop where
  r6 : y.ownsRow (W.heap.size + 1) 28 32 V6 (cnt k i + 1) (flat (cnt k i + 1) (lft (kf M) k))
  r7 : y.ownsRow (W.heap.size + 1) 37 64 V7 (cnt k i) (flp (cnt k i) (lft (pf M) k))
  ne : ∀ q, V6.ownBlock = some q → V7.ownBlock ≠ some q
  bel : Below W.heap.size W y
  sz : W.heap.size + 1 ≤ y.heap.size
theorem Rd1.next (H : Rd1 W k i M V6 V7 y) (hb : Below y.heap.size y y') : Rd1 W k i M V6 V7 y' :=
  ⟨(Kept.ofBelow (S := fun _ => False) hb).row H.r6 (fun _ _ h => h), (Kept.ofBelow (S := fun _ => False) hb).row H.r7 (fun _ _ h => h), H.ne, bl H.bel hb, Nat.le_trans H.sz hb.size⟩
theorem Rd.first (H : Rd W k i M V6 V7 y) (hik : i ≠ k) (hr : y'.ownsRow (W.heap.size + 1) 28 32 V' (cnt k i + 1) (flat (cnt k i) (lft (kf M) k) ++ flat 1 fun _ => kf M i)) (hg : y.grownBy y' V6.ownBlock) (hV : ∀ q, V'.ownBlock = some q → V6.ownBlock = some q ∨ q = y.heap.size) : Rd1 W k i M V' V7 y' := by
  have hk : Kept (fun q => V6.ownBlock = some q) y y' := ⟨hg.os, hg.tape, hg.output, hg.size, fun q hq hn => hg.block q hq (fun e => hn e.symm)⟩
  have hB : ∀ q, V6.ownBlock = some q → W.heap.size + 1 ≤ q := fun q hq => owns_base H.r6 hq
  refine ⟨?_, hk.row H.r7 fun q e e2 => H.ne q e2 e, fun q e e2 => ?_, below_of H.bel hk fun q _ e => by have := hB q e; omega, Nat.le_trans H.sz hk.size⟩
  · rw [flat_append] at hr
    refine (flat_cong fun j hj => ?_) ▸ hr
    show _ = _
    split
    · rfl
    · rw [show j = cnt k i from by omega, lft_cnt _ hik]
  · rcases hV q e with e3 | e3
    · exact H.ne q e3 e2
    · have := own_lt H.r7 e2; omega
theorem Rd1.second (H : Rd1 W k i M V6 V7 y) (hik : i ≠ k) (hr : y'.ownsRow (W.heap.size + 1) 37 64 V' (cnt k i + 1) (flp (cnt k i) (lft (pf M) k) ++ flp 1 fun _ => pf M i)) (hg : y.grownBy y' V7.ownBlock) (hV : ∀ q, V'.ownBlock = some q → V7.ownBlock = some q ∨ q = y.heap.size) : Rd W k (i + 1) M V6 V' y' := by
  have hk : Kept (fun q => V7.ownBlock = some q) y y' := ⟨hg.os, hg.tape, hg.output, hg.size, fun q hq hn => hg.block q hq (fun e => hn e.symm)⟩
  have hB : ∀ q, V7.ownBlock = some q → W.heap.size + 1 ≤ q := fun q hq => owns_base H.r7 hq
  refine ⟨by rw [cnt_next hik]; exact hk.row H.r6 fun q e e2 => H.ne q e e2, ?_, fun q e e2 => ?_, below_of H.bel hk fun q _ e => by have := hB q e; omega, Nat.le_trans H.sz hk.size⟩
  · rw [cnt_next hik, ← flp_step, lft_cnt _ hik]
    exact hr
  · rcases hV q e2 with e3 | e3
    · exact H.ne q e e3
    · have := own_lt H.r6 e; omega
/-- What Drop leaves. -/
theorem Rd.done {T : Nat → Prop} {r : Nat} {S : Sto} {met : Bool} {vh vp va : Value} {M' : List (Hx × Px)} (hr : IsRo W T r S met vh vp va) (hT : ∀ j, T j → j < W.heap.size) (H : Rd W k S.pres.length S.pres V6 V7 y) (hk : k < S.pres.length) (hl : M'.length = S.pres.length - 1) (hkf : ∀ j, j < S.pres.length - 1 → kf M' j = lft (kf S.pres) k j) (hpf : ∀ j, j < S.pres.length - 1 → pf M' j = lft (pf S.pres) k j) (hap : Apart M') :
    IsRo ((y.setCell ⟨r, 0, none⟩ V6).setCell ⟨r, 1, none⟩ V7) (fun j => T j ∨ V6.ownBlock = some j ∨ V7.ownBlock = some j) r ⟨M', S.asked⟩ met V6 V7 va ∧ (∀ j, (T j ∨ V6.ownBlock = some j ∨ V7.ownBlock = some j) → (T j ∨ W.heap.size ≤ j) ∧ j < ((y.setCell ⟨r, 0, none⟩ V6).setCell ⟨r, 1, none⟩ V7).heap.size) ∧ Kept T W ((y.setCell ⟨r, 0, none⟩ V6).setCell ⟨r, 1, none⟩ V7) := by
  have hy := hr.below H.bel
  have k1 : Kept (fun q => q = r) y (y.setCell ⟨r, 0, none⟩ V6) := (Kept.refl (fun q => q = r) _).setCell (.inl rfl) _
  have k2 : Kept (fun q => q = r) y ((y.setCell ⟨r, 0, none⟩ V6).setCell ⟨r, 1, none⟩ V7) := k1.setCell (.inl rfl) _
  have hrl := hr.box.lt
  have hc : cnt k S.pres.length = S.pres.length - 1 := by unfold cnt; rw [if_neg (by omega)]
  have h6 := H.r6
  have h7 := H.r7
  rw [hc] at h6 h7
  have b6 : ∀ q, V6.ownBlock = some q → W.heap.size + 1 ≤ q := fun q e => owns_base h6 e
  have b7 : ∀ q, V7.ownBlock = some q → W.heap.size + 1 ≤ q := fun q e => owns_base h7 e
  have bv' : ∀ q, va.ownBlock = some q → q < W.heap.size := fun q e => own_lt hr.arow e
  have hz : ((y.setCell ⟨r, 0, none⟩ V6).setCell ⟨r, 1, none⟩ V7).heap.size = y.heap.size := by simp
  refine ⟨⟨(hy.box.p0 V6).p1 V7, ?_, ?_, k2.row hy.arow fun q e e2 => (hr.ta q e).2.1 e2, hap, .inl hr.tr, fun q e => ⟨.inr (.inl e), by have := b6 q e; omega⟩, fun q e => ⟨.inr (.inr e), by have := b7 q e; omega, fun e2 => H.ne q e2 e⟩, fun q e => ⟨.inl (hr.ta q e).1, (hr.ta q e).2.1, fun e2 => by have := b6 q e2; have := bv' q e; omega, fun e2 => by have := b7 q e2; have := bv' q e; omega⟩⟩, fun j hj => ?_, (Kept.ofBelow H.bel).trans k2 fun q _ e => by rw [e]; exact hr.tr⟩
  · show World.ownsRow _ 0 _ 32 V6 M'.length (flat M'.length (kf M'))
    rw [hl, flat_cong hkf]
    exact k2.row (row_base h6 (Nat.zero_le _)) fun q e e2 => by have := b6 q e; omega
  · show World.ownsRow _ 0 _ 64 V7 M'.length (flp M'.length (pf M'))
    rw [hl]
    have e : flp (S.pres.length - 1) (pf M') = flp (S.pres.length - 1) (lft (pf S.pres) k) := by
      unfold flp
      refine List.map_congr_left fun j hj => ?_
      have hj' : j < 64 * (S.pres.length - 1) := by simpa using hj
      rw [hpf (j / 64) (by omega)]
    rw [e]
    exact k2.row (row_base h7 (Nat.zero_le _)) fun q e e2 => by have := b7 q e; omega
  · rw [hz]
    rcases hj with h | h | h
    · exact ⟨.inl h, Nat.lt_of_lt_of_le (hT j h) H.bel.size⟩
    · exact ⟨.inr (by have := b6 j h; omega), own_lt h6 h⟩
    · exact ⟨.inr (by have := b7 j h; omega), own_lt h7 h⟩
end
set_option maxHeartbeats 1000000 in
set_option maxRecDepth 100000 in
theorem rdrop_none (T : Nat → Prop) (r : Nat) (S : Sto) (met : Bool) (h : Hx) (w : World) (hs : IsR w T r S met) (hl : S.pres.length < 1073741824) (hh : has S.pres h = false) :
    Calls Tryd.prog 23 #[.pointer (some ⟨r, 0, none⟩), dv h] w fun e w' => e = .returned (.int .i64 14) ∧ Below w.heap.size w w' := by
  have HA : Hid (IsTab (w.alloc (.cells (tab 32 fun i => bv (h i)) 28)) w.heap.size 28 32 (fun i => bv (h i)) ∧ Below w.heap.size w (w.alloc (.cells (tab 32 fun i => bv (h i)) 28))) := Lib.hid ⟨IsTab.new w _ 32 _, ba _ _⟩
  have hix := index_walk T r S met h S.pres.length (w.alloc (.cells (tab 32 fun i => bv (h i)) 28)) (hs.below HA.out.2) hl (Nat.le_refl _) (fun i hi => not_has hh i hi) (.inl rfl) (-1) ⟨fun h => by omega, fun _ => rfl⟩
  unfold dv at hix
  have HC := Lib.hid hix
  clear hix
  have HLH := Lib.hid (loadRb HA.out.1)
  unfold dv
  go_enter Tryd.func23, Tryd.ntmps23
  go_upto_region 1 with (fail)
  generalize w.alloc (.cells (tab 32 fun i => bv (h i)) 28) = y0 at *
  go_wp2_with (first
    | ((with_reducible refine wpList_loadE (P := Tryd.prog) (w := y0) (ty := 28) (x := .tmp 3) (p := .pointer (some ⟨w.heap.size, 0, none⟩)) (v := .agg (tab 32 fun i => bv (h i))) ?_ ?_ ?_ HLH.out ?_); (· exact rfl); (· exact rfl); (· exact rfl))
    | (go_at_call 53; (with_reducible refine HC.out.mono ?_); rintro e y1 ⟨he, hb⟩; obtain rfl : e = _ := he; have HB := Lib.hid (bl HA.out.2 hb); clear hb HC))
  exact bodyPost_ret (v := .int .i64 14) (by simp [results, Tryd.results23, go_sem]) rfl ⟨rfl, HB.out⟩
set_option maxHeartbeats 8000000 in
set_option maxRecDepth 100000 in
theorem rdrop_at (T : Nat → Prop) (r : Nat) (S : Sto) (met : Bool) (h : Hx) (w : World) (hs : IsR w T r S met) (hT : ∀ j, T j → j < w.heap.size) (hl : S.pres.length < 1073741824) (k : Nat) (hk : k < S.pres.length) (hke : key (kf S.pres k) = key h) (hno : ∀ i, i < k → key (kf S.pres i) ≠ key h) (M' : List (Hx × Px)) (hM : M'.length = S.pres.length - 1 ∧ (∀ j, j < S.pres.length - 1 → kf M' j = lft (kf S.pres) k j) ∧ (∀ j, j < S.pres.length - 1 → pf M' j = lft (pf S.pres) k j) ∧ Apart M') :
    Calls Tryd.prog 23 #[.pointer (some ⟨r, 0, none⟩), dv h] w fun e w' => e = .returned (.int .i64 0) ∧ ∃ T' : Nat → Prop, IsR w' T' r ⟨M', S.asked⟩ met ∧ (∀ j, T' j → (T j ∨ w.heap.size ≤ j) ∧ j < w'.heap.size) ∧ Kept T w w' := by
  have HA : Hid (IsTab (w.alloc (.cells (tab 32 fun i => bv (h i)) 28)) w.heap.size 28 32 (fun i => bv (h i)) ∧ Below w.heap.size w (w.alloc (.cells (tab 32 fun i => bv (h i)) 28)) ∧ (w.alloc (.cells (tab 32 fun i => bv (h i)) 28)).heap.size = w.heap.size + 1) := Lib.hid ⟨IsTab.new w _ 32 _, ba _ _, by simp⟩
  have hix := index_walk T r S met h k (w.alloc (.cells (tab 32 fun i => bv (h i)) 28)) (hs.below HA.out.2.1) hl (Nat.le_of_lt hk) hno (.inr hke) k ⟨fun _ => rfl, fun h => by omega⟩
  unfold dv at hix
  have HC := Lib.hid hix
  clear hix
  have HLH := Lib.hid (loadRb HA.out.1)
  obtain ⟨vh, vp, va, hro⟩ := hs
  obtain ⟨a, c, hv, hld⟩ := row_hx hro.hrow
  obtain ⟨g, hg, _⟩ := hld k hk
  subst hg
  subst hv
  obtain ⟨g2, cp, hV, hO, hcells⟩ := row_pre hro.prow (Nat.lt_of_le_of_lt (Nat.zero_le _) hk)
  subst hV
  have HRO := Lib.hid (And.intro hro hT)
  have HM := Lib.hid (And.intro hk (And.intro hM hl))
  have HLD := Lib.hid hld
  have HCE := Lib.hid (And.intro hcells (own_lt hro.prow hO))
  clear hke hno hM hro hT hld hcells hO
  unfold dv
  go_enter Tryd.func23, Tryd.ntmps23
  go_upto_region 1 with (fail)
  generalize w.alloc (.cells (tab 32 fun i => bv (h i)) 28) = y0 at *
  go_wp2_with (first
    | ((with_reducible refine wpList_loadE (P := Tryd.prog) (w := y0) (ty := 28) (x := .tmp 3) (p := .pointer (some ⟨w.heap.size, 0, none⟩)) (v := .agg (tab 32 fun i => bv (h i))) ?_ ?_ ?_ HLH.out ?_); (· exact rfl); (· exact rfl); (· exact rfl))
    | (go_at_call 53; (with_reducible refine HC.out.mono ?_); rintro e y1 ⟨he, hb⟩; obtain rfl : e = _ := he; have HB := Lib.hid (And.intro (bl HA.out.2.1 hb) (Nat.le_trans (Nat.le_of_eq HA.out.2.2.symm) hb.size)); clear hb HC))
  clear HA HLH
  generalize hn : S.pres.length = n at *
  have HN := Lib.hid hn
  clear hn
  have H0 : Hid (Rd w k 0 S.pres (.slice none 0 0) (.slice none 0 0) y1) := Lib.hid ⟨World.ownsRow_nil _ _ _ _, World.ownsRow_nil _ _ _ _, (fun q e => by cases e), HB.out.1, HB.out.2⟩
  clear HB
  go_loopw [6, 7, 8] (fun t6 t7 t8 y => ∃ i : Nat, i ≤ n ∧ t8 = .int .i64 i ∧ Hid (Rd w k i S.pres t6 t7 y)) (fun _ _ t8 _ => n - (intOf t8).toNat)
  case atStart => exact ⟨0, Nat.zero_le _, rfl, H0⟩
  case round =>
    obtain ⟨i, hi, rfl, hp⟩ := hrel
    have HP := Lib.hid hp.out
    clear hp H0
    have k0 : wr.cell? ⟨r, 0, none⟩ = some (.slice (some ⟨g, 0, none⟩) n c) := (HRO.out.1.below HP.out.bel).box.k0
    by_cases hin : i < n
    · have t1 : decide (i < n) = true := by simp; omega
      have hw1 : wrap64 ((i : Int) + 1) = ((i + 1 : Nat) : Int) := by have := HM.out.2.2; unfold wrap64; omega
      by_cases hik : i = k
      · subst hik
        go_wp2_with (fail)
        go_roundw
        case rel => exact ⟨i + 1, hin, by go_num, Lib.hid ⟨by rw [cnt_same]; exact HP.out.r6, by rw [cnt_same]; exact HP.out.r7, HP.out.ne, HP.out.bel, HP.out.sz⟩⟩
        case measure => simp [intOf]; omega
      · have hne : ((i : Int) == (k : Int)) = false := by simp; omega
        have hne2 : decide ((i : Int) = (k : Int)) = false := by simp; omega
        obtain ⟨o, ho⟩ : ∃ o, 32 * i = o := ⟨_, rfl⟩
        have hio : i * 32 = o := by omega
        have hin2 : (i : Int) < (n : Int) := by omega
        obtain ⟨g', hg', hlo⟩ := HLD.out i hin
        obtain rfl : g = g' := by simpa using hg'
        rw [ho] at hlo
        have HLO := Lib.hid (hlo wr HP.out.bel)
        have HIK := Lib.hid (And.intro hik (And.intro hin ho))
        obtain ⟨x, hx⟩ : ∃ x, kf S.pres i = x := ⟨_, rfl⟩
        rw [hx] at HLO
        have HX := Lib.hid hx
        have HBD := Lib.hid (buildRa x wr)
        have H5 := Lib.hid (And.intro (HP.out.next (ba wr (.cells (tab 32 fun i => bv (x i)) 28))) (src1w wr x))
        have HLB : Hid (cnt k i + 1 ≤ maxLen ∧ (cnt k i + 1) * 32 ≤ 140737488355328 ∧ (cnt k i + 1) * 64 ≤ 140737488355328) := Lib.hid (by have h1 : cnt k i ≤ i := by (unfold cnt; split <;> omega)
                                                                                                                                           have := HM.out.2.2
                                                                                                                                           unfold maxLen
                                                                                                                                           omega)
        obtain ⟨i0, hi0⟩ := infRa
        have HI := Lib.hid hi0
        have H32 : Hid (0 < 32) := Lib.hid (by decide)
        clear hlo hg' ho hx hi0 hik
        go_upto_region 11 with (first
          | ((with_reducible refine wpList_loadE (P := Tryd.prog) (w := wr) (ty := 28) (x := .tmp 32) (p := .pointer (some ⟨g, o, none⟩)) (v := .agg (tab 32 fun i => bv (x i))) ?_ ?_ ?_ HLO.out ?_); (· exact rfl); (· exact rfl); (· exact rfl))
          | ((with_reducible refine wpList_build1 (P := Tryd.prog) (w := wr) (t := 29) (x := .tmp 33) (p := .agg (tab 32 fun i => bv (x i))) (v := .slice (some ⟨wr.heap.size, 0, none⟩) 1 1) (w' := wr.alloc (.cells (tab 32 fun i => bv (x i)) 28)) ?_ ?_ ?_ HBD.out ?_); (· exact rfl); (· exact rfl); (· exact rfl))
          | (at_builtin; (with_reducible refine wpList_append_at (P := Tryd.prog) (w := wr.alloc (.cells (tab 32 fun i => bv (x i)) 28)) ?_ (.tmp 26) (.tmp 34) 29 ?_ (w.heap.size + 1) 28 i0 (dv fun _ => 0#8) 32 32 undRa HI.out zcellsH H32.out u6 (cnt k i) (flat (cnt k i) (lft (kf S.pres) k)) ?_ H5.out.1.r6 ⟨wr.heap.size, 0, none⟩ 1 1 (flat 1 fun _ => x) ?_ (flat_len _ _) H5.out.2 (flat_one _ _) HLB.out.1 HLB.out.2.1 H5.out.1.sz ?_); (· exact rfl); (· exact rfl); (· exact rfl); (· exact rfl); intro V7 w7 hown7 hgr7 hat7))
        have H7 : Hid (Rd1 w k i S.pres V7 u7 w7) := by
          rw [← HX.out] at hown7
          exact Lib.hid (H5.out.1.first HIK.out.1 hown7 hgr7 hat7)
        clear H5 hown7 hgr7 hat7 HBD HLO HP k0 H32 HI hio HX
        clear i0
        have k1 : w7.cell? ⟨r, 1, none⟩ = some (.slice (some ⟨g2, 0, none⟩) n cp) := (HRO.out.1.below H7.out.bel).box.k1
        obtain ⟨o, ho⟩ : ∃ o, 64 * i = o := ⟨_, rfl⟩
        have hio : i * 64 = o := by omega
        obtain ⟨z, hx⟩ : ∃ z, pf S.pres i = z := ⟨_, rfl⟩
        have HX := Lib.hid hx
        have HLO := Lib.hid (loadPm (w := w7) (g := g2) (o := o) (p := z) fun j hj => by rw [← ho, ← hx]; exact (H7.out.bel.cell HCE.out.2).trans (HCE.out.1 i HIK.out.2.1 j hj))
        have HBD := Lib.hid (buildPa z w7)
        have H5 := Lib.hid (And.intro (H7.out.next (ba w7 (.cells (tab 64 fun i => bv (z i)) 37))) (src1p w7 z))
        obtain ⟨i0, hi0⟩ := infPa
        have HI := Lib.hid hi0
        have H64 : Hid (0 < 64) := Lib.hid (by decide)
        clear ho hx hi0
        go_upto_region 8 with (first
          | ((with_reducible refine wpList_loadE (P := Tryd.prog) (w := w7) (ty := 37) (x := .tmp 42) (p := .pointer (some ⟨g2, o, none⟩)) (v := .agg (tab 64 fun i => bv (z i))) ?_ ?_ ?_ HLO.out ?_); (· exact rfl); (· exact rfl); (· exact rfl))
          | ((with_reducible refine wpList_build1 (P := Tryd.prog) (w := w7) (t := 30) (x := .tmp 43) (p := .agg (tab 64 fun i => bv (z i))) (v := .slice (some ⟨w7.heap.size, 0, none⟩) 1 1) (w' := w7.alloc (.cells (tab 64 fun i => bv (z i)) 37)) ?_ ?_ ?_ HBD.out ?_); (· exact rfl); (· exact rfl); (· exact rfl))
          | (at_builtin; (with_reducible refine wpList_append_at (P := Tryd.prog) (w := w7.alloc (.cells (tab 64 fun i => bv (z i)) 37)) ?_ (.tmp 36) (.tmp 44) 30 ?_ (w.heap.size + 1) 37 i0 (pv zp) 64 64 undPa HI.out zcellsP H64.out u7 (cnt k i) (flp (cnt k i) (lft (pf S.pres) k)) ?_ H5.out.1.r7 ⟨w7.heap.size, 0, none⟩ 1 1 (flp 1 fun _ => z) ?_ (flp_len _ _) H5.out.2 (flp_one _ _) HLB.out.1 HLB.out.2.2 H5.out.1.sz ?_); (· exact rfl); (· exact rfl); (· exact rfl); (· exact rfl); intro V9 w9 hown9 hgr9 hat9))
        have H9 : Hid (Rd w k (i + 1) S.pres V7 V9 w9) := by
          rw [← HX.out] at hown9
          exact Lib.hid (H5.out.1.second HIK.out.1 hown9 hgr9 hat9)
        clear H5 hown9 hgr9 hat9 HBD HLO H7 k1 H64 HI hio HX
        go_wp2_with (fail)
        go_roundw
        case rel => exact ⟨i + 1, HIK.out.2.1, by go_num, H9⟩
        case measure => simp [intOf]; omega
    · obtain rfl : i = n := by omega
      have t1 : decide (i < i) = false := by simp
      have hd := HP.out
      obtain ⟨a6, n6, c6, rfl⟩ := own_slice hd.r6
      obtain ⟨a7, n7, c7, rfl⟩ := own_slice hd.r7
      have hd2 := hd
      rw [← HN.out] at hd2
      have HF := Lib.hid (Rd.done HRO.out.1 HRO.out.2 hd2 (by rw [HN.out]; exact HM.out.1) (by rw [HN.out]; exact HM.out.2.1.1) (by rw [HN.out]; exact HM.out.2.1.2.1) (by rw [HN.out]; exact HM.out.2.1.2.2.1) HM.out.2.1.2.2.2)
      have hbx := (HRO.out.1.below hd.bel).box
      have f0 := hbx.f 0
      have hbx2 := hbx.p0 (.slice a6 n6 c6)
      have k1 := hbx2.k1
      have f1 := hbx2.f 1
      clear hd hd2 hbx hbx2 HP
      go_wp2_with (fail)
      exact bodyPost_ret (v := .int .i64 0) (by simp [results, Tryd.results23, go_sem]) rfl ⟨rfl, _, ⟨_, _, _, HF.out.1⟩, HF.out.2.1, HF.out.2.2⟩
theorem rdrop_some (T : Nat → Prop) (r : Nat) (S : Sto) (met : Bool) (h : Hx) (w : World) (hs : IsR w T r S met) (hT : ∀ j, T j → j < w.heap.size) (hl : S.pres.length < 1073741824) (hh : has S.pres h = true) :
    Calls Tryd.prog 23 #[.pointer (some ⟨r, 0, none⟩), dv h] w fun e w' => e = .returned (.int .i64 0) ∧ ∃ T' : Nat → Prop, IsR w' T' r ⟨dropM S.pres h, S.asked⟩ met ∧ (∀ j, T' j → (T j ∨ w.heap.size ≤ j) ∧ j < w'.heap.size) ∧ Kept T w w' := by
  have hA : Apart S.pres := by obtain ⟨_, _, _, h⟩ := hs; exact h.ap
  obtain ⟨k, q, hk, hkl, hq, hmin⟩ := first_key h S.pres hh
  have e1 := filter_at hA hk hq
  have hap := apart_drop hA h
  rw [e1] at hap ⊢
  have at_ : ∀ j, j < S.pres.length - 1 → ∃ p, (S.pres.eraseIdx k)[j]? = some p ∧ S.pres[if j < k then j else j + 1]? = some p := fun j hj => by
    have hj2 : (if j < k then j else j + 1) < S.pres.length := by split <;> omega
    refine ⟨S.pres[if j < k then j else j + 1], ?_, List.getElem?_eq_getElem hj2⟩
    rw [List.getElem?_eraseIdx, ← List.getElem?_eq_getElem hj2]
    split <;> rfl
  refine rdrop_at T r S met h w hs hT hl k hkl (by rw [kf_at hk]; exact hq) hmin (S.pres.eraseIdx k) ⟨List.length_eraseIdx_of_lt hkl, fun j hj => ?_, fun j hj => ?_, hap⟩
  · obtain ⟨p, h1, h2⟩ := at_ j hj
    rw [kf_at h1]
    unfold lft
    split <;> rename_i h3 <;> simp only [h3, if_true, if_false] at h2 <;> rw [kf_at h2]
  · obtain ⟨p, h1, h2⟩ := at_ j hj
    rw [pf_at h1]
    unfold lft
    split <;> rename_i h3 <;> simp only [h3, if_true, if_false] at h2 <;> rw [pf_at h2]
/-- What was asked is emptied. -/
theorem ro_unask {y : World} {T : Nat → Prop} {r : Nat} {S : Sto} {met : Bool} {vh vp va : Value} (hr : IsRo y T r S met vh vp va) : IsRo (y.setCell ⟨r, 2, none⟩ (.slice none 0 0)) T r ⟨S.pres, []⟩ met vh vp (.slice none 0 0) ∧ Kept T y (y.setCell ⟨r, 2, none⟩ (.slice none 0 0)) := by
  have hks : Kept (fun k => k = r) y (y.setCell ⟨r, 2, none⟩ (.slice none 0 0)) := (Kept.refl (fun k => k = r) _).setCell (.inl rfl) _
  exact ⟨⟨hr.box.p2 _, hks.row hr.hrow fun k e e2 => (hr.th k e).2 e2, hks.row hr.prow fun k e e2 => (hr.tp k e).2.1 e2, World.ownsRow_nil _ _ _ _, hr.ap, hr.tr, hr.th, hr.tp, fun k e => by cases e⟩, (Kept.refl T _).setCell (.inl hr.tr) _⟩
/-- A pair, as it is read. -/
def sight (q : Hx × Px) : List Bt × List Bt := (key q.1, pre q.2)
/-- Lists of preimages that are read alike. -/
def Alike (M N : List (Hx × Px)) : Prop := M.map sight = N.map sight
theorem Alike.refl (M : List (Hx × Px)) : Alike M M := rfl
section
variable {M N : List (Hx × Px)} {h h' : Hx} {p p' : Px}
theorem has_sight (M : List (Hx × Px)) (h : Hx) : has M h = (M.map sight).any fun t => t.1 == key h := by unfold has; rw [List.any_map]; rfl
theorem look_sight (M : List (Hx × Px)) (h : Hx) : (look M h).map pre = ((M.map sight).find? fun t => t.1 == key h).map (·.2) := by
  unfold look
  rw [List.find?_map, Option.map_map, Option.map_map]
  rfl
theorem Alike.has (H : Alike M N) (h : Hx) : Wt.has M h = Wt.has N h := by rw [has_sight, has_sight, H]
theorem Alike.look (H : Alike M N) (h : Hx) : (Wt.look M h).map pre = (Wt.look N h).map pre := by rw [look_sight, look_sight, H]
theorem Alike.len (H : Alike M N) : M.length = N.length := by have := congrArg List.length H; simpa using this
theorem Alike.px (H : Alike M N) (h : Hx) : pre ((Wt.look M h).getD zp) = pre ((Wt.look N h).getD zp) := by
  have e := H.look h
  cases h1 : Wt.look M h <;> cases h2 : Wt.look N h <;> rw [h1, h2] at e <;> simp at e
  exact e
theorem Alike.put (H : Alike M N) (hp : pre p = pre p') (h : Hx) : Alike (putM M h p) (putM N h p') := by
  unfold Alike putM
  rw [H.has h]
  split
  · have g : ∀ (L : List (Hx × Px)) (x : Px), (L.map fun q => if key q.1 == key h then (q.1, x) else q).map sight = (L.map sight).map fun t => if t.1 == key h then (t.1, pre x) else t := fun L x => by
      rw [List.map_map, List.map_map]
      refine List.map_congr_left fun q _ => ?_
      show sight (if key q.1 == key h then (q.1, x) else q) = if key q.1 == key h then (key q.1, pre x) else sight q
      split <;> rfl
    rw [g, g, H, hp]
  · rw [List.map_append, List.map_append, H]
    unfold sight
    simp [hp]
theorem Alike.drop (H : Alike M N) (h : Hx) : Alike (dropM M h) (dropM N h) := by
  have g : ∀ L : List (Hx × Px), (dropM L h).map sight = (L.map sight).filter fun t => !(t.1 == key h) := fun L => by
    unfold dropM
    rw [List.filter_map]
    rfl
  unfold Alike
  rw [g, g, H]
end
theorem hs_pre {p q : Px} (h : pre p = pre q) : hs p = hs q := by unfold hs; rw [h]
theorem pre_get {p q : Px} (h : pre p = pre q) (i : Nat) (hi : i < 64) : p i = q i := by rw [← pre_at p i hi, ← pre_at q i hi, h]
/-- A half laid anew, as two halves joined. -/
theorem wput_jn (p q : Px) (b : Nat) (x : Hx) (hb : b < 2) (hpq : pre p = pre q) : pre (wput p b x) = pre (if b = 1 then jn (hfb q false) x else jn x (hfb q true)) := by
  refine pre_of fun i hi => ?_
  have e := pre_get hpq i hi
  unfold wput
  rcases (by omega : b = 0 ∨ b = 1) with rfl | rfl
  · rw [show (if (0 : Nat) = 1 then jn (hfb q false) x else jn x (hfb q true)) = jn x (hfb q true) from if_neg (by decide)]
    unfold jn hfb
    by_cases h : i < 32
    · rw [if_pos ⟨by omega, by omega⟩, if_pos h]; congr 1
    · rw [if_neg (by omega), if_neg h, e]
      simp only [if_true]
      congr 1; omega
  · rw [show (if (1 : Nat) = 1 then jn (hfb q false) x else jn x (hfb q true)) = jn (hfb q false) x from if_pos rfl]
    unfold jn hfb
    by_cases h : i < 32
    · rw [if_neg (by omega), if_pos h, e]; simp
    · rw [if_pos ⟨by omega, by omega⟩, if_neg h]
theorem wpre_wjn (f : Nat → Px) (M : List (Hx × Px)) (hh : Nat → Hx) (d i j : Nat) (x : Hx) (hj : j < d) (hf : pre (f (d - 1 - j)) = pre (px M hh (d - 1 - j))) : pre (wput (f (d - 1 - j)) (i / 2 ^ j % 2) x) = pre (wjn (sdv M hh d i) d i j x) := by
  rw [wput_jn _ _ _ x (Nat.mod_lt _ (by decide)) hf]
  have e : d - 1 - (d - 1 - j) = j := by omega
  unfold wjn sdv bt
  rw [e]
  by_cases h : i / 2 ^ j % 2 = 1
  · simp [h]
  · simp [h]
/-- The digests on the way up are the same. -/
theorem wleaf_wlf (f : Nat → Px) (M : List (Hx × Px)) (hh : Nat → Hx) (d i : Nat) (x : Hx) (hf : ∀ l, l < d → pre (f l) = pre (px M hh l)) : ∀ j, j ≤ d → wleaf f d i x j = wlf (sdv M hh d i) d i x j
  | 0, _ => by rw [wleaf, wlf]
  | j + 1, hj => by
    rw [wleaf, wlf, ← wleaf_wlf f M hh d i x hf j (by omega)]
    exact hs_pre (wpre_wjn f M hh d i j _ (by omega) (hf _ (by omega)))
/-- So are the preimages that are held. -/
theorem wpres_wpr (f : Nat → Px) (N M : List (Hx × Px)) (hh : Nat → Hx) (d i : Nat) (x : Hx) (hN : Alike N M) (hf : ∀ l, l < d → pre (f l) = pre (px M hh l)) : ∀ j, j ≤ d → Alike (wpres N f d i x j) (wpr M (sdv M hh d i) d i x j)
  | 0, _ => by rw [wpres, wpr]; exact hN
  | j + 1, hj => by
    have e1 : pre (wpre f d i x j) = pre (wjn (sdv M hh d i) d i j (wlf (sdv M hh d i) d i x j)) := by
      unfold wpre
      rw [wleaf_wlf f M hh d i x hf j (by omega)]
      exact wpre_wjn f M hh d i j _ (by omega) (hf _ (by omega))
    rw [wpres, wpr, hs_pre e1]
    exact (wpres_wpr f N M hh d i x hN hf j (by omega)).put e1 _
/-- The digests on the way down. -/
def hhw (N : List (Hx × Px)) (d i : Nat) (rt : Hx) : Nat → Hx
  | 0 => rt
  | j + 1 => hfb ((look N (hhw N d i rt j)).getD zp) (bt d i j)
theorem hhw_zero (N : List (Hx × Px)) (d i : Nat) (rt : Hx) : hhw N d i rt 0 = rt := by rw [hhw]
theorem hhw_succ (N : List (Hx × Px)) (d i : Nat) (rt : Hx) (j : Nat) : hhw N d i rt (j + 1) = hfb (px N (hhw N d i rt) j) (bt d i j) := by rw [hhw, px]
theorem px_alike {M N : List (Hx × Px)} (H : Alike M N) (hh : Nat → Hx) (j : Nat) : pre (px M hh j) = pre (px N hh j) := H.px (hh j)
/-- A step down, as the program takes it. -/
theorem hhw_step {M N : List (Hx × Px)} (H : Alike M N) (d i : Nat) (rt : Hx) (j : Nat) (x : Nat) (hx : x < 32) : hhw N d i rt (j + 1) x = px M (hhw N d i rt) j (32 * (i / 2 ^ (d - 1 - j) % 2) + x) := by
  rw [hhw_succ]
  have hb : i / 2 ^ (d - 1 - j) % 2 < 2 := Nat.mod_lt _ (by decide)
  have e := pre_get (px_alike H (hhw N d i rt) j) (32 * (i / 2 ^ (d - 1 - j) % 2) + x) (by omega)
  rw [e]
  unfold hfb bt
  rcases (by omega : i / 2 ^ (d - 1 - j) % 2 = 0 ∨ i / 2 ^ (d - 1 - j) % 2 = 1) with h | h
  · simp [h]
  · simp [h]
/-- The first level that is missing. -/
theorem first_miss (N : List (Hx × Px)) (hh : Nat → Hx) : ∀ d, ∃ k, k ≤ d ∧ (∀ j, j < k → has N (hh j) = true) ∧ (k = d ∨ has N (hh k) = false)
  | 0 => ⟨0, Nat.le_refl _, fun j hj => by omega, .inl rfl⟩
  | d + 1 => by
    obtain ⟨k, h1, h2, h3⟩ := first_miss N hh d
    rcases h3 with h3 | h3
    · cases h4 : has N (hh k)
      · exact ⟨k, by omega, h2, .inr h4⟩
      · refine ⟨k + 1, by omega, fun j hj => ?_, .inl (by omega)⟩
        by_cases h5 : j < k
        · exact h2 j h5
        · rw [show j = k from by omega]; exact h4
    · exact ⟨k, by omega, h2, .inr h3⟩
/-- What the way to a leaf comes to: the digest, the number and the place of what is wrong, what is asked. -/
def Out (N : List (Hx × Px)) (d i : Int) (rt : Hx) (x : Hx) (n p : Int) (f : List Hx → List Hx) : Prop :=
  (¬ place d i ∧ x = (fun _ => 0#8) ∧ n = 2 ∧ p = -1 ∧ f = id) ∨
  ∃ D I k : Nat, d = D ∧ i = I ∧ D ≤ 16 ∧ I < 2 ^ D ∧ k ≤ D ∧ (∀ j, j < k → has N (hhw N D I rt j) = true) ∧ (k = D ∨ has N (hhw N D I rt k) = false) ∧
    (k = D → x = hhw N D I rt D ∧ n = 0 ∧ p = -1) ∧ (k < D → x = (fun _ => 0#8) ∧ n = 14 ∧ p = k) ∧ f = fun A => askN A (hhw N D I rt) (if k < D then k + 1 else D)
theorem out_any (N : List (Hx × Px)) (d i : Int) (rt : Hx) : ∃ x n p f, Out N d i rt x n p f := by
  by_cases h : place d i
  · obtain ⟨h1, h2, h3, h4⟩ := h
    obtain ⟨D, rfl⟩ : ∃ D : Nat, d = D := ⟨d.toNat, by omega⟩
    obtain ⟨I, rfl⟩ : ∃ I : Nat, i = I := ⟨i.toNat, by omega⟩
    have h5 : I < 2 ^ D := by
      rw [Int.toNat_natCast, show ((2 : Int) ^ D) = ((2 ^ D : Nat) : Int) from (Int.natCast_pow 2 D).symm] at h4
      omega
    obtain ⟨k, h6, h7, h8⟩ := first_miss N (hhw N D I rt) D
    by_cases hk : k < D
    · exact ⟨_, _, _, _, .inr ⟨D, I, k, rfl, rfl, by omega, h5, h6, h7, h8, fun e => by omega, fun _ => ⟨rfl, rfl, rfl⟩, rfl⟩⟩
    · exact ⟨_, _, _, _, .inr ⟨D, I, k, rfl, rfl, by omega, h5, h6, h7, h8, fun _ => ⟨rfl, rfl, rfl⟩, fun e => absurd e hk, rfl⟩⟩
  · exact ⟨_, _, _, _, .inl ⟨h, rfl, rfl, rfl, rfl⟩⟩
/-- An error in memory, as Why tells it. -/
def Tells (b : Nat) (E : Value) (n p : Int) (y : World) : Prop :=
  (E = .nilIface ∧ n = 0 ∧ p = -1) ∨ (E = .iface 62 (.int .i64 n) ∧ p = -1) ∨ ∃ (q P : Nat), p = (P : Int) ∧ b ≤ q ∧ E = .iface 156 (.pointer (some ⟨q, 0, none⟩)) ∧ y.cell? ⟨q, 0, none⟩ = some (.int .i64 (P : Int)) ∧ y.cell? ⟨q, 1, none⟩ = some (.iface 62 (.int .i64 n))
theorem read_out (T : Nat → Prop) (s kb fb : Nat) (M N : List (Hx × Px)) (A : List Hx) (d i : Int) (rt x : Hx) (n p : Int) (f : List Hx → List Hx) (w : World) (ho : Out N d i rt x n p f) (hMN : Alike M N) (hs : IsSt w T s kb fb ⟨M, A⟩) (hT : ∀ j, T j → j < w.heap.size) (hn : A.length + 17 < 1073741824) :
    Calls Tryd.prog 24 #[.pointer (some ⟨s, 0, none⟩), .int .i64 d, dv rt, .int .i64 i] w fun e w' => ∃ E, e = .returned (.tuple #[dv x, E]) ∧ Tells w.heap.size E n p w' ∧ ∃ T', IsSt w' T' s kb fb ⟨M, f A⟩ ∧ (∀ j, T' j → (T j ∨ w.heap.size ≤ j) ∧ j < w'.heap.size) ∧ Kept T w w' := by
  rcases ho with ⟨hp, rfl, rfl, rfl, rfl⟩ | ⟨D, I, k, rfl, rfl, hD, hI, hk, hhas, hend, hit, miss, rfl⟩
  · refine (read_range s d i rt w hp).mono ?_
    rintro e w' ⟨he, hb⟩
    exact ⟨_, he, .inr (.inl ⟨rfl, rfl⟩), T, hs.below hb, fun j hj => ⟨.inl hj, Nat.lt_of_lt_of_le (hT j hj) hb.size⟩, Kept.ofBelow hb⟩
  · have h := read_walk T s kb fb M A D I k (hhw N D I rt) w hs hT hn hD hI hk (fun j _ y hy => hhw_step hMN D I rt j y hy) (fun j hj => (hMN.has _).trans (hhas j hj)) (hend.imp id fun h => (hMN.has _).trans h)
    rw [hhw_zero] at h
    refine h.mono ?_
    rintro e w' ⟨x', E, he, T', hR⟩
    rcases Nat.lt_or_ge k D with h1 | h1
    · obtain ⟨rfl, q, hE, c0, c1, _, hq⟩ := hR.miss h1
      obtain ⟨rfl, rfl, rfl⟩ := miss h1
      exact ⟨E, he, .inr (.inr ⟨q, k, rfl, hq, hE, c0, c1⟩), T', hR.st, hR.tt, hR.kp⟩
    · obtain ⟨rfl, hE⟩ := hR.hit (by omega)
      obtain ⟨rfl, rfl, rfl⟩ := hit (by omega)
      exact ⟨E, he, .inl ⟨hE, rfl, rfl⟩, T', hR.st, hR.tt, hR.kp⟩
theorem rread_out (T : Nat → Prop) (r : Nat) (N : List (Hx × Px)) (B : List Hx) (met : Bool) (d i : Int) (rt x lf : Hx) (n p : Int) (f : List Hx → List Hx) (w : World) (ho : Out N d i rt x n p f) (hs : IsR w T r ⟨N, B⟩ met) (hT : ∀ j, T j → j < w.heap.size) (hl : N.length < 1073741824) (hn : B.length + 17 < 1073741824) :
    Calls Tryd.prog 25 #[.pointer (some ⟨r, 0, none⟩), .int .i64 d, dv rt, .int .i64 i, dv lf, .bool false] w fun e w' => ∃ y, e = .returned (.tuple #[dv x, dv y, .int .i64 p, .int .i64 n]) ∧ ∃ T', IsR w' T' r ⟨N, f B⟩ met ∧ (∀ j, T' j → (T j ∨ w.heap.size ≤ j) ∧ j < w'.heap.size) ∧ Kept T w w' := by
  rcases ho with ⟨hp, rfl, rfl, rfl, rfl⟩ | ⟨D, I, k, rfl, rfl, hD, hI, hk, hhas, hend, hit, miss, rfl⟩
  · refine (rwrite_range r d i rt lf false w hp).mono ?_
    rintro e w' ⟨he, hb⟩
    exact ⟨_, he, T, hs.below hb, fun j hj => ⟨.inl hj, Nat.lt_of_lt_of_le (hT j hj) hb.size⟩, Kept.ofBelow hb⟩
  · have h := fun y => rread_walk T r ⟨N, B⟩ met D I k (hhw N D I rt) lf w hs hT hl hn hD hI hk (fun j _ => hhw_succ N D I rt j) hhas hend x y p n
    rw [hhw_zero] at h
    rcases Nat.lt_or_ge k D with h1 | h1
    · obtain ⟨rfl, rfl, rfl⟩ := miss h1
      refine (h (fun _ => 0#8) ⟨fun e => by omega, fun _ => ⟨rfl, rfl, rfl, rfl⟩⟩).mono ?_
      rintro e w' ⟨he, h2⟩
      exact ⟨_, he, h2⟩
    · obtain ⟨rfl, rfl, rfl⟩ := hit (by omega)
      refine (h rt ⟨fun _ => ⟨rfl, rfl, rfl, rfl⟩, fun e => by omega⟩).mono ?_
      rintro e w' ⟨he, h2⟩
      exact ⟨_, he, h2⟩
/-- What a write comes to: the root, the number and the place of what is wrong, what is asked, what is held, whether two met. -/
def OutW (N : List (Hx × Px)) (d i : Int) (rt lf : Hx) (x : Hx) (n p : Int) (f : List Hx → List Hx) (N' : List (Hx × Px)) (cl : Bool → Bool) : Prop :=
  (¬ place d i ∧ x = (fun _ => 0#8) ∧ n = 2 ∧ p = -1 ∧ f = id ∧ N' = N ∧ cl = id) ∨
  ∃ D I k : Nat, d = D ∧ i = I ∧ D ≤ 16 ∧ I < 2 ^ D ∧ k ≤ D ∧ (∀ j, j < k → has N (hhw N D I rt j) = true) ∧ (k = D ∨ has N (hhw N D I rt k) = false) ∧
    (k = D → x = wlf (sdv N (hhw N D I rt) D I) D I lf D ∧ n = 0 ∧ p = -1 ∧ N' = wpr N (sdv N (hhw N D I rt) D I) D I lf D ∧ cl = (fun met => wmt met N (sdv N (hhw N D I rt) D I) D I lf D) ∧ f = fun A => askN A (hhw N D I rt) D) ∧
    (k < D → x = (fun _ => 0#8) ∧ n = 14 ∧ p = k ∧ N' = N ∧ cl = id ∧ f = fun A => askN A (hhw N D I rt) (k + 1))
theorem outw_any (N : List (Hx × Px)) (d i : Int) (rt lf : Hx) : ∃ x n p f N' cl, OutW N d i rt lf x n p f N' cl := by
  by_cases h : place d i
  · obtain ⟨h1, h2, h3, h4⟩ := h
    obtain ⟨D, rfl⟩ : ∃ D : Nat, d = D := ⟨d.toNat, by omega⟩
    obtain ⟨I, rfl⟩ : ∃ I : Nat, i = I := ⟨i.toNat, by omega⟩
    have h5 : I < 2 ^ D := by
      rw [Int.toNat_natCast, show ((2 : Int) ^ D) = ((2 ^ D : Nat) : Int) from (Int.natCast_pow 2 D).symm] at h4
      omega
    obtain ⟨k, h6, h7, h8⟩ := first_miss N (hhw N D I rt) D
    by_cases hk : k < D
    · exact ⟨_, _, _, _, _, _, .inr ⟨D, I, k, rfl, rfl, by omega, h5, h6, h7, h8, fun e => by omega, fun _ => ⟨rfl, rfl, rfl, rfl, rfl, rfl⟩⟩⟩
    · exact ⟨_, _, _, _, _, _, .inr ⟨D, I, k, rfl, rfl, by omega, h5, h6, h7, h8, fun _ => ⟨rfl, rfl, rfl, rfl, rfl, rfl⟩, fun e => absurd e hk⟩⟩
  · exact ⟨_, _, _, _, _, _, .inl ⟨h, rfl, rfl, rfl, rfl, rfl, rfl⟩⟩
theorem write_out (T : Nat → Prop) (s kb fb : Nat) (M N N' : List (Hx × Px)) (A : List Hx) (d i : Int) (rt lf x : Hx) (n p : Int) (f : List Hx → List Hx) (cl : Bool → Bool) (w : World) (ht : Laid.KTab w) (ho : OutW N d i rt lf x n p f N' cl) (hMN : Alike M N) (hs : IsSt w T s kb fb ⟨M, A⟩) (hT : ∀ j, T j → j < w.heap.size) (hn : A.length + 17 < 1073741824) :
    Calls Tryd.prog 26 #[.pointer (some ⟨s, 0, none⟩), .int .i64 d, dv rt, .int .i64 i, dv lf] w fun e w' => ∃ E, e = .returned (.tuple #[dv x, E]) ∧ Tells w.heap.size E n p w' ∧ ∃ T' M', IsSt w' T' s kb fb ⟨M', f A⟩ ∧ Alike M' N' ∧ (∀ j, T' j → (T j ∨ w.heap.size ≤ j) ∧ j < w'.heap.size) ∧ Kept (Foot T kb fb) w w' := by
  rcases ho with ⟨hp, rfl, rfl, rfl, rfl, rfl, rfl⟩ | ⟨D, I, k, rfl, rfl, hD, hI, hk, hhas, hend, hit, miss⟩
  · refine (write_range s d i rt lf w hp).mono ?_
    rintro e w' ⟨he, hb⟩
    exact ⟨_, he, .inr (.inl ⟨rfl, rfl⟩), T, M, hs.below hb, hMN, fun j hj => ⟨.inl hj, Nat.lt_of_lt_of_le (hT j hj) hb.size⟩, Kept.ofBelow hb⟩
  · rcases Nat.lt_or_ge k D with h1 | h1
    · obtain ⟨rfl, rfl, rfl, rfl, rfl, rfl⟩ := miss h1
      have h := write_miss T s kb fb M A D I k (hhw N' D I rt) lf w hs hT hn hD hI h1 (fun j _ y hy => hhw_step hMN D I rt j y hy) (fun j hj => (hMN.has _).trans (hhas j hj)) ((hMN.has _).trans (hend.resolve_left (by omega)))
      rw [hhw_zero] at h
      refine h.mono ?_
      rintro e w' ⟨x', E, he, T', hR⟩
      obtain ⟨rfl, q, hE, c0, c1, _, hq⟩ := hR.miss h1
      have hst := hR.st
      rw [if_pos h1] at hst
      exact ⟨E, he, .inr (.inr ⟨q, k, rfl, hq, hE, c0, c1⟩), T', M, hst, hMN, hR.tt, hR.kp.mono fun j _ hj => .inl hj⟩
    · obtain rfl : k = D := by omega
      obtain ⟨rfl, rfl, rfl, rfl, rfl, rfl⟩ := hit rfl
      have h := write_walk T s kb fb M A k I (hhw N k I rt) lf w ht hs hT hn hD hI (fun j _ y hy => hhw_step hMN k I rt j y hy) (fun j hj => (hMN.has _).trans (hhas j hj))
      have hf : ∀ l, l < k → pre (px M (hhw N k I rt) l) = pre (px N (hhw N k I rt) l) := fun l _ => px_alike hMN _ l
      rw [hhw_zero, wleaf_wlf _ N (hhw N k I rt) k I lf hf k (Nat.le_refl _)] at h
      refine h.mono ?_
      rintro e w' ⟨he, T', hR⟩
      exact ⟨_, he, .inl ⟨rfl, rfl, rfl⟩, T', _, hR.st, wpres_wpr _ M N (hhw N k I rt) k I lf hMN hf k (Nat.le_refl _), hR.tt, hR.kp⟩
theorem rwrite_out (T : Nat → Prop) (r : Nat) (N N' : List (Hx × Px)) (B : List Hx) (met : Bool) (d i : Int) (rt x lf : Hx) (n p : Int) (f : List Hx → List Hx) (cl : Bool → Bool) (w : World) (ho : OutW N d i rt lf x n p f N' cl) (hs : IsR w T r ⟨N, B⟩ met) (hT : ∀ j, T j → j < w.heap.size) (hl : N.length + 17 < 1073741824) (hn : B.length + 17 < 1073741824) :
    Calls Tryd.prog 25 #[.pointer (some ⟨r, 0, none⟩), .int .i64 d, dv rt, .int .i64 i, dv lf, .bool true] w fun e w' => ∃ y, e = .returned (.tuple #[dv y, dv x, .int .i64 p, .int .i64 n]) ∧ ∃ T', IsR w' T' r ⟨N', f B⟩ (cl met) ∧ (∀ j, T' j → (T j ∨ w.heap.size ≤ j) ∧ j < w'.heap.size) ∧ Kept T w w' := by
  rcases ho with ⟨hp, rfl, rfl, rfl, rfl, rfl, rfl⟩ | ⟨D, I, k, rfl, rfl, hD, hI, hk, hhas, hend, hit, miss⟩
  · refine (rwrite_range r d i rt lf true w hp).mono ?_
    rintro e w' ⟨he, hb⟩
    exact ⟨_, he, T, hs.below hb, fun j hj => ⟨.inl hj, Nat.lt_of_lt_of_le (hT j hj) hb.size⟩, Kept.ofBelow hb⟩
  · have h := fun a y S' met' => rwrite_walk T r ⟨N, B⟩ met D I k (hhw N D I rt) lf w hs hT hl hn hD hI hk (fun j _ => hhw_succ N D I rt j) hhas hend a y p n S' met'
    rw [hhw_zero] at h
    rcases Nat.lt_or_ge k D with h1 | h1
    · obtain ⟨rfl, rfl, rfl, rfl, rfl, rfl⟩ := miss h1
      refine (h (fun _ => 0#8) (fun _ => 0#8) ⟨N', askN B (hhw N' D I rt) (k + 1)⟩ met ⟨fun e => by omega, fun _ => ⟨rfl, rfl, rfl, rfl, rfl, rfl⟩⟩).mono ?_
      rintro e w' ⟨he, h2⟩
      exact ⟨_, he, h2⟩
    · obtain ⟨rfl, rfl, rfl, rfl, rfl, rfl⟩ := hit (by omega)
      refine (h (hhw N D I rt D) _ _ _ ⟨fun _ => ⟨rfl, rfl, rfl, rfl, rfl, rfl⟩, fun e => by omega⟩).mono ?_
      rintro e w' ⟨he, h2⟩
      exact ⟨_, he, h2⟩
theorem why_tells (b : Nat) (E : Value) (n p : Int) (w : World) (h : Tells b E n p w) (hg : Et w) : Calls Tryd.prog 49 #[E] w fun e w' => e = .returned (.tuple #[.int .i64 n, .int .i64 p]) ∧ Below w.heap.size w w' := by
  rcases h with ⟨rfl, rfl, rfl⟩ | ⟨rfl, rfl⟩ | ⟨q, P, rfl, _, rfl, h0, h1⟩
  · refine (why_nil w).mono ?_
    rintro e w' ⟨he, rfl⟩
    exact ⟨he, Below.refl _ _⟩
  · exact why_num n w hg
  · exact why_flt w q P n hg h0 h1
/-- An error that tells is not wrong. -/
theorem wrong_tells (b : Nat) (E : Value) (n p : Int) (w : World) (h : Tells b E n p w) (hg : Et w) : Calls Tryd.prog 21 #[E, .int .i64 p, .int .i64 n] w fun e w' => e = .returned (.bool true) ∧ Below w.heap.size w w' := by
  refine (wrong_walk E n p p n w (why_tells b E n p w h hg)).mono ?_
  rintro e w' ⟨he, hb⟩
  exact ⟨by rw [he]; simp, hb⟩
/-- An error stays what it tells. -/
theorem Tells.kept {b : Nat} {E : Value} {n p : Int} {w w' : World} {U : Nat → Prop} (h : Tells b E n p w) (hk : Kept U w w') (hU : ∀ k, U k → k < b) : Tells b E n p w' := by
  rcases h with h | h | ⟨q, P, h1, h2, h3, h4, h5⟩
  · exact .inl h
  · exact .inr (.inl h)
  · have hn : ¬ U q := fun h => by have := hU q h; omega
    exact .inr (.inr ⟨q, P, h1, h2, h3, keptC hk hn h4, keptC hk hn h5⟩)
theorem tells_miss (c : Nat) (b : Bool) (w : World) : Tells c (missV b) (if b then 0 else 14) (-1) w := by
  cases b
  · exact .inr (.inl ⟨rfl, rfl⟩)
  · exact .inl ⟨rfl, rfl, rfl⟩
theorem pv_alike {M N : List (Hx × Px)} (H : Alike M N) (h : Hx) : pv ((look M h).getD zp) = pv ((look N h).getD zp) := pv_of fun i hi => pre_get (H.px h) i hi
end Wt
end Go.Proofs.YtdmffnjbholkkaaDoor
