/- Merged of Zf Zg Zc Ma Ord Flt. Own work. -/
import Derived.Test.YtbenjgncbpafbaaGreatDoorP06
import Derived.Test.YtbenjgncbpafbaaGreatDoorP03
import Derived.Test.YtbenjgncbpafbaaGreatDoorP05
import Derived.Outline
import Derived.Test.YtbenjgncbpafbaaGreatDoorP01
import Derived.IntWalk
import Derived.Test.YtbenjgncbpafbaaGreatDoorP04
namespace Go.Proofs.YtbenjgncbpafbaaGreatDoor
open Go.RowKit
set_option linter.unusedVariables false
set_option linter.unusedSimpArgs false
namespace Wt
open Kc Mk
theorem ktab_kept {U : Nat → Prop} {w w' : World} (h : Laid.KTab w) (hk : Kept U w w') (hU : ∀ k, U k → w.heap.size ≤ k ∨ lowB ≤ k) : Laid.KTab w' := fun i hi => hk.cell (fun hu => by
  have h1 := inHeap (h i hi)
  have h2 : 0 < lowB := by unfold lowB; omega
  have := hU _ hu
  omega) (h i hi)
theorem isBs_pre {w : World} {q : Nat} {p : Px} (h : IsTab w q 86 64 fun i => bv (p i)) : IsBs w (some ⟨q, 0, none⟩) (pre p) := .inr ⟨q, 0, rfl, fun j hj => by
  rw [pre_len] at hj
  rw [Nat.zero_add, h.cell j hj, pre_at p j hj]⟩
/-- The digest of a preimage, as the program asks for it. -/
theorem sumP_walk {w : World} {q : Nat} {p : Px} (h : IsTab w q 86 64 fun i => bv (p i)) (ht : Laid.KTab w) :
    Calls Tryz.prog 39 #[.slice (some ⟨q, 0, none⟩) 64 64] w fun e w' => e = .returned (.agg (tab 32 fun i => bv (hs p i))) ∧ Below w.heap.size w w' := by
  have := sum_walk permIs (pre p) (some ⟨q, 0, none⟩) 64 w ht (isBs_pre h) (fun z hz => by cases hz; exact h.lt) (by rw [pre_len]; exact Nat.le_refl _) (by decide)
  rw [pre_len] at this
  exact this
/-- What Add keeps on its way: the boxes of the preimage (q0), of the answer (q1) and of the digest (q2). -/
structure Ad (W : World) (q0 q1 : Nat) (p : Px) (y : World) : Prop where
  b0 : IsTab y q0 86 64 fun i => bv (p i)
  b1 : IsTab y q1 81 32 fun _ => bv 0#8
theorem Ad.kept {U : Nat → Prop} {W y y' : World} {q0 q1 : Nat} {p : Px} (h : Ad W q0 q1 p y) (hk : Kept U y y') (h0 : ¬ U q0) (h1 : ¬ U q1) : Ad W q0 q1 p y' := ⟨Wt.IsTab.kept h.b0 hk h0, Wt.IsTab.kept h.b1 hk h1⟩
theorem kept_none {w w' : World} (h : Below w.heap.size w w') : Kept (fun _ => False) w w' := Kept.ofBelow h
theorem kept_drew (w : World) : Kept (fun _ => False) w w.drew := Kept.drew (Kept.refl _ _)
theorem sto_put {T : Nat → Prop} {w w' : World} {s kb pb : Nat} {S : Sto} {av : Value} {sv : Option Nat} {M : List (Hx × Px)} (h : IsSto w T s kb S pb av sv) (hm : IsMp pv w' pb M) (hk : Kept (fun k => k = pb) w w') : IsSto w' T s kb ⟨M, S.asked⟩ pb av sv :=
  ⟨h.box.kept hk (map_ne h.box h.pres), hm, hk.row h.row fun k e hh => map_row h.row h.pres (by rw [e, hh]), h.seen.imp id fun ⟨qb, h1, h2, h3, h4⟩ => ⟨qb, h1, h2, h3, h4.kept hk h2⟩, h.ts, h.tp, h.ta⟩
set_option maxHeartbeats 4000000 in
set_option maxRecDepth 100000 in
theorem add_walk (T : Nat → Prop) (s kb fb : Nat) (S : Sto) (p : Px) (w : World) (ht : Laid.KTab w) (h : IsSt w T s kb fb S) (hT : ∀ k, T k → k < w.heap.size) :
    Calls Tryz.prog 21 #[.pointer (some ⟨s, 0, none⟩), pv p] w fun e w' => e = .returned (.tuple #[dv (hs p), .nilIface]) ∧ IsSt w' T s kb fb ⟨putM S.pres (hs p) p, S.asked⟩ ∧ Kept (Foot T kb fb) w w' := by
  obtain ⟨⟨pb, av, sv, ho⟩, hn, hx1, hx2, hx3⟩ := h
  have HW := Lib.hid (And.intro hT hx3)
  have z2 := zeroHash
  generalize hz : (tab 32 fun _ => bv 0#8) = zh at *
  have HA : Hid (Ad w w.heap.size (w.heap.size + 1) p ((w.alloc (.cells (tab 64 fun i => bv (p i)) 86)).alloc (.cells zh 81))) := by
    rw [← hz]
    refine Lib.hid ⟨(IsTab.new w _ 64 _).alloc _, ?_⟩
    have := IsTab.new (w.alloc (.cells (tab 64 fun i => bv (p i)) 86)) 81 32 fun _ => bv 0#8
    simpa using this
  have HBW : Hid (Below w.heap.size w ((w.alloc (.cells (tab 64 fun i => bv (p i)) 86)).alloc (.cells zh 81)) ∧ ((w.alloc (.cells (tab 64 fun i => bv (p i)) 86)).alloc (.cells zh 81)).heap.size = w.heap.size + 2) := Lib.hid ⟨((Below.refl _ _).alloc (Nat.le_refl _) _).alloc (by simp) _, by simp⟩
  have HO := Lib.hid (ho.kept (kept_none HBW.out.1) fun _ _ h => h)
  have HN := Lib.hid (hn.kept (kept_none HBW.out.1) id id)
  have HT := Lib.hid (ktab_below ht HBW.out.1)
  have HX : Hid (¬ T kb ∧ ¬ T fb ∧ w.heap.size ≠ kb ∧ w.heap.size ≠ fb ∧ w.heap.size + 1 ≠ kb ∧ w.heap.size + 1 ≠ fb) := Lib.hid ⟨hx1, hx2, by have := hn.lt.1; omega, by have := hn.lt.2; omega, by have := hn.lt.1; omega, by have := hn.lt.2; omega⟩
  clear ho hn hx1 hx2 hx3 ht hT
  unfold dv pv
  go_enter Tryz.func21, Tryz.ntmps21
  go_upto_region 1 with (fail)
  subst hz
  generalize (w.alloc (.cells (tab 64 fun i => bv (p i)) 86)).alloc (.cells (tab 32 fun _ => bv 0#8) 81) = y at *
  have k3 := HO.out.box.k3
  go_upto_region 6 with (fail)
  clear k3 z2
  have s1 := slPreA w.heap.size
  have HC := Lib.hid (sumP_walk HA.out.b0 HT.out)
  have z2 := zeroHash
  generalize hz : (tab 32 fun _ => bv 0#8) = zh at *
  have HZ : Hid (zh.size = 32) := Lib.hid (by rw [← hz, tab_size])
  go_upto_region 7 with (first
    | (go_at_call 39; (with_reducible refine HC.out.mono ?_); rintro e y1 ⟨he, hb1⟩; obtain rfl : e = _ := he; have HB1 := Lib.hid hb1; clear hb1)
    | ((with_reducible refine wpList_store_row (P := Tryz.prog) (w := y1.alloc (.cells zh 81)) ?_ 81 (.tmp 6) (.tmp 27) ?_ y1.heap.size (tab 32 fun i => bv (hs p i)) ?_ ?_ 81 zh (heap_alloc_last y1 _) (infH _) ?_ (one_bv _ _) ?_); (· exact rfl); (· exact rfl); (· exact rfl); (· exact rfl); (· rw [HZ.out, tab_size]); rw [World.setRow_alloc_new]; simp only [Act.put]))
  subst hz
  have HK2 : Hid (Kept (fun _ => False) y (y1.alloc (.cells (tab 32 fun i => bv (hs p i)) 81)).drew) := Lib.hid ((kept_none HB1.out).alloc _).drew
  have HQ2 : Hid (IsTab (y1.alloc (.cells (tab 32 fun i => bv (hs p i)) 81)).drew y1.heap.size 81 32 (fun i => bv (hs p i)) ∧ y.heap.size ≤ y1.heap.size ∧ y1.heap.size < (y1.alloc (.cells (tab 32 fun i => bv (hs p i)) 81)).drew.heap.size) := Lib.hid ⟨(IsTab.new y1 _ 32 _).drew, HB1.out.size, by show y1.heap.size < (y1.alloc _).heap.size; simp⟩
  have HO2 := Lib.hid (HO.out.kept HK2.out fun _ _ h => h)
  have HN2 := Lib.hid (HN.out.kept HK2.out id id)
  have HA2 := Lib.hid (HA.out.kept HK2.out id id)
  have HT2 := Lib.hid (ktab_kept HT.out HK2.out fun _ h => h.elim)
  obtain ⟨w4, hr4, hm4, hk4, hs4⟩ := store_pv HO2.out.pres (hs p) p
  have HR4 := Lib.hid hr4
  have HM4 := Lib.hid (And.intro hm4 (And.intro hk4 hs4))
  clear hr4 hm4 hk4 hs4 z2 s1 HC HB1 HZ
  refine wp_region_og (fun y' : World => Kept (fun k => k = pb) (y1.alloc (.cells (tab 32 fun i => bv (hs p i)) 81)).drew y') (.take 0 (.take 1 (.take 2 (.take 3 (.take 4 (.take 5 (.one 6 .done))))))) (by kernel_rfl) (by kernel_rfl) (Kept.refl _ _) ?_
  generalize (y1.alloc (.cells (tab 32 fun i => bv (hs p i)) 81)).drew = y2 at *
  generalize y1.heap.size = q2 at *
  refine og_tk (some 28) (.pointer (some ⟨s, 0, none⟩)) rfl rfl (by go_simp) (fun _ _ => by simp [execOp, go_sem]) ?_
  simp only [Act.put, pS]
  refine og_tk (some 29) (.pointer (some ⟨s, 0, none⟩)) rfl rfl (by go_simp) (fun _ _ => by simp [execOp, go_sem]) ?_
  simp only [Act.put, pS]
  refine og_tk (some 30) (.pointer (some ⟨s, 0, none⟩)) rfl rfl (by go_simp) (fun _ _ => by simp [execOp, go_sem]) ?_
  simp only [Act.put, pS]
  refine og_ld (some 31) 74 (.tmp 30) (.pointer (some ⟨s, 0, none⟩)) (.map (some pb)) rfl rfl (by go_simp) rfl rfl (fun y hy => by have h := hy.cell (map_ne HO2.out.box HO2.out.pres) HO2.out.box.k0; simp [Instr.loadAt, go_sem, h, Tryz.underlying74]) ?_
  simp only [Act.put, pS]
  refine og_ld (some 32) 81 (.tmp 6) (.pointer (some ⟨q2, 0, none⟩)) (.agg (tab 32 fun i => bv (hs p i))) rfl rfl (by go_simp) rfl rfl (fun y hy => loadHb (Wt.IsTab.kept HQ2.out.1 hy (map_ne HQ2.out.1 HO2.out.pres))) ?_
  simp only [Act.put, pS]
  refine og_ld (some 33) 86 (.tmp 3) (.pointer (some ⟨w.heap.size, 0, none⟩)) (.agg (tab 64 fun i => bv (p i))) rfl rfl (by go_simp) rfl rfl (fun y hy => loadPb (Wt.IsTab.kept HA2.out.b0 hy (map_ne HA2.out.b0 HO2.out.pres))) ?_
  simp only [Act.put, pS]
  refine og_f rfl (by go_simp) fun K hK => ?_
  refine wp_mapUpdate none rfl 74 (.tmp 31) (.tmp 32) (.tmp 33) _ _ _ rfl rfl rfl rfl w4 HR4.out ?_
  refine hK _ _ HM4.out.2.1 ?_
  clear hK K
  simp only [Act.put, pS]
  refine og_done (NoPanic.normal ?_)
  have HO4 : Hid (IsSto w4 T s kb ⟨putM S.pres (hs p) p, S.asked⟩ pb av sv) := Lib.hid (sto_put HO2.out HM4.out.1 HM4.out.2.1)
  have HN4 := Lib.hid (HN2.out.kept HM4.out.2.1 (fun e => HX.out.1 (e ▸ HO2.out.tp)) (fun e => HX.out.2.1 (e ▸ HO2.out.tp)))
  have HA4 := Lib.hid (HA2.out.kept HM4.out.2.1 (map_ne HA2.out.b0 HO2.out.pres) (map_ne HA2.out.b1 HO2.out.pres))
  have HQ4 : Hid (IsTab w4 q2 81 32 (fun i => bv (hs p i))) := Lib.hid (Wt.IsTab.kept HQ2.out.1 HM4.out.2.1 (map_ne HQ2.out.1 HO2.out.pres))
  have HK4 : Hid (Kept (Foot T kb fb) y w4) := Lib.hid ((HK2.out.mono fun _ _ h => h.elim).trans HM4.out.2.1 fun k _ hk => .inl (hk ▸ HO2.out.tp))
  have HL : Hid (y.heap.size ≤ q2 ∧ q2 < w4.heap.size ∧ kb < y.heap.size ∧ fb < y.heap.size) := Lib.hid ⟨HQ2.out.2.1, HQ4.out.lt, HN.out.lt.1, HN.out.lt.2⟩
  clear HO2 HN2 HA2 HT2 HQ2 HR4 HM4 HK2 HO HN
  go_upto_region 8 with (fail)
  have HNS : Hid (¬ (s = kb ∨ s = fb)) := Lib.hid (fun e => e.elim (fun e => HX.out.1 (e ▸ HO4.out.ts)) (fun e => HX.out.2.1 (e ▸ HO4.out.ts)))
  have HC := Lib.hid (note_walk kb fb (hs p) p w4.drew (HN4.out.kept (kept_drew w4) id id))
  refine wp_region_og (fun y' : World => Kept (fun k => k = kb ∨ k = fb) w4.drew y') (.take 0 (.take 1 (.take 2 (.take 3 (.take 4 (.take 5 (.one 6 .done))))))) (by kernel_rfl) (by kernel_rfl) (Kept.refl _ _) ?_
  have HO5 := Lib.hid (HO4.out.kept (kept_drew w4) fun _ _ h => h)
  have HA5 := Lib.hid (HA4.out.kept (kept_drew w4) id id)
  have HQ5 := Lib.hid (Wt.IsTab.kept HQ4.out (kept_drew w4) id)
  have HK5 := Lib.hid (HK4.out.drew)
  have HL : Hid (y.heap.size ≤ q2 ∧ q2 < w4.drew.heap.size ∧ kb < y.heap.size ∧ fb < y.heap.size) := Lib.hid HL.out
  clear HO4 HA4 HQ4 HK4 HN4
  generalize w4.drew = y5 at *
  refine og_tk (some 34) (.pointer (some ⟨s, 0, none⟩)) rfl rfl (by go_simp) (fun _ _ => by simp [execOp, go_sem]) ?_
  simp only [Act.put, pS]
  refine og_tk (some 35) (.pointer (some ⟨s, 0, none⟩)) rfl rfl (by go_simp) (fun _ _ => by simp [execOp, go_sem]) ?_
  simp only [Act.put, pS]
  refine og_tk (some 36) (.pointer (some ⟨s, 3, none⟩)) rfl rfl (by go_simp) (fun _ _ => by simp [execOp, go_sem]) ?_
  simp only [Act.put, pS]
  refine og_ld (some 37) 77 (.tmp 36) (.pointer (some ⟨s, 3, none⟩)) (.pointer (some ⟨kb, 0, none⟩)) rfl rfl (by go_simp) rfl rfl (fun y hy => by have h := hy.cell HNS.out HO5.out.box.k3; simp [Instr.loadAt, go_sem, h, Tryz.underlying77]) ?_
  simp only [Act.put, pS]
  refine og_ld (some 38) 81 (.tmp 6) (.pointer (some ⟨q2, 0, none⟩)) (.agg (tab 32 fun i => bv (hs p i))) rfl rfl (by go_simp) rfl rfl (fun y hy => loadHb (Wt.IsTab.kept HQ5.out hy (by have := HL.out; omega))) ?_
  simp only [Act.put, pS]
  refine og_ld (some 39) 86 (.tmp 3) (.pointer (some ⟨w.heap.size, 0, none⟩)) (.agg (tab 64 fun i => bv (p i))) rfl rfl (by go_simp) rfl rfl (fun y hy => loadPb (Wt.IsTab.kept HA5.out.b0 hy (by have := HX.out.2.2; omega))) ?_
  simp only [Act.put, pS]
  refine og_f rfl (by go_simp) fun K hK => ?_
  go_simp
  refine HC.out.mono ?_
  rintro e y6 ⟨he, hn6, hk6⟩
  obtain rfl : e = _ := he
  have HN6 := Lib.hid hn6
  have HK6 := Lib.hid hk6
  refine hK _ _ HK6.out ?_
  clear hK K hn6 hk6 HC
  refine og_done (NoPanic.normal ?_)
  have HO6 := Lib.hid (HO5.out.kept HK6.out fun k hk e => e.elim (fun e => HX.out.1 (e ▸ hk)) (fun e => HX.out.2.1 (e ▸ hk)))
  have HA6 := Lib.hid (HA5.out.kept HK6.out (by have := HX.out.2.2; omega) (by have := HX.out.2.2; omega))
  have HQ6 := Lib.hid (loadHb (Wt.IsTab.kept HQ5.out HK6.out (by have := HL.out; omega)))
  have HK7 : Hid (Kept (Foot T kb fb) y y6) := Lib.hid (HK5.out.trans HK6.out fun k _ hk => .inr hk)
  clear HO5 HA5 HQ5 HK5 HK6
  have HB1 := Lib.hid HA6.out.b1
  generalize hz : (fun _ : Nat => bv 0#8) = gz at *
  go_wp2_with (first
    | ((with_reducible refine wpList_loadE (P := Tryz.prog) (w := y6) (ty := 81) (x := .tmp 6) (p := .pointer (some ⟨q2, 0, none⟩)) (v := .agg (tab 32 fun i => bv (hs p i))) ?_ ?_ ?_ HQ6.out ?_); (· exact rfl); (· exact rfl); (· exact rfl))
    | ((with_reducible refine wpList_store_row (P := Tryz.prog) (w := y6) ?_ 81 (.tmp 4) (.tmp 41) ?_ (w.heap.size + 1) (tab 32 (fun i => bv (hs p i))) ?_ ?_ 81 (tab 32 gz) ?_ (infH _) ?_ (tab_one fun i => rfl) ?_); (· exact rfl); (· exact rfl); (· exact rfl); (· exact rfl); (· exact HB1.out); (· rw [tab_size, tab_size])))
  have hr : IsTab (World.setRow y6 (w.heap.size + 1) (tab 32 fun i => bv (hs p i))) (w.heap.size + 1) 81 32 fun i => bv (hs p i) := HB1.out.row
  have hk8 : Kept (fun k => k = w.heap.size + 1) y6 (World.setRow y6 (w.heap.size + 1) (tab 32 fun i => bv (hs p i))) := ⟨by simp, by simp, by simp, by simp, fun k _ hk => setRow_other _ _ _ _ hk⟩
  refine bodyPost_ret (Kc.results_cell_tmp rfl _ _ (w.heap.size + 1) 81 _ (0, 0) _ rfl hr undH rfl (infH _) .nilIface rfl) rfl ⟨rfl, ?_⟩
  have hkk : Kept (Foot T kb fb) w (World.setRow y6 (w.heap.size + 1) (tab 32 fun i => bv (hs p i))) := by
    have h1 : Kept (Foot T kb fb) w y6 := ((kept_none HBW.out.1).mono fun _ _ h => h.elim).trans HK7.out fun _ _ h => h
    exact (h1.trans hk8 (fun i hi e => by omega))
  have hTn : ¬ (w.heap.size + 1 = kb) ∧ ¬ (w.heap.size + 1 = fb) := by have := HX.out.2.2; omega
  exact ⟨⟨⟨pb, av, sv, HO6.out.kept hk8 fun k hk e => by have := HW.out.1 k hk; omega⟩, HN6.out.kept hk8 (fun e => hTn.1 e.symm) (fun e => hTn.2 e.symm), HX.out.1, HX.out.2.1, HW.out.2⟩, hkk⟩
end Wt
end Go.Proofs.YtbenjgncbpafbaaGreatDoor
namespace Go.Proofs.YtbenjgncbpafbaaGreatDoor
open Go.RowKit
set_option linter.unusedVariables false
set_option linter.unusedSimpArgs false
namespace Wt
open Kc Mk
theorem kept_cell {S : Nat → Prop} {a b : World} (h : Kept S a b) (q i : Nat) (hq : S q) (v : Value) : Kept S a (b.setCell ⟨q, i, none⟩ v) := h.setCell (.inl hq) v
/-- The cells of a fresh kin. -/
def gk (b : Nat) : Nat → Value := fun i => if i = 0 then .map (some b) else if i = 129 then .bool false else bv 0#8
theorem buildK (b : Nat) (w : World) : (Instr.build 122 #[(0, .map (some b))]).run Tryz.prog w = .ok (.agg (tab 130 (gk b))) w := by kernel_rfl
theorem kin_new {w : World} {kb fb : Nat} (h : IsTab w kb 122 130 (gk fb)) (hm : IsMp pv w fb []) : Kin w kb fb :=
  ⟨gk fb, false, [], h, rfl, fun i h1 h2 => ⟨0#8, by unfold gk; rw [if_neg (by omega), if_neg (by omega)]⟩, rfl, hm⟩
/-- A store that nothing was added to yet. -/
def St0 (w : World) (s : Nat) : Prop := Box4 w s 79 (.map none) (.slice none 0 0) (.map none) (.pointer none)
set_option maxHeartbeats 4000000 in
set_option maxRecDepth 100000 in
theorem add_first (s : Nat) (p : Px) (w : World) (ht : Laid.KTab w) (h : St0 w s) (hG : lowB ≤ s) :
    Calls Tryz.prog 21 #[.pointer (some ⟨s, 0, none⟩), pv p] w fun e w' => e = .returned (.tuple #[dv (hs p), .nilIface]) ∧
      ∃ pb kb fb, IsSt w' (fun k => k = s ∨ k = pb) s kb fb ⟨[(hs p, p)], []⟩ ∧ (w.heap.size ≤ pb ∧ w.heap.size ≤ kb ∧ w.heap.size ≤ fb ∧ pb < w'.heap.size) ∧ Kept (fun k => k = s) w w' := by
  have hsl : s < w.heap.size := h.lt
  have HSL := Lib.hid (And.intro hsl hG)
  have z2 := zeroHash
  generalize hz : (tab 32 fun _ => bv 0#8) = zh at *
  have HA : Hid (Ad w w.heap.size (w.heap.size + 1) p ((w.alloc (.cells (tab 64 fun i => bv (p i)) 86)).alloc (.cells zh 81))) := by
    rw [← hz]
    refine Lib.hid ⟨(IsTab.new w _ 64 _).alloc _, ?_⟩
    have := IsTab.new (w.alloc (.cells (tab 64 fun i => bv (p i)) 86)) 81 32 fun _ => bv 0#8
    simpa using this
  have HBW : Hid (Below w.heap.size w ((w.alloc (.cells (tab 64 fun i => bv (p i)) 86)).alloc (.cells zh 81)) ∧ ((w.alloc (.cells (tab 64 fun i => bv (p i)) 86)).alloc (.cells zh 81)).heap.size = w.heap.size + 2) := Lib.hid ⟨((Below.refl _ _).alloc (Nat.le_refl _) _).alloc (by simp) _, by simp⟩
  have HO : Hid (St0 ((w.alloc (.cells (tab 64 fun i => bv (p i)) 86)).alloc (.cells zh 81)) s) := Lib.hid (h.kept (kept_none HBW.out.1) id)
  have HT := Lib.hid (ktab_below ht HBW.out.1)
  clear h ht hsl hG
  unfold dv pv
  have hmm := @run_makeMap Tryz.prog
  go_enter Tryz.func21, Tryz.ntmps21
  go_upto_region 1 with (fail)
  subst hz
  generalize (w.alloc (.cells (tab 64 fun i => bv (p i)) 86)).alloc (.cells (tab 32 fun _ => bv 0#8) 81) = y at *
  have k3 := HO.out.k3
  have f3 := HO.out.f 3

  obtain ⟨ck0, HCK0⟩ : ∃ ck, Hid (ck = tab 130 (gk y.heap.size)) := ⟨_, Lib.hid rfl⟩
  have HB := Lib.hid (buildK y.heap.size (y.alloc (.map #[] 0)))
  have HC : Hid (IsTab ((y.alloc (.map #[] 0)).alloc (.cells (tab 130 (gk y.heap.size)) 122)) (y.heap.size + 1) 122 130 (gk y.heap.size)) := Lib.hid (by have := IsTab.new (y.alloc (.map #[] 0)) 122 130 (gk y.heap.size); simpa using this)
  have HM : Hid (IsMp pv ((y.alloc (.map #[] 0)).alloc (.cells (tab 130 (gk y.heap.size)) 122)) y.heap.size []) := Lib.hid ((IsMp.new pv y).alloc _)
  have HO2 : Hid (St0 ((y.alloc (.map #[] 0)).alloc (.cells (tab 130 (gk y.heap.size)) 122)) s) := Lib.hid (HO.out.kept (((Kept.refl (fun _ => False) y).alloc _).alloc _) id)
  have HK2 : Hid (Below y.heap.size y ((y.alloc (.map #[] 0)).alloc (.cells (tab 130 (gk y.heap.size)) 122)) ∧ ((y.alloc (.map #[] 0)).alloc (.cells (tab 130 (gk y.heap.size)) 122)).heap.size = y.heap.size + 2) := Lib.hid ⟨((Below.refl _ _).alloc (Nat.le_refl _) _).alloc (by simp) _, by simp⟩
  have HCK : Hid (ck0 = tab 130 (gk y.heap.size)) := HCK0
  rw [← HCK.out] at HB HC HM HO2 HK2
  have k3' : ((y.alloc (.map #[] 0)).alloc (.cells ck0 122)).cell? ⟨s, 3, none⟩ = some (.pointer none) := HO2.out.k3
  have f3' : ((y.alloc (.map #[] 0)).alloc (.cells ck0 122)).frozen? ⟨s, 3, none⟩ = false := HO2.out.f 3
  go_upto_region 5 with ((with_reducible refine wpList_buildE (P := Tryz.prog) (w := y.alloc (.map #[] 0)) ?_ 122 #[(0, .tmp 17)] ?_ #[(0, .map (some y.heap.size))] ?_ (.agg ck0) HB.out ?_); (· exact rfl); (· exact rfl); (· simp [go_sem]))
  clear k3 f3 k3' f3'
  have HO3 : Hid (Box4 (((y.alloc (.map #[] 0)).alloc (.cells ck0 122)).setCell ⟨s, 3, none⟩ (.pointer (some ⟨y.heap.size + 1, 0, none⟩))) s 79 (.map none) (.slice none 0 0) (.map none) (.pointer (some ⟨y.heap.size + 1, 0, none⟩))) := Lib.hid (Box4.p3 HO2.out _)
  have HK3 : Hid (Kept (fun k => k = s) y (((y.alloc (.map #[] 0)).alloc (.cells ck0 122)).setCell ⟨s, 3, none⟩ (.pointer (some ⟨y.heap.size + 1, 0, none⟩))) ∧ (((y.alloc (.map #[] 0)).alloc (.cells ck0 122)).setCell ⟨s, 3, none⟩ (.pointer (some ⟨y.heap.size + 1, 0, none⟩))).heap.size = y.heap.size + 2) :=
    Lib.hid ⟨kept_cell (S := fun k => k = s) (Kept.ofBelow HK2.out.1) s 3 rfl _, by rw [size_setCell]; exact HK2.out.2⟩
  have HN3 : Hid (Kin (((y.alloc (.map #[] 0)).alloc (.cells ck0 122)).setCell ⟨s, 3, none⟩ (.pointer (some ⟨y.heap.size + 1, 0, none⟩))) (y.heap.size + 1) y.heap.size) := Lib.hid (by
    have hk : Kept (fun k => k = s) ((y.alloc (.map #[] 0)).alloc (.cells ck0 122)) (((y.alloc (.map #[] 0)).alloc (.cells ck0 122)).setCell ⟨s, 3, none⟩ (.pointer (some ⟨y.heap.size + 1, 0, none⟩))) := kept_cell (Kept.refl (fun k => k = s) _) s 3 rfl _
    have hn := HCK.out ▸ HC.out
    have hsl := HO.out.lt
    exact Kin.kept (kin_new (by rw [HCK.out]; exact hn) HM.out) hk (fun e => by omega) (fun e => by omega))
  clear HB HC HM HO2 HK2
  generalize ((y.alloc (.map #[] 0)).alloc (.cells ck0 122)).setCell ⟨s, 3, none⟩ (.pointer (some ⟨y.heap.size + 1, 0, none⟩)) = y4 at *
  generalize hfb : y.heap.size = fb at *
  have HFB := Lib.hid hfb
  clear hfb
  have HO4 : Hid (Box4 (y4.alloc (.map #[] 0)) s 79 (.map none) (.slice none 0 0) (.map none) (.pointer (some ⟨fb + 1, 0, none⟩))) := Lib.hid (HO3.out.kept ((Kept.refl (fun _ => False) y4).alloc _) id)
  have k0 : (y4.alloc (.map #[] 0)).cell? ⟨s, 0, none⟩ = some (.map none) := HO4.out.k0
  have f0 : (y4.alloc (.map #[] 0)).frozen? ⟨s, 0, none⟩ = false := HO4.out.f 0
  go_upto_region 6 with (fail)
  have HO : Hid (IsSto ((y4.alloc (.map #[] 0)).setCell ⟨s, 0, none⟩ (.map (some y4.heap.size))) (fun k => k = s ∨ k = y4.heap.size) s (fb + 1) ⟨[], []⟩ y4.heap.size (.slice none 0 0) none) := Lib.hid ⟨HO4.out.p0 _, by
    have hk : Kept (fun k => k = s) (y4.alloc (.map #[] 0)) ((y4.alloc (.map #[] 0)).setCell ⟨s, 0, none⟩ (.map (some y4.heap.size))) := kept_cell (Kept.refl (fun k => k = s) _) s 0 rfl _
    exact (IsMp.new pv y4).kept hk (fun e => by have := HO3.out.lt; omega), World.ownsRow_nil _ _ _ _, .inl ⟨rfl, rfl⟩, .inl rfl, .inr rfl, fun k e => by cases e⟩
  have HK5 : Hid (Kept (fun k => k = s) y4 ((y4.alloc (.map #[] 0)).setCell ⟨s, 0, none⟩ (.map (some y4.heap.size)))) := Lib.hid (kept_cell ((Kept.refl (fun k => k = s) _).alloc _) s 0 rfl _)
  have HS4 : Hid (y4.heap.size = fb + 2 ∧ s < fb ∧ fb = w.heap.size + 2) := Lib.hid ⟨HK3.out.2, by have := HSL.out.1; have := HBW.out.2; have := HFB.out; omega, by have := HBW.out.2; have := HFB.out; omega⟩
  have HN := Lib.hid (HN3.out.kept HK5.out (by have := HS4.out; omega) (by have := HS4.out; omega))
  have HK6a : Hid (Kept (fun k => k = s) y ((y4.alloc (.map #[] 0)).setCell ⟨s, 0, none⟩ (.map (some y4.heap.size)))) := Lib.hid (HK3.out.1.trans HK5.out fun _ _ h => h)
  have HA := Lib.hid (HA.out.kept HK6a.out (by have := HS4.out; have := HSL.out; omega) (by have := HS4.out; have := HSL.out; omega))
  have HT := Lib.hid (ktab_kept HT.out HK6a.out fun k e => .inr (e ▸ HSL.out.2))
  have HBW := Lib.hid (HBW.out.1)
  clear HO3 HO4 HK3 HN3 HK5 k0 f0 HCK
  generalize (y4.alloc (.map #[] 0)).setCell ⟨s, 0, none⟩ (.map (some y4.heap.size)) = yy at *
  generalize hpb : y4.heap.size = pb at *
  generalize hkb : fb + 1 = kb at *
  have HX0 : Hid (kb = fb + 1 ∧ pb = fb + 2 ∧ s < fb ∧ fb = w.heap.size + 2 ∧ s < w.heap.size ∧ lowB ≤ s) := Lib.hid ⟨hkb.symm, hpb ▸ HS4.out.1, HS4.out.2.1, HS4.out.2.2, HSL.out.1, HSL.out.2⟩
  clear hpb hkb HS4 HFB
  obtain ⟨T, hT⟩ : ∃ T : Nat → Prop, Hid (T = fun k => k = s ∨ k = pb) := ⟨_, Lib.hid rfl⟩
  have HTI : Hid (∀ k, T k → k = s ∨ k = pb) := Lib.hid (fun k hk => by rw [hT.out] at hk; exact hk)
  have HX : Hid (¬ T kb ∧ ¬ T fb ∧ w.heap.size ≠ kb ∧ w.heap.size ≠ fb ∧ w.heap.size + 1 ≠ kb ∧ w.heap.size + 1 ≠ fb) := Lib.hid (by
    have := HX0.out
    refine ⟨fun h => ?_, fun h => ?_, by omega⟩
    · have := HTI.out _ h; omega
    · have := HTI.out _ h; omega)
  rw [← hT.out] at HO
  obtain ⟨S, av, sv, hS, hO⟩ : ∃ (S : Sto) (av : Value) (sv : Option Nat), Hid (S = ⟨[], []⟩) ∧ IsSto yy T s kb S pb av sv := ⟨_, _, _, Lib.hid rfl, HO.out⟩
  have HO := Lib.hid hO
  clear hO z2
  have s1 := slPreA w.heap.size
  have HC := Lib.hid (sumP_walk HA.out.b0 HT.out)
  have z2 := zeroHash
  generalize hz : (tab 32 fun _ => bv 0#8) = zh at *
  have HZ : Hid (zh.size = 32) := Lib.hid (by rw [← hz, tab_size])
  go_upto_region 7 with (first
    | (go_at_call 39; (with_reducible refine HC.out.mono ?_); rintro e y1 ⟨he, hb1⟩; obtain rfl : e = _ := he; have HB1 := Lib.hid hb1; clear hb1)
    | ((with_reducible refine wpList_store_row (P := Tryz.prog) (w := y1.alloc (.cells zh 81)) ?_ 81 (.tmp 6) (.tmp 27) ?_ y1.heap.size (tab 32 fun i => bv (hs p i)) ?_ ?_ 81 zh (heap_alloc_last y1 _) (infH _) ?_ (one_bv _ _) ?_); (· exact rfl); (· exact rfl); (· exact rfl); (· exact rfl); (· rw [HZ.out, tab_size]); rw [World.setRow_alloc_new]; simp only [Act.put]))
  subst hz
  have HK2 : Hid (Kept (fun _ => False) yy (y1.alloc (.cells (tab 32 fun i => bv (hs p i)) 81)).drew) := Lib.hid ((kept_none HB1.out).alloc _).drew
  have HQ2 : Hid (IsTab (y1.alloc (.cells (tab 32 fun i => bv (hs p i)) 81)).drew y1.heap.size 81 32 (fun i => bv (hs p i)) ∧ yy.heap.size ≤ y1.heap.size ∧ y1.heap.size < (y1.alloc (.cells (tab 32 fun i => bv (hs p i)) 81)).drew.heap.size) := Lib.hid ⟨(IsTab.new y1 _ 32 _).drew, HB1.out.size, by show y1.heap.size < (y1.alloc _).heap.size; simp⟩
  have HO2 := Lib.hid (HO.out.kept HK2.out fun _ _ h => h)
  have HN2 := Lib.hid (HN.out.kept HK2.out id id)
  have HA2 := Lib.hid (HA.out.kept HK2.out id id)
  have HT2 := Lib.hid (ktab_kept HT.out HK2.out fun _ h => h.elim)
  obtain ⟨w4, hr4, hm4, hk4, hs4⟩ := store_pv HO2.out.pres (hs p) p
  have HR4 := Lib.hid hr4
  have HM4 := Lib.hid (And.intro hm4 (And.intro hk4 hs4))
  clear hr4 hm4 hk4 hs4 z2 s1 HC HB1 HZ
  refine wp_region_og (fun yy' : World => Kept (fun k => k = pb) (y1.alloc (.cells (tab 32 fun i => bv (hs p i)) 81)).drew yy') (.take 0 (.take 1 (.take 2 (.take 3 (.take 4 (.take 5 (.one 6 .done))))))) (by kernel_rfl) (by kernel_rfl) (Kept.refl _ _) ?_
  generalize (y1.alloc (.cells (tab 32 fun i => bv (hs p i)) 81)).drew = y2 at *
  generalize y1.heap.size = q2 at *
  refine og_tk (some 28) (.pointer (some ⟨s, 0, none⟩)) rfl rfl (by go_simp) (fun _ _ => by simp [execOp, go_sem]) ?_
  simp only [Act.put, pS]
  refine og_tk (some 29) (.pointer (some ⟨s, 0, none⟩)) rfl rfl (by go_simp) (fun _ _ => by simp [execOp, go_sem]) ?_
  simp only [Act.put, pS]
  refine og_tk (some 30) (.pointer (some ⟨s, 0, none⟩)) rfl rfl (by go_simp) (fun _ _ => by simp [execOp, go_sem]) ?_
  simp only [Act.put, pS]
  refine og_ld (some 31) 74 (.tmp 30) (.pointer (some ⟨s, 0, none⟩)) (.map (some pb)) rfl rfl (by go_simp) rfl rfl (fun yy hy => by have h := hy.cell (map_ne HO2.out.box HO2.out.pres) HO2.out.box.k0; simp [Instr.loadAt, go_sem, h, Tryz.underlying74]) ?_
  simp only [Act.put, pS]
  refine og_ld (some 32) 81 (.tmp 6) (.pointer (some ⟨q2, 0, none⟩)) (.agg (tab 32 fun i => bv (hs p i))) rfl rfl (by go_simp) rfl rfl (fun yy hy => loadHb (Wt.IsTab.kept HQ2.out.1 hy (map_ne HQ2.out.1 HO2.out.pres))) ?_
  simp only [Act.put, pS]
  refine og_ld (some 33) 86 (.tmp 3) (.pointer (some ⟨w.heap.size, 0, none⟩)) (.agg (tab 64 fun i => bv (p i))) rfl rfl (by go_simp) rfl rfl (fun yy hy => loadPb (Wt.IsTab.kept HA2.out.b0 hy (map_ne HA2.out.b0 HO2.out.pres))) ?_
  simp only [Act.put, pS]
  refine og_f rfl (by go_simp) fun K hK => ?_
  refine wp_mapUpdate none rfl 74 (.tmp 31) (.tmp 32) (.tmp 33) _ _ _ rfl rfl rfl rfl w4 HR4.out ?_
  refine hK _ _ HM4.out.2.1 ?_
  clear hK K
  simp only [Act.put, pS]
  refine og_done (NoPanic.normal ?_)
  have HO4 : Hid (IsSto w4 T s kb ⟨putM S.pres (hs p) p, S.asked⟩ pb av sv) := Lib.hid (sto_put HO2.out HM4.out.1 HM4.out.2.1)
  have HN4 := Lib.hid (HN2.out.kept HM4.out.2.1 (fun e => HX.out.1 (e ▸ HO2.out.tp)) (fun e => HX.out.2.1 (e ▸ HO2.out.tp)))
  have HA4 := Lib.hid (HA2.out.kept HM4.out.2.1 (map_ne HA2.out.b0 HO2.out.pres) (map_ne HA2.out.b1 HO2.out.pres))
  have HQ4 : Hid (IsTab w4 q2 81 32 (fun i => bv (hs p i))) := Lib.hid (Wt.IsTab.kept HQ2.out.1 HM4.out.2.1 (map_ne HQ2.out.1 HO2.out.pres))
  have HK4 : Hid (Kept (Foot T kb fb) yy w4) := Lib.hid ((HK2.out.mono fun _ _ h => h.elim).trans HM4.out.2.1 fun k _ hk => .inl (hk ▸ HO2.out.tp))
  have HL : Hid (yy.heap.size ≤ q2 ∧ q2 < w4.heap.size ∧ kb < yy.heap.size ∧ fb < yy.heap.size) := Lib.hid ⟨HQ2.out.2.1, HQ4.out.lt, HN.out.lt.1, HN.out.lt.2⟩
  clear HO2 HN2 HA2 HT2 HQ2 HR4 HM4 HK2 HO HN
  go_upto_region 8 with (fail)
  have HNS : Hid (¬ (s = kb ∨ s = fb)) := Lib.hid (fun e => e.elim (fun e => HX.out.1 (e ▸ HO4.out.ts)) (fun e => HX.out.2.1 (e ▸ HO4.out.ts)))
  have HC := Lib.hid (note_walk kb fb (hs p) p w4.drew (HN4.out.kept (kept_drew w4) id id))
  refine wp_region_og (fun yy' : World => Kept (fun k => k = kb ∨ k = fb) w4.drew yy') (.take 0 (.take 1 (.take 2 (.take 3 (.take 4 (.take 5 (.one 6 .done))))))) (by kernel_rfl) (by kernel_rfl) (Kept.refl _ _) ?_
  have HO5 := Lib.hid (HO4.out.kept (kept_drew w4) fun _ _ h => h)
  have HA5 := Lib.hid (HA4.out.kept (kept_drew w4) id id)
  have HQ5 := Lib.hid (Wt.IsTab.kept HQ4.out (kept_drew w4) id)
  have HK5 := Lib.hid (HK4.out.drew)
  have HL : Hid (yy.heap.size ≤ q2 ∧ q2 < w4.drew.heap.size ∧ kb < yy.heap.size ∧ fb < yy.heap.size) := Lib.hid HL.out
  clear HO4 HA4 HQ4 HK4 HN4
  generalize w4.drew = y5 at *
  refine og_tk (some 34) (.pointer (some ⟨s, 0, none⟩)) rfl rfl (by go_simp) (fun _ _ => by simp [execOp, go_sem]) ?_
  simp only [Act.put, pS]
  refine og_tk (some 35) (.pointer (some ⟨s, 0, none⟩)) rfl rfl (by go_simp) (fun _ _ => by simp [execOp, go_sem]) ?_
  simp only [Act.put, pS]
  refine og_tk (some 36) (.pointer (some ⟨s, 3, none⟩)) rfl rfl (by go_simp) (fun _ _ => by simp [execOp, go_sem]) ?_
  simp only [Act.put, pS]
  refine og_ld (some 37) 77 (.tmp 36) (.pointer (some ⟨s, 3, none⟩)) (.pointer (some ⟨kb, 0, none⟩)) rfl rfl (by go_simp) rfl rfl (fun yy hy => by have h := hy.cell HNS.out HO5.out.box.k3; simp [Instr.loadAt, go_sem, h, Tryz.underlying77]) ?_
  simp only [Act.put, pS]
  refine og_ld (some 38) 81 (.tmp 6) (.pointer (some ⟨q2, 0, none⟩)) (.agg (tab 32 fun i => bv (hs p i))) rfl rfl (by go_simp) rfl rfl (fun yy hy => loadHb (Wt.IsTab.kept HQ5.out hy (by have := HL.out; omega))) ?_
  simp only [Act.put, pS]
  refine og_ld (some 39) 86 (.tmp 3) (.pointer (some ⟨w.heap.size, 0, none⟩)) (.agg (tab 64 fun i => bv (p i))) rfl rfl (by go_simp) rfl rfl (fun yy hy => loadPb (Wt.IsTab.kept HA5.out.b0 hy (by have := HX.out.2.2; omega))) ?_
  simp only [Act.put, pS]
  refine og_f rfl (by go_simp) fun K hK => ?_
  go_simp
  refine HC.out.mono ?_
  rintro e y6 ⟨he, hn6, hk6⟩
  obtain rfl : e = _ := he
  have HN6 := Lib.hid hn6
  have HK6 := Lib.hid hk6
  refine hK _ _ HK6.out ?_
  clear hK K hn6 hk6 HC
  refine og_done (NoPanic.normal ?_)
  have HO6 := Lib.hid (HO5.out.kept HK6.out fun k hk e => e.elim (fun e => HX.out.1 (e ▸ hk)) (fun e => HX.out.2.1 (e ▸ hk)))
  have HA6 := Lib.hid (HA5.out.kept HK6.out (by have := HX.out.2.2; omega) (by have := HX.out.2.2; omega))
  have HQ6 := Lib.hid (loadHb (Wt.IsTab.kept HQ5.out HK6.out (by have := HL.out; omega)))
  have HK7 : Hid (Kept (Foot T kb fb) yy y6) := Lib.hid (HK5.out.trans HK6.out fun k _ hk => .inr hk)
  clear HO5 HA5 HQ5 HK5 HK6
  have HB1 := Lib.hid HA6.out.b1
  generalize hz : (fun _ : Nat => bv 0#8) = gz at *
  go_wp2_with (first
    | ((with_reducible refine wpList_loadE (P := Tryz.prog) (w := y6) (ty := 81) (x := .tmp 6) (p := .pointer (some ⟨q2, 0, none⟩)) (v := .agg (tab 32 fun i => bv (hs p i))) ?_ ?_ ?_ HQ6.out ?_); (· exact rfl); (· exact rfl); (· exact rfl))
    | ((with_reducible refine wpList_store_row (P := Tryz.prog) (w := y6) ?_ 81 (.tmp 4) (.tmp 41) ?_ (w.heap.size + 1) (tab 32 (fun i => bv (hs p i))) ?_ ?_ 81 (tab 32 gz) ?_ (infH _) ?_ (tab_one fun i => rfl) ?_); (· exact rfl); (· exact rfl); (· exact rfl); (· exact rfl); (· exact HB1.out); (· rw [tab_size, tab_size])))
  have hr : IsTab (World.setRow y6 (w.heap.size + 1) (tab 32 fun i => bv (hs p i))) (w.heap.size + 1) 81 32 fun i => bv (hs p i) := HB1.out.row
  have hk8 : Kept (fun k => k = w.heap.size + 1) y6 (World.setRow y6 (w.heap.size + 1) (tab 32 fun i => bv (hs p i))) := ⟨by simp, by simp, by simp, by simp, fun k _ hk => setRow_other _ _ _ _ hk⟩
  refine bodyPost_ret (Kc.results_cell_tmp rfl _ _ (w.heap.size + 1) 81 _ (0, 0) _ rfl hr undH rfl (infH _) .nilIface rfl) rfl ⟨rfl, ?_⟩
  have hkk : Kept (fun k => k = s) w (World.setRow y6 (w.heap.size + 1) (tab 32 fun i => bv (hs p i))) := by
    have h0 : Kept (fun k => k = s) w yy := ((kept_none HBW.out).mono fun _ _ h => h.elim).trans HK6a.out fun _ _ h => h
    have h1 : Kept (fun k => k = s) w y6 := h0.trans HK7.out fun k hk hf => by
      rcases hf with hf | hf
      · have := HTI.out _ hf; have := HX0.out; omega
      · have := HX0.out; omega
    exact (h1.trans hk8 (fun i hi e => by omega))
  have ho := HO6.out.kept hk8 fun k hk e => by have := HTI.out k hk; have := HX0.out; omega
  refine ⟨pb, kb, fb, ⟨⟨pb, av, sv, ?_⟩, HN6.out.kept hk8 (fun e => HX.out.2.2.2.2.1 e.symm) (fun e => HX.out.2.2.2.2.2 e.symm), by have := HX0.out; omega, by have := HX0.out; omega, fun k hk => by have := HX0.out; omega⟩, by have := HX0.out; have := ho.pres.lt; omega, hkk⟩
  rw [hS.out, hT.out] at ho
  exact ho
end Wt
end Go.Proofs.YtbenjgncbpafbaaGreatDoor
namespace Go.Proofs.YtbenjgncbpafbaaGreatDoor
open Go.RowKit
set_option linter.unusedVariables false
namespace Wt
open Kc Mk
/-- Two digests as a preimage. -/
def jn (x y : Hx) : Px := fun i => if i < 32 then x i else y (i - 32)
theorem splv2_one (x y : Hx) : (tab 64 (splv (splv (fun _ => bv 0#8) 0 32 fun j => bv (x j)) 32 32 fun j => bv (y j))).all (·.oneCell') = true := tab_one fun i => by
  unfold splv
  split
  · rfl
  · split <;> rfl
structure Jn (W : World) (q0 q1 q2 q3 : Nat) (x y : Nat → Bt) (g : Nat → Value) (u : World) : Prop where
  sx : IsTab u q0 81 32 fun i => bv (x i)
  sy : IsTab u q1 81 32 fun i => bv (y i)
  sr : IsTab u q2 86 64 fun _ => bv 0#8
  sp : IsTab u q3 86 64 g
  n0 : q0 ≠ q3
  n1 : q1 ≠ q3
  n2 : q2 ≠ q3
  g2 : W.heap.size ≤ q2
  g3 : W.heap.size ≤ q3
  below : Below W.heap.size W u
theorem Jn.row {W u : World} {q0 q1 q2 q3 : Nat} {x y : Nat → Bt} {g : Nat → Value} (h : Jn W q0 q1 q2 q3 x y g u) (g' : Nat → Value) : Jn W q0 q1 q2 q3 x y g' (u.setRow q3 (tab 64 g')) :=
  ⟨h.sx.rowOther h.n0, h.sy.rowOther h.n1, h.sr.rowOther h.n2, h.sp.row, h.n0, h.n1, h.n2, h.g2, h.g3, below_setRow h.below h.g3 _⟩
theorem Jn.drew {W u : World} {q0 q1 q2 q3 : Nat} {x y : Nat → Bt} {g : Nat → Value} (h : Jn W q0 q1 q2 q3 x y g u) : Jn W q0 q1 q2 q3 x y g u.drew :=
  ⟨h.sx, h.sy, h.sr, h.sp, h.n0, h.n1, h.n2, h.g2, h.g3, h.below.drew⟩
set_option maxHeartbeats 8000000 in
set_option maxRecDepth 100000 in
theorem join_walk (x y : Hx) (w : World) :
    Calls Tryz.prog 22 #[dv x, dv y] w fun e w' => e = .returned (pv (jn x y)) ∧ Below w.heap.size w w' := by
  unfold dv
  have z1 := zeroPre
  generalize hz : (tab 64 fun _ => bv 0#8) = zp at *
  have HZP := Lib.hid hz
  clear hz
  go_enter Tryz.func22, Tryz.ntmps22
  go_upto_region 1 with (fail)
  have h1 : Hid (IsTab (((w.alloc (.cells (tab 32 fun i => bv (x i)) 81)).alloc (.cells (tab 32 fun i => bv (y i)) 81)).alloc (.cells zp 86)) w.heap.size 81 32 (fun i => bv (x i)) ∧
      IsTab (((w.alloc (.cells (tab 32 fun i => bv (x i)) 81)).alloc (.cells (tab 32 fun i => bv (y i)) 81)).alloc (.cells zp 86)) (w.heap.size + 1) 81 32 (fun i => bv (y i)) ∧
      IsTab (((w.alloc (.cells (tab 32 fun i => bv (x i)) 81)).alloc (.cells (tab 32 fun i => bv (y i)) 81)).alloc (.cells zp 86)) (w.heap.size + 1 + 1) 86 64 (fun _ => bv 0#8) ∧
      (((w.alloc (.cells (tab 32 fun i => bv (x i)) 81)).alloc (.cells (tab 32 fun i => bv (y i)) 81)).alloc (.cells zp 86)).heap.size = w.heap.size + 3 ∧
      Below w.heap.size w (((w.alloc (.cells (tab 32 fun i => bv (x i)) 81)).alloc (.cells (tab 32 fun i => bv (y i)) 81)).alloc (.cells zp 86))) := by
    rw [← HZP.out]
    have e1 : (w.alloc (.cells (tab 32 fun i => bv (x i)) 81)).heap.size = w.heap.size + 1 := by simp
    have e2 : ((w.alloc (.cells (tab 32 fun i => bv (x i)) 81)).alloc (.cells (tab 32 fun i => bv (y i)) 81)).heap.size = w.heap.size + 1 + 1 := by simp
    refine Lib.hid ⟨((IsTab.new w _ 32 _).alloc _).alloc _, ?_, ?_, by simp, (((Below.refl _ _).alloc (Nat.le_refl _) _).alloc (by simp) _).alloc (by simp; omega) _⟩
    · have := (IsTab.new (w.alloc (.cells (tab 32 fun i => bv (x i)) 81)) 81 32 fun i => bv (y i)).alloc (.cells (tab 64 fun _ => bv 0#8) 86)
      rw [e1] at this; exact this
    · have := IsTab.new ((w.alloc (.cells (tab 32 fun i => bv (x i)) 81)).alloc (.cells (tab 32 fun i => bv (y i)) 81)) 86 64 fun _ => bv 0#8
      rw [e2] at this; exact this
  generalize ((w.alloc (.cells (tab 32 fun i => bv (x i)) 81)).alloc (.cells (tab 32 fun i => bv (y i)) 81)).alloc (.cells zp 86) = w1 at *
  have hq : w.heap.size < w.heap.size + 1 ∧ w.heap.size + 1 < w.heap.size + 1 + 1 ∧ w.heap.size + 1 + 1 < w.heap.size + 3 := by omega
  have HQ := Lib.hid hq
  clear hq
  generalize w.heap.size + 1 + 1 = q2 at *
  generalize w.heap.size + 1 = q1 at *
  have hzl : zp.size = 64 := by rw [← HZP.out, tab_size]
  have HZL := Lib.hid hzl
  clear hzl
  have hzo : zp.all (·.oneCell') = true := by rw [← HZP.out]; exact one_bv _ _
  have HZO := Lib.hid hzo
  clear hzo
  have hzi : (Tryz.prog.info? 86).map (·.size) = some zp.size := by rw [HZL.out]; exact infPre'
  have HZI := Lib.hid hzi
  clear hzi
  go_upto_region 2 with (refine wpList_store_row rfl 86 (.tmp 5) (.tmp 6) rfl w1.heap.size zp rfl rfl 86 zp (heap_alloc_last w1 _) HZI.out rfl HZO.out ?_)
  rw [World.setRow_alloc_new]
  simp only [Act.put]
  have HR : Hid (Jn w w.heap.size q1 q2 w1.heap.size x y (fun _ => bv 0#8) (w1.alloc (.cells zp 86))) := by
    rw [← HZP.out]
    obtain ⟨a1, a2, a3, a4, a5⟩ := h1.out
    obtain ⟨b1, b2, b3⟩ := HQ.out
    exact Lib.hid ⟨a1.alloc _, a2.alloc _, a3.alloc _, IsTab.new w1 _ 64 _, by omega, by omega, by omega, by omega, by omega, a5.alloc (by omega) _⟩
  clear h1 HZP HZL HZO HZI z1 HQ
  generalize w1.alloc (.cells zp 86) = y0 at *
  generalize w1.heap.size = q3 at *
  generalize hq0 : w.heap.size = q0 at *
  have HQ0 := Lib.hid hq0
  clear hq0
  have s1 := slPreH q3
  have s2 := slHA q0
  go_still_tail 2, (by kernel_rfl)
  change wpList _ _ _ _ _ y0.drew
  refine wpList_copy_tab rfl (.tmp 7) (.tmp 8) 124 124 rfl 5 und22 size8 q3 0 32 64 ⟨q0, 0, none⟩ 32 32 rfl rfl 86 64 (fun _ => bv 0#8) HR.out.drew.sp 32 rfl (fun j => bv (x j)) (fun j hj => by rw [add_at, Nat.zero_add]; exact HR.out.sx.cell j hj) (by decide) (fun _ => rfl) ?_
  have HR2 := Lib.hid (HR.out.drew.row (splv (fun _ => bv 0#8) 0 32 fun j => bv (x j)))
  clear HR s1 s2
  generalize y0.drew.setRow q3 (tab 64 (splv (fun _ => bv 0#8) 0 32 fun j => bv (x j))) = y1 at *
  have s1 := slPreL q3
  have s2 := slHA q1
  go_upto_region 3 with (fail)
  go_still_tail 2, (by kernel_rfl)
  change wpList _ _ _ _ _ y1.drew
  refine wpList_copy_tab rfl (.tmp 10) (.tmp 11) 124 124 rfl 5 und22 size8 q3 32 32 32 ⟨q1, 0, none⟩ 32 32 rfl rfl 86 64 (splv (fun _ => bv 0#8) 0 32 fun j => bv (x j)) HR2.out.drew.sp 32 rfl (fun j => bv (y j)) (fun j hj => by rw [add_at, Nat.zero_add]; exact HR2.out.sy.cell j hj) (by decide) (fun _ => rfl) ?_
  have HR3 := Lib.hid (HR2.out.drew.row (splv (splv (fun _ => bv 0#8) 0 32 fun j => bv (x j)) 32 32 fun j => bv (y j)))
  clear HR2 s1 s2
  generalize y1.drew.setRow q3 (tab 64 (splv (splv (fun _ => bv 0#8) 0 32 fun j => bv (x j)) 32 32 fun j => bv (y j))) = y2 at *
  go_wp2_with (first
    | (refine wpList_load_row rfl 86 (.tmp 5) rfl q3 rfl 86 (tab 64 (splv (splv (fun _ => bv 0#8) 0 32 fun j => bv (x j)) 32 32 fun j => bv (y j))) (0, 0) _ HR3.out.sp undPre rfl (infPre _) ?_)
    | (refine wpList_store_row rfl 86 (.tmp 4) (.tmp 13) rfl q2 (tab 64 (splv (splv (fun _ => bv 0#8) 0 32 fun j => bv (x j)) 32 32 fun j => bv (y j))) rfl rfl 86 _ HR3.out.sr (infPre _) (by rw [tab_size, tab_size]) (splv2_one _ _) ?_))
  have hr : IsTab (World.setRow y2 q2 (tab 64 (splv (splv (fun _ => bv 0#8) 0 32 fun j => bv (x j)) 32 32 fun j => bv (y j)))) q2 86 64 (splv (splv (fun _ => bv 0#8) 0 32 fun j => bv (x j)) 32 32 fun j => bv (y j)) := HR3.out.sr.row
  have hbb := below_setRow HR3.out.below HR3.out.g2 (tab 64 (splv (splv (fun _ => bv 0#8) 0 32 fun j => bv (x j)) 32 32 fun j => bv (y j)))
  refine bodyPost_ret (results_cell_row rfl _ _ q2 86 _ (0, 0) _ rfl hr undPre rfl (infPre _)) rfl ⟨?_, hbb⟩
  congr 2
end Wt
end Go.Proofs.YtbenjgncbpafbaaGreatDoor
namespace Go.Proofs.YtbenjgncbpafbaaGreatDoor
open Go.RowKit
set_option linter.unusedVariables false
namespace Mk
open Kc
/-- A block of one digest. -/
theorem put_new (w : World) (x : Hx) (zh : Array Value) (hz : (tab 32 fun _ => bv 0#8) = zh) : IsTab (w.alloc (.cells zh 81)) w.heap.size 81 32 fun _ => bv 0#8 := by
  rw [← hz]; exact IsTab.new w _ 32 _
end Mk
end Go.Proofs.YtbenjgncbpafbaaGreatDoor
namespace Go.Proofs.YtbenjgncbpafbaaGreatDoor
open Go.RowKit
set_option linter.unusedVariables false
section
variable {P : Program} {ops : Array Oper} {Q : Exit → Act → World → Prop} {S : World → Prop}
/-- append as one operation. -/
theorem wp_append_any {w : World} {o : Oper} {a : Act} {K : Act → World → Prop} {Q : Exit → Act → World → Prop} (s x : Operand) (t : TypeId)
    (ho : o.op = .call { callee := .builtin .append, args := #[s, x], argTypes := #[t, t] })
    (base : Nat) (e : TypeId) (i : TypeInfo) (z : Value) (size bytes : Nat) (ht : P.underlying t = some (.slice e)) (hi : P.info? e = some i ∧ i.zero = some z ∧ i.size = size ∧ i.bytes = bytes)
    (hzs : z.cells.size = size) (hsz : 0 < size)
    (v : Value) (n : Nat) (xs : List Value) (hs : a.eval s = v) (hown : w.ownsRow base e size v n xs)
    (A : Option Addr) (m c : Nat) (news : List Value) (hx : a.eval x = .slice A m c) (hsrc : (A = none ∧ m = 0 ∧ c = 0 ∧ news = []) ∨ ∃ ad, A = some ad ∧ news.length = m * size ∧ ∀ j u, news[j]? = some u → w.cell? (ad.add j) = some u) (h1 : ∀ u ∈ news, u.oneCell' = true)
    (h63 : n + m ≤ maxLen) (hbytes : (n + m) * bytes ≤ 140737488355328) (hbase : base ≤ w.heap.size)
    (h : ∀ v' w', w'.ownsRow base e size v' (n + m) (xs ++ news) → w.grownBy w' v.ownBlock → (∀ k, v'.ownBlock = some k → v.ownBlock = some k ∨ k = w.heap.size) → K (a.put o.dst v') w') : Oper.wp P o a w K Q := by
  rcases hsrc with ⟨rfl, rfl, rfl, rfl⟩ | ⟨ad, rfl, hl, hc⟩
  · have hh := h v w (by simpa using hown) (World.grownBy.refl w _) (fun k hk => .inl hk)
    have hr := run_append_owned_none (P := P) (w := w) base t o.type e i size ht hi.1 v n xs hown
    unfold Oper.wp
    simp [execOp, ho, resolve, invoke, builtin, hs, hx, hr, Result.andThen]
    exact hh
  · obtain ⟨v', w', hr, h2, h3, _, h4⟩ := run_append_at (P := P) w base t o.type e i z size bytes ht hi.1 hi.2.1 hi.2.2.1 hi.2.2.2 hzs hsz v n xs hown ad m c news hl hc h1 h63 hbytes hbase
    have hh := h _ _ h2 h3 h4
    unfold Oper.wp execOp
    simp only [ho, resolve, invoke, builtin, Sem.run_bind, Sem.run_pure, Result.andThen_ok, List.map_toArray, List.map_cons, List.map_nil, hs, hx, hr]
    exact hh
end
end Go.Proofs.YtbenjgncbpafbaaGreatDoor
namespace Go.Proofs.YtbenjgncbpafbaaGreatDoor
open Go.RowKit
set_option linter.unusedVariables false
section
variable {P : Program} {ops : Array Oper} {Q : Exit → Act → World → Prop} {S : World → Prop}
end
end Go.Proofs.YtbenjgncbpafbaaGreatDoor
