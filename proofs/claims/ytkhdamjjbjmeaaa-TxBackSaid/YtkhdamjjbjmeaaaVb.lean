/-
  TxBack. Own work.
-/
import Derived.Test.YtkhdamjjbjmeaaaVa
import Derived.Deep.CutRange
import Derived.Deep.LoopGhost
namespace Go.Proofs.Ytkhdamjjbjmeaaa
open Go.ChangeShapes Go.WideShapes Go.Deep Go.RowKit
set_option linter.unusedVariables false
set_option linter.unusedSimpArgs false
namespace Rl
theorem txEncode_bad (w : World) (f : Nat → Nat) (hf : ∀ i, i < 6 → f i < 18446744073709551616) (ho : txOk f = false) :
    Calls Try.prog 6 #[txv f] w fun e w' => (∃ a c, e = .returned (.tuple #[.slice a 0 c, .iface 55 (.int .i64 2)])) ∧ Below w.heap.size w w' := by
  refine (txEncode_walk w f hf).mono ?_
  rintro r w' ⟨V, h1, h2, hb⟩
  rw [ho] at h1 h2
  obtain ⟨a, c, rfl, h3⟩ := h2.isB
  exact ⟨⟨a, c, h1⟩, hb⟩
theorem txDecode_tx (w : World) (a : Option Addr) (n c : Nat) (f : Nat → Nat) (hg : TxG f) (hB : IsB w a n c (txB f)) :
    Calls Try.prog 13 #[.slice a n c] w fun r w' => r = .returned (.tuple #[txv f, .nilIface]) ∧ Below w.heap.size w w' := by
  obtain ⟨g, hgd, hgf⟩ := txd_txB hg.2 hg.1
  have h := txDecode_walk w a n c _ hB
  rw [hgd] at h
  refine h.mono fun r w' ⟨h1, h2⟩ => ⟨?_, h2⟩
  rw [show r = _ from h1, txv_cong hgf]
theorem txBatch_pl (w : World) (a : Option Addr) (n c : Nat) (ls : List (List Bt)) (fs : List (Nat → Nat)) (hp : PLF ls fs) (hL : IsBB w a n c ls) :
    Calls Try.prog 11 #[.slice a n c] w fun e w' => (∃ a c, e = .returned (.tuple #[.slice a (btB ls).length c, .nilIface]) ∧ IsB w' a (btB ls).length c (btB ls)) ∧ Below w.heap.size w w' := by
  have h1 := (bt_small hp.small hp.few).1
  have h2 := sum_le hp.small
  have h8 := hp.few
  refine (txBatch_walk w a n c _ hL (fun _ => by omega)).mono ?_
  rintro r w' ⟨V, h3, h4, hb⟩
  rw [if_pos h1] at h3 h4
  obtain ⟨a, c, rfl, h5⟩ := h4.isB
  exact ⟨⟨a, c, h3, h5⟩, hb⟩
theorem txUnbatch_pl (w : World) (a : Option Addr) (n c : Nat) (ls : List (List Bt)) (fs : List (Nat → Nat)) (hp : PLF ls fs) (hB : IsB w a n c (btB ls)) :
    Calls Try.prog 9 #[.slice a n c] w fun r w' => (∃ G K a1 c1 a2 c2, r = .returned (.tuple #[.slice a1 fs.length c1, .slice a2 K c2, .nilIface]) ∧ IsT w' a1 fs.length c1 G ∧ G.map t6 = fs.map t6 ∧ K + fs.length = ls.length) ∧ Below w.heap.size w w' := by
  refine (txUnbatch_is w a n c _ hB _ _ (bt_small hp.small hp.few).2).mono ?_
  rintro r w' ⟨⟨a1, c1, a2, c2, h4, h5, h6⟩, hb⟩
  obtain ⟨hl, hl2⟩ := hp.lens
  rw [hl] at h4 h5
  exact ⟨⟨_, _, a1, c1, a2, c2, h4, h5, hp.eq, by omega⟩, hb⟩
/-- Two rows, a box, a text. -/
structure Rq (w : World) (q8 : Nat) (V1 V2 : Value) (ls : List (List Bt)) (fs : List (Nat → Nat)) (f : Nat → Nat) (y : World) : Prop where
  rows : BkR w V1 V2 ls fs y
  box : ∀ i, i < 6 → y.cell? ⟨q8, i, none⟩ = some (.int .u64 (f i))
  b1 : V1.ownBlock ≠ some q8
  b2 : V2.ownBlock ≠ some q8
section
variable {w : World} {q8 : Nat} {V1 V2 V' : Value} {ls ls' : List (List Bt)} {fs : List (Nat → Nat)} {f : Nat → Nat} {y y' : World}
theorem Rq.next (h : Rq w q8 V1 V2 ls fs f y) (hb : Below y.heap.size y y') : Rq w q8 V1 V2 ls fs f y' := ⟨h.rows.next hb, fun i hi => keep1 hb (h.box i hi), h.b1, h.b2⟩
theorem Rq.new (h : BkR w V1 V2 ls fs y) (hb : Below (y.alloc (txo f)).heap.size (y.alloc (txo f)) y') : Rq w y.heap.size V1 V2 ls fs f y' :=
  ⟨(h.next (ba _ _)).next hb, fun i hi => keep1 hb (txo_at y f i hi), fun e => by have := (h.s.base e).2; omega, fun e => by have := (h.t.base e).2; omega⟩
theorem Rq.putS {x : List Bt} (h : Rq w q8 V1 V2 ls fs f y) (hg : y.grownBy y' V1.ownBlock) (hat : ∀ k, V'.ownBlock = some k → V1.ownBlock = some k ∨ k = y.heap.size) (hr : RowS y' w.heap.size (fun b => V2.ownBlock = some b) V' (ls ++ [x])) : Rq w q8 V' V2 (ls ++ [x]) fs f y' :=
  ⟨h.rows.putS hg hat hr, fun i hi => (grown_cell hg (inHeap (h.box i hi)) h.b1).trans (h.box i hi), fun e => by
    rcases hat _ e with h4 | h4
    · exact h.b1 h4
    · have := inHeap (h.box 0 (by decide)); omega, h.b2⟩
theorem Rq.boxT (h : Rq w q8 V1 V2 ls fs f y) (hg : y.grownBy y' V2.ownBlock) : ∀ i, i < 6 → y'.cell? ⟨q8, i, none⟩ = some (.int .u64 (f i)) :=
  fun i hi => (grown_cell hg (inHeap (h.box i hi)) h.b2).trans (h.box i hi)
theorem t6_keep {s : Nat} (h : ∀ j u, (t6 f)[j]? = some u → y.cell? ((⟨s, 0, none⟩ : Addr).add j) = some u) (hk : Keep y y') : ∀ j u, (t6 f)[j]? = some u → y'.cell? ((⟨s, 0, none⟩ : Addr).add j) = some u := fun j u hu => hk _ _ (h j u hu)
theorem t6_grown {s : Nat} {row : Option Nat} (h : ∀ j u, (t6 f)[j]? = some u → y.cell? ((⟨s, 0, none⟩ : Addr).add j) = some u) (hg : y.grownBy y' row) (hs : row ≠ some s) : ∀ j u, (t6 f)[j]? = some u → y'.cell? ((⟨s, 0, none⟩ : Addr).add j) = some u := fun j u hu => by
  have := h j u hu
  rw [add_at] at this ⊢
  exact (grown_cell hg (inHeap this) hs).trans this
end
set_option maxHeartbeats 4000000 in
set_option maxRecDepth 100000 in
theorem txBack_walk (w : World) (a : Option Addr) (n c : Nat) (ts : List (Nat → Nat)) (a2 : Option Addr) (m c2 : Nat) (js : List (List Bt)) (hT : IsT w a n c ts) (hf : ∀ f ∈ ts, ∀ i, i < 6 → f i < 18446744073709551616) (hJ : IsBB w a2 m c2 js) :
    Calls Try.prog 5 #[.slice a n c, .slice a2 m c2] w fun e w' => e = .returned (.bool true) ∧ Below w.heap.size w w' := by
  have HT := Lib.hid hT
  have HJB := Lib.hid hJ
  have HTF := Lib.hid hf
  have HN := Lib.hid (show n ≤ 9223372036854775807 by have h1 := hT.2.1; have h2 := hT.2.2.1; simp only [maxLen] at h2; omega)
  clear hT hJ hf
  go_enter Try.func5, Try.ntmps5
  go_wp2_with (go_at_call 8; (with_reducible refine (fixed4_walk _).mono ?_); rintro e y1 ⟨rfl, hb⟩
               have H1 := Lib.hid (BkR.new w |>.next hb)
               clear hb)
  go_loopg [5, 6, 23] n (fun g V1 V2 i y => ∃ (j : Nat) (ls : List (List Bt)) (fs : List (Nat → Nat)), i = .int .i64 j ∧ Hid (g = n - j ∧ j ≤ n ∧ BkR w V1 V2 ls fs y ∧ PLF ls fs))
  case atStart => exact ⟨0, [], [], rfl, Lib.hid ⟨rfl, Nat.zero_le _, H1.out, PLF.nil⟩⟩
  case round =>
    obtain ⟨j, ls, fs, rfl, hp⟩ := hrel
    clear H1
    have HR := Lib.hid hp.out.2.2.1
    have HP := Lib.hid hp.out.2.2.2
    have HK := Lib.hid (show gk = n - j ∧ j ≤ n from ⟨hp.out.1, hp.out.2.1⟩)
    clear hp
    obtain ⟨a1, c1, e1⟩ := HR.out.s.form
    subst e1
    have HL0 := HP.out.few
    have HL1 := HP.out.lens
    obtain ⟨L, hL⟩ : ∃ L, ls.length = L := ⟨_, rfl⟩
    rw [hL] at HR ⊢
    have HL := Lib.hid (show ls.length = L ∧ L ≤ 8 ∧ fs.length ≤ 8 from ⟨hL, by omega, by omega⟩)
    clear HL0 HL1 hL
    by_cases hlt : (j : Int) < n
    · obtain ⟨b, o, f, rfl, hfj, G0, G1, G2, G3, G4, G5⟩ := (HT.out.keep (keep_below HR.out.below)).at (show j < n by omega)
      have HF := Lib.hid (HTF.out f (List.mem_of_getElem? hfj))
      have HJ := Lib.hid (And.intro (show j < n by omega) (show wrap64 ((j : Int) + 1) = ((j + 1 : Nat) : Int) by have := HN.out; unfold wrap64; omega))
      clear hfj
      cases hok : txOk f with
      | false =>
        have HE := Lib.hid (fun y => txEncode_bad y f HF.out hok)
        have HR0 := Lib.hid (HR.out.next (ba wr (txo f)))
        clear hok
        go_wp2_with (go_at_call 6; (with_reducible refine (HE.out _).mono ?_); rintro e y2 ⟨⟨a3, c3, rfl⟩, hb⟩
                     have HR2 := Lib.hid (HR0.out.next hb)
                     clear hb HE)
        try rw [HJ.out.2]
        go_roundg (n - (j + 1))
        case measure => have := HK.out; have := HJ.out.1; omega
        case rel => exact ⟨j + 1, ls, fs, rfl, Lib.hid ⟨rfl, HJ.out.1, HR2.out, HP.out⟩⟩
      | true =>
        have HG : Hid (TxG f) := Lib.hid ⟨hok, HF.out⟩
        clear hok
        have C0 := Lib.hid (txo_at wr f)
        have hq0 := HR.out
        obtain ⟨q8, hq8⟩ : ∃ q, wr.heap.size = q := ⟨_, rfl⟩
        have HQ0 : Hid (Rq w wr.heap.size _ _ ls fs f (wr.alloc (txo f))) := Lib.hid (Rq.new hq0 (Below.refl _ _))
        clear hq0 hq8
        have z0 := C0.out 0 (by decide)
        have z1 := C0.out 1 (by decide)
        have z2 := C0.out 2 (by decide)
        have z3 := C0.out 3 (by decide)
        have z4 := C0.out 4 (by decide)
        have z5 := C0.out 5 (by decide)
        go_upto_if 49 with (first
          | (go_at_call 6; (with_reducible refine (txEncode_good _ f HG.out).mono ?_); rintro e y3 ⟨⟨a9, c9, rfl, hB9⟩, hb⟩
             have HQ3 := Lib.hid (HQ0.out.next hb)
             have HX3 := Lib.hid (HQ0.out.rows.new_txt hB9)
             have HB3 := Lib.hid (hB9.keep (see_keep _ _))
             clear z0 z1 z2 z3 z4 z5 hB9 hb)
          | (go_at_call 13; (with_reducible refine (txDecode_tx _ _ _ _ f HG.out HB3.out).mono ?_); rintro e y4 ⟨rfl, hb⟩
             have hbb := bl hb (ba y4 (txo f))
             have HQ5 := Lib.hid (HQ3.out.next hbb)
             have HX5 := Lib.hid (HX3.out.next hbb)
             have C5 := Lib.hid (txo_at y4 f)
             have z0 := HQ5.out.box 0 (by decide)
             have z1 := HQ5.out.box 1 (by decide)
             have z2 := HQ5.out.box 2 (by decide)
             have z3 := HQ5.out.box 3 (by decide)
             have z4 := HQ5.out.box 4 (by decide)
             have z5 := HQ5.out.box 5 (by decide)
             have v0 := C5.out 0 (by decide)
             have v1 := C5.out 1 (by decide)
             have v2 := C5.out 2 (by decide)
             have v3 := C5.out 3 (by decide)
             have v4 := C5.out 4 (by decide)
             have v5 := C5.out 5 (by decide)
             clear hb hbb HB3))
        clear z0 z1 z2 z3 z4 z5 v0 v1 v2 v3 v4 v5
        generalize y4.alloc (txo f) = y5 at *
        generalize wr.heap.size = q8 at *
        go_cut [5, 6] from 24 to 96 (fun V1 V2 y => ∃ (ls' : List (List Bt)) (fs' : List (Nat → Nat)), Hid (BkR w V1 V2 ls' fs' y ∧ PLF ls' fs'))
        case first =>
          by_cases h8 : L < 8
          · have HL8 := Lib.hid (show ls.length < 8 by have := HL.out; omega)
            have h8i : (L : Int) < 8 := by omega
            go_upto_region 14 with (fail)
            clear h8 h8i
            have HQ := Lib.hid (HQ5.out.next (Below.refl _ _).drew)
            have HX := Lib.hid (HX5.out.next (Below.refl _ _).drew)
            refine wp_region_og (fun y : World => ∀ i, i < 6 → y.cell? ⟨q8, i, none⟩ = some (.int .u64 (f i))) (.take 0 (.take 1 (.take 4 (.take 5 (.two 2 (.two 3 (.one 6 (.one 7 (.one 8 (.one 9 .done)))) 6 (.one 3 (.one 7 (.one 8 (.one 9 .done))))) 6 (.one 2 (.one 3 (.one 7 (.one 8 (.one 9 .done)))))))))) (by kernel_rfl) (by kernel_rfl) HQ.out.box ?_
            generalize y5.drew = x0 at *
            clear HQ5 HX5 HQ0 HQ3 HX3 C5 C0
            refine og_tk (some 50) (.slice a1 L c1) rfl rfl (by go_simp) (fun _ _ => by simp [execOp, go_sem]) ?_
            refine og_tk (some 51) (.slice a9 (txB f).length c9) rfl rfl (by go_simp) (fun _ _ => by simp [execOp, go_sem]) ?_
            refine og_tk (some 54) u6 rfl rfl (by go_simp) (fun _ _ => by simp [execOp, go_sem]) ?_
            refine og_tk (some 55) (txv f) rfl rfl (by go_simp) (fun y hy => by
              have z0 := hy 0 (by decide)
              have z1 := hy 1 (by decide)
              have z2 := hy 2 (by decide)
              have z3 := hy 3 (by decide)
              have z4 := hy 4 (by decide)
              have z5 := hy 5 (by decide)
              simp [execOp, go_sem, z0, z1, z2, z3, z4, z5]) ?_
            simp only [Act.put, List.setIfInBounds_toArray, List.set_cons_zero, List.set_cons_succ]
            refine og_two ?_ ?_
            · have HQP := HQ
              have HQ := Lib.hid (HQ.out.next (ba x0 (.cells #[.slice a9 (txB f).length c9] 25)))
              have HX := Lib.hid (HX.out.next (ba x0 (.cells #[.slice a9 (txB f).length c9] 25)))
              have HS2 : Hid ((x0.alloc (.cells #[.slice a9 (txB f).length c9] 25)).cell? ⟨x0.heap.size, 0, none⟩ = some (.slice a9 (txB f).length c9)) := Lib.hid (by simp)
              refine og_of rfl (by go_simp) fun K hK => ?_
              go_simp
              refine hK _ _ HQ.out.box ?_
              clear hK K HQP
              generalize x0.alloc (.cells #[.slice a9 (txB f).length c9] 25) = x1 at *
              generalize x0.heap.size = s2_1 at *
              refine og_two ?_ ?_
              · refine og_of rfl (by go_simp) fun K hK => ?_
                refine wp_appS (some 53) (.tmp 50) (.tmp 52) rfl rfl w.heap.size (fun b => u6.ownBlock = some b) (.slice a1 L c1) ls rfl HQ.out.rows.s HQ.out.rows.below.size ⟨s2_1, 0, none⟩ 1 (txB f) a9 (txB f).length c9 rfl (by rw [add_at]; exact HS2.out) HX.out (by have := HL.out; omega) ?_
                intro V5 x2 hr hg hat
                have HQ := Lib.hid (HQ.out.putS hg hat hr)
                refine hK _ _ HQ.out.box ?_
                simp only [Act.put, List.setIfInBounds_toArray, List.set_cons_zero, List.set_cons_succ]
                clear hK K hr hg hat HX HS2
                have HQP := HQ
                have HQ := Lib.hid (HQ.out.next (ba x2 (txo f)))
                have HS6 := Lib.hid (t6_new x2 f 24)
                refine og_f rfl (by go_simp) fun K hK => ?_
                go_simp
                refine hK _ _ HQ.out.box ?_
                clear hK K HQP
                generalize x2.alloc (txo f) = x3 at *
                generalize x2.heap.size = s6_3 at *
                refine og_f rfl (by go_simp) fun K hK => ?_
                refine wp_appT (some 57) (.tmp 54) (.tmp 56) rfl rfl w.heap.size u6 fs rfl HQ.out.rows.t HQ.out.rows.below.size ⟨s6_3, 0, none⟩ 1 f rfl HS6.out (by have := HL.out; omega) ?_
                intro V6 x4 hr hg hat
                have HR8 := Lib.hid (HQ.out.rows.putT hg hat hr)
                have HB8 := Lib.hid (HQ.out.boxT hg)
                refine hK _ _ HB8.out ?_
                simp only [Act.put, List.setIfInBounds_toArray, List.set_cons_zero, List.set_cons_succ]
                clear hK K hr hg hat HQ HS6
                refine og_f rfl (by go_simp) fun K hK => ?_
                go_simp
                refine hK _ _ HB8.out ?_
                clear hK K
                refine og_f rfl (by go_simp) fun K hK => ?_
                go_simp
                refine hK _ _ HB8.out ?_
                clear hK K
                refine og_done (NoPanic.normal ?_)
                go_wp2_with (fail)
                go_meet
                case rel => exact ⟨ls ++ [txB f], fs ++ [f], Lib.hid ⟨HR8.out, HP.out.tx HG.out HL8.out⟩⟩
              · have HQP := HQ
                have HQ := Lib.hid (HQ.out.next (ba x1 (txo f)))
                have HX := Lib.hid (HX.out.next (ba x1 (txo f)))
                have HS2 := Lib.hid (keep1 (ba x1 (txo f)) HS2.out)
                have HS6 := Lib.hid (t6_new x1 f 24)
                have HS6n := Lib.hid (show (Value.slice a1 L c1).ownBlock ≠ some x1.heap.size ∧ u6.ownBlock ≠ some x1.heap.size from ⟨fun e => by have := (HQP.out.rows.s.base e).2; omega, fun e => by have := (HQP.out.rows.t.base e).2; omega⟩)
                refine og_of rfl (by go_simp) fun K hK => ?_
                go_simp
                refine hK _ _ HQ.out.box ?_
                clear hK K HQP
                generalize x1.alloc (txo f) = x2 at *
                generalize x1.heap.size = s6_2 at *
                refine og_f rfl (by go_simp) fun K hK => ?_
                refine wp_appS (some 53) (.tmp 50) (.tmp 52) rfl rfl w.heap.size (fun b => u6.ownBlock = some b) (.slice a1 L c1) ls rfl HQ.out.rows.s HQ.out.rows.below.size ⟨s2_1, 0, none⟩ 1 (txB f) a9 (txB f).length c9 rfl (by rw [add_at]; exact HS2.out) HX.out (by have := HL.out; omega) ?_
                intro V5 x3 hr hg hat
                have HS6 := Lib.hid (t6_grown HS6.out hg HS6n.out.1)
                have HQ := Lib.hid (HQ.out.putS hg hat hr)
                refine hK _ _ HQ.out.box ?_
                simp only [Act.put, List.setIfInBounds_toArray, List.set_cons_zero, List.set_cons_succ]
                clear hK K hr hg hat HX HS2
                refine og_f rfl (by go_simp) fun K hK => ?_
                refine wp_appT (some 57) (.tmp 54) (.tmp 56) rfl rfl w.heap.size u6 fs rfl HQ.out.rows.t HQ.out.rows.below.size ⟨s6_2, 0, none⟩ 1 f rfl HS6.out (by have := HL.out; omega) ?_
                intro V6 x4 hr hg hat
                have HR8 := Lib.hid (HQ.out.rows.putT hg hat hr)
                have HB8 := Lib.hid (HQ.out.boxT hg)
                refine hK _ _ HB8.out ?_
                simp only [Act.put, List.setIfInBounds_toArray, List.set_cons_zero, List.set_cons_succ]
                clear hK K hr hg hat HQ HS6
                refine og_f rfl (by go_simp) fun K hK => ?_
                go_simp
                refine hK _ _ HB8.out ?_
                clear hK K
                refine og_f rfl (by go_simp) fun K hK => ?_
                go_simp
                refine hK _ _ HB8.out ?_
                clear hK K
                refine og_done (NoPanic.normal ?_)
                go_wp2_with (fail)
                go_meet
                case rel => exact ⟨ls ++ [txB f], fs ++ [f], Lib.hid ⟨HR8.out, HP.out.tx HG.out HL8.out⟩⟩
            · have HQP := HQ
              have HQ := Lib.hid (HQ.out.next (ba x0 (txo f)))
              have HX := Lib.hid (HX.out.next (ba x0 (txo f)))
              have HS6 := Lib.hid (t6_new x0 f 24)
              have HS6n := Lib.hid (show (Value.slice a1 L c1).ownBlock ≠ some x0.heap.size ∧ u6.ownBlock ≠ some x0.heap.size from ⟨fun e => by have := (HQP.out.rows.s.base e).2; omega, fun e => by have := (HQP.out.rows.t.base e).2; omega⟩)
              refine og_of rfl (by go_simp) fun K hK => ?_
              go_simp
              refine hK _ _ HQ.out.box ?_
              clear hK K HQP
              generalize x0.alloc (txo f) = x1 at *
              generalize x0.heap.size = s6_1 at *
              have HQP := HQ
              have HQ := Lib.hid (HQ.out.next (ba x1 (.cells #[.slice a9 (txB f).length c9] 25)))
              have HX := Lib.hid (HX.out.next (ba x1 (.cells #[.slice a9 (txB f).length c9] 25)))
              have HS6 := Lib.hid (t6_keep HS6.out (keep_below (ba x1 (.cells #[.slice a9 (txB f).length c9] 25))))
              have HS2 : Hid ((x1.alloc (.cells #[.slice a9 (txB f).length c9] 25)).cell? ⟨x1.heap.size, 0, none⟩ = some (.slice a9 (txB f).length c9)) := Lib.hid (by simp)
              refine og_f rfl (by go_simp) fun K hK => ?_
              go_simp
              refine hK _ _ HQ.out.box ?_
              clear hK K HQP
              generalize x1.alloc (.cells #[.slice a9 (txB f).length c9] 25) = x2 at *
              generalize x1.heap.size = s2_2 at *
              refine og_f rfl (by go_simp) fun K hK => ?_
              refine wp_appS (some 53) (.tmp 50) (.tmp 52) rfl rfl w.heap.size (fun b => u6.ownBlock = some b) (.slice a1 L c1) ls rfl HQ.out.rows.s HQ.out.rows.below.size ⟨s2_2, 0, none⟩ 1 (txB f) a9 (txB f).length c9 rfl (by rw [add_at]; exact HS2.out) HX.out (by have := HL.out; omega) ?_
              intro V5 x3 hr hg hat
              have HS6 := Lib.hid (t6_grown HS6.out hg HS6n.out.1)
              have HQ := Lib.hid (HQ.out.putS hg hat hr)
              refine hK _ _ HQ.out.box ?_
              simp only [Act.put, List.setIfInBounds_toArray, List.set_cons_zero, List.set_cons_succ]
              clear hK K hr hg hat HX HS2
              refine og_f rfl (by go_simp) fun K hK => ?_
              refine wp_appT (some 57) (.tmp 54) (.tmp 56) rfl rfl w.heap.size u6 fs rfl HQ.out.rows.t HQ.out.rows.below.size ⟨s6_1, 0, none⟩ 1 f rfl HS6.out (by have := HL.out; omega) ?_
              intro V6 x4 hr hg hat
              have HR8 := Lib.hid (HQ.out.rows.putT hg hat hr)
              have HB8 := Lib.hid (HQ.out.boxT hg)
              refine hK _ _ HB8.out ?_
              simp only [Act.put, List.setIfInBounds_toArray, List.set_cons_zero, List.set_cons_succ]
              clear hK K hr hg hat HQ HS6
              refine og_f rfl (by go_simp) fun K hK => ?_
              go_simp
              refine hK _ _ HB8.out ?_
              clear hK K
              refine og_f rfl (by go_simp) fun K hK => ?_
              go_simp
              refine hK _ _ HB8.out ?_
              clear hK K
              refine og_done (NoPanic.normal ?_)
              go_wp2_with (fail)
              go_meet
              case rel => exact ⟨ls ++ [txB f], fs ++ [f], Lib.hid ⟨HR8.out, HP.out.tx HG.out HL8.out⟩⟩
          · have h8i : ¬ (L : Int) < 8 := by omega
            clear h8
            go_wp2_with (fail)
            go_meet
            case rel => exact ⟨ls, fs, Lib.hid ⟨HQ5.out.rows, HP.out⟩⟩
        case rest =>
          obtain ⟨ls2, fs2, hp⟩ := hcut
          have HR := Lib.hid hp.out.1
          have HP := Lib.hid hp.out.2
          clear hp HQ0 HQ3 HQ5 HX3 HX5 C0 C5 HL
          obtain ⟨a3, c3, e3⟩ := HR.out.s.form
          subst e3
          have HL0 := HP.out.few
          have HL1 := HP.out.lens
          obtain ⟨L2, hL⟩ : ∃ L, ls2.length = L := ⟨_, rfl⟩
          rw [hL] at HR ⊢
          have HL := Lib.hid (show ls2.length = L2 ∧ L2 ≤ 8 ∧ fs2.length ≤ 8 from ⟨hL, by omega, by omega⟩)
          clear HL0 HL1 hL
          by_cases hjm : j < m
          · obtain ⟨b2, o2, a5, n5, c5, e2, hcw, hBw⟩ := HJB.out.at hjm
            subst e2
            have hcell := keep1 HR.out.below hcw
            have HB := Lib.hid (And.intro hBw (And.intro hBw.1 (inHeap hcw)))
            generalize js.getD j [] = x at *
            clear hcw hBw
            by_cases h8 : L2 < 8
            · by_cases h100 : n5 < 100
              · have HC := Lib.hid (show x.length < 100 ∧ ls2.length < 8 from ⟨by rw [← HB.out.2.1]; exact h100, by rw [HL.out.1]; exact h8⟩)
                have h8i : (L2 : Int) < 8 := by omega
                have h100i : (n5 : Int) < 100 := by omega
                have HDX := Lib.hid (txDecode_out wc a5 n5 c5 x (HB.out.1.keep (keep_below HR.out.below)))
                clear h8 h100
                go_upto_region 17 with (go_at_call 13; (with_reducible refine HDX.out.mono ?_); rintro e y6 ⟨⟨g, er, rfl, hor⟩, hb⟩
                                        have hbb := bl hb (ba y6 (txo g))
                                        have HR7 := Lib.hid (HR.out.next hbb)
                                        have HC7 := Lib.hid (keep1 hbb hcell)
                                        have C7 := Lib.hid (txo_at y6 g)
                                        have HOR := Lib.hid hor
                                        clear hb hbb hor HDX hcell)
                clear h8i h100i
                generalize y6.alloc (txo g) = y7 at *
                generalize y6.heap.size = q6 at *
                have hcell := HC7.out
                rcases HOR.out with ⟨f', hf', rfl, rfl⟩ | ⟨hno, t, v, rfl⟩
                · have HGD := Lib.hid hf'
                  have z0 := C7.out 0 (by decide)
                  have z1 := C7.out 1 (by decide)
                  have z2 := C7.out 2 (by decide)
                  have z3 := C7.out 3 (by decide)
                  have z4 := C7.out 4 (by decide)
                  have z5 := C7.out 5 (by decide)
                  clear hf'
                  go_wp2_with (first
                    | (refine wpList_appT rfl (.tmp 85) (.tmp 87) rfl w.heap.size u6 fs2 rfl (HR7.out.next (ba y7 (txo g))).t (HR7.out.next (ba y7 (txo g))).below.size ⟨y7.heap.size, 0, none⟩ 1 g rfl (t6_new y7 g _) (by have := HL.out; omega) ?_
                       intro V8 y8 hr hg hat
                       have HR8 := Lib.hid ((HR7.out.next (ba y7 (txo g))).putT hg hat hr)
                       have hc0 := keep1 (ba y7 (txo g)) HC7.out
                       have hc8 := (grown_cell hg (inHeap hc0) (fun e => by have := ((HR7.out.next (ba y7 (txo g))).t.base e).1; have := HB.out.2.2; omega)).trans hc0
                       have HX8 := Lib.hid ((HR8.out.old_txt HB.out.1).next (ba y8 (.cells #[.slice a5 n5 c5] 25)))
                       have HR9 := Lib.hid (HR8.out.next (ba y8 (.cells #[.slice a5 n5 c5] 25)))
                       clear hr hg hat hc0 hcell z0 z1 z2 z3 z4 z5)
                    | (refine wpList_appS rfl (.tmp 89) (.tmp 94) rfl w.heap.size (fun b => Value.ownBlock V8 = some b) (.slice a3 L2 c3) ls2 rfl HR9.out.s HR9.out.below.size ⟨y8.heap.size, 0, none⟩ 1 x a5 n5 c5 rfl (by rw [add_at]; simp) HX8.out (by have := HL.out; omega) (fun k hk => (HR9.out.t.base hk).2) ?_
                       intro V10 y10 hr hg hat
                       have HR10 := Lib.hid (HR9.out.putS hg hat hr)
                       clear hr hg hat))
                  try rw [HJ.out.2]
                  go_roundg (n - (j + 1))
                  case measure => have := HK.out; have := HJ.out.1; omega
                  case rel => exact ⟨j + 1, ls2 ++ [x], fs2 ++ [g], rfl, Lib.hid ⟨rfl, HJ.out.1, HR10.out, HP.out.ok HGD.out HC.out.1 HC.out.2⟩⟩
                · have HGD := Lib.hid hno
                  have HX8 := Lib.hid ((HR7.out.old_txt HB.out.1).next (ba y7 (.cells #[.slice a5 n5 c5] 25)))
                  have HR9 := Lib.hid (HR7.out.next (ba y7 (.cells #[.slice a5 n5 c5] 25)))
                  clear hno
                  go_wp2_with (refine wpList_appS rfl (.tmp 89) (.tmp 94) rfl w.heap.size (fun b => Value.ownBlock u6 = some b) (.slice a3 L2 c3) ls2 rfl HR9.out.s HR9.out.below.size ⟨y7.heap.size, 0, none⟩ 1 x a5 n5 c5 rfl (by rw [add_at]; simp) HX8.out (by have := HL.out; omega) (fun k hk => (HR9.out.t.base hk).2) ?_
                               intro V10 y10 hr hg hat
                               have HR10 := Lib.hid (HR9.out.putS hg hat hr)
                               clear hr hg hat)
                  try rw [HJ.out.2]
                  go_roundg (n - (j + 1))
                  case measure => have := HK.out; have := HJ.out.1; omega
                  case rel => exact ⟨j + 1, ls2 ++ [x], fs2, rfl, Lib.hid ⟨rfl, HJ.out.1, HR10.out, HP.out.no HGD.out HC.out.1 HC.out.2⟩⟩
              · have h8i : (L2 : Int) < 8 := by omega
                have h100i : ¬ (n5 : Int) < 100 := by omega
                clear h8 h100
                go_wp2_with (fail)
                try rw [HJ.out.2]
                go_roundg (n - (j + 1))
                case measure => have := HK.out; have := HJ.out.1; omega
                case rel => exact ⟨j + 1, ls2, fs2, rfl, Lib.hid ⟨rfl, HJ.out.1, HR.out, HP.out⟩⟩
            · have h8i : ¬ (L2 : Int) < 8 := by omega
              clear h8
              go_wp2_with (fail)
              try rw [HJ.out.2]
              go_roundg (n - (j + 1))
              case measure => have := HK.out; have := HJ.out.1; omega
              case rel => exact ⟨j + 1, ls2, fs2, rfl, Lib.hid ⟨rfl, HJ.out.1, HR.out, HP.out⟩⟩
          · go_wp2_with (fail)
            try rw [HJ.out.2]
            go_roundg (n - (j + 1))
            case measure => have := HK.out; have := HJ.out.1; omega
            case rel => exact ⟨j + 1, ls2, fs2, rfl, Lib.hid ⟨rfl, HJ.out.1, HR.out, HP.out⟩⟩
    · obtain ⟨a4, c4, e4⟩ := HR.out.t.form
      subst e4
      obtain ⟨a', c', e', hbb⟩ := HR.out.s.isBB
      rw [HL.out.1] at e' hbb
      injection e' with e1 _ e2
      subst e1 e2
      obtain ⟨a', c', e', hT4⟩ := HR.out.t.isT
      injection e' with e1 _ e2
      subst e1 e2
      obtain ⟨F, hF⟩ : ∃ F, fs.length = F := ⟨_, rfl⟩
      rw [hF] at hT4 ⊢
      have HBT := Lib.hid (txBatch_pl wr a1 L c1 ls fs HP.out hbb)
      have HUA := Lib.hid (fun y a n c h => txUnbatch_pl y a n c ls fs HP.out h)
      rw [hF] at HUA
      have HF := Lib.hid (show F ≤ 8 by rw [← hF]; exact HL.out.2.2)
      have HT4 := Lib.hid hT4
      have H6 := Lib.hid HR.out.below
      clear hT4 hbb
      go_wp2_with (first
        | (go_at_call 11; (with_reducible refine HBT.out.mono ?_); rintro e y7 ⟨⟨a7, c7, rfl, hB7⟩, hb⟩
           have H7 := Lib.hid (bl H6.out hb)
           have HT7 := Lib.hid (HT4.out.keep (keep_below hb))
           have HB7 := Lib.hid hB7
           clear hb hB7 HBT)
        | (go_at_call 9; (with_reducible refine (HUA.out _ _ _ _ HB7.out).mono ?_); rintro e y8 ⟨⟨G8, K8, a8, c8, a9, c9, rfl, hT8, hE8, hK8⟩, hb⟩
           have H8 := Lib.hid (bl H7.out hb)
           have HT8 := Lib.hid (And.intro hT8 (And.intro hE8 (HT7.out.keep (keep_below hb))))
           have hsum : wrap64 ((K8 : Int) + (F : Int)) = (L : Int) := by have := HL.out; have := HF.out; unfold wrap64; omega
           clear hb hT8 hE8 HUA HB7 hK8)
        | (go_at_call 12; (with_reducible refine (same4_walk _ _ _ _ _ _ _ G8 fs HT8.out.1 HT8.out.2.2 HT8.out.2.1 (by have := HF.out; omega)).mono ?_); rintro e y10 ⟨rfl, hb⟩
           have H10 := Lib.hid (bl H8.out hb)
           clear hb))
      go_ret
      exact ⟨rfl, H10.out⟩
end Rl
end Go.Proofs.Ytkhdamjjbjmeaaa
