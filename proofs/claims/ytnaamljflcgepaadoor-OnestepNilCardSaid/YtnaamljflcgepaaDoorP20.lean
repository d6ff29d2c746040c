/- Merged of Fg Fh Opn Co. Own work. -/
import Derived.Test.YtnaamljflcgepaaDoorP19
import Derived.Deep.Slices
import Derived.Deep.Fields
import Derived.ChangeSame
import Derived.OpenShut
namespace Go.Proofs.YtnaamljflcgepaaDoor
open Go.RowKit
set_option linter.unusedVariables false
set_option linter.unusedSimpArgs false
namespace Os
open Kc Mk Co
open Vm (Mac IsMac m0)
set_option maxHeartbeats 8000000 in
set_option maxRecDepth 100000 in
theorem prove_by (w : World) (b s : Nat) (M : Mac) (QQ : Option Addr → Nat → Nat → (Nat → Bt) → World → Prop) (hm : IsMac w b M) (hmem : ∀ i, M.mem i < 18446744073709551616) (ht : Laid.KTab w)
    (hadv : ∀ y q qm c, IsHd y q M → IsMm y qm c s (.slice none 0 0) (fun _ => 0#8) → IsMac y c M → Laid.KTab y → Below w.heap.size w y → w.heap.size < q ∧ w.heap.size < qm ∧ w.heap.size < c ∧ q ≠ qm ∧ c ≠ q ∧ c ≠ qm → Calls Tryd.prog 18 #[.pointer (some ⟨q, 0, none⟩), .iface 65 (.pointer (some ⟨qm, 0, none⟩))] y fun e w' => e = .returned .nilIface ∧ ∃ a n cc pre, IsMm w' qm c s (.slice a n cc) pre ∧ QQ a n cc pre w' ∧ Kept (fun k => k = q ∨ k = qm ∨ k = c) y w')
    (hQS : ∀ a n cc pre y y', QQ a n cc pre y → Kept (fun k => k = w.heap.size) y y' → QQ a n cc pre y') :
    Calls Tryd.prog 7 #[.pointer (some ⟨b, 0, none⟩), .pointer (some ⟨s, 0, none⟩)] w fun e w' => ∃ a n cc pre, e = .returned (.tuple #[.agg (tab 116 (stv (mroot M) M (.slice a n cc) pre)), .nilIface]) ∧ QQ a n cc pre w' ∧ Below w.heap.size w w' := by
  have HAV := Lib.hid hadv
  have HQS := Lib.hid hQS
  have HM := Lib.hid (And.intro hm (And.intro hmem ht))
  clear hadv hQS hm hmem ht
  have z81 := zeroSt
  have hzs : (tab 116 (stv (fun _ => 0#8) m0 (.slice none 0 0) fun _ => 0#8)).size = 116 := tab_size _ _
  generalize hz : tab 116 (stv (fun _ => 0#8) m0 (.slice none 0 0) fun _ => 0#8) = zs at *
  have HZS := Lib.hid hzs
  clear hz hzs
  have zHd := zeroHd
  have hzs2 : (tab 19 (Co.hv m0)).size = 19 := tab_size _ _
  generalize hz : (tab 19 (Co.hv m0)) = zd at *
  have HZD := Lib.hid hzs2
  clear hz hzs2
  have z2 := zeroHash
  have HBH := Lib.hid (fun u : World => buildH0 u)
  generalize hz : (tab 32 fun _ => bv 0#8) = zh at *
  have HZ := Lib.hid hz
  clear hz
  have HZI : Hid ((Tryd.prog.info? 31).map (·.size) = some zh.size ∧ zh.all (·.oneCell') = true ∧ zh.size = 32) := Lib.hid ⟨by rw [← HZ.out]; exact infH _, by rw [← HZ.out]; exact one_bv _ _, by rw [← HZ.out, tab_size]⟩
  go_enter Tryd.func7, Tryd.ntmps7
  go_upto_region 1 with (fail)
  have H0 : Hid (IsMac (w.alloc (.cells zs 40)) b M ∧ (w.alloc (.cells zs 40)).heap[w.heap.size]? = some (.cells zs 40 (0, 0)) ∧ Below w.heap.size w (w.alloc (.cells zs 40))) := Lib.hid ⟨HM.out.1.below (ba _ _), heap_alloc_last w _, ba _ _⟩
  generalize w.alloc (.cells zs 40) = y0 at *
  obtain ⟨q4, hq4⟩ : ∃ q4, w.heap.size = q4 := ⟨_, rfl⟩
  have HQ4 := Lib.hid hq4
  have H1 : Hid (IsMac y0 b M ∧ y0.heap[q4]? = some (.cells zs 40 (0, 0)) ∧ Below w.heap.size w y0 ∧ q4 < y0.heap.size) := Lib.hid (by rw [← hq4]; exact ⟨H0.out.1, H0.out.2.1, H0.out.2.2, (Array.getElem?_eq_some_iff.1 H0.out.2.1).1⟩)
  rw [hq4]
  clear H0 hq4
  have HRO := Lib.hid (Root_walk y0 b M H1.out.1 HM.out.2.1 (ktab_below HM.out.2.2 H1.out.2.2.1))
  go_upto_region 4 with (first
    | (go_at_call 15; (with_reducible refine HRO.out.mono ?_); rintro e y1 ⟨he, hb⟩; obtain rfl : e = _ := he; have HB1 := Lib.hid hb; clear hb HRO)
    | ((with_reducible refine wpList_store_row (P := Tryd.prog) (w := y1.alloc (.cells zh 31)) ?_ 31 (.tmp 6) (.tmp 23) ?_ y1.heap.size (tab 32 fun i => bv (mroot M i)) ?_ ?_ 31 zh (heap_alloc_last y1 _) (infH _) ?_ (one_bv _ _) ?_); (· exact rfl); (· exact rfl); (· exact rfl); (· exact rfl); (· rw [HZI.out.2.2, tab_size]); rw [World.setRow_alloc_new]; simp only [Act.put]))
  have H2 : Hid (IsMac (y1.alloc (.cells (tab 32 fun i => bv (mroot M i)) 31)) b M ∧ (y1.alloc (.cells (tab 32 fun i => bv (mroot M i)) 31)).heap[q4]? = some (.cells zs 40 (0, 0)) ∧ Below w.heap.size w (y1.alloc (.cells (tab 32 fun i => bv (mroot M i)) 31)) ∧ (IsTab (y1.alloc (.cells (tab 32 fun i => bv (mroot M i)) 31)) y1.heap.size 31 32 fun i => bv (mroot M i)) ∧ y1.heap.size ≠ q4) := Lib.hid (by
    have hb : Below y0.heap.size y0 (y1.alloc (.cells (tab 32 fun i => bv (mroot M i)) 31)) := bl HB1.out (ba _ _)
    exact ⟨H1.out.1.below hb, (hb.block _ H1.out.2.2.2).trans H1.out.2.1, bl H1.out.2.2.1 hb, IsTab.new y1 _ 32 _, by have := HB1.out.size; have := H1.out.2.2.2; omega⟩)
  clear H1 HB1
  generalize (y1.alloc (.cells (tab 32 fun i => bv (mroot M i)) 31)) = y2 at *
  generalize y1.heap.size = q6 at *
  have HHO := Lib.hid (HeadOf_ok y2 b M H2.out.1)
  go_upto_region 7 with (first
    | (go_at_call 16; (with_reducible refine HHO.out.mono ?_); rintro e y3 ⟨he, hb⟩; obtain rfl : e = _ := he; have HB3 := Lib.hid hb; clear hb HHO)
    | ((with_reducible refine wpList_store_row (P := Tryd.prog) (w := y3.alloc (.cells zd 35)) ?_ 35 (.tmp 8) (.tmp 32) ?_ y3.heap.size (tab 19 (Co.hv M)) ?_ ?_ 35 zd (heap_alloc_last y3 _) (infHd M) ?_ (oneHd M) ?_); (· exact rfl); (· exact rfl); (· exact rfl); (· exact rfl); (· rw [HZD.out, tab_size]); rw [World.setRow_alloc_new]; simp only [Act.put]))
  have H4 : Hid (IsMac (y3.alloc (.cells (tab 19 (Co.hv M)) 35)) b M ∧ (y3.alloc (.cells (tab 19 (Co.hv M)) 35)).heap[q4]? = some (.cells zs 40 (0, 0)) ∧ Below w.heap.size w (y3.alloc (.cells (tab 19 (Co.hv M)) 35)) ∧ (IsTab (y3.alloc (.cells (tab 19 (Co.hv M)) 35)) q6 31 32 fun i => bv (mroot M i)) ∧ q6 ≠ q4 ∧ IsHd (y3.alloc (.cells (tab 19 (Co.hv M)) 35)) y3.heap.size M ∧ y3.heap.size ≠ q4 ∧ q4 < y3.heap.size) := Lib.hid (by
    have hb : Below y2.heap.size y2 (y3.alloc (.cells (tab 19 (Co.hv M)) 35)) := bl HB3.out (ba _ _)
    have z := (Array.getElem?_eq_some_iff.1 H2.out.2.1).1
    exact ⟨H2.out.1.below hb, (hb.block _ z).trans H2.out.2.1, bl H2.out.2.2.1 hb, H2.out.2.2.2.1.below hb, H2.out.2.2.2.2, IsTab.new y3 35 19 (Co.hv M), by have := HB3.out.size; omega, by have := HB3.out.size; omega⟩)
  clear H2 HB3
  generalize y3.alloc (.cells (tab 19 (Co.hv M)) 35) = y4 at *
  generalize y3.heap.size = q8 at *
  have HCP := Lib.hid (Copy_walk y4 b M H4.out.1)
  obtain ⟨cm0, hcm0⟩ : ∃ cm0 : Nat → Array Value, ∀ c, tab 67 (mmv c s (.slice none 0 0) fun _ => 0#8) = cm0 c := ⟨_, fun _ => rfl⟩
  have HCM := Lib.hid hcm0
  have HBM : Hid (∀ (c : Nat) (u : World), (Instr.build 68 #[(0, .pointer (some ⟨c, 0, none⟩)), (1, .pointer (some ⟨s, 0, none⟩))]).run Tryd.prog u = .ok (.agg (cm0 c)) u) := Lib.hid (fun c u => hcm0 c ▸ buildMm c s u)
  clear hcm0
  go_upto_region 10 with (first
    | (go_at_call 17; (with_reducible refine HCP.out.mono ?_); rintro e y5 ⟨c, he, hmc, hcl, hb⟩; obtain rfl : e = _ := he; have H5 := Lib.hid (And.intro hmc (And.intro hcl hb)); clear hb hmc hcl HCP)
    | ((with_reducible refine wpList_buildE (P := Tryd.prog) (w := y5) ?_ 68 #[(0, .tmp 39), (1, .tmp 40)] ?_ #[(0, .pointer (some ⟨c, 0, none⟩)), (1, .pointer (some ⟨s, 0, none⟩))] ?_ (.agg (cm0 c)) (HBM.out c y5) ?_); (· exact rfl); (· exact rfl); (· simp [go_sem])))
  have H6 : Hid ((y5.alloc (.cells (cm0 c) 68)).heap[q4]? = some (.cells zs 40 (0, 0)) ∧ Below w.heap.size w (y5.alloc (.cells (cm0 c) 68)) ∧ (IsTab (y5.alloc (.cells (cm0 c) 68)) q6 31 32 fun i => bv (mroot M i)) ∧ IsHd (y5.alloc (.cells (cm0 c) 68)) q8 M ∧ IsMac (y5.alloc (.cells (cm0 c) 68)) c M ∧ IsMm (y5.alloc (.cells (cm0 c) 68)) y5.heap.size c s (.slice none 0 0) (fun _ => 0#8) ∧ (q4 < c ∧ q4 < y5.heap.size ∧ c < y5.heap.size) ∧ (q6 ≠ y5.heap.size ∧ q8 ≠ y5.heap.size ∧ c ≠ q6 ∧ c ≠ q8) ∧ q4 < (y5.alloc (.cells (cm0 c) 68)).heap.size) := Lib.hid (by
    have hb : Below y4.heap.size y4 (y5.alloc (.cells (cm0 c) 68)) := bl H5.out.2.2 (ba _ _)
    have z := (Array.getElem?_eq_some_iff.1 H4.out.2.1).1
    have z2 := H5.out.2.2.size
    have z3 := H5.out.1.lt
    have z4 := IsTab.lt H4.out.2.2.2.1
    have z5 := IsTab.lt H4.out.2.2.2.2.2.1
    have z6 := H5.out.2.1
    refine ⟨(hb.block _ z).trans H4.out.2.1, bl H4.out.2.2.1 hb, H4.out.2.2.2.1.below hb, H4.out.2.2.2.2.2.1.below hb, H5.out.1.below (ba _ _), ?_, ⟨by omega, by omega, z3⟩, ⟨by omega, by omega, by omega, by omega⟩, by simp; omega⟩
    rw [← HCM.out c]
    exact IsTab.new y5 68 67 _)
  have HC6 : Hid (c ≠ q6 ∧ c ≠ q8 ∧ q4 ≠ c) := Lib.hid (by have h1 := H6.out.2.2.2.2.2.2.2.1; have h2 := H6.out.2.2.2.2.2.2.1; omega)
  have HN4 : Hid (q6 ≠ q4 ∧ q8 ≠ q4) := Lib.hid ⟨H4.out.2.2.2.2.1, H4.out.2.2.2.2.2.2.1⟩
  clear H4 H5 HBM
  generalize y5.alloc (.cells (cm0 c) 68) = y6 at *
  generalize y5.heap.size = q9 at *
  have HL8 := Lib.hid (loadHd H6.out.2.2.2.1)
  go_upto_region 11 with (first
    | ((with_reducible refine wpList_loadE (P := Tryd.prog) (w := y6) (ty := 35) (x := .tmp 8) (p := .pointer (some ⟨q8, 0, none⟩)) (v := .agg (tab 19 (Co.hv M))) ?_ ?_ ?_ HL8.out ?_); (· exact rfl); (· exact rfl); (· exact rfl))
    | ((with_reducible refine wpList_store_row (P := Tryd.prog) (w := y6.alloc (.cells zd 35)) ?_ 35 (.tmp 10) (.tmp 43) ?_ y6.heap.size (tab 19 (Co.hv M)) ?_ ?_ 35 zd (heap_alloc_last y6 _) (infHd M) ?_ (oneHd M) ?_); (· exact rfl); (· exact rfl); (· exact rfl); (· exact rfl); (· rw [HZD.out, tab_size]); rw [World.setRow_alloc_new]; simp only [Act.put]))
  have H7 : Hid ((y6.alloc (.cells (tab 19 (Co.hv M)) 35)).heap[q4]? = some (.cells zs 40 (0, 0)) ∧ Below w.heap.size w (y6.alloc (.cells (tab 19 (Co.hv M)) 35)) ∧ (IsTab (y6.alloc (.cells (tab 19 (Co.hv M)) 35)) q6 31 32 fun i => bv (mroot M i)) ∧ IsHd (y6.alloc (.cells (tab 19 (Co.hv M)) 35)) q8 M ∧ IsMac (y6.alloc (.cells (tab 19 (Co.hv M)) 35)) c M ∧ IsMm (y6.alloc (.cells (tab 19 (Co.hv M)) 35)) q9 c s (.slice none 0 0) (fun _ => 0#8) ∧ IsHd (y6.alloc (.cells (tab 19 (Co.hv M)) 35)) y6.heap.size M ∧ (w.heap.size < y6.heap.size ∧ w.heap.size < q9 ∧ w.heap.size < c ∧ y6.heap.size ≠ q9 ∧ c ≠ y6.heap.size ∧ c ≠ q9) ∧ (q6 ≠ y6.heap.size ∧ q8 ≠ y6.heap.size ∧ q6 ≠ q9 ∧ q8 ≠ q9)) := Lib.hid (by
    have hb := ba y6 (.cells (tab 19 (Co.hv M)) 35)
    have e := HQ4.out
    have z1 := IsTab.lt H6.out.2.2.1
    have z2 := IsTab.lt H6.out.2.2.2.1
    have z3 := H6.out.2.2.2.2.1.lt
    have z4 := IsTab.lt H6.out.2.2.2.2.2.1
    have z5 := H6.out.2.2.2.2.2.2.1
    have z6 := H6.out.2.2.2.2.2.2.2.1
    have z7 := H6.out.2.2.2.2.2.2.2.2
    exact ⟨(hb.block _ z7).trans H6.out.1, bl H6.out.2.1 hb, H6.out.2.2.1.below hb, H6.out.2.2.2.1.below hb, H6.out.2.2.2.2.1.below hb, IsTab.below H6.out.2.2.2.2.2.1 hb, IsTab.new y6 35 19 (Co.hv M), ⟨by omega, by omega, by omega, by omega, by omega, by omega⟩, by omega, by omega, z6.1, z6.2.1⟩)
  clear H6 HL8
  generalize y6.alloc (.cells (tab 19 (Co.hv M)) 35) = y7 at *
  generalize y6.heap.size = q10 at *
  have HAD := Lib.hid (HAV.out y7 q10 q9 c H7.out.2.2.2.2.2.2.1 H7.out.2.2.2.2.2.1 H7.out.2.2.2.2.1 (ktab_below HM.out.2.2 H7.out.2.1) H7.out.2.1 H7.out.2.2.2.2.2.2.2.1)
  go_upto_region 14 with (go_at_call 18; (with_reducible refine HAD.out.mono ?_); rintro e y8 ⟨he, a, n, cc, pre, hmm, hqq, hk⟩; obtain rfl : e = _ := he; have H8 := Lib.hid (And.intro hmm (And.intro hqq hk)); clear hmm hqq hk HAD)
  have H9 : Hid ((IsTab y8.drew q6 31 32 fun i => bv (mroot M i)) ∧ IsHd y8.drew q8 M ∧ IsMm y8.drew q9 c s (.slice a n cc) pre ∧ y8.drew.heap[q4]? = some (.cells zs 40 (0, 0)) ∧ QQ a n cc pre y8.drew ∧ Below w.heap.size w y8.drew) := Lib.hid (by
    have hk := H8.out.2.2
    have e := HQ4.out
    have g := H7.out
    have n := g.2.2.2.2.2.2.2.1
    have m := g.2.2.2.2.2.2.2.2
    have z4 := (Array.getElem?_eq_some_iff.1 g.1).1
    have c6 := HC6.out
    refine ⟨(hk.block _ (IsTab.lt g.2.2.1) ?_).trans g.2.2.1, IsTab.drew (IsHd.kept g.2.2.2.1 hk ?_), IsTab.drew H8.out.1, (hk.block _ z4 ?_).trans g.1, HQS.out _ _ _ _ _ _ H8.out.2.1 (Kept.ofBelow (S := fun k => k = w.heap.size) (Below.refl y8.heap.size y8).drew), (Wt.below_of g.2.1 hk fun j _ hj => ?_).drew⟩
    · rintro (h | h | h) <;> omega
    · rintro (h | h | h) <;> omega
    · rintro (h | h | h) <;> omega
    · rcases hj with h | h | h <;> omega)
  have HNE : Hid (q6 ≠ q4 ∧ q8 ≠ q4 ∧ q9 ≠ q4) := Lib.hid ⟨HN4.out.1, HN4.out.2, by have := H7.out.2.2.2.2.2.2.2.1; have := HQ4.out; omega⟩
  clear H7 H8 HC6 HN4 HAV
  refine wp_region_og (fun z : World => (IsTab z q6 31 32 fun i => bv (mroot M i)) ∧ IsHd z q8 M ∧ IsMm z q9 c s (.slice a n cc) pre) (.take 0 (.take 1 (.take 2 (.take 3 (.take 4 (.take 5 (.take 6 (.take 7 (.take 8 (.take 9 (.take 10 (.one 11 (.take 12 .done))))))))))))) (by kernel_rfl) (by kernel_rfl) (⟨H9.out.1, H9.out.2.1, H9.out.2.2.1⟩) ?_
  generalize y8.drew = z0 at *
  refine og_ld (some 51) 31 (.tmp 6) (.pointer (some ⟨q6, 0, none⟩)) (dv (mroot M)) rfl rfl (by go_simp) rfl rfl (fun y hy => load32h hy.1) ?_
  simp only [Act.put, pS]
  refine og_ld (some 52) 35 (.tmp 8) (.pointer (some ⟨q8, 0, none⟩)) (.agg (tab 19 (Co.hv M))) rfl rfl (by go_simp) rfl rfl (fun y hy => loadHd hy.2.1) ?_
  simp only [Act.put, pS]
  refine og_tk (some 53) (.pointer (some ⟨q9, 0, none⟩)) rfl rfl (by go_simp) (fun _ _ => by simp [execOp, go_sem]) ?_
  simp only [Act.put, pS]
  refine og_tk (some 54) (.pointer (some ⟨q9, 0, none⟩)) rfl rfl (by go_simp) (fun _ _ => by simp [execOp, go_sem]) ?_
  simp only [Act.put, pS]
  refine og_tk (some 55) (.pointer (some ⟨q9, 2, none⟩)) rfl rfl (by go_simp) (fun _ _ => by simp [execOp, go_sem]) ?_
  simp only [Act.put, pS]
  refine og_ld (some 56) 36 (.tmp 55) (.pointer (some ⟨q9, 2, none⟩)) (.slice a n cc) rfl rfl (by go_simp) rfl rfl (fun y hy => by have h := IsMm.k2 hy.2.2; simp [Instr.loadAt, go_sem, h, Tryd.underlying36]) ?_
  simp only [Act.put, pS]
  refine og_tk (some 57) (.pointer (some ⟨q9, 0, none⟩)) rfl rfl (by go_simp) (fun _ _ => by simp [execOp, go_sem]) ?_
  simp only [Act.put, pS]
  refine og_tk (some 58) (.pointer (some ⟨q9, 0, none⟩)) rfl rfl (by go_simp) (fun _ _ => by simp [execOp, go_sem]) ?_
  simp only [Act.put, pS]
  refine og_tk (some 59) (.pointer (some ⟨q9, 3, none⟩)) rfl rfl (by go_simp) (fun _ _ => by simp [execOp, go_sem]) ?_
  simp only [Act.put, pS]
  refine og_ld (some 60) 38 (.tmp 59) (.pointer (some ⟨q9, 3, none⟩)) (.agg (tab 64 fun i => bv (pre i))) rfl rfl (by go_simp) rfl rfl (fun y hy => IsMm.pre hy.2.2) ?_
  simp only [Act.put, pS]
  obtain ⟨cs, hcs⟩ : ∃ cs, tab 116 (stv (mroot M) M (.slice a n cc) pre) = cs := ⟨_, rfl⟩
  have HCS := Lib.hid hcs
  clear hcs
  refine og_tk (some 61) (.agg cs) rfl rfl (by go_simp) (fun y hy => exec_buildE 40 #[(0, .tmp 51), (1, .tmp 52), (2, .tmp 56), (3, .tmp 60)] rfl #[(0, dv (mroot M)), (1, .agg (tab 19 (Co.hv M))), (2, .slice a n cc), (3, .agg (tab 64 fun i => bv (pre i)))] (by simp only [List.map_toArray, List.map_cons, List.map_nil]; rfl) _ (by rw [← HCS.out]; exact buildSt _ _ _ _ _ _ y)) ?_
  try simp only [List.getElem_toArray, List.getElem_cons_succ, List.getElem_cons_zero, Act.put, pS]
  have hz4 : z0.heap[q4]? = some (.cells zs 40 (0, 0)) := H9.out.2.2.2.1
  have HIZ : Hid ((Tryd.prog.info? 40).map (·.size) = some cs.size ∧ cs.size = 116 ∧ cs.all (·.oneCell') = true) := Lib.hid ⟨by rw [← HCS.out]; exact infSt _, by rw [← HCS.out, tab_size], by rw [← HCS.out]; exact oneSt _ _ _ _ _ _⟩
  refine og_f rfl (by go_simp) fun K hK => ?_
  simp only [List.getElem_toArray, List.getElem_cons_succ, List.getElem_cons_zero]
  with_reducible refine wp_store_row 40 (.tmp 4) (.tmp 61) ?_ q4 cs ?_ ?_ 40 zs hz4 HIZ.out.1 ?_ HIZ.out.2.2 ?_
  · exact rfl
  · exact rfl
  · exact rfl
  · rw [HIZ.out.2.1]; exact HZS.out
  have HF : Hid ((z0.setRow q4 cs).heap[q4]? = some (.cells cs 40 (0, 0)) ∧ QQ a n cc pre (z0.setRow q4 cs) ∧ Below w.heap.size w (z0.setRow q4 cs)) := Lib.hid ⟨setRow_heap z0 q4 _ _ _ _ H9.out.2.2.2.1, HQS.out _ _ _ _ _ _ H9.out.2.2.2.2.1 (by
      refine ⟨by simp, by simp, by simp, by simp, fun k hk hn => setRow_other z0 q4 k _ (by intro e; exact hn (by rw [e]; exact HQ4.out.symm))⟩), below_setRow H9.out.2.2.2.2.2 (by rw [← HQ4.out]; exact Nat.le_refl _) _⟩
  refine hK _ _ ⟨IsTab.rowOther H9.out.1 HNE.out.1, IsTab.rowOther H9.out.2.1 HNE.out.2.1, IsTab.rowOther H9.out.2.2.1 HNE.out.2.2⟩ ?_
  clear hK K hz4 H9
  try simp only [List.getElem_toArray, List.getElem_cons_succ, List.getElem_cons_zero, Act.put, pS]
  refine og_tk (some 5) (.nilIface) rfl rfl (by go_simp) (fun _ _ => by simp [execOp, go_sem]) ?_
  simp only [Act.put, pS]
  refine og_done (NoPanic.normal ?_)
  generalize z0.setRow q4 cs = z1 at *
  go_wp2_with (fail)
  exact bodyPost_ret (Kc.results_cell_tmp rfl _ _ q4 40 _ (0, 0) _ rfl HF.out.1 undSt rfl HIZ.out.1 .nilIface rfl) rfl ⟨a, n, cc, pre, by rw [HCS.out], HF.out.2.1, HF.out.2.2⟩
end Os
end Go.Proofs.YtnaamljflcgepaaDoor
namespace Go.Proofs.YtnaamljflcgepaaDoor
open Go.RowKit
set_option linter.unusedVariables false
set_option linter.unusedSimpArgs false
namespace Os
open Kc Mk Co
open Vm (Mac IsMac m0)
def IsSt (w : World) (q : Nat) (R : Hx) (M : Mac) (V : Value) (pre : Nat → Bt) : Prop := IsTab w q 40 116 (stv R M V pre)
theorem IsSt.root {w : World} {q : Nat} {R : Hx} {M : Mac} {V : Value} {pre : Nat → Bt} (h : IsSt w q R M V pre) : (Instr.loadAt 31 (.pointer (some ⟨q, 0, none⟩))).run Tryd.prog w = .ok (dv R) w := by
  refine run_loadAt_mid w q 0 _ ((List.range 32).map fun i => bv (R i)) _ (fun j v hv => ?_) undH rfl (by rw [List.length_map, List.length_range]; exact (infH (fun _ => .nilIface)).trans (by rw [tab_size]))
  obtain ⟨hj, rfl⟩ := List.getElem?_eq_some_iff.1 hv
  simp only [List.length_map, List.length_range] at hj
  have := IsTab.cell h j (by omega)
  unfold stv at this
  rw [if_pos hj] at this
  simpa using this
theorem IsSt.head {w : World} {q : Nat} {R : Hx} {M : Mac} {V : Value} {pre : Nat → Bt} (h : IsSt w q R M V pre) : (Instr.loadAt 35 (.pointer (some ⟨q, 32, none⟩))).run Tryd.prog w = .ok (.agg (tab 19 (Co.hv M))) w := by
  refine run_loadAt_mid w q 32 _ ((List.range 19).map (Co.hv M)) _ (fun j v hv => ?_) undHd rfl (by rw [List.length_map, List.length_range]; exact infHd')
  obtain ⟨hj, rfl⟩ := List.getElem?_eq_some_iff.1 hv
  simp only [List.length_map, List.length_range] at hj
  have := IsTab.cell h (32 + j) (by omega)
  unfold stv at this
  rw [if_neg (by omega), if_pos (by omega), show 32 + j - 32 = j from by omega] at this
  simpa using this
theorem IsSt.k51 {w : World} {q : Nat} {R : Hx} {M : Mac} {V : Value} {pre : Nat → Bt} (h : IsSt w q R M V pre) : w.cell? ⟨q, 51, none⟩ = some V := IsTab.cell h 51 (by decide)
theorem IsSt.pre {w : World} {q : Nat} {R : Hx} {M : Mac} {V : Value} {pre : Nat → Bt} (h : IsSt w q R M V pre) : (Instr.loadAt 38 (.pointer (some ⟨q, 52, none⟩))).run Tryd.prog w = .ok (.agg (tab 64 fun i => bv (pre i))) w := loadPreA h (by decide) fun i hi => by
  unfold stv
  rw [if_neg (by omega), if_neg (by omega), if_neg (by omega), show 52 + i - 52 = i from by omega]
theorem buildPm (R : Hx) (a : Option Addr) (n c : Nat) (pre : Nat → Bt) (w : World) : (Instr.build 74 #[(0, dv R), (1, .slice a n c), (2, .agg (tab 64 fun i => bv (pre i)))]).run Tryd.prog w = .ok (.agg (tab 97 (pmv R (.slice a n c) pre))) w := by kernel_rfl
theorem neq32 (a b : Hx) (w : World) : (binOp .neq 31 (dv a) (dv b)).run Tryd.prog w = .ok (.bool (!same32 a b)) w :=
  run_neq_tab w _ _ 32 .u8 (by kernel_rfl) undU8 sizeU8 _ _
theorem exec_neq32 {o : Oper} {ev : Operand → Value} {u : World} (x y : Operand) (yt : TypeId) (a b : Hx) (ho : o.op = .binOp .neq 31 x y yt) (hx : ev x = dv a) (hy : ev y = dv b) : (execOp ev o).run Tryd.prog u = .ok (.value (.bool (!same32 a b))) u := by
  unfold execOp
  simp only [ho, hx, hy, Sem.run_bind, Sem.run_pure, Result.andThen_ok, guardN, neq32]
set_option maxHeartbeats 8000000 in
set_option maxRecDepth 100000 in
theorem verify_no (w : World) (D R : Hx) (M : Mac) (a : Option Addr) (n c : Nat) (pre : Nat → Bt) (hok : OkW M) (ht : Laid.KTab w) (hD : same32 (pr R (hdX M)) D = false) :
    Calls Tryd.prog 9 #[dv D, .agg (tab 116 (stv R M (.slice a n c) pre))] w fun e w' => e = .returned (.tuple #[dv (fun _ => 0#8), .iface 49 (.int .i64 31)]) ∧ Below w.heap.size w w' := by
  have HOK := Lib.hid hok
  have HT := Lib.hid ht
  have HSM := Lib.hid hD
  clear hok ht hD
  have z2 := zeroHash
  have HBH := Lib.hid (fun u : World => buildH0 u)
  generalize hz : (tab 32 fun _ => bv 0#8) = zh at *
  have HZ := Lib.hid hz
  clear hz
  have HZI : Hid ((Tryd.prog.info? 31).map (·.size) = some zh.size ∧ zh.all (·.oneCell') = true ∧ zh.size = 32) := Lib.hid ⟨by rw [← HZ.out]; exact infH _, by rw [← HZ.out]; exact one_bv _ _, by rw [← HZ.out, tab_size]⟩
  obtain ⟨sv, hsv⟩ : ∃ sv, (tab 116 (stv R M (.slice a n c) pre)) = sv := ⟨_, rfl⟩
  have HSV := Lib.hid hsv
  rw [hsv]
  clear hsv
  unfold dv
  obtain ⟨dh, hdh⟩ : ∃ dh, (tab 32 fun i => bv (D i)) = dh := ⟨_, rfl⟩
  have HDH := Lib.hid hdh
  rw [hdh]
  clear hdh
  have HA : Hid ((IsTab (((w.alloc (.cells dh 31)).alloc (.cells sv 40)).alloc (.cells zh 31)).drew w.heap.size 31 32 fun i => bv (D i)) ∧ IsSt (((w.alloc (.cells dh 31)).alloc (.cells sv 40)).alloc (.cells zh 31)).drew (w.heap.size + 1) R M (.slice a n c) pre ∧ IsTab (((w.alloc (.cells dh 31)).alloc (.cells sv 40)).alloc (.cells zh 31)).drew (w.heap.size + 2) 31 32 (fun _ => bv 0#8) ∧ Below w.heap.size w (((w.alloc (.cells dh 31)).alloc (.cells sv 40)).alloc (.cells zh 31)).drew ∧ (w.heap.size ≤ w.heap.size + 2 ∧ w.heap.size + 2 < (((w.alloc (.cells dh 31)).alloc (.cells sv 40)).alloc (.cells zh 31)).drew.heap.size)) := Lib.hid (by
    have e1 : (w.alloc (.cells dh 31)).heap.size = w.heap.size + 1 := by simp
    have e2 : ((w.alloc (.cells dh 31)).alloc (.cells sv 40)).heap.size = w.heap.size + 2 := by simp
    refine ⟨(((?_ : IsTab (w.alloc (.cells dh 31)) w.heap.size 31 32 fun i => bv (D i)).alloc _).alloc _).drew, IsTab.drew (IsTab.alloc ?_ _), IsTab.drew ?_, ((((Below.refl _ _).alloc (Nat.le_refl _) _).alloc (by simp) _).alloc (by simp; omega) _).drew, by omega, by show _ < (((w.alloc (.cells dh 31)).alloc (.cells sv 40)).alloc (.cells zh 31)).heap.size; simp⟩
    · rw [← HDH.out]; exact IsTab.new w 31 32 _
    · have h := IsTab.new (w.alloc (.cells dh 31)) 40 116 (stv R M (.slice a n c) pre)
      rw [e1, HSV.out] at h; exact h
    · have h := put_new ((w.alloc (.cells dh 31)).alloc (.cells sv 40)) (fun _ => 0#8) zh HZ.out
      rw [e2] at h; exact h)
  go_enter Tryd.func9, Tryd.ntmps9
  go_upto_region 1 with (fail)
  generalize ((w.alloc (.cells dh 31)).alloc (.cells sv 40)).alloc (.cells zh 31) = y0 at *
  obtain ⟨q4, hq4⟩ : ∃ q4, w.heap.size + 2 = q4 := ⟨_, rfl⟩
  obtain ⟨q3, hq3⟩ : ∃ q3, w.heap.size + 1 = q3 := ⟨_, rfl⟩
  obtain ⟨q2, hq2⟩ : ∃ q2, w.heap.size = q2 := ⟨_, rfl⟩
  have HQ := Lib.hid (And.intro hq2 (And.intro hq3 hq4))
  have H1 : Hid ((IsTab y0.drew q2 31 32 fun i => bv (D i)) ∧ IsSt y0.drew q3 R M (.slice a n c) pre ∧ IsTab y0.drew q4 31 32 (fun _ => bv 0#8) ∧ Below w.heap.size w y0.drew ∧ (w.heap.size ≤ q4 ∧ q4 < y0.drew.heap.size)) := Lib.hid (by
    obtain ⟨g1, g2, g3, g4, g5⟩ := HA.out
    rw [hq2] at g1
    rw [hq3] at g2
    rw [hq4] at g3 g5
    exact ⟨g1, g2, g3, g4, g5⟩)
  rw [hq4, hq3, hq2]
  clear HA hq4 hq3 hq2
  refine wp_region_og (fun z : World => (IsTab z q2 31 32 fun i => bv (D i)) ∧ IsSt z q3 R M (.slice a n c) pre) (.take 0 (.take 1 (.take 2 (.take 3 (.take 5 (.one 4 (.take 6 .done))))))) (by kernel_rfl) (by kernel_rfl) (⟨H1.out.1, H1.out.2.1⟩) ?_
  generalize y0.drew = z0 at *
  refine og_tk (some 9) (.pointer (some ⟨q3, 0, none⟩)) rfl rfl (by go_simp) (fun _ _ => by simp [execOp, go_sem]) ?_
  simp only [Act.put, pS]
  refine og_ld (some 10) 31 (.tmp 9) (.pointer (some ⟨q3, 0, none⟩)) (dv R) rfl rfl (by go_simp) rfl rfl (fun y hy => IsSt.root hy.2) ?_
  simp only [Act.put, pS]
  refine og_tk (some 11) (.pointer (some ⟨q3, 32, none⟩)) rfl rfl (by go_simp) (fun _ _ => by simp [execOp, go_sem]) ?_
  simp only [Act.put, pS]
  refine og_ld (some 12) 35 (.tmp 11) (.pointer (some ⟨q3, 32, none⟩)) (.agg (tab 19 (Co.hv M))) rfl rfl (by go_simp) rfl rfl (fun y hy => IsSt.head hy.2) ?_
  simp only [Act.put, pS]
  refine og_ld (some 14) 31 (.tmp 2) (.pointer (some ⟨q2, 0, none⟩)) (dv D) rfl rfl (by go_simp) rfl rfl (fun y hy => load32h hy.1) ?_
  simp only [Act.put, pS]
  have HJ := Lib.hid (join_walk z0 R M HOK.out (ktab_below HT.out H1.out.2.2.2.1))
  refine og_f rfl (by go_simp) fun K hK => ?_
  go_simp
  refine HJ.out.mono ?_
  rintro e z1 ⟨he, hb⟩
  obtain rfl : e = _ := he
  have H2 : Hid ((IsTab z1 q2 31 32 fun i => bv (D i)) ∧ IsSt z1 q3 R M (.slice a n c) pre ∧ IsTab z1 q4 31 32 (fun _ => bv 0#8) ∧ Below w.heap.size w z1 ∧ (w.heap.size ≤ q4 ∧ q4 < z1.heap.size)) := Lib.hid ⟨H1.out.1.below hb, IsTab.below H1.out.2.1 hb, H1.out.2.2.1.below hb, bl H1.out.2.2.2.1 hb, H1.out.2.2.2.2.1, by have := hb.size; have := H1.out.2.2.2.2.2; omega⟩
  refine hK _ _ ⟨H2.out.1, H2.out.2.1⟩ ?_
  clear hK K hb HJ H1
  try simp only [List.getElem_toArray, List.getElem_cons_succ, List.getElem_cons_zero, Act.put, pS]
  refine og_tk (some 15) (.bool true) rfl rfl (by go_simp) (fun y hy => (exec_neq32 (.tmp 13) (.tmp 14) 31 (pr R (hdX M)) D rfl rfl rfl).trans (by rw [HSM.out]; rfl)) ?_
  simp only [Act.put, pS]
  refine og_done (NoPanic.normal ?_)
  go_wp2_with (first
    | ((with_reducible refine Wt.wpList_buildM (P := Tryd.prog) (w := z1) ?_ 31 ?_ (.agg zh) (HBH.out z1) ?_); (· exact rfl); (· exact rfl))
    | ((with_reducible refine wpList_store_row (P := Tryd.prog) (w := z1) ?_ 31 (.tmp 4) (.tmp 16) ?_ q4 (zh) ?_ ?_ 31 (tab 32 fun _ => bv 0#8) ?_ HZI.out.1 ?_ HZI.out.2.1 ?_); (· exact rfl); (· exact rfl); (· exact rfl); (· exact rfl); (· exact H2.out.2.2.1); (· rw [tab_size, HZI.out.2.2])))
  have hr : IsTab (World.setRow z1 q4 zh) q4 31 32 (fun _ => bv 0#8) := by
    have h : (World.setRow z1 q4 zh).heap[q4]? = some (.cells zh 31 (0, 0)) := setRow_heap z1 q4 _ _ _ _ H2.out.2.2.1
    rw [← HZ.out] at h ⊢
    exact h
  exact bodyPost_ret (Kc.results_cell_tmp rfl _ _ q4 31 _ (0, 0) _ rfl hr undH rfl (infH _) (.iface 49 (.int .i64 31)) rfl) rfl ⟨rfl, below_setRow H2.out.2.2.2.1 H2.out.2.2.2.2.1 _⟩
set_option maxHeartbeats 8000000 in
set_option maxRecDepth 100000 in
theorem verify_by (w : World) (D R : Hx) (M : Mac) (a : Option Addr) (n c : Nat) (pre : Nat → Bt) (hok : OkW M) (ht : Laid.KTab w) (hD : same32 (pr R (hdX M)) D = true) (M' : Mac) (R' : Hx) (hok2 : OkW M')
    (hadv : ∀ y q qm, IsHd y q M → IsPm y qm R (.slice a n c) pre → Laid.KTab y → Below w.heap.size w y → w.heap.size < q ∧ w.heap.size < qm ∧ q ≠ qm → Calls Tryd.prog 18 #[.pointer (some ⟨q, 0, none⟩), .iface 72 (.pointer (some ⟨qm, 0, none⟩))] y fun e w' => e = .returned .nilIface ∧ IsHd w' q M' ∧ (∃ x cc, IsPm w' qm R' (.slice x 0 cc) pre) ∧ Kept (fun k => k = q ∨ k = qm) y w') :
    Calls Tryd.prog 9 #[dv D, .agg (tab 116 (stv R M (.slice a n c) pre))] w fun e w' => e = .returned (.tuple #[dv (pr R' (hdX M')), .nilIface]) ∧ Below w.heap.size w w' := by
  have HAV := Lib.hid hadv
  have HOK2 := Lib.hid hok2
  clear hadv hok2
  have zHd := zeroHd
  have hzs2 : (tab 19 (Co.hv m0)).size = 19 := tab_size _ _
  generalize hz : (tab 19 (Co.hv m0)) = zd at *
  have HZD := Lib.hid hzs2
  clear hz hzs2
  have HOK := Lib.hid hok
  have HT := Lib.hid ht
  have HSM := Lib.hid hD
  clear hok ht hD
  have z2 := zeroHash
  have HBH := Lib.hid (fun u : World => buildH0 u)
  generalize hz : (tab 32 fun _ => bv 0#8) = zh at *
  have HZ := Lib.hid hz
  clear hz
  have HZI : Hid ((Tryd.prog.info? 31).map (·.size) = some zh.size ∧ zh.all (·.oneCell') = true ∧ zh.size = 32) := Lib.hid ⟨by rw [← HZ.out]; exact infH _, by rw [← HZ.out]; exact one_bv _ _, by rw [← HZ.out, tab_size]⟩
  obtain ⟨sv, hsv⟩ : ∃ sv, (tab 116 (stv R M (.slice a n c) pre)) = sv := ⟨_, rfl⟩
  have HSV := Lib.hid hsv
  rw [hsv]
  clear hsv
  unfold dv
  obtain ⟨dh, hdh⟩ : ∃ dh, (tab 32 fun i => bv (D i)) = dh := ⟨_, rfl⟩
  have HDH := Lib.hid hdh
  rw [hdh]
  clear hdh
  have HA : Hid ((IsTab (((w.alloc (.cells dh 31)).alloc (.cells sv 40)).alloc (.cells zh 31)).drew w.heap.size 31 32 fun i => bv (D i)) ∧ IsSt (((w.alloc (.cells dh 31)).alloc (.cells sv 40)).alloc (.cells zh 31)).drew (w.heap.size + 1) R M (.slice a n c) pre ∧ IsTab (((w.alloc (.cells dh 31)).alloc (.cells sv 40)).alloc (.cells zh 31)).drew (w.heap.size + 2) 31 32 (fun _ => bv 0#8) ∧ Below w.heap.size w (((w.alloc (.cells dh 31)).alloc (.cells sv 40)).alloc (.cells zh 31)).drew ∧ (w.heap.size ≤ w.heap.size + 2 ∧ w.heap.size + 2 < (((w.alloc (.cells dh 31)).alloc (.cells sv 40)).alloc (.cells zh 31)).drew.heap.size)) := Lib.hid (by
    have e1 : (w.alloc (.cells dh 31)).heap.size = w.heap.size + 1 := by simp
    have e2 : ((w.alloc (.cells dh 31)).alloc (.cells sv 40)).heap.size = w.heap.size + 2 := by simp
    refine ⟨(((?_ : IsTab (w.alloc (.cells dh 31)) w.heap.size 31 32 fun i => bv (D i)).alloc _).alloc _).drew, IsTab.drew (IsTab.alloc ?_ _), IsTab.drew ?_, ((((Below.refl _ _).alloc (Nat.le_refl _) _).alloc (by simp) _).alloc (by simp; omega) _).drew, by omega, by show _ < (((w.alloc (.cells dh 31)).alloc (.cells sv 40)).alloc (.cells zh 31)).heap.size; simp⟩
    · rw [← HDH.out]; exact IsTab.new w 31 32 _
    · have h := IsTab.new (w.alloc (.cells dh 31)) 40 116 (stv R M (.slice a n c) pre)
      rw [e1, HSV.out] at h; exact h
    · have h := put_new ((w.alloc (.cells dh 31)).alloc (.cells sv 40)) (fun _ => 0#8) zh HZ.out
      rw [e2] at h; exact h)
  go_enter Tryd.func9, Tryd.ntmps9
  go_upto_region 1 with (fail)
  generalize ((w.alloc (.cells dh 31)).alloc (.cells sv 40)).alloc (.cells zh 31) = y0 at *
  obtain ⟨q4, hq4⟩ : ∃ q4, w.heap.size + 2 = q4 := ⟨_, rfl⟩
  obtain ⟨q3, hq3⟩ : ∃ q3, w.heap.size + 1 = q3 := ⟨_, rfl⟩
  obtain ⟨q2, hq2⟩ : ∃ q2, w.heap.size = q2 := ⟨_, rfl⟩
  have HQ := Lib.hid (And.intro hq2 (And.intro hq3 hq4))
  have H1 : Hid ((IsTab y0.drew q2 31 32 fun i => bv (D i)) ∧ IsSt y0.drew q3 R M (.slice a n c) pre ∧ IsTab y0.drew q4 31 32 (fun _ => bv 0#8) ∧ Below w.heap.size w y0.drew ∧ (w.heap.size ≤ q4 ∧ q4 < y0.drew.heap.size)) := Lib.hid (by
    obtain ⟨g1, g2, g3, g4, g5⟩ := HA.out
    rw [hq2] at g1
    rw [hq3] at g2
    rw [hq4] at g3 g5
    exact ⟨g1, g2, g3, g4, g5⟩)
  rw [hq4, hq3, hq2]
  clear HA hq4 hq3 hq2
  refine wp_region_og (fun z : World => (IsTab z q2 31 32 fun i => bv (D i)) ∧ IsSt z q3 R M (.slice a n c) pre) (.take 0 (.take 1 (.take 2 (.take 3 (.take 5 (.one 4 (.take 6 .done))))))) (by kernel_rfl) (by kernel_rfl) (⟨H1.out.1, H1.out.2.1⟩) ?_
  generalize y0.drew = z0 at *
  refine og_tk (some 9) (.pointer (some ⟨q3, 0, none⟩)) rfl rfl (by go_simp) (fun _ _ => by simp [execOp, go_sem]) ?_
  simp only [Act.put, pS]
  refine og_ld (some 10) 31 (.tmp 9) (.pointer (some ⟨q3, 0, none⟩)) (dv R) rfl rfl (by go_simp) rfl rfl (fun y hy => IsSt.root hy.2) ?_
  simp only [Act.put, pS]
  refine og_tk (some 11) (.pointer (some ⟨q3, 32, none⟩)) rfl rfl (by go_simp) (fun _ _ => by simp [execOp, go_sem]) ?_
  simp only [Act.put, pS]
  refine og_ld (some 12) 35 (.tmp 11) (.pointer (some ⟨q3, 32, none⟩)) (.agg (tab 19 (Co.hv M))) rfl rfl (by go_simp) rfl rfl (fun y hy => IsSt.head hy.2) ?_
  simp only [Act.put, pS]
  refine og_ld (some 14) 31 (.tmp 2) (.pointer (some ⟨q2, 0, none⟩)) (dv D) rfl rfl (by go_simp) rfl rfl (fun y hy => load32h hy.1) ?_
  simp only [Act.put, pS]
  have HJ := Lib.hid (join_walk z0 R M HOK.out (ktab_below HT.out H1.out.2.2.2.1))
  refine og_f rfl (by go_simp) fun K hK => ?_
  go_simp
  refine HJ.out.mono ?_
  rintro e z1 ⟨he, hb⟩
  obtain rfl : e = _ := he
  have H2 : Hid ((IsTab z1 q2 31 32 fun i => bv (D i)) ∧ IsSt z1 q3 R M (.slice a n c) pre ∧ IsTab z1 q4 31 32 (fun _ => bv 0#8) ∧ Below w.heap.size w z1 ∧ (w.heap.size ≤ q4 ∧ q4 < z1.heap.size)) := Lib.hid ⟨H1.out.1.below hb, IsTab.below H1.out.2.1 hb, H1.out.2.2.1.below hb, bl H1.out.2.2.2.1 hb, H1.out.2.2.2.2.1, by have := hb.size; have := H1.out.2.2.2.2.2; omega⟩
  refine hK _ _ ⟨H2.out.1, H2.out.2.1⟩ ?_
  clear hK K hb HJ H1
  try simp only [List.getElem_toArray, List.getElem_cons_succ, List.getElem_cons_zero, Act.put, pS]
  refine og_tk (some 15) (.bool false) rfl rfl (by go_simp) (fun y hy => (exec_neq32 (.tmp 13) (.tmp 14) 31 (pr R (hdX M)) D rfl rfl rfl).trans (by rw [HSM.out]; rfl)) ?_
  simp only [Act.put, pS]
  refine og_done (NoPanic.normal ?_)
  have HLR := Lib.hid (IsSt.root H2.out.2.1)
  have HLP := Lib.hid (IsSt.pre H2.out.2.1)
  have k51 := IsSt.k51 H2.out.2.1
  obtain ⟨pm, hpm⟩ : ∃ pm, tab 97 (pmv R (.slice a n c) pre) = pm := ⟨_, rfl⟩
  have HPM := Lib.hid hpm
  have HBP : Hid ((Instr.build 74 #[(0, dv R), (1, .slice a n c), (2, .agg (tab 64 fun i => bv (pre i)))]).run Tryd.prog z1 = .ok (.agg pm) z1) := Lib.hid (hpm ▸ buildPm R a n c pre z1)
  clear hpm
  go_upto_region 4 with (first
    | ((with_reducible refine wpList_loadE (P := Tryd.prog) (w := z1) (ty := 31) (x := .tmp 18) (p := .pointer (some ⟨q3, 0, none⟩)) (v := dv R) ?_ ?_ ?_ HLR.out ?_); (· exact rfl); (· exact rfl); (· exact rfl))
    | ((with_reducible refine wpList_loadE (P := Tryd.prog) (w := z1) (ty := 38) (x := .tmp 22) (p := .pointer (some ⟨q3, 52, none⟩)) (v := .agg (tab 64 fun i => bv (pre i))) ?_ ?_ ?_ HLP.out ?_); (· exact rfl); (· exact rfl); (· exact rfl))
    | ((with_reducible refine wpList_buildE (P := Tryd.prog) (w := z1) ?_ 74 #[(0, .tmp 19), (1, .tmp 21), (2, .tmp 23)] ?_ #[(0, dv R), (1, .slice a n c), (2, .agg (tab 64 fun i => bv (pre i)))] ?_ (.agg pm) HBP.out ?_); (· exact rfl); (· exact rfl); (· simp [go_sem])))
  clear k51 HLR HLP HBP
  have H3 : Hid (IsSt (z1.alloc (.cells pm 74)) q3 R M (.slice a n c) pre ∧ IsTab (z1.alloc (.cells pm 74)) q4 31 32 (fun _ => bv 0#8) ∧ Below w.heap.size w (z1.alloc (.cells pm 74)) ∧ IsPm (z1.alloc (.cells pm 74)) z1.heap.size R (.slice a n c) pre ∧ (w.heap.size ≤ q4 ∧ q4 < z1.heap.size ∧ w.heap.size < z1.heap.size)) := Lib.hid ⟨IsTab.alloc H2.out.2.1 _, IsTab.alloc H2.out.2.2.1 _, bl H2.out.2.2.2.1 (ba _ _), by rw [← HPM.out]; exact IsTab.new z1 74 97 _, H2.out.2.2.2.2.1, H2.out.2.2.2.2.2, by have := H2.out.2.2.2.2; omega⟩
  clear H2
  generalize z1.alloc (.cells pm 74) = y4 at *
  generalize z1.heap.size = q6 at *
  have HLH := Lib.hid (IsSt.head H3.out.1)
  go_upto_region 5 with (first
    | ((with_reducible refine wpList_loadE (P := Tryd.prog) (w := y4) (ty := 35) (x := .tmp 26) (p := .pointer (some ⟨q3, 32, none⟩)) (v := .agg (tab 19 (Co.hv M))) ?_ ?_ ?_ HLH.out ?_); (· exact rfl); (· exact rfl); (· exact rfl))
    | ((with_reducible refine wpList_store_row (P := Tryd.prog) (w := y4.alloc (.cells zd 35)) ?_ 35 (.tmp 7) (.tmp 27) ?_ y4.heap.size (tab 19 (Co.hv M)) ?_ ?_ 35 zd (heap_alloc_last y4 _) (infHd M) ?_ (oneHd M) ?_); (· exact rfl); (· exact rfl); (· exact rfl); (· exact rfl); (· rw [HZD.out, tab_size]); rw [World.setRow_alloc_new]; simp only [Act.put]))
  have H5 : Hid (IsTab (y4.alloc (.cells (tab 19 (Co.hv M)) 35)) q4 31 32 (fun _ => bv 0#8) ∧ Below w.heap.size w (y4.alloc (.cells (tab 19 (Co.hv M)) 35)) ∧ IsPm (y4.alloc (.cells (tab 19 (Co.hv M)) 35)) q6 R (.slice a n c) pre ∧ IsHd (y4.alloc (.cells (tab 19 (Co.hv M)) 35)) y4.heap.size M ∧ (w.heap.size < y4.heap.size ∧ w.heap.size < q6 ∧ y4.heap.size ≠ q6) ∧ (w.heap.size ≤ q4 ∧ q4 ≠ q6 ∧ q4 ≠ y4.heap.size)) := Lib.hid (by
    have z1 := IsTab.lt H3.out.2.2.2.1
    have z2 := H3.out.2.2.2.2
    exact ⟨IsTab.alloc H3.out.2.1 _, bl H3.out.2.2.1 (ba _ _), IsTab.alloc H3.out.2.2.2.1 _, IsTab.new y4 35 19 (Co.hv M), ⟨by omega, by omega, by omega⟩, by omega, by omega, by omega⟩)
  clear H3 HLH
  generalize y4.alloc (.cells (tab 19 (Co.hv M)) 35) = y5 at *
  generalize y4.heap.size = q7 at *
  have HAD := Lib.hid (HAV.out y5 q7 q6 H5.out.2.2.2.1 H5.out.2.2.1 (ktab_below HT.out H5.out.2.1) H5.out.2.1 H5.out.2.2.2.2.1)
  go_upto_region 8 with (go_at_call 18; (with_reducible refine HAD.out.mono ?_); rintro e y6 ⟨he, hhd, ⟨x, cc, hpm2⟩, hk⟩; obtain rfl : e = _ := he; have H6 := Lib.hid (And.intro hhd (And.intro hpm2 hk)); clear hhd hpm2 hk HAD)
  have kV := IsPm.kV H6.out.2.1
  have H7 : Hid (IsHd y6.drew q7 M' ∧ IsPm y6.drew q6 R' (.slice x 0 cc) pre ∧ IsTab y6.drew q4 31 32 (fun _ => bv 0#8) ∧ Below w.heap.size w y6.drew ∧ w.heap.size ≤ q4) := Lib.hid (by
    have g := H5.out
    have hk := H6.out.2.2
    have n := g.2.2.2.2.1
    have m := g.2.2.2.2.2
    refine ⟨IsTab.drew H6.out.1, IsTab.drew H6.out.2.1, IsTab.drew ((hk.block _ (IsTab.lt g.1) ?_).trans g.1), (Wt.below_of g.2.1 hk fun j _ hj => ?_).drew, m.1⟩
    · rintro (h | h) <;> omega
    · rcases hj with h | h <;> omega)
  have HN4 : Hid (q7 ≠ q4 ∧ q6 ≠ q4) := Lib.hid (by have := H5.out.2.2.2.2.2; omega)
  clear H5 H6 HAV
  go_upto_region 10 with (fail)
  clear kV
  refine wp_region_og (fun z : World => IsHd z q7 M' ∧ IsPm z q6 R' (.slice x 0 cc) pre) (.take 0 (.take 1 (.take 2 (.take 3 (.take 4 (.one 5 (.one 6 (.take 7 .done)))))))) (by kernel_rfl) (by kernel_rfl) (⟨H7.out.1, H7.out.2.1⟩) ?_
  generalize y6.drew = z2 at *
  refine og_tk (some 43) (.pointer (some ⟨q6, 0, none⟩)) rfl rfl (by go_simp) (fun _ _ => by simp [execOp, go_sem]) ?_
  simp only [Act.put, pS]
  refine og_tk (some 44) (.pointer (some ⟨q6, 0, none⟩)) rfl rfl (by go_simp) (fun _ _ => by simp [execOp, go_sem]) ?_
  simp only [Act.put, pS]
  refine og_tk (some 45) (.pointer (some ⟨q6, 0, none⟩)) rfl rfl (by go_simp) (fun _ _ => by simp [execOp, go_sem]) ?_
  simp only [Act.put, pS]
  refine og_ld (some 46) 31 (.tmp 45) (.pointer (some ⟨q6, 0, none⟩)) (dv R') rfl rfl (by go_simp) rfl rfl (fun y hy => IsPm.root hy.2) ?_
  simp only [Act.put, pS]
  refine og_ld (some 47) 35 (.tmp 7) (.pointer (some ⟨q7, 0, none⟩)) ((.agg (tab 19 (Co.hv M')))) rfl rfl (by go_simp) rfl rfl (fun y hy => loadHd hy.1) ?_
  simp only [Act.put, pS]
  have HJ := Lib.hid (join_walk z2 R' M' HOK2.out (ktab_below HT.out H7.out.2.2.2.1))
  refine og_f rfl (by go_simp) fun K hK => ?_
  go_simp
  refine HJ.out.mono ?_
  rintro e z3 ⟨he, hb⟩
  obtain rfl : e = _ := he
  have H8 : Hid (IsHd z3 q7 M' ∧ IsPm z3 q6 R' (.slice x 0 cc) pre ∧ IsTab z3 q4 31 32 (fun _ => bv 0#8) ∧ Below w.heap.size w z3 ∧ w.heap.size ≤ q4) := Lib.hid ⟨H7.out.1.below hb, IsTab.below H7.out.2.1 hb, H7.out.2.2.1.below hb, bl H7.out.2.2.2.1 hb, H7.out.2.2.2.2⟩
  refine hK _ _ ⟨H8.out.1, H8.out.2.1⟩ ?_
  clear hK K hb HJ H7
  try simp only [List.getElem_toArray, List.getElem_cons_succ, List.getElem_cons_zero, Act.put, pS]
  obtain ⟨E, hE⟩ : ∃ E, pr R' (hdX M') = E := ⟨_, rfl⟩
  have HEE := Lib.hid hE
  rw [hE]
  clear hE
  refine og_f rfl (by go_simp) fun K hK => ?_
  simp only [List.getElem_toArray, List.getElem_cons_succ, List.getElem_cons_zero]
  have hres : z3.heap[q4]? = some (.cells (tab 32 fun _ => bv 0#8) 31 (0, 0)) := H8.out.2.2.1
  with_reducible refine wp_store_row 31 (.tmp 4) (.tmp 48) ?_ q4 (tab 32 fun i => bv (E i)) ?_ ?_ 31 (tab 32 fun _ => bv 0#8) hres (infH _) ?_ (one_bv _ _) ?_
  · exact rfl
  · exact rfl
  · exact rfl
  · rw [tab_size, tab_size]
  have H9 : Hid (IsTab (z3.setRow q4 (tab 32 fun i => bv (E i))) q4 31 32 (fun i => bv (E i)) ∧ Below w.heap.size w (z3.setRow q4 (tab 32 fun i => bv (E i)))) := Lib.hid ⟨IsTab.row H8.out.2.2.1, below_setRow H8.out.2.2.2.1 H8.out.2.2.2.2 _⟩
  refine hK _ _ ⟨IsTab.rowOther H8.out.1 HN4.out.1, IsTab.rowOther H8.out.2.1 HN4.out.2⟩ ?_
  clear hK K H8
  try simp only [List.getElem_toArray, List.getElem_cons_succ, List.getElem_cons_zero, Act.put, pS]
  refine og_tk (some 5) (.nilIface) rfl rfl (by go_simp) (fun _ _ => by simp [execOp, go_sem]) ?_
  simp only [Act.put, pS]
  refine og_done (NoPanic.normal ?_)
  generalize z3.setRow q4 (tab 32 fun i => bv (E i)) = z4 at *
  go_wp2_with (fail)
  exact bodyPost_ret (Kc.results_cell_tmp rfl _ _ q4 31 _ (0, 0) _ rfl H9.out.1 undH rfl (infH _) .nilIface rfl) rfl ⟨by rw [HEE.out], H9.out.2⟩
end Os
end Go.Proofs.YtnaamljflcgepaaDoor
namespace Go.Proofs.YtnaamljflcgepaaDoor
open Go.ChangeShapes Go.WideShapes Go.Deep Go.RowKit
section
variable {H : Type} {enc : TypeId × Value → H} {P : Program} {w : World} {base : Nat} {spare : Nat → Bool} {held : Bool}
end
end Go.Proofs.YtnaamljflcgepaaDoor
namespace Go.Proofs.YtnaamljflcgepaaDoor
open Go.RowKit Go.ChangeShapes
set_option linter.unusedVariables false
set_option linter.unusedSimpArgs false
namespace Co
open Kc Mk Vm
theorem mg_at (M : Mac) {k : Nat} (h : k < 8192) : mg M k = lfX (M.mem k) := ext_in _ h
theorem own_fold (M : Mac) {i : Nat} (hi : i < 8192) : fold i (lfX (M.mem i)) (sib (mg M) i) 13 = mroot M := by
  have h := fold_own (g := mg M) (i := i) (d := 13) (p := sib (mg M) i) (by omega) (fun _ _ => rfl)
  rw [mg_at M hi] at h; exact h
/-- What the closure's loop keeps. -/
structure Oc (W : World) (x : Nat) (M : Mac) (y : World) : Prop where
  mac : IsMac y x M
  below : Below W.heap.size W y
  ge : W.heap.size ≤ x
theorem Oc.next {W y y' : World} {x : Nat} {M : Mac} (h : Oc W x M y) (hb : Below y.heap.size y y') : Oc W x M y' := ⟨h.mac.below hb, bl h.below hb, h.ge⟩
end Co
end Go.Proofs.YtnaamljflcgepaaDoor
