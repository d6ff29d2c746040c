/-
  Layer 11: what the document fixes; CommitNil. Written by genCf.py. Own work.
-/
import Derived.Test.YtjfpbponjhpdhaaDoorCe
import Derived.Test.YtjfpbponjhpdhaaDoorCz
namespace Go.Proofs.YtjfpbponjhpdhaaDoor
open Go.RowKit
set_option linter.unusedVariables false
set_option linter.unusedSimpArgs false
namespace Co
open Kc Mk Vm
theorem lf_one : lfX 1 = one5 := by
  funext i
  by_cases h : i < 32
  · have e : ∀ j : Fin 32, lfX 1 j.val = one5 j.val := by decide
    exact e ⟨i, h⟩
  · unfold lfX one5
    rw [if_neg (by omega), if_neg (by omega)]
theorem sib_m0 (M : Mac) (h : ∀ i, i < 8192 → M.mem i = 0) (i : Nat) : sib (mg M) i = Mk.zero := by
  funext k
  rw [mg_m0 M h, sib_noughts]
theorem yes_m0 (M : Mac) (h : ∀ i, i < 8192 → M.mem i = 0) : same32 (fold 5 (lfX 0) (sib (mg M) 5) 13) (Mk.zero 13) = true := (same32_iff _ _).2 fun i _ => by rw [fold_m0 M h]
theorem no_m0 (M : Mac) (h : ∀ i, i < 8192 → M.mem i = 0) : same32 (fold 5 (lfX 1) (sib (mg M) 5) 13) (Mk.zero 13) = false := by
  rw [sib_m0 M h, lf_one]
  cases e : same32 (fold 5 one5 Mk.zero 13) (Mk.zero 13) with
  | false => rfl
  | true => exact absurd ((same32_iff _ _).1 e 0 (by decide)) fold_unlike
theorem same_refl (x : Hx) : same32 x x = true := (same32_iff _ _).2 fun _ _ => rfl
theorem loadPt {w : World} {q : Nat} {x y : Value} (h : Box2 w q 54 x y) : (Instr.loadAt 54 (.pointer (some ⟨q, 0, none⟩))).run Tryd.prog w = .ok (.agg #[x, y]) w := by
  refine run_loadAt_mid w q 0 _ [x, y] _ (fun j v hv => ?_) undPt rfl (by rw [infPt]; rfl)
  obtain ⟨hj, rfl⟩ := List.getElem?_eq_some_iff.1 hv
  simp only [List.length_cons, List.length_nil] at hj
  have e : j = 0 ∨ j = 1 := by omega
  rcases e with rfl | rfl
  · simpa using h.k0
  · simpa using h.k1
set_option maxHeartbeats 2000000 in
set_option maxRecDepth 100000 in
theorem fixed11_walk (w : World) (ht : Laid.KTab w) :
    Calls Tryd.prog 10 #[] w fun e w' => e = .returned (.bool true) ∧ Below w.heap.size w w' := by
  have hl := laid_walk w none none 0 0 0 0 0 0 false (fun _ => (0, 0)) (fun _ => 0) (.inl rfl) (.inl rfl) (by decide) (by decide) 0 0 (by decide) (by decide)
  rw [show ((0 : Nat) : Int) = 0 from rfl] at hl
  have HT := Lib.hid ht
  have hzm : ∀ i, (endM (layR (fun _ => 0) 0 (layC (fun _ => (0, 0)) 0 (loaded 0 fun _ => 0))) 0 0 false).mem i = 0 := fun i => by
    show (if i < 0 then 0 else 0) = 0
    split <;> rfl
  generalize endM (layR (fun _ => 0) 0 (layC (fun _ => (0, 0)) 0 (loaded 0 fun _ => 0))) 0 0 false = M at *
  have HZM := Lib.hid hzm
  have HL := Lib.hid hl
  clear hl ht hzm
  have z2 := zeroHash
  have HBH := Lib.hid (fun u : World => buildH0 u)
  generalize hz : (tab 32 fun _ => bv 0#8) = zh at *
  have HZ := Lib.hid hz
  clear hz
  have HZI : Hid ((Tryd.prog.info? 42).map (·.size) = some zh.size ∧ zh.all (·.oneCell') = true ∧ zh.size = 32) := Lib.hid ⟨by rw [← HZ.out]; exact infH _, by rw [← HZ.out]; exact one_bv _ _, by rw [← HZ.out, tab_size]⟩
  go_enter Tryd.func10, Tryd.ntmps10
  go_upto_region 2 with (go_at_call 20; (with_reducible refine HL.out.mono ?_); rintro e y1 ⟨b, r, qm, qr, he, hla⟩; obtain rfl : e = _ := he; have H1 : Hid (IsMac y1 b M ∧ Below w.heap.size w y1) := Lib.hid ⟨hla.mac, hla.below⟩; clear hla HL)
  have hz := zero_ok 13 (by decide) y1 (ktab_below HT.out H1.out.2)
  rw [show ((13 : Nat) : Int) = 13 from rfl] at hz
  have HZO := Lib.hid hz
  clear hz
  go_upto_region 3 with (first
    | (go_at_call 32; (with_reducible refine HZO.out.mono ?_); rintro e y2 ⟨he, hb⟩; obtain rfl : e = _ := he; have H2 : Hid (IsMac y2 b M ∧ Below w.heap.size w y2) := Lib.hid ⟨H1.out.1.below hb, bl H1.out.2 hb⟩; clear hb HZO)
    | ((with_reducible refine wpList_store_row (P := Tryd.prog) (w := y2.alloc (.cells zh 42)) ?_ 42 (.tmp 3) (.tmp 18) ?_ y2.heap.size (tab 32 fun i => bv (Mk.zero 13 i)) ?_ ?_ 42 zh (heap_alloc_last y2 _) (infH _) ?_ (one_bv _ _) ?_); (· exact rfl); (· exact rfl); (· exact rfl); (· exact rfl); (· rw [HZI.out.2.2, tab_size]); rw [World.setRow_alloc_new]; simp only [Act.put]))
  have H3 : Hid (IsMac (y2.alloc (.cells (tab 32 fun i => bv (Mk.zero 13 i)) 42)) b M ∧ Below w.heap.size w (y2.alloc (.cells (tab 32 fun i => bv (Mk.zero 13 i)) 42)) ∧ IsTab (y2.alloc (.cells (tab 32 fun i => bv (Mk.zero 13 i)) 42)) y2.heap.size 42 32 fun i => bv (Mk.zero 13 i)) := Lib.hid ⟨H2.out.1.below (ba _ _), bl H2.out.2 (ba _ _), IsTab.new y2 _ 32 _⟩
  clear H1 H2
  generalize y2.alloc (.cells (tab 32 fun i => bv (Mk.zero 13 i)) 42) = y3 at *
  generalize y2.heap.size = q3 at *
  have hr := Root_walk y3 b M H3.out.1 (fun i => by rw [HZM.out i]; decide) (ktab_below HT.out H3.out.2.1)
  rw [root_m0 M fun i _ => HZM.out i] at hr
  have HRO := Lib.hid hr
  clear hr
  go_upto_region 6 with (first
    | (go_at_call 12; (with_reducible refine HRO.out.mono ?_); rintro e y4 ⟨he, hb⟩; obtain rfl : e = _ := he; have H4 : Hid (IsMac y4 b M ∧ Below w.heap.size w y4 ∧ IsTab y4 q3 42 32 fun i => bv (Mk.zero 13 i)) := Lib.hid ⟨H3.out.1.below hb, bl H3.out.2.1 hb, H3.out.2.2.below hb⟩; clear hb HRO)
    | ((with_reducible refine wpList_store_row (P := Tryd.prog) (w := y4.alloc (.cells zh 42)) ?_ 42 (.tmp 5) (.tmp 29) ?_ y4.heap.size (tab 32 fun i => bv (Mk.zero 13 i)) ?_ ?_ 42 zh (heap_alloc_last y4 _) (infH _) ?_ (one_bv _ _) ?_); (· exact rfl); (· exact rfl); (· exact rfl); (· exact rfl); (· rw [HZI.out.2.2, tab_size]); rw [World.setRow_alloc_new]; simp only [Act.put]))
  have H5 : Hid (IsMac (y4.alloc (.cells (tab 32 fun i => bv (Mk.zero 13 i)) 42)) b M ∧ Below w.heap.size w (y4.alloc (.cells (tab 32 fun i => bv (Mk.zero 13 i)) 42)) ∧ (IsTab (y4.alloc (.cells (tab 32 fun i => bv (Mk.zero 13 i)) 42)) q3 42 32 fun i => bv (Mk.zero 13 i)) ∧ IsTab (y4.alloc (.cells (tab 32 fun i => bv (Mk.zero 13 i)) 42)) y4.heap.size 42 32 fun i => bv (Mk.zero 13 i)) := Lib.hid ⟨H4.out.1.below (ba _ _), bl H4.out.2.1 (ba _ _), H4.out.2.2.alloc _, IsTab.new y4 _ 32 _⟩
  clear H3 H4
  generalize y4.alloc (.cells (tab 32 fun i => bv (Mk.zero 13 i)) 42) = y5 at *
  generalize y4.heap.size = q5 at *
  have hp := Prove_ok y5 b 5 M H5.out.1 (fun i => by rw [HZM.out i]; decide) (by decide) (ktab_below HT.out H5.out.2.1)
  rw [HZM.out 5, show ((0 : Nat) : Int) = 0 from rfl, show ((5 : Nat) : Int) = 5 from rfl] at hp
  have HPR := Lib.hid hp
  clear hp
  go_upto_region 7 with (first
    | (go_at_call 18; (with_reducible refine HPR.out.mono ?_); rintro e y6 ⟨a, c, he, hc, hcm, hna, hrow, hb⟩; obtain rfl : e = _ := he; obtain ⟨a9, c9, ev, hsa, _⟩ := hs_of hrow; obtain ⟨rfl, _, rfl⟩ := Value.slice.inj ev; have H6 : Hid (Below w.heap.size w y6 ∧ (IsTab y6 q3 42 32 fun i => bv (Mk.zero 13 i)) ∧ (IsTab y6 q5 42 32 fun i => bv (Mk.zero 13 i)) ∧ IsHs y6 a 13 (sib (mg M) 5) ∧ 13 ≤ c) := Lib.hid ⟨bl H5.out.2.1 hb, H5.out.2.2.1.below hb, H5.out.2.2.2.below hb, hsa, hc⟩; clear hb hc hcm hna hrow hsa HPR)
    | ((with_reducible refine wpList_store_row (P := Tryd.prog) (w := y6.alloc (.cells #[.int .u64 0, .slice none 0 0] 54)) ?_ 54 (.tmp 6) (.tmp 34) ?_ y6.heap.size #[.int .u64 0, .slice a 13 c] ?_ ?_ 54 #[.int .u64 0, .slice none 0 0] (heap_alloc_last y6 _) infPt ?_ rfl ?_); (· exact rfl); (· exact rfl); (· exact rfl); (· exact rfl); (· exact rfl); rw [World.setRow_alloc_new]; simp only [Act.put]))
  clear H5
  have HX6 := Lib.hid (Box2.new y6 54 (.int .u64 0) (.slice a 13 c))
  have HX7 : Hid (Below y6.heap.size y6 (y6.alloc (.cells #[.int .u64 0, .slice a 13 c] 54))) := Lib.hid (ba _ _)
  generalize y6.alloc (.cells #[.int .u64 0, .slice a 13 c] 54) = y7 at *
  have HL3 := Lib.hid (load32h (H6.out.2.1.below HX7.out))
  have HL6 := Lib.hid (loadPt HX6.out)
  have hh := Holds_ok y7 (Mk.zero 13) 5 0 c a (sib (mg M) 5) (H6.out.2.2.2.1.below HX7.out) H6.out.2.2.2.2 (by decide) (by decide) (ktab_below HT.out (bl H6.out.1 HX7.out))
  rw [yes_m0 M fun i _ => HZM.out i, show ((0 : Nat) : Int) = 0 from rfl, show ((5 : Nat) : Int) = 5 from rfl] at hh
  have HH := Lib.hid hh
  clear hh
  go_upto_region 8 with (first
    | ((with_reducible refine wpList_loadE (P := Tryd.prog) (w := y7) (ty := 42) (x := .tmp 3) (p := .pointer (some ⟨q3, 0, none⟩)) (v := dv (Mk.zero 13)) ?_ ?_ ?_ HL3.out ?_); (· exact rfl); (· exact rfl); (· exact rfl))
    | ((with_reducible refine wpList_loadE (P := Tryd.prog) (w := y7) (ty := 54) (x := .tmp 6) (p := .pointer (some ⟨y6.heap.size, 0, none⟩)) (v := .agg #[.int .u64 0, .slice a 13 c]) ?_ ?_ ?_ HL6.out ?_); (· exact rfl); (· exact rfl); (· exact rfl))
    | (go_at_call 35; (refine HH.out.mono ?_); rintro e y8 ⟨he, hb⟩; obtain rfl : e = _ := he; have HX8 : Hid (Box2 y8 y6.heap.size 54 (.int .u64 0) (.slice a 13 c) ∧ Below y6.heap.size y6 y8) := Lib.hid ⟨HX6.out.below hb, bl HX7.out hb⟩; clear hb HH))
  clear HX6 HX7 HL3 HL6
  have k0 := HX8.out.1.k0
  have f0 := HX8.out.1.f 0
  have HX9 : Hid (Box2 (y8.setCell ⟨y6.heap.size, 0, none⟩ (.int .u64 1)) y6.heap.size 54 (.int .u64 1) (.slice a 13 c) ∧ Below y6.heap.size y6 (y8.setCell ⟨y6.heap.size, 0, none⟩ (.int .u64 1))) := Lib.hid ⟨HX8.out.1.p0 _, HX8.out.2.setCell (Nat.le_refl _) _⟩
  go_upto_region 9 with (fail)
  clear k0 f0 HX8
  generalize y8.setCell ⟨y6.heap.size, 0, none⟩ (.int .u64 1) = y9 at *
  have HL3 := Lib.hid (load32h (H6.out.2.1.below HX9.out.2))
  have HL6 := Lib.hid (loadPt HX9.out.1)
  have hh := Holds_ok y9 (Mk.zero 13) 5 1 c a (sib (mg M) 5) (H6.out.2.2.2.1.below HX9.out.2) H6.out.2.2.2.2 (by decide) (by decide) (ktab_below HT.out (bl H6.out.1 HX9.out.2))
  rw [no_m0 M fun i _ => HZM.out i, show ((1 : Nat) : Int) = 1 from rfl, show ((5 : Nat) : Int) = 5 from rfl] at hh
  have HH := Lib.hid hh
  clear hh
  go_upto_region 10 with (first
    | ((with_reducible refine wpList_loadE (P := Tryd.prog) (w := y9) (ty := 42) (x := .tmp 3) (p := .pointer (some ⟨q3, 0, none⟩)) (v := dv (Mk.zero 13)) ?_ ?_ ?_ HL3.out ?_); (· exact rfl); (· exact rfl); (· exact rfl))
    | ((with_reducible refine wpList_loadE (P := Tryd.prog) (w := y9) (ty := 54) (x := .tmp 6) (p := .pointer (some ⟨y6.heap.size, 0, none⟩)) (v := .agg #[.int .u64 1, .slice a 13 c]) ?_ ?_ ?_ HL6.out ?_); (· exact rfl); (· exact rfl); (· exact rfl))
    | (go_at_call 35; (refine HH.out.mono ?_); rintro e y10 ⟨he, hb⟩; obtain rfl : e = _ := he; have HX10 : Hid (Box2 y10 y6.heap.size 54 (.int .u64 1) (.slice a 13 c) ∧ Below y6.heap.size y6 y10) := Lib.hid ⟨HX9.out.1.below hb, bl HX9.out.2 hb⟩; clear hb HH))
  clear HX9 HL3 HL6
  have k1 := HX10.out.1.k1
  have HL3 := Lib.hid (load32h (H6.out.2.1.below HX10.out.2))
  have HL5 := Lib.hid (load32h (H6.out.2.2.1.below HX10.out.2))
  have HBF : Hid (Below w.heap.size w y10) := Lib.hid (bl H6.out.1 HX10.out.2)
  go_wp2_with (first
    | ((with_reducible refine wpList_loadG (P := Tryd.prog) (w := y10) (ty := 42) (x := .tmp 5) (p := .pointer (some ⟨q5, 0, none⟩)) (v := dv (Mk.zero 13)) ?_ ?_ ?_ HL5.out ?_); rotate_left; (· exact rfl); (· exact rfl); rotate_left; (· go_simp))
    | ((with_reducible refine wpList_loadG (P := Tryd.prog) (w := y10) (ty := 42) (x := .tmp 3) (p := .pointer (some ⟨q3, 0, none⟩)) (v := dv (Mk.zero 13)) ?_ ?_ ?_ HL3.out ?_); rotate_left; (· exact rfl); (· exact rfl); rotate_left; (· go_simp))
    | (refine wpList_eqG (by go_simp) (.tmp 52) (.tmp 53) 42 (Mk.zero 13) (Mk.zero 13) rfl rfl rfl ?_; rw [same_refl]))
  exact bodyPost_ret (v := .bool true) (by simp [results, Tryd.results10, go_sem]) rfl ⟨rfl, HBF.out⟩
end Co
end Go.Proofs.YtjfpbponjhpdhaaDoor
