/- Merged of Fk. Own work. -/
import Derived.Test.YtnaamljflcgepaaDoorP23
namespace Go.Proofs.YtnaamljflcgepaaDoor
open Go.RowKit
set_option linter.unusedVariables false
set_option linter.unusedSimpArgs false
namespace Os
open Kc Mk Co
open Vm (Mac IsMac OkM pOk pOp pA pA_lt loaded load_zero lowB_le')
open Wt (New_walk nw)
/-- The empty machine, halted. -/
def Mt : Mac := { Me with halted := true }
theorem ok_Mt : OkM Mt := ⟨ok_Me.mem, ok_Me.reg, ok_Me.pc, ok_Me.exit⟩
theorem ok_w {M : Mac} (h : OkM M) : OkW M := ⟨h.reg, h.pc, h.exit⟩
set_option maxHeartbeats 2000000 in
set_option maxRecDepth 100000 in
theorem prove_nil1 (w : World) (b : Nat) (v : Value) : ∃ zs : Array Value, zs.size = 116 ∧ zs.all (·.oneCell') = true ∧ (Tryd.prog.info? 40).map (·.size) = some zs.size ∧ (∀ u : World, (zeroValue 40).run Tryd.prog u = .ok (.agg zs) u) ∧ Calls Tryd.prog 7 #[.pointer none, v] w fun e w' => e = .returned (.tuple #[.agg zs, .iface 49 (.int .i64 1)]) ∧ Below w.heap.size w w' := by
  have z81 := zeroSt
  have HB81 := Lib.hid buildSt0
  have hzs : (tab 116 (stv (fun _ => 0#8) Vm.m0 (.slice none 0 0) fun _ => 0#8)).size = 116 := tab_size _ _
  have hone : (tab 116 (stv (fun _ => 0#8) Vm.m0 (.slice none 0 0) fun _ => 0#8)).all (·.oneCell') = true := oneSt _ _ _ _ _ _
  have hinf := infSt (stv (fun _ => 0#8) Vm.m0 (.slice none 0 0) fun _ => 0#8)
  generalize hz : tab 116 (stv (fun _ => 0#8) Vm.m0 (.slice none 0 0) fun _ => 0#8) = zs at *
  have HZS := Lib.hid (And.intro hzs (And.intro hone hinf))
  clear hz hzs hone hinf
  refine ⟨zs, HZS.out.1, HZS.out.2.1, HZS.out.2.2, z81, ?_⟩
  have hA : (w.alloc (.cells zs 40)).heap[w.heap.size]? = some (.cells zs 40 (0, 0)) := heap_alloc_last w _
  have HA := Lib.hid hA
  clear hA
  go_enter Tryd.func7, Tryd.ntmps7
  go_wp2_with (first
    | ((with_reducible refine Wt.wpList_buildM (P := Tryd.prog) (w := w.alloc (.cells zs 40)) ?_ 40 ?_ (.agg zs) (HB81.out _) ?_); (· exact rfl); (· exact rfl))
    | ((with_reducible refine wpList_store_row (P := Tryd.prog) (w := (w.alloc (.cells zs 40))) ?_ 40 (.tmp 4) (.tmp 18) ?_ w.heap.size (zs) ?_ ?_ 40 (zs) ?_ HZS.out.2.2 ?_ HZS.out.2.1 ?_); (· exact rfl); (· exact rfl); (· exact rfl); (· exact rfl); (· exact HA.out); (· exact rfl)))
  have hr : (World.setRow (w.alloc (.cells zs 40)) w.heap.size zs).heap[w.heap.size]? = some (.cells zs 40 (0, 0)) := setRow_heap _ _ _ _ _ _ HA.out
  exact bodyPost_ret (Kc.results_cell_tmp rfl _ _ w.heap.size 40 _ (0, 0) _ rfl hr undSt rfl HZS.out.2.2 (.iface 49 (.int .i64 1)) rfl) rfl ⟨rfl, below_setRow (ba _ _) (Nat.le_refl _) _⟩
set_option maxHeartbeats 2000000 in
set_option maxRecDepth 100000 in
theorem prove_nil2 (w : World) (b : Nat) (v : Value) : ∃ zs : Array Value, zs.size = 116 ∧ zs.all (·.oneCell') = true ∧ (Tryd.prog.info? 40).map (·.size) = some zs.size ∧ (∀ u : World, (zeroValue 40).run Tryd.prog u = .ok (.agg zs) u) ∧ Calls Tryd.prog 7 #[.pointer (some ⟨b, 0, none⟩), .pointer none] w fun e w' => e = .returned (.tuple #[.agg zs, .iface 49 (.int .i64 1)]) ∧ Below w.heap.size w w' := by
  have z81 := zeroSt
  have HB81 := Lib.hid buildSt0
  have hzs : (tab 116 (stv (fun _ => 0#8) Vm.m0 (.slice none 0 0) fun _ => 0#8)).size = 116 := tab_size _ _
  have hone : (tab 116 (stv (fun _ => 0#8) Vm.m0 (.slice none 0 0) fun _ => 0#8)).all (·.oneCell') = true := oneSt _ _ _ _ _ _
  have hinf := infSt (stv (fun _ => 0#8) Vm.m0 (.slice none 0 0) fun _ => 0#8)
  generalize hz : tab 116 (stv (fun _ => 0#8) Vm.m0 (.slice none 0 0) fun _ => 0#8) = zs at *
  have HZS := Lib.hid (And.intro hzs (And.intro hone hinf))
  clear hz hzs hone hinf
  refine ⟨zs, HZS.out.1, HZS.out.2.1, HZS.out.2.2, z81, ?_⟩
  have hA : (w.alloc (.cells zs 40)).heap[w.heap.size]? = some (.cells zs 40 (0, 0)) := heap_alloc_last w _
  have HA := Lib.hid hA
  clear hA
  go_enter Tryd.func7, Tryd.ntmps7
  go_wp2_with (first
    | ((with_reducible refine Wt.wpList_buildM (P := Tryd.prog) (w := w.alloc (.cells zs 40)) ?_ 40 ?_ (.agg zs) (HB81.out _) ?_); (· exact rfl); (· exact rfl))
    | ((with_reducible refine wpList_store_row (P := Tryd.prog) (w := (w.alloc (.cells zs 40))) ?_ 40 (.tmp 4) (.tmp 18) ?_ w.heap.size (zs) ?_ ?_ 40 (zs) ?_ HZS.out.2.2 ?_ HZS.out.2.1 ?_); (· exact rfl); (· exact rfl); (· exact rfl); (· exact rfl); (· exact HA.out); (· exact rfl)))
  have hr : (World.setRow (w.alloc (.cells zs 40)) w.heap.size zs).heap[w.heap.size]? = some (.cells zs 40 (0, 0)) := setRow_heap _ _ _ _ _ _ HA.out
  exact bodyPost_ret (Kc.results_cell_tmp rfl _ _ w.heap.size 40 _ (0, 0) _ rfl hr undSt rfl HZS.out.2.2 (.iface 49 (.int .i64 1)) rfl) rfl ⟨rfl, below_setRow (ba _ _) (Nat.le_refl _) _⟩
set_option maxHeartbeats 2000000 in
set_option maxRecDepth 100000 in
theorem prove_nils (w : World) : ∃ zs : Array Value, zs.size = 116 ∧ zs.all (·.oneCell') = true ∧ (Tryd.prog.info? 40).map (·.size) = some zs.size ∧ (∀ u : World, (zeroValue 40).run Tryd.prog u = .ok (.agg zs) u) ∧ Hid (∀ (u : World) (v : Value), Calls Tryd.prog 7 #[.pointer none, v] u fun e w' => e = .returned (.tuple #[.agg zs, .iface 49 (.int .i64 1)]) ∧ Below u.heap.size u w') ∧ Hid (∀ (u : World) (b : Nat), Calls Tryd.prog 7 #[.pointer (some ⟨b, 0, none⟩), .pointer none] u fun e w' => e = .returned (.tuple #[.agg zs, .iface 49 (.int .i64 1)]) ∧ Below u.heap.size u w') := by
  obtain ⟨zs, hz1, hz2, hz3, z81, _⟩ := prove_nil1 w 0 (.pointer none)
  refine ⟨zs, hz1, hz2, hz3, z81, Lib.hid (fun u v => ?_), Lib.hid (fun u b => ?_)⟩
  · obtain ⟨zt, _, _, _, z9, g⟩ := prove_nil1 u 0 v
    have e : Value.agg zt = .agg zs := by have h1 := z9 u; rw [z81 u] at h1; injection h1 with h1; exact h1.symm
    injection e with e
    rw [← e]; exact g
  · obtain ⟨zt, _, _, _, z9, g⟩ := prove_nil2 u b .nilIface
    have e : Value.agg zt = .agg zs := by have h1 := z9 u; rw [z81 u] at h1; injection h1 with h1; exact h1.symm
    injection e with e
    rw [← e]; exact g
set_option maxHeartbeats 8000000 in
set_option maxRecDepth 100000 in
theorem nil_t1 (w : World) (ht : Laid.KTab w) :
    Calls Tryd.prog 3 #[dv (ofX Mt), .bool true] w fun e w' => e = .returned (.bool true) ∧ Below w.heap.size w w' := by
  have HT := Lib.hid ht
  have HIS1 := Lib.hid (fun y : World => (show Calls Tryd.prog 10 #[.iface 49 (.int .i64 1), .iface 49 (.int .i64 1)] y fun e w' => e = .returned (.bool true) ∧ y = w' from Err.is_num 1 1 y))
  have HIS31 := Lib.hid (fun y : World => (show Calls Tryd.prog 10 #[.iface 49 (.int .i64 31), .iface 49 (.int .i64 31)] y fun e w' => e = .returned (.bool true) ∧ y = w' from Err.is_num 31 31 y))
  obtain ⟨zs, hz1, hz2, hz3, z81, HPN1, HPN2⟩ := prove_nils w
  have HZS := Lib.hid (And.intro hz1 (And.intro hz2 hz3))
  clear ht hz1 hz2 hz3
  have z2 := zeroHash
  have HBH := Lib.hid (fun u : World => buildH0 u)
  generalize hz : (tab 32 fun _ => bv 0#8) = zh at *
  have HZ := Lib.hid hz
  clear hz
  have HZI : Hid ((Tryd.prog.info? 31).map (·.size) = some zh.size ∧ zh.all (·.oneCell') = true ∧ zh.size = 32) := Lib.hid ⟨by rw [← HZ.out]; exact infH _, by rw [← HZ.out]; exact one_bv _ _, by rw [← HZ.out, tab_size]⟩
  obtain ⟨ch, hch⟩ : ∃ ch, (tab 32 fun i => bv ((ofX Mt) i)) = ch := ⟨_, rfl⟩
  have HCH := Lib.hid hch
  have H0 : Hid ((IsTab (w.alloc (.cells ch 22)) w.heap.size 22 32 fun i => bv ((ofX Mt) i)) ∧ Below w.heap.size w (w.alloc (.cells ch 22))) := Lib.hid ⟨by rw [← hch]; exact IsTab.new w 22 32 _, ba _ _⟩
  rw [show dv (ofX Mt) = .agg ch from by rw [← hch]; rfl]
  clear hch
  go_enter Tryd.func3, Tryd.ntmps3
  go_upto_region 1 with (fail)
  generalize w.alloc (.cells ch 22) = y0 at *
  obtain ⟨q2, hq2⟩ : ∃ q2, w.heap.size = q2 := ⟨_, rfl⟩
  have HQ2 := Lib.hid hq2
  have H0 : Hid ((IsTab y0 q2 22 32 fun i => bv ((ofX Mt) i)) ∧ Below w.heap.size w y0) := Lib.hid (by have h := H0.out; rw [← hq2]; exact h)
  rw [hq2]
  clear hq2
  have HL := Lib.hid (load_zero y0 none 0 fun _ => 0)
  go_upto_region 2 with (go_at_call 4; (with_reducible refine HL.out.mono ?_); rintro e y1 ⟨he, hm, hb⟩; obtain rfl : e = _ := he; have H1 : Hid (IsMac y1 y0.heap.size Me ∧ Below w.heap.size w y1 ∧ (IsTab y1 q2 22 32 fun i => bv ((ofX Mt) i)) ∧ w.heap.size ≤ y0.heap.size ∧ q2 < y0.heap.size) := Lib.hid ⟨hm, bl H0.out.2 hb, H0.out.1.below hb, H0.out.2.size, IsTab.lt H0.out.1⟩; clear hm hb HL)
  clear H0
  generalize y0.heap.size = b at *
  have hT1 := ktab_below HT.out H1.out.2.1
  have HN1 := Lib.hid (New_walk y1 hT1 (lowB_le' hT1))
  clear hT1
  go_upto_region 3 with (go_at_call 5; (with_reducible refine HN1.out.mono ?_); rintro e y2 ⟨s, T1, k1, f1, he, hst, hb, hF, hTl, hkt⟩; obtain rfl : e = _ := he; have H2 : Hid (IsMac y2 b Me ∧ Below w.heap.size w y2 ∧ (IsTab y2 q2 22 32 fun i => bv ((ofX Mt) i))) := Lib.hid ⟨H1.out.1.below hb, bl H1.out.2.1 hb, H1.out.2.2.1.below hb⟩; clear hst hb hF hTl hkt HN1)
  have HFX := Lib.hid (fixed15_walk y2 (ktab_below HT.out H2.out.2.1))
  go_upto_region 5 with (go_at_call 6; (with_reducible refine HFX.out.mono ?_); rintro e y3 ⟨he, hb⟩; obtain rfl : e = _ := he; have H3 : Hid (IsMac y3 b Me ∧ Below w.heap.size w y3 ∧ (IsTab y3 q2 22 32 fun i => bv ((ofX Mt) i))) := Lib.hid ⟨H2.out.1.below hb, bl H2.out.2.1 hb, H2.out.2.2.below hb⟩; clear hb HFX)
  clear H2
  have HBQ := Lib.hid H1.out.2.2.2
  clear H1
  go_upto_region 6 with (first
    | (go_at_call 7; (with_reducible refine (HPN1.out _ _).mono ?_); rintro e y4 ⟨he, hb⟩; obtain rfl : e = _ := he; have HB4 := Lib.hid hb; clear hb)
    | ((with_reducible refine wpList_store_row (P := Tryd.prog) (w := y4.alloc (.cells zs 40)) ?_ 40 (.tmp 8) (.tmp 38) ?_ y4.heap.size zs ?_ ?_ 40 zs (heap_alloc_last y4 _) HZS.out.2.2 ?_ HZS.out.2.1 ?_); (· exact rfl); (· exact rfl); (· exact rfl); (· exact rfl); (· exact rfl); rw [World.setRow_alloc_new]; simp only [Act.put]))
  have H5 : Hid (IsMac (y4.alloc (.cells zs 40)) b Me ∧ Below w.heap.size w (y4.alloc (.cells zs 40)) ∧ (IsTab (y4.alloc (.cells zs 40)) q2 22 32 fun i => bv ((ofX Mt) i))) := Lib.hid (by
    have hb : Below y3.heap.size y3 (y4.alloc (.cells zs 40)) := bl HB4.out (ba _ _)
    exact ⟨H3.out.1.below hb, bl H3.out.2.1 hb, H3.out.2.2.below hb⟩)
  clear H3 HB4
  generalize (y4.alloc (.cells zs 40)) = y5 at *
  generalize y4.heap.size = q8 at *
  go_upto_region 7 with (first
    | (go_at_call 7; (with_reducible refine (HPN2.out _ _).mono ?_); rintro e y6 ⟨he, hb⟩; obtain rfl : e = _ := he; have HB6 := Lib.hid hb; clear hb)
    | ((with_reducible refine wpList_store_row (P := Tryd.prog) (w := y6.alloc (.cells zs 40)) ?_ 40 (.tmp 10) (.tmp 43) ?_ y6.heap.size zs ?_ ?_ 40 zs (heap_alloc_last y6 _) HZS.out.2.2 ?_ HZS.out.2.1 ?_); (· exact rfl); (· exact rfl); (· exact rfl); (· exact rfl); (· exact rfl); rw [World.setRow_alloc_new]; simp only [Act.put]))
  have H7 : Hid (IsMac (y6.alloc (.cells zs 40)) b Me ∧ Below w.heap.size w (y6.alloc (.cells zs 40)) ∧ (IsTab (y6.alloc (.cells zs 40)) q2 22 32 fun i => bv ((ofX Mt) i))) := Lib.hid (by
    have hb : Below y5.heap.size y5 (y6.alloc (.cells zs 40)) := bl HB6.out (ba _ _)
    exact ⟨H5.out.1.below hb, bl H5.out.2.1 hb, H5.out.2.2.below hb⟩)
  clear H5 HB6 HPN1 HPN2
  generalize (y6.alloc (.cells zs 40)) = y7 at *
  generalize y6.heap.size = q10 at *
  have kh := H7.out.1.halted
  have fh := H7.out.1.fz 8209
  have H8 : Hid (IsMac (y7.setCell ⟨b, 8209, none⟩ (.bool true)) b Mt ∧ Below w.heap.size w (y7.setCell ⟨b, 8209, none⟩ (.bool true)) ∧ (IsTab (y7.setCell ⟨b, 8209, none⟩ (.bool true)) q2 22 32 fun i => bv ((ofX Mt) i))) := Lib.hid ⟨H7.out.1.setHalted true, H7.out.2.1.setCell HBQ.out.1 _, IsTab.keep H7.out.2.2 (by have := HBQ.out.2; omega)⟩
  go_upto_region 8 with (fail)
  clear kh fh H7
  generalize y7.setCell ⟨b, 8209, none⟩ (.bool true) = y8 at *
  have HOF := Lib.hid (of_ok y8 b Mt H8.out.1 ok_Mt.mem (ok_w ok_Mt) (ktab_below HT.out H8.out.2.1))
  go_upto_region 9 with (first
    | (go_at_call 8; (with_reducible refine HOF.out.mono ?_); rintro e y9 ⟨he, hb⟩; obtain rfl : e = _ := he; have HB9 := Lib.hid hb; clear hb HOF)
    | ((with_reducible refine wpList_store_row (P := Tryd.prog) (w := y9.alloc (.cells zh 31)) ?_ 31 (.tmp 12) (.tmp 52) ?_ y9.heap.size (tab 32 fun i => bv (ofX Mt i)) ?_ ?_ 31 zh (heap_alloc_last y9 _) (infH _) ?_ (one_bv _ _) ?_); (· exact rfl); (· exact rfl); (· exact rfl); (· exact rfl); (· rw [HZI.out.2.2, tab_size]); rw [World.setRow_alloc_new]; simp only [Act.put]))
  have H10 : Hid (IsMac (y9.alloc (.cells (tab 32 fun i => bv (ofX Mt i)) 31)) b Mt ∧ Below w.heap.size w (y9.alloc (.cells (tab 32 fun i => bv (ofX Mt i)) 31)) ∧ (IsTab (y9.alloc (.cells (tab 32 fun i => bv (ofX Mt i)) 31)) q2 22 32 fun i => bv ((ofX Mt) i)) ∧ (IsTab (y9.alloc (.cells (tab 32 fun i => bv (ofX Mt i)) 31)) y9.heap.size 31 32 fun i => bv (ofX Mt i))) := Lib.hid (by
    have hb : Below y8.heap.size y8 (y9.alloc (.cells (tab 32 fun i => bv (ofX Mt i)) 31)) := bl HB9.out (ba _ _)
    exact ⟨H8.out.1.below hb, bl H8.out.2.1 hb, H8.out.2.2.below hb, IsTab.new y9 _ 32 _⟩)
  clear H8 HB9
  generalize (y9.alloc (.cells (tab 32 fun i => bv (ofX Mt i)) 31)) = y10 at *
  generalize y9.heap.size = q12 at *
  have HPR := Lib.hid (prove_still y10 b s Mt H10.out.1 ok_Mt.mem (ktab_below HT.out H10.out.2.1) rfl)
  go_upto_region 10 with (first
    | (go_at_call 7; (with_reducible refine HPR.out.mono ?_); rintro e y11 ⟨he, hb⟩; obtain rfl : e = _ := he; have HB11 := Lib.hid hb; clear hb HPR)
    | ((with_reducible refine wpList_store_row (P := Tryd.prog) (w := y11.alloc (.cells zs 40)) ?_ 40 (.tmp 14) (.tmp 58) ?_ y11.heap.size (tab 116 (stv (mroot Mt) Mt (.slice none 0 0) (fun _ => 0#8))) ?_ ?_ 40 zs (heap_alloc_last y11 _) (infSt _) ?_ (oneSt _ _ _ _ _ _) ?_); (· exact rfl); (· exact rfl); (· exact rfl); (· exact rfl); (· rw [HZS.out.1, tab_size]); rw [World.setRow_alloc_new]; simp only [Act.put]))
  have H12 : Hid (Below w.heap.size w (y11.alloc (.cells (tab 116 (stv (mroot Mt) Mt (.slice none 0 0) (fun _ => 0#8))) 40)) ∧ (IsTab (y11.alloc (.cells (tab 116 (stv (mroot Mt) Mt (.slice none 0 0) (fun _ => 0#8))) 40)) q2 22 32 fun i => bv ((ofX Mt) i)) ∧ (IsTab (y11.alloc (.cells (tab 116 (stv (mroot Mt) Mt (.slice none 0 0) (fun _ => 0#8))) 40)) q12 31 32 fun i => bv (ofX Mt i)) ∧ IsSt (y11.alloc (.cells (tab 116 (stv (mroot Mt) Mt (.slice none 0 0) (fun _ => 0#8))) 40)) y11.heap.size (mroot Mt) Mt (.slice none 0 0) (fun _ => 0#8)) := Lib.hid (by
    have hb : Below y10.heap.size y10 (y11.alloc (.cells (tab 116 (stv (mroot Mt) Mt (.slice none 0 0) (fun _ => 0#8))) 40)) := bl HB11.out (ba _ _)
    exact ⟨bl H10.out.2.1 hb, H10.out.2.2.1.below hb, H10.out.2.2.2.below hb, IsTab.new y11 40 116 _⟩)
  clear H10 HB11
  generalize (y11.alloc (.cells (tab 116 (stv (mroot Mt) Mt (.slice none 0 0) (fun _ => 0#8))) 40)) = y12 at *
  generalize y11.heap.size = q14 at *
  have HLC := Lib.hid (load32r H12.out.2.1)
  have HLS := Lib.hid (loadSt H12.out.2.2.2)
  have HV := Lib.hid (verify_still y12 Mt (fun _ => 0#8) ok_Mt (ktab_below HT.out H12.out.1) rfl)
  obtain ⟨sv, hsv⟩ : ∃ sv, (tab 116 (stv (mroot Mt) Mt (.slice none 0 0) (fun _ => 0#8))) = sv := ⟨_, rfl⟩
  have HSV := Lib.hid hsv
  rw [hsv] at HLS HV
  clear hsv
  go_upto_region 11 with (first
    | ((with_reducible refine wpList_loadE (P := Tryd.prog) (w := y12) (ty := 22) (x := .tmp 2) (p := .pointer (some ⟨q2, 0, none⟩)) (v := dv (ofX Mt)) ?_ ?_ ?_ HLC.out ?_); (· exact rfl); (· exact rfl); (· exact rfl))
    | ((with_reducible refine wpList_loadE (P := Tryd.prog) (w := y12) (ty := 40) (x := .tmp 14) (p := .pointer (some ⟨q14, 0, none⟩)) (v := .agg sv) ?_ ?_ ?_ HLS.out ?_); (· exact rfl); (· exact rfl); (· exact rfl))
    | (go_at_call 9; (with_reducible refine HV.out.mono ?_); rintro e y13 ⟨he, hb⟩; obtain rfl : e = _ := he; have HB13 := Lib.hid hb; clear hb HV)
    | ((with_reducible refine wpList_store_row (P := Tryd.prog) (w := y13.alloc (.cells zh 31)) ?_ 31 (.tmp 16) (.tmp 64) ?_ y13.heap.size (tab 32 fun i => bv ((ofX Mt) i)) ?_ ?_ 31 zh (heap_alloc_last y13 _) (infH _) ?_ (one_bv _ _) ?_); (· exact rfl); (· exact rfl); (· exact rfl); (· exact rfl); (· rw [HZI.out.2.2, tab_size]); rw [World.setRow_alloc_new]; simp only [Act.put]))
  have H14 : Hid (Below w.heap.size w (y13.alloc (.cells (tab 32 fun i => bv ((ofX Mt) i)) 31)) ∧ (IsTab (y13.alloc (.cells (tab 32 fun i => bv ((ofX Mt) i)) 31)) q2 22 32 fun i => bv ((ofX Mt) i)) ∧ (IsTab (y13.alloc (.cells (tab 32 fun i => bv ((ofX Mt) i)) 31)) q12 31 32 fun i => bv (ofX Mt i)) ∧ IsSt (y13.alloc (.cells (tab 32 fun i => bv ((ofX Mt) i)) 31)) q14 (mroot Mt) Mt (.slice none 0 0) (fun _ => 0#8)) := Lib.hid (by
    have hb : Below y12.heap.size y12 (y13.alloc (.cells (tab 32 fun i => bv ((ofX Mt) i)) 31)) := bl HB13.out (ba _ _)
    exact ⟨bl H12.out.1 hb, H12.out.2.1.below hb, H12.out.2.2.1.below hb, IsTab.below H12.out.2.2.2 hb⟩)
  clear H12 HB13 HLC HLS
  generalize (y13.alloc (.cells (tab 32 fun i => bv ((ofX Mt) i)) 31)) = y14 at *
  generalize y13.heap.size = q16 at *
  have HLC := Lib.hid (load32r H14.out.2.1)
  have HL12 := Lib.hid (load32h H14.out.2.2.1)
  go_upto_region 13 with (first
    | (go_at_call 10; (with_reducible refine (HIS31.out _).mono ?_); rintro e yz ⟨he, hy⟩; obtain rfl : e = _ := he; obtain rfl : _ = yz := hy)
    | ((with_reducible refine wpList_loadE (P := Tryd.prog) (w := y14) (ty := 31) (x := .tmp 12) (p := .pointer (some ⟨q12, 0, none⟩)) (v := dv (ofX Mt)) ?_ ?_ ?_ HL12.out ?_); (· exact rfl); (· exact rfl); (· exact rfl))
    | ((with_reducible refine wpList_loadE (P := Tryd.prog) (w := y14) (ty := 22) (x := .tmp 2) (p := .pointer (some ⟨q2, 0, none⟩)) (v := dv (ofX Mt)) ?_ ?_ ?_ HLC.out ?_); (· exact rfl); (· exact rfl); (· exact rfl))
    | (refine wpList_eqG (by go_simp) (.tmp 66) (.tmp 67) 31 (ofX Mt) (ofX Mt) rfl rfl rfl ?_; rw [same_refl]))
  clear HLC
  have HLS := Lib.hid (loadSt H14.out.2.2.2)
  have HV := Lib.hid (verify_still y14 Mt (fun _ => 0#8) ok_Mt (ktab_below HT.out H14.out.1) rfl)
  rw [HSV.out] at HLS HV
  go_upto_region 14 with (first
    | ((with_reducible refine wpList_loadE (P := Tryd.prog) (w := y14) (ty := 31) (x := .tmp 12) (p := .pointer (some ⟨q12, 0, none⟩)) (v := dv (ofX Mt)) ?_ ?_ ?_ HL12.out ?_); (· exact rfl); (· exact rfl); (· exact rfl))
    | ((with_reducible refine wpList_loadE (P := Tryd.prog) (w := y14) (ty := 40) (x := .tmp 14) (p := .pointer (some ⟨q14, 0, none⟩)) (v := .agg sv) ?_ ?_ ?_ HLS.out ?_); (· exact rfl); (· exact rfl); (· exact rfl))
    | (go_at_call 9; (with_reducible refine HV.out.mono ?_); rintro e y15 ⟨he, hb⟩; obtain rfl : e = _ := he; have HB15 := Lib.hid hb; clear hb HV)
    | ((with_reducible refine wpList_store_row (P := Tryd.prog) (w := y15.alloc (.cells zh 31)) ?_ 31 (.tmp 18) (.tmp 74) ?_ y15.heap.size (tab 32 fun i => bv (ofX Mt i)) ?_ ?_ 31 zh (heap_alloc_last y15 _) (infH _) ?_ (one_bv _ _) ?_); (· exact rfl); (· exact rfl); (· exact rfl); (· exact rfl); (· rw [HZI.out.2.2, tab_size]); rw [World.setRow_alloc_new]; simp only [Act.put]))
  have H16 : Hid (Below w.heap.size w (y15.alloc (.cells (tab 32 fun i => bv (ofX Mt i)) 31)) ∧ (IsTab (y15.alloc (.cells (tab 32 fun i => bv (ofX Mt i)) 31)) q12 31 32 fun i => bv (ofX Mt i)) ∧ (IsTab (y15.alloc (.cells (tab 32 fun i => bv (ofX Mt i)) 31)) y15.heap.size 31 32 fun i => bv (ofX Mt i)) ∧ IsSt (y15.alloc (.cells (tab 32 fun i => bv (ofX Mt i)) 31)) q14 (mroot Mt) Mt (.slice none 0 0) (fun _ => 0#8)) := Lib.hid (by
    have hb : Below y14.heap.size y14 (y15.alloc (.cells (tab 32 fun i => bv (ofX Mt i)) 31)) := bl HB15.out (ba _ _)
    exact ⟨bl H14.out.1 hb, H14.out.2.2.1.below hb, IsTab.new y15 _ 32 _, IsTab.below H14.out.2.2.2 hb⟩)
  clear H14 HB15 HL12 HLS
  generalize (y15.alloc (.cells (tab 32 fun i => bv (ofX Mt i)) 31)) = y16 at *
  generalize y15.heap.size = q18 at *
  have HNS := Lib.hid (same_refl (ofX Mt))
  have HL12 := Lib.hid (load32h H16.out.2.1)
  have HL18 := Lib.hid (load32h H16.out.2.2.1)
  have k51 := IsSt.k51 H16.out.2.2.2
  go_wp2_with (first
    | (go_at_call 10; (with_reducible refine (HIS1.out _).mono ?_); rintro e yz ⟨he, hy⟩; obtain rfl : e = _ := he; obtain rfl : _ = yz := hy)
    | (go_at_call 10; (with_reducible refine (HIS31.out _).mono ?_); rintro e yz ⟨he, hy⟩; obtain rfl : e = _ := he; obtain rfl : _ = yz := hy)
    | ((with_reducible refine wpList_loadG (P := Tryd.prog) (w := y16) (ty := 31) (x := .tmp 18) (p := .pointer (some ⟨q18, 0, none⟩)) (v := dv (ofX Mt)) ?_ ?_ ?_ HL18.out ?_); rotate_left; (· exact rfl); (· exact rfl); rotate_left; (· go_simp))
    | ((with_reducible refine wpList_loadG (P := Tryd.prog) (w := y16) (ty := 31) (x := .tmp 12) (p := .pointer (some ⟨q12, 0, none⟩)) (v := dv (ofX Mt)) ?_ ?_ ?_ HL12.out ?_); rotate_left; (· exact rfl); (· exact rfl); rotate_left; (· go_simp))
    | (refine wpList_eqG (by go_simp) (.tmp 98) (.tmp 99) 31 (ofX Mt) (ofX Mt) rfl rfl rfl ?_; rw [HNS.out]))
  exact bodyPost_ret (v := .bool true) (by simp [results, Tryd.results3, go_sem]) rfl ⟨rfl, H16.out.1⟩
set_option maxHeartbeats 8000000 in
set_option maxRecDepth 100000 in
theorem nil_t0 (w : World) (C : Hx) (hs : same32 (ofX Mt) C = false) (ht : Laid.KTab w) :
    Calls Tryd.prog 3 #[dv C, .bool true] w fun e w' => e = .returned (.bool true) ∧ Below w.heap.size w w' := by
  have HT := Lib.hid ht
  have HSM := Lib.hid hs
  clear hs
  have HIS1 := Lib.hid (fun y : World => (show Calls Tryd.prog 10 #[.iface 49 (.int .i64 1), .iface 49 (.int .i64 1)] y fun e w' => e = .returned (.bool true) ∧ y = w' from Err.is_num 1 1 y))
  have HIS31 := Lib.hid (fun y : World => (show Calls Tryd.prog 10 #[.iface 49 (.int .i64 31), .iface 49 (.int .i64 31)] y fun e w' => e = .returned (.bool true) ∧ y = w' from Err.is_num 31 31 y))
  obtain ⟨zs, hz1, hz2, hz3, z81, HPN1, HPN2⟩ := prove_nils w
  have HZS := Lib.hid (And.intro hz1 (And.intro hz2 hz3))
  clear ht hz1 hz2 hz3
  have z2 := zeroHash
  have HBH := Lib.hid (fun u : World => buildH0 u)
  generalize hz : (tab 32 fun _ => bv 0#8) = zh at *
  have HZ := Lib.hid hz
  clear hz
  have HZI : Hid ((Tryd.prog.info? 31).map (·.size) = some zh.size ∧ zh.all (·.oneCell') = true ∧ zh.size = 32) := Lib.hid ⟨by rw [← HZ.out]; exact infH _, by rw [← HZ.out]; exact one_bv _ _, by rw [← HZ.out, tab_size]⟩
  obtain ⟨ch, hch⟩ : ∃ ch, (tab 32 fun i => bv (C i)) = ch := ⟨_, rfl⟩
  have HCH := Lib.hid hch
  have H0 : Hid ((IsTab (w.alloc (.cells ch 22)) w.heap.size 22 32 fun i => bv (C i)) ∧ Below w.heap.size w (w.alloc (.cells ch 22))) := Lib.hid ⟨by rw [← hch]; exact IsTab.new w 22 32 _, ba _ _⟩
  rw [show dv C = .agg ch from by rw [← hch]; rfl]
  clear hch
  go_enter Tryd.func3, Tryd.ntmps3
  go_upto_region 1 with (fail)
  generalize w.alloc (.cells ch 22) = y0 at *
  obtain ⟨q2, hq2⟩ : ∃ q2, w.heap.size = q2 := ⟨_, rfl⟩
  have HQ2 := Lib.hid hq2
  have H0 : Hid ((IsTab y0 q2 22 32 fun i => bv (C i)) ∧ Below w.heap.size w y0) := Lib.hid (by have h := H0.out; rw [← hq2]; exact h)
  rw [hq2]
  clear hq2
  have HL := Lib.hid (load_zero y0 none 0 fun _ => 0)
  go_upto_region 2 with (go_at_call 4; (with_reducible refine HL.out.mono ?_); rintro e y1 ⟨he, hm, hb⟩; obtain rfl : e = _ := he; have H1 : Hid (IsMac y1 y0.heap.size Me ∧ Below w.heap.size w y1 ∧ (IsTab y1 q2 22 32 fun i => bv (C i)) ∧ w.heap.size ≤ y0.heap.size ∧ q2 < y0.heap.size) := Lib.hid ⟨hm, bl H0.out.2 hb, H0.out.1.below hb, H0.out.2.size, IsTab.lt H0.out.1⟩; clear hm hb HL)
  clear H0
  generalize y0.heap.size = b at *
  have hT1 := ktab_below HT.out H1.out.2.1
  have HN1 := Lib.hid (New_walk y1 hT1 (lowB_le' hT1))
  clear hT1
  go_upto_region 3 with (go_at_call 5; (with_reducible refine HN1.out.mono ?_); rintro e y2 ⟨s, T1, k1, f1, he, hst, hb, hF, hTl, hkt⟩; obtain rfl : e = _ := he; have H2 : Hid (IsMac y2 b Me ∧ Below w.heap.size w y2 ∧ (IsTab y2 q2 22 32 fun i => bv (C i))) := Lib.hid ⟨H1.out.1.below hb, bl H1.out.2.1 hb, H1.out.2.2.1.below hb⟩; clear hst hb hF hTl hkt HN1)
  have HFX := Lib.hid (fixed15_walk y2 (ktab_below HT.out H2.out.2.1))
  go_upto_region 5 with (go_at_call 6; (with_reducible refine HFX.out.mono ?_); rintro e y3 ⟨he, hb⟩; obtain rfl : e = _ := he; have H3 : Hid (IsMac y3 b Me ∧ Below w.heap.size w y3 ∧ (IsTab y3 q2 22 32 fun i => bv (C i))) := Lib.hid ⟨H2.out.1.below hb, bl H2.out.2.1 hb, H2.out.2.2.below hb⟩; clear hb HFX)
  clear H2
  have HBQ := Lib.hid H1.out.2.2.2
  clear H1
  go_upto_region 6 with (first
    | (go_at_call 7; (with_reducible refine (HPN1.out _ _).mono ?_); rintro e y4 ⟨he, hb⟩; obtain rfl : e = _ := he; have HB4 := Lib.hid hb; clear hb)
    | ((with_reducible refine wpList_store_row (P := Tryd.prog) (w := y4.alloc (.cells zs 40)) ?_ 40 (.tmp 8) (.tmp 38) ?_ y4.heap.size zs ?_ ?_ 40 zs (heap_alloc_last y4 _) HZS.out.2.2 ?_ HZS.out.2.1 ?_); (· exact rfl); (· exact rfl); (· exact rfl); (· exact rfl); (· exact rfl); rw [World.setRow_alloc_new]; simp only [Act.put]))
  have H5 : Hid (IsMac (y4.alloc (.cells zs 40)) b Me ∧ Below w.heap.size w (y4.alloc (.cells zs 40)) ∧ (IsTab (y4.alloc (.cells zs 40)) q2 22 32 fun i => bv (C i))) := Lib.hid (by
    have hb : Below y3.heap.size y3 (y4.alloc (.cells zs 40)) := bl HB4.out (ba _ _)
    exact ⟨H3.out.1.below hb, bl H3.out.2.1 hb, H3.out.2.2.below hb⟩)
  clear H3 HB4
  generalize (y4.alloc (.cells zs 40)) = y5 at *
  generalize y4.heap.size = q8 at *
  go_upto_region 7 with (first
    | (go_at_call 7; (with_reducible refine (HPN2.out _ _).mono ?_); rintro e y6 ⟨he, hb⟩; obtain rfl : e = _ := he; have HB6 := Lib.hid hb; clear hb)
    | ((with_reducible refine wpList_store_row (P := Tryd.prog) (w := y6.alloc (.cells zs 40)) ?_ 40 (.tmp 10) (.tmp 43) ?_ y6.heap.size zs ?_ ?_ 40 zs (heap_alloc_last y6 _) HZS.out.2.2 ?_ HZS.out.2.1 ?_); (· exact rfl); (· exact rfl); (· exact rfl); (· exact rfl); (· exact rfl); rw [World.setRow_alloc_new]; simp only [Act.put]))
  have H7 : Hid (IsMac (y6.alloc (.cells zs 40)) b Me ∧ Below w.heap.size w (y6.alloc (.cells zs 40)) ∧ (IsTab (y6.alloc (.cells zs 40)) q2 22 32 fun i => bv (C i))) := Lib.hid (by
    have hb : Below y5.heap.size y5 (y6.alloc (.cells zs 40)) := bl HB6.out (ba _ _)
    exact ⟨H5.out.1.below hb, bl H5.out.2.1 hb, H5.out.2.2.below hb⟩)
  clear H5 HB6 HPN1 HPN2
  generalize (y6.alloc (.cells zs 40)) = y7 at *
  generalize y6.heap.size = q10 at *
  have kh := H7.out.1.halted
  have fh := H7.out.1.fz 8209
  have H8 : Hid (IsMac (y7.setCell ⟨b, 8209, none⟩ (.bool true)) b Mt ∧ Below w.heap.size w (y7.setCell ⟨b, 8209, none⟩ (.bool true)) ∧ (IsTab (y7.setCell ⟨b, 8209, none⟩ (.bool true)) q2 22 32 fun i => bv (C i))) := Lib.hid ⟨H7.out.1.setHalted true, H7.out.2.1.setCell HBQ.out.1 _, IsTab.keep H7.out.2.2 (by have := HBQ.out.2; omega)⟩
  go_upto_region 8 with (fail)
  clear kh fh H7
  generalize y7.setCell ⟨b, 8209, none⟩ (.bool true) = y8 at *
  have HOF := Lib.hid (of_ok y8 b Mt H8.out.1 ok_Mt.mem (ok_w ok_Mt) (ktab_below HT.out H8.out.2.1))
  go_upto_region 9 with (first
    | (go_at_call 8; (with_reducible refine HOF.out.mono ?_); rintro e y9 ⟨he, hb⟩; obtain rfl : e = _ := he; have HB9 := Lib.hid hb; clear hb HOF)
    | ((with_reducible refine wpList_store_row (P := Tryd.prog) (w := y9.alloc (.cells zh 31)) ?_ 31 (.tmp 12) (.tmp 52) ?_ y9.heap.size (tab 32 fun i => bv (ofX Mt i)) ?_ ?_ 31 zh (heap_alloc_last y9 _) (infH _) ?_ (one_bv _ _) ?_); (· exact rfl); (· exact rfl); (· exact rfl); (· exact rfl); (· rw [HZI.out.2.2, tab_size]); rw [World.setRow_alloc_new]; simp only [Act.put]))
  have H10 : Hid (IsMac (y9.alloc (.cells (tab 32 fun i => bv (ofX Mt i)) 31)) b Mt ∧ Below w.heap.size w (y9.alloc (.cells (tab 32 fun i => bv (ofX Mt i)) 31)) ∧ (IsTab (y9.alloc (.cells (tab 32 fun i => bv (ofX Mt i)) 31)) q2 22 32 fun i => bv (C i)) ∧ (IsTab (y9.alloc (.cells (tab 32 fun i => bv (ofX Mt i)) 31)) y9.heap.size 31 32 fun i => bv (ofX Mt i))) := Lib.hid (by
    have hb : Below y8.heap.size y8 (y9.alloc (.cells (tab 32 fun i => bv (ofX Mt i)) 31)) := bl HB9.out (ba _ _)
    exact ⟨H8.out.1.below hb, bl H8.out.2.1 hb, H8.out.2.2.below hb, IsTab.new y9 _ 32 _⟩)
  clear H8 HB9
  generalize (y9.alloc (.cells (tab 32 fun i => bv (ofX Mt i)) 31)) = y10 at *
  generalize y9.heap.size = q12 at *
  have HPR := Lib.hid (prove_still y10 b s Mt H10.out.1 ok_Mt.mem (ktab_below HT.out H10.out.2.1) rfl)
  go_upto_region 10 with (first
    | (go_at_call 7; (with_reducible refine HPR.out.mono ?_); rintro e y11 ⟨he, hb⟩; obtain rfl : e = _ := he; have HB11 := Lib.hid hb; clear hb HPR)
    | ((with_reducible refine wpList_store_row (P := Tryd.prog) (w := y11.alloc (.cells zs 40)) ?_ 40 (.tmp 14) (.tmp 58) ?_ y11.heap.size (tab 116 (stv (mroot Mt) Mt (.slice none 0 0) (fun _ => 0#8))) ?_ ?_ 40 zs (heap_alloc_last y11 _) (infSt _) ?_ (oneSt _ _ _ _ _ _) ?_); (· exact rfl); (· exact rfl); (· exact rfl); (· exact rfl); (· rw [HZS.out.1, tab_size]); rw [World.setRow_alloc_new]; simp only [Act.put]))
  have H12 : Hid (Below w.heap.size w (y11.alloc (.cells (tab 116 (stv (mroot Mt) Mt (.slice none 0 0) (fun _ => 0#8))) 40)) ∧ (IsTab (y11.alloc (.cells (tab 116 (stv (mroot Mt) Mt (.slice none 0 0) (fun _ => 0#8))) 40)) q2 22 32 fun i => bv (C i)) ∧ (IsTab (y11.alloc (.cells (tab 116 (stv (mroot Mt) Mt (.slice none 0 0) (fun _ => 0#8))) 40)) q12 31 32 fun i => bv (ofX Mt i)) ∧ IsSt (y11.alloc (.cells (tab 116 (stv (mroot Mt) Mt (.slice none 0 0) (fun _ => 0#8))) 40)) y11.heap.size (mroot Mt) Mt (.slice none 0 0) (fun _ => 0#8)) := Lib.hid (by
    have hb : Below y10.heap.size y10 (y11.alloc (.cells (tab 116 (stv (mroot Mt) Mt (.slice none 0 0) (fun _ => 0#8))) 40)) := bl HB11.out (ba _ _)
    exact ⟨bl H10.out.2.1 hb, H10.out.2.2.1.below hb, H10.out.2.2.2.below hb, IsTab.new y11 40 116 _⟩)
  clear H10 HB11
  generalize (y11.alloc (.cells (tab 116 (stv (mroot Mt) Mt (.slice none 0 0) (fun _ => 0#8))) 40)) = y12 at *
  generalize y11.heap.size = q14 at *
  have HLC := Lib.hid (load32r H12.out.2.1)
  have HLS := Lib.hid (loadSt H12.out.2.2.2)
  have HV := Lib.hid (verify_no y12 C (mroot Mt) Mt none 0 0 (fun _ => 0#8) (ok_w ok_Mt) (ktab_below HT.out H12.out.1) HSM.out)
  obtain ⟨sv, hsv⟩ : ∃ sv, (tab 116 (stv (mroot Mt) Mt (.slice none 0 0) (fun _ => 0#8))) = sv := ⟨_, rfl⟩
  have HSV := Lib.hid hsv
  rw [hsv] at HLS HV
  clear hsv
  go_upto_region 11 with (first
    | ((with_reducible refine wpList_loadE (P := Tryd.prog) (w := y12) (ty := 22) (x := .tmp 2) (p := .pointer (some ⟨q2, 0, none⟩)) (v := dv C) ?_ ?_ ?_ HLC.out ?_); (· exact rfl); (· exact rfl); (· exact rfl))
    | ((with_reducible refine wpList_loadE (P := Tryd.prog) (w := y12) (ty := 40) (x := .tmp 14) (p := .pointer (some ⟨q14, 0, none⟩)) (v := .agg sv) ?_ ?_ ?_ HLS.out ?_); (· exact rfl); (· exact rfl); (· exact rfl))
    | (go_at_call 9; (with_reducible refine HV.out.mono ?_); rintro e y13 ⟨he, hb⟩; obtain rfl : e = _ := he; have HB13 := Lib.hid hb; clear hb HV)
    | ((with_reducible refine wpList_store_row (P := Tryd.prog) (w := y13.alloc (.cells zh 31)) ?_ 31 (.tmp 16) (.tmp 64) ?_ y13.heap.size (tab 32 fun i => bv ((fun _ => 0#8) i)) ?_ ?_ 31 zh (heap_alloc_last y13 _) (infH _) ?_ (one_bv _ _) ?_); (· exact rfl); (· exact rfl); (· exact rfl); (· exact rfl); (· rw [HZI.out.2.2, tab_size]); rw [World.setRow_alloc_new]; simp only [Act.put]))
  have H14 : Hid (Below w.heap.size w (y13.alloc (.cells (tab 32 fun i => bv ((fun _ => 0#8) i)) 31)) ∧ (IsTab (y13.alloc (.cells (tab 32 fun i => bv ((fun _ => 0#8) i)) 31)) q2 22 32 fun i => bv (C i)) ∧ (IsTab (y13.alloc (.cells (tab 32 fun i => bv ((fun _ => 0#8) i)) 31)) q12 31 32 fun i => bv (ofX Mt i)) ∧ IsSt (y13.alloc (.cells (tab 32 fun i => bv ((fun _ => 0#8) i)) 31)) q14 (mroot Mt) Mt (.slice none 0 0) (fun _ => 0#8)) := Lib.hid (by
    have hb : Below y12.heap.size y12 (y13.alloc (.cells (tab 32 fun i => bv ((fun _ => 0#8) i)) 31)) := bl HB13.out (ba _ _)
    exact ⟨bl H12.out.1 hb, H12.out.2.1.below hb, H12.out.2.2.1.below hb, IsTab.below H12.out.2.2.2 hb⟩)
  clear H12 HB13 HLC HLS
  generalize (y13.alloc (.cells (tab 32 fun i => bv ((fun _ => 0#8) i)) 31)) = y14 at *
  generalize y13.heap.size = q16 at *
  have HLC := Lib.hid (load32r H14.out.2.1)
  have HL12 := Lib.hid (load32h H14.out.2.2.1)
  go_upto_if 68 with (first
    | ((with_reducible refine wpList_loadE (P := Tryd.prog) (w := y14) (ty := 31) (x := .tmp 12) (p := .pointer (some ⟨q12, 0, none⟩)) (v := dv (ofX Mt)) ?_ ?_ ?_ HL12.out ?_); (· exact rfl); (· exact rfl); (· exact rfl))
    | ((with_reducible refine wpList_loadE (P := Tryd.prog) (w := y14) (ty := 22) (x := .tmp 2) (p := .pointer (some ⟨q2, 0, none⟩)) (v := dv C) ?_ ?_ ?_ HLC.out ?_); (· exact rfl); (· exact rfl); (· exact rfl))
    | ((with_reducible refine wpList_eqG ?_ (.tmp 66) (.tmp 67) 31 (ofX Mt) C ?_ ?_ ?_ ?_); (· go_simp); (· exact rfl); (· exact rfl); (· exact rfl); rw [HSM.out]))
  refine wp_cond_false rfl ?_
  go_upto_region 13 with (fail)
  clear HLC
  have HLS := Lib.hid (loadSt H14.out.2.2.2)
  have HV := Lib.hid (verify_still y14 Mt (fun _ => 0#8) ok_Mt (ktab_below HT.out H14.out.1) rfl)
  rw [HSV.out] at HLS HV
  go_upto_region 14 with (first
    | ((with_reducible refine wpList_loadE (P := Tryd.prog) (w := y14) (ty := 31) (x := .tmp 12) (p := .pointer (some ⟨q12, 0, none⟩)) (v := dv (ofX Mt)) ?_ ?_ ?_ HL12.out ?_); (· exact rfl); (· exact rfl); (· exact rfl))
    | ((with_reducible refine wpList_loadE (P := Tryd.prog) (w := y14) (ty := 40) (x := .tmp 14) (p := .pointer (some ⟨q14, 0, none⟩)) (v := .agg sv) ?_ ?_ ?_ HLS.out ?_); (· exact rfl); (· exact rfl); (· exact rfl))
    | (go_at_call 9; (with_reducible refine HV.out.mono ?_); rintro e y15 ⟨he, hb⟩; obtain rfl : e = _ := he; have HB15 := Lib.hid hb; clear hb HV)
    | ((with_reducible refine wpList_store_row (P := Tryd.prog) (w := y15.alloc (.cells zh 31)) ?_ 31 (.tmp 18) (.tmp 74) ?_ y15.heap.size (tab 32 fun i => bv (ofX Mt i)) ?_ ?_ 31 zh (heap_alloc_last y15 _) (infH _) ?_ (one_bv _ _) ?_); (· exact rfl); (· exact rfl); (· exact rfl); (· exact rfl); (· rw [HZI.out.2.2, tab_size]); rw [World.setRow_alloc_new]; simp only [Act.put]))
  have H16 : Hid (Below w.heap.size w (y15.alloc (.cells (tab 32 fun i => bv (ofX Mt i)) 31)) ∧ (IsTab (y15.alloc (.cells (tab 32 fun i => bv (ofX Mt i)) 31)) q12 31 32 fun i => bv (ofX Mt i)) ∧ (IsTab (y15.alloc (.cells (tab 32 fun i => bv (ofX Mt i)) 31)) y15.heap.size 31 32 fun i => bv (ofX Mt i)) ∧ IsSt (y15.alloc (.cells (tab 32 fun i => bv (ofX Mt i)) 31)) q14 (mroot Mt) Mt (.slice none 0 0) (fun _ => 0#8)) := Lib.hid (by
    have hb : Below y14.heap.size y14 (y15.alloc (.cells (tab 32 fun i => bv (ofX Mt i)) 31)) := bl HB15.out (ba _ _)
    exact ⟨bl H14.out.1 hb, H14.out.2.2.1.below hb, IsTab.new y15 _ 32 _, IsTab.below H14.out.2.2.2 hb⟩)
  clear H14 HB15 HL12 HLS
  generalize (y15.alloc (.cells (tab 32 fun i => bv (ofX Mt i)) 31)) = y16 at *
  generalize y15.heap.size = q18 at *
  have HNS := Lib.hid (same_refl (ofX Mt))
  have HL12 := Lib.hid (load32h H16.out.2.1)
  have HL18 := Lib.hid (load32h H16.out.2.2.1)
  have k51 := IsSt.k51 H16.out.2.2.2
  go_wp2_with (first
    | (go_at_call 10; (with_reducible refine (HIS1.out _).mono ?_); rintro e yz ⟨he, hy⟩; obtain rfl : e = _ := he; obtain rfl : _ = yz := hy)
    | (go_at_call 10; (with_reducible refine (HIS31.out _).mono ?_); rintro e yz ⟨he, hy⟩; obtain rfl : e = _ := he; obtain rfl : _ = yz := hy)
    | ((with_reducible refine wpList_loadG (P := Tryd.prog) (w := y16) (ty := 31) (x := .tmp 18) (p := .pointer (some ⟨q18, 0, none⟩)) (v := dv (ofX Mt)) ?_ ?_ ?_ HL18.out ?_); rotate_left; (· exact rfl); (· exact rfl); rotate_left; (· go_simp))
    | ((with_reducible refine wpList_loadG (P := Tryd.prog) (w := y16) (ty := 31) (x := .tmp 12) (p := .pointer (some ⟨q12, 0, none⟩)) (v := dv (ofX Mt)) ?_ ?_ ?_ HL12.out ?_); rotate_left; (· exact rfl); (· exact rfl); rotate_left; (· go_simp))
    | (refine wpList_eqG (by go_simp) (.tmp 98) (.tmp 99) 31 (ofX Mt) (ofX Mt) rfl rfl rfl ?_; rw [HNS.out]))
  exact bodyPost_ret (v := .bool true) (by simp [results, Tryd.results3, go_sem]) rfl ⟨rfl, H16.out.1⟩
set_option maxHeartbeats 8000000 in
set_option maxRecDepth 100000 in
theorem nil_f1 (w : World) (ht : Laid.KTab w) :
    Calls Tryd.prog 3 #[dv (ofX Me), .bool false] w fun e w' => e = .returned (.bool true) ∧ Below w.heap.size w w' := by
  have HT := Lib.hid ht
  have HIS1 := Lib.hid (fun y : World => (show Calls Tryd.prog 10 #[.iface 49 (.int .i64 1), .iface 49 (.int .i64 1)] y fun e w' => e = .returned (.bool true) ∧ y = w' from Err.is_num 1 1 y))
  have HIS31 := Lib.hid (fun y : World => (show Calls Tryd.prog 10 #[.iface 49 (.int .i64 31), .iface 49 (.int .i64 31)] y fun e w' => e = .returned (.bool true) ∧ y = w' from Err.is_num 31 31 y))
  obtain ⟨zs, hz1, hz2, hz3, z81, HPN1, HPN2⟩ := prove_nils w
  have HZS := Lib.hid (And.intro hz1 (And.intro hz2 hz3))
  clear ht hz1 hz2 hz3
  have z2 := zeroHash
  have HBH := Lib.hid (fun u : World => buildH0 u)
  generalize hz : (tab 32 fun _ => bv 0#8) = zh at *
  have HZ := Lib.hid hz
  clear hz
  have HZI : Hid ((Tryd.prog.info? 31).map (·.size) = some zh.size ∧ zh.all (·.oneCell') = true ∧ zh.size = 32) := Lib.hid ⟨by rw [← HZ.out]; exact infH _, by rw [← HZ.out]; exact one_bv _ _, by rw [← HZ.out, tab_size]⟩
  obtain ⟨ch, hch⟩ : ∃ ch, (tab 32 fun i => bv ((ofX Me) i)) = ch := ⟨_, rfl⟩
  have HCH := Lib.hid hch
  have H0 : Hid ((IsTab (w.alloc (.cells ch 22)) w.heap.size 22 32 fun i => bv ((ofX Me) i)) ∧ Below w.heap.size w (w.alloc (.cells ch 22))) := Lib.hid ⟨by rw [← hch]; exact IsTab.new w 22 32 _, ba _ _⟩
  rw [show dv (ofX Me) = .agg ch from by rw [← hch]; rfl]
  clear hch
  go_enter Tryd.func3, Tryd.ntmps3
  go_upto_region 1 with (fail)
  generalize w.alloc (.cells ch 22) = y0 at *
  obtain ⟨q2, hq2⟩ : ∃ q2, w.heap.size = q2 := ⟨_, rfl⟩
  have HQ2 := Lib.hid hq2
  have H0 : Hid ((IsTab y0 q2 22 32 fun i => bv ((ofX Me) i)) ∧ Below w.heap.size w y0) := Lib.hid (by have h := H0.out; rw [← hq2]; exact h)
  rw [hq2]
  clear hq2
  have HL := Lib.hid (load_zero y0 none 0 fun _ => 0)
  go_upto_region 2 with (go_at_call 4; (with_reducible refine HL.out.mono ?_); rintro e y1 ⟨he, hm, hb⟩; obtain rfl : e = _ := he; have H1 : Hid (IsMac y1 y0.heap.size Me ∧ Below w.heap.size w y1 ∧ (IsTab y1 q2 22 32 fun i => bv ((ofX Me) i)) ∧ w.heap.size ≤ y0.heap.size ∧ q2 < y0.heap.size) := Lib.hid ⟨hm, bl H0.out.2 hb, H0.out.1.below hb, H0.out.2.size, IsTab.lt H0.out.1⟩; clear hm hb HL)
  clear H0
  generalize y0.heap.size = b at *
  have hT1 := ktab_below HT.out H1.out.2.1
  have HN1 := Lib.hid (New_walk y1 hT1 (lowB_le' hT1))
  clear hT1
  go_upto_region 3 with (go_at_call 5; (with_reducible refine HN1.out.mono ?_); rintro e y2 ⟨s, T1, k1, f1, he, hst, hb, hF, hTl, hkt⟩; obtain rfl : e = _ := he; have H2 : Hid (IsMac y2 b Me ∧ Below w.heap.size w y2 ∧ (IsTab y2 q2 22 32 fun i => bv ((ofX Me) i))) := Lib.hid ⟨H1.out.1.below hb, bl H1.out.2.1 hb, H1.out.2.2.1.below hb⟩; clear hst hb hF hTl hkt HN1)
  have HFX := Lib.hid (fixed15_walk y2 (ktab_below HT.out H2.out.2.1))
  go_upto_region 5 with (go_at_call 6; (with_reducible refine HFX.out.mono ?_); rintro e y3 ⟨he, hb⟩; obtain rfl : e = _ := he; have H3 : Hid (IsMac y3 b Me ∧ Below w.heap.size w y3 ∧ (IsTab y3 q2 22 32 fun i => bv ((ofX Me) i))) := Lib.hid ⟨H2.out.1.below hb, bl H2.out.2.1 hb, H2.out.2.2.below hb⟩; clear hb HFX)
  clear H2
  have HBQ := Lib.hid H1.out.2.2.2
  clear H1
  go_upto_region 6 with (first
    | (go_at_call 7; (with_reducible refine (HPN1.out _ _).mono ?_); rintro e y4 ⟨he, hb⟩; obtain rfl : e = _ := he; have HB4 := Lib.hid hb; clear hb)
    | ((with_reducible refine wpList_store_row (P := Tryd.prog) (w := y4.alloc (.cells zs 40)) ?_ 40 (.tmp 8) (.tmp 38) ?_ y4.heap.size zs ?_ ?_ 40 zs (heap_alloc_last y4 _) HZS.out.2.2 ?_ HZS.out.2.1 ?_); (· exact rfl); (· exact rfl); (· exact rfl); (· exact rfl); (· exact rfl); rw [World.setRow_alloc_new]; simp only [Act.put]))
  have H5 : Hid (IsMac (y4.alloc (.cells zs 40)) b Me ∧ Below w.heap.size w (y4.alloc (.cells zs 40)) ∧ (IsTab (y4.alloc (.cells zs 40)) q2 22 32 fun i => bv ((ofX Me) i))) := Lib.hid (by
    have hb : Below y3.heap.size y3 (y4.alloc (.cells zs 40)) := bl HB4.out (ba _ _)
    exact ⟨H3.out.1.below hb, bl H3.out.2.1 hb, H3.out.2.2.below hb⟩)
  clear H3 HB4
  generalize (y4.alloc (.cells zs 40)) = y5 at *
  generalize y4.heap.size = q8 at *
  go_upto_region 7 with (first
    | (go_at_call 7; (with_reducible refine (HPN2.out _ _).mono ?_); rintro e y6 ⟨he, hb⟩; obtain rfl : e = _ := he; have HB6 := Lib.hid hb; clear hb)
    | ((with_reducible refine wpList_store_row (P := Tryd.prog) (w := y6.alloc (.cells zs 40)) ?_ 40 (.tmp 10) (.tmp 43) ?_ y6.heap.size zs ?_ ?_ 40 zs (heap_alloc_last y6 _) HZS.out.2.2 ?_ HZS.out.2.1 ?_); (· exact rfl); (· exact rfl); (· exact rfl); (· exact rfl); (· exact rfl); rw [World.setRow_alloc_new]; simp only [Act.put]))
  have H7 : Hid (IsMac (y6.alloc (.cells zs 40)) b Me ∧ Below w.heap.size w (y6.alloc (.cells zs 40)) ∧ (IsTab (y6.alloc (.cells zs 40)) q2 22 32 fun i => bv ((ofX Me) i))) := Lib.hid (by
    have hb : Below y5.heap.size y5 (y6.alloc (.cells zs 40)) := bl HB6.out (ba _ _)
    exact ⟨H5.out.1.below hb, bl H5.out.2.1 hb, H5.out.2.2.below hb⟩)
  clear H5 HB6 HPN1 HPN2
  generalize (y6.alloc (.cells zs 40)) = y7 at *
  generalize y6.heap.size = q10 at *
  have kh := H7.out.1.halted
  have fh := H7.out.1.fz 8209
  have H8 : Hid (IsMac (y7.setCell ⟨b, 8209, none⟩ (.bool false)) b Me ∧ Below w.heap.size w (y7.setCell ⟨b, 8209, none⟩ (.bool false)) ∧ (IsTab (y7.setCell ⟨b, 8209, none⟩ (.bool false)) q2 22 32 fun i => bv ((ofX Me) i))) := Lib.hid ⟨H7.out.1.setHalted false, H7.out.2.1.setCell HBQ.out.1 _, IsTab.keep H7.out.2.2 (by have := HBQ.out.2; omega)⟩
  go_upto_region 8 with (fail)
  clear kh fh H7
  generalize y7.setCell ⟨b, 8209, none⟩ (.bool false) = y8 at *
  have HOF := Lib.hid (of_ok y8 b Me H8.out.1 ok_Me.mem (ok_w ok_Me) (ktab_below HT.out H8.out.2.1))
  go_upto_region 9 with (first
    | (go_at_call 8; (with_reducible refine HOF.out.mono ?_); rintro e y9 ⟨he, hb⟩; obtain rfl : e = _ := he; have HB9 := Lib.hid hb; clear hb HOF)
    | ((with_reducible refine wpList_store_row (P := Tryd.prog) (w := y9.alloc (.cells zh 31)) ?_ 31 (.tmp 12) (.tmp 52) ?_ y9.heap.size (tab 32 fun i => bv (ofX Me i)) ?_ ?_ 31 zh (heap_alloc_last y9 _) (infH _) ?_ (one_bv _ _) ?_); (· exact rfl); (· exact rfl); (· exact rfl); (· exact rfl); (· rw [HZI.out.2.2, tab_size]); rw [World.setRow_alloc_new]; simp only [Act.put]))
  have H10 : Hid (IsMac (y9.alloc (.cells (tab 32 fun i => bv (ofX Me i)) 31)) b Me ∧ Below w.heap.size w (y9.alloc (.cells (tab 32 fun i => bv (ofX Me i)) 31)) ∧ (IsTab (y9.alloc (.cells (tab 32 fun i => bv (ofX Me i)) 31)) q2 22 32 fun i => bv ((ofX Me) i)) ∧ (IsTab (y9.alloc (.cells (tab 32 fun i => bv (ofX Me i)) 31)) y9.heap.size 31 32 fun i => bv (ofX Me i))) := Lib.hid (by
    have hb : Below y8.heap.size y8 (y9.alloc (.cells (tab 32 fun i => bv (ofX Me i)) 31)) := bl HB9.out (ba _ _)
    exact ⟨H8.out.1.below hb, bl H8.out.2.1 hb, H8.out.2.2.below hb, IsTab.new y9 _ 32 _⟩)
  clear H8 HB9
  generalize (y9.alloc (.cells (tab 32 fun i => bv (ofX Me i)) 31)) = y10 at *
  generalize y9.heap.size = q12 at *
  have HPR := Lib.hid (prove_halt y10 b s Me H10.out.1 ok_Me (ktab_below HT.out H10.out.2.1) rfl (by show (0 : Nat) < 8192; decide) (by rw [mem_Me]; decide) (by rw [mem_Me]; decide))
  go_upto_region 10 with (first
    | (go_at_call 7; (with_reducible refine HPR.out.mono ?_); rintro e y11 ⟨a, c, he, ⟨B, T, hpf⟩, hb⟩; obtain rfl : e = _ := he; have HB11 := Lib.hid (And.intro hb hpf); clear hb HPR hpf)
    | ((with_reducible refine wpList_store_row (P := Tryd.prog) (w := y11.alloc (.cells zs 40)) ?_ 40 (.tmp 14) (.tmp 58) ?_ y11.heap.size (tab 116 (stv (mroot Me) Me (.slice (some ⟨a, 0, none⟩) 1 c) (fun _ => 0#8))) ?_ ?_ 40 zs (heap_alloc_last y11 _) (infSt _) ?_ (oneSt _ _ _ _ _ _) ?_); (· exact rfl); (· exact rfl); (· exact rfl); (· exact rfl); (· rw [HZS.out.1, tab_size]); rw [World.setRow_alloc_new]; simp only [Act.put]))
  have H12 : Hid (Below w.heap.size w (y11.alloc (.cells (tab 116 (stv (mroot Me) Me (.slice (some ⟨a, 0, none⟩) 1 c) (fun _ => 0#8))) 40)) ∧ (IsTab (y11.alloc (.cells (tab 116 (stv (mroot Me) Me (.slice (some ⟨a, 0, none⟩) 1 c) (fun _ => 0#8))) 40)) q2 22 32 fun i => bv ((ofX Me) i)) ∧ (IsTab (y11.alloc (.cells (tab 116 (stv (mroot Me) Me (.slice (some ⟨a, 0, none⟩) 1 c) (fun _ => 0#8))) 40)) q12 31 32 fun i => bv (ofX Me i)) ∧ IsSt (y11.alloc (.cells (tab 116 (stv (mroot Me) Me (.slice (some ⟨a, 0, none⟩) 1 c) (fun _ => 0#8))) 40)) y11.heap.size (mroot Me) Me (.slice (some ⟨a, 0, none⟩) 1 c) (fun _ => 0#8) ∧ Pf1 (y11.alloc (.cells (tab 116 (stv (mroot Me) Me (.slice (some ⟨a, 0, none⟩) 1 c) (fun _ => 0#8))) 40)) (.slice (some ⟨a, 0, none⟩) 1 c) (Me.mem Me.pc) (sib (mg Me) Me.pc) B T) := Lib.hid (by
    have hb : Below y10.heap.size y10 (y11.alloc (.cells (tab 116 (stv (mroot Me) Me (.slice (some ⟨a, 0, none⟩) 1 c) (fun _ => 0#8))) 40)) := bl HB11.out.1 (ba _ _)
    exact ⟨bl H10.out.2.1 hb, H10.out.2.2.1.below hb, H10.out.2.2.2.below hb, IsTab.new y11 40 116 _, HB11.out.2.kept (S := fun _ => False) (Kept.ofBelow (ba _ _)) (fun k e => e.elim)⟩)
  clear H10 HB11
  generalize (y11.alloc (.cells (tab 116 (stv (mroot Me) Me (.slice (some ⟨a, 0, none⟩) 1 c) (fun _ => 0#8))) 40)) = y12 at *
  generalize y11.heap.size = q14 at *
  have HLC := Lib.hid (load32r H12.out.2.1)
  have HLS := Lib.hid (loadSt H12.out.2.2.2.1)
  have hv0 := verify_halt y12 a c B T Me (fun _ => 0#8) ok_Me (ktab_below HT.out H12.out.1) rfl (by show (0 : Nat) < 8192; decide) (by rw [mem_Me]; decide) (by rw [mem_Me]; decide) H12.out.2.2.2.2
  rw [show stopH { Me with pc := Me.pc + 1 } (Me.reg (pA (Me.mem Me.pc))) = Mh from rfl] at hv0
  have HV := Lib.hid hv0
  clear hv0
  obtain ⟨sv, hsv⟩ : ∃ sv, (tab 116 (stv (mroot Me) Me (.slice (some ⟨a, 0, none⟩) 1 c) (fun _ => 0#8))) = sv := ⟨_, rfl⟩
  have HSV := Lib.hid hsv
  rw [hsv] at HLS HV
  clear hsv
  go_upto_region 11 with (first
    | ((with_reducible refine wpList_loadE (P := Tryd.prog) (w := y12) (ty := 22) (x := .tmp 2) (p := .pointer (some ⟨q2, 0, none⟩)) (v := dv (ofX Me)) ?_ ?_ ?_ HLC.out ?_); (· exact rfl); (· exact rfl); (· exact rfl))
    | ((with_reducible refine wpList_loadE (P := Tryd.prog) (w := y12) (ty := 40) (x := .tmp 14) (p := .pointer (some ⟨q14, 0, none⟩)) (v := .agg sv) ?_ ?_ ?_ HLS.out ?_); (· exact rfl); (· exact rfl); (· exact rfl))
    | (go_at_call 9; (with_reducible refine HV.out.mono ?_); rintro e y13 ⟨he, hb⟩; obtain rfl : e = _ := he; have HB13 := Lib.hid hb; clear hb HV)
    | ((with_reducible refine wpList_store_row (P := Tryd.prog) (w := y13.alloc (.cells zh 31)) ?_ 31 (.tmp 16) (.tmp 64) ?_ y13.heap.size (tab 32 fun i => bv ((ofX Mh) i)) ?_ ?_ 31 zh (heap_alloc_last y13 _) (infH _) ?_ (one_bv _ _) ?_); (· exact rfl); (· exact rfl); (· exact rfl); (· exact rfl); (· rw [HZI.out.2.2, tab_size]); rw [World.setRow_alloc_new]; simp only [Act.put]))
  have H14 : Hid (Below w.heap.size w (y13.alloc (.cells (tab 32 fun i => bv ((ofX Mh) i)) 31)) ∧ (IsTab (y13.alloc (.cells (tab 32 fun i => bv ((ofX Mh) i)) 31)) q2 22 32 fun i => bv ((ofX Me) i)) ∧ (IsTab (y13.alloc (.cells (tab 32 fun i => bv ((ofX Mh) i)) 31)) q12 31 32 fun i => bv (ofX Me i)) ∧ IsSt (y13.alloc (.cells (tab 32 fun i => bv ((ofX Mh) i)) 31)) q14 (mroot Me) Me (.slice (some ⟨a, 0, none⟩) 1 c) (fun _ => 0#8) ∧ Pf1 (y13.alloc (.cells (tab 32 fun i => bv ((ofX Mh) i)) 31)) (.slice (some ⟨a, 0, none⟩) 1 c) (Me.mem Me.pc) (sib (mg Me) Me.pc) B T) := Lib.hid (by
    have hb : Below y12.heap.size y12 (y13.alloc (.cells (tab 32 fun i => bv ((ofX Mh) i)) 31)) := bl HB13.out (ba _ _)
    exact ⟨bl H12.out.1 hb, H12.out.2.1.below hb, H12.out.2.2.1.below hb, IsTab.below H12.out.2.2.2.1 hb, H12.out.2.2.2.2.kept (S := fun _ => False) (Kept.ofBelow hb) (fun k e => e.elim)⟩)
  clear H12 HB13 HLC HLS
  generalize (y13.alloc (.cells (tab 32 fun i => bv ((ofX Mh) i)) 31)) = y14 at *
  generalize y13.heap.size = q16 at *
  have HLC := Lib.hid (load32r H14.out.2.1)
  have HL12 := Lib.hid (load32h H14.out.2.2.1)
  go_upto_region 13 with (first
    | (go_at_call 10; (with_reducible refine (HIS31.out _).mono ?_); rintro e yz ⟨he, hy⟩; obtain rfl : e = _ := he; obtain rfl : _ = yz := hy)
    | ((with_reducible refine wpList_loadE (P := Tryd.prog) (w := y14) (ty := 31) (x := .tmp 12) (p := .pointer (some ⟨q12, 0, none⟩)) (v := dv (ofX Me)) ?_ ?_ ?_ HL12.out ?_); (· exact rfl); (· exact rfl); (· exact rfl))
    | ((with_reducible refine wpList_loadE (P := Tryd.prog) (w := y14) (ty := 22) (x := .tmp 2) (p := .pointer (some ⟨q2, 0, none⟩)) (v := dv (ofX Me)) ?_ ?_ ?_ HLC.out ?_); (· exact rfl); (· exact rfl); (· exact rfl))
    | (refine wpList_eqG (by go_simp) (.tmp 66) (.tmp 67) 31 (ofX Me) (ofX Me) rfl rfl rfl ?_; rw [same_refl]))
  clear HLC
  have HLS := Lib.hid (loadSt H14.out.2.2.2.1)
  have hv0 := verify_halt y14 a c B T Me (fun _ => 0#8) ok_Me (ktab_below HT.out H14.out.1) rfl (by show (0 : Nat) < 8192; decide) (by rw [mem_Me]; decide) (by rw [mem_Me]; decide) H14.out.2.2.2.2
  rw [show stopH { Me with pc := Me.pc + 1 } (Me.reg (pA (Me.mem Me.pc))) = Mh from rfl] at hv0
  have HV := Lib.hid hv0
  clear hv0
  rw [HSV.out] at HLS HV
  go_upto_region 14 with (first
    | ((with_reducible refine wpList_loadE (P := Tryd.prog) (w := y14) (ty := 31) (x := .tmp 12) (p := .pointer (some ⟨q12, 0, none⟩)) (v := dv (ofX Me)) ?_ ?_ ?_ HL12.out ?_); (· exact rfl); (· exact rfl); (· exact rfl))
    | ((with_reducible refine wpList_loadE (P := Tryd.prog) (w := y14) (ty := 40) (x := .tmp 14) (p := .pointer (some ⟨q14, 0, none⟩)) (v := .agg sv) ?_ ?_ ?_ HLS.out ?_); (· exact rfl); (· exact rfl); (· exact rfl))
    | (go_at_call 9; (with_reducible refine HV.out.mono ?_); rintro e y15 ⟨he, hb⟩; obtain rfl : e = _ := he; have HB15 := Lib.hid hb; clear hb HV)
    | ((with_reducible refine wpList_store_row (P := Tryd.prog) (w := y15.alloc (.cells zh 31)) ?_ 31 (.tmp 18) (.tmp 74) ?_ y15.heap.size (tab 32 fun i => bv (ofX Mh i)) ?_ ?_ 31 zh (heap_alloc_last y15 _) (infH _) ?_ (one_bv _ _) ?_); (· exact rfl); (· exact rfl); (· exact rfl); (· exact rfl); (· rw [HZI.out.2.2, tab_size]); rw [World.setRow_alloc_new]; simp only [Act.put]))
  have H16 : Hid (Below w.heap.size w (y15.alloc (.cells (tab 32 fun i => bv (ofX Mh i)) 31)) ∧ (IsTab (y15.alloc (.cells (tab 32 fun i => bv (ofX Mh i)) 31)) q12 31 32 fun i => bv (ofX Me i)) ∧ (IsTab (y15.alloc (.cells (tab 32 fun i => bv (ofX Mh i)) 31)) y15.heap.size 31 32 fun i => bv (ofX Mh i)) ∧ IsSt (y15.alloc (.cells (tab 32 fun i => bv (ofX Mh i)) 31)) q14 (mroot Me) Me (.slice (some ⟨a, 0, none⟩) 1 c) (fun _ => 0#8)) := Lib.hid (by
    have hb : Below y14.heap.size y14 (y15.alloc (.cells (tab 32 fun i => bv (ofX Mh i)) 31)) := bl HB15.out (ba _ _)
    exact ⟨bl H14.out.1 hb, H14.out.2.2.1.below hb, IsTab.new y15 _ 32 _, IsTab.below H14.out.2.2.2.1 hb⟩)
  clear H14 HB15 HL12 HLS
  generalize (y15.alloc (.cells (tab 32 fun i => bv (ofX Mh i)) 31)) = y16 at *
  generalize y15.heap.size = q18 at *
  have HNS := Lib.hid (halts_not)
  have HL12 := Lib.hid (load32h H16.out.2.1)
  have HL18 := Lib.hid (load32h H16.out.2.2.1)
  have k51 := IsSt.k51 H16.out.2.2.2
  go_wp2_with (first
    | (go_at_call 10; (with_reducible refine (HIS1.out _).mono ?_); rintro e yz ⟨he, hy⟩; obtain rfl : e = _ := he; obtain rfl : _ = yz := hy)
    | (go_at_call 10; (with_reducible refine (HIS31.out _).mono ?_); rintro e yz ⟨he, hy⟩; obtain rfl : e = _ := he; obtain rfl : _ = yz := hy)
    | ((with_reducible refine wpList_loadG (P := Tryd.prog) (w := y16) (ty := 31) (x := .tmp 18) (p := .pointer (some ⟨q18, 0, none⟩)) (v := dv (ofX Mh)) ?_ ?_ ?_ HL18.out ?_); rotate_left; (· exact rfl); (· exact rfl); rotate_left; (· go_simp))
    | ((with_reducible refine wpList_loadG (P := Tryd.prog) (w := y16) (ty := 31) (x := .tmp 12) (p := .pointer (some ⟨q12, 0, none⟩)) (v := dv (ofX Me)) ?_ ?_ ?_ HL12.out ?_); rotate_left; (· exact rfl); (· exact rfl); rotate_left; (· go_simp))
    | (refine wpList_eqG (by go_simp) (.tmp 98) (.tmp 99) 31 (ofX Mh) (ofX Me) rfl rfl rfl ?_; rw [HNS.out]))
  exact bodyPost_ret (v := .bool true) (by simp [results, Tryd.results3, go_sem]) rfl ⟨rfl, H16.out.1⟩
set_option maxHeartbeats 8000000 in
set_option maxRecDepth 100000 in
theorem nil_f0 (w : World) (C : Hx) (hs : same32 (ofX Me) C = false) (ht : Laid.KTab w) :
    Calls Tryd.prog 3 #[dv C, .bool false] w fun e w' => e = .returned (.bool true) ∧ Below w.heap.size w w' := by
  have HT := Lib.hid ht
  have HSM := Lib.hid hs
  clear hs
  have HIS1 := Lib.hid (fun y : World => (show Calls Tryd.prog 10 #[.iface 49 (.int .i64 1), .iface 49 (.int .i64 1)] y fun e w' => e = .returned (.bool true) ∧ y = w' from Err.is_num 1 1 y))
  have HIS31 := Lib.hid (fun y : World => (show Calls Tryd.prog 10 #[.iface 49 (.int .i64 31), .iface 49 (.int .i64 31)] y fun e w' => e = .returned (.bool true) ∧ y = w' from Err.is_num 31 31 y))
  obtain ⟨zs, hz1, hz2, hz3, z81, HPN1, HPN2⟩ := prove_nils w
  have HZS := Lib.hid (And.intro hz1 (And.intro hz2 hz3))
  clear ht hz1 hz2 hz3
  have z2 := zeroHash
  have HBH := Lib.hid (fun u : World => buildH0 u)
  generalize hz : (tab 32 fun _ => bv 0#8) = zh at *
  have HZ := Lib.hid hz
  clear hz
  have HZI : Hid ((Tryd.prog.info? 31).map (·.size) = some zh.size ∧ zh.all (·.oneCell') = true ∧ zh.size = 32) := Lib.hid ⟨by rw [← HZ.out]; exact infH _, by rw [← HZ.out]; exact one_bv _ _, by rw [← HZ.out, tab_size]⟩
  obtain ⟨ch, hch⟩ : ∃ ch, (tab 32 fun i => bv (C i)) = ch := ⟨_, rfl⟩
  have HCH := Lib.hid hch
  have H0 : Hid ((IsTab (w.alloc (.cells ch 22)) w.heap.size 22 32 fun i => bv (C i)) ∧ Below w.heap.size w (w.alloc (.cells ch 22))) := Lib.hid ⟨by rw [← hch]; exact IsTab.new w 22 32 _, ba _ _⟩
  rw [show dv C = .agg ch from by rw [← hch]; rfl]
  clear hch
  go_enter Tryd.func3, Tryd.ntmps3
  go_upto_region 1 with (fail)
  generalize w.alloc (.cells ch 22) = y0 at *
  obtain ⟨q2, hq2⟩ : ∃ q2, w.heap.size = q2 := ⟨_, rfl⟩
  have HQ2 := Lib.hid hq2
  have H0 : Hid ((IsTab y0 q2 22 32 fun i => bv (C i)) ∧ Below w.heap.size w y0) := Lib.hid (by have h := H0.out; rw [← hq2]; exact h)
  rw [hq2]
  clear hq2
  have HL := Lib.hid (load_zero y0 none 0 fun _ => 0)
  go_upto_region 2 with (go_at_call 4; (with_reducible refine HL.out.mono ?_); rintro e y1 ⟨he, hm, hb⟩; obtain rfl : e = _ := he; have H1 : Hid (IsMac y1 y0.heap.size Me ∧ Below w.heap.size w y1 ∧ (IsTab y1 q2 22 32 fun i => bv (C i)) ∧ w.heap.size ≤ y0.heap.size ∧ q2 < y0.heap.size) := Lib.hid ⟨hm, bl H0.out.2 hb, H0.out.1.below hb, H0.out.2.size, IsTab.lt H0.out.1⟩; clear hm hb HL)
  clear H0
  generalize y0.heap.size = b at *
  have hT1 := ktab_below HT.out H1.out.2.1
  have HN1 := Lib.hid (New_walk y1 hT1 (lowB_le' hT1))
  clear hT1
  go_upto_region 3 with (go_at_call 5; (with_reducible refine HN1.out.mono ?_); rintro e y2 ⟨s, T1, k1, f1, he, hst, hb, hF, hTl, hkt⟩; obtain rfl : e = _ := he; have H2 : Hid (IsMac y2 b Me ∧ Below w.heap.size w y2 ∧ (IsTab y2 q2 22 32 fun i => bv (C i))) := Lib.hid ⟨H1.out.1.below hb, bl H1.out.2.1 hb, H1.out.2.2.1.below hb⟩; clear hst hb hF hTl hkt HN1)
  have HFX := Lib.hid (fixed15_walk y2 (ktab_below HT.out H2.out.2.1))
  go_upto_region 5 with (go_at_call 6; (with_reducible refine HFX.out.mono ?_); rintro e y3 ⟨he, hb⟩; obtain rfl : e = _ := he; have H3 : Hid (IsMac y3 b Me ∧ Below w.heap.size w y3 ∧ (IsTab y3 q2 22 32 fun i => bv (C i))) := Lib.hid ⟨H2.out.1.below hb, bl H2.out.2.1 hb, H2.out.2.2.below hb⟩; clear hb HFX)
  clear H2
  have HBQ := Lib.hid H1.out.2.2.2
  clear H1
  go_upto_region 6 with (first
    | (go_at_call 7; (with_reducible refine (HPN1.out _ _).mono ?_); rintro e y4 ⟨he, hb⟩; obtain rfl : e = _ := he; have HB4 := Lib.hid hb; clear hb)
    | ((with_reducible refine wpList_store_row (P := Tryd.prog) (w := y4.alloc (.cells zs 40)) ?_ 40 (.tmp 8) (.tmp 38) ?_ y4.heap.size zs ?_ ?_ 40 zs (heap_alloc_last y4 _) HZS.out.2.2 ?_ HZS.out.2.1 ?_); (· exact rfl); (· exact rfl); (· exact rfl); (· exact rfl); (· exact rfl); rw [World.setRow_alloc_new]; simp only [Act.put]))
  have H5 : Hid (IsMac (y4.alloc (.cells zs 40)) b Me ∧ Below w.heap.size w (y4.alloc (.cells zs 40)) ∧ (IsTab (y4.alloc (.cells zs 40)) q2 22 32 fun i => bv (C i))) := Lib.hid (by
    have hb : Below y3.heap.size y3 (y4.alloc (.cells zs 40)) := bl HB4.out (ba _ _)
    exact ⟨H3.out.1.below hb, bl H3.out.2.1 hb, H3.out.2.2.below hb⟩)
  clear H3 HB4
  generalize (y4.alloc (.cells zs 40)) = y5 at *
  generalize y4.heap.size = q8 at *
  go_upto_region 7 with (first
    | (go_at_call 7; (with_reducible refine (HPN2.out _ _).mono ?_); rintro e y6 ⟨he, hb⟩; obtain rfl : e = _ := he; have HB6 := Lib.hid hb; clear hb)
    | ((with_reducible refine wpList_store_row (P := Tryd.prog) (w := y6.alloc (.cells zs 40)) ?_ 40 (.tmp 10) (.tmp 43) ?_ y6.heap.size zs ?_ ?_ 40 zs (heap_alloc_last y6 _) HZS.out.2.2 ?_ HZS.out.2.1 ?_); (· exact rfl); (· exact rfl); (· exact rfl); (· exact rfl); (· exact rfl); rw [World.setRow_alloc_new]; simp only [Act.put]))
  have H7 : Hid (IsMac (y6.alloc (.cells zs 40)) b Me ∧ Below w.heap.size w (y6.alloc (.cells zs 40)) ∧ (IsTab (y6.alloc (.cells zs 40)) q2 22 32 fun i => bv (C i))) := Lib.hid (by
    have hb : Below y5.heap.size y5 (y6.alloc (.cells zs 40)) := bl HB6.out (ba _ _)
    exact ⟨H5.out.1.below hb, bl H5.out.2.1 hb, H5.out.2.2.below hb⟩)
  clear H5 HB6 HPN1 HPN2
  generalize (y6.alloc (.cells zs 40)) = y7 at *
  generalize y6.heap.size = q10 at *
  have kh := H7.out.1.halted
  have fh := H7.out.1.fz 8209
  have H8 : Hid (IsMac (y7.setCell ⟨b, 8209, none⟩ (.bool false)) b Me ∧ Below w.heap.size w (y7.setCell ⟨b, 8209, none⟩ (.bool false)) ∧ (IsTab (y7.setCell ⟨b, 8209, none⟩ (.bool false)) q2 22 32 fun i => bv (C i))) := Lib.hid ⟨H7.out.1.setHalted false, H7.out.2.1.setCell HBQ.out.1 _, IsTab.keep H7.out.2.2 (by have := HBQ.out.2; omega)⟩
  go_upto_region 8 with (fail)
  clear kh fh H7
  generalize y7.setCell ⟨b, 8209, none⟩ (.bool false) = y8 at *
  have HOF := Lib.hid (of_ok y8 b Me H8.out.1 ok_Me.mem (ok_w ok_Me) (ktab_below HT.out H8.out.2.1))
  go_upto_region 9 with (first
    | (go_at_call 8; (with_reducible refine HOF.out.mono ?_); rintro e y9 ⟨he, hb⟩; obtain rfl : e = _ := he; have HB9 := Lib.hid hb; clear hb HOF)
    | ((with_reducible refine wpList_store_row (P := Tryd.prog) (w := y9.alloc (.cells zh 31)) ?_ 31 (.tmp 12) (.tmp 52) ?_ y9.heap.size (tab 32 fun i => bv (ofX Me i)) ?_ ?_ 31 zh (heap_alloc_last y9 _) (infH _) ?_ (one_bv _ _) ?_); (· exact rfl); (· exact rfl); (· exact rfl); (· exact rfl); (· rw [HZI.out.2.2, tab_size]); rw [World.setRow_alloc_new]; simp only [Act.put]))
  have H10 : Hid (IsMac (y9.alloc (.cells (tab 32 fun i => bv (ofX Me i)) 31)) b Me ∧ Below w.heap.size w (y9.alloc (.cells (tab 32 fun i => bv (ofX Me i)) 31)) ∧ (IsTab (y9.alloc (.cells (tab 32 fun i => bv (ofX Me i)) 31)) q2 22 32 fun i => bv (C i)) ∧ (IsTab (y9.alloc (.cells (tab 32 fun i => bv (ofX Me i)) 31)) y9.heap.size 31 32 fun i => bv (ofX Me i))) := Lib.hid (by
    have hb : Below y8.heap.size y8 (y9.alloc (.cells (tab 32 fun i => bv (ofX Me i)) 31)) := bl HB9.out (ba _ _)
    exact ⟨H8.out.1.below hb, bl H8.out.2.1 hb, H8.out.2.2.below hb, IsTab.new y9 _ 32 _⟩)
  clear H8 HB9
  generalize (y9.alloc (.cells (tab 32 fun i => bv (ofX Me i)) 31)) = y10 at *
  generalize y9.heap.size = q12 at *
  have HPR := Lib.hid (prove_halt y10 b s Me H10.out.1 ok_Me (ktab_below HT.out H10.out.2.1) rfl (by show (0 : Nat) < 8192; decide) (by rw [mem_Me]; decide) (by rw [mem_Me]; decide))
  go_upto_region 10 with (first
    | (go_at_call 7; (with_reducible refine HPR.out.mono ?_); rintro e y11 ⟨a, c, he, ⟨B, T, hpf⟩, hb⟩; obtain rfl : e = _ := he; have HB11 := Lib.hid (And.intro hb hpf); clear hb HPR hpf)
    | ((with_reducible refine wpList_store_row (P := Tryd.prog) (w := y11.alloc (.cells zs 40)) ?_ 40 (.tmp 14) (.tmp 58) ?_ y11.heap.size (tab 116 (stv (mroot Me) Me (.slice (some ⟨a, 0, none⟩) 1 c) (fun _ => 0#8))) ?_ ?_ 40 zs (heap_alloc_last y11 _) (infSt _) ?_ (oneSt _ _ _ _ _ _) ?_); (· exact rfl); (· exact rfl); (· exact rfl); (· exact rfl); (· rw [HZS.out.1, tab_size]); rw [World.setRow_alloc_new]; simp only [Act.put]))
  have H12 : Hid (Below w.heap.size w (y11.alloc (.cells (tab 116 (stv (mroot Me) Me (.slice (some ⟨a, 0, none⟩) 1 c) (fun _ => 0#8))) 40)) ∧ (IsTab (y11.alloc (.cells (tab 116 (stv (mroot Me) Me (.slice (some ⟨a, 0, none⟩) 1 c) (fun _ => 0#8))) 40)) q2 22 32 fun i => bv (C i)) ∧ (IsTab (y11.alloc (.cells (tab 116 (stv (mroot Me) Me (.slice (some ⟨a, 0, none⟩) 1 c) (fun _ => 0#8))) 40)) q12 31 32 fun i => bv (ofX Me i)) ∧ IsSt (y11.alloc (.cells (tab 116 (stv (mroot Me) Me (.slice (some ⟨a, 0, none⟩) 1 c) (fun _ => 0#8))) 40)) y11.heap.size (mroot Me) Me (.slice (some ⟨a, 0, none⟩) 1 c) (fun _ => 0#8) ∧ Pf1 (y11.alloc (.cells (tab 116 (stv (mroot Me) Me (.slice (some ⟨a, 0, none⟩) 1 c) (fun _ => 0#8))) 40)) (.slice (some ⟨a, 0, none⟩) 1 c) (Me.mem Me.pc) (sib (mg Me) Me.pc) B T) := Lib.hid (by
    have hb : Below y10.heap.size y10 (y11.alloc (.cells (tab 116 (stv (mroot Me) Me (.slice (some ⟨a, 0, none⟩) 1 c) (fun _ => 0#8))) 40)) := bl HB11.out.1 (ba _ _)
    exact ⟨bl H10.out.2.1 hb, H10.out.2.2.1.below hb, H10.out.2.2.2.below hb, IsTab.new y11 40 116 _, HB11.out.2.kept (S := fun _ => False) (Kept.ofBelow (ba _ _)) (fun k e => e.elim)⟩)
  clear H10 HB11
  generalize (y11.alloc (.cells (tab 116 (stv (mroot Me) Me (.slice (some ⟨a, 0, none⟩) 1 c) (fun _ => 0#8))) 40)) = y12 at *
  generalize y11.heap.size = q14 at *
  have HLC := Lib.hid (load32r H12.out.2.1)
  have HLS := Lib.hid (loadSt H12.out.2.2.2.1)
  have HV := Lib.hid (verify_no y12 C (mroot Me) Me (some ⟨a, 0, none⟩) 1 c (fun _ => 0#8) (ok_w ok_Me) (ktab_below HT.out H12.out.1) HSM.out)
  obtain ⟨sv, hsv⟩ : ∃ sv, (tab 116 (stv (mroot Me) Me (.slice (some ⟨a, 0, none⟩) 1 c) (fun _ => 0#8))) = sv := ⟨_, rfl⟩
  have HSV := Lib.hid hsv
  rw [hsv] at HLS HV
  clear hsv
  go_upto_region 11 with (first
    | ((with_reducible refine wpList_loadE (P := Tryd.prog) (w := y12) (ty := 22) (x := .tmp 2) (p := .pointer (some ⟨q2, 0, none⟩)) (v := dv C) ?_ ?_ ?_ HLC.out ?_); (· exact rfl); (· exact rfl); (· exact rfl))
    | ((with_reducible refine wpList_loadE (P := Tryd.prog) (w := y12) (ty := 40) (x := .tmp 14) (p := .pointer (some ⟨q14, 0, none⟩)) (v := .agg sv) ?_ ?_ ?_ HLS.out ?_); (· exact rfl); (· exact rfl); (· exact rfl))
    | (go_at_call 9; (with_reducible refine HV.out.mono ?_); rintro e y13 ⟨he, hb⟩; obtain rfl : e = _ := he; have HB13 := Lib.hid hb; clear hb HV)
    | ((with_reducible refine wpList_store_row (P := Tryd.prog) (w := y13.alloc (.cells zh 31)) ?_ 31 (.tmp 16) (.tmp 64) ?_ y13.heap.size (tab 32 fun i => bv ((fun _ => 0#8) i)) ?_ ?_ 31 zh (heap_alloc_last y13 _) (infH _) ?_ (one_bv _ _) ?_); (· exact rfl); (· exact rfl); (· exact rfl); (· exact rfl); (· rw [HZI.out.2.2, tab_size]); rw [World.setRow_alloc_new]; simp only [Act.put]))
  have H14 : Hid (Below w.heap.size w (y13.alloc (.cells (tab 32 fun i => bv ((fun _ => 0#8) i)) 31)) ∧ (IsTab (y13.alloc (.cells (tab 32 fun i => bv ((fun _ => 0#8) i)) 31)) q2 22 32 fun i => bv (C i)) ∧ (IsTab (y13.alloc (.cells (tab 32 fun i => bv ((fun _ => 0#8) i)) 31)) q12 31 32 fun i => bv (ofX Me i)) ∧ IsSt (y13.alloc (.cells (tab 32 fun i => bv ((fun _ => 0#8) i)) 31)) q14 (mroot Me) Me (.slice (some ⟨a, 0, none⟩) 1 c) (fun _ => 0#8) ∧ Pf1 (y13.alloc (.cells (tab 32 fun i => bv ((fun _ => 0#8) i)) 31)) (.slice (some ⟨a, 0, none⟩) 1 c) (Me.mem Me.pc) (sib (mg Me) Me.pc) B T) := Lib.hid (by
    have hb : Below y12.heap.size y12 (y13.alloc (.cells (tab 32 fun i => bv ((fun _ => 0#8) i)) 31)) := bl HB13.out (ba _ _)
    exact ⟨bl H12.out.1 hb, H12.out.2.1.below hb, H12.out.2.2.1.below hb, IsTab.below H12.out.2.2.2.1 hb, H12.out.2.2.2.2.kept (S := fun _ => False) (Kept.ofBelow hb) (fun k e => e.elim)⟩)
  clear H12 HB13 HLC HLS
  generalize (y13.alloc (.cells (tab 32 fun i => bv ((fun _ => 0#8) i)) 31)) = y14 at *
  generalize y13.heap.size = q16 at *
  have HLC := Lib.hid (load32r H14.out.2.1)
  have HL12 := Lib.hid (load32h H14.out.2.2.1)
  go_upto_if 68 with (first
    | ((with_reducible refine wpList_loadE (P := Tryd.prog) (w := y14) (ty := 31) (x := .tmp 12) (p := .pointer (some ⟨q12, 0, none⟩)) (v := dv (ofX Me)) ?_ ?_ ?_ HL12.out ?_); (· exact rfl); (· exact rfl); (· exact rfl))
    | ((with_reducible refine wpList_loadE (P := Tryd.prog) (w := y14) (ty := 22) (x := .tmp 2) (p := .pointer (some ⟨q2, 0, none⟩)) (v := dv C) ?_ ?_ ?_ HLC.out ?_); (· exact rfl); (· exact rfl); (· exact rfl))
    | ((with_reducible refine wpList_eqG ?_ (.tmp 66) (.tmp 67) 31 (ofX Me) C ?_ ?_ ?_ ?_); (· go_simp); (· exact rfl); (· exact rfl); (· exact rfl); rw [HSM.out]))
  refine wp_cond_false rfl ?_
  go_upto_region 13 with (fail)
  clear HLC
  have HLS := Lib.hid (loadSt H14.out.2.2.2.1)
  have hv0 := verify_halt y14 a c B T Me (fun _ => 0#8) ok_Me (ktab_below HT.out H14.out.1) rfl (by show (0 : Nat) < 8192; decide) (by rw [mem_Me]; decide) (by rw [mem_Me]; decide) H14.out.2.2.2.2
  rw [show stopH { Me with pc := Me.pc + 1 } (Me.reg (pA (Me.mem Me.pc))) = Mh from rfl] at hv0
  have HV := Lib.hid hv0
  clear hv0
  rw [HSV.out] at HLS HV
  go_upto_region 14 with (first
    | ((with_reducible refine wpList_loadE (P := Tryd.prog) (w := y14) (ty := 31) (x := .tmp 12) (p := .pointer (some ⟨q12, 0, none⟩)) (v := dv (ofX Me)) ?_ ?_ ?_ HL12.out ?_); (· exact rfl); (· exact rfl); (· exact rfl))
    | ((with_reducible refine wpList_loadE (P := Tryd.prog) (w := y14) (ty := 40) (x := .tmp 14) (p := .pointer (some ⟨q14, 0, none⟩)) (v := .agg sv) ?_ ?_ ?_ HLS.out ?_); (· exact rfl); (· exact rfl); (· exact rfl))
    | (go_at_call 9; (with_reducible refine HV.out.mono ?_); rintro e y15 ⟨he, hb⟩; obtain rfl : e = _ := he; have HB15 := Lib.hid hb; clear hb HV)
    | ((with_reducible refine wpList_store_row (P := Tryd.prog) (w := y15.alloc (.cells zh 31)) ?_ 31 (.tmp 18) (.tmp 74) ?_ y15.heap.size (tab 32 fun i => bv (ofX Mh i)) ?_ ?_ 31 zh (heap_alloc_last y15 _) (infH _) ?_ (one_bv _ _) ?_); (· exact rfl); (· exact rfl); (· exact rfl); (· exact rfl); (· rw [HZI.out.2.2, tab_size]); rw [World.setRow_alloc_new]; simp only [Act.put]))
  have H16 : Hid (Below w.heap.size w (y15.alloc (.cells (tab 32 fun i => bv (ofX Mh i)) 31)) ∧ (IsTab (y15.alloc (.cells (tab 32 fun i => bv (ofX Mh i)) 31)) q12 31 32 fun i => bv (ofX Me i)) ∧ (IsTab (y15.alloc (.cells (tab 32 fun i => bv (ofX Mh i)) 31)) y15.heap.size 31 32 fun i => bv (ofX Mh i)) ∧ IsSt (y15.alloc (.cells (tab 32 fun i => bv (ofX Mh i)) 31)) q14 (mroot Me) Me (.slice (some ⟨a, 0, none⟩) 1 c) (fun _ => 0#8)) := Lib.hid (by
    have hb : Below y14.heap.size y14 (y15.alloc (.cells (tab 32 fun i => bv (ofX Mh i)) 31)) := bl HB15.out (ba _ _)
    exact ⟨bl H14.out.1 hb, H14.out.2.2.1.below hb, IsTab.new y15 _ 32 _, IsTab.below H14.out.2.2.2.1 hb⟩)
  clear H14 HB15 HL12 HLS
  generalize (y15.alloc (.cells (tab 32 fun i => bv (ofX Mh i)) 31)) = y16 at *
  generalize y15.heap.size = q18 at *
  have HNS := Lib.hid (halts_not)
  have HL12 := Lib.hid (load32h H16.out.2.1)
  have HL18 := Lib.hid (load32h H16.out.2.2.1)
  have k51 := IsSt.k51 H16.out.2.2.2
  go_wp2_with (first
    | (go_at_call 10; (with_reducible refine (HIS1.out _).mono ?_); rintro e yz ⟨he, hy⟩; obtain rfl : e = _ := he; obtain rfl : _ = yz := hy)
    | (go_at_call 10; (with_reducible refine (HIS31.out _).mono ?_); rintro e yz ⟨he, hy⟩; obtain rfl : e = _ := he; obtain rfl : _ = yz := hy)
    | ((with_reducible refine wpList_loadG (P := Tryd.prog) (w := y16) (ty := 31) (x := .tmp 18) (p := .pointer (some ⟨q18, 0, none⟩)) (v := dv (ofX Mh)) ?_ ?_ ?_ HL18.out ?_); rotate_left; (· exact rfl); (· exact rfl); rotate_left; (· go_simp))
    | ((with_reducible refine wpList_loadG (P := Tryd.prog) (w := y16) (ty := 31) (x := .tmp 12) (p := .pointer (some ⟨q12, 0, none⟩)) (v := dv (ofX Me)) ?_ ?_ ?_ HL12.out ?_); rotate_left; (· exact rfl); (· exact rfl); rotate_left; (· go_simp))
    | (refine wpList_eqG (by go_simp) (.tmp 98) (.tmp 99) 31 (ofX Mh) (ofX Me) rfl rfl rfl ?_; rw [HNS.out]))
  exact bodyPost_ret (v := .bool true) (by simp [results, Tryd.results3, go_sem]) rfl ⟨rfl, H16.out.1⟩
theorem dv_same {x y : Hx} (h : same32 x y = true) : dv y = dv x := by
  show Value.agg (tab 32 fun i => bv (y i)) = .agg (tab 32 fun i => bv (x i))
  exact congrArg Value.agg (tab_cong fun i hi => by rw [(same32_iff x y).1 h i hi])
theorem onestepNil_walk (C : Hx) (h : Bool) {w : World} (ht : Laid.KTab w) :
    Calls Tryd.prog 3 #[dv C, .bool h] w fun e w' => e = .returned (.bool true) ∧ Below w.heap.size w w' := by
  cases h with
  | true =>
    cases hs : same32 (ofX Mt) C with
    | true => rw [dv_same hs]; exact nil_t1 w ht
    | false => exact nil_t0 w C hs ht
  | false =>
    cases hs : same32 (ofX Me) C with
    | true => rw [dv_same hs]; exact nil_f1 w ht
    | false => exact nil_f0 w C hs ht
end Os
end Go.Proofs.YtnaamljflcgepaaDoor
