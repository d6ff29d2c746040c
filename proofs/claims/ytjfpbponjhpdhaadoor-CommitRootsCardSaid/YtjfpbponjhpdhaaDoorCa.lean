/-
  Layer 11: Leaf, leavesOf, Root. Written by genCa.py. Own work.
-/
import Derived.Test.YtjfpbponjhpdhaaDoorCl
namespace Go.Proofs.YtjfpbponjhpdhaaDoor
open Go.RowKit
set_option linter.unusedVariables false
set_option linter.unusedSimpArgs false
namespace Co
open Kc Mk Vm
theorem buildH0 (w : World) : (Instr.build 42 #[]).run Tryd.prog w = .ok (.agg (tab 32 fun _ => bv 0#8)) w := by kernel_rfl
theorem ba (w : World) (o : Obj) : Below w.heap.size w (w.alloc o) := (Below.refl _ _).alloc (Nat.le_refl _) _
set_option maxHeartbeats 2000000 in
set_option maxRecDepth 100000 in
theorem leaf_walk (w : World) (v : Nat) (hv : v < 18446744073709551616) :
    Calls Tryd.prog 42 #[.int .u64 v] w fun e w' => e = .returned (dv (lfX v)) ∧ Below w.heap.size w w' := by
  have HV := Lib.hid hv
  clear hv
  have z2 := zeroHash
  have HBH := Lib.hid (fun u : World => buildH0 u)
  generalize hz : (tab 32 fun _ => bv 0#8) = zh at *
  have HZ := Lib.hid hz
  clear hz
  have HZI : Hid ((Tryd.prog.info? 42).map (·.size) = some zh.size ∧ zh.all (·.oneCell') = true ∧ zh.size = 32) := Lib.hid ⟨by rw [← HZ.out]; exact infH _, by rw [← HZ.out]; exact one_bv _ _, by rw [← HZ.out, tab_size]⟩
  go_enter Tryd.func42, Tryd.ntmps42
  go_upto_region 1 with (fail)
  have H0 : Hid (IsTab (w.alloc (.cells zh 42)) w.heap.size 42 32 (fun _ => bv 0#8) ∧ Below w.heap.size w (w.alloc (.cells zh 42)) ∧ w.heap.size < (w.alloc (.cells zh 42)).heap.size) := Lib.hid ⟨put_new w (fun _ => 0#8) zh HZ.out, ba _ _, by simp⟩
  generalize w.alloc (.cells zh 42) = y0 at *
  generalize hq : w.heap.size = q0 at *
  have HQ := Lib.hid hq
  clear hq
  go_upto_region 2 with (first
    | ((with_reducible refine wpList_buildM (P := Tryd.prog) (w := y0) ?_ 42 ?_ (.agg zh) (HBH.out y0) ?_); (· exact rfl); (· exact rfl))
    | ((with_reducible refine wpList_store_row (P := Tryd.prog) (w := y0.alloc (.cells zh 42)) ?_ 42 (.tmp 3) (.tmp 4) ?_ y0.heap.size zh ?_ ?_ 42 zh (heap_alloc_last y0 _) HZI.out.1 ?_ HZI.out.2.1 ?_); (· exact rfl); (· exact rfl); (· exact rfl); (· exact rfl); (· exact rfl); rw [World.setRow_alloc_new]; simp only [Act.put]))
  have H1 : Hid (IsTab (y0.alloc (.cells zh 42)) y0.heap.size 42 32 (fun _ => bv 0#8) ∧ IsTab (y0.alloc (.cells zh 42)) q0 42 32 (fun _ => bv 0#8) ∧ Below q0 w (y0.alloc (.cells zh 42)) ∧ q0 < y0.heap.size) := Lib.hid ⟨put_new y0 (fun _ => 0#8) zh HZ.out, H0.out.1.alloc _, H0.out.2.1.alloc (by have := H0.out.2.2; omega) _, H0.out.2.2⟩
  clear H0
  generalize y0.alloc (.cells zh 42) = y1 at *
  generalize y0.heap.size = q1 at *
  have s1 := slHA q1
  have hp := Rl.put_walk y1 q1 42 32 32 (fun _ => bv 0#8) 3 v H1.out.1 (by decide) (by decide) HV.out
  rw [show ((3 : Nat) : Int) = 3 from rfl] at hp
  have HP := Lib.hid hp
  clear hp
  go_upto_region 3 with (go_at_call 49; (with_reducible refine HP.out.mono ?_); rintro e y2 ⟨he, hp⟩; obtain rfl : e = _ := he; have HP2 := Lib.hid hp; clear hp HP)
  clear s1
  have H2 : Hid (IsTab y2 q1 42 32 (fun j => bv (lfX v j)) ∧ IsTab y2 q0 42 32 (fun _ => bv 0#8) ∧ Below q0 w y2) := Lib.hid ⟨HP2.out.row.cong fun j _ => put_lf v j, (HP2.out.kept.block q0 H1.out.2.1.lt (by have := H1.out.2.2.2; omega)).trans H1.out.2.1, H1.out.2.2.1.trans (HP2.out.kept.below (by have h1 := H1.out.2.2.1.size; have h2 := H1.out.2.2.2; have h3 := H1.out.1.lt; omega) fun k _ hk => by rw [hk]; exact Nat.le_of_lt H1.out.2.2.2)⟩
  clear H1 HP2
  have D := Lib.hid (load32h H2.out.1)
  go_wp2_with (first
    | ((with_reducible refine wpList_loadE (P := Tryd.prog) (w := y2) (ty := 42) (x := .tmp 3) (p := .pointer (some ⟨q1, 0, none⟩)) (v := dv (lfX v)) ?_ ?_ ?_ D.out ?_); (· exact rfl); (· exact rfl); (· exact rfl))
    | ((with_reducible refine wpList_store_row (P := Tryd.prog) (w := y2) ?_ 42 (.tmp 2) (.tmp 8) ?_ q0 (tab 32 fun i => bv (lfX v i)) ?_ ?_ 42 (tab 32 fun _ => bv 0#8) ?_ (infH _) ?_ (one_bv _ _) ?_); (· exact rfl); (· exact rfl); (· exact rfl); (· exact rfl); (· exact H2.out.2.1); (· rw [tab_size, tab_size])))
  have hr : IsTab (World.setRow y2 q0 (tab 32 fun j => bv (lfX v j))) q0 42 32 fun j => bv (lfX v j) := H2.out.2.1.row
  exact bodyPost_ret (results_cell_row rfl _ _ q0 42 _ (0, 0) _ rfl hr undH rfl (infH _)) rfl ⟨rfl, by rw [HQ.out]; exact below_setRow H2.out.2.2 (Nat.le_refl _) _⟩
theorem made_hc (n : Nat) : madeCells (dv fun _ => 0#8).cells (n * 32) = tab (32 * n) (hc fun _ => Mk.zero 0) := by
  have e : (dv fun _ => 0#8).cells = tab 32 fun _ => bv 0#8 := rfl
  rw [e]
  apply Array.ext
  · rw [size_madeCells, tab_size]; omega
  · intro j h1 h2
    have h3 : j % 32 < 32 := Nat.mod_lt _ (by decide)
    have h4 := tab_at (n := 32) (fun _ => bv 0#8) h3
    have h5 : (tab 32 fun _ => bv 0#8)[j % 32]! = bv 0#8 := by
      rw [Array.getElem!_eq_getD, Array.getD_eq_getD_getElem?, h4]
      rfl
    simp [madeCells, tab_size, h5]
    simp [tab, hc]
    rfl
theorem mkH (n : Nat) (hn : n ≤ 8192) (w : World) : (Instr.makeSlice 52 (.int .i64 (n : Int)) (.int .i64 (n : Int))).run Tryd.prog w = .ok (.slice (some ⟨w.heap.size, 0, none⟩) n n) (w.alloc (.cells (tab (32 * n) (hc fun _ => Mk.zero 0)) 42)) := by
  obtain ⟨i, h1, h2, h3, h4⟩ := infHs
  have hr := run_make (P := Tryd.prog) w 52 42 i (dv fun _ => 0#8) undHs h1 h2 .i64 .i64 n n (by omega) (Int.le_refl _) (by rw [h4]; omega) (by omega)
  simp only [Int.toNat_natCast, h3] at hr
  rw [made_hc] at hr
  exact hr
theorem lv_hc {w : World} {q T n : Nat} {f : Nat → Hx} (h : IsTab w q T (32 * n) (hc f)) : Lv w q T n f := ⟨32 * n, hc f, h, Nat.le_refl _, fun k j hk hj => by
  unfold hc
  rw [show (32 * k + j) / 32 = k from by omega, show (32 * k + j) % 32 = j from by omega]⟩
theorem ixMem (b i : Nat) (hi : i < 8192) (w : World) : (Instr.indexAt 34 (.pointer (some ⟨b, 0, none⟩)) (.int .i64 i)).run Tryd.prog w = .ok (.pointer (some ⟨b, i, none⟩)) w := by
  have h1 : (i : Int) < 8192 := by omega
  simp [go_sem, h1, Tryd.underlying34]
/-- What leavesOf's loop keeps. -/
structure Lp (W : World) (q b : Nat) (M : Mac) (j : Nat) (y : World) : Prop where
  lv : Lv y q 42 8192 fun k => if k < j then lfX (M.mem k) else Mk.zero 0
  mac : IsMac y b M
  below : Below W.heap.size W y
  ge : W.heap.size ≤ q
  lt : b < W.heap.size
theorem lp_step (M : Mac) (j : Nat) : (fun i => if i = j then lfX (M.mem j) else if i < j then lfX (M.mem i) else Mk.zero 0) = fun k => if k < j + 1 then lfX (M.mem k) else Mk.zero 0 := by
  funext k
  by_cases h : k = j
  · subst h; rw [if_pos rfl, if_pos (by omega)]
  · rw [if_neg h]
    by_cases h2 : k < j
    · rw [if_pos h2, if_pos (by omega)]
    · rw [if_neg h2, if_neg (by omega)]
theorem mul32 (j : Nat) : 32 * j = j * 32 := Nat.mul_comm _ _
set_option maxHeartbeats 2000000 in
set_option maxRecDepth 100000 in
theorem leaves_walk (w : World) (b : Nat) (M : Mac) (hm : IsMac w b M) (hok : ∀ i, M.mem i < 18446744073709551616) :
    Calls Tryd.prog 38 #[.pointer (some ⟨b, 0, none⟩)] w fun e w' => ∃ q, e = .returned (.slice (some ⟨q, 0, none⟩) 8192 8192) ∧ IsHs w' (some ⟨q, 0, none⟩) 8192 (mlf M) ∧ w.heap.size ≤ q ∧ Below w.heap.size w w' := by
  have HO := Lib.hid hok
  have hmk := mkH 8192 (Nat.le_refl _) w
  have H0 : Hid (Lp w w.heap.size b M 0 (w.alloc (.cells (tab (32 * 8192) (hc fun _ => Mk.zero 0)) 42))) := Lib.hid ⟨lv_hc (IsTab.new w 42 (32 * 8192) _), hm.below (ba _ _), ba _ _, Nat.le_refl _, hm.lt⟩
  generalize hw1 : w.alloc (.cells (tab (32 * 8192) (hc fun _ => Mk.zero 0)) 42) = w1 at *
  clear hm hok hw1
  generalize hq : w.heap.size = q at *
  have HQ := Lib.hid hq
  clear hq
  rw [show ((8192 : Nat) : Int) = 8192 from rfl] at hmk
  go_enter Tryd.func38, Tryd.ntmps38
  go_upto_region 3 with (fail)
  clear hmk
  go_loopw [6] (fun t y => ∃ j : Nat, t = .int .i64 j ∧ Hid (j ≤ 8192 ∧ Lp w q b M j y)) (fun t _ => 8192 - (intOf t).toNat)
  case atStart => exact ⟨0, rfl, Lib.hid ⟨Nat.zero_le _, H0.out⟩⟩
  case round =>
    obtain ⟨j, rfl, hp⟩ := hrel
    have HP := Lib.hid hp.out
    clear hp H0
    by_cases hlt : (j : Int) < 8192
    · have hlt' : j < 8192 := by omega
      have kc := HP.out.2.mac.mem hlt'
      have HJ : Hid (j + 1 ≤ 8192 ∧ wrap64 ((j : Int) + 1) = ((j + 1 : Nat) : Int)) := Lib.hid ⟨hlt', by unfold wrap64; omega⟩
      have HLF := Lib.hid (leaf_walk wr (M.mem j) (HO.out j))
      clear hlt'
      go_upto_region 6 with (first
        | (go_at_call 42; (with_reducible refine HLF.out.mono ?_); rintro e y1 ⟨he, hb⟩; obtain rfl : e = _ := he; have HB1 := Lib.hid hb; have HN1 : Hid (Lp w q b M j y1) := Lib.hid ⟨HP.out.2.lv.below hb, HP.out.2.mac.below hb, bl HP.out.2.below hb, HP.out.2.ge, HP.out.2.lt⟩; have HTH := Lib.hid (HN1.out.lv.there (k := j) (p := j * 32) (n := 32) HJ.out.1 (by omega) rfl); clear hb HLF)
        | ((with_reducible refine wpList_store_mid (P := Tryd.prog) (w := y1) (ty := 42) (x := .tmp 18) (y := .tmp 17) (b := q) (o := j * 32) (cells := tab 32 fun i => bv (lfX (M.mem j) i)) ?_ ?_ ?_ ?_ ?_ (infH _) (one_bv _ _) ?_); (· exact rfl); (· exact rfl); (· exact rfl); (· exact rfl); (· rw [tab_size]; exact HTH.out)))
      have HN2 : Hid (Lp w q b M (j + 1) (y1.setCells q (j * 32) (tab 32 fun i => bv (lfX (M.mem j) i)).toList)) := Lib.hid ⟨by
          have h := HN1.out.lv.set j (lfX (M.mem j)) (p := j * 32) (by omega)
          rw [lp_step] at h; exact h,
        IsTab.cellsOther (w := y1) (by have h1 := HN1.out.ge; have h2 := HN1.out.lt; omega) _ _ _ HN1.out.mac, below_setCells HN1.out.ge _ _ _ HN1.out.below, HN1.out.ge, HN1.out.lt⟩
      generalize y1.setCells q (j * 32) (tab 32 fun i => bv (lfX (M.mem j) i)).toList = y2 at *
      clear kc HN1 HTH HP
      have hw1 := HJ.out.2
      go_wp2_with (fail)
      go_roundw
      case rel => exact ⟨j + 1, by go_num, Lib.hid ⟨HJ.out.1, HN2.out⟩⟩
      case measure =>
        have := HJ.out.1
        clear hw1
        simp [intOf]; omega
    · obtain rfl : j = 8192 := by have := HP.out.1; omega
      go_wp2_with (fail)
      exact bodyPost_ret (v := .slice (some ⟨q, 0, none⟩) 8192 8192) (by simp [results, Tryd.results38, go_sem]) rfl ⟨q, rfl, .inr ⟨q, 0, rfl, (HP.out.2.lv.cong fun k hk => by rw [if_pos hk]; rfl).at5⟩, Nat.le_refl _, HQ.out ▸ HP.out.2.below⟩
set_option maxHeartbeats 2000000 in
set_option maxRecDepth 100000 in
theorem Root_walk (w : World) (b : Nat) (M : Mac) (hm : IsMac w b M) (hok : ∀ i, M.mem i < 18446744073709551616) (ht : Laid.KTab w) :
    Calls Tryd.prog 12 #[.pointer (some ⟨b, 0, none⟩)] w fun e w' => e = .returned (.tuple #[dv (mroot M), .nilIface]) ∧ Below w.heap.size w w' := by
  have HM := Lib.hid (And.intro hm (And.intro hok ht))
  clear hm hok ht
  have z2 := zeroHash
  have HBH := Lib.hid (fun u : World => buildH0 u)
  generalize hz : (tab 32 fun _ => bv 0#8) = zh at *
  have HZ := Lib.hid hz
  clear hz
  have HZI : Hid ((Tryd.prog.info? 42).map (·.size) = some zh.size ∧ zh.all (·.oneCell') = true ∧ zh.size = 32) := Lib.hid ⟨by rw [← HZ.out]; exact infH _, by rw [← HZ.out]; exact one_bv _ _, by rw [← HZ.out, tab_size]⟩
  go_enter Tryd.func12, Tryd.ntmps12
  go_upto_region 3 with (fail)
  have H0 : Hid (IsTab (w.alloc (.cells zh 42)) w.heap.size 42 32 (fun _ => bv 0#8) ∧ Below w.heap.size w (w.alloc (.cells zh 42))) := Lib.hid ⟨put_new w (fun _ => 0#8) zh HZ.out, ba _ _⟩
  generalize w.alloc (.cells zh 42) = y0 at *
  have HL := Lib.hid (leaves_walk y0 b M (HM.out.1.below H0.out.2) HM.out.2.1)
  generalize hq : w.heap.size = q0 at *
  have HQ := Lib.hid hq
  clear hq
  go_wp2_with (first
    | (go_at_call 38; (with_reducible refine HL.out.mono ?_); rintro e y1 ⟨q, he, hs, hge, hb⟩; obtain rfl : e = _ := he; have HB1 := Lib.hid hb; have hra := root_any 13 (some ⟨q, 0, none⟩) 8192 8192 (mlf M) y1 hs (fun h => by cases h) (Nat.le_refl _) (by decide) (ktab_below HM.out.2.2 (by rw [HQ.out]; exact H0.out.2.trans (hb.mono (by have := H0.out.2.size; have := HQ.out; omega)))); have HR := Lib.hid ((rootOf_mem 8192 (Nat.le_refl _) (mlf M)) ▸ (wrong_mem 8192 (Nat.le_refl _)) ▸ hra); clear hs hge hb HL hra)
    | (go_at_call 37; refine HR.out.mono ?_; rintro e y2 ⟨he, hb⟩; obtain rfl : e = _ := he; have HB2 := Lib.hid hb; have HT2 := Lib.hid ((H0.out.1.below HB1.out).below hb); clear hb HR)
    | ((with_reducible refine wpList_store_row (P := Tryd.prog) (w := y2) ?_ 42 (.tmp 2) (.tmp 11) ?_ q0 (tab 32 fun i => bv (und (ext 8192 (mlf M)) 13 0 i)) ?_ ?_ 42 (tab 32 fun _ => bv 0#8) ?_ (infH _) ?_ (one_bv _ _) ?_); (· exact rfl); (· exact rfl); (· exact rfl); (· exact rfl); (· exact HT2.out); (· rw [tab_size, tab_size])))
  have hr : IsTab (World.setRow y2 q0 (tab 32 fun j => bv (und (ext 8192 (mlf M)) 13 0 j))) q0 42 32 fun j => bv (und (ext 8192 (mlf M)) 13 0 j) := HT2.out.row
  exact bodyPost_ret (Kc.results_cell_tmp rfl _ _ q0 42 _ (0, 0) _ rfl hr undH rfl (infH _) .nilIface rfl) rfl ⟨rfl, by rw [HQ.out]; exact below_setRow ((H0.out.2.trans (HB1.out.mono (by have := H0.out.2.size; have := HQ.out; omega))).trans (HB2.out.mono (by have := H0.out.2.size; have := HB1.out.size; have := HQ.out; omega))) (Nat.le_refl _) _⟩
end Co
end Go.Proofs.YtjfpbponjhpdhaaDoor
