/-
  TxHalves. Own work.
-/
import Derived.Test.YtkhdamjjbjmeaaaDoorVk
import Derived.Test.YtkhdamjjbjmeaaaDoorTxs
import Derived.Test.YtkhdamjjbjmeaaaDoorEqt
import Derived.Test.YtkhdamjjbjmeaaaDoorEqa
import Derived.Test.YtkhdamjjbjmeaaaDoorQin
namespace Go.Proofs.YtkhdamjjbjmeaaaDoor
open Go.ChangeShapes Go.WideShapes Go.Deep Go.RowKit
set_option linter.unusedVariables false
set_option linter.unusedSimpArgs false
namespace Rl
open Kc (tab IsTab)
open Mk (Hx pr dv Lv)
theorem eqlH (x : Hx) (u : World) : (binOp .eql 24 (dv x) (dv x)).run Tryd.prog u = .ok (.bool true) u := by
  have := Kc.eql32 x x u
  rw [Kc.same32_refl] at this
  exact this
theorem dv_hz : dv hz = .agg (tab 32 fun _ => Kc.bv 0#8) := rfl
structure Hv (w : World) (q3 q5 : Nat) (H : Hx) (f : Nat → Hx) (y : World) : Prop where
  below : Below w.heap.size w y
  res : IsTab y q3 24 32 fun i => Kc.bv (H i)
  lv : Lv y q5 30 8 f
  n35 : q3 ≠ q5
  g3 : w.heap.size ≤ q3
  g5 : w.heap.size ≤ q5
section
variable {w y y' : World} {q3 q5 q8 : Nat} {H L : Hx} {f g : Nat → Hx}
theorem Hv.next (h : Hv w q3 q5 H f y) (hb : Below y.heap.size y y') : Hv w q3 q5 H f y' := ⟨bl h.below hb, h.res.below hb, h.lv.below hb, h.n35, h.g3, h.g5⟩
theorem Hv.set (h : Hv w q3 q5 H f y) (k : Nat) (x : Hx) {p : Nat} (hp : p = 32 * k) : Hv w q3 q5 H (fun i => if i = k then x else f i) (y.setCells q5 p (tab 32 fun i => Kc.bv (x i)).toList) :=
  ⟨Mk.below_setCells h.g5 _ _ _ h.below, Mk.IsTab.cellsOther (w := y) h.n35 _ _ _ h.res, h.lv.set k x hp, h.n35, h.g3, h.g5⟩
theorem Hv.rowOther (h : Hv w q3 q5 H f y) (q : Nat) (hq : w.heap.size ≤ q) (h5 : q5 ≠ q) (h3 : q3 ≠ q) (cs : Array Value) : Hv w q3 q5 H f (y.setRow q cs) :=
  ⟨Kc.below_setRow h.below hq cs, h.res.rowOther h3, h.lv.rowOther h5, h.n35, h.g3, h.g5⟩
theorem Hv.cong (h : Hv w q3 q5 H f y) (e : ∀ k, k < 8 → f k = g k) : Hv w q3 q5 H g y := ⟨h.below, h.res, h.lv.cong e, h.n35, h.g3, h.g5⟩
structure Hw (w : World) (q3 q5 q8 : Nat) (H L : Hx) (f : Nat → Hx) (y : World) : Prop where
  hv : Hv w q3 q5 H f y
  b8 : IsTab y q8 24 32 fun i => Kc.bv (L i)
theorem Hw.next (h : Hw w q3 q5 q8 H L f y) (hb : Below y.heap.size y y') : Hw w q3 q5 q8 H L f y' := ⟨h.hv.next hb, h.b8.below hb⟩
end
set_option maxHeartbeats 4000000 in
set_option maxRecDepth 100000 in
theorem txHalves_long (w : World) (a : Option Addr) (n c : Nat) (fs : List (Nat → Nat)) (hT : IsT w a n c fs) (hs : c * 48 ≤ 140737488351232) (h8 : 8 < n) :
    Calls Tryd.prog 3 #[.slice a n c] w fun e w' => e = .returned (.bool true) ∧ Below w.heap.size w w' := by
  have HT := Lib.hid hT
  have HS := Lib.hid (show n * 48 ≤ 140737488351232 by have := hT.2.1; omega)
  have z2 := Kc.zeroHash
  have HCM := Lib.hid (fun (y : World) (a1 : Option Addr) (c1 : Nat) => txCommit_long y a1 n c1 h8)
  rw [dv_hz] at HCM
  unfold eN at HCM
  have e1 : ∀ u : World, (binOp .eql 24 (.agg (tab 32 fun _ => Kc.bv 0#8)) (.agg (tab 32 fun _ => Kc.bv 0#8))).run Tryd.prog u = .ok (.bool true) u := fun u => eqlH hz u
  have e2 : ∀ (x y : Operand) (u : World), (eqGuard .eql 24 x y (.agg (tab 32 fun _ => Kc.bv 0#8)) (.agg (tab 32 fun _ => Kc.bv 0#8))).run Tryd.prog u = .ok () u := fun x y u => Mk.guardE x y hz hz u
  obtain ⟨zh, hzh⟩ : ∃ z, (tab 32 fun _ => Kc.bv 0#8) = z := ⟨_, rfl⟩
  rw [hzh] at z2 HCM e1 e2
  have HE := Lib.hid (And.intro e1 e2)
  have HZ := Lib.hid hzh
  have h1 : (8 : Int) < n := by omega
  clear hzh h8 hT hs e1 e2
  go_enter Tryd.func3, Tryd.ntmps3
  go_upto_region 2 with (first
    | (refine wpList_copyT (w0 := w) rfl (.tmp 10) (.tmp 11) rfl rfl a n c fs rfl HT.out HS.out ?_; rintro a1 c1 y1 hT1 hb1
       have HB1 := Lib.hid hb1
       clear hT1 hb1)
    | (go_at_call 7; (with_reducible refine (HCM.out _ _ _).mono ?_); rintro e y2 ⟨rfl, hb⟩
       have HB2 := Lib.hid (bl HB1.out hb)
       clear hb HCM HB1)
    | (refine wpList_store_row rfl 24 (.tmp 3) (.tmp 14) rfl y2.heap.size zh rfl rfl 24 zh (heap_alloc_last y2 _) (by rw [← HZ.out]; exact Kc.infH _) rfl (by rw [← HZ.out]; exact Kc.one_bv _ _) ?_))
  rw [World.setRow_alloc_new]
  try simp only [Act.put]
  have HT3 : Hid (Below w.heap.size w (y2.alloc (.cells zh 24)) ∧ IsTab (y2.alloc (.cells zh 24)) y2.heap.size 24 32 fun i => Kc.bv (hz i)) := Lib.hid ⟨bl HB2.out (ba _ _), by rw [← HZ.out]; exact IsTab.new y2 _ 32 _⟩
  clear HB2 z2
  generalize y2.alloc (.cells zh 24) = y3 at *
  generalize y2.heap.size = q3 at *
  have z2 := Kc.zeroHash
  rw [HZ.out] at z2
  go_upto_region 3 with (fail)
  have e1 := HE.out.1
  have e2 := HE.out.2
  go_wp2_with (first
    | (go_at_call 8; (with_reducible refine (fixed4_walk y3).mono ?_); rintro e y4 ⟨rfl, hb⟩
       have HB4 := Lib.hid (bl HT3.out.1 hb)
       have L4 : Hid ((Instr.loadAt 24 (.pointer (some ⟨q3, 0, none⟩))).run Tryd.prog y4 = .ok (.agg zh) y4) := Lib.hid (by have := Mk.load32h (HT3.out.2.below hb); rw [dv_hz, HZ.out] at this; exact this)
       clear hb HT3)
    | ((with_reducible refine wpList_loadG (P := Tryd.prog) (w := y4) (ty := 24) (x := .tmp 3) (p := .pointer (some ⟨q3, 0, none⟩)) (v := .agg zh) ?_ ?_ ?_ L4.out ?_); rotate_left; (· exact rfl); (· exact rfl); rotate_left; (· go_simp)))
  go_ret
  exact ⟨rfl, HB4.out⟩
set_option maxHeartbeats 8000000 in
set_option maxRecDepth 100000 in
theorem txHalves_ok (w : World) (a : Option Addr) (n c : Nat) (fs : List (Nat → Nat)) (hT : IsT w a n c fs) (hf : ∀ f ∈ fs, ∀ i, i < 6 → f i < 18446744073709551616) (hs : c * 48 ≤ 140737488351232) (ht : Laid.KTab w) (h8 : n ≤ 8) :
    Calls Tryd.prog 3 #[.slice a n c] w fun e w' => e = .returned (.bool true) ∧ Below w.heap.size w w' := by
  have HT := Lib.hid hT
  have HF := Lib.hid hf
  have HK := Lib.hid ht
  have HS := Lib.hid (show n * 48 ≤ 140737488351232 by have := hT.2.1; omega)
  have HN := Lib.hid (show n = fs.length ∧ n ≤ 8 from ⟨hT.1, h8⟩)
  have HCM := Lib.hid (fun (y : World) (a1 : Option Addr) (c1 : Nat) (h1 : IsT y a1 n c1 fs) (h2 : Laid.KTab y) => txCommit_ok y a1 n c1 fs h1 hf h2 h8)
  have hH := com_eq fs
  obtain ⟨F, hF⟩ : ∃ F, leaf fs = F := ⟨_, rfl⟩
  rw [hF] at hH
  obtain ⟨H, hH2⟩ : ∃ H, com fs = H := ⟨_, rfl⟩
  rw [hH2] at hH HCM
  obtain ⟨L, hL⟩ : ∃ L, pr (pr (F 0) (F 1)) (pr (F 2) (F 3)) = L := ⟨_, rfl⟩
  obtain ⟨R, hR⟩ : ∃ R, pr (pr (F 4) (F 5)) (pr (F 6) (F 7)) = R := ⟨_, rfl⟩
  rw [hL, hR] at hH
  have HH := Lib.hid hH.symm
  have HL := Lib.hid hL
  have HR := Lib.hid hR
  have HF2 := Lib.hid hF
  have z2 := Kc.zeroHash
  obtain ⟨zh, hzh⟩ : ∃ z, (tab 32 fun _ => Kc.bv 0#8) = z := ⟨_, rfl⟩
  rw [hzh] at z2
  have z8 := zero8
  obtain ⟨z9, hz9⟩ : ∃ z, (tab 256 fun _ => Kc.bv 0#8) = z := ⟨_, rfl⟩
  rw [hz9] at z8
  have zp := zeroP4
  obtain ⟨zq, hzq⟩ : ∃ z, tab 64 (fun _ => ub 0) = z := ⟨_, rfl⟩
  rw [hzq] at zp
  have HZ := Lib.hid (And.intro hzh (And.intro hz9 hzq))
  have HZ2 := Lib.hid z2
  have HZ8 := Lib.hid z8
  have HZP := Lib.hid zp
  have h1 : ¬ (8 : Int) < n := by omega
  clear hzh hz9 hzq hT hf ht h8 hH hL hR hF hH2 hs zp z8
  have HZQ : Hid ((Tryd.prog.info? 32).map (·.size) = some zq.size ∧ zq.all (·.oneCell') = true ∧ zq.size = 64) := Lib.hid (by rw [← HZ.out.2.2]; exact ⟨infP4 _, Kc.tab_one fun i => rfl, Kc.tab_size _ _⟩)
  go_enter Tryd.func3, Tryd.ntmps3
  go_upto_region 2 with (first
    | (refine wpList_copyT (w0 := w) rfl (.tmp 10) (.tmp 11) rfl rfl a n c fs rfl HT.out HS.out ?_; rintro a1 c1 y1 hT1 hb1
       have HB1 := Lib.hid hb1
       have HCM := Lib.hid (HCM.out y1 a1 c1 hT1 (Kc.ktab_below HK.out hb1))
       clear hT1 hb1)
    | (go_at_call 7; (with_reducible refine HCM.out.mono ?_); rintro e y2 ⟨rfl, hb⟩
       have HB2 := Lib.hid (bl HB1.out hb)
       clear hb HCM HB1)
    | (refine wpList_store_row rfl 24 (.tmp 3) (.tmp 14) rfl y2.heap.size (tab 32 fun i => Kc.bv (H i)) rfl rfl 24 zh (heap_alloc_last y2 _) (Kc.infH _) (by rw [← HZ.out.1, Kc.tab_size, Kc.tab_size]) (Kc.one_bv _ _) ?_))
  rw [World.setRow_alloc_new]
  try simp only [Act.put]
  have HT3 : Hid (Below w.heap.size w (y2.alloc (.cells (tab 32 fun i => Kc.bv (H i)) 24)) ∧ IsTab (y2.alloc (.cells (tab 32 fun i => Kc.bv (H i)) 24)) y2.heap.size 24 32 (fun i => Kc.bv (H i)) ∧ w.heap.size ≤ y2.heap.size) := Lib.hid ⟨bl HB2.out (ba _ _), IsTab.new y2 _ 32 _, HB2.out.size⟩
  clear HB2 z2
  generalize y2.alloc (.cells (tab 32 fun i => Kc.bv (H i)) 24) = y3 at *
  generalize y2.heap.size = q3 at *
  have z8 := HZ8.out
  go_upto_region 5 with (fail)
  have HC0 : Hid (Hv w q3 y3.heap.size H (fun _ => hz) (y3.alloc (.cells z9 30))) := Lib.hid ⟨bl HT3.out.1 (ba _ _), HT3.out.2.1.alloc _, ⟨256, fun _ => Kc.bv 0#8, by rw [← HZ.out.2.1]; exact IsTab.new y3 _ 256 _, by decide, fun k j _ _ => rfl⟩, by have := HT3.out.2.1.lt; omega, HT3.out.2.2, HT3.out.1.size⟩
  clear HT3 z8 h1
  generalize y3.alloc (.cells z9 30) = y5 at *
  generalize y3.heap.size = q5 at *
  have zp := HZP.out
  go_wp2_with (fail)
  go_loopw [29] (fun i y => ∃ j : Nat, i = .int .i64 j ∧ Hid (j ≤ 8 ∧ ∃ f, Hv w q3 q5 H f y ∧ ∀ k, k < j → f k = F k)) (fun i _ => 8 - (intOf i).toNat)
  case atStart => exact ⟨0, rfl, Lib.hid ⟨Nat.zero_le _, _, HC0.out, fun k h => absurd h (Nat.not_lt_zero k)⟩⟩
  case round =>
    obtain ⟨j, rfl, hp⟩ := hrel
    obtain ⟨hj8, f, hC, hL⟩ := hp.out
    have HC := Lib.hid hC
    have HLL := Lib.hid hL
    have HJ8 := Lib.hid hj8
    clear hp HC0 hC hL hj8
    by_cases hlt : (j : Int) < 8
    · have HJ := Lib.hid (show j < 8 ∧ wrap64 ((j : Int) + 1) = ((j + 1 : Nat) : Int) by refine ⟨by omega, ?_⟩; unfold wrap64; omega)
      go_upto_region 9 with (refine wpList_store_row rfl 32 (.tmp 7) (.tmp 32) rfl wr.heap.size zq rfl rfl 32 zq (heap_alloc_last wr _) HZQ.out.1 rfl HZQ.out.2.1 ?_)
      rw [World.setRow_alloc_new]
      simp only [Act.put]
      have HC2 := Lib.hid (HC.out.next (ba wr (.cells zq 32)))
      have HS2 : Hid (IsTab (wr.alloc (.cells zq 32)) wr.heap.size 32 64 fun _ => ub 0) := Lib.hid (by rw [← HZ.out.2.2]; exact IsTab.new wr _ 64 _)
      have HG2 := Lib.hid (show q3 < wr.heap.size from HC.out.res.lt)
      have HG6 := Lib.hid (show w.heap.size ≤ wr.heap.size ∧ q5 < wr.heap.size from ⟨HC.out.below.size, HC.out.lv.lt⟩)
      generalize wr.alloc (.cells zq 32) = y2 at *
      generalize wr.heap.size = q6 at *
      have s1 := slP4 q6
      by_cases hjn : (j : Int) < n
      · obtain ⟨b, o, f0, rfl, hfj, G0, G1, G2, G3, G4, G5⟩ := (HT.out.keep (keep_below HC2.out.below)).at (show j < n by omega)
        have HRC := Lib.hid (record_walk y2 f0 (HF.out f0 (List.mem_of_getElem? hfj)))
        have HLF := Lib.hid (show F j = Kc.sum (recL f0) by rw [← HF2.out]; unfold leaf; rw [hfj])
        clear hfj
        go_upto_region 11 with (first
          | (go_at_call 9; (with_reducible refine HRC.out.mono ?_); rintro e y3 ⟨rfl, hb⟩
             have HC3 := Lib.hid (HC2.out.next hb)
             have HS3 := Lib.hid (HS2.out.below hb)
             clear hb HRC HC2 HS2)
          | (refine wpList_store_row rfl 32 (.tmp 7) (.tmp 41) rfl q6 (tab 64 fun j => ub (recB f0 j)) rfl rfl 32 _ HS3.out (infP4 _) (by rw [Kc.tab_size, Kc.tab_size]) (Kc.tab_one fun i => rfl) ?_))
        clear G0 G1 G2 G3 G4 G5
        have HS4 : Hid (IsTab (y3.setRow q6 (tab 64 fun j => ub (recB f0 j))) q6 32 64 fun j => ub (recB f0 j)) := Lib.hid HS3.out.row
        have HC4 := Lib.hid (HC3.out.rowOther q6 HG6.out.1 (by have := HG6.out.2; omega) (fun e => by have := HG2.out; omega) (tab 64 fun j => ub (recB f0 j)))
        generalize y3.setRow q6 (tab 64 fun j => ub (recB f0 j)) = y4 at *
        have HSM := Lib.hid (sum64 y4 q6 (recL f0) (recL_len f0) (Kc.ktab_below HK.out HC4.out.below) (isBs_rec HS4.out) HS4.out.lt)
        rw [← HLF.out] at HSM
        go_wp2_with (first
          | (go_at_call 10; (with_reducible refine HSM.out.mono ?_); rintro e y5 ⟨rfl, hb⟩
             have HC5 := Lib.hid (HC4.out.next hb)
             clear hb HSM)
          | ((with_reducible refine wpList_store_mid (P := Tryd.prog) (w := y5) (ty := 24) (x := .tmp 45) (y := .tmp 44) (b := q5) (o := j * 32) (cells := tab 32 fun i => Kc.bv (F j i)) ?_ ?_ ?_ ?_ ?_ (Kc.infH _) (Kc.one_bv _ _) ?_); (· exact rfl); (· exact rfl); (· exact rfl); (· exact rfl); (· rw [Kc.tab_size]; exact HC5.out.lv.there (k := j) (p := j * 32) HJ.out.1 (by omega) rfl)))
        try rw [HJ.out.2]
        go_roundw
        case rel => exact ⟨j + 1, rfl, Lib.hid ⟨HJ.out.1, _, HC5.out.set j (F j) (p := j * 32) (by omega), fun k hk => by
          by_cases e : k = j
          · rw [if_pos e, e]
          · rw [if_neg e]; exact HLL.out k (by omega)⟩⟩
        case measure => have := HJ.out.1; show 8 - (j + 1) < 8 - j; omega
      · have HLF := Lib.hid (show F j = Kc.sum zL by rw [← HF2.out]; unfold leaf; rw [List.getElem?_eq_none (by have := HN.out.1; omega)])
        have HSM := Lib.hid (sum64 y2 q6 zL zL_len (Kc.ktab_below HK.out HC2.out.below) (isBs_zero HS2.out) HS2.out.lt)
        rw [← HLF.out] at HSM
        go_wp2_with (first
          | (go_at_call 10; (with_reducible refine HSM.out.mono ?_); rintro e y5 ⟨rfl, hb⟩
             have HC5 := Lib.hid (HC2.out.next hb)
             clear hb HSM)
          | ((with_reducible refine wpList_store_mid (P := Tryd.prog) (w := y5) (ty := 24) (x := .tmp 45) (y := .tmp 44) (b := q5) (o := j * 32) (cells := tab 32 fun i => Kc.bv (F j i)) ?_ ?_ ?_ ?_ ?_ (Kc.infH _) (Kc.one_bv _ _) ?_); (· exact rfl); (· exact rfl); (· exact rfl); (· exact rfl); (· rw [Kc.tab_size]; exact HC5.out.lv.there (k := j) (p := j * 32) HJ.out.1 (by omega) rfl)))
        try rw [HJ.out.2]
        go_roundw
        case rel => exact ⟨j + 1, rfl, Lib.hid ⟨HJ.out.1, _, HC5.out.set j (F j) (p := j * 32) (by omega), fun k hk => by
          by_cases e : k = j
          · rw [if_pos e, e]
          · rw [if_neg e]; exact HLL.out k (by omega)⟩⟩
        case measure => have := HJ.out.1; show 8 - (j + 1) < 8 - j; omega
    · have HC9 := Lib.hid (HC.out.cong (fun k hk => HLL.out k (by omega)))
      clear HC HLL HJ8 zp
      go_upto_region 13 with (fail)
      clear hlt
      refine wp_region_og (fun y : World => Lv y q5 30 8 F) (.take 0 (.take 1 (.take 2 (.take 3 (.take 5 (.take 6 (.take 7 (.take 8 (.two 4 (.two 9 (.two 10 (.one 11 (.one 12 .done)) 11 (.one 10 (.one 12 .done))) 11 (.one 9 (.one 10 (.one 12 .done)))) 11 (.one 4 (.one 9 (.one 10 (.one 12 .done))))))))))))) (by kernel_rfl) (by kernel_rfl) (HC9.out.next (Below.refl _ _).drew).lv ?_
      have HV := Lib.hid (HC9.out.next (Below.refl _ _).drew)
      clear HC9
      generalize World.drew _ = wd at *
      refine og_tk (some 47) (.pointer (some ⟨q5, 0, none⟩)) rfl rfl (by go_simp) (fun _ _ => by simp [execOp, go_sem, add_at]) ?_
      refine og_ld (some 48) 24 (.tmp 47) (.pointer (some ⟨q5, 0, none⟩)) (dv (F 0)) rfl rfl (by go_simp) rfl rfl (fun y hy => Mk.loadH hy.at5 (k := 0) (p := 0) (by decide) rfl) ?_
      refine og_tk (some 49) (.pointer (some ⟨q5, 32, none⟩)) rfl rfl (by go_simp) (fun _ _ => by simp [execOp, go_sem, add_at]) ?_
      refine og_ld (some 50) 24 (.tmp 49) (.pointer (some ⟨q5, 32, none⟩)) (dv (F 1)) rfl rfl (by go_simp) rfl rfl (fun y hy => Mk.loadH hy.at5 (k := 1) (p := 32) (by decide) rfl) ?_
      refine og_tk (some 52) (.pointer (some ⟨q5, 64, none⟩)) rfl rfl (by go_simp) (fun _ _ => by simp [execOp, go_sem, add_at]) ?_
      refine og_ld (some 53) 24 (.tmp 52) (.pointer (some ⟨q5, 64, none⟩)) (dv (F 2)) rfl rfl (by go_simp) rfl rfl (fun y hy => Mk.loadH hy.at5 (k := 2) (p := 64) (by decide) rfl) ?_
      refine og_tk (some 54) (.pointer (some ⟨q5, 96, none⟩)) rfl rfl (by go_simp) (fun _ _ => by simp [execOp, go_sem, add_at]) ?_
      refine og_ld (some 55) 24 (.tmp 54) (.pointer (some ⟨q5, 96, none⟩)) (dv (F 3)) rfl rfl (by go_simp) rfl rfl (fun y hy => Mk.loadH hy.at5 (k := 3) (p := 96) (by decide) rfl) ?_
      simp only [Act.put, List.setIfInBounds_toArray, List.set_cons_zero, List.set_cons_succ]
      refine og_two ?_ ?_
      · skip
        have HP := Lib.hid (Mk.pair_dv (F 0) (F 1) wd (Kc.ktab_below HK.out HV.out.below))
        refine og_of rfl (by go_simp) fun K hK => ?_
        go_simp
        refine HP.out.mono ?_
        rintro r x1 ⟨rfl, hb⟩
        have HV := Lib.hid (HV.out.next hb)
        refine hK _ _ HV.out.lv ?_
        try simp only [Act.put, List.setIfInBounds_toArray, List.set_cons_zero, List.set_cons_succ]
        clear hK K hb HP
        refine og_two ?_ ?_
        · skip
          have HP := Lib.hid (Mk.pair_dv (F 2) (F 3) x1 (Kc.ktab_below HK.out HV.out.below))
          refine og_of rfl (by go_simp) fun K hK => ?_
          go_simp
          refine HP.out.mono ?_
          rintro r x2 ⟨rfl, hb⟩
          have HV := Lib.hid (HV.out.next hb)
          refine hK _ _ HV.out.lv ?_
          try simp only [Act.put, List.setIfInBounds_toArray, List.set_cons_zero, List.set_cons_succ]
          clear hK K hb HP
          refine og_two ?_ ?_
          · skip
            have HP := Lib.hid (Mk.pair_dv (pr (F 0) (F 1)) (pr (F 2) (F 3)) x2 (Kc.ktab_below HK.out HV.out.below))
            rw [HL.out] at HP
            refine og_of rfl (by go_simp) fun K hK => ?_
            go_simp
            refine HP.out.mono ?_
            rintro r x3 ⟨rfl, hb⟩
            have HV := Lib.hid (HV.out.next hb)
            refine hK _ _ HV.out.lv ?_
            try simp only [Act.put, List.setIfInBounds_toArray, List.set_cons_zero, List.set_cons_succ]
            clear hK K hb HP
            have z2 := HZ2.out
            refine og_f rfl (by go_simp) fun K hK => ?_
            go_simp
            have HG8 := Lib.hid (show q3 < x3.heap.size ∧ q5 < x3.heap.size ∧ w.heap.size ≤ x3.heap.size from ⟨HV.out.res.lt, HV.out.lv.lt, HV.out.below.size⟩)
            have HT8 : Hid (IsTab (x3.alloc (.cells zh 24)) x3.heap.size 24 32 fun _ => Kc.bv 0#8) := Lib.hid (by rw [← HZ.out.1]; exact IsTab.new x3 _ 32 _)
            have HV := Lib.hid (HV.out.next (ba x3 (.cells zh 24)))
            refine hK _ _ HV.out.lv ?_
            try simp only [Act.put, List.setIfInBounds_toArray, List.set_cons_zero, List.set_cons_succ]
            clear hK K z2
            generalize x3.alloc (.cells zh 24) = x4 at *
            generalize x3.heap.size = q8 at *
            have HV9 := Lib.hid (HV.out.rowOther q8 HG8.out.2.2 (by have := HG8.out.2.1; omega) (by have := HG8.out.1; omega) (tab 32 fun i => Kc.bv (L i)))
            have HT9 : Hid (IsTab (x4.setRow q8 (tab 32 fun i => Kc.bv (L i))) q8 24 32 fun i => Kc.bv (L i)) := Lib.hid HT8.out.row
            refine og_f rfl (by go_simp) fun K hK => ?_
            refine wp_store_row 24 (.tmp 8) (.tmp 57) rfl q8 (tab 32 fun i => Kc.bv (L i)) rfl rfl 24 _ HT8.out (Kc.infH _) (by rw [Kc.tab_size, Kc.tab_size]) (Kc.one_bv _ _) (hK _ _ HV9.out.lv ?_)
            have HWW := Lib.hid (Hw.mk HV9.out HT9.out)
            clear hK K HV HT8 HV9 HT9 HG8
            generalize x4.setRow q8 (tab 32 fun i => Kc.bv (L i)) = y9 at *
            refine og_done (NoPanic.normal ?_)
            simp only [List.getElem_toArray, List.getElem_cons_succ, List.getElem_cons_zero, Act.put]
            go_upto_region 14 with (fail)
            have HW2 := Lib.hid (HWW.out.next (Below.refl _ _).drew)
            have NE : Nonempty (Wd (Hw w q3 q5 q8 H L F)) := ⟨⟨_, HW2.out⟩⟩
            have L3 := Lib.hid (show ∀ u, (∃ z : Wd (Hw w q3 q5 q8 H L F), u = z.val) → (Instr.loadAt 24 (.pointer (some ⟨q3, 0, none⟩))).run Tryd.prog u = .ok (dv H) u from fun u ⟨z, hz⟩ => by rw [hz]; exact Mk.load32h z.ok.hv.res)
            have L8 := Lib.hid (show ∀ u, (∃ z : Wd (Hw w q3 q5 q8 H L F), u = z.val) → (Instr.loadAt 24 (.pointer (some ⟨q8, 0, none⟩))).run Tryd.prog u = .ok (dv L) u from fun u ⟨z, hz⟩ => by rw [hz]; exact Mk.load32h z.ok.b8)
            have M4 := Lib.hid (show ∀ u, (∃ z : Wd (Hw w q3 q5 q8 H L F), u = z.val) → (Instr.loadAt 24 (.pointer (some ⟨q5, 128, none⟩))).run Tryd.prog u = .ok (dv (F 4)) u from fun u ⟨z, hz⟩ => by rw [hz]; exact Mk.loadH z.ok.hv.lv.at5 (k := 4) (p := 128) (by decide) rfl)
            have M5 := Lib.hid (show ∀ u, (∃ z : Wd (Hw w q3 q5 q8 H L F), u = z.val) → (Instr.loadAt 24 (.pointer (some ⟨q5, 160, none⟩))).run Tryd.prog u = .ok (dv (F 5)) u from fun u ⟨z, hz⟩ => by rw [hz]; exact Mk.loadH z.ok.hv.lv.at5 (k := 5) (p := 160) (by decide) rfl)
            have M6 := Lib.hid (show ∀ u, (∃ z : Wd (Hw w q3 q5 q8 H L F), u = z.val) → (Instr.loadAt 24 (.pointer (some ⟨q5, 192, none⟩))).run Tryd.prog u = .ok (dv (F 6)) u from fun u ⟨z, hz⟩ => by rw [hz]; exact Mk.loadH z.ok.hv.lv.at5 (k := 6) (p := 192) (by decide) rfl)
            have M7 := Lib.hid (show ∀ u, (∃ z : Wd (Hw w q3 q5 q8 H L F), u = z.val) → (Instr.loadAt 24 (.pointer (some ⟨q5, 224, none⟩))).run Tryd.prog u = .ok (dv (F 7)) u from fun u ⟨z, hz⟩ => by rw [hz]; exact Mk.loadH z.ok.hv.lv.at5 (k := 7) (p := 224) (by decide) rfl)
            have Q1 := Lib.hid (fun z : Wd (Hw w q3 q5 q8 H L F) => in_of_below z (fun y hb => z.ok.next hb) (fixed4_walk z.val))
            have Q2 := Lib.hid (fun z : Wd (Hw w q3 q5 q8 H L F) => in_of_below z (fun y hb => z.ok.next hb) (Mk.pair_dv (F 4) (F 5) z.val (Kc.ktab_below HK.out z.ok.hv.below)))
            have Q3 := Lib.hid (fun z : Wd (Hw w q3 q5 q8 H L F) => in_of_below z (fun y hb => z.ok.next hb) (Mk.pair_dv (F 6) (F 7) z.val (Kc.ktab_below HK.out z.ok.hv.below)))
            have c4 := fun z : Wd (Hw w q3 q5 q8 H L F) => in_of_below z (fun y hb => z.ok.next hb) (Mk.pair_dv (pr (F 4) (F 5)) (pr (F 6) (F 7)) z.val (Kc.ktab_below HK.out z.ok.hv.below))
            rw [HR.out] at c4
            have Q4 := Lib.hid c4
            have c5 := fun z : Wd (Hw w q3 q5 q8 H L F) => in_of_below z (fun y hb => z.ok.next hb) (Mk.pair_dv L R z.val (Kc.ktab_below HK.out z.ok.hv.below))
            rw [HH.out] at c5
            have Q5 := Lib.hid c5
            clear c4 c5
            have e1 := eqlH H
            have e2 := Mk.guardE
            refine wp_region_in (Hw w q3 q5 q8 H L F) (by kernel_rfl) (by kernel_rfl) HW2.out ?_
            repeat (first
              | (refine wpQuiet_ld4 24 _ (.pointer (some ⟨q3, 0, none⟩)) _ (by rfl) rfl rfl L3.out ?_; simp only [Act.put, List.setIfInBounds_toArray, List.set_cons_zero, List.set_cons_succ])
              | (refine wpQuiet_ld4 24 _ (.pointer (some ⟨q8, 0, none⟩)) _ (by rfl) rfl rfl L8.out ?_; simp only [Act.put, List.setIfInBounds_toArray, List.set_cons_zero, List.set_cons_succ])
              | (refine wpQuiet_ld4 24 _ (.pointer (some ⟨q5, 128, none⟩)) _ (by rfl) rfl rfl M4.out ?_; simp only [Act.put, List.setIfInBounds_toArray, List.set_cons_zero, List.set_cons_succ])
              | (refine wpQuiet_ld4 24 _ (.pointer (some ⟨q5, 160, none⟩)) _ (by rfl) rfl rfl M5.out ?_; simp only [Act.put, List.setIfInBounds_toArray, List.set_cons_zero, List.set_cons_succ])
              | (refine wpQuiet_ld4 24 _ (.pointer (some ⟨q5, 192, none⟩)) _ (by rfl) rfl rfl M6.out ?_; simp only [Act.put, List.setIfInBounds_toArray, List.set_cons_zero, List.set_cons_succ])
              | (refine wpQuiet_ld4 24 _ (.pointer (some ⟨q5, 224, none⟩)) _ (by rfl) rfl rfl M7.out ?_; simp only [Act.put, List.setIfInBounds_toArray, List.set_cons_zero, List.set_cons_succ])
              | (go_big_quiet_step (first | with_reducible exact Q1.out _ | with_reducible exact Q2.out _ | with_reducible exact Q3.out _ | with_reducible exact Q4.out _ | with_reducible exact Q5.out _)))
            refine wpQuiet_nil ?_
            rintro _ ⟨z, rfl⟩
            go_wp2_with fail
            go_ret
            exact ⟨rfl, z.ok.hv.below⟩
          · skip
            have z2 := HZ2.out
            refine og_of rfl (by go_simp) fun K hK => ?_
            go_simp
            have HG8 := Lib.hid (show q3 < x2.heap.size ∧ q5 < x2.heap.size ∧ w.heap.size ≤ x2.heap.size from ⟨HV.out.res.lt, HV.out.lv.lt, HV.out.below.size⟩)
            have HT8 : Hid (IsTab (x2.alloc (.cells zh 24)) x2.heap.size 24 32 fun _ => Kc.bv 0#8) := Lib.hid (by rw [← HZ.out.1]; exact IsTab.new x2 _ 32 _)
            have HV := Lib.hid (HV.out.next (ba x2 (.cells zh 24)))
            refine hK _ _ HV.out.lv ?_
            try simp only [Act.put, List.setIfInBounds_toArray, List.set_cons_zero, List.set_cons_succ]
            clear hK K z2
            generalize x2.alloc (.cells zh 24) = x5 at *
            generalize x2.heap.size = q8 at *
            have HP := Lib.hid (Mk.pair_dv (pr (F 0) (F 1)) (pr (F 2) (F 3)) x5 (Kc.ktab_below HK.out HV.out.below))
            rw [HL.out] at HP
            refine og_f rfl (by go_simp) fun K hK => ?_
            go_simp
            refine HP.out.mono ?_
            rintro r x6 ⟨rfl, hb⟩
            have HV := Lib.hid (HV.out.next hb)
            have HT8 := Lib.hid (HT8.out.below hb)
            refine hK _ _ HV.out.lv ?_
            try simp only [Act.put, List.setIfInBounds_toArray, List.set_cons_zero, List.set_cons_succ]
            clear hK K hb HP
            have HV9 := Lib.hid (HV.out.rowOther q8 HG8.out.2.2 (by have := HG8.out.2.1; omega) (by have := HG8.out.1; omega) (tab 32 fun i => Kc.bv (L i)))
            have HT9 : Hid (IsTab (x6.setRow q8 (tab 32 fun i => Kc.bv (L i))) q8 24 32 fun i => Kc.bv (L i)) := Lib.hid HT8.out.row
            refine og_f rfl (by go_simp) fun K hK => ?_
            refine wp_store_row 24 (.tmp 8) (.tmp 57) rfl q8 (tab 32 fun i => Kc.bv (L i)) rfl rfl 24 _ HT8.out (Kc.infH _) (by rw [Kc.tab_size, Kc.tab_size]) (Kc.one_bv _ _) (hK _ _ HV9.out.lv ?_)
            have HWW := Lib.hid (Hw.mk HV9.out HT9.out)
            clear hK K HV HT8 HV9 HT9 HG8
            generalize x6.setRow q8 (tab 32 fun i => Kc.bv (L i)) = y9 at *
            refine og_done (NoPanic.normal ?_)
            simp only [List.getElem_toArray, List.getElem_cons_succ, List.getElem_cons_zero, Act.put]
            go_upto_region 14 with (fail)
            have HW2 := Lib.hid (HWW.out.next (Below.refl _ _).drew)
            have NE : Nonempty (Wd (Hw w q3 q5 q8 H L F)) := ⟨⟨_, HW2.out⟩⟩
            have L3 := Lib.hid (show ∀ u, (∃ z : Wd (Hw w q3 q5 q8 H L F), u = z.val) → (Instr.loadAt 24 (.pointer (some ⟨q3, 0, none⟩))).run Tryd.prog u = .ok (dv H) u from fun u ⟨z, hz⟩ => by rw [hz]; exact Mk.load32h z.ok.hv.res)
            have L8 := Lib.hid (show ∀ u, (∃ z : Wd (Hw w q3 q5 q8 H L F), u = z.val) → (Instr.loadAt 24 (.pointer (some ⟨q8, 0, none⟩))).run Tryd.prog u = .ok (dv L) u from fun u ⟨z, hz⟩ => by rw [hz]; exact Mk.load32h z.ok.b8)
            have M4 := Lib.hid (show ∀ u, (∃ z : Wd (Hw w q3 q5 q8 H L F), u = z.val) → (Instr.loadAt 24 (.pointer (some ⟨q5, 128, none⟩))).run Tryd.prog u = .ok (dv (F 4)) u from fun u ⟨z, hz⟩ => by rw [hz]; exact Mk.loadH z.ok.hv.lv.at5 (k := 4) (p := 128) (by decide) rfl)
            have M5 := Lib.hid (show ∀ u, (∃ z : Wd (Hw w q3 q5 q8 H L F), u = z.val) → (Instr.loadAt 24 (.pointer (some ⟨q5, 160, none⟩))).run Tryd.prog u = .ok (dv (F 5)) u from fun u ⟨z, hz⟩ => by rw [hz]; exact Mk.loadH z.ok.hv.lv.at5 (k := 5) (p := 160) (by decide) rfl)
            have M6 := Lib.hid (show ∀ u, (∃ z : Wd (Hw w q3 q5 q8 H L F), u = z.val) → (Instr.loadAt 24 (.pointer (some ⟨q5, 192, none⟩))).run Tryd.prog u = .ok (dv (F 6)) u from fun u ⟨z, hz⟩ => by rw [hz]; exact Mk.loadH z.ok.hv.lv.at5 (k := 6) (p := 192) (by decide) rfl)
            have M7 := Lib.hid (show ∀ u, (∃ z : Wd (Hw w q3 q5 q8 H L F), u = z.val) → (Instr.loadAt 24 (.pointer (some ⟨q5, 224, none⟩))).run Tryd.prog u = .ok (dv (F 7)) u from fun u ⟨z, hz⟩ => by rw [hz]; exact Mk.loadH z.ok.hv.lv.at5 (k := 7) (p := 224) (by decide) rfl)
            have Q1 := Lib.hid (fun z : Wd (Hw w q3 q5 q8 H L F) => in_of_below z (fun y hb => z.ok.next hb) (fixed4_walk z.val))
            have Q2 := Lib.hid (fun z : Wd (Hw w q3 q5 q8 H L F) => in_of_below z (fun y hb => z.ok.next hb) (Mk.pair_dv (F 4) (F 5) z.val (Kc.ktab_below HK.out z.ok.hv.below)))
            have Q3 := Lib.hid (fun z : Wd (Hw w q3 q5 q8 H L F) => in_of_below z (fun y hb => z.ok.next hb) (Mk.pair_dv (F 6) (F 7) z.val (Kc.ktab_below HK.out z.ok.hv.below)))
            have c4 := fun z : Wd (Hw w q3 q5 q8 H L F) => in_of_below z (fun y hb => z.ok.next hb) (Mk.pair_dv (pr (F 4) (F 5)) (pr (F 6) (F 7)) z.val (Kc.ktab_below HK.out z.ok.hv.below))
            rw [HR.out] at c4
            have Q4 := Lib.hid c4
            have c5 := fun z : Wd (Hw w q3 q5 q8 H L F) => in_of_below z (fun y hb => z.ok.next hb) (Mk.pair_dv L R z.val (Kc.ktab_below HK.out z.ok.hv.below))
            rw [HH.out] at c5
            have Q5 := Lib.hid c5
            clear c4 c5
            have e1 := eqlH H
            have e2 := Mk.guardE
            refine wp_region_in (Hw w q3 q5 q8 H L F) (by kernel_rfl) (by kernel_rfl) HW2.out ?_
            repeat (first
              | (refine wpQuiet_ld4 24 _ (.pointer (some ⟨q3, 0, none⟩)) _ (by rfl) rfl rfl L3.out ?_; simp only [Act.put, List.setIfInBounds_toArray, List.set_cons_zero, List.set_cons_succ])
              | (refine wpQuiet_ld4 24 _ (.pointer (some ⟨q8, 0, none⟩)) _ (by rfl) rfl rfl L8.out ?_; simp only [Act.put, List.setIfInBounds_toArray, List.set_cons_zero, List.set_cons_succ])
              | (refine wpQuiet_ld4 24 _ (.pointer (some ⟨q5, 128, none⟩)) _ (by rfl) rfl rfl M4.out ?_; simp only [Act.put, List.setIfInBounds_toArray, List.set_cons_zero, List.set_cons_succ])
              | (refine wpQuiet_ld4 24 _ (.pointer (some ⟨q5, 160, none⟩)) _ (by rfl) rfl rfl M5.out ?_; simp only [Act.put, List.setIfInBounds_toArray, List.set_cons_zero, List.set_cons_succ])
              | (refine wpQuiet_ld4 24 _ (.pointer (some ⟨q5, 192, none⟩)) _ (by rfl) rfl rfl M6.out ?_; simp only [Act.put, List.setIfInBounds_toArray, List.set_cons_zero, List.set_cons_succ])
              | (refine wpQuiet_ld4 24 _ (.pointer (some ⟨q5, 224, none⟩)) _ (by rfl) rfl rfl M7.out ?_; simp only [Act.put, List.setIfInBounds_toArray, List.set_cons_zero, List.set_cons_succ])
              | (go_big_quiet_step (first | with_reducible exact Q1.out _ | with_reducible exact Q2.out _ | with_reducible exact Q3.out _ | with_reducible exact Q4.out _ | with_reducible exact Q5.out _)))
            refine wpQuiet_nil ?_
            rintro _ ⟨z, rfl⟩
            go_wp2_with fail
            go_ret
            exact ⟨rfl, z.ok.hv.below⟩
        · skip
          have z2 := HZ2.out
          refine og_of rfl (by go_simp) fun K hK => ?_
          go_simp
          have HG8 := Lib.hid (show q3 < x1.heap.size ∧ q5 < x1.heap.size ∧ w.heap.size ≤ x1.heap.size from ⟨HV.out.res.lt, HV.out.lv.lt, HV.out.below.size⟩)
          have HT8 : Hid (IsTab (x1.alloc (.cells zh 24)) x1.heap.size 24 32 fun _ => Kc.bv 0#8) := Lib.hid (by rw [← HZ.out.1]; exact IsTab.new x1 _ 32 _)
          have HV := Lib.hid (HV.out.next (ba x1 (.cells zh 24)))
          refine hK _ _ HV.out.lv ?_
          try simp only [Act.put, List.setIfInBounds_toArray, List.set_cons_zero, List.set_cons_succ]
          clear hK K z2
          generalize x1.alloc (.cells zh 24) = x7 at *
          generalize x1.heap.size = q8 at *
          have HP := Lib.hid (Mk.pair_dv (F 2) (F 3) x7 (Kc.ktab_below HK.out HV.out.below))
          refine og_f rfl (by go_simp) fun K hK => ?_
          go_simp
          refine HP.out.mono ?_
          rintro r x8 ⟨rfl, hb⟩
          have HV := Lib.hid (HV.out.next hb)
          have HT8 := Lib.hid (HT8.out.below hb)
          refine hK _ _ HV.out.lv ?_
          try simp only [Act.put, List.setIfInBounds_toArray, List.set_cons_zero, List.set_cons_succ]
          clear hK K hb HP
          have HP := Lib.hid (Mk.pair_dv (pr (F 0) (F 1)) (pr (F 2) (F 3)) x8 (Kc.ktab_below HK.out HV.out.below))
          rw [HL.out] at HP
          refine og_f rfl (by go_simp) fun K hK => ?_
          go_simp
          refine HP.out.mono ?_
          rintro r x9 ⟨rfl, hb⟩
          have HV := Lib.hid (HV.out.next hb)
          have HT8 := Lib.hid (HT8.out.below hb)
          refine hK _ _ HV.out.lv ?_
          try simp only [Act.put, List.setIfInBounds_toArray, List.set_cons_zero, List.set_cons_succ]
          clear hK K hb HP
          have HV9 := Lib.hid (HV.out.rowOther q8 HG8.out.2.2 (by have := HG8.out.2.1; omega) (by have := HG8.out.1; omega) (tab 32 fun i => Kc.bv (L i)))
          have HT9 : Hid (IsTab (x9.setRow q8 (tab 32 fun i => Kc.bv (L i))) q8 24 32 fun i => Kc.bv (L i)) := Lib.hid HT8.out.row
          refine og_f rfl (by go_simp) fun K hK => ?_
          refine wp_store_row 24 (.tmp 8) (.tmp 57) rfl q8 (tab 32 fun i => Kc.bv (L i)) rfl rfl 24 _ HT8.out (Kc.infH _) (by rw [Kc.tab_size, Kc.tab_size]) (Kc.one_bv _ _) (hK _ _ HV9.out.lv ?_)
          have HWW := Lib.hid (Hw.mk HV9.out HT9.out)
          clear hK K HV HT8 HV9 HT9 HG8
          generalize x9.setRow q8 (tab 32 fun i => Kc.bv (L i)) = y9 at *
          refine og_done (NoPanic.normal ?_)
          simp only [List.getElem_toArray, List.getElem_cons_succ, List.getElem_cons_zero, Act.put]
          go_upto_region 14 with (fail)
          have HW2 := Lib.hid (HWW.out.next (Below.refl _ _).drew)
          have NE : Nonempty (Wd (Hw w q3 q5 q8 H L F)) := ⟨⟨_, HW2.out⟩⟩
          have L3 := Lib.hid (show ∀ u, (∃ z : Wd (Hw w q3 q5 q8 H L F), u = z.val) → (Instr.loadAt 24 (.pointer (some ⟨q3, 0, none⟩))).run Tryd.prog u = .ok (dv H) u from fun u ⟨z, hz⟩ => by rw [hz]; exact Mk.load32h z.ok.hv.res)
          have L8 := Lib.hid (show ∀ u, (∃ z : Wd (Hw w q3 q5 q8 H L F), u = z.val) → (Instr.loadAt 24 (.pointer (some ⟨q8, 0, none⟩))).run Tryd.prog u = .ok (dv L) u from fun u ⟨z, hz⟩ => by rw [hz]; exact Mk.load32h z.ok.b8)
          have M4 := Lib.hid (show ∀ u, (∃ z : Wd (Hw w q3 q5 q8 H L F), u = z.val) → (Instr.loadAt 24 (.pointer (some ⟨q5, 128, none⟩))).run Tryd.prog u = .ok (dv (F 4)) u from fun u ⟨z, hz⟩ => by rw [hz]; exact Mk.loadH z.ok.hv.lv.at5 (k := 4) (p := 128) (by decide) rfl)
          have M5 := Lib.hid (show ∀ u, (∃ z : Wd (Hw w q3 q5 q8 H L F), u = z.val) → (Instr.loadAt 24 (.pointer (some ⟨q5, 160, none⟩))).run Tryd.prog u = .ok (dv (F 5)) u from fun u ⟨z, hz⟩ => by rw [hz]; exact Mk.loadH z.ok.hv.lv.at5 (k := 5) (p := 160) (by decide) rfl)
          have M6 := Lib.hid (show ∀ u, (∃ z : Wd (Hw w q3 q5 q8 H L F), u = z.val) → (Instr.loadAt 24 (.pointer (some ⟨q5, 192, none⟩))).run Tryd.prog u = .ok (dv (F 6)) u from fun u ⟨z, hz⟩ => by rw [hz]; exact Mk.loadH z.ok.hv.lv.at5 (k := 6) (p := 192) (by decide) rfl)
          have M7 := Lib.hid (show ∀ u, (∃ z : Wd (Hw w q3 q5 q8 H L F), u = z.val) → (Instr.loadAt 24 (.pointer (some ⟨q5, 224, none⟩))).run Tryd.prog u = .ok (dv (F 7)) u from fun u ⟨z, hz⟩ => by rw [hz]; exact Mk.loadH z.ok.hv.lv.at5 (k := 7) (p := 224) (by decide) rfl)
          have Q1 := Lib.hid (fun z : Wd (Hw w q3 q5 q8 H L F) => in_of_below z (fun y hb => z.ok.next hb) (fixed4_walk z.val))
          have Q2 := Lib.hid (fun z : Wd (Hw w q3 q5 q8 H L F) => in_of_below z (fun y hb => z.ok.next hb) (Mk.pair_dv (F 4) (F 5) z.val (Kc.ktab_below HK.out z.ok.hv.below)))
          have Q3 := Lib.hid (fun z : Wd (Hw w q3 q5 q8 H L F) => in_of_below z (fun y hb => z.ok.next hb) (Mk.pair_dv (F 6) (F 7) z.val (Kc.ktab_below HK.out z.ok.hv.below)))
          have c4 := fun z : Wd (Hw w q3 q5 q8 H L F) => in_of_below z (fun y hb => z.ok.next hb) (Mk.pair_dv (pr (F 4) (F 5)) (pr (F 6) (F 7)) z.val (Kc.ktab_below HK.out z.ok.hv.below))
          rw [HR.out] at c4
          have Q4 := Lib.hid c4
          have c5 := fun z : Wd (Hw w q3 q5 q8 H L F) => in_of_below z (fun y hb => z.ok.next hb) (Mk.pair_dv L R z.val (Kc.ktab_below HK.out z.ok.hv.below))
          rw [HH.out] at c5
          have Q5 := Lib.hid c5
          clear c4 c5
          have e1 := eqlH H
          have e2 := Mk.guardE
          refine wp_region_in (Hw w q3 q5 q8 H L F) (by kernel_rfl) (by kernel_rfl) HW2.out ?_
          repeat (first
            | (refine wpQuiet_ld4 24 _ (.pointer (some ⟨q3, 0, none⟩)) _ (by rfl) rfl rfl L3.out ?_; simp only [Act.put, List.setIfInBounds_toArray, List.set_cons_zero, List.set_cons_succ])
            | (refine wpQuiet_ld4 24 _ (.pointer (some ⟨q8, 0, none⟩)) _ (by rfl) rfl rfl L8.out ?_; simp only [Act.put, List.setIfInBounds_toArray, List.set_cons_zero, List.set_cons_succ])
            | (refine wpQuiet_ld4 24 _ (.pointer (some ⟨q5, 128, none⟩)) _ (by rfl) rfl rfl M4.out ?_; simp only [Act.put, List.setIfInBounds_toArray, List.set_cons_zero, List.set_cons_succ])
            | (refine wpQuiet_ld4 24 _ (.pointer (some ⟨q5, 160, none⟩)) _ (by rfl) rfl rfl M5.out ?_; simp only [Act.put, List.setIfInBounds_toArray, List.set_cons_zero, List.set_cons_succ])
            | (refine wpQuiet_ld4 24 _ (.pointer (some ⟨q5, 192, none⟩)) _ (by rfl) rfl rfl M6.out ?_; simp only [Act.put, List.setIfInBounds_toArray, List.set_cons_zero, List.set_cons_succ])
            | (refine wpQuiet_ld4 24 _ (.pointer (some ⟨q5, 224, none⟩)) _ (by rfl) rfl rfl M7.out ?_; simp only [Act.put, List.setIfInBounds_toArray, List.set_cons_zero, List.set_cons_succ])
            | (go_big_quiet_step (first | with_reducible exact Q1.out _ | with_reducible exact Q2.out _ | with_reducible exact Q3.out _ | with_reducible exact Q4.out _ | with_reducible exact Q5.out _)))
          refine wpQuiet_nil ?_
          rintro _ ⟨z, rfl⟩
          go_wp2_with fail
          go_ret
          exact ⟨rfl, z.ok.hv.below⟩
      · skip
        have z2 := HZ2.out
        refine og_of rfl (by go_simp) fun K hK => ?_
        go_simp
        have HG8 := Lib.hid (show q3 < wd.heap.size ∧ q5 < wd.heap.size ∧ w.heap.size ≤ wd.heap.size from ⟨HV.out.res.lt, HV.out.lv.lt, HV.out.below.size⟩)
        have HT8 : Hid (IsTab (wd.alloc (.cells zh 24)) wd.heap.size 24 32 fun _ => Kc.bv 0#8) := Lib.hid (by rw [← HZ.out.1]; exact IsTab.new wd _ 32 _)
        have HV := Lib.hid (HV.out.next (ba wd (.cells zh 24)))
        refine hK _ _ HV.out.lv ?_
        try simp only [Act.put, List.setIfInBounds_toArray, List.set_cons_zero, List.set_cons_succ]
        clear hK K z2
        generalize wd.alloc (.cells zh 24) = x10 at *
        generalize wd.heap.size = q8 at *
        have HP := Lib.hid (Mk.pair_dv (F 0) (F 1) x10 (Kc.ktab_below HK.out HV.out.below))
        refine og_f rfl (by go_simp) fun K hK => ?_
        go_simp
        refine HP.out.mono ?_
        rintro r x11 ⟨rfl, hb⟩
        have HV := Lib.hid (HV.out.next hb)
        have HT8 := Lib.hid (HT8.out.below hb)
        refine hK _ _ HV.out.lv ?_
        try simp only [Act.put, List.setIfInBounds_toArray, List.set_cons_zero, List.set_cons_succ]
        clear hK K hb HP
        have HP := Lib.hid (Mk.pair_dv (F 2) (F 3) x11 (Kc.ktab_below HK.out HV.out.below))
        refine og_f rfl (by go_simp) fun K hK => ?_
        go_simp
        refine HP.out.mono ?_
        rintro r x12 ⟨rfl, hb⟩
        have HV := Lib.hid (HV.out.next hb)
        have HT8 := Lib.hid (HT8.out.below hb)
        refine hK _ _ HV.out.lv ?_
        try simp only [Act.put, List.setIfInBounds_toArray, List.set_cons_zero, List.set_cons_succ]
        clear hK K hb HP
        have HP := Lib.hid (Mk.pair_dv (pr (F 0) (F 1)) (pr (F 2) (F 3)) x12 (Kc.ktab_below HK.out HV.out.below))
        rw [HL.out] at HP
        refine og_f rfl (by go_simp) fun K hK => ?_
        go_simp
        refine HP.out.mono ?_
        rintro r x13 ⟨rfl, hb⟩
        have HV := Lib.hid (HV.out.next hb)
        have HT8 := Lib.hid (HT8.out.below hb)
        refine hK _ _ HV.out.lv ?_
        try simp only [Act.put, List.setIfInBounds_toArray, List.set_cons_zero, List.set_cons_succ]
        clear hK K hb HP
        have HV9 := Lib.hid (HV.out.rowOther q8 HG8.out.2.2 (by have := HG8.out.2.1; omega) (by have := HG8.out.1; omega) (tab 32 fun i => Kc.bv (L i)))
        have HT9 : Hid (IsTab (x13.setRow q8 (tab 32 fun i => Kc.bv (L i))) q8 24 32 fun i => Kc.bv (L i)) := Lib.hid HT8.out.row
        refine og_f rfl (by go_simp) fun K hK => ?_
        refine wp_store_row 24 (.tmp 8) (.tmp 57) rfl q8 (tab 32 fun i => Kc.bv (L i)) rfl rfl 24 _ HT8.out (Kc.infH _) (by rw [Kc.tab_size, Kc.tab_size]) (Kc.one_bv _ _) (hK _ _ HV9.out.lv ?_)
        have HWW := Lib.hid (Hw.mk HV9.out HT9.out)
        clear hK K HV HT8 HV9 HT9 HG8
        generalize x13.setRow q8 (tab 32 fun i => Kc.bv (L i)) = y9 at *
        refine og_done (NoPanic.normal ?_)
        simp only [List.getElem_toArray, List.getElem_cons_succ, List.getElem_cons_zero, Act.put]
        go_upto_region 14 with (fail)
        have HW2 := Lib.hid (HWW.out.next (Below.refl _ _).drew)
        have NE : Nonempty (Wd (Hw w q3 q5 q8 H L F)) := ⟨⟨_, HW2.out⟩⟩
        have L3 := Lib.hid (show ∀ u, (∃ z : Wd (Hw w q3 q5 q8 H L F), u = z.val) → (Instr.loadAt 24 (.pointer (some ⟨q3, 0, none⟩))).run Tryd.prog u = .ok (dv H) u from fun u ⟨z, hz⟩ => by rw [hz]; exact Mk.load32h z.ok.hv.res)
        have L8 := Lib.hid (show ∀ u, (∃ z : Wd (Hw w q3 q5 q8 H L F), u = z.val) → (Instr.loadAt 24 (.pointer (some ⟨q8, 0, none⟩))).run Tryd.prog u = .ok (dv L) u from fun u ⟨z, hz⟩ => by rw [hz]; exact Mk.load32h z.ok.b8)
        have M4 := Lib.hid (show ∀ u, (∃ z : Wd (Hw w q3 q5 q8 H L F), u = z.val) → (Instr.loadAt 24 (.pointer (some ⟨q5, 128, none⟩))).run Tryd.prog u = .ok (dv (F 4)) u from fun u ⟨z, hz⟩ => by rw [hz]; exact Mk.loadH z.ok.hv.lv.at5 (k := 4) (p := 128) (by decide) rfl)
        have M5 := Lib.hid (show ∀ u, (∃ z : Wd (Hw w q3 q5 q8 H L F), u = z.val) → (Instr.loadAt 24 (.pointer (some ⟨q5, 160, none⟩))).run Tryd.prog u = .ok (dv (F 5)) u from fun u ⟨z, hz⟩ => by rw [hz]; exact Mk.loadH z.ok.hv.lv.at5 (k := 5) (p := 160) (by decide) rfl)
        have M6 := Lib.hid (show ∀ u, (∃ z : Wd (Hw w q3 q5 q8 H L F), u = z.val) → (Instr.loadAt 24 (.pointer (some ⟨q5, 192, none⟩))).run Tryd.prog u = .ok (dv (F 6)) u from fun u ⟨z, hz⟩ => by rw [hz]; exact Mk.loadH z.ok.hv.lv.at5 (k := 6) (p := 192) (by decide) rfl)
        have M7 := Lib.hid (show ∀ u, (∃ z : Wd (Hw w q3 q5 q8 H L F), u = z.val) → (Instr.loadAt 24 (.pointer (some ⟨q5, 224, none⟩))).run Tryd.prog u = .ok (dv (F 7)) u from fun u ⟨z, hz⟩ => by rw [hz]; exact Mk.loadH z.ok.hv.lv.at5 (k := 7) (p := 224) (by decide) rfl)
        have Q1 := Lib.hid (fun z : Wd (Hw w q3 q5 q8 H L F) => in_of_below z (fun y hb => z.ok.next hb) (fixed4_walk z.val))
        have Q2 := Lib.hid (fun z : Wd (Hw w q3 q5 q8 H L F) => in_of_below z (fun y hb => z.ok.next hb) (Mk.pair_dv (F 4) (F 5) z.val (Kc.ktab_below HK.out z.ok.hv.below)))
        have Q3 := Lib.hid (fun z : Wd (Hw w q3 q5 q8 H L F) => in_of_below z (fun y hb => z.ok.next hb) (Mk.pair_dv (F 6) (F 7) z.val (Kc.ktab_below HK.out z.ok.hv.below)))
        have c4 := fun z : Wd (Hw w q3 q5 q8 H L F) => in_of_below z (fun y hb => z.ok.next hb) (Mk.pair_dv (pr (F 4) (F 5)) (pr (F 6) (F 7)) z.val (Kc.ktab_below HK.out z.ok.hv.below))
        rw [HR.out] at c4
        have Q4 := Lib.hid c4
        have c5 := fun z : Wd (Hw w q3 q5 q8 H L F) => in_of_below z (fun y hb => z.ok.next hb) (Mk.pair_dv L R z.val (Kc.ktab_below HK.out z.ok.hv.below))
        rw [HH.out] at c5
        have Q5 := Lib.hid c5
        clear c4 c5
        have e1 := eqlH H
        have e2 := Mk.guardE
        refine wp_region_in (Hw w q3 q5 q8 H L F) (by kernel_rfl) (by kernel_rfl) HW2.out ?_
        repeat (first
          | (refine wpQuiet_ld4 24 _ (.pointer (some ⟨q3, 0, none⟩)) _ (by rfl) rfl rfl L3.out ?_; simp only [Act.put, List.setIfInBounds_toArray, List.set_cons_zero, List.set_cons_succ])
          | (refine wpQuiet_ld4 24 _ (.pointer (some ⟨q8, 0, none⟩)) _ (by rfl) rfl rfl L8.out ?_; simp only [Act.put, List.setIfInBounds_toArray, List.set_cons_zero, List.set_cons_succ])
          | (refine wpQuiet_ld4 24 _ (.pointer (some ⟨q5, 128, none⟩)) _ (by rfl) rfl rfl M4.out ?_; simp only [Act.put, List.setIfInBounds_toArray, List.set_cons_zero, List.set_cons_succ])
          | (refine wpQuiet_ld4 24 _ (.pointer (some ⟨q5, 160, none⟩)) _ (by rfl) rfl rfl M5.out ?_; simp only [Act.put, List.setIfInBounds_toArray, List.set_cons_zero, List.set_cons_succ])
          | (refine wpQuiet_ld4 24 _ (.pointer (some ⟨q5, 192, none⟩)) _ (by rfl) rfl rfl M6.out ?_; simp only [Act.put, List.setIfInBounds_toArray, List.set_cons_zero, List.set_cons_succ])
          | (refine wpQuiet_ld4 24 _ (.pointer (some ⟨q5, 224, none⟩)) _ (by rfl) rfl rfl M7.out ?_; simp only [Act.put, List.setIfInBounds_toArray, List.set_cons_zero, List.set_cons_succ])
          | (go_big_quiet_step (first | with_reducible exact Q1.out _ | with_reducible exact Q2.out _ | with_reducible exact Q3.out _ | with_reducible exact Q4.out _ | with_reducible exact Q5.out _)))
        refine wpQuiet_nil ?_
        rintro _ ⟨z, rfl⟩
        go_wp2_with fail
        go_ret
        exact ⟨rfl, z.ok.hv.below⟩
theorem txHalves_walk {w : World} (a : Option Addr) (n c : Nat) (fs : List (Nat → Nat)) (hT : IsT w a n c fs) (hf : ∀ f ∈ fs, ∀ i, i < 6 → f i < 18446744073709551616) (hs : c * 48 ≤ 140737488351232) (ht : Laid.KTab w) :
    Calls Tryd.prog 3 #[.slice a n c] w fun e w' => e = .returned (.bool true) ∧ Below w.heap.size w w' := by
  by_cases h8 : n ≤ 8
  · exact txHalves_ok w a n c fs hT hf hs ht h8
  · exact txHalves_long w a n c fs hT hs (by omega)
end Rl
end Go.Proofs.YtkhdamjjbjmeaaaDoor
