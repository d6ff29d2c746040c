/- Merged of Yt. Own work. -/
import Derived.Test.YtjfpbponjhpdhaaDoorP15
namespace Go.Proofs.YtjfpbponjhpdhaaDoor
open Go.RowKit
set_option linter.unusedVariables false
set_option linter.unusedSimpArgs false
namespace Vm
open Kc Mk Wt
/-- Words laid into the memory. -/
def exL (M : Mac) (to n : Nat) (g : Nat → Nat) : Mac := { M with mem := fun p => if to ≤ p ∧ p < to + n then g (p - to) else M.mem p }
theorem exL_zero (M : Mac) (to : Nat) (g : Nat → Nat) : exL M to 0 g = M := by
  unfold exL
  have : (fun p => if to ≤ p ∧ p < to + 0 then g (p - to) else M.mem p) = M.mem := by funext p; rw [if_neg (by omega)]
  rw [this]
theorem exL_step (M : Mac) (to i : Nat) (g : Nat → Nat) : setM (exL M to i g) (to + i) (g i) = exL M to (i + 1) g := by
  unfold setM exL
  congr 1
  funext p
  by_cases h : p = to + i
  · rw [if_pos h, if_pos (by omega), show p - to = i from by omega]
  · rw [if_neg h]
    show (if to ≤ p ∧ p < to + i then g (p - to) else M.mem p) = _
    by_cases h2 : to ≤ p ∧ p < to + i
    · rw [if_pos h2, if_pos (by omega)]
    · rw [if_neg h2, if_neg (by omega)]
structure Ex1 (W : World) (f : Nat → Nat) (i : Nat) (y : World) : Prop where
  row : IsTab y W.heap.size 79 64 fun j => bv (pxW i f j)
  below : Below W.heap.size W y
structure Ex2 (Z : World) (b to i q : Nat) (M : Mac) (G : Px) (y : World) : Prop where
  mac : IsMac y b (exL M to i (wd G))
  row : IsTab y q 79 64 fun j => bv (G j)
  kept : Kept (fun k => k = b) Z y
  ne : q ≠ b
set_option maxHeartbeats 4000000 in
set_option maxRecDepth 100000 in
theorem exch34_true (b s fr to : Nat) (M : Mac) (G : Px) (w : World) (U : Nat → Prop) (Rr : World → World → Prop) (hm : IsMac w b M) (hM : ∀ i, M.mem i < 18446744073709551616) (hf : fr + 8 ≤ 8192) (ht : to + 4 ≤ 8192) (hpc : M.pc < 8192) (hU : ¬ U b)
    (hX : ∀ y, Below w.heap.size w y → Calls Tryd.prog 78 #[.pointer (some ⟨s, 0, none⟩), .int .i64 34, pv (pxW 8 fun i => M.mem (fr + i))] y fun e w' => e = .returned (.tuple #[pv G, .bool true]) ∧ Rr y w')
    (hR : ∀ y z, Below w.heap.size w y → Rr y z → Kept U y z) :
    Calls Tryd.prog 62 #[.pointer (some ⟨b, 0, none⟩), .pointer (some ⟨s, 0, none⟩), .int .i64 34, .int .u64 fr, .int .u64 to] w fun e w' => e = .returned (.tuple #[]) ∧ ∃ y, Below w.heap.size w y ∧ ∃ z, Rr y z ∧ Kept (fun k => k = b) z w' ∧ IsMac w' b ({ exL M to 4 (wd G) with pc := M.pc + 1 }) := by
  have t1 : decide ((8184 : Int) < (fr : Int)) = false := by simp; omega
  have t2 : decide ((8188 : Int) < (to : Int)) = false := by simp; omega
  have HH := Lib.hid (And.intro hm (And.intro hM (And.intro hf (And.intro ht (And.intro hpc hU)))))
  have HX := Lib.hid (And.intro hX hR)
  clear hm hM hf ht hpc hU hX hR
  obtain ⟨f, hf⟩ : ∃ f : Nat → Nat, (fun i => M.mem (fr + i)) = f := ⟨_, rfl⟩
  rw [hf] at HX
  have HF : Hid (∀ i, M.mem (fr + i) = f i) := Lib.hid fun i => congrFun hf i
  clear hf
  have z1 := zeroPre
  have HBZ := Lib.hid (fun u : World => buildZ u)
  generalize hz : (tab 64 fun _ => bv 0#8) = zq at *
  have HZQ := Lib.hid hz
  clear hz
  have HZ1 : Hid ((Tryd.prog.info? 79).map (·.size) = some zq.size ∧ zq.all (·.oneCell') = true) := Lib.hid ⟨by rw [← HZQ.out]; exact infPre _, by rw [← HZQ.out]; exact one_bv _ _⟩
  have H0 : Hid (Ex1 w f 0 (w.alloc (.cells zq 79))) := Lib.hid ⟨by rw [pxW_zero, ← HZQ.out]; exact IsTab.new w _ 64 _, ba _ _⟩
  go_enter Tryd.func62, Tryd.ntmps62
  go_wp2_with (first
    | ((with_reducible refine Wt.wpList_buildM (P := Tryd.prog) (w := w) ?_ 79 ?_ (.agg zq) (HBZ.out w) ?_); (· exact rfl); (· exact rfl))
    | ((with_reducible refine wpList_store_row (P := Tryd.prog) (w := w.alloc (.cells zq 79)) ?_ 79 (.tmp 12) (.tmp 33) ?_ w.heap.size zq ?_ ?_ 79 zq (heap_alloc_last w _) HZ1.out.1 rfl HZ1.out.2 ?_); (· exact rfl); (· exact rfl); (· exact rfl); (· exact rfl); rw [World.setRow_alloc_new]; simp only [Act.put]))
  clear t1 t2
  generalize w.alloc (.cells zq 79) = y0 at *
  generalize hq : w.heap.size = q at *
  have HQ := Lib.hid hq
  clear hq
  go_loopw [36] (fun ti y => ∃ i : Nat, i ≤ 8 ∧ ti = .int .i64 i ∧ Hid (Ex1 w f i y)) (fun ti _ => 8 - (intOf ti).toNat)
  case atStart => exact ⟨0, Nat.zero_le _, rfl, H0⟩
  case round =>
    obtain ⟨i, hi, rfl, hp⟩ := hrel
    have HP := Lib.hid hp.out
    clear hp H0
    by_cases hlt : (i : Int) < 8
    · obtain ⟨a, ha⟩ : ∃ a : Nat, fr + i = a := ⟨_, rfl⟩
      have HFA : Hid (M.mem a = f i) := Lib.hid (by rw [← ha]; exact HF.out i)
      have HI : Hid (i < 8 ∧ wrap64 ((i : Int) + 1) = ((i + 1 : Nat) : Int) ∧ IntKind.u64.wrap (i : Int) = (i : Int) ∧ IntKind.u64.wrap ((fr : Int) + (i : Int)) = (a : Int) ∧ a < 8192) := Lib.hid (by
        have h := HH.out
        refine ⟨by omega, by unfold wrap64; omega, IntWalk.u64_in _ (by omega), ?_, by omega⟩
        rw [IntWalk.u64_in _ (by omega)]; omega)
      clear ha
      go_upto_region 9 with (fail)
      have HMR : Hid (IsMac wr.drew b M ∧ IsTab wr.drew q 79 64 (fun j => bv (pxW i f j)) ∧ Below q w wr.drew) := Lib.hid ⟨(HH.out.1.below HP.out.below).kept (Wt.kept_drew _) id, HQ.out ▸ HP.out.row.drew, HQ.out ▸ HP.out.below.drew⟩
      clear HP
      refine wp_region_og (fun z : World => IsMac z b M) (.take 0 (.take 1 (.take 2 (.take 3 (.take 4 (.take 5 (.take 6 (.take 7 (.take 8 (.take 9 (.take 10 (.one 11 .done)))))))))))) (by kernel_rfl) (by kernel_rfl) HMR.out.1 ?_
      generalize wr.drew = y1 at *
      refine og_tk (some 39) (.slice (some ⟨q, 0, none⟩) 64 64) rfl rfl (by go_simp) (fun y hy => by have h := slPreA q y; simp [execOp, go_sem, h, Result.andThen]) ?_
      simp only [Act.put, pS]
      refine og_tk (some 40) (.int .i64 i) rfl rfl (by go_simp) (fun _ _ => by simp [execOp, go_sem]) ?_
      simp only [Act.put, pS]
      refine og_tk (some 41) (.pointer (some ⟨b, 0, none⟩)) rfl rfl (by go_simp) (fun _ _ => by simp [execOp, go_sem]) ?_
      simp only [Act.put, pS]
      refine og_tk (some 42) (.int .u64 fr) rfl rfl (by go_simp) (fun _ _ => by simp [execOp, go_sem]) ?_
      simp only [Act.put, pS]
      refine og_tk (some 43) (.int .i64 i) rfl rfl (by go_simp) (fun _ _ => by simp [execOp, go_sem]) ?_
      simp only [Act.put, pS]
      refine og_tk (some 44) (.int .u64 (i : Int)) rfl rfl (by go_simp) (fun y hy => by have h := HI.out.2.2.1; simp [execOp, go_sem, h, Result.andThen]) ?_
      simp only [Act.put, pS]
      refine og_tk (some 45) (.int .u64 (a : Int)) rfl rfl (by go_simp) (fun y hy => by have h := HI.out.2.2.2.1; simp [execOp, go_sem, h, Result.andThen]) ?_
      simp only [Act.put, pS]
      refine og_tk (some 46) (.pointer (some ⟨b, 0, none⟩)) rfl rfl (by go_simp) (fun _ _ => by simp [execOp, go_sem]) ?_
      simp only [Act.put, pS]
      refine og_tk (some 47) (.pointer (some ⟨b, 0, none⟩)) rfl rfl (by go_simp) (fun _ _ => by simp [execOp, go_sem]) ?_
      simp only [Act.put, pS]
      refine og_tk (some 48) (.pointer (some ⟨b, a, none⟩)) rfl rfl (by go_simp) (fun y hy => by have h := ixMem b a HI.out.2.2.2.2 y; simp [execOp, go_sem, h, Result.andThen]) ?_
      simp only [Act.put, pS]
      refine og_ld (some 49) 33 (.tmp 48) (.pointer (some ⟨b, a, none⟩)) (.int .u64 (f i : Int)) rfl rfl (by go_simp) rfl rfl (fun y hy => by have h := HFA.out ▸ hy.mem HI.out.2.2.2.2; simp [Instr.loadAt, go_sem, h, Tryd.underlying33]) ?_
      simp only [Act.put, pS]
      have HPW := Lib.hid (Rl.put_walk y1 q 79 64 64 (fun j => bv (pxW i f j)) i (f i) HMR.out.2.1 (by have := HI.out.1; omega) (by decide) (by rw [← HF.out]; exact HH.out.2.1 _))
      refine og_f rfl (by go_simp) fun K hK => ?_
      go_simp
      refine HPW.out.mono ?_
      rintro e y2 ⟨he, hpt⟩
      obtain rfl : e = _ := he
      have HP2 : Hid (Ex1 w f (i + 1) y2) := Lib.hid ⟨HQ.out ▸ (hpt.row.cong fun j _ => put_pxW i f j), Wt.below_of (HQ.out ▸ HMR.out.2.2) hpt.kept fun j _ hj => by rw [hj]; exact Nat.le_of_eq HQ.out⟩
      refine hK _ _ (HH.out.1.below HP2.out.below) ?_
      clear hK K hpt HPW
      try simp only [Act.put, pS]
      refine og_done (NoPanic.normal ?_)
      have hw1 := HI.out.2.1
      go_wp2_with (fail)
      go_roundw
      case rel => exact ⟨i + 1, HI.out.1, by go_num, HP2⟩
      case measure => have := HI.out.1; simp [intOf]; omega
    · obtain rfl : i = 8 := by omega
      have hx := HX.out.1 wr (HQ.out ▸ HP.out.below)
      unfold pv at hx
      have HXC := Lib.hid hx
      have HLP := Lib.hid (loadPb (HQ.out ▸ HP.out.row : IsTab wr q 79 64 fun j => bv (pxW 8 f j)))
      clear hx
      go_upto_region 12 with (first
        | ((with_reducible refine wpList_loadE (P := Tryd.prog) (w := wr) (ty := 79) (x := .tmp 12) (p := .pointer (some ⟨q, 0, none⟩)) (v := .agg (tab 64 fun i => bv (pxW 8 f i))) ?_ ?_ ?_ HLP.out ?_); (· exact rfl); (· exact rfl); (· exact rfl))
        | (go_at_call 78; (with_reducible refine HXC.out.mono ?_); rintro e y2 ⟨he, hrr⟩; obtain rfl : e = _ := he; have HRR := Lib.hid hrr; clear hrr HXC)
        | ((with_reducible refine wpList_store_row (P := Tryd.prog) (w := y2.alloc (.cells zq 79)) ?_ 79 (.tmp 14) (.tmp 57) ?_ y2.heap.size (tab 64 fun i => bv (G i)) ?_ ?_ 79 zq (heap_alloc_last y2 _) (infPre _) ?_ (one_bv _ _) ?_); (· exact rfl); (· exact rfl); (· exact rfl); (· exact rfl); (· rw [← HZQ.out] <;> rw [tab_size, tab_size]); rw [World.setRow_alloc_new]; simp only [Act.put]))
      have HK := Lib.hid (HX.out.2 wr y2 (HQ.out ▸ HP.out.below) HRR.out)
      have HM2 : Hid (IsMac y2 b M) := Lib.hid ((HH.out.1.below HP.out.below).kept HK.out HH.out.2.2.2.2.2)
      have H2 : Hid (Ex2 y2 b to 0 y2.heap.size M G (y2.alloc (.cells (tab 64 fun i => bv (G i)) 79))) := Lib.hid ⟨by rw [exL_zero]; exact HM2.out.below (ba _ _), IsTab.new y2 _ 64 _, Kept.ofBelow (ba _ _), by have := HM2.out.lt; omega⟩
      generalize y2.alloc (.cells (tab 64 fun i => bv (G i)) 79) = y3 at *
      have HQ14 : Hid (y2.heap.size = y2.heap.size) := Lib.hid rfl
      generalize y2.heap.size = q14 at *
      clear HM2 HLP
      generalize wr = yA at *
      go_wp2_with (fail)
      go_loopw [64] (fun ti y => ∃ i : Nat, i ≤ 4 ∧ ti = .int .u64 i ∧ Hid (Ex2 y2 b to i q14 M G y)) (fun ti _ => 4 - (intOf ti).toNat)
      case atStart => exact ⟨0, Nat.zero_le _, rfl, H2⟩
      case round =>
        obtain ⟨j, hj, rfl, hp⟩ := hrel
        have HP2 := Lib.hid hp.out
        clear hp H2
        by_cases hlt2 : (j : Int) < 4
        · obtain ⟨c, hc⟩ : ∃ c : Nat, to + j = c := ⟨_, rfl⟩
          have HI : Hid (j < 4 ∧ IntKind.u64.wrap ((j : Int) + 1) = ((j + 1 : Nat) : Int) ∧ IntKind.i64.wrap (j : Int) = (j : Int) ∧ IntKind.u64.wrap ((to : Int) + (j : Int)) = (c : Int) ∧ c < 8192 ∧ to + j = c) := Lib.hid (by
            have h := HH.out
            refine ⟨by omega, ?_, IntWalk.i64_in _ (by omega), ?_, by omega, hc⟩
            · rw [IntWalk.u64_in _ (by omega)]; omega
            · rw [IntWalk.u64_in _ (by omega)]; omega)
          clear hc
          go_upto_region 17 with (fail)
          have HE : Hid (Ex2 y2 b to j q14 M G wr.drew) := Lib.hid ⟨HP2.out.mac.kept (Wt.kept_drew _) id, HP2.out.row.drew, HP2.out.kept.drew, HP2.out.ne⟩
          clear HP2
          refine wp_region_og (fun _ : World => True) (.take 0 (.take 1 (.take 2 (.take 3 (.take 4 (.take 5 (.take 6 (.take 8 (.take 9 (.one 7 (.one 10 (.one 11 .done)))))))))))) (by kernel_rfl) (by kernel_rfl) trivial ?_
          generalize wr.drew = y4 at *
          refine og_tk (some 67) (.pointer (some ⟨b, 0, none⟩)) rfl rfl (by go_simp) (fun _ _ => by simp [execOp, go_sem]) ?_
          simp only [Act.put, pS]
          refine og_tk (some 68) (.int .u64 to) rfl rfl (by go_simp) (fun _ _ => by simp [execOp, go_sem]) ?_
          simp only [Act.put, pS]
          refine og_tk (some 69) (.int .u64 j) rfl rfl (by go_simp) (fun _ _ => by simp [execOp, go_sem]) ?_
          simp only [Act.put, pS]
          refine og_tk (some 70) (.int .u64 (c : Int)) rfl rfl (by go_simp) (fun y hy => by have h := HI.out.2.2.2.1; simp [execOp, go_sem, h, Result.andThen]) ?_
          simp only [Act.put, pS]
          refine og_tk (some 71) (.slice (some ⟨q14, 0, none⟩) 64 64) rfl rfl (by go_simp) (fun y hy => by have h := slPreA q14 y; simp [execOp, go_sem, h, Result.andThen]) ?_
          simp only [Act.put, pS]
          refine og_tk (some 72) (.int .u64 j) rfl rfl (by go_simp) (fun _ _ => by simp [execOp, go_sem]) ?_
          simp only [Act.put, pS]
          refine og_tk (some 73) (.int .i64 (j : Int)) rfl rfl (by go_simp) (fun y hy => by have h := HI.out.2.2.1; simp [execOp, go_sem, h, Result.andThen]) ?_
          simp only [Act.put, pS]
          refine og_tk (some 75) (.pointer (some ⟨b, 0, none⟩)) rfl rfl (by go_simp) (fun _ _ => by simp [execOp, go_sem]) ?_
          simp only [Act.put, pS]
          refine og_tk (some 76) (.pointer (some ⟨b, 0, none⟩)) rfl rfl (by go_simp) (fun _ _ => by simp [execOp, go_sem]) ?_
          simp only [Act.put, pS]
          have hgw := Rl.getw_walk y4 q14 64 64 (fun k => (G k).toNat) j (fun k hk => HE.out.row.cell k hk) (fun k => (G k).isLt) (by have := HI.out.1; omega) (by decide)
          rw [show Rl.gv (fun k => (fun k => (G k).toNat) (8 * j + k)) 8 = wd G j from rfl] at hgw
          have HGW := Lib.hid hgw
          clear hgw
          refine og_f rfl (by go_simp) fun K hK => ?_
          go_simp
          refine HGW.out.mono ?_
          rintro e y5 ⟨he, hw⟩
          obtain rfl : e = _ := he
          subst hw
          refine hK _ _ trivial ?_
          clear hK K HGW
          try simp only [Act.put, pS]
          have hix := ixMem b c HI.out.2.2.2.2.1
          refine og_f rfl (by go_simp) fun K hK => ?_
          go_simp
          refine hK _ _ trivial ?_
          clear hK K hix
          have kd := HE.out.mac.mem HI.out.2.2.2.2.1
          have fd := HE.out.mac.fz c
          have H5 : Hid (Ex2 y2 b to (j + 1) q14 M G (y4.setCell ⟨b, c, none⟩ (.int .u64 (wd G j : Int)))) := Lib.hid ⟨by rw [← exL_step, HI.out.2.2.2.2.2]; exact HE.out.mac.setMem HI.out.2.2.2.2.1 _, Wt.IsTab.kept HE.out.row (kept_set (S := fun k => k = b) (Kept.refl _ y4) b _ rfl _) HE.out.ne, kept_set HE.out.kept b _ rfl _, HE.out.ne⟩
          refine og_f rfl (by go_simp) fun K hK => ?_
          go_simp
          refine hK _ _ trivial ?_
          clear hK K kd fd
          refine og_done (NoPanic.normal ?_)
          generalize y4.setCell ⟨b, c, none⟩ (.int .u64 (wd G j : Int)) = y6 at *
          have hw1 := HI.out.2.1
          go_wp2_with (fail)
          go_roundw
          case rel => exact ⟨j + 1, HI.out.1, by go_num, H5⟩
          case measure => have := HI.out.1; simp [intOf]; omega
        · obtain rfl : j = 4 := by omega
          have HMC := Lib.hid HP2.out.mac
          have kp : wr.cell? ⟨b, 8208, none⟩ = some (.int .u64 (M.pc : Int)) := HMC.out.pc
          have fp := HMC.out.fz 8208
          have HW : Hid (IntKind.u64.wrap ((M.pc : Int) + 1) = ((M.pc + 1 : Nat) : Int)) := Lib.hid (wrap_pc HH.out.2.2.2.2.1)
          have H9 : Hid (IsMac (wr.setCell ⟨b, 8208, none⟩ (.int .u64 (IntKind.u64.wrap ((M.pc : Int) + 1)))) b { exL M to 4 (wd G) with pc := M.pc + 1 }) := Lib.hid (by rw [HW.out]; exact HMC.out.setPc (M.pc + 1))
          have K9 := Lib.hid (kept_set (S := fun k => k = b) HP2.out.kept b 8208 rfl (.int .u64 (IntKind.u64.wrap ((M.pc : Int) + 1))))
          clear hlt hlt2
          generalize hpc : (M.pc : Int) = PC at *
          go_wp2_with (fail)
          subst hpc
          exact bodyPost_end (v := .tuple #[]) (by simp [results, Tryd.results62, go_sem]) rfl ⟨rfl, yA, HQ.out ▸ HP.out.below, y2, HRR.out, K9.out, H9.out⟩
set_option maxHeartbeats 4000000 in
set_option maxRecDepth 100000 in
theorem exch35_true (b s fr to : Nat) (M : Mac) (G : Px) (w : World) (U : Nat → Prop) (Rr : World → World → Prop) (hm : IsMac w b M) (hM : ∀ i, M.mem i < 18446744073709551616) (hf : fr + 4 ≤ 8192) (ht : to + 8 ≤ 8192) (hpc : M.pc < 8192) (hU : ¬ U b)
    (hX : ∀ y, Below w.heap.size w y → Calls Tryd.prog 78 #[.pointer (some ⟨s, 0, none⟩), .int .i64 35, pv (pxW 4 fun i => M.mem (fr + i))] y fun e w' => e = .returned (.tuple #[pv G, .bool true]) ∧ Rr y w')
    (hR : ∀ y z, Below w.heap.size w y → Rr y z → Kept U y z) :
    Calls Tryd.prog 62 #[.pointer (some ⟨b, 0, none⟩), .pointer (some ⟨s, 0, none⟩), .int .i64 35, .int .u64 fr, .int .u64 to] w fun e w' => e = .returned (.tuple #[]) ∧ ∃ y, Below w.heap.size w y ∧ ∃ z, Rr y z ∧ Kept (fun k => k = b) z w' ∧ IsMac w' b ({ exL M to 8 (wd G) with pc := M.pc + 1 }) := by
  have t1 : decide ((8188 : Int) < (fr : Int)) = false := by simp; omega
  have t2 : decide ((8184 : Int) < (to : Int)) = false := by simp; omega
  have HH := Lib.hid (And.intro hm (And.intro hM (And.intro hf (And.intro ht (And.intro hpc hU)))))
  have HX := Lib.hid (And.intro hX hR)
  clear hm hM hf ht hpc hU hX hR
  obtain ⟨f, hf⟩ : ∃ f : Nat → Nat, (fun i => M.mem (fr + i)) = f := ⟨_, rfl⟩
  rw [hf] at HX
  have HF : Hid (∀ i, M.mem (fr + i) = f i) := Lib.hid fun i => congrFun hf i
  clear hf
  have z1 := zeroPre
  have HBZ := Lib.hid (fun u : World => buildZ u)
  generalize hz : (tab 64 fun _ => bv 0#8) = zq at *
  have HZQ := Lib.hid hz
  clear hz
  have HZ1 : Hid ((Tryd.prog.info? 79).map (·.size) = some zq.size ∧ zq.all (·.oneCell') = true) := Lib.hid ⟨by rw [← HZQ.out]; exact infPre _, by rw [← HZQ.out]; exact one_bv _ _⟩
  have H0 : Hid (Ex1 w f 0 (w.alloc (.cells zq 79))) := Lib.hid ⟨by rw [pxW_zero, ← HZQ.out]; exact IsTab.new w _ 64 _, ba _ _⟩
  go_enter Tryd.func62, Tryd.ntmps62
  go_wp2_with (first
    | ((with_reducible refine Wt.wpList_buildM (P := Tryd.prog) (w := w) ?_ 79 ?_ (.agg zq) (HBZ.out w) ?_); (· exact rfl); (· exact rfl))
    | ((with_reducible refine wpList_store_row (P := Tryd.prog) (w := w.alloc (.cells zq 79)) ?_ 79 (.tmp 12) (.tmp 33) ?_ w.heap.size zq ?_ ?_ 79 zq (heap_alloc_last w _) HZ1.out.1 rfl HZ1.out.2 ?_); (· exact rfl); (· exact rfl); (· exact rfl); (· exact rfl); rw [World.setRow_alloc_new]; simp only [Act.put]))
  clear t1 t2
  generalize w.alloc (.cells zq 79) = y0 at *
  generalize hq : w.heap.size = q at *
  have HQ := Lib.hid hq
  clear hq
  go_loopw [36] (fun ti y => ∃ i : Nat, i ≤ 4 ∧ ti = .int .i64 i ∧ Hid (Ex1 w f i y)) (fun ti _ => 4 - (intOf ti).toNat)
  case atStart => exact ⟨0, Nat.zero_le _, rfl, H0⟩
  case round =>
    obtain ⟨i, hi, rfl, hp⟩ := hrel
    have HP := Lib.hid hp.out
    clear hp H0
    by_cases hlt : (i : Int) < 4
    · obtain ⟨a, ha⟩ : ∃ a : Nat, fr + i = a := ⟨_, rfl⟩
      have HFA : Hid (M.mem a = f i) := Lib.hid (by rw [← ha]; exact HF.out i)
      have HI : Hid (i < 4 ∧ wrap64 ((i : Int) + 1) = ((i + 1 : Nat) : Int) ∧ IntKind.u64.wrap (i : Int) = (i : Int) ∧ IntKind.u64.wrap ((fr : Int) + (i : Int)) = (a : Int) ∧ a < 8192) := Lib.hid (by
        have h := HH.out
        refine ⟨by omega, by unfold wrap64; omega, IntWalk.u64_in _ (by omega), ?_, by omega⟩
        rw [IntWalk.u64_in _ (by omega)]; omega)
      clear ha
      go_upto_region 9 with (fail)
      have HMR : Hid (IsMac wr.drew b M ∧ IsTab wr.drew q 79 64 (fun j => bv (pxW i f j)) ∧ Below q w wr.drew) := Lib.hid ⟨(HH.out.1.below HP.out.below).kept (Wt.kept_drew _) id, HQ.out ▸ HP.out.row.drew, HQ.out ▸ HP.out.below.drew⟩
      clear HP
      refine wp_region_og (fun z : World => IsMac z b M) (.take 0 (.take 1 (.take 2 (.take 3 (.take 4 (.take 5 (.take 6 (.take 7 (.take 8 (.take 9 (.take 10 (.one 11 .done)))))))))))) (by kernel_rfl) (by kernel_rfl) HMR.out.1 ?_
      generalize wr.drew = y1 at *
      refine og_tk (some 39) (.slice (some ⟨q, 0, none⟩) 64 64) rfl rfl (by go_simp) (fun y hy => by have h := slPreA q y; simp [execOp, go_sem, h, Result.andThen]) ?_
      simp only [Act.put, pS]
      refine og_tk (some 40) (.int .i64 i) rfl rfl (by go_simp) (fun _ _ => by simp [execOp, go_sem]) ?_
      simp only [Act.put, pS]
      refine og_tk (some 41) (.pointer (some ⟨b, 0, none⟩)) rfl rfl (by go_simp) (fun _ _ => by simp [execOp, go_sem]) ?_
      simp only [Act.put, pS]
      refine og_tk (some 42) (.int .u64 fr) rfl rfl (by go_simp) (fun _ _ => by simp [execOp, go_sem]) ?_
      simp only [Act.put, pS]
      refine og_tk (some 43) (.int .i64 i) rfl rfl (by go_simp) (fun _ _ => by simp [execOp, go_sem]) ?_
      simp only [Act.put, pS]
      refine og_tk (some 44) (.int .u64 (i : Int)) rfl rfl (by go_simp) (fun y hy => by have h := HI.out.2.2.1; simp [execOp, go_sem, h, Result.andThen]) ?_
      simp only [Act.put, pS]
      refine og_tk (some 45) (.int .u64 (a : Int)) rfl rfl (by go_simp) (fun y hy => by have h := HI.out.2.2.2.1; simp [execOp, go_sem, h, Result.andThen]) ?_
      simp only [Act.put, pS]
      refine og_tk (some 46) (.pointer (some ⟨b, 0, none⟩)) rfl rfl (by go_simp) (fun _ _ => by simp [execOp, go_sem]) ?_
      simp only [Act.put, pS]
      refine og_tk (some 47) (.pointer (some ⟨b, 0, none⟩)) rfl rfl (by go_simp) (fun _ _ => by simp [execOp, go_sem]) ?_
      simp only [Act.put, pS]
      refine og_tk (some 48) (.pointer (some ⟨b, a, none⟩)) rfl rfl (by go_simp) (fun y hy => by have h := ixMem b a HI.out.2.2.2.2 y; simp [execOp, go_sem, h, Result.andThen]) ?_
      simp only [Act.put, pS]
      refine og_ld (some 49) 33 (.tmp 48) (.pointer (some ⟨b, a, none⟩)) (.int .u64 (f i : Int)) rfl rfl (by go_simp) rfl rfl (fun y hy => by have h := HFA.out ▸ hy.mem HI.out.2.2.2.2; simp [Instr.loadAt, go_sem, h, Tryd.underlying33]) ?_
      simp only [Act.put, pS]
      have HPW := Lib.hid (Rl.put_walk y1 q 79 64 64 (fun j => bv (pxW i f j)) i (f i) HMR.out.2.1 (by have := HI.out.1; omega) (by decide) (by rw [← HF.out]; exact HH.out.2.1 _))
      refine og_f rfl (by go_simp) fun K hK => ?_
      go_simp
      refine HPW.out.mono ?_
      rintro e y2 ⟨he, hpt⟩
      obtain rfl : e = _ := he
      have HP2 : Hid (Ex1 w f (i + 1) y2) := Lib.hid ⟨HQ.out ▸ (hpt.row.cong fun j _ => put_pxW i f j), Wt.below_of (HQ.out ▸ HMR.out.2.2) hpt.kept fun j _ hj => by rw [hj]; exact Nat.le_of_eq HQ.out⟩
      refine hK _ _ (HH.out.1.below HP2.out.below) ?_
      clear hK K hpt HPW
      try simp only [Act.put, pS]
      refine og_done (NoPanic.normal ?_)
      have hw1 := HI.out.2.1
      go_wp2_with (fail)
      go_roundw
      case rel => exact ⟨i + 1, HI.out.1, by go_num, HP2⟩
      case measure => have := HI.out.1; simp [intOf]; omega
    · obtain rfl : i = 4 := by omega
      have hx := HX.out.1 wr (HQ.out ▸ HP.out.below)
      unfold pv at hx
      have HXC := Lib.hid hx
      have HLP := Lib.hid (loadPb (HQ.out ▸ HP.out.row : IsTab wr q 79 64 fun j => bv (pxW 4 f j)))
      clear hx
      go_upto_region 12 with (first
        | ((with_reducible refine wpList_loadE (P := Tryd.prog) (w := wr) (ty := 79) (x := .tmp 12) (p := .pointer (some ⟨q, 0, none⟩)) (v := .agg (tab 64 fun i => bv (pxW 4 f i))) ?_ ?_ ?_ HLP.out ?_); (· exact rfl); (· exact rfl); (· exact rfl))
        | (go_at_call 78; (with_reducible refine HXC.out.mono ?_); rintro e y2 ⟨he, hrr⟩; obtain rfl : e = _ := he; have HRR := Lib.hid hrr; clear hrr HXC)
        | ((with_reducible refine wpList_store_row (P := Tryd.prog) (w := y2.alloc (.cells zq 79)) ?_ 79 (.tmp 14) (.tmp 57) ?_ y2.heap.size (tab 64 fun i => bv (G i)) ?_ ?_ 79 zq (heap_alloc_last y2 _) (infPre _) ?_ (one_bv _ _) ?_); (· exact rfl); (· exact rfl); (· exact rfl); (· exact rfl); (· rw [← HZQ.out] <;> rw [tab_size, tab_size]); rw [World.setRow_alloc_new]; simp only [Act.put]))
      have HK := Lib.hid (HX.out.2 wr y2 (HQ.out ▸ HP.out.below) HRR.out)
      have HM2 : Hid (IsMac y2 b M) := Lib.hid ((HH.out.1.below HP.out.below).kept HK.out HH.out.2.2.2.2.2)
      have H2 : Hid (Ex2 y2 b to 0 y2.heap.size M G (y2.alloc (.cells (tab 64 fun i => bv (G i)) 79))) := Lib.hid ⟨by rw [exL_zero]; exact HM2.out.below (ba _ _), IsTab.new y2 _ 64 _, Kept.ofBelow (ba _ _), by have := HM2.out.lt; omega⟩
      generalize y2.alloc (.cells (tab 64 fun i => bv (G i)) 79) = y3 at *
      have HQ14 : Hid (y2.heap.size = y2.heap.size) := Lib.hid rfl
      generalize y2.heap.size = q14 at *
      clear HM2 HLP
      generalize wr = yA at *
      go_wp2_with (fail)
      go_loopw [64] (fun ti y => ∃ i : Nat, i ≤ 8 ∧ ti = .int .u64 i ∧ Hid (Ex2 y2 b to i q14 M G y)) (fun ti _ => 8 - (intOf ti).toNat)
      case atStart => exact ⟨0, Nat.zero_le _, rfl, H2⟩
      case round =>
        obtain ⟨j, hj, rfl, hp⟩ := hrel
        have HP2 := Lib.hid hp.out
        clear hp H2
        by_cases hlt2 : (j : Int) < 8
        · obtain ⟨c, hc⟩ : ∃ c : Nat, to + j = c := ⟨_, rfl⟩
          have HI : Hid (j < 8 ∧ IntKind.u64.wrap ((j : Int) + 1) = ((j + 1 : Nat) : Int) ∧ IntKind.i64.wrap (j : Int) = (j : Int) ∧ IntKind.u64.wrap ((to : Int) + (j : Int)) = (c : Int) ∧ c < 8192 ∧ to + j = c) := Lib.hid (by
            have h := HH.out
            refine ⟨by omega, ?_, IntWalk.i64_in _ (by omega), ?_, by omega, hc⟩
            · rw [IntWalk.u64_in _ (by omega)]; omega
            · rw [IntWalk.u64_in _ (by omega)]; omega)
          clear hc
          go_upto_region 17 with (fail)
          have HE : Hid (Ex2 y2 b to j q14 M G wr.drew) := Lib.hid ⟨HP2.out.mac.kept (Wt.kept_drew _) id, HP2.out.row.drew, HP2.out.kept.drew, HP2.out.ne⟩
          clear HP2
          refine wp_region_og (fun _ : World => True) (.take 0 (.take 1 (.take 2 (.take 3 (.take 4 (.take 5 (.take 6 (.take 8 (.take 9 (.one 7 (.one 10 (.one 11 .done)))))))))))) (by kernel_rfl) (by kernel_rfl) trivial ?_
          generalize wr.drew = y4 at *
          refine og_tk (some 67) (.pointer (some ⟨b, 0, none⟩)) rfl rfl (by go_simp) (fun _ _ => by simp [execOp, go_sem]) ?_
          simp only [Act.put, pS]
          refine og_tk (some 68) (.int .u64 to) rfl rfl (by go_simp) (fun _ _ => by simp [execOp, go_sem]) ?_
          simp only [Act.put, pS]
          refine og_tk (some 69) (.int .u64 j) rfl rfl (by go_simp) (fun _ _ => by simp [execOp, go_sem]) ?_
          simp only [Act.put, pS]
          refine og_tk (some 70) (.int .u64 (c : Int)) rfl rfl (by go_simp) (fun y hy => by have h := HI.out.2.2.2.1; simp [execOp, go_sem, h, Result.andThen]) ?_
          simp only [Act.put, pS]
          refine og_tk (some 71) (.slice (some ⟨q14, 0, none⟩) 64 64) rfl rfl (by go_simp) (fun y hy => by have h := slPreA q14 y; simp [execOp, go_sem, h, Result.andThen]) ?_
          simp only [Act.put, pS]
          refine og_tk (some 72) (.int .u64 j) rfl rfl (by go_simp) (fun _ _ => by simp [execOp, go_sem]) ?_
          simp only [Act.put, pS]
          refine og_tk (some 73) (.int .i64 (j : Int)) rfl rfl (by go_simp) (fun y hy => by have h := HI.out.2.2.1; simp [execOp, go_sem, h, Result.andThen]) ?_
          simp only [Act.put, pS]
          refine og_tk (some 75) (.pointer (some ⟨b, 0, none⟩)) rfl rfl (by go_simp) (fun _ _ => by simp [execOp, go_sem]) ?_
          simp only [Act.put, pS]
          refine og_tk (some 76) (.pointer (some ⟨b, 0, none⟩)) rfl rfl (by go_simp) (fun _ _ => by simp [execOp, go_sem]) ?_
          simp only [Act.put, pS]
          have hgw := Rl.getw_walk y4 q14 64 64 (fun k => (G k).toNat) j (fun k hk => HE.out.row.cell k hk) (fun k => (G k).isLt) (by have := HI.out.1; omega) (by decide)
          rw [show Rl.gv (fun k => (fun k => (G k).toNat) (8 * j + k)) 8 = wd G j from rfl] at hgw
          have HGW := Lib.hid hgw
          clear hgw
          refine og_f rfl (by go_simp) fun K hK => ?_
          go_simp
          refine HGW.out.mono ?_
          rintro e y5 ⟨he, hw⟩
          obtain rfl : e = _ := he
          subst hw
          refine hK _ _ trivial ?_
          clear hK K HGW
          try simp only [Act.put, pS]
          have hix := ixMem b c HI.out.2.2.2.2.1
          refine og_f rfl (by go_simp) fun K hK => ?_
          go_simp
          refine hK _ _ trivial ?_
          clear hK K hix
          have kd := HE.out.mac.mem HI.out.2.2.2.2.1
          have fd := HE.out.mac.fz c
          have H5 : Hid (Ex2 y2 b to (j + 1) q14 M G (y4.setCell ⟨b, c, none⟩ (.int .u64 (wd G j : Int)))) := Lib.hid ⟨by rw [← exL_step, HI.out.2.2.2.2.2]; exact HE.out.mac.setMem HI.out.2.2.2.2.1 _, Wt.IsTab.kept HE.out.row (kept_set (S := fun k => k = b) (Kept.refl _ y4) b _ rfl _) HE.out.ne, kept_set HE.out.kept b _ rfl _, HE.out.ne⟩
          refine og_f rfl (by go_simp) fun K hK => ?_
          go_simp
          refine hK _ _ trivial ?_
          clear hK K kd fd
          refine og_done (NoPanic.normal ?_)
          generalize y4.setCell ⟨b, c, none⟩ (.int .u64 (wd G j : Int)) = y6 at *
          have hw1 := HI.out.2.1
          go_wp2_with (fail)
          go_roundw
          case rel => exact ⟨j + 1, HI.out.1, by go_num, H5⟩
          case measure => have := HI.out.1; simp [intOf]; omega
        · obtain rfl : j = 8 := by omega
          have HMC := Lib.hid HP2.out.mac
          have kp : wr.cell? ⟨b, 8208, none⟩ = some (.int .u64 (M.pc : Int)) := HMC.out.pc
          have fp := HMC.out.fz 8208
          have HW : Hid (IntKind.u64.wrap ((M.pc : Int) + 1) = ((M.pc + 1 : Nat) : Int)) := Lib.hid (wrap_pc HH.out.2.2.2.2.1)
          have H9 : Hid (IsMac (wr.setCell ⟨b, 8208, none⟩ (.int .u64 (IntKind.u64.wrap ((M.pc : Int) + 1)))) b { exL M to 8 (wd G) with pc := M.pc + 1 }) := Lib.hid (by rw [HW.out]; exact HMC.out.setPc (M.pc + 1))
          have K9 := Lib.hid (kept_set (S := fun k => k = b) HP2.out.kept b 8208 rfl (.int .u64 (IntKind.u64.wrap ((M.pc : Int) + 1))))
          clear hlt hlt2
          generalize hpc : (M.pc : Int) = PC at *
          go_wp2_with (fail)
          subst hpc
          exact bodyPost_end (v := .tuple #[]) (by simp [results, Tryd.results62, go_sem]) rfl ⟨rfl, yA, HQ.out ▸ HP.out.below, y2, HRR.out, K9.out, H9.out⟩
set_option maxHeartbeats 4000000 in
set_option maxRecDepth 100000 in
theorem exch35_false (b s fr to : Nat) (M : Mac) (G : Px) (w : World) (U : Nat → Prop) (Rr : World → World → Prop) (hm : IsMac w b M) (hM : ∀ i, M.mem i < 18446744073709551616) (hf : fr + 4 ≤ 8192) (ht : to + 8 ≤ 8192) (hpc : M.pc < 8192) (hU : ¬ U b)
    (hX : ∀ y, Below w.heap.size w y → Calls Tryd.prog 78 #[.pointer (some ⟨s, 0, none⟩), .int .i64 35, pv (pxW 4 fun i => M.mem (fr + i))] y fun e w' => e = .returned (.tuple #[pv G, .bool false]) ∧ Rr y w')
    (hR : ∀ y z, Below w.heap.size w y → Rr y z → Kept U y z) :
    Calls Tryd.prog 62 #[.pointer (some ⟨b, 0, none⟩), .pointer (some ⟨s, 0, none⟩), .int .i64 35, .int .u64 fr, .int .u64 to] w fun e w' => e = .returned (.tuple #[]) ∧ ∃ y, Below w.heap.size w y ∧ ∃ z, Rr y z ∧ Kept (fun k => k = b) z w' ∧ IsMac w' b (stopM M 18446744073709551615) := by
  have t1 : decide ((8188 : Int) < (fr : Int)) = false := by simp; omega
  have t2 : decide ((8184 : Int) < (to : Int)) = false := by simp; omega
  have HH := Lib.hid (And.intro hm (And.intro hM (And.intro hf (And.intro ht (And.intro hpc hU)))))
  have HX := Lib.hid (And.intro hX hR)
  clear hm hM hf ht hpc hU hX hR
  obtain ⟨f, hf⟩ : ∃ f : Nat → Nat, (fun i => M.mem (fr + i)) = f := ⟨_, rfl⟩
  rw [hf] at HX
  have HF : Hid (∀ i, M.mem (fr + i) = f i) := Lib.hid fun i => congrFun hf i
  clear hf
  have z1 := zeroPre
  have HBZ := Lib.hid (fun u : World => buildZ u)
  generalize hz : (tab 64 fun _ => bv 0#8) = zq at *
  have HZQ := Lib.hid hz
  clear hz
  have HZ1 : Hid ((Tryd.prog.info? 79).map (·.size) = some zq.size ∧ zq.all (·.oneCell') = true) := Lib.hid ⟨by rw [← HZQ.out]; exact infPre _, by rw [← HZQ.out]; exact one_bv _ _⟩
  have H0 : Hid (Ex1 w f 0 (w.alloc (.cells zq 79))) := Lib.hid ⟨by rw [pxW_zero, ← HZQ.out]; exact IsTab.new w _ 64 _, ba _ _⟩
  go_enter Tryd.func62, Tryd.ntmps62
  go_wp2_with (first
    | ((with_reducible refine Wt.wpList_buildM (P := Tryd.prog) (w := w) ?_ 79 ?_ (.agg zq) (HBZ.out w) ?_); (· exact rfl); (· exact rfl))
    | ((with_reducible refine wpList_store_row (P := Tryd.prog) (w := w.alloc (.cells zq 79)) ?_ 79 (.tmp 12) (.tmp 33) ?_ w.heap.size zq ?_ ?_ 79 zq (heap_alloc_last w _) HZ1.out.1 rfl HZ1.out.2 ?_); (· exact rfl); (· exact rfl); (· exact rfl); (· exact rfl); rw [World.setRow_alloc_new]; simp only [Act.put]))
  clear t1 t2
  generalize w.alloc (.cells zq 79) = y0 at *
  generalize hq : w.heap.size = q at *
  have HQ := Lib.hid hq
  clear hq
  go_loopw [36] (fun ti y => ∃ i : Nat, i ≤ 4 ∧ ti = .int .i64 i ∧ Hid (Ex1 w f i y)) (fun ti _ => 4 - (intOf ti).toNat)
  case atStart => exact ⟨0, Nat.zero_le _, rfl, H0⟩
  case round =>
    obtain ⟨i, hi, rfl, hp⟩ := hrel
    have HP := Lib.hid hp.out
    clear hp H0
    by_cases hlt : (i : Int) < 4
    · obtain ⟨a, ha⟩ : ∃ a : Nat, fr + i = a := ⟨_, rfl⟩
      have HFA : Hid (M.mem a = f i) := Lib.hid (by rw [← ha]; exact HF.out i)
      have HI : Hid (i < 4 ∧ wrap64 ((i : Int) + 1) = ((i + 1 : Nat) : Int) ∧ IntKind.u64.wrap (i : Int) = (i : Int) ∧ IntKind.u64.wrap ((fr : Int) + (i : Int)) = (a : Int) ∧ a < 8192) := Lib.hid (by
        have h := HH.out
        refine ⟨by omega, by unfold wrap64; omega, IntWalk.u64_in _ (by omega), ?_, by omega⟩
        rw [IntWalk.u64_in _ (by omega)]; omega)
      clear ha
      go_upto_region 9 with (fail)
      have HMR : Hid (IsMac wr.drew b M ∧ IsTab wr.drew q 79 64 (fun j => bv (pxW i f j)) ∧ Below q w wr.drew) := Lib.hid ⟨(HH.out.1.below HP.out.below).kept (Wt.kept_drew _) id, HQ.out ▸ HP.out.row.drew, HQ.out ▸ HP.out.below.drew⟩
      clear HP
      refine wp_region_og (fun z : World => IsMac z b M) (.take 0 (.take 1 (.take 2 (.take 3 (.take 4 (.take 5 (.take 6 (.take 7 (.take 8 (.take 9 (.take 10 (.one 11 .done)))))))))))) (by kernel_rfl) (by kernel_rfl) HMR.out.1 ?_
      generalize wr.drew = y1 at *
      refine og_tk (some 39) (.slice (some ⟨q, 0, none⟩) 64 64) rfl rfl (by go_simp) (fun y hy => by have h := slPreA q y; simp [execOp, go_sem, h, Result.andThen]) ?_
      simp only [Act.put, pS]
      refine og_tk (some 40) (.int .i64 i) rfl rfl (by go_simp) (fun _ _ => by simp [execOp, go_sem]) ?_
      simp only [Act.put, pS]
      refine og_tk (some 41) (.pointer (some ⟨b, 0, none⟩)) rfl rfl (by go_simp) (fun _ _ => by simp [execOp, go_sem]) ?_
      simp only [Act.put, pS]
      refine og_tk (some 42) (.int .u64 fr) rfl rfl (by go_simp) (fun _ _ => by simp [execOp, go_sem]) ?_
      simp only [Act.put, pS]
      refine og_tk (some 43) (.int .i64 i) rfl rfl (by go_simp) (fun _ _ => by simp [execOp, go_sem]) ?_
      simp only [Act.put, pS]
      refine og_tk (some 44) (.int .u64 (i : Int)) rfl rfl (by go_simp) (fun y hy => by have h := HI.out.2.2.1; simp [execOp, go_sem, h, Result.andThen]) ?_
      simp only [Act.put, pS]
      refine og_tk (some 45) (.int .u64 (a : Int)) rfl rfl (by go_simp) (fun y hy => by have h := HI.out.2.2.2.1; simp [execOp, go_sem, h, Result.andThen]) ?_
      simp only [Act.put, pS]
      refine og_tk (some 46) (.pointer (some ⟨b, 0, none⟩)) rfl rfl (by go_simp) (fun _ _ => by simp [execOp, go_sem]) ?_
      simp only [Act.put, pS]
      refine og_tk (some 47) (.pointer (some ⟨b, 0, none⟩)) rfl rfl (by go_simp) (fun _ _ => by simp [execOp, go_sem]) ?_
      simp only [Act.put, pS]
      refine og_tk (some 48) (.pointer (some ⟨b, a, none⟩)) rfl rfl (by go_simp) (fun y hy => by have h := ixMem b a HI.out.2.2.2.2 y; simp [execOp, go_sem, h, Result.andThen]) ?_
      simp only [Act.put, pS]
      refine og_ld (some 49) 33 (.tmp 48) (.pointer (some ⟨b, a, none⟩)) (.int .u64 (f i : Int)) rfl rfl (by go_simp) rfl rfl (fun y hy => by have h := HFA.out ▸ hy.mem HI.out.2.2.2.2; simp [Instr.loadAt, go_sem, h, Tryd.underlying33]) ?_
      simp only [Act.put, pS]
      have HPW := Lib.hid (Rl.put_walk y1 q 79 64 64 (fun j => bv (pxW i f j)) i (f i) HMR.out.2.1 (by have := HI.out.1; omega) (by decide) (by rw [← HF.out]; exact HH.out.2.1 _))
      refine og_f rfl (by go_simp) fun K hK => ?_
      go_simp
      refine HPW.out.mono ?_
      rintro e y2 ⟨he, hpt⟩
      obtain rfl : e = _ := he
      have HP2 : Hid (Ex1 w f (i + 1) y2) := Lib.hid ⟨HQ.out ▸ (hpt.row.cong fun j _ => put_pxW i f j), Wt.below_of (HQ.out ▸ HMR.out.2.2) hpt.kept fun j _ hj => by rw [hj]; exact Nat.le_of_eq HQ.out⟩
      refine hK _ _ (HH.out.1.below HP2.out.below) ?_
      clear hK K hpt HPW
      try simp only [Act.put, pS]
      refine og_done (NoPanic.normal ?_)
      have hw1 := HI.out.2.1
      go_wp2_with (fail)
      go_roundw
      case rel => exact ⟨i + 1, HI.out.1, by go_num, HP2⟩
      case measure => have := HI.out.1; simp [intOf]; omega
    · obtain rfl : i = 4 := by omega
      have hx := HX.out.1 wr (HQ.out ▸ HP.out.below)
      unfold pv at hx
      have HXC := Lib.hid hx
      have HLP := Lib.hid (loadPb (HQ.out ▸ HP.out.row : IsTab wr q 79 64 fun j => bv (pxW 4 f j)))
      clear hx
      go_upto_region 12 with (first
        | ((with_reducible refine wpList_loadE (P := Tryd.prog) (w := wr) (ty := 79) (x := .tmp 12) (p := .pointer (some ⟨q, 0, none⟩)) (v := .agg (tab 64 fun i => bv (pxW 4 f i))) ?_ ?_ ?_ HLP.out ?_); (· exact rfl); (· exact rfl); (· exact rfl))
        | (go_at_call 78; (with_reducible refine HXC.out.mono ?_); rintro e y2 ⟨he, hrr⟩; obtain rfl : e = _ := he; have HRR := Lib.hid hrr; clear hrr HXC)
        | ((with_reducible refine wpList_store_row (P := Tryd.prog) (w := y2.alloc (.cells zq 79)) ?_ 79 (.tmp 14) (.tmp 57) ?_ y2.heap.size (tab 64 fun i => bv (G i)) ?_ ?_ 79 zq (heap_alloc_last y2 _) (infPre _) ?_ (one_bv _ _) ?_); (· exact rfl); (· exact rfl); (· exact rfl); (· exact rfl); (· rw [← HZQ.out] <;> rw [tab_size, tab_size]); rw [World.setRow_alloc_new]; simp only [Act.put]))
      have HK := Lib.hid (HX.out.2 wr y2 (HQ.out ▸ HP.out.below) HRR.out)
      have HM2 : Hid (IsMac y2 b M) := Lib.hid ((HH.out.1.below HP.out.below).kept HK.out HH.out.2.2.2.2.2)
      have H2 := Lib.hid (HM2.out.below (ba y2 (.cells (tab 64 fun i => bv (G i)) 79)))
      have HB2 := Lib.hid (ba y2 (.cells (tab 64 fun i => bv (G i)) 79))
      generalize y2.alloc (.cells (tab 64 fun i => bv (G i)) 79) = y3 at *
      have hsw := stop_walk y3 b 18446744073709551615 M H2.out
      rw [show ((18446744073709551615 : Nat) : Int) = 18446744073709551615 from rfl] at hsw
      have HS := Lib.hid hsw
      clear hsw
      go_wp2_with (go_at_call 57; (with_reducible refine HS.out.mono ?_); rintro e y4 ⟨he, hm, hk⟩; obtain rfl : e = _ := he; have HM4 := Lib.hid (And.intro hm hk); clear hm hk HS)
      exact bodyPost_ret (v := .tuple #[]) (by simp [results, Tryd.results62, go_sem]) rfl ⟨rfl, wr, HQ.out ▸ HP.out.below, y2, HRR.out, (Kept.ofBelow HB2.out).trans HM4.out.2 fun _ _ h => h, HM4.out.1⟩
end Vm
end Go.Proofs.YtjfpbponjhpdhaaDoor
