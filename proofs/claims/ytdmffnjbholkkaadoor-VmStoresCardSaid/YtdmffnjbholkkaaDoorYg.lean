/-
  vm: Load, Run. Own work.
-/
import Derived.Test.YtdmffnjbholkkaaDoorYf
import Derived.StillTailTactics
namespace Go.Proofs.YtdmffnjbholkkaaDoor
open Go.RowKit
set_option linter.unusedVariables false
set_option linter.unusedSimpArgs false
namespace Wt
/-- A value of noughts alone, built. -/
theorem wpList_buildM {P : Program} {ops : Array Oper} {rest : List Oper} {o : Oper} {a : Act} {w : World} {Q : Exit → Act → World → Prop} (hg : o.guard = none) (t : TypeId) (ho : o.op = .build t #[])
    (v : Value) (hl : (Instr.build t #[]).run P w = .ok v w) (h : wpList P ops Q rest (a.put o.dst v) w) : wpList P ops Q (o :: rest) a w :=
  wpList_plain hg fun _ hK => by
    unfold Oper.wp execOp
    simp only [ho]
    simp [hl, Result.andThen]
    exact hK _ _ h
end Wt
namespace Vm
open Kc
/-- A slice of words. -/
def IsWs (w : World) (b o : Nat) (n : Nat) (g : Nat → Nat) : Prop := ∀ j, j < n → w.cell? ⟨b, o + j, none⟩ = some (.int .u64 (g j))
def loaded (n : Nat) (g : Nat → Nat) : Mac := ⟨fun i => if i < n then g i else 0, fun _ => 0, 0, false, 0⟩
theorem mc_loaded (n : Nat) (g : Nat → Nat) (hn : n ≤ 8192) (i : Nat) (hi : i < 8211) : splv (mc m0) 0 n (fun j => .int .u64 (g j)) i = mc (loaded n g) i := by
  unfold splv mc loaded m0
  by_cases h : i < n
  · rw [if_pos ⟨by omega, by omega⟩, if_pos (by omega)]
    simp [h]
  · rw [if_neg (by omega)]
    by_cases h1 : i < 8192
    · rw [if_pos h1, if_pos h1]; simp [h]
    · rw [if_neg h1, if_neg h1]
theorem slM (q : Nat) (w : World) : (Instr.sliceAt 84 (.pointer (some ⟨q, 0, none⟩)) none none none).run Tryd.prog w = .ok (.slice (some ⟨q, 0, none⟩) 8192 8192) w := by
  have hu : Tryd.prog.underlying 84 = some (.array (Tryd.prog.arrayLen 84) (Tryd.prog.elem 84)) := by kernel_rfl
  have hl : Tryd.prog.arrayLen 84 = 8192 := by kernel_rfl
  have hs : (sizeOf (Tryd.prog.elem 84)).run Tryd.prog w = .ok 1 w := by kernel_rfl
  rw [run_sliceAt_array_all w _ ⟨q, 0, none⟩ hu, hs]
  simp [slicedAt, hl, add_at]
theorem undW : Tryd.prog.underlying 93 = some (.slice 78) := by kernel_rfl
theorem sizeW : (Tryd.prog.info? 78).map (·.size) = some 1 := by kernel_rfl
set_option maxHeartbeats 1000000 in
set_option maxRecDepth 100000 in
theorem load_walk (w : World) (bw ow n c : Nat) (g : Nat → Nat) (h : IsWs w bw ow n g) (hn : n ≤ 8192) :
    Calls Tryd.prog 39 #[.slice (some ⟨bw, ow, none⟩) n c] w fun e w' => e = .returned (.tuple #[.pointer (some ⟨w.heap.size, 0, none⟩), .nilIface]) ∧ IsMac w' w.heap.size (loaded n g) ∧ Below w.heap.size w w' := by
  have t1 : decide (8192 < (n : Int)) = false := by simp; omega
  have HBM := Lib.hid (buildM0 w)
  have HT : Hid (IsTab (w.alloc (.cells (tab 8211 (mc m0)) 87)) w.heap.size 87 8211 (mc m0)) := Lib.hid (IsTab.new w _ 8211 _)
  have HB : Hid (Below w.heap.size w (w.alloc (.cells (tab 8211 (mc m0)) 87))) := Lib.hid ((Below.refl _ _).alloc (Nat.le_refl _) _)
  have HC : Hid (∀ j, j < n → (w.alloc (.cells (tab 8211 (mc m0)) 87)).cell? ((⟨bw, ow, none⟩ : Addr).add j) = some (.int .u64 (g j))) := Lib.hid (fun j hj => by rw [add_at]; exact keep1 HB.out (h j hj))
  have HN := Lib.hid hn
  clear h hn
  generalize hz : (tab 8211 (mc m0)) = ck at *
  have HZ := Lib.hid hz
  clear hz
  go_enter Tryd.func39, Tryd.ntmps39
  go_upto_region 4 with ((with_reducible refine Wt.wpList_buildM (P := Tryd.prog) (w := w) ?_ 87 ?_ (.agg ck) HBM.out ?_); (· exact rfl); (· exact rfl))
  generalize w.alloc (.cells ck 87) = y at *
  have s1 := slM w.heap.size
  generalize hq : w.heap.size = q at *
  go_upto_region 5 with (refine wpList_copy_tab rfl (.tmp 14) (.tmp 15) 93 93 rfl 78 undW sizeW q 0 8192 8192 ⟨bw, ow, none⟩ n c rfl rfl 87 8211 (mc m0) HT.out n (by have := HN.out; omega) (fun j => .int .u64 (g j)) (fun j hj => HC.out j hj) (by have := HN.out; omega) (fun _ => rfl) ?_)
  have H9 : IsMac (World.setRow y q (tab 8211 (splv (mc m0) 0 n fun j => .int .u64 (g j)))) q (loaded n g) := (IsTab.row (f := mc m0) HT.out).cong fun i hi => mc_loaded n g HN.out i hi
  have HB9 : Below w.heap.size w (World.setRow y q (tab 8211 (splv (mc m0) 0 n fun j => .int .u64 (g j)))) := below_setRow (by rw [hq]; exact HB.out) (by rw [hq]; exact Nat.le_refl _) _
  have H9 := Lib.hid (And.intro H9 HB9)
  clear HB9
  generalize World.setRow y q (tab 8211 (splv (mc m0) 0 n fun j => .int .u64 (g j))) = y9 at *
  have HQ := Lib.hid hq
  clear hq s1
  go_wp2_with (fail)
  exact bodyPost_ret (v := .tuple #[.pointer (some ⟨q, 0, none⟩), .nilIface]) (by simp [results, Tryd.results39, go_sem]) rfl ⟨by rw [HQ.out], by rw [HQ.out]; exact H9.out.1, H9.out.2⟩
theorem wrap_up (i : Nat) (h : (i : Int) + 1 ≤ 9223372036854775807) : wrap64 ((i : Int) + 1) = ((i + 1 : Nat) : Int) := by
  unfold wrap64; omega
theorem meas_dn {i k : Nat} (h : i + 1 ≤ k) : k - (i + 1) < k - i := by omega
theorem meas_loop {i k : Nat} (h : i + 1 ≤ k) (hw : wrap64 ((i : Int) + 1) = ((i + 1 : Nat) : Int)) : k - (intOf (.int .i64 (wrap64 ((i : Int) + 1)))).toNat < k - (intOf (.int .i64 (i : Int))).toNat := by
  rw [hw]
  show k - (i + 1) < k - i
  exact meas_dn h
/-- Run, over a row of machines. -/
theorem run_walk (b s n k : Nat) (f : Nat → Mac) (I : Nat → World → Prop) (hI : ∀ i y, I i y → IsMac y b (f i))
    (hstep : ∀ i y, i < k → I i y → Calls Tryd.prog 65 #[.pointer (some ⟨b, 0, none⟩), .pointer (some ⟨s, 0, none⟩)] y fun e w' => e = .returned (.tuple #[]) ∧ I (i + 1) w')
    (hk : k ≤ n) (hh : ∀ i, i < k → (f i).halted = false) (hend : k = n ∨ (f k).halted = true) (hn : (n : Int) < 9223372036854775807) (w : World) (h0 : I 0 w) :
    Calls Tryd.prog 37 #[.pointer (some ⟨b, 0, none⟩), .pointer (some ⟨s, 0, none⟩), .int .i64 n] w fun e w' => e = .returned (.tuple #[.int .i64 k, .nilIface]) ∧ I k w' := by
  have t1 : decide ((n : Int) < 0) = false := by simp
  have HI := Lib.hid hI
  have HS := Lib.hid hstep
  have HH := Lib.hid hh
  have HE := Lib.hid hend
  have HK := Lib.hid (And.intro hk hn)
  have H0 := Lib.hid h0
  clear hI hstep hh hend hk h0 hn
  go_enter Tryd.func37, Tryd.ntmps37
  go_wp2_with (fail)
  clear t1
  go_loopw [8] (fun t y => ∃ i : Nat, t = .int .i64 i ∧ Hid (i ≤ k ∧ I i y)) (fun t _ => k - (intOf t).toNat)
  case atStart => exact ⟨0, rfl, Lib.hid ⟨Nat.zero_le _, H0.out⟩⟩
  case round =>
    obtain ⟨i, rfl, hp⟩ := hrel
    have HP := Lib.hid hp.out
    clear hp H0
    have kh := (HI.out i wr HP.out.2).halted
    by_cases hlt : i < k
    · have t1 : decide (i < n) = true := by have := HK.out.1; simp; omega
      have e1 : (f i).halted = false := HH.out i hlt
      rw [e1] at kh
      have HC := Lib.hid (HS.out i wr hlt HP.out.2)
      have HW : Hid (wrap64 ((i : Int) + 1) = ((i + 1 : Nat) : Int) ∧ i + 1 ≤ k) := Lib.hid ⟨wrap_up i (by have := HK.out; omega), hlt⟩
      clear hlt e1
      go_upto_region 8 with (go_at_call 65; (with_reducible refine HC.out.mono ?_); rintro e y1 ⟨he, hi⟩; obtain rfl : e = _ := he; have HI1 := Lib.hid hi; clear hi)
      have hw1 := HW.out.1
      go_wp2_with (fail)
      go_roundw
      case rel => exact ⟨i + 1, by go_num, Lib.hid ⟨HW.out.2, HI1.out⟩⟩
      case measure =>
        exact meas_loop HW.out.2 HW.out.1
    · obtain rfl : i = k := by have := HP.out.1; omega
      by_cases hkn : i < n
      · have t1 : decide (i < n) = true := by simp; omega
        have e1 : (f i).halted = true := HE.out.resolve_left (by omega)
        rw [e1] at kh
        clear hlt hkn
        go_wp2_with (fail)
        exact bodyPost_ret (v := .tuple #[.int .i64 i, .nilIface]) (by simp [results, Tryd.results37, go_sem]) rfl ⟨rfl, HP.out.2⟩
      · have t1 : decide (i < n) = false := by simp; omega
        clear hlt hkn
        go_wp2_with (fail)
        exact bodyPost_ret (v := .tuple #[.int .i64 i, .nilIface]) (by simp [results, Tryd.results37, go_sem]) rfl ⟨rfl, HP.out.2⟩
end Vm
end Go.Proofs.YtdmffnjbholkkaaDoor
