/-
  keccak.absorb: a piece goes into the state. Own work.
-/
import Derived.Test.YtkhdamjjbjmeaaaDoorTab
import Derived.RegionTactic
import Derived.BigRegion
import Derived.BigQuiet
import Derived.Deep.QuietTactic
import Derived.IntWalk
import Derived.StillTailTactics
namespace Go.Proofs.YtkhdamjjbjmeaaaDoor
open Go.RowKit
set_option linter.unusedVariables false
namespace Kc
theorem len136 : Tryd.prog.arrayLen 72 = 136 := by kernel_rfl
theorem und136 : Tryd.prog.underlying 72 = some (.array (Tryd.prog.arrayLen 72) (Tryd.prog.elem 72)) := by kernel_rfl
theorem size136 (w : World) : (sizeOf (Tryd.prog.elem 72)).run Tryd.prog w = .ok 1 w := by kernel_rfl
theorem slice136 (q l h : Nat) (hl : l ≤ h) (hh : h ≤ 136) (hm : l < 136) (w : World) : (Instr.sliceAt 72 (.pointer (some ⟨q, 0, none⟩)) (some (.int .i64 (l : Int))) (some (.int .i64 (h : Int))) none).run Tryd.prog w = .ok (.slice (some ⟨q, l, none⟩) (h - l) (136 - l)) w := by
  rw [run_sliceAt_array_lh w _ ⟨q, 0, none⟩ und136 .i64 .i64 l h (by omega) (by omega) (by rw [len136]; omega), size136]
  have e : ¬ 136 = l := by omega
  simp [slicedAt, len136, e, add_at]
structure Ab (W : World) (q0 q1 q2 : Nat) (a : Nat → Wd64) (p : Nat → Bt) (y : World) : Prop where
  sa : IsTab y q0 71 25 fun i => wv (a i)
  sp : IsTab y q1 72 136 fun i => bv (p i)
  sr : IsTab y q2 71 25 fun _ => wv 0#64
  n01 : q0 ≠ q1
  n02 : q0 ≠ q2
  n12 : q1 ≠ q2
  g0 : W.heap.size ≤ q0
  g2 : W.heap.size ≤ q2
  below : Below W.heap.size W y
theorem Ab.step {W : World} {q0 q1 q2 n : Nat} {a : Nat → Wd64} {p : Nat → Bt} {y : World} (h : Ab W q0 q1 q2 (absorbK a p n) p y) (hn : n < 17) :
    Ab W q0 q1 q2 (absorbK a p (n + 1)) p (y.setCell ⟨q0, n, none⟩ (.int .u64 (Kc.W (absorbK a p n n ^^^ lane p n)))) :=
  ⟨(h.sa.set n _).cong (fun i _ => by
      unfold updv absorbK wv
      dsimp only
      by_cases e : i = n
      · subst e; rw [if_pos rfl, if_neg (Nat.lt_irrefl _), if_pos (Nat.lt_succ_self _)]
      · rw [if_neg e]
        by_cases e2 : i < n
        · rw [if_pos e2, if_pos (by omega)]
        · rw [if_neg e2, if_neg (by omega)]), h.sp.keep (Ne.symm h.n01), h.sr.keep (Ne.symm h.n02), h.n01, h.n02, h.n12, h.g0, h.g2, h.below.setCell h.g0 _⟩
set_option maxHeartbeats 4000000 in
set_option maxRecDepth 100000 in
theorem absorb_walk (hP : PermIs) (a : Nat → Wd64) (p : Nat → Bt) (w : World) (ht : Laid.KTab w) :
    Calls Tryd.prog 47 #[.agg (words a), .agg (tab 136 fun i => bv (p i))] w fun e w' => e = .returned (.agg (words (absorb a p))) ∧ Below w.heap.size w w' := by
  have HT := Lib.hid ht
  clear ht
  go_enter Tryd.func47, Tryd.ntmps47
  go_upto_region 1 with (fail)
  have hp : Ab w w.heap.size (w.heap.size + 1) (w.heap.size + 1 + 1) (absorbK a p 0) p (((w.alloc (.cells (words a) 71)).alloc (.cells (tab 136 fun i => bv (p i)) 72)).alloc (.cells #[.int .u64 0, .int .u64 0, .int .u64 0, .int .u64 0, .int .u64 0, .int .u64 0, .int .u64 0, .int .u64 0, .int .u64 0, .int .u64 0, .int .u64 0, .int .u64 0, .int .u64 0, .int .u64 0, .int .u64 0, .int .u64 0, .int .u64 0, .int .u64 0, .int .u64 0, .int .u64 0, .int .u64 0, .int .u64 0, .int .u64 0, .int .u64 0, .int .u64 0] 71)) := by
    have e1 : (w.alloc (.cells (words a) 71)).heap.size = w.heap.size + 1 := by simp
    have e2 : ((w.alloc (.cells (words a) 71)).alloc (.cells (tab 136 fun i => bv (p i)) 72)).heap.size = w.heap.size + 1 + 1 := by simp
    refine ⟨((((IsTab.new w _ 25 fun i => wv (a i)).alloc _).alloc _).cong fun i _ => by unfold absorbK; rw [if_neg (by omega)]), ?_, ?_, by omega, by omega, by omega, Nat.le_refl _, by omega, (((Below.refl _ _).alloc (Nat.le_refl _) _).alloc (by simp) _).alloc (by simp; omega) _⟩
    · have := (IsTab.new (w.alloc (.cells (words a) 71)) 72 136 fun i => bv (p i)).alloc (.cells #[.int .u64 0, .int .u64 0, .int .u64 0, .int .u64 0, .int .u64 0, .int .u64 0, .int .u64 0, .int .u64 0, .int .u64 0, .int .u64 0, .int .u64 0, .int .u64 0, .int .u64 0, .int .u64 0, .int .u64 0, .int .u64 0, .int .u64 0, .int .u64 0, .int .u64 0, .int .u64 0, .int .u64 0, .int .u64 0, .int .u64 0, .int .u64 0, .int .u64 0] 71)
      rw [e1] at this
      exact this
    · have := IsTab.new ((w.alloc (.cells (words a) 71)).alloc (.cells (tab 136 fun i => bv (p i)) 72)) 71 25 fun _ => wv 0#64
      rw [e2] at this
      exact this
  have HP := Lib.hid hp
  clear hp
  generalize ((w.alloc (.cells (words a) 71)).alloc (.cells (tab 136 fun i => bv (p i)) 72)).alloc (.cells #[.int .u64 0, .int .u64 0, .int .u64 0, .int .u64 0, .int .u64 0, .int .u64 0, .int .u64 0, .int .u64 0, .int .u64 0, .int .u64 0, .int .u64 0, .int .u64 0, .int .u64 0, .int .u64 0, .int .u64 0, .int .u64 0, .int .u64 0, .int .u64 0, .int .u64 0, .int .u64 0, .int .u64 0, .int .u64 0, .int .u64 0, .int .u64 0, .int .u64 0] 71) = y0 at *
  generalize w.heap.size + 1 + 1 = q2 at *
  generalize w.heap.size + 1 = q1 at *
  go_wp2_with fail
  go_loopw [7] (fun i y => ∃ n : Nat, n ≤ 17 ∧ i = .int .i64 n ∧ Ab w w.heap.size q1 q2 (absorbK a p n) p y) (fun i _ => 17 - (intOf i).toNat)
  case atStart => exact ⟨0, by decide, rfl, HP.out⟩
  case round =>
    obtain ⟨n, hn, rfl, hp⟩ := hrel
    generalize w.heap.size = q0 at *
    clear HP
    have HPP := Lib.hid hp
    clear hp
    by_cases hlt : (n : Int) < 17
    · have aj : _ = some (Value.int .u64 (W (absorbK a p n n))) := HPP.out.sa.cell n (by omega)
      have fj := HPP.out.sa.fz n
      have hsl := slice136 q1 (8 * n) (8 * n + 8) (by omega) (by omega) (by omega)
      rw [show ((8 * n : Nat) : Int) = 8 * (n : Int) from by omega, show ((8 * n + 8 : Nat) : Int) = 8 * (n : Int) + 8 from by omega, show 8 * n + 8 - 8 * n = 8 from by omega] at hsl
      go_upto_region 5 with (fail)
      clear hsl
      have b0 : _ = some (Value.int .u8 (Bv (p (8 * n)))) := HPP.out.sp.cell (8 * n) (by omega)
      have b1 : _ = some (Value.int .u8 (Bv (p (8 * n + 1)))) := HPP.out.sp.cell (8 * n + 1) (by omega)
      have b2 : _ = some (Value.int .u8 (Bv (p (8 * n + 2)))) := HPP.out.sp.cell (8 * n + 2) (by omega)
      have b3 : _ = some (Value.int .u8 (Bv (p (8 * n + 3)))) := HPP.out.sp.cell (8 * n + 3) (by omega)
      have b4 : _ = some (Value.int .u8 (Bv (p (8 * n + 4)))) := HPP.out.sp.cell (8 * n + 4) (by omega)
      have b5 : _ = some (Value.int .u8 (Bv (p (8 * n + 5)))) := HPP.out.sp.cell (8 * n + 5) (by omega)
      have b6 : _ = some (Value.int .u8 (Bv (p (8 * n + 6)))) := HPP.out.sp.cell (8 * n + 6) (by omega)
      have b7 : _ = some (Value.int .u8 (Bv (p (8 * n + 7)))) := HPP.out.sp.cell (8 * n + 7) (by omega)
      have n0 : (0 : Int) ≤ (n : Int) := by omega
      have n25 : (n : Int) < 25 := by omega
      have r0 := wrapB
      have r8 := wr_s8
      have r16 := wr_s16
      have r24 := wr_s24
      have r32 := wr_s32
      have r40 := wr_s40
      have r48 := wr_s48
      have r56 := wr_s56
      have xo := W_or
      have xr := W_xor
      go_still_tail 51, (by kernel_rfl)
      change wpList _ _ _ _ _ wr.drew
      have HPD : Ab w q0 q1 q2 (absorbK a p n) p wr.drew := ⟨HPP.out.sa, HPP.out.sp, HPP.out.sr, HPP.out.n01, HPP.out.n02, HPP.out.n12, HPP.out.g0, HPP.out.g2, HPP.out.below.drew⟩
      clear r0 r8 r16 r24 r32 r40 r48 r56 xo xr b0 b1 b2 b3 b4 b5 b6 b7 aj fj HPP
      have HPP := Lib.hid HPD
      clear HPD
      generalize wr.drew = w2 at *
      have aj : _ = some (Value.int .u64 (W (absorbK a p n n))) := HPP.out.sa.cell n (by omega)
      have fj := HPP.out.sa.fz n
      go_wp2_with fail
      go_roundw
      case rel => exact ⟨n + 1, by omega, by go_num, HPP.out.step (by omega)⟩
      case measure => simp [intOf]; omega
    · obtain rfl : n = 17 := by omega
      have ht2 := Lib.hid (ktab_below HT.out HPP.out.below)
      go_wp2_with (first
        | (refine wpList_load_row rfl 71 (.tmp 2) rfl q0 rfl 71 (tab 25 fun i => wv (absorbK a p 17 i)) (0, 0) _ HPP.out.sa und25 rfl (inf25 _) ?_)
        | (go_at_call 66; refine (hP (absorbK a p 17) _ ht2.out).mono ?_; rintro e w' ⟨rfl, hb⟩)
        | (refine wpList_store_row rfl 71 (.tmp 4) (.tmp 69) rfl q2 (words (perm (absorbK a p 17))) rfl rfl 71 _ (HPP.out.sr.below hb) (inf25 _) (by rw [tab_size, words, tab_size]) (one_wv _ _) ?_))
      have hr : IsTab (World.setRow w' q2 (words (perm (absorbK a p 17)))) q2 71 25 fun i => wv (perm (absorbK a p 17) i) := (HPP.out.sr.below hb).row
      have hbb := below_setRow (bl HPP.out.below hb) HPP.out.g2 (words (perm (absorbK a p 17)))
      refine bodyPost_ret (v := .agg (words (absorb a p))) (results_cell_row rfl _ _ q2 71 _ (0, 0) _ rfl hr und25 rfl (inf25 _)) rfl ⟨rfl, hbb⟩
end Kc
end Go.Proofs.YtkhdamjjbjmeaaaDoor
