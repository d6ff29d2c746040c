/-
  keccak.digest: the first 32 bytes of a state. Own work.
-/
import Derived.Test.YtkhdamjjbjmeaaaDoorTab
import Derived.RegionTactic
import Derived.IntWalk
namespace Go.Proofs.YtkhdamjjbjmeaaaDoor
open Go.RowKit
set_option linter.unusedVariables false
namespace Kc
structure Dg (W : World) (q0 q1 q2 : Nat) (a : Nat → Wd64) (d : Nat → Bt) (y : World) : Prop where
  sa : IsTab y q0 71 25 fun i => wv (a i)
  sr : IsTab y q1 24 32 fun _ => bv 0#8
  sh : IsTab y q2 24 32 fun i => bv (d i)
  n01 : q0 ≠ q1
  n02 : q0 ≠ q2
  n12 : q1 ≠ q2
  g1 : W.heap.size ≤ q1
  g2 : W.heap.size ≤ q2
  below : Below W.heap.size W y
def digK (a : Nat → Wd64) (k : Nat) : Nat → Bt := fun i => if i < k then digest a i else 0#8
theorem hInfo : (Tryd.prog.info? 24).map (·.size) = some 32 := by kernel_rfl
theorem infH (g : Nat → Value) : (Tryd.prog.info? 24).map (·.size) = some (tab 32 g).size := by rw [tab_size]; exact hInfo
theorem undH : Tryd.prog.underlying 24 = some (.array 32 5) := by kernel_rfl
theorem zInfoH : (Tryd.prog.info? 24).map (·.size) = some (#[.int .u8 0, .int .u8 0, .int .u8 0, .int .u8 0, .int .u8 0, .int .u8 0, .int .u8 0, .int .u8 0, .int .u8 0, .int .u8 0, .int .u8 0, .int .u8 0, .int .u8 0, .int .u8 0, .int .u8 0, .int .u8 0, .int .u8 0, .int .u8 0, .int .u8 0, .int .u8 0, .int .u8 0, .int .u8 0, .int .u8 0, .int .u8 0, .int .u8 0, .int .u8 0, .int .u8 0, .int .u8 0, .int .u8 0, .int .u8 0, .int .u8 0, .int .u8 0] : Array Value).size := by kernel_rfl
theorem zOneH : (#[.int .u8 0, .int .u8 0, .int .u8 0, .int .u8 0, .int .u8 0, .int .u8 0, .int .u8 0, .int .u8 0, .int .u8 0, .int .u8 0, .int .u8 0, .int .u8 0, .int .u8 0, .int .u8 0, .int .u8 0, .int .u8 0, .int .u8 0, .int .u8 0, .int .u8 0, .int .u8 0, .int .u8 0, .int .u8 0, .int .u8 0, .int .u8 0, .int .u8 0, .int .u8 0, .int .u8 0, .int .u8 0, .int .u8 0, .int .u8 0, .int .u8 0, .int .u8 0] : Array Value).all (·.oneCell') = true := by kernel_rfl
theorem zTabH : (tab 32 fun _ => bv 0#8) = #[.int .u8 0, .int .u8 0, .int .u8 0, .int .u8 0, .int .u8 0, .int .u8 0, .int .u8 0, .int .u8 0, .int .u8 0, .int .u8 0, .int .u8 0, .int .u8 0, .int .u8 0, .int .u8 0, .int .u8 0, .int .u8 0, .int .u8 0, .int .u8 0, .int .u8 0, .int .u8 0, .int .u8 0, .int .u8 0, .int .u8 0, .int .u8 0, .int .u8 0, .int .u8 0, .int .u8 0, .int .u8 0, .int .u8 0, .int .u8 0, .int .u8 0, .int .u8 0] := by rfl
theorem dig_val (a : Nat → Wd64) (n : Nat) : Kc.W (a (n / 8)) / 2 ^ (8 * (n % 8)) % 256 = Bv (digest a n) := by
  rw [W_shr]
  unfold Bv digest Kc.W
  rw [BitVec.toNat_setWidth]
  rfl
theorem Dg.step {W : World} {q0 q1 q2 n : Nat} {a : Nat → Wd64} {y : World} (h : Dg W q0 q1 q2 a (digK a n) y) (hn : n < 32) :
    Dg W q0 q1 q2 a (digK a (n + 1)) (y.setCell ⟨q2, n, none⟩ (.int .u8 (Kc.W (a (n / 8)) / 2 ^ (8 * (n % 8)) % 256))) := by
  rw [dig_val]
  refine ⟨h.sa.keep h.n02, h.sr.keep h.n12, (h.sh.set n _).cong (fun i _ => ?_), h.n01, h.n02, h.n12, h.g1, h.g2, h.below.setCell h.g2 _⟩
  unfold updv digK bv
  dsimp only
  by_cases e : i = n
  · subst e; rw [if_pos rfl, if_pos (Nat.lt_succ_self _)]
  · rw [if_neg e]
    by_cases e2 : i < n
    · rw [if_pos e2, if_pos (by omega)]
    · rw [if_neg e2, if_neg (by omega)]
set_option maxHeartbeats 4000000 in
set_option maxRecDepth 100000 in
theorem digest_walk (a : Nat → Wd64) (w : World) :
    Calls Tryd.prog 48 #[.agg (words a)] w fun e w' => e = .returned (.agg (tab 32 fun i => bv (digest a i))) ∧ Below w.heap.size w w' := by
  go_enter Tryd.func48, Tryd.ntmps48
  go_upto_region 1 with (fail)
  have hp1 : IsTab ((w.alloc (.cells (words a) 71)).alloc (.cells #[.int .u8 0, .int .u8 0, .int .u8 0, .int .u8 0, .int .u8 0, .int .u8 0, .int .u8 0, .int .u8 0, .int .u8 0, .int .u8 0, .int .u8 0, .int .u8 0, .int .u8 0, .int .u8 0, .int .u8 0, .int .u8 0, .int .u8 0, .int .u8 0, .int .u8 0, .int .u8 0, .int .u8 0, .int .u8 0, .int .u8 0, .int .u8 0, .int .u8 0, .int .u8 0, .int .u8 0, .int .u8 0, .int .u8 0, .int .u8 0, .int .u8 0, .int .u8 0] 24)) w.heap.size 71 25 fun i => wv (a i) := (IsTab.new w _ 25 fun i => wv (a i)).alloc _
  have hp2 : IsTab ((w.alloc (.cells (words a) 71)).alloc (.cells #[.int .u8 0, .int .u8 0, .int .u8 0, .int .u8 0, .int .u8 0, .int .u8 0, .int .u8 0, .int .u8 0, .int .u8 0, .int .u8 0, .int .u8 0, .int .u8 0, .int .u8 0, .int .u8 0, .int .u8 0, .int .u8 0, .int .u8 0, .int .u8 0, .int .u8 0, .int .u8 0, .int .u8 0, .int .u8 0, .int .u8 0, .int .u8 0, .int .u8 0, .int .u8 0, .int .u8 0, .int .u8 0, .int .u8 0, .int .u8 0, .int .u8 0, .int .u8 0] 24)) (w.heap.size + 1) 24 32 fun _ => bv 0#8 := by
    have e1 : (w.alloc (.cells (words a) 71)).heap.size = w.heap.size + 1 := by simp
    have := IsTab.new (w.alloc (.cells (words a) 71)) 24 32 fun _ => bv 0#8
    rw [e1] at this
    exact this
  have hz : ((w.alloc (.cells (words a) 71)).alloc (.cells #[.int .u8 0, .int .u8 0, .int .u8 0, .int .u8 0, .int .u8 0, .int .u8 0, .int .u8 0, .int .u8 0, .int .u8 0, .int .u8 0, .int .u8 0, .int .u8 0, .int .u8 0, .int .u8 0, .int .u8 0, .int .u8 0, .int .u8 0, .int .u8 0, .int .u8 0, .int .u8 0, .int .u8 0, .int .u8 0, .int .u8 0, .int .u8 0, .int .u8 0, .int .u8 0, .int .u8 0, .int .u8 0, .int .u8 0, .int .u8 0, .int .u8 0, .int .u8 0] 24)).heap.size = w.heap.size + 1 + 1 := by simp
  have hbl : Below w.heap.size w ((w.alloc (.cells (words a) 71)).alloc (.cells #[.int .u8 0, .int .u8 0, .int .u8 0, .int .u8 0, .int .u8 0, .int .u8 0, .int .u8 0, .int .u8 0, .int .u8 0, .int .u8 0, .int .u8 0, .int .u8 0, .int .u8 0, .int .u8 0, .int .u8 0, .int .u8 0, .int .u8 0, .int .u8 0, .int .u8 0, .int .u8 0, .int .u8 0, .int .u8 0, .int .u8 0, .int .u8 0, .int .u8 0, .int .u8 0, .int .u8 0, .int .u8 0, .int .u8 0, .int .u8 0, .int .u8 0, .int .u8 0] 24)) := ((Below.refl _ _).alloc (Nat.le_refl _) _).alloc (by simp) _
  have HP : Hid (Below w.heap.size w ((w.alloc (.cells (words a) 71)).alloc (.cells #[.int .u8 0, .int .u8 0, .int .u8 0, .int .u8 0, .int .u8 0, .int .u8 0, .int .u8 0, .int .u8 0, .int .u8 0, .int .u8 0, .int .u8 0, .int .u8 0, .int .u8 0, .int .u8 0, .int .u8 0, .int .u8 0, .int .u8 0, .int .u8 0, .int .u8 0, .int .u8 0, .int .u8 0, .int .u8 0, .int .u8 0, .int .u8 0, .int .u8 0, .int .u8 0, .int .u8 0, .int .u8 0, .int .u8 0, .int .u8 0, .int .u8 0, .int .u8 0] 24)) ∧ ((w.alloc (.cells (words a) 71)).alloc (.cells #[.int .u8 0, .int .u8 0, .int .u8 0, .int .u8 0, .int .u8 0, .int .u8 0, .int .u8 0, .int .u8 0, .int .u8 0, .int .u8 0, .int .u8 0, .int .u8 0, .int .u8 0, .int .u8 0, .int .u8 0, .int .u8 0, .int .u8 0, .int .u8 0, .int .u8 0, .int .u8 0, .int .u8 0, .int .u8 0, .int .u8 0, .int .u8 0, .int .u8 0, .int .u8 0, .int .u8 0, .int .u8 0, .int .u8 0, .int .u8 0, .int .u8 0, .int .u8 0] 24)).heap.size = w.heap.size + 1 + 1 ∧ w.heap.size < w.heap.size + 1 ∧ IsTab ((w.alloc (.cells (words a) 71)).alloc (.cells #[.int .u8 0, .int .u8 0, .int .u8 0, .int .u8 0, .int .u8 0, .int .u8 0, .int .u8 0, .int .u8 0, .int .u8 0, .int .u8 0, .int .u8 0, .int .u8 0, .int .u8 0, .int .u8 0, .int .u8 0, .int .u8 0, .int .u8 0, .int .u8 0, .int .u8 0, .int .u8 0, .int .u8 0, .int .u8 0, .int .u8 0, .int .u8 0, .int .u8 0, .int .u8 0, .int .u8 0, .int .u8 0, .int .u8 0, .int .u8 0, .int .u8 0, .int .u8 0] 24)) w.heap.size 71 25 (fun i => wv (a i)) ∧ IsTab ((w.alloc (.cells (words a) 71)).alloc (.cells #[.int .u8 0, .int .u8 0, .int .u8 0, .int .u8 0, .int .u8 0, .int .u8 0, .int .u8 0, .int .u8 0, .int .u8 0, .int .u8 0, .int .u8 0, .int .u8 0, .int .u8 0, .int .u8 0, .int .u8 0, .int .u8 0, .int .u8 0, .int .u8 0, .int .u8 0, .int .u8 0, .int .u8 0, .int .u8 0, .int .u8 0, .int .u8 0, .int .u8 0, .int .u8 0, .int .u8 0, .int .u8 0, .int .u8 0, .int .u8 0, .int .u8 0, .int .u8 0] 24)) (w.heap.size + 1) 24 32 fun _ => bv 0#8) := Lib.hid ⟨hbl, hz, Nat.lt_succ_self _, hp1, hp2⟩
  clear hbl hz hp1 hp2
  generalize (w.alloc (.cells (words a) 71)).alloc (.cells #[.int .u8 0, .int .u8 0, .int .u8 0, .int .u8 0, .int .u8 0, .int .u8 0, .int .u8 0, .int .u8 0, .int .u8 0, .int .u8 0, .int .u8 0, .int .u8 0, .int .u8 0, .int .u8 0, .int .u8 0, .int .u8 0, .int .u8 0, .int .u8 0, .int .u8 0, .int .u8 0, .int .u8 0, .int .u8 0, .int .u8 0, .int .u8 0, .int .u8 0, .int .u8 0, .int .u8 0, .int .u8 0, .int .u8 0, .int .u8 0, .int .u8 0, .int .u8 0] 24) = w1 at *
  generalize w.heap.size + 1 = q1 at *
  go_wp2_with ((refine wpList_store_row rfl 24 (.tmp 3) (.tmp 5) rfl w1.heap.size #[.int .u8 0, .int .u8 0, .int .u8 0, .int .u8 0, .int .u8 0, .int .u8 0, .int .u8 0, .int .u8 0, .int .u8 0, .int .u8 0, .int .u8 0, .int .u8 0, .int .u8 0, .int .u8 0, .int .u8 0, .int .u8 0, .int .u8 0, .int .u8 0, .int .u8 0, .int .u8 0, .int .u8 0, .int .u8 0, .int .u8 0, .int .u8 0, .int .u8 0, .int .u8 0, .int .u8 0, .int .u8 0, .int .u8 0, .int .u8 0, .int .u8 0, .int .u8 0] ?c2 ?c3 24 #[.int .u8 0, .int .u8 0, .int .u8 0, .int .u8 0, .int .u8 0, .int .u8 0, .int .u8 0, .int .u8 0, .int .u8 0, .int .u8 0, .int .u8 0, .int .u8 0, .int .u8 0, .int .u8 0, .int .u8 0, .int .u8 0, .int .u8 0, .int .u8 0, .int .u8 0, .int .u8 0, .int .u8 0, .int .u8 0, .int .u8 0, .int .u8 0, .int .u8 0, .int .u8 0, .int .u8 0, .int .u8 0, .int .u8 0, .int .u8 0, .int .u8 0, .int .u8 0] (heap_alloc_last w1 _) zInfoH rfl zOneH ?_))
  case c2 => rfl
  case c3 => rfl
  rw [World.setRow_alloc_new]
  have HPP : Hid (Dg w w.heap.size q1 w1.heap.size a (digK a 0) (w1.alloc (.cells #[.int .u8 0, .int .u8 0, .int .u8 0, .int .u8 0, .int .u8 0, .int .u8 0, .int .u8 0, .int .u8 0, .int .u8 0, .int .u8 0, .int .u8 0, .int .u8 0, .int .u8 0, .int .u8 0, .int .u8 0, .int .u8 0, .int .u8 0, .int .u8 0, .int .u8 0, .int .u8 0, .int .u8 0, .int .u8 0, .int .u8 0, .int .u8 0, .int .u8 0, .int .u8 0, .int .u8 0, .int .u8 0, .int .u8 0, .int .u8 0, .int .u8 0, .int .u8 0] 24))) := by
    obtain ⟨h1, h2, h3, h4, h5⟩ := HP.out
    refine Lib.hid ⟨h4.alloc _, h5.alloc _, (IsTab.new w1 _ 32 fun _ => bv 0#8).cong (fun i _ => by unfold digK; rw [if_neg (by omega)]), by omega, by omega, by omega, by omega, by omega, h1.alloc (by omega) _⟩
  clear HP
  generalize w1.alloc (.cells #[.int .u8 0, .int .u8 0, .int .u8 0, .int .u8 0, .int .u8 0, .int .u8 0, .int .u8 0, .int .u8 0, .int .u8 0, .int .u8 0, .int .u8 0, .int .u8 0, .int .u8 0, .int .u8 0, .int .u8 0, .int .u8 0, .int .u8 0, .int .u8 0, .int .u8 0, .int .u8 0, .int .u8 0, .int .u8 0, .int .u8 0, .int .u8 0, .int .u8 0, .int .u8 0, .int .u8 0, .int .u8 0, .int .u8 0, .int .u8 0, .int .u8 0, .int .u8 0] 24) = y0 at *
  generalize w1.heap.size = q2 at *
  generalize hq0 : w.heap.size = q0 at *
  have HQ := Lib.hid hq0
  clear hq0
  go_loopw [6] (fun i y => ∃ n : Nat, n ≤ 32 ∧ i = .int .i64 n ∧ Dg w q0 q1 q2 a (digK a n) y) (fun i _ => 32 - (intOf i).toNat)
  case atStart => exact ⟨0, by decide, rfl, HPP.out⟩
  case round =>
    obtain ⟨n, hn, rfl, hp⟩ := hrel
    clear HPP
    have HPP := Lib.hid hp
    clear hp
    by_cases hlt : (n : Int) < 32
    · have aj : _ = some (Value.int .u64 (W (a (n / 8)))) := HPP.out.sa.cell (n / 8) (by omega)
      have hj : _ = some (Value.int .u8 (Bv (digK a n n))) := HPP.out.sh.cell n (by omega)
      have fj := HPP.out.sh.fz n
      go_wp2_with fail
      go_roundw
      case rel => exact ⟨n + 1, by omega, by go_num, HPP.out.step (by omega)⟩
      case measure => simp [intOf]; omega
    · obtain rfl : n = 32 := by omega
      go_wp2_with (first
        | (refine wpList_load_row rfl 24 (.tmp 3) rfl q2 rfl 24 (tab 32 fun i => bv (digK a 32 i)) (0, 0) _ HPP.out.sh undH rfl (infH _) ?_)
        | (refine wpList_store_row rfl 24 (.tmp 2) (.tmp 21) rfl q1 (tab 32 fun i => bv (digK a 32 i)) rfl rfl 24 _ HPP.out.sr (infH _) (by rw [tab_size, tab_size]) (one_bv _ _) ?_))
      have hr : IsTab (World.setRow wr q1 (tab 32 fun i => bv (digK a 32 i))) q1 24 32 fun i => bv (digK a 32 i) := HPP.out.sr.row
      have hbb := below_setRow HPP.out.below HPP.out.g1 (tab 32 fun i => bv (digK a 32 i))
      have he : (tab 32 fun i => bv (digest a i)) = tab 32 fun i => bv (digK a 32 i) := tab_cong fun i hi => by unfold digK; rw [if_pos hi]
      rw [he]
      refine bodyPost_ret (v := .agg (tab 32 fun i => bv (digK a 32 i))) (results_cell_row rfl _ _ q1 24 _ (0, 0) _ rfl hr undH rfl (infH _)) rfl ⟨rfl, ?_⟩
      rw [HQ.out] at hbb ⊢
      exact hbb
end Kc
end Go.Proofs.YtkhdamjjbjmeaaaDoor
