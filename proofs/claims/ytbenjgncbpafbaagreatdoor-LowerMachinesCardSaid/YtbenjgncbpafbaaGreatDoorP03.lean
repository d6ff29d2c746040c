/- Merged of K1. Own work. -/
import Derived.Test.YtbenjgncbpafbaaGreatDoorP02
import Derived.RegionTactic
import Derived.IntWalk
import Derived.Laws.CopyOwn
import Derived.Deep.MidRow
import Derived.BigRegion
import Derived.BigQuiet
import Derived.Deep.QuietTactic
import Derived.StillTailTactics
namespace Go.Proofs.YtbenjgncbpafbaaGreatDoor
open Go.RowKit
set_option linter.unusedVariables false
namespace Kc
structure Dg (W : World) (q0 q1 q2 : Nat) (a : Nat → Wd64) (d : Nat → Bt) (y : World) : Prop where
  sa : IsTab y q0 145 25 fun i => wv (a i)
  sr : IsTab y q1 81 32 fun _ => bv 0#8
  sh : IsTab y q2 81 32 fun i => bv (d i)
  n01 : q0 ≠ q1
  n02 : q0 ≠ q2
  n12 : q1 ≠ q2
  g1 : W.heap.size ≤ q1
  g2 : W.heap.size ≤ q2
  below : Below W.heap.size W y
def digK (a : Nat → Wd64) (k : Nat) : Nat → Bt := fun i => if i < k then digest a i else 0#8
theorem hInfo : (Tryz.prog.info? 81).map (·.size) = some 32 := by kernel_rfl
theorem infH (g : Nat → Value) : (Tryz.prog.info? 81).map (·.size) = some (tab 32 g).size := by rw [tab_size]; exact hInfo
theorem undH : Tryz.prog.underlying 81 = some (.array 32 5) := by kernel_rfl
theorem zInfoH : (Tryz.prog.info? 81).map (·.size) = some (#[.int .u8 0, .int .u8 0, .int .u8 0, .int .u8 0, .int .u8 0, .int .u8 0, .int .u8 0, .int .u8 0, .int .u8 0, .int .u8 0, .int .u8 0, .int .u8 0, .int .u8 0, .int .u8 0, .int .u8 0, .int .u8 0, .int .u8 0, .int .u8 0, .int .u8 0, .int .u8 0, .int .u8 0, .int .u8 0, .int .u8 0, .int .u8 0, .int .u8 0, .int .u8 0, .int .u8 0, .int .u8 0, .int .u8 0, .int .u8 0, .int .u8 0, .int .u8 0] : Array Value).size := by kernel_rfl
theorem zOneH : (#[.int .u8 0, .int .u8 0, .int .u8 0, .int .u8 0, .int .u8 0, .int .u8 0, .int .u8 0, .int .u8 0, .int .u8 0, .int .u8 0, .int .u8 0, .int .u8 0, .int .u8 0, .int .u8 0, .int .u8 0, .int .u8 0, .int .u8 0, .int .u8 0, .int .u8 0, .int .u8 0, .int .u8 0, .int .u8 0, .int .u8 0, .int .u8 0, .int .u8 0, .int .u8 0, .int .u8 0, .int .u8 0, .int .u8 0, .int .u8 0, .int .u8 0, .int .u8 0] : Array Value).all (·.oneCell') = true := by kernel_rfl
theorem dig_val (a : Nat → Wd64) (n : Nat) : Kc.W (a (n / 8)) / 2 ^ (8 * (n % 8)) % 256 = Bv (digest a n) := by
  rw [W_shr]
  unfold Bv digest Kc.W
  rw [BitVec.toNat_setWidth]
  rfl
theorem Dg.step {W : World} {q0 q1 q2 n : Nat} {a : Nat → Wd64} {y : World} (h : Dg W q0 q1 q2 a (digK a n) y) (hn : n < 32) :
    Dg W q0 q1 q2 a (digK a (n + 1)) (y.setCell ⟨q2, n, none⟩ (.int .u8 (Kc.W (a (n / 8)) / 2 ^ (8 * (n % 8)) % 256))) := by
  rw [dig_val]
  refine ⟨h.sa.keep h.n02, h.sr.keep h.n12, (h.sh.set n _).cong (fun i _ => ?_), h.n01, h.n02, h.n12, h.g1, h.g2, h.below.setCell h.g2 _⟩
  unfold updv digK bv
  dsimp only
  by_cases e : i = n
  · subst e; rw [if_pos rfl, if_pos (Nat.lt_succ_self _)]
  · rw [if_neg e]
    by_cases e2 : i < n
    · rw [if_pos e2, if_pos (by omega)]
    · rw [if_neg e2, if_neg (by omega)]
set_option maxHeartbeats 4000000 in
set_option maxRecDepth 100000 in
theorem digest_walk (a : Nat → Wd64) (w : World) :
    Calls Tryz.prog 78 #[.agg (words a)] w fun e w' => e = .returned (.agg (tab 32 fun i => bv (digest a i))) ∧ Below w.heap.size w w' := by
  go_enter Tryz.func78, Tryz.ntmps78
  go_upto_region 1 with (fail)
  have hp1 : IsTab ((w.alloc (.cells (words a) 145)).alloc (.cells #[.int .u8 0, .int .u8 0, .int .u8 0, .int .u8 0, .int .u8 0, .int .u8 0, .int .u8 0, .int .u8 0, .int .u8 0, .int .u8 0, .int .u8 0, .int .u8 0, .int .u8 0, .int .u8 0, .int .u8 0, .int .u8 0, .int .u8 0, .int .u8 0, .int .u8 0, .int .u8 0, .int .u8 0, .int .u8 0, .int .u8 0, .int .u8 0, .int .u8 0, .int .u8 0, .int .u8 0, .int .u8 0, .int .u8 0, .int .u8 0, .int .u8 0, .int .u8 0] 81)) w.heap.size 145 25 fun i => wv (a i) := (IsTab.new w _ 25 fun i => wv (a i)).alloc _
  have hp2 : IsTab ((w.alloc (.cells (words a) 145)).alloc (.cells #[.int .u8 0, .int .u8 0, .int .u8 0, .int .u8 0, .int .u8 0, .int .u8 0, .int .u8 0, .int .u8 0, .int .u8 0, .int .u8 0, .int .u8 0, .int .u8 0, .int .u8 0, .int .u8 0, .int .u8 0, .int .u8 0, .int .u8 0, .int .u8 0, .int .u8 0, .int .u8 0, .int .u8 0, .int .u8 0, .int .u8 0, .int .u8 0, .int .u8 0, .int .u8 0, .int .u8 0, .int .u8 0, .int .u8 0, .int .u8 0, .int .u8 0, .int .u8 0] 81)) (w.heap.size + 1) 81 32 fun _ => bv 0#8 := by
    have e1 : (w.alloc (.cells (words a) 145)).heap.size = w.heap.size + 1 := by simp
    have := IsTab.new (w.alloc (.cells (words a) 145)) 81 32 fun _ => bv 0#8
    rw [e1] at this
    exact this
  have hz : ((w.alloc (.cells (words a) 145)).alloc (.cells #[.int .u8 0, .int .u8 0, .int .u8 0, .int .u8 0, .int .u8 0, .int .u8 0, .int .u8 0, .int .u8 0, .int .u8 0, .int .u8 0, .int .u8 0, .int .u8 0, .int .u8 0, .int .u8 0, .int .u8 0, .int .u8 0, .int .u8 0, .int .u8 0, .int .u8 0, .int .u8 0, .int .u8 0, .int .u8 0, .int .u8 0, .int .u8 0, .int .u8 0, .int .u8 0, .int .u8 0, .int .u8 0, .int .u8 0, .int .u8 0, .int .u8 0, .int .u8 0] 81)).heap.size = w.heap.size + 1 + 1 := by simp
  have hbl : Below w.heap.size w ((w.alloc (.cells (words a) 145)).alloc (.cells #[.int .u8 0, .int .u8 0, .int .u8 0, .int .u8 0, .int .u8 0, .int .u8 0, .int .u8 0, .int .u8 0, .int .u8 0, .int .u8 0, .int .u8 0, .int .u8 0, .int .u8 0, .int .u8 0, .int .u8 0, .int .u8 0, .int .u8 0, .int .u8 0, .int .u8 0, .int .u8 0, .int .u8 0, .int .u8 0, .int .u8 0, .int .u8 0, .int .u8 0, .int .u8 0, .int .u8 0, .int .u8 0, .int .u8 0, .int .u8 0, .int .u8 0, .int .u8 0] 81)) := ((Below.refl _ _).alloc (Nat.le_refl _) _).alloc (by simp) _
  have HP : Hid (Below w.heap.size w ((w.alloc (.cells (words a) 145)).alloc (.cells #[.int .u8 0, .int .u8 0, .int .u8 0, .int .u8 0, .int .u8 0, .int .u8 0, .int .u8 0, .int .u8 0, .int .u8 0, .int .u8 0, .int .u8 0, .int .u8 0, .int .u8 0, .int .u8 0, .int .u8 0, .int .u8 0, .int .u8 0, .int .u8 0, .int .u8 0, .int .u8 0, .int .u8 0, .int .u8 0, .int .u8 0, .int .u8 0, .int .u8 0, .int .u8 0, .int .u8 0, .int .u8 0, .int .u8 0, .int .u8 0, .int .u8 0, .int .u8 0] 81)) ∧ ((w.alloc (.cells (words a) 145)).alloc (.cells #[.int .u8 0, .int .u8 0, .int .u8 0, .int .u8 0, .int .u8 0, .int .u8 0, .int .u8 0, .int .u8 0, .int .u8 0, .int .u8 0, .int .u8 0, .int .u8 0, .int .u8 0, .int .u8 0, .int .u8 0, .int .u8 0, .int .u8 0, .int .u8 0, .int .u8 0, .int .u8 0, .int .u8 0, .int .u8 0, .int .u8 0, .int .u8 0, .int .u8 0, .int .u8 0, .int .u8 0, .int .u8 0, .int .u8 0, .int .u8 0, .int .u8 0, .int .u8 0] 81)).heap.size = w.heap.size + 1 + 1 ∧ w.heap.size < w.heap.size + 1 ∧ IsTab ((w.alloc (.cells (words a) 145)).alloc (.cells #[.int .u8 0, .int .u8 0, .int .u8 0, .int .u8 0, .int .u8 0, .int .u8 0, .int .u8 0, .int .u8 0, .int .u8 0, .int .u8 0, .int .u8 0, .int .u8 0, .int .u8 0, .int .u8 0, .int .u8 0, .int .u8 0, .int .u8 0, .int .u8 0, .int .u8 0, .int .u8 0, .int .u8 0, .int .u8 0, .int .u8 0, .int .u8 0, .int .u8 0, .int .u8 0, .int .u8 0, .int .u8 0, .int .u8 0, .int .u8 0, .int .u8 0, .int .u8 0] 81)) w.heap.size 145 25 (fun i => wv (a i)) ∧ IsTab ((w.alloc (.cells (words a) 145)).alloc (.cells #[.int .u8 0, .int .u8 0, .int .u8 0, .int .u8 0, .int .u8 0, .int .u8 0, .int .u8 0, .int .u8 0, .int .u8 0, .int .u8 0, .int .u8 0, .int .u8 0, .int .u8 0, .int .u8 0, .int .u8 0, .int .u8 0, .int .u8 0, .int .u8 0, .int .u8 0, .int .u8 0, .int .u8 0, .int .u8 0, .int .u8 0, .int .u8 0, .int .u8 0, .int .u8 0, .int .u8 0, .int .u8 0, .int .u8 0, .int .u8 0, .int .u8 0, .int .u8 0] 81)) (w.heap.size + 1) 81 32 fun _ => bv 0#8) := Lib.hid ⟨hbl, hz, Nat.lt_succ_self _, hp1, hp2⟩
  clear hbl hz hp1 hp2
  generalize (w.alloc (.cells (words a) 145)).alloc (.cells #[.int .u8 0, .int .u8 0, .int .u8 0, .int .u8 0, .int .u8 0, .int .u8 0, .int .u8 0, .int .u8 0, .int .u8 0, .int .u8 0, .int .u8 0, .int .u8 0, .int .u8 0, .int .u8 0, .int .u8 0, .int .u8 0, .int .u8 0, .int .u8 0, .int .u8 0, .int .u8 0, .int .u8 0, .int .u8 0, .int .u8 0, .int .u8 0, .int .u8 0, .int .u8 0, .int .u8 0, .int .u8 0, .int .u8 0, .int .u8 0, .int .u8 0, .int .u8 0] 81) = w1 at *
  generalize w.heap.size + 1 = q1 at *
  go_wp2_with ((refine wpList_store_row rfl 81 (.tmp 3) (.tmp 5) rfl w1.heap.size #[.int .u8 0, .int .u8 0, .int .u8 0, .int .u8 0, .int .u8 0, .int .u8 0, .int .u8 0, .int .u8 0, .int .u8 0, .int .u8 0, .int .u8 0, .int .u8 0, .int .u8 0, .int .u8 0, .int .u8 0, .int .u8 0, .int .u8 0, .int .u8 0, .int .u8 0, .int .u8 0, .int .u8 0, .int .u8 0, .int .u8 0, .int .u8 0, .int .u8 0, .int .u8 0, .int .u8 0, .int .u8 0, .int .u8 0, .int .u8 0, .int .u8 0, .int .u8 0] ?c2 ?c3 81 #[.int .u8 0, .int .u8 0, .int .u8 0, .int .u8 0, .int .u8 0, .int .u8 0, .int .u8 0, .int .u8 0, .int .u8 0, .int .u8 0, .int .u8 0, .int .u8 0, .int .u8 0, .int .u8 0, .int .u8 0, .int .u8 0, .int .u8 0, .int .u8 0, .int .u8 0, .int .u8 0, .int .u8 0, .int .u8 0, .int .u8 0, .int .u8 0, .int .u8 0, .int .u8 0, .int .u8 0, .int .u8 0, .int .u8 0, .int .u8 0, .int .u8 0, .int .u8 0] (heap_alloc_last w1 _) zInfoH rfl zOneH ?_))
  case c2 => rfl
  case c3 => rfl
  rw [World.setRow_alloc_new]
  have HPP : Hid (Dg w w.heap.size q1 w1.heap.size a (digK a 0) (w1.alloc (.cells #[.int .u8 0, .int .u8 0, .int .u8 0, .int .u8 0, .int .u8 0, .int .u8 0, .int .u8 0, .int .u8 0, .int .u8 0, .int .u8 0, .int .u8 0, .int .u8 0, .int .u8 0, .int .u8 0, .int .u8 0, .int .u8 0, .int .u8 0, .int .u8 0, .int .u8 0, .int .u8 0, .int .u8 0, .int .u8 0, .int .u8 0, .int .u8 0, .int .u8 0, .int .u8 0, .int .u8 0, .int .u8 0, .int .u8 0, .int .u8 0, .int .u8 0, .int .u8 0] 81))) := by
    obtain ⟨h1, h2, h3, h4, h5⟩ := HP.out
    refine Lib.hid ⟨h4.alloc _, h5.alloc _, (IsTab.new w1 _ 32 fun _ => bv 0#8).cong (fun i _ => by unfold digK; rw [if_neg (by omega)]), by omega, by omega, by omega, by omega, by omega, h1.alloc (by omega) _⟩
  clear HP
  generalize w1.alloc (.cells #[.int .u8 0, .int .u8 0, .int .u8 0, .int .u8 0, .int .u8 0, .int .u8 0, .int .u8 0, .int .u8 0, .int .u8 0, .int .u8 0, .int .u8 0, .int .u8 0, .int .u8 0, .int .u8 0, .int .u8 0, .int .u8 0, .int .u8 0, .int .u8 0, .int .u8 0, .int .u8 0, .int .u8 0, .int .u8 0, .int .u8 0, .int .u8 0, .int .u8 0, .int .u8 0, .int .u8 0, .int .u8 0, .int .u8 0, .int .u8 0, .int .u8 0, .int .u8 0] 81) = y0 at *
  generalize w1.heap.size = q2 at *
  generalize hq0 : w.heap.size = q0 at *
  have HQ := Lib.hid hq0
  clear hq0
  go_loopw [6] (fun i y => ∃ n : Nat, n ≤ 32 ∧ i = .int .i64 n ∧ Dg w q0 q1 q2 a (digK a n) y) (fun i _ => 32 - (intOf i).toNat)
  case atStart => exact ⟨0, by decide, rfl, HPP.out⟩
  case round =>
    obtain ⟨n, hn, rfl, hp⟩ := hrel
    clear HPP
    have HPP := Lib.hid hp
    clear hp
    by_cases hlt : (n : Int) < 32
    · have aj : _ = some (Value.int .u64 (W (a (n / 8)))) := HPP.out.sa.cell (n / 8) (by omega)
      have hj : _ = some (Value.int .u8 (Bv (digK a n n))) := HPP.out.sh.cell n (by omega)
      have fj := HPP.out.sh.fz n
      go_wp2_with fail
      go_roundw
      case rel => exact ⟨n + 1, by omega, by go_num, HPP.out.step (by omega)⟩
      case measure => simp [intOf]; omega
    · obtain rfl : n = 32 := by omega
      go_wp2_with (first
        | (refine wpList_load_row rfl 81 (.tmp 3) rfl q2 rfl 81 (tab 32 fun i => bv (digK a 32 i)) (0, 0) _ HPP.out.sh undH rfl (infH _) ?_)
        | (refine wpList_store_row rfl 81 (.tmp 2) (.tmp 21) rfl q1 (tab 32 fun i => bv (digK a 32 i)) rfl rfl 81 _ HPP.out.sr (infH _) (by rw [tab_size, tab_size]) (one_bv _ _) ?_))
      have hr : IsTab (World.setRow wr q1 (tab 32 fun i => bv (digK a 32 i))) q1 81 32 fun i => bv (digK a 32 i) := HPP.out.sr.row
      have hbb := below_setRow HPP.out.below HPP.out.g1 (tab 32 fun i => bv (digK a 32 i))
      have he : (tab 32 fun i => bv (digest a i)) = tab 32 fun i => bv (digK a 32 i) := tab_cong fun i hi => by unfold digK; rw [if_pos hi]
      rw [he]
      refine bodyPost_ret (v := .agg (tab 32 fun i => bv (digK a 32 i))) (results_cell_row rfl _ _ q1 81 _ (0, 0) _ rfl hr undH rfl (infH _)) rfl ⟨rfl, ?_⟩
      rw [HQ.out] at hbb ⊢
      exact hbb
end Kc
end Go.Proofs.YtbenjgncbpafbaaGreatDoor
namespace Go.Proofs.YtbenjgncbpafbaaGreatDoor
open Go.RowKit
set_option linter.unusedVariables false
namespace Kc
/-- Values with k others from a place on. -/
def splv (g : Nat → Value) (off k : Nat) (f : Nat → Value) : Nat → Value := fun i => if off ≤ i ∧ i < off + k then f (i - off) else g i
theorem tab_splice (n : Nat) (g : Nat → Value) (off k : Nat) (f : Nat → Value) (h : off + k ≤ n) :
    ((tab n g).toList.take off ++ ((List.range k).map f ++ (tab n g).toList.drop (off + k))).toArray = tab n (splv g off k f) := by
  unfold tab
  congr 1
  apply List.ext_getElem?
  intro i
  simp only [List.getElem?_append, List.length_take, List.length_map, List.length_range, List.getElem?_take, List.getElem?_map, List.getElem?_drop]
  by_cases h1 : i < off
  · rw [if_pos (by omega), if_pos h1]
    have h2 : i < n := by omega
    have e : splv g off k f i = g i := by unfold splv; rw [if_neg (by omega)]
    simp [h2, e]
  · rw [if_neg (by omega)]
    simp only [show min off n = off from by omega]
    by_cases h2 : i - off < k
    · rw [if_pos h2]
      have e : splv g off k f i = f (i - off) := by unfold splv; rw [if_pos (by omega)]
      simp [h2, show i < n from by omega, e]
    · rw [if_neg h2, show off + k + (i - off - k) = i from by omega]
      by_cases h3 : i < n
      · have e : splv g off k f i = g i := by unfold splv; rw [if_neg (by omega)]
        simp [h3, e]
      · simp [h3]
theorem wpList_copy_tab {P : Program} {w : World} {ops : Array Oper} {rest : List Oper} {o : Oper} {a : Act} {Q : Exit → Act → World → Prop} (hgd : o.guard = none) (d s : Operand) (dT sT : TypeId)
    (ho : o.op = .call { callee := .builtin .copy, args := #[d, s], argTypes := #[dT, sT] }) (elem : TypeId) (hu : P.underlying dT = some (.slice elem)) (hsz : (P.info? elem).map (·.size) = some 1)
    (q off dLen dCap : Nat) (ad : Addr) (sLen sCap : Nat) (hd : a.eval d = .slice (some ⟨q, off, none⟩) dLen dCap) (hs : a.eval s = .slice (some ad) sLen sCap)
    (T n : Nat) (g : Nat → Value) (hg : IsTab w q T n g) (k : Nat) (hk : k = min sLen dLen) (f : Nat → Value) (hsrc : ∀ j, j < k → w.cell? (ad.add j) = some (f j)) (hfit : off + k ≤ n) (h1 : ∀ j, (f j).oneCell' = true)
    (h : wpList P ops Q rest (a.put o.dst (.int .i64 k)) (w.setRow q (tab n (splv g off k f)))) : wpList P ops Q (o :: rest) a w := by
  refine wpList_copy_own hgd d s dT sT ho elem hu hsz q off dLen dCap ad sLen sCap hd hs (tab n g) T hg ((List.range k).map f) (by rw [hk]; simp) (fun j v hv => ?_) (by simp [tab_size]; exact hfit) (fun v hv => ?_) ?_
  · obtain ⟨hj, rfl⟩ := List.getElem?_eq_some_iff.1 hv
    simp only [List.length_map, List.length_range] at hj
    simpa using hsrc j hj
  · obtain ⟨j, _, rfl⟩ := List.mem_map.1 hv
    exact h1 j
  · rw [List.length_map, List.length_range, tab_splice n g off k f hfit]
    exact h
/-! ## a hasher -/
def hv (s : Nat → Wd64) (pc : Nat → Bt) (fill : Nat) : Nat → Value := fun i => if i < 25 then wv (s i) else if i < 161 then bv (pc (i - 25)) else .int .i64 fill
def IsHv (w : World) (q : Nat) (s : Nat → Wd64) (pc : Nat → Bt) (fill : Nat) : Prop := IsTab w q 148 162 (hv s pc fill)
/-- The hasher in block q has got the bytes l. -/
def IsH (w : World) (q : Nat) (l : List Bt) : Prop := ∃ pc : Nat → Bt, IsHv w q (st l (l.length / 136)) pc (l.length % 136) ∧ ∀ j, j < l.length % 136 → pc j = l.getD (136 * (l.length / 136) + j) 0#8
/-- Bytes that lie in memory. -/
def IsBs (w : World) (a : Option Addr) (l : List Bt) : Prop := l = [] ∨ ∃ b o, a = some ⟨b, o, none⟩ ∧ ∀ j, j < l.length → w.cell? ⟨b, o + j, none⟩ = some (bv (l.getD j 0#8))
/-- Values set one by one from a place on. -/
theorem IsTab.setCells {q T n : Nat} : ∀ (vs : List Value) (o : Nat) (w : World) (g : Nat → Value), IsTab w q T n g → IsTab (w.setCells q o vs) q T n fun i => if o ≤ i ∧ i < o + vs.length then vs.getD (i - o) (.int .i64 0) else g i
  | [], o, w, g, h => h.cong fun i _ => by rw [if_neg (by simp only [List.length_nil]; omega)]
  | v :: r, o, w, g, h => (IsTab.setCells r (o + 1) _ _ (h.set o v)).cong fun i _ => by
      simp only [List.length_cons, updv]
      by_cases e : i = o
      · subst e; rw [if_neg (by omega), if_pos rfl, if_pos (by omega)]; simp
      · by_cases e2 : o + 1 ≤ i ∧ i < o + 1 + r.length
        · rw [if_pos e2, if_pos (by omega), show i - o = (i - (o + 1)) + 1 from by omega]; rfl
        · rw [if_neg e2, if_neg e, if_neg (by omega)]
theorem keptS_setCells {S : Nat → Prop} {q : Nat} (hq : S q) {a : World} : ∀ (vs : List Value) (o : Nat) (w : World), Kept S a w → Kept S a (w.setCells q o vs)
  | [], _, w, h => h
  | v :: r, o, w, h => keptS_setCells hq r (o + 1) _ (h.setCell (.inl hq) v)
theorem kept_setRow {S : Nat → Prop} {q : Nat} {a w : World} (h : Kept S a w) (hq : S q ∨ a.heap.size ≤ q) (cs : Array Value) : Kept S a (w.setRow q cs) :=
  ⟨by simp; exact h.os, by simp; exact h.tape, by simp; exact h.output, by simp; exact h.size, fun k hk hn => by rw [setRow_other _ _ _ _ (fun e => by subst e; rcases hq with hq | hq; exact hn hq; omega)]; exact h.block k hk hn⟩
theorem IsTab.range {w : World} {q T n : Nat} {g : Nat → Value} (h : IsTab w q T n g) (o k : Nat) (f : Nat → Value) (hk : o + k ≤ n) (hf : ∀ j, j < k → g (o + j) = f j) : w.rangeAt q o ((List.range k).map f) := fun j v hv => by
  obtain ⟨hj, rfl⟩ := List.getElem?_eq_some_iff.1 hv
  simp only [List.length_map, List.length_range] at hj
  rw [h.cell (o + j) (by omega), hf j hj]
  simp
theorem IsTab.thereAt {w : World} {q T n : Nat} {g : Nat → Value} (h : IsTab w q T n g) (o k : Nat) (hk : o + k ≤ n) : w.there q o k := fun j hj => ⟨by rw [h.cell (o + j) (by omega)]; rfl, h.fz _⟩
/-! ## how a hasher goes on -/
theorem getD_append_left {l r : List Bt} {i : Nat} (h : i < l.length) : (l ++ r).getD i 0#8 = l.getD i 0#8 := by simp [List.getElem?_append, h]
theorem getD_append_right {l r : List Bt} {i : Nat} (h : l.length ≤ i) : (l ++ r).getD i 0#8 = r.getD (i - l.length) 0#8 := by simp [List.getElem?_append, show ¬ i < l.length from by omega]
theorem st_append (l r : List Bt) : ∀ k, 136 * k ≤ l.length → st (l ++ r) k = st l k
  | 0, _ => rfl
  | k + 1, h => by
    show absorb (st (l ++ r) k) (fun j => (l ++ r).getD (136 * k + j) 0#8) = absorb (st l k) fun j => l.getD (136 * k + j) 0#8
    rw [st_append l r k (by omega)]
    unfold absorb
    congr 1
    unfold absorbK lane
    funext i
    by_cases hi : i < 17
    · rw [if_pos hi, if_pos hi]
      simp only [getD_append_left (show 136 * k + 8 * i < l.length from by omega), getD_append_left (show 136 * k + (8 * i + 1) < l.length from by omega), getD_append_left (show 136 * k + (8 * i + 2) < l.length from by omega), getD_append_left (show 136 * k + (8 * i + 3) < l.length from by omega), getD_append_left (show 136 * k + (8 * i + 4) < l.length from by omega), getD_append_left (show 136 * k + (8 * i + 5) < l.length from by omega), getD_append_left (show 136 * k + (8 * i + 6) < l.length from by omega), getD_append_left (show 136 * k + (8 * i + 7) < l.length from by omega)]
    · rw [if_neg hi, if_neg hi]
theorem absorb_cong (a : Nat → Wd64) {p q : Nat → Bt} (h : ∀ j, j < 136 → p j = q j) : absorb a p = absorb a q := by
  unfold absorb
  congr 1
  unfold absorbK lane
  funext i
  by_cases hi : i < 17
  · rw [if_pos hi, if_pos hi, h _ (show 8 * i < 136 from by omega), h _ (show 8 * i + 1 < 136 from by omega), h _ (show 8 * i + 2 < 136 from by omega), h _ (show 8 * i + 3 < 136 from by omega), h _ (show 8 * i + 4 < 136 from by omega), h _ (show 8 * i + 5 < 136 from by omega), h _ (show 8 * i + 6 < 136 from by omega), h _ (show 8 * i + 7 < 136 from by omega)]
  · rw [if_neg hi, if_neg hi]
/-- The piece with k bytes more. -/
def pcs (pc : Nat → Bt) (fill k : Nat) (r : List Bt) : Nat → Bt := fun j => if fill ≤ j ∧ j < fill + k then r.getD (j - fill) 0#8 else pc j
theorem hv_copy (s : Nat → Wd64) (pc : Nat → Bt) (fill k : Nat) (r : List Bt) (h : fill + k ≤ 136) :
    ∀ i, i < 162 → splv (hv s pc fill) (25 + fill) k (fun j => bv (r.getD j 0#8)) i = hv s (pcs pc fill k r) fill i := by
  intro i hi
  unfold splv hv pcs
  by_cases h1 : 25 + fill ≤ i ∧ i < 25 + fill + k
  · rw [if_pos h1, if_neg (by omega), if_pos (by omega), if_pos (by omega), show i - (25 + fill) = i - 25 - fill from by omega]
  · rw [if_neg h1]
    by_cases h2 : i < 25
    · rw [if_pos h2, if_pos h2]
    · rw [if_neg h2, if_neg h2]
      by_cases h3 : i < 161
      · rw [if_pos h3, if_pos h3, if_neg (by omega)]
      · rw [if_neg h3, if_neg h3]
theorem hv_fill (s : Nat → Wd64) (pc : Nat → Bt) (f f' : Nat) : ∀ i, i < 162 → updv (hv s pc f) 161 (.int .i64 f') i = hv s pc f' i := by
  intro i hi
  unfold updv hv
  by_cases h : i = 161
  · rw [if_pos h, if_neg (by omega), if_neg (by omega)]
  · rw [if_neg h]
    by_cases h2 : i < 25
    · rw [if_pos h2, if_pos h2]
    · rw [if_neg h2, if_neg h2, if_pos (by omega), if_pos (by omega)]
theorem hv_state (s s' : Nat → Wd64) (pc : Nat → Bt) (f : Nat) : ∀ i, i < 162 → (if 0 ≤ i ∧ i < 0 + ((List.range 25).map fun i => wv (s' i)).length then ((List.range 25).map fun i => wv (s' i)).getD (i - 0) (.int .i64 0) else hv s pc f i) = hv s' pc f i := by
  intro i hi
  simp only [List.length_map, List.length_range]
  unfold hv
  by_cases h : i < 25
  · rw [if_pos (by omega), if_pos h]; simp [h]
  · rw [if_neg (by omega), if_neg h, if_neg h]
/-- Some bytes more, and the piece is not full. -/
theorem isH_more {w : World} {q : Nat} {l r : List Bt} {pc : Nat → Bt} (k : Nat) (hk : k ≤ r.length) (hn : l.length % 136 + k < 136) (hp : ∀ j, j < l.length % 136 → pc j = l.getD (136 * (l.length / 136) + j) 0#8)
    (h : IsHv w q (st l (l.length / 136)) (pcs pc (l.length % 136) k r) (l.length % 136 + k)) : IsH w q (l ++ r.take k) := by
  have hlen : (l ++ r.take k).length = l.length + k := by simp; omega
  have hd : (l.length + k) / 136 = l.length / 136 := by omega
  have hm : (l.length + k) % 136 = l.length % 136 + k := by omega
  refine ⟨pcs pc (l.length % 136) k r, ?_, ?_⟩
  · rw [hlen, hd, hm, st_append l _ _ (by omega)]; exact h
  · rw [hlen, hd, hm]
    intro j hj
    unfold pcs
    by_cases h1 : l.length % 136 ≤ j ∧ j < l.length % 136 + k
    · rw [if_pos h1, getD_append_right (by omega), show 136 * (l.length / 136) + j - l.length = j - l.length % 136 from by omega]
      simp [show j - l.length % 136 < k from by omega]
    · rw [if_neg h1, getD_append_left (by omega)]
      exact hp j (by omega)
/-- The piece is full, and is absorbed. -/
theorem isH_full {w : World} {q : Nat} {l r : List Bt} {pc : Nat → Bt} (k : Nat) (hk : k ≤ r.length) (hn : l.length % 136 + k = 136) (hp : ∀ j, j < l.length % 136 → pc j = l.getD (136 * (l.length / 136) + j) 0#8) (p' : Nat → Bt)
    (h : IsHv w q (absorb (st l (l.length / 136)) (pcs pc (l.length % 136) k r)) p' 0) : IsH w q (l ++ r.take k) := by
  have hlen : (l ++ r.take k).length = l.length + k := by simp; omega
  have hd : (l.length + k) / 136 = l.length / 136 + 1 := by omega
  have hm : (l.length + k) % 136 = 0 := by omega
  refine ⟨p', ?_, ?_⟩
  · rw [hlen, hd, hm]
    have e : absorb (st l (l.length / 136)) (pcs pc (l.length % 136) k r) = st (l ++ r.take k) (l.length / 136 + 1) := by
      show _ = absorb (st (l ++ r.take k) (l.length / 136)) fun j => (l ++ r.take k).getD (136 * (l.length / 136) + j) 0#8
      rw [st_append l _ _ (by omega)]
      refine absorb_cong _ fun j hj => ?_
      unfold pcs
      by_cases h1 : l.length % 136 ≤ j ∧ j < l.length % 136 + k
      · rw [if_pos h1, getD_append_right (by omega), show 136 * (l.length / 136) + j - l.length = j - l.length % 136 from by omega]
        simp [show j - l.length % 136 < k from by omega]
      · rw [if_neg h1, getD_append_left (by omega)]
        exact hp j (by omega)
    rw [← e]; exact h
  · rw [hlen, hm]; intro j hj; omega
end Kc
end Go.Proofs.YtbenjgncbpafbaaGreatDoor
namespace Go.Proofs.YtbenjgncbpafbaaGreatDoor
open Go.RowKit
set_option linter.unusedVariables false
namespace Kc
theorem len136 : Tryz.prog.arrayLen 146 = 136 := by kernel_rfl
theorem und136 : Tryz.prog.underlying 146 = some (.array (Tryz.prog.arrayLen 146) (Tryz.prog.elem 146)) := by kernel_rfl
theorem size136 (w : World) : (sizeOf (Tryz.prog.elem 146)).run Tryz.prog w = .ok 1 w := by kernel_rfl
theorem slice136 (q l h : Nat) (hl : l ≤ h) (hh : h ≤ 136) (hm : l < 136) (w : World) : (Instr.sliceAt 146 (.pointer (some ⟨q, 0, none⟩)) (some (.int .i64 (l : Int))) (some (.int .i64 (h : Int))) none).run Tryz.prog w = .ok (.slice (some ⟨q, l, none⟩) (h - l) (136 - l)) w := by
  rw [run_sliceAt_array_lh w _ ⟨q, 0, none⟩ und136 .i64 .i64 l h (by omega) (by omega) (by rw [len136]; omega), size136]
  have e : ¬ 136 = l := by omega
  simp [slicedAt, len136, e, add_at]
structure Ab (W : World) (q0 q1 q2 : Nat) (a : Nat → Wd64) (p : Nat → Bt) (y : World) : Prop where
  sa : IsTab y q0 145 25 fun i => wv (a i)
  sp : IsTab y q1 146 136 fun i => bv (p i)
  sr : IsTab y q2 145 25 fun _ => wv 0#64
  n01 : q0 ≠ q1
  n02 : q0 ≠ q2
  n12 : q1 ≠ q2
  g0 : W.heap.size ≤ q0
  g2 : W.heap.size ≤ q2
  below : Below W.heap.size W y
theorem Ab.step {W : World} {q0 q1 q2 n : Nat} {a : Nat → Wd64} {p : Nat → Bt} {y : World} (h : Ab W q0 q1 q2 (absorbK a p n) p y) (hn : n < 17) :
    Ab W q0 q1 q2 (absorbK a p (n + 1)) p (y.setCell ⟨q0, n, none⟩ (.int .u64 (Kc.W (absorbK a p n n ^^^ lane p n)))) :=
  ⟨(h.sa.set n _).cong (fun i _ => by
      unfold updv absorbK wv
      dsimp only
      by_cases e : i = n
      · subst e; rw [if_pos rfl, if_neg (Nat.lt_irrefl _), if_pos (Nat.lt_succ_self _)]
      · rw [if_neg e]
        by_cases e2 : i < n
        · rw [if_pos e2, if_pos (by omega)]
        · rw [if_neg e2, if_neg (by omega)]), h.sp.keep (Ne.symm h.n01), h.sr.keep (Ne.symm h.n02), h.n01, h.n02, h.n12, h.g0, h.g2, h.below.setCell h.g0 _⟩
set_option maxHeartbeats 4000000 in
set_option maxRecDepth 100000 in
theorem absorb_walk (hP : PermIs) (a : Nat → Wd64) (p : Nat → Bt) (w : World) (ht : Laid.KTab w) :
    Calls Tryz.prog 77 #[.agg (words a), .agg (tab 136 fun i => bv (p i))] w fun e w' => e = .returned (.agg (words (absorb a p))) ∧ Below w.heap.size w w' := by
  have HT := Lib.hid ht
  clear ht
  go_enter Tryz.func77, Tryz.ntmps77
  go_upto_region 1 with (fail)
  have hp : Ab w w.heap.size (w.heap.size + 1) (w.heap.size + 1 + 1) (absorbK a p 0) p (((w.alloc (.cells (words a) 145)).alloc (.cells (tab 136 fun i => bv (p i)) 146)).alloc (.cells #[.int .u64 0, .int .u64 0, .int .u64 0, .int .u64 0, .int .u64 0, .int .u64 0, .int .u64 0, .int .u64 0, .int .u64 0, .int .u64 0, .int .u64 0, .int .u64 0, .int .u64 0, .int .u64 0, .int .u64 0, .int .u64 0, .int .u64 0, .int .u64 0, .int .u64 0, .int .u64 0, .int .u64 0, .int .u64 0, .int .u64 0, .int .u64 0, .int .u64 0] 145)) := by
    have e1 : (w.alloc (.cells (words a) 145)).heap.size = w.heap.size + 1 := by simp
    have e2 : ((w.alloc (.cells (words a) 145)).alloc (.cells (tab 136 fun i => bv (p i)) 146)).heap.size = w.heap.size + 1 + 1 := by simp
    refine ⟨((((IsTab.new w _ 25 fun i => wv (a i)).alloc _).alloc _).cong fun i _ => by unfold absorbK; rw [if_neg (by omega)]), ?_, ?_, by omega, by omega, by omega, Nat.le_refl _, by omega, (((Below.refl _ _).alloc (Nat.le_refl _) _).alloc (by simp) _).alloc (by simp; omega) _⟩
    · have := (IsTab.new (w.alloc (.cells (words a) 145)) 146 136 fun i => bv (p i)).alloc (.cells #[.int .u64 0, .int .u64 0, .int .u64 0, .int .u64 0, .int .u64 0, .int .u64 0, .int .u64 0, .int .u64 0, .int .u64 0, .int .u64 0, .int .u64 0, .int .u64 0, .int .u64 0, .int .u64 0, .int .u64 0, .int .u64 0, .int .u64 0, .int .u64 0, .int .u64 0, .int .u64 0, .int .u64 0, .int .u64 0, .int .u64 0, .int .u64 0, .int .u64 0] 145)
      rw [e1] at this
      exact this
    · have := IsTab.new ((w.alloc (.cells (words a) 145)).alloc (.cells (tab 136 fun i => bv (p i)) 146)) 145 25 fun _ => wv 0#64
      rw [e2] at this
      exact this
  have HP := Lib.hid hp
  clear hp
  generalize ((w.alloc (.cells (words a) 145)).alloc (.cells (tab 136 fun i => bv (p i)) 146)).alloc (.cells #[.int .u64 0, .int .u64 0, .int .u64 0, .int .u64 0, .int .u64 0, .int .u64 0, .int .u64 0, .int .u64 0, .int .u64 0, .int .u64 0, .int .u64 0, .int .u64 0, .int .u64 0, .int .u64 0, .int .u64 0, .int .u64 0, .int .u64 0, .int .u64 0, .int .u64 0, .int .u64 0, .int .u64 0, .int .u64 0, .int .u64 0, .int .u64 0, .int .u64 0] 145) = y0 at *
  generalize w.heap.size + 1 + 1 = q2 at *
  generalize w.heap.size + 1 = q1 at *
  go_wp2_with fail
  go_loopw [7] (fun i y => ∃ n : Nat, n ≤ 17 ∧ i = .int .i64 n ∧ Ab w w.heap.size q1 q2 (absorbK a p n) p y) (fun i _ => 17 - (intOf i).toNat)
  case atStart => exact ⟨0, by decide, rfl, HP.out⟩
  case round =>
    obtain ⟨n, hn, rfl, hp⟩ := hrel
    generalize w.heap.size = q0 at *
    clear HP
    have HPP := Lib.hid hp
    clear hp
    by_cases hlt : (n : Int) < 17
    · have aj : _ = some (Value.int .u64 (W (absorbK a p n n))) := HPP.out.sa.cell n (by omega)
      have fj := HPP.out.sa.fz n
      have hsl := slice136 q1 (8 * n) (8 * n + 8) (by omega) (by omega) (by omega)
      rw [show ((8 * n : Nat) : Int) = 8 * (n : Int) from by omega, show ((8 * n + 8 : Nat) : Int) = 8 * (n : Int) + 8 from by omega, show 8 * n + 8 - 8 * n = 8 from by omega] at hsl
      go_upto_region 5 with (fail)
      clear hsl
      have b0 : _ = some (Value.int .u8 (Bv (p (8 * n)))) := HPP.out.sp.cell (8 * n) (by omega)
      have b1 : _ = some (Value.int .u8 (Bv (p (8 * n + 1)))) := HPP.out.sp.cell (8 * n + 1) (by omega)
      have b2 : _ = some (Value.int .u8 (Bv (p (8 * n + 2)))) := HPP.out.sp.cell (8 * n + 2) (by omega)
      have b3 : _ = some (Value.int .u8 (Bv (p (8 * n + 3)))) := HPP.out.sp.cell (8 * n + 3) (by omega)
      have b4 : _ = some (Value.int .u8 (Bv (p (8 * n + 4)))) := HPP.out.sp.cell (8 * n + 4) (by omega)
      have b5 : _ = some (Value.int .u8 (Bv (p (8 * n + 5)))) := HPP.out.sp.cell (8 * n + 5) (by omega)
      have b6 : _ = some (Value.int .u8 (Bv (p (8 * n + 6)))) := HPP.out.sp.cell (8 * n + 6) (by omega)
      have b7 : _ = some (Value.int .u8 (Bv (p (8 * n + 7)))) := HPP.out.sp.cell (8 * n + 7) (by omega)
      have n0 : (0 : Int) ≤ (n : Int) := by omega
      have n25 : (n : Int) < 25 := by omega
      have r0 := wrapB
      have r8 := wr_s8
      have r16 := wr_s16
      have r24 := wr_s24
      have r32 := wr_s32
      have r40 := wr_s40
      have r48 := wr_s48
      have r56 := wr_s56
      have xo := W_or
      have xr := W_xor
      go_still_tail 51, (by kernel_rfl)
      change wpList _ _ _ _ _ wr.drew
      have HPD : Ab w q0 q1 q2 (absorbK a p n) p wr.drew := ⟨HPP.out.sa, HPP.out.sp, HPP.out.sr, HPP.out.n01, HPP.out.n02, HPP.out.n12, HPP.out.g0, HPP.out.g2, HPP.out.below.drew⟩
      clear r0 r8 r16 r24 r32 r40 r48 r56 xo xr b0 b1 b2 b3 b4 b5 b6 b7 aj fj HPP
      have HPP := Lib.hid HPD
      clear HPD
      generalize wr.drew = w2 at *
      have aj : _ = some (Value.int .u64 (W (absorbK a p n n))) := HPP.out.sa.cell n (by omega)
      have fj := HPP.out.sa.fz n
      go_wp2_with fail
      go_roundw
      case rel => exact ⟨n + 1, by omega, by go_num, HPP.out.step (by omega)⟩
      case measure => simp [intOf]; omega
    · obtain rfl : n = 17 := by omega
      have ht2 := Lib.hid (ktab_below HT.out HPP.out.below)
      go_wp2_with (first
        | (refine wpList_load_row rfl 145 (.tmp 2) rfl q0 rfl 145 (tab 25 fun i => wv (absorbK a p 17 i)) (0, 0) _ HPP.out.sa und25 rfl (inf25 _) ?_)
        | (go_at_call 89; refine (hP (absorbK a p 17) _ ht2.out).mono ?_; rintro e w' ⟨rfl, hb⟩)
        | (refine wpList_store_row rfl 145 (.tmp 4) (.tmp 69) rfl q2 (words (perm (absorbK a p 17))) rfl rfl 145 _ (HPP.out.sr.below hb) (inf25 _) (by rw [tab_size, words, tab_size]) (one_wv _ _) ?_))
      have hr : IsTab (World.setRow w' q2 (words (perm (absorbK a p 17)))) q2 145 25 fun i => wv (perm (absorbK a p 17) i) := (HPP.out.sr.below hb).row
      have hbb := below_setRow (bl HPP.out.below hb) HPP.out.g2 (words (perm (absorbK a p 17)))
      refine bodyPost_ret (v := .agg (words (absorb a p))) (results_cell_row rfl _ _ q2 145 _ (0, 0) _ rfl hr und25 rfl (inf25 _)) rfl ⟨rfl, hbb⟩
end Kc
end Go.Proofs.YtbenjgncbpafbaaGreatDoor
namespace Go.Proofs.YtbenjgncbpafbaaGreatDoor
open Go.RowKit
set_option linter.unusedVariables false
namespace Kc
theorem zeroHs (w : World) : (zeroValue 148).run Tryz.prog w = .ok (.agg (tab 162 (hv (fun _ => 0#64) (fun _ => 0#8) 0))) w := by kernel_rfl
end Kc
end Go.Proofs.YtbenjgncbpafbaaGreatDoor
namespace Go.Proofs.YtbenjgncbpafbaaGreatDoor
open Go.RowKit
set_option linter.unusedVariables false
namespace Kc
def slLen : Value → Nat
  | .slice _ n _ => n
  | _ => 0
theorem und22 : Tryz.prog.underlying 124 = some (.slice 5) := by kernel_rfl
theorem size8 : (Tryz.prog.info? 5).map (·.size) = some 1 := by kernel_rfl
theorem sizeOf8 (w : World) : (sizeOf (Tryz.prog.elem 124)).run Tryz.prog w = .ok 1 w := by kernel_rfl
theorem und22' : Tryz.prog.underlying 124 = some (.slice (Tryz.prog.elem 124)) := by kernel_rfl
theorem sliceFrom (q o l : Nat) (hm : l < 136) (w : World) : (Instr.sliceAt 146 (.pointer (some ⟨q, o, none⟩)) (some (.int .i64 (l : Int))) none none).run Tryz.prog w = .ok (.slice (some ⟨q, o + l, none⟩) (136 - l) (136 - l)) w := by
  rw [run_sliceAt_array_l w _ ⟨q, o, none⟩ und136 .i64 l (by omega) (by rw [len136]; omega), size136]
  have e : ¬ 136 = l := by omega
  simp [slicedAt, len136, e, add_at]
/-- b[k:] -/
theorem sliceRest (b o len cap k : Nat) (hk : k ≤ len) (hl : len ≤ cap) : ∃ A : Addr, (∀ w : World, (Instr.slice 124 (.slice (some ⟨b, o, none⟩) len cap) (some (.int .i64 (k : Int))) none none).run Tryz.prog w = .ok (.slice (some A) (len - k) (cap - k)) w) ∧ A.block = b ∧ (k < len → A = ⟨b, o + k, none⟩) := by
  refine ⟨if cap = k then ⟨b, o, none⟩ else ⟨b, o + k, none⟩, fun w => ?_, by split <;> rfl, fun h => by rw [if_neg (by omega)]⟩
  rw [run_slice_l (a := some ⟨b, o, none⟩) (len := len) (cap := cap) w 124 und22' .i64 k (by omega) (by omega), sizeOf8]
  by_cases e : cap = k
  · simp [sliced, e]
  · simp [sliced, e, add_at]
theorem ktab_kept {W w : World} {S : Nat → Prop} (ht : Laid.KTab W) (h : Kept S W w) (hn : ¬ S 0) : Laid.KTab w := fun i hi => h.cell hn (ht i hi)
theorem bs_rest {w : World} {b o k : Nat} {r : List Bt} {A : Addr} (hA : k < r.length → A = ⟨b, o + k, none⟩) (h : ∀ j, j < r.length → w.cell? ⟨b, o + j, none⟩ = some (bv (r.getD j 0#8))) : IsBs w (some A) (r.drop k) := by
  by_cases hk : k < r.length
  · refine .inr ⟨b, o + k, by rw [hA hk], fun j hj => ?_⟩
    rw [List.length_drop] at hj
    rw [Nat.add_assoc, h (k + j) (by omega)]
    simp [List.getD_eq_getElem?_getD]
  · exact .inl (List.drop_eq_nil_of_le (by omega))
def AddR (W : World) (q b o : Nat) (g : Nat → Value) (r : List Bt) (y : World) : Prop :=
  IsTab y q 148 162 g ∧ Kept (· = q) W y ∧ (∀ j, j < r.length → y.cell? ⟨b, o + j, none⟩ = some (bv (r.getD j 0#8))) ∧ Laid.KTab y
theorem AddR.below {W : World} {q b o : Nat} {g : Nat → Value} {r : List Bt} {y y' : World} (h : AddR W q b o g r y) (hb : Below y.heap.size y y') : AddR W q b o g r y' :=
  ⟨h.1.below hb, h.2.1.trans (Kept.ofBelow (S := (· = q)) hb) (fun _ _ h => h), fun j hj => keep1 hb (h.2.2.1 j hj), ktab_below h.2.2.2 hb⟩
theorem load25 {y : World} {q n T : Nat} {g : Nat → Value} (h : IsTab y q T n g) (o : Nat) (a : Nat → Wd64) (ho : o + 25 ≤ n) (hg : ∀ j, j < 25 → g (o + j) = wv (a j)) :
    (Instr.loadAt 145 (.pointer (some ⟨q, o, none⟩))).run Tryz.prog y = .ok (.agg (words a)) y :=
  run_loadAt_mid y q o _ ((List.range 25).map fun i => wv (a i)) _ (h.range o 25 _ ho hg) und25 rfl (by rw [List.length_map, List.length_range]; exact kInfo)
theorem load136 {y : World} {q n T : Nat} {g : Nat → Value} (h : IsTab y q T n g) (o : Nat) (p : Nat → Bt) (ho : o + 136 ≤ n) (hg : ∀ j, j < 136 → g (o + j) = bv (p j)) :
    (Instr.loadAt 146 (.pointer (some ⟨q, o, none⟩))).run Tryz.prog y = .ok (.agg (tab 136 fun i => bv (p i))) y :=
  run_loadAt_mid y q o _ ((List.range 136).map fun i => bv (p i)) _ (h.range o 136 _ ho hg) und136' rfl (by rw [List.length_map, List.length_range]; exact inf136')
theorem hv_load25 {y : World} {q : Nat} {s : Nat → Wd64} {p : Nat → Bt} {f : Nat} (h : IsTab y q 148 162 (hv s p f)) :
    (Instr.loadAt 145 (.pointer (some ⟨q, 0, none⟩))).run Tryz.prog y = .ok (.agg (words s)) y :=
  load25 h 0 s (by decide) (fun j hj => by unfold hv; rw [if_pos (by omega), Nat.zero_add])
theorem hv_load136 {y : World} {q : Nat} {s : Nat → Wd64} {p : Nat → Bt} {f : Nat} (h : IsTab y q 148 162 (hv s p f)) :
    (Instr.loadAt 146 (.pointer (some ⟨q, 25, none⟩))).run Tryz.prog y = .ok (.agg (tab 136 fun i => bv (p i))) y :=
  load136 h 25 p (by decide) (fun j hj => by unfold hv; rw [if_neg (by omega), if_pos (by omega), show 25 + j - 25 = j from by omega])
set_option maxHeartbeats 8000000 in
set_option maxRecDepth 100000 in
theorem add_walk (hP : PermIs) (q : Nat) (l bs : List Bt) (a : Option Addr) (cap : Nat) (w : World) (ht : Laid.KTab w) (hH : IsH w q l) (hB : IsBs w a bs) (hab : ∀ x, a = some x → x.block ≠ q) (hcap : bs.length ≤ cap) (hmax : cap ≤ maxLen) (hq : 0 ≠ q) :
    Calls Tryz.prog 60 #[.pointer (some ⟨q, 0, none⟩), .slice a bs.length cap] w fun e w' => e = .returned .nilIface ∧ IsH w' q (l ++ bs) ∧ Kept (· = q) w w' := by
  unfold maxLen at hmax
  have HT := Lib.hid ht
  have HH := Lib.hid hH
  have HB := Lib.hid hB
  have HAB := Lib.hid hab
  clear ht hH hB hab
  go_enter Tryz.func60, Tryz.ntmps60
  go_wp2_with fail
  go_loopw [1] (fun t y => ∃ (d r : List Bt) (a' : Option Addr) (cap' : Nat), Hid (bs = d ++ r) ∧ r.length ≤ cap' ∧ cap' ≤ 9223372036854775807 ∧ t = .slice a' r.length cap' ∧ Hid (IsH y q (l ++ d)) ∧ Hid (IsBs y a' r) ∧ Hid (∀ x, a' = some x → x.block ≠ q) ∧ Hid (Kept (· = q) w y)) (fun t _ => slLen t)
  case atStart => exact ⟨[], bs, a, cap, Lib.hid rfl, hcap, hmax, rfl, by rw [List.append_nil]; exact HH, HB, HAB, Lib.hid (Kept.refl _ _)⟩
  case round =>
    obtain ⟨d, r, a', cap', hbs, hrc, hcm, rfl, hI, hbr, hax, hk⟩ := hrel
    by_cases hr : r = []
    · subst hr
      go_wp2_with fail
      go_ret
      refine ⟨rfl, ?_, hk.out⟩
      have := hI.out
      rw [hbs.out, List.append_nil]; exact this
    · have hpos : (0 : Int) < (r.length : Int) := by have := List.length_pos_iff.2 hr; omega
      obtain ⟨b, o, hao, hcells⟩ : ∃ b o, a' = some ⟨b, o, none⟩ ∧ Hid (∀ j, j < r.length → wr.cell? ⟨b, o + j, none⟩ = some (bv (r.getD j 0#8))) := by
        rcases hbr.out with h | ⟨b, o, h1, h2⟩
        · exact absurd h hr
        · exact ⟨b, o, h1, Lib.hid h2⟩
      subst hao
      have hbq : Hid (b ≠ q) := Lib.hid (hax.out _ rfl)
      generalize hL : l ++ d = L at *
      have HL := Lib.hid hL
      clear hL
      obtain ⟨pc, hs, hpc⟩ := hI.out
      have HS := Lib.hid hs
      have HPC := Lib.hid hpc
      clear hs hpc hI hbr hax
      have hfl : L.length % 136 < 136 := Nat.mod_lt _ (by decide)
      generalize hF : L.length % 136 = fill at *
      have HF := Lib.hid hF
      clear hF
      generalize hSt : st L (L.length / 136) = s at *
      have HSt := Lib.hid hSt
      clear hSt
      obtain ⟨k, hkk, hcase⟩ : ∃ k, k = min r.length (136 - fill) ∧ ((fill + k = 136 ∧ k ≤ r.length) ∨ (fill + k < 136 ∧ k = r.length)) := ⟨_, rfl, by omega⟩
      have HKK := Lib.hid hkk
      have hk0 : 0 < k := by omega
      have hkr : k ≤ r.length := by omega
      clear hkk
      have HC := Lib.hid hcase
      clear hcase
      have c161 : _ = some (Value.int .i64 (fill : Int)) := HS.out.cell 161 (by decide)
      have hf0 : (0 : Int) ≤ (fill : Int) := by omega
      have hf1 : (fill : Int) < 136 := by omega
      have hsl := sliceFrom q 25 fill hfl
      go_upto_region 4 with (fail)
      go_still_tail 9, (by kernel_rfl)
      change wpList _ _ _ _ _ wr.drew
      have hs1 : IsTab wr.drew q 148 162 (hv s pc fill) := HS.out
      have hsrc : ∀ j, j < k → wr.drew.cell? ((⟨b, o, none⟩ : Addr).add j) = some (bv (r.getD j 0#8)) := fun j hj => by rw [add_at]; exact hcells.out j (by omega)
      refine wpList_copy_tab rfl (.tmp 19) (.tmp 20) 124 124 rfl 5 und22 size8 q (25 + fill) (136 - fill) (136 - fill) ⟨b, o, none⟩ r.length cap' rfl rfl 148 162 (hv s pc fill) hs1 k HKK.out (fun j => bv (r.getD j 0#8)) hsrc (by rcases HC.out with h | h <;> omega) (fun _ => rfl) ?_
      have hs2 : IsTab (wr.drew.setRow q (tab 162 (splv (hv s pc fill) (25 + fill) k fun j => bv (r.getD j 0#8)))) q 148 162 (hv s (pcs pc fill k r) fill) := hs1.row.cong (hv_copy s pc fill k r (by rcases HC.out with h | h <;> omega))
      have hk2 : Kept (· = q) w (wr.drew.setRow q (tab 162 (splv (hv s pc fill) (25 + fill) k fun j => bv (r.getD j 0#8)))) := kept_setRow hk.out.drew (.inl rfl) _
      have hc2 : ∀ j, j < r.length → (wr.drew.setRow q (tab 162 (splv (hv s pc fill) (25 + fill) k fun j => bv (r.getD j 0#8)))).cell? ⟨b, o + j, none⟩ = some (bv (r.getD j 0#8)) := fun j hj => by rw [cell_setRow_other _ _ _ _ hbq.out]; exact hcells.out j hj
      have HS2 := Lib.hid hs2
      have HK2 := Lib.hid hk2
      have HC2 := Lib.hid hc2
      clear hs1 hs2 hk2 hc2 hsrc hsl c161 hk hcells HS
      generalize wr.drew.setRow q (tab 162 (splv (hv s pc fill) (25 + fill) k fun j => bv (r.getD j 0#8))) = y1 at *
      have c161 : _ = some (Value.int .i64 (fill : Int)) := HS2.out.cell 161 (by decide)
      have f161 := HS2.out.fz 161
      obtain ⟨A, hsl, hAb, hAk⟩ := sliceRest b o r.length cap' k hkr hrc
      have HAB2 := Lib.hid hAb
      have HAK := Lib.hid hAk
      clear hAb hAk
      have hk1 : (k : Int) ≤ 136 := by rcases HC.out with h | h <;> omega
      go_upto_region 7 with (fail)
      have e : (fill : Int) + (k : Int) = ((fill + k : Nat) : Int) := by omega
      have hs3 : IsTab (y1.setCell ⟨q, 161, none⟩ (.int .i64 ((fill : Int) + (k : Int)))) q 148 162 (hv s (pcs pc fill k r) (fill + k)) := by
        rw [e]; exact (HS2.out.set 161 _).cong (hv_fill s _ fill (fill + k))
      have hk3 : Kept (· = q) w (y1.setCell ⟨q, 161, none⟩ (.int .i64 ((fill : Int) + (k : Int)))) := HK2.out.setCell (.inl rfl) _
      have hc3 : ∀ j, j < r.length → (y1.setCell ⟨q, 161, none⟩ (.int .i64 ((fill : Int) + (k : Int)))).cell? ⟨b, o + j, none⟩ = some (bv (r.getD j 0#8)) := fun j hj => by
        rw [World.cell?_setCell_other _ _ _ _ (fun h => hbq.out (congrArg Addr.block h).symm)]; exact HC2.out j hj
      have HS3 := Lib.hid hs3
      have HK3 := Lib.hid hk3
      have HC3 := Lib.hid hc3
      clear hs3 hk3 hc3 e HS2 HK2 HC2 c161 f161 hsl
      generalize y1.setCell ⟨q, 161, none⟩ (.int .i64 ((fill : Int) + (k : Int))) = y2 at *
      rcases HC.out with hcs | hcs
      · have c161 : y2.cell? ⟨q, 161, none⟩ = some (Value.int .i64 136) := by
          have := HS3.out.cell 161 (by decide)
          rw [hcs.1] at this
          exact this
        have HCS := Lib.hid hcs
        clear hcs
        go_wp2_with fail
        have HR : Hid (AddR w q b o (hv s (pcs pc fill k r) (fill + k)) r y2) := Lib.hid ⟨HS3.out, HK3.out, HC3.out, ktab_kept HT.out HK3.out hq⟩
        clear HS3 HK3 HC3 c161
        have hld1 : ∀ y, (∃ z : Wd (AddR w q b o (hv s (pcs pc fill k r) (fill + k)) r), y = z.val) → (Instr.loadAt 145 (.pointer (some ⟨q, 0, none⟩))).run Tryz.prog y = .ok (.agg (words s)) y := fun y ⟨z, hz⟩ => by rw [hz]; exact hv_load25 z.ok.1
        have hld2 : ∀ y, (∃ z : Wd (AddR w q b o (hv s (pcs pc fill k r) (fill + k)) r), y = z.val) → (Instr.loadAt 146 (.pointer (some ⟨q, 25, none⟩))).run Tryz.prog y = .ok (.agg (tab 136 fun i => bv (pcs pc fill k r i))) y := fun y ⟨z, hz⟩ => by rw [hz]; exact hv_load136 z.ok.1
        have LD1 := Lib.hid hld1
        have LD2 := Lib.hid hld2
        clear hld1 hld2
        have q1 := fun z : Wd (AddR w q b o (hv s (pcs pc fill k r) (fill + k)) r) => in_of_below z (fun y hb => z.ok.below hb) (absorb_walk hP s (pcs pc fill k r) z.val z.ok.2.2.2)
        have Q1 := Lib.hid q1
        clear q1
        have NE : Nonempty (Wd (AddR w q b o (hv s (pcs pc fill k r) (fill + k)) r)) := ⟨⟨_, HR.out⟩⟩
        have HR2 : Hid (AddR w q b o (hv s (pcs pc fill k r) (fill + k)) r y2.drew) := Lib.hid ⟨HR.out.1, HR.out.2.1.drew, HR.out.2.2.1, HR.out.2.2.2⟩
        refine wp_region_quiet_tail 10 (AddR w q b o (hv s (pcs pc fill k r) (fill + k)) r) (by kernel_rfl) (by kernel_rfl) HR2.out ?_
        simp only [List.take_succ_cons, List.take_zero, List.drop_succ_cons, List.drop_zero]
        repeat (first
          | (refine wpQuiet_load 145 _ (.pointer (some ⟨q, 0, none⟩)) _ rfl rfl rfl LD1.out ?_; simp only [Act.put, List.setIfInBounds_toArray, List.set_cons_zero, List.set_cons_succ])
          | (refine wpQuiet_load 146 _ (.pointer (some ⟨q, 25, none⟩)) _ rfl rfl rfl LD2.out ?_; simp only [Act.put, List.setIfInBounds_toArray, List.set_cons_zero, List.set_cons_succ])
          | (go_big_quiet_step (with_reducible exact Q1.out _)))
        refine wpQuiet_nil ?_
        rintro _ ⟨z, rfl⟩
        have hth := z.ok.1.thereAt 0 25 (by decide)
        have HTH := Lib.hid hth
        clear hth
        go_upto_region 9 with (refine wpList_store_mid rfl 145 (.tmp 49) (.tmp 47) rfl q 0 (words (absorb s (pcs pc fill k r))) rfl rfl HTH.out (inf25 _) (one_wv _ _) ?_)
        have hs4 : IsTab (z.val.setCells q 0 (words (absorb s (pcs pc fill k r))).toList) q 148 162 (hv (absorb s (pcs pc fill k r)) (pcs pc fill k r) (fill + k)) :=
          (IsTab.setCells ((List.range 25).map fun i => wv (absorb s (pcs pc fill k r) i)) 0 _ _ z.ok.1).cong (hv_state s _ _ _)
        have hk4 : Kept (· = q) w (z.val.setCells q 0 (words (absorb s (pcs pc fill k r))).toList) := keptS_setCells (S := (· = q)) (q := q) rfl _ _ _ z.ok.2.1
        have hc4 : ∀ j, j < r.length → (z.val.setCells q 0 (words (absorb s (pcs pc fill k r))).toList).cell? ⟨b, o + j, none⟩ = some (bv (r.getD j 0#8)) := fun j hj => by
          rw [World.cell?_setCells_out _ _ _ _ _ (fun h1 _ => absurd h1 hbq.out)]; exact z.ok.2.2.1 j hj
        have HS4 := Lib.hid hs4
        have HK4 := Lib.hid hk4
        have HC4 := Lib.hid hc4
        clear hs4 hk4 hc4 HTH LD1 LD2 Q1 HR HR2 NE
        generalize z.val.setCells q 0 (words (absorb s (pcs pc fill k r))).toList = y3 at *
        have c161 : _ = some (Value.int .i64 ((fill + k : Nat) : Int)) := HS4.out.cell 161 (by decide)
        have f161 := HS4.out.fz 161
        go_wp2_with fail
        have hs5 : IsTab (y3.setCell ⟨q, 161, none⟩ (.int .i64 0)) q 148 162 (hv (absorb s (pcs pc fill k r)) (pcs pc fill k r) 0) := (HS4.out.set 161 _).cong (hv_fill _ _ (fill + k) 0)
        have HI : IsH (y3.setCell ⟨q, 161, none⟩ (.int .i64 0)) q (l ++ (d ++ r.take k)) := by
          rw [← List.append_assoc, HL.out]
          exact isH_full k hkr (by rw [HF.out]; exact HCS.out.1) (by rw [HF.out]; exact HPC.out) (pcs pc fill k r) (by rw [HSt.out, HF.out]; exact hs5)
        clear c161 f161 hs5
        go_roundw
        case rel =>
          refine ⟨d ++ r.take k, r.drop k, some A, cap' - k, Lib.hid (by rw [List.append_assoc, List.take_append_drop]; exact hbs.out), by rw [List.length_drop]; omega, by omega, by rw [List.length_drop], Lib.hid HI, Lib.hid ?_, Lib.hid (fun x hx => by cases hx; rw [HAB2.out]; exact hbq.out), Lib.hid (HK4.out.setCell (.inl rfl) _)⟩
          exact bs_rest HAK.out (fun j hj => by rw [World.cell?_setCell_other _ _ _ _ (fun h => hbq.out (congrArg Addr.block h).symm)]; exact HC4.out j hj)
        case measure => simp [slLen]; omega
      · have c161 : y2.cell? ⟨q, 161, none⟩ = some (Value.int .i64 ((fill : Int) + (k : Int))) := by
          have := HS3.out.cell 161 (by decide)
          have e : (fill : Int) + (k : Int) = ((fill + k : Nat) : Int) := by omega
          rw [e]; exact this
        have htst : ((fill : Int) + (k : Int) == 136) = false := by
          have : ¬ ((fill : Int) + (k : Int) = 136) := by omega
          simpa using this
        have HI : Hid (IsH y2 q (l ++ (d ++ r.take k))) := by
          refine Lib.hid ?_
          rw [← List.append_assoc, HL.out]
          exact isH_more k hkr (by rw [HF.out]; exact hcs.1) (by rw [HF.out]; exact HPC.out) (by rw [HSt.out, HF.out]; exact HS3.out)
        clear hcs
        go_wp2_with fail
        go_roundw
        case rel =>
          refine ⟨d ++ r.take k, r.drop k, some A, cap' - k, Lib.hid (by rw [List.append_assoc, List.take_append_drop]; exact hbs.out), by rw [List.length_drop]; omega, by omega, by rw [List.length_drop], HI, Lib.hid ?_, Lib.hid (fun x hx => by cases hx; rw [HAB2.out]; exact hbq.out), HK3⟩
          exact bs_rest HAK.out (fun j hj => HC3.out j hj)
        case measure => simp [slLen]; omega
end Kc
end Go.Proofs.YtbenjgncbpafbaaGreatDoor
namespace Go.Proofs.YtbenjgncbpafbaaGreatDoor
open Go.RowKit
set_option linter.unusedVariables false
namespace Kc
structure Hr (W : World) (q q1 q2 : Nat) (s : Nat → Wd64) (pc : Nat → Bt) (fill : Nat) (p : Nat → Bt) (y : World) : Prop where
  sh : IsTab y q 148 162 (hv s pc fill)
  sr : IsTab y q1 81 32 fun _ => bv 0#8
  sl : IsTab y q2 146 136 fun i => bv (p i)
  n01 : q ≠ q1
  n02 : q ≠ q2
  n12 : q1 ≠ q2
  g1 : W.heap.size ≤ q1
  g2 : W.heap.size ≤ q2
  below : Below W.heap.size W y
  kt : Laid.KTab y
  kq : 0 ≠ q2
theorem Bv_xor1 (x : Bt) : bits .xor .u8 (Bv x) 1 = Bv (x ^^^ 1#8) := by
  unfold Bv; rw [show (1 : Int) = ((1 : Nat) : Int) from rfl, u8_xor_nat _ _ x.isLt (by decide), BitVec.toNat_xor]; rfl
theorem Bv_xor128 (x : Bt) : bits .xor .u8 (Bv x) 128 = Bv (x ^^^ 128#8) := by
  unfold Bv; rw [show (128 : Int) = ((128 : Nat) : Int) from rfl, u8_xor_nat _ _ x.isLt (by decide), BitVec.toNat_xor]; rfl
theorem Hr.cong {W : World} {q q1 q2 fill : Nat} {s : Nat → Wd64} {pc p p' : Nat → Bt} {y : World} (h : Hr W q q1 q2 s pc fill p y) (e : ∀ j, j < 136 → p j = p' j) : Hr W q q1 q2 s pc fill p' y :=
  ⟨h.sh, h.sr, h.sl.cong (fun i hi => by rw [e i hi]), h.n01, h.n02, h.n12, h.g1, h.g2, h.below, h.kt, h.kq⟩
theorem Hr.set {W : World} {q q1 q2 fill : Nat} {s : Nat → Wd64} {pc p : Nat → Bt} {y : World} (h : Hr W q q1 q2 s pc fill p y) (n : Nat) (x : Bt) :
    Hr W q q1 q2 s pc fill (fun j => if j = n then x else p j) (y.setCell ⟨q2, n, none⟩ (.int .u8 (Bv x))) :=
  ⟨h.sh.keep h.n02, h.sr.keep h.n12, (h.sl.set n _).cong (fun i _ => by unfold updv bv; dsimp only; split <;> rfl), h.n01, h.n02, h.n12, h.g1, h.g2, h.below.setCell h.g2 _, fun i hi => by rw [World.cell?_setCell_other _ _ _ _ (fun e => by have := h.kq; exact this (congrArg Addr.block e).symm)]; exact h.kt i hi, h.kq⟩
theorem Hr.next {W : World} {q q1 q2 fill : Nat} {s : Nat → Wd64} {pc p : Nat → Bt} {y y' : World} (h : Hr W q q1 q2 s pc fill p y) (hb : Below y.heap.size y y') : Hr W q q1 q2 s pc fill p y' :=
  ⟨h.sh.below hb, h.sr.below hb, h.sl.below hb, h.n01, h.n02, h.n12, h.g1, h.g2, bl h.below hb, ktab_below h.kt hb, h.kq⟩
theorem Hr.drew {W : World} {q q1 q2 fill : Nat} {s : Nat → Wd64} {pc p : Nat → Bt} {y : World} (h : Hr W q q1 q2 s pc fill p y) : Hr W q q1 q2 s pc fill p y.drew :=
  ⟨h.sh, h.sr, h.sl, h.n01, h.n02, h.n12, h.g1, h.g2, h.below.drew, h.kt, h.kq⟩
theorem Hr.zero {W : World} {q q1 q2 fill n : Nat} {s : Nat → Wd64} {pc : Nat → Bt} {y : World} (h : Hr W q q1 q2 s pc fill (fun j => if fill ≤ j ∧ j < n then 0#8 else pc j) y) (hn : fill ≤ n) (hn2 : n < 136) :
    Hr W q q1 q2 s pc fill (fun j => if fill ≤ j ∧ j < n + 1 then 0#8 else pc j) (y.setCell ⟨q2, n, none⟩ (.int .u8 0)) :=
  (h.set n 0#8).cong fun j _ => by
    by_cases e : j = n
    · subst e; rw [if_pos rfl, if_pos ⟨hn, by omega⟩]
    · rw [if_neg e]
      by_cases e2 : fill ≤ j ∧ j < n
      · rw [if_pos e2, if_pos ⟨e2.1, by omega⟩]
      · rw [if_neg e2, if_neg (by omega)]
theorem zero136 (w : World) : (zeroValue 146).run Tryz.prog w = .ok (.agg (tab 136 fun _ => bv 0#8)) w := by kernel_rfl
theorem zeroHash (w : World) : (zeroValue 81).run Tryz.prog w = .ok (.agg (tab 32 fun _ => bv 0#8)) w := by kernel_rfl
theorem last_is {l : List Bt} {fill : Nat} {pc : Nat → Bt} (hF : l.length % 136 = fill) (hfl : fill < 136) (hpc : ∀ j, j < fill → pc j = l.getD (136 * (l.length / 136) + j) 0#8) : ∀ j, j < 136 →
    (if j = 135 then (if 135 = fill then 1#8 else if fill ≤ 135 ∧ 135 < 136 then 0#8 else pc 135) ^^^ 128#8 else (if j = fill then 1#8 else if fill ≤ j ∧ j < 136 then 0#8 else pc j)) = last l j := by
  intro j hj
  unfold last
  rw [hF]
  by_cases h1 : j < fill
  · rw [if_neg (by omega), if_neg (by omega), if_neg (by omega), if_pos h1, if_neg (by omega), if_neg (by omega), hpc j h1]
    simp
  · rw [if_neg h1]
    by_cases h2 : j = fill
    · subst h2
      rw [if_pos rfl, if_pos rfl]
      by_cases h3 : j = 135
      · subst h3; rw [if_pos rfl, if_pos rfl, if_pos rfl]; rfl
      · rw [if_neg h3, if_neg h3]; rfl
    · rw [if_neg h2, if_neg h2]
      by_cases h3 : j = 135
      · subst h3; rw [if_pos rfl, if_neg (by omega), if_pos (by omega), if_pos rfl]; rfl
      · rw [if_neg h3, if_pos (by omega), if_neg h3]; rfl
theorem results_cell_tmp {P : Program} {fn : Func} {p s : Tmp} {ty : TypeId} (h : fn.results = #[.cell p ty, .tmp s]) (tmps : Array Value) (w : World) (g : Nat) (t : TypeId) (cs : Array Value) (fr : Nat × Nat) (d : TypeDesc)
    (hp : tmps.getD p undef = .pointer (some ⟨g, 0, none⟩)) (hg : w.heap[g]? = some (.cells cs t fr))
    (hu : P.underlying ty = some d) (hd : (match d with | .struct _ | .array _ _ => true | _ => false) = true) (hi : (P.info? ty).map (·.size) = some cs.size) (v : Value) (hs : tmps.getD s undef = v) :
    (results fn tmps).run P w = .ok (.tuple #[.agg cs, v]) w := by
  have hs' : tmps[s]?.getD undef = v := by simpa using hs
  have hp' : tmps[p]?.getD undef = .pointer (some ⟨g, 0, none⟩) := by simpa using hp
  simp [results, h, hp', hs', asAddr, run_loadVar_row w g t ty cs fr d hg hu hd hi]
set_option maxHeartbeats 8000000 in
set_option maxRecDepth 100000 in
theorem hsum_walk (hP : PermIs) (q : Nat) (l : List Bt) (w : World) (ht : Laid.KTab w) (hH : IsH w q l) :
    Calls Tryz.prog 61 #[.pointer (some ⟨q, 0, none⟩)] w fun e w' => e = .returned (.tuple #[.agg (tab 32 fun i => bv (sum l i)), .nilIface]) ∧ Below w.heap.size w w' := by
  obtain ⟨pc, hs, hpc⟩ := hH
  have HS := Lib.hid hs
  have HPC := Lib.hid hpc
  have HT := Lib.hid ht
  clear hs hpc ht
  have hfl : l.length % 136 < 136 := Nat.mod_lt _ (by decide)
  generalize hF : l.length % 136 = fill at *
  have HF := Lib.hid hF
  clear hF
  generalize hSt : st l (l.length / 136) = s at *
  have HSt := Lib.hid hSt
  clear hSt
  have z1 := zero136
  have z2 := zeroHash
  generalize hz : (tab 32 fun _ => bv 0#8) = zh at *
  have HZ := Lib.hid hz
  clear hz
  generalize hz : (tab 136 fun _ => bv 0#8) = zp at *
  have HZP := Lib.hid hz
  clear hz
  go_enter Tryz.func61, Tryz.ntmps61
  go_upto_region 3 with (fail)
  have h1 : Hid (IsTab (w.alloc (.cells zh 81)) q 148 162 (hv s pc fill) ∧ IsTab (w.alloc (.cells zh 81)) w.heap.size 81 32 (fun _ => bv 0#8) ∧ q < w.heap.size ∧ (w.alloc (.cells zh 81)).heap.size = w.heap.size + 1 ∧ Below w.heap.size w (w.alloc (.cells zh 81)) ∧ Laid.KTab (w.alloc (.cells zh 81))) := by
    rw [← HZ.out]
    exact Lib.hid ⟨IsTab.alloc HS.out _, IsTab.new w _ 32 _, HS.out.lt, by simp, (Below.refl _ _).alloc (Nat.le_refl _) _, ktab_below HT.out ((Below.refl _ _).alloc (Nat.le_refl _) _)⟩
  clear HS HT
  generalize w.alloc (.cells zh 81) = w1 at *
  generalize hq1 : w.heap.size = q1 at *
  have HQ1 := Lib.hid hq1
  clear hq1
  have hzl : zp.size = 136 := by rw [← HZP.out, tab_size]
  have HZL := Lib.hid hzl
  clear hzl
  have hmid := IsTab.range h1.out.1 25 136 (fun i => bv (pc i)) (by decide) (fun j hj => by unfold hv; rw [if_neg (by omega), if_pos (by omega), show 25 + j - 25 = j from by omega])
  have HM := Lib.hid hmid
  clear hmid
  go_upto_region 4 with (first
    | (refine wpList_load_mid rfl 146 (.tmp 12) rfl q 25 rfl ((List.range 136).map fun i => bv (pc i)) _ HM.out und136' rfl (by rw [List.length_map, List.length_range]; exact inf136') ?_)
    | (refine wpList_store_row rfl 146 (.tmp 4) (.tmp 13) rfl w1.heap.size (tab 136 fun i => bv (pc i)) rfl rfl 146 zp (heap_alloc_last w1 _) (inf136 _) (by rw [HZL.out, tab_size]) (one_bv _ _) ?_))
  rw [World.setRow_alloc_new]
  simp only [Act.put]
  have HR : Hid (Hr w q q1 w1.heap.size s pc fill pc (w1.alloc (.cells (tab 136 fun i => bv (pc i)) 146))) := by
    obtain ⟨a1, a2, a3, a4, a5, a6⟩ := h1.out
    refine Lib.hid ⟨a1.alloc _, a2.alloc _, IsTab.new w1 _ 136 _, by omega, by omega, by omega, by rw [HQ1.out]; omega, by rw [HQ1.out]; omega, ?_, ktab_below a6 ((Below.refl _ _).alloc (Nat.le_refl _) _), fun e => by have := inHeap (a6 0 (by decide)); omega⟩
    rw [HQ1.out]; exact a5.alloc (by omega) _
  clear h1 HM HZ HZP z1 z2 HZL
  generalize w1.alloc (.cells (tab 136 fun i => bv (pc i)) 146) = y0 at *
  generalize w1.heap.size = q2 at *
  have c161 : _ = some (Value.int .i64 (fill : Int)) := HR.out.sh.cell 161 (by decide)
  go_wp2_with fail
  clear c161
  go_loopw [5] (fun i y => ∃ n : Nat, fill ≤ n ∧ n ≤ 136 ∧ i = .int .i64 n ∧ Hid (Hr w q q1 q2 s pc fill (fun j => if fill ≤ j ∧ j < n then 0#8 else pc j) y)) (fun i _ => 136 - (intOf i).toNat)
  case atStart => exact ⟨fill, Nat.le_refl _, by omega, rfl, Lib.hid (HR.out.cong fun j _ => by rw [if_neg (by omega)])⟩
  case round =>
    obtain ⟨n, hfn, hn, rfl, hp⟩ := hrel
    clear HR
    by_cases hlt : (n : Int) < 136
    · have cj := hp.out.sl.cell n (by omega)
      have fj := hp.out.sl.fz n
      go_wp2_with fail
      go_roundw
      case rel => exact ⟨n + 1, by omega, by omega, by go_num, Lib.hid (hp.out.zero hfn (by omega))⟩
      case measure => simp [intOf]; omega
    · obtain rfl : n = 136 := by omega
      have c161 : _ = some (Value.int .i64 (fill : Int)) := hp.out.sh.cell 161 (by decide)
      have cj : _ = some (Value.int .u8 (Bv _)) := hp.out.sl.cell fill hfl
      have fj := hp.out.sl.fz fill
      have hf0 : (0 : Int) ≤ (fill : Int) := by omega
      have hf1 : (fill : Int) < 136 := by omega
      have x1 := Bv_xor1
      go_upto_region 9 with (fail)
      have hp2 := Lib.hid (hp.out.set fill 1#8)
      clear hp cj fj c161
      generalize wr.setCell ⟨q2, fill, none⟩ (.int .u8 (Bv 1#8)) = y1 at *
      generalize hp1 : (fun j => if j = fill then 1#8 else if fill ≤ j ∧ j < 136 then 0#8 else pc j) = p1 at *
      have HP1 := Lib.hid hp1
      clear hp1 x1
      have cj : _ = some (Value.int .u8 (Bv _)) := hp2.out.sl.cell 135 (by decide)
      have fj := hp2.out.sl.fz 135
      have x128 := Bv_xor128
      go_upto_region 10 with (fail)
      have hp3 := Lib.hid (hp2.out.set 135 (p1 135 ^^^ 128#8))
      clear hp2 cj fj x128
      generalize y1.setCell ⟨q2, 135, none⟩ (.int .u8 (Bv (p1 135 ^^^ 128#8))) = y2 at *
      generalize hp4 : (fun j => if j = 135 then p1 135 ^^^ 128#8 else p1 j) = p2 at *
      have HP2 := Lib.hid hp4
      clear hp4
      have hld1 : ∀ y, (∃ z : Wd (Hr w q q1 q2 s pc fill p2), y = z.val) → (Instr.loadAt 145 (.pointer (some ⟨q, 0, none⟩))).run Tryz.prog y = .ok (.agg (words s)) y := fun y ⟨z, hz⟩ => by rw [hz]; exact hv_load25 z.ok.sh
      have hld2 : ∀ y, (∃ z : Wd (Hr w q q1 q2 s pc fill p2), y = z.val) → (Instr.loadAt 146 (.pointer (some ⟨q2, 0, none⟩))).run Tryz.prog y = .ok (.agg (tab 136 fun i => bv (p2 i))) y := fun y ⟨z, hz⟩ => by
        rw [hz]; exact load136 z.ok.sl 0 p2 (by decide) (fun j _ => by rw [Nat.zero_add])
      have LD1 := Lib.hid hld1
      have LD2 := Lib.hid hld2
      clear hld1 hld2
      have c1 := fun z : Wd (Hr w q q1 q2 s pc fill p2) => in_of_below z (fun y hb => z.ok.next hb) (absorb_walk hP s p2 z.val z.ok.kt)
      have c2 := fun z : Wd (Hr w q q1 q2 s pc fill p2) => in_of_below z (fun y hb => z.ok.next hb) (digest_walk (absorb s p2) z.val)
      have Q1 := Lib.hid c1
      have Q2 := Lib.hid c2
      clear c1 c2
      have HR2 : Hid (Hr w q q1 q2 s pc fill p2 y2.drew) := Lib.hid hp3.out.drew
      have NE : Nonempty (Wd (Hr w q q1 q2 s pc fill p2)) := ⟨⟨_, HR2.out⟩⟩
      refine wp_region_quiet_tail 7 (Hr w q q1 q2 s pc fill p2) (by kernel_rfl) (by kernel_rfl) HR2.out ?_
      simp only [List.take_succ_cons, List.take_zero, List.drop_succ_cons, List.drop_zero]
      repeat (first
        | (refine wpQuiet_load 145 _ (.pointer (some ⟨q, 0, none⟩)) _ rfl rfl rfl LD1.out ?_; simp only [Act.put, List.setIfInBounds_toArray, List.set_cons_zero, List.set_cons_succ])
        | (refine wpQuiet_load 146 _ (.pointer (some ⟨q2, 0, none⟩)) _ rfl rfl rfl LD2.out ?_; simp only [Act.put, List.setIfInBounds_toArray, List.set_cons_zero, List.set_cons_succ])
        | (go_big_quiet_step (first | with_reducible exact Q1.out _ | with_reducible exact Q2.out _)))
      refine wpQuiet_nil ?_
      rintro _ ⟨z, rfl⟩
      have HSR := Lib.hid z.ok.sr
      go_wp2_with (refine wpList_store_row rfl 81 (.tmp 2) (.tmp 42) rfl q1 (tab 32 fun i => bv (digest (absorb s p2) i)) rfl rfl 81 _ HSR.out (infH _) (by rw [tab_size, tab_size]) (one_bv _ _) ?_)
      have hr : IsTab (World.setRow z.val q1 (tab 32 fun i => bv (digest (absorb s p2) i))) q1 81 32 fun i => bv (digest (absorb s p2) i) := HSR.out.row
      have hbb := below_setRow z.ok.below z.ok.g1 (tab 32 fun i => bv (digest (absorb s p2) i))
      have hfin : absorb s p2 = absorb (st l (l.length / 136)) (last l) := by
        rw [HSt.out]
        refine absorb_cong _ fun j hj => ?_
        rw [← HP2.out, ← HP1.out]
        exact last_is HF.out hfl HPC.out j hj
      have hsum : (tab 32 fun i => bv (sum l i)) = tab 32 fun i => bv (digest (absorb s p2) i) := by rw [hfin]; rfl
      rw [hsum]
      rw [HQ1.out] at hbb ⊢
      exact bodyPost_ret (results_cell_tmp rfl _ _ q1 81 _ (0, 0) _ rfl hr undH rfl (infH _) .nilIface rfl) rfl ⟨rfl, hbb⟩
end Kc
end Go.Proofs.YtbenjgncbpafbaaGreatDoor
namespace Go.Proofs.YtbenjgncbpafbaaGreatDoor
open Go.RowKit
set_option linter.unusedVariables false
namespace Kc
theorem isH_nil {w : World} {q : Nat} (h : IsTab w q 148 162 (hv (fun _ => 0#64) (fun _ => 0#8) 0)) : IsH w q [] := ⟨fun _ => 0#8, h, fun j hj => by simp at hj⟩
theorem hsInfo : (Tryz.prog.info? 148).map (·.size) = some 162 := by kernel_rfl
theorem one_hv (s : Nat → Wd64) (p : Nat → Bt) (f : Nat) : (tab 162 (hv s p f)).all (·.oneCell') = true := tab_one fun i => by unfold hv; split; rfl; split; rfl; rfl
theorem isBs_keep {W w : World} {a : Option Addr} {l : List Bt} (h : IsBs W a l) (hc : ∀ b o v, b < W.heap.size → W.cell? ⟨b, o, none⟩ = some v → w.cell? ⟨b, o, none⟩ = some v) : IsBs w a l := by
  rcases h with h | ⟨b, o, h1, h2⟩
  · exact .inl h
  · exact .inr ⟨b, o, h1, fun j hj => hc _ _ _ (inHeap (h2 j hj)) (h2 j hj)⟩
set_option maxHeartbeats 8000000 in
set_option maxRecDepth 100000 in
theorem sum_walk (hP : PermIs) (l : List Bt) (a : Option Addr) (cap : Nat) (w : World) (ht : Laid.KTab w) (hB : IsBs w a l) (hab : ∀ x, a = some x → x.block < w.heap.size) (hcap : l.length ≤ cap) (hmax : cap ≤ maxLen) :
    Calls Tryz.prog 39 #[.slice a l.length cap] w fun e w' => e = .returned (.agg (tab 32 fun i => bv (sum l i))) ∧ Below w.heap.size w w' := by
  have HT := Lib.hid ht
  have HB := Lib.hid hB
  have HAB := Lib.hid hab
  clear ht hB hab
  have z1 := zeroHs
  have z2 := zeroHash
  generalize hz : (tab 32 fun _ => bv 0#8) = zh at *
  have HZ := Lib.hid hz
  clear hz
  generalize hz : tab 162 (hv (fun _ => 0#64) (fun _ => 0#8) 0) = zp at *
  have HZP := Lib.hid hz
  clear hz
  go_enter Tryz.func39, Tryz.ntmps39
  go_upto_region 1 with (fail)
  have h1 : Hid (IsTab (w.alloc (.cells zh 81)) w.heap.size 81 32 (fun _ => bv 0#8) ∧ (w.alloc (.cells zh 81)).heap.size = w.heap.size + 1 ∧ Below w.heap.size w (w.alloc (.cells zh 81))) := by
    rw [← HZ.out]
    exact Lib.hid ⟨IsTab.new w _ 32 _, by simp, (Below.refl _ _).alloc (Nat.le_refl _) _⟩
  generalize w.alloc (.cells zh 81) = w1 at *
  generalize hq1 : w.heap.size = q1 at *
  have HQ1 := Lib.hid hq1
  clear hq1
  have hzi : (Tryz.prog.info? 148).map (·.size) = some zp.size := by rw [← HZP.out, tab_size]; exact hsInfo
  have HZI := Lib.hid hzi
  clear hzi
  have hzo : zp.all (·.oneCell') = true := by rw [← HZP.out]; exact one_hv _ _ _
  have HZO := Lib.hid hzo
  clear hzo
  go_upto_region 2 with (refine wpList_store_row rfl 148 (.tmp 3) (.tmp 6) rfl w1.heap.size zp rfl rfl 148 zp (heap_alloc_last w1 _) HZI.out rfl HZO.out ?_)
  rw [World.setRow_alloc_new]
  simp only [Act.put]
  have h2 : Hid (IsH (w1.alloc (.cells zp 148)) w1.heap.size [] ∧ IsTab (w1.alloc (.cells zp 148)) q1 81 32 (fun _ => bv 0#8) ∧ w1.heap.size = q1 + 1 ∧ Below q1 w (w1.alloc (.cells zp 148)) ∧ (w1.alloc (.cells zp 148)).heap.size = q1 + 2) := by
    rw [← HZP.out]
    exact Lib.hid ⟨isH_nil (IsTab.new w1 _ 162 _), h1.out.1.alloc _, h1.out.2.1, h1.out.2.2.alloc (by have := h1.out.2.1; omega) _, by simp; exact h1.out.2.1⟩
  clear h1 HZI HZO HZP z1
  generalize w1.alloc (.cells zp 148) = w2 at *
  generalize w1.heap.size = q2 at *
  have hb2 : Below w.heap.size w w2 := by rw [HQ1.out]; exact h2.out.2.2.2.1
  have HA := Lib.hid (add_walk hP q2 [] l a cap w2 (ktab_below HT.out hb2) h2.out.1 (isBs_keep HB.out fun b o v _ hv => keep1 hb2 hv) (fun x hx => by have := HAB.out x hx; have := h2.out.2.2.1; rw [HQ1.out] at *; omega) hcap hmax (fun e => by have := inHeap (HT.out 0 (by decide)); have := h2.out.2.2.1; rw [HQ1.out] at *; omega))
  clear hb2
  go_wp2_with (go_at_call 60; refine HA.out.mono ?_; rintro e w3 ⟨rfl, hH3, hK3⟩)
  rw [List.nil_append] at hH3
  have hb3 : Below w.heap.size w w3 := by
    rw [HQ1.out]
    have hk := (Kept.ofBelow (S := (· = q2)) (by have := h2.out.2.2.2.1; rw [← HQ1.out] at this; exact this)).trans hK3 (fun _ _ h => h)
    have := hk.below (B := w.heap.size) (Nat.le_refl _) (fun k hk e => by rw [e]; have := h2.out.2.2.1; have := HQ1.out; omega)
    rw [HQ1.out] at this; exact this
  have hr3 : IsTab w3 q1 81 32 (fun _ => bv 0#8) := by
    have h := h2.out.2.1
    unfold IsTab at *
    rw [hK3.block q1 (Array.getElem?_eq_some_iff.1 h).1 (by have := h2.out.2.2.1; omega)]; exact h
  have HS := Lib.hid (hsum_walk hP q2 l w3 (ktab_below HT.out hb3) hH3)
  have H3 := Lib.hid (And.intro hb3 hr3)
  clear hH3 hK3 hb3 hr3 HA h2
  have hzi : ∀ g, (Tryz.prog.info? 81).map (·.size) = some (tab 32 g).size := infH
  have hzl : zh.size = 32 := by rw [← HZ.out, tab_size]
  have HZL := Lib.hid hzl
  clear hzl hzi
  go_upto_region 4 with (first
    | (go_at_call 61; refine HS.out.mono ?_; rintro e w4 ⟨rfl, hb4⟩)
    | (refine wpList_store_row rfl 81 (.tmp 4) (.tmp 11) rfl w4.heap.size (tab 32 fun i => bv (sum l i)) rfl rfl 81 zh (heap_alloc_last w4 _) (infH _) (by rw [HZL.out, tab_size]) (one_bv _ _) ?_; rw [World.setRow_alloc_new]))
  have h5 : Hid (Below w.heap.size w (w4.alloc (.cells (tab 32 fun i => bv (sum l i)) 81)) ∧ IsTab (w4.alloc (.cells (tab 32 fun i => bv (sum l i)) 81)) q1 81 32 (fun _ => bv 0#8) ∧ IsTab (w4.alloc (.cells (tab 32 fun i => bv (sum l i)) 81)) w4.heap.size 81 32 (fun i => bv (sum l i))) :=
    Lib.hid ⟨(bl H3.out.1 hb4).alloc (by have := (bl H3.out.1 hb4).size; exact this) _, (H3.out.2.below hb4).alloc _, IsTab.new w4 _ 32 _⟩
  clear hb4 HS H3
  generalize w4.alloc (.cells (tab 32 fun i => bv (sum l i)) 81) = w5 at *
  generalize w4.heap.size = q4 at *
  go_wp2_with (first
    | (refine wpList_load_row rfl 81 (.tmp 4) rfl q4 rfl 81 (tab 32 fun i => bv (sum l i)) (0, 0) _ h5.out.2.2 undH rfl (infH _) ?_)
    | (refine wpList_store_row rfl 81 (.tmp 2) (.tmp 13) rfl q1 (tab 32 fun i => bv (sum l i)) rfl rfl 81 _ h5.out.2.1 (infH _) (by rw [tab_size, tab_size]) (one_bv _ _) ?_))
  have hr : IsTab (World.setRow w5 q1 (tab 32 fun i => bv (sum l i))) q1 81 32 fun i => bv (sum l i) := h5.out.2.1.row
  have hbb := below_setRow h5.out.1 (by rw [HQ1.out]; exact Nat.le_refl _ : w.heap.size ≤ q1) (tab 32 fun i => bv (sum l i))
  exact bodyPost_ret (results_cell_row rfl _ _ q1 81 _ (0, 0) _ rfl hr undH rfl (infH _)) rfl ⟨rfl, hbb⟩
end Kc
end Go.Proofs.YtbenjgncbpafbaaGreatDoor
namespace Go.Proofs.YtbenjgncbpafbaaGreatDoor
open Go.RowKit
set_option linter.unusedVariables false
namespace Kc
/-- Two digests next to one another. -/
def both (x y : Nat → Bt) : List Bt := (List.range 32).map x ++ (List.range 32).map y
theorem both_len (x y : Nat → Bt) : (both x y).length = 64 := by simp [both]
theorem both_at (x y : Nat → Bt) (j : Nat) (hj : j < 64) : (both x y).getD j 0#8 = if j < 32 then x j else y (j - 32) := by
  unfold both
  by_cases h : j < 32
  · simp [List.getElem?_append, h]
  · simp [List.getElem?_append, h, show j - 32 < 32 from by omega]
theorem zeroPre (w : World) : (zeroValue 86).run Tryz.prog w = .ok (.agg (tab 64 fun _ => bv 0#8)) w := by kernel_rfl
theorem infPre' : (Tryz.prog.info? 86).map (·.size) = some 64 := by kernel_rfl
theorem infPre (g : Nat → Value) : (Tryz.prog.info? 86).map (·.size) = some (tab 64 g).size := by rw [tab_size]; exact infPre'
theorem lenPre : Tryz.prog.arrayLen 86 = 64 := by kernel_rfl
theorem lenH : Tryz.prog.arrayLen 81 = 32 := by kernel_rfl
theorem undPre : Tryz.prog.underlying 86 = some (.array (Tryz.prog.arrayLen 86) (Tryz.prog.elem 86)) := by kernel_rfl
theorem undH' : Tryz.prog.underlying 81 = some (.array (Tryz.prog.arrayLen 81) (Tryz.prog.elem 81)) := by kernel_rfl
theorem sizePre (w : World) : (sizeOf (Tryz.prog.elem 86)).run Tryz.prog w = .ok 1 w := by kernel_rfl
theorem sizeH (w : World) : (sizeOf (Tryz.prog.elem 81)).run Tryz.prog w = .ok 1 w := by kernel_rfl
theorem slPreH (q : Nat) (w : World) : (Instr.sliceAt 86 (.pointer (some ⟨q, 0, none⟩)) none (some (.int .i64 32)) none).run Tryz.prog w = .ok (.slice (some ⟨q, 0, none⟩) 32 64) w := by
  rw [run_sliceAt_array_h w _ ⟨q, 0, none⟩ undPre .i64 32 (by omega) (by rw [lenPre]; omega), sizePre]
  simp [slicedAt, lenPre, add_at]
theorem slPreL (q : Nat) (w : World) : (Instr.sliceAt 86 (.pointer (some ⟨q, 0, none⟩)) (some (.int .i64 32)) none none).run Tryz.prog w = .ok (.slice (some ⟨q, 32, none⟩) 32 32) w := by
  rw [run_sliceAt_array_l w _ ⟨q, 0, none⟩ undPre .i64 32 (by omega) (by rw [lenPre]; omega), sizePre]
  simp [slicedAt, lenPre, add_at]
theorem slPreA (q : Nat) (w : World) : (Instr.sliceAt 86 (.pointer (some ⟨q, 0, none⟩)) none none none).run Tryz.prog w = .ok (.slice (some ⟨q, 0, none⟩) 64 64) w := by
  rw [run_sliceAt_array_all w _ ⟨q, 0, none⟩ undPre, sizePre]
  simp [slicedAt, lenPre, add_at]
theorem slHA (q : Nat) (w : World) : (Instr.sliceAt 81 (.pointer (some ⟨q, 0, none⟩)) none none none).run Tryz.prog w = .ok (.slice (some ⟨q, 0, none⟩) 32 32) w := by
  rw [run_sliceAt_array_all w _ ⟨q, 0, none⟩ undH', sizeH]
  simp [slicedAt, lenH, add_at]
structure Pr (W : World) (q0 q1 q2 q3 : Nat) (x y : Nat → Bt) (g : Nat → Value) (u : World) : Prop where
  sx : IsTab u q0 81 32 fun i => bv (x i)
  sy : IsTab u q1 81 32 fun i => bv (y i)
  sr : IsTab u q2 81 32 fun _ => bv 0#8
  sp : IsTab u q3 86 64 g
  n0 : q0 ≠ q3
  n1 : q1 ≠ q3
  n2 : q2 ≠ q3
  g2 : W.heap.size ≤ q2
  g3 : W.heap.size ≤ q3
  below : Below W.heap.size W u
theorem Pr.row {W u : World} {q0 q1 q2 q3 : Nat} {x y : Nat → Bt} {g : Nat → Value} (h : Pr W q0 q1 q2 q3 x y g u) (g' : Nat → Value) : Pr W q0 q1 q2 q3 x y g' (u.setRow q3 (tab 64 g')) :=
  ⟨h.sx.rowOther h.n0, h.sy.rowOther h.n1, h.sr.rowOther h.n2, h.sp.row, h.n0, h.n1, h.n2, h.g2, h.g3, below_setRow h.below h.g3 _⟩
theorem Pr.drew {W u : World} {q0 q1 q2 q3 : Nat} {x y : Nat → Bt} {g : Nat → Value} (h : Pr W q0 q1 q2 q3 x y g u) : Pr W q0 q1 q2 q3 x y g u.drew :=
  ⟨h.sx, h.sy, h.sr, h.sp, h.n0, h.n1, h.n2, h.g2, h.g3, h.below.drew⟩
set_option maxHeartbeats 8000000 in
set_option maxRecDepth 100000 in
theorem pair_walk (hP : PermIs) (x y : Nat → Bt) (w : World) (ht : Laid.KTab w) :
    Calls Tryz.prog 59 #[.agg (tab 32 fun i => bv (x i)), .agg (tab 32 fun i => bv (y i))] w fun e w' => e = .returned (.agg (tab 32 fun i => bv (sum (both x y) i))) ∧ Below w.heap.size w w' := by
  have HT := Lib.hid ht
  clear ht
  have z1 := zeroPre
  have z2 := zeroHash
  generalize hz : (tab 32 fun _ => bv 0#8) = zh at *
  have HZ := Lib.hid hz
  clear hz
  generalize hz : (tab 64 fun _ => bv 0#8) = zp at *
  have HZP := Lib.hid hz
  clear hz
  go_enter Tryz.func59, Tryz.ntmps59
  go_upto_region 1 with (fail)
  have h1 : Hid (IsTab (((w.alloc (.cells (tab 32 fun i => bv (x i)) 81)).alloc (.cells (tab 32 fun i => bv (y i)) 81)).alloc (.cells zh 81)) w.heap.size 81 32 (fun i => bv (x i)) ∧
      IsTab (((w.alloc (.cells (tab 32 fun i => bv (x i)) 81)).alloc (.cells (tab 32 fun i => bv (y i)) 81)).alloc (.cells zh 81)) (w.heap.size + 1) 81 32 (fun i => bv (y i)) ∧
      IsTab (((w.alloc (.cells (tab 32 fun i => bv (x i)) 81)).alloc (.cells (tab 32 fun i => bv (y i)) 81)).alloc (.cells zh 81)) (w.heap.size + 1 + 1) 81 32 (fun _ => bv 0#8) ∧
      (((w.alloc (.cells (tab 32 fun i => bv (x i)) 81)).alloc (.cells (tab 32 fun i => bv (y i)) 81)).alloc (.cells zh 81)).heap.size = w.heap.size + 3 ∧
      Below w.heap.size w (((w.alloc (.cells (tab 32 fun i => bv (x i)) 81)).alloc (.cells (tab 32 fun i => bv (y i)) 81)).alloc (.cells zh 81))) := by
    rw [← HZ.out]
    have e1 : (w.alloc (.cells (tab 32 fun i => bv (x i)) 81)).heap.size = w.heap.size + 1 := by simp
    have e2 : ((w.alloc (.cells (tab 32 fun i => bv (x i)) 81)).alloc (.cells (tab 32 fun i => bv (y i)) 81)).heap.size = w.heap.size + 1 + 1 := by simp
    refine Lib.hid ⟨((IsTab.new w _ 32 _).alloc _).alloc _, ?_, ?_, by simp, (((Below.refl _ _).alloc (Nat.le_refl _) _).alloc (by simp) _).alloc (by simp; omega) _⟩
    · have := (IsTab.new (w.alloc (.cells (tab 32 fun i => bv (x i)) 81)) 81 32 fun i => bv (y i)).alloc (.cells (tab 32 fun _ => bv 0#8) 81)
      rw [e1] at this; exact this
    · have := IsTab.new ((w.alloc (.cells (tab 32 fun i => bv (x i)) 81)).alloc (.cells (tab 32 fun i => bv (y i)) 81)) 81 32 fun _ => bv 0#8
      rw [e2] at this; exact this
  generalize ((w.alloc (.cells (tab 32 fun i => bv (x i)) 81)).alloc (.cells (tab 32 fun i => bv (y i)) 81)).alloc (.cells zh 81) = w1 at *
  have hq : w.heap.size < w.heap.size + 1 ∧ w.heap.size + 1 < w.heap.size + 1 + 1 ∧ w.heap.size + 1 + 1 < w.heap.size + 3 := by omega
  have HQ := Lib.hid hq
  clear hq
  generalize w.heap.size + 1 + 1 = q2 at *
  generalize w.heap.size + 1 = q1 at *
  have hzl : zp.size = 64 := by rw [← HZP.out, tab_size]
  have HZL := Lib.hid hzl
  clear hzl
  have hzo : zp.all (·.oneCell') = true := by rw [← HZP.out]; exact one_bv _ _
  have HZO := Lib.hid hzo
  clear hzo
  have hzi : (Tryz.prog.info? 86).map (·.size) = some zp.size := by rw [HZL.out]; exact infPre'
  have HZI := Lib.hid hzi
  clear hzi
  go_upto_region 2 with (refine wpList_store_row rfl 86 (.tmp 5) (.tmp 6) rfl w1.heap.size zp rfl rfl 86 zp (heap_alloc_last w1 _) HZI.out rfl HZO.out ?_)
  rw [World.setRow_alloc_new]
  simp only [Act.put]
  have HR : Hid (Pr w w.heap.size q1 q2 w1.heap.size x y (fun _ => bv 0#8) (w1.alloc (.cells zp 86))) := by
    rw [← HZP.out]
    obtain ⟨a1, a2, a3, a4, a5⟩ := h1.out
    obtain ⟨b1, b2, b3⟩ := HQ.out
    exact Lib.hid ⟨a1.alloc _, a2.alloc _, a3.alloc _, IsTab.new w1 _ 64 _, by omega, by omega, by omega, by omega, by omega, a5.alloc (by omega) _⟩
  clear h1 HZ HZP HZL HZO HZI z1 z2 HQ
  generalize w1.alloc (.cells zp 86) = y0 at *
  generalize w1.heap.size = q3 at *
  generalize hq0 : w.heap.size = q0 at *
  have HQ0 := Lib.hid hq0
  clear hq0
  have s1 := slPreH q3
  have s2 := slHA q0
  go_still_tail 2, (by kernel_rfl)
  change wpList _ _ _ _ _ y0.drew
  refine wpList_copy_tab rfl (.tmp 7) (.tmp 8) 124 124 rfl 5 und22 size8 q3 0 32 64 ⟨q0, 0, none⟩ 32 32 rfl rfl 86 64 (fun _ => bv 0#8) HR.out.drew.sp 32 rfl (fun j => bv (x j)) (fun j hj => by rw [add_at, Nat.zero_add]; exact HR.out.sx.cell j hj) (by decide) (fun _ => rfl) ?_
  have HR2 := Lib.hid (HR.out.drew.row (splv (fun _ => bv 0#8) 0 32 fun j => bv (x j)))
  clear HR s1 s2
  generalize y0.drew.setRow q3 (tab 64 (splv (fun _ => bv 0#8) 0 32 fun j => bv (x j))) = y1 at *
  have s1 := slPreL q3
  have s2 := slHA q1
  go_upto_region 3 with (fail)
  go_still_tail 2, (by kernel_rfl)
  change wpList _ _ _ _ _ y1.drew
  refine wpList_copy_tab rfl (.tmp 10) (.tmp 11) 124 124 rfl 5 und22 size8 q3 32 32 32 ⟨q1, 0, none⟩ 32 32 rfl rfl 86 64 (splv (fun _ => bv 0#8) 0 32 fun j => bv (x j)) HR2.out.drew.sp 32 rfl (fun j => bv (y j)) (fun j hj => by rw [add_at, Nat.zero_add]; exact HR2.out.sy.cell j hj) (by decide) (fun _ => rfl) ?_
  have HR3 := Lib.hid (HR2.out.drew.row (splv (splv (fun _ => bv 0#8) 0 32 fun j => bv (x j)) 32 32 fun j => bv (y j)))
  clear HR2 s1 s2
  generalize y1.drew.setRow q3 (tab 64 (splv (splv (fun _ => bv 0#8) 0 32 fun j => bv (x j)) 32 32 fun j => bv (y j))) = y2 at *
  have s1 := slPreA q3
  have hb2 : Below w.heap.size w y2 := HR3.out.below
  have hB : IsBs y2 (some ⟨q3, 0, none⟩) (both x y) := .inr ⟨q3, 0, rfl, fun j hj => by
    rw [both_len] at hj
    rw [Nat.zero_add, HR3.out.sp.cell j hj, both_at x y j hj]
    unfold splv
    by_cases h : j < 32
    · rw [if_neg (by omega), if_pos (by omega), if_pos h]; rfl
    · rw [if_pos (by omega), if_neg h]⟩
  have hS := sum_walk hP (both x y) (some ⟨q3, 0, none⟩) 64 y2 (ktab_below HT.out hb2) hB (fun z hz => by cases hz; exact HR3.out.sp.lt) (by rw [both_len]; exact Nat.le_refl _) (by decide)
  rw [both_len] at hS
  have HS := Lib.hid hS
  clear hS hB hb2
  go_wp2_with (first
    | (go_at_call 39; refine HS.out.mono ?_; rintro e w3 ⟨rfl, hb3⟩)
    | (refine wpList_store_row rfl 81 (.tmp 4) (.tmp 14) rfl q2 (tab 32 fun i => bv (sum (both x y) i)) rfl rfl 81 _ (HR3.out.sr.below hb3) (infH _) (by rw [tab_size, tab_size]) (one_bv _ _) ?_))
  have hr : IsTab (World.setRow w3 q2 (tab 32 fun i => bv (sum (both x y) i))) q2 81 32 fun i => bv (sum (both x y) i) := (HR3.out.sr.below hb3).row
  have hbb := below_setRow (bl HR3.out.below hb3) HR3.out.g2 (tab 32 fun i => bv (sum (both x y) i))
  exact bodyPost_ret (results_cell_row rfl _ _ q2 81 _ (0, 0) _ rfl hr undH rfl (infH _)) rfl ⟨rfl, hbb⟩
end Kc
end Go.Proofs.YtbenjgncbpafbaaGreatDoor
