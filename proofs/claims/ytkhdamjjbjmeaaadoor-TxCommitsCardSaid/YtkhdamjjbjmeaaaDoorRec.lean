/-
  wordbytes.Put; tx.Record. Own work.
-/
import Derived.Test.YtkhdamjjbjmeaaaDoorV1
import Derived.Test.YtkhdamjjbjmeaaaDoorV2
import Derived.Test.YtkhdamjjbjmeaaaDoorTab
import Derived.Test.YtkhdamjjbjmeaaaDoorEqa
import Derived.Deep.WholeRow
import Derived.Laws.Tables
import Derived.Laws.Rows
import Derived.StillTailTactics
namespace Go.Proofs.YtkhdamjjbjmeaaaDoor
open Go.ChangeShapes Go.WideShapes Go.Deep Go.RowKit
set_option linter.unusedVariables false
set_option linter.unusedSimpArgs false
namespace Rl
open Kc (tab IsTab)
/-- A word's byte. -/
def byteOf (v j : Nat) : Nat := v / 2 ^ (56 - 8 * j) % 256
def ub (z : Nat) : Value := .int .u8 z
/-- Words laid over a row of bytes. -/
def putv (g : Nat → Value) (p v m : Nat) : Nat → Value := fun j => if 8 * p ≤ j ∧ j < 8 * p + m then ub (byteOf v (j - 8 * p)) else g j
theorem putv_next (g : Nat → Value) (p v m : Nat) : Kc.updv (putv g p v m) (8 * p + m) (ub (byteOf v m)) = putv g p v (m + 1) := by
  funext j
  unfold Kc.updv putv
  by_cases h : j = 8 * p + m
  · subst h
    rw [if_pos rfl, if_pos ⟨by omega, by omega⟩, show 8 * p + m - 8 * p = m by omega]
  · rw [if_neg h]
    by_cases h2 : 8 * p ≤ j ∧ j < 8 * p + m
    · rw [if_pos h2, if_pos ⟨h2.1, by omega⟩]
    · rw [if_neg h2, if_neg (by omega)]
theorem putv_zero (g : Nat → Value) (p v : Nat) : putv g p v 0 = g := by
  funext j; unfold putv; rw [if_neg (by omega)]
/-- What Put's loop keeps. -/
structure Put (w : World) (q T n : Nat) (g : Nat → Value) (y : World) : Prop where
  row : IsTab y q T n g
  kept : Kept (fun b => b = q) w y
theorem Put.set {w y : World} {q T n : Nat} {g : Nat → Value} (h : Put w q T n g y) (i : Nat) (x : Value) : Put w q T n (Kc.updv g i x) (y.setCell ⟨q, i, none⟩ x) :=
  ⟨h.row.set i x, h.kept.setCell (.inl rfl) _⟩
set_option maxHeartbeats 2000000 in
set_option maxRecDepth 100000 in
theorem put_walk (w : World) (q T N c : Nat) (g : Nat → Value) (p v : Nat) (h : IsTab w q T N g) (hp : 8 * p + 8 ≤ N) (hN : N ≤ 64) (hv : v < 18446744073709551616) :
    Calls Tryd.prog 26 #[.slice (some ⟨q, 0, none⟩) N c, .int .i64 p, .int .u64 v] w fun e w' => e = .returned (.tuple #[]) ∧ Put w q T N (putv g p v 8) w' := by
  have HP : Hid (Put w q T N (putv g p v 0) w) := Lib.hid ⟨by rw [putv_zero]; exact h, Kept.refl _ _⟩
  have HN := Lib.hid (And.intro hp hN)
  have HV := Lib.hid hv
  have e1 : wrap64 (8 * (p : Int)) = ((8 * p : Nat) : Int) := by unfold wrap64; omega
  have HE := Lib.hid e1
  clear h hp hN hv
  go_enter Tryd.func26, Tryd.ntmps26
  go_wp2_with (fail)
  go_loopw [7] (fun i y => ∃ j : Nat, i = .int .i64 j ∧ Hid (j ≤ 8 ∧ Put w q T N (putv g p v j) y)) (fun i _ => 8 - (intOf i).toNat)
  case atStart => exact ⟨0, rfl, Lib.hid ⟨Nat.zero_le _, HP.out⟩⟩
  case round =>
    obtain ⟨j, rfl, hp⟩ := hrel
    have HR := Lib.hid hp.out
    clear hp HP e1
    by_cases hlt : (j : Int) < 8
    · have e1 := HE.out
      have x1 := HR.out.2.row.cell (8 * p + j) (by have := HN.out; omega)
      have x2 := HR.out.2.row.fz (8 * p + j)
      have HJ := Lib.hid (And.intro (show j < 8 by omega) (show wrap64 ((j : Int) + 1) = ((j + 1 : Nat) : Int) by unfold wrap64; omega))
      obtain ⟨P, hP⟩ : ∃ P, 8 * p = P := ⟨_, rfl⟩
      obtain ⟨J, hJ⟩ : ∃ J, P + j = J := ⟨_, rfl⟩
      rw [hP] at e1 x1 x2
      rw [hJ] at x1 x2
      have e2 : wrap64 ((P : Int) + j) = (J : Int) := by have := HN.out; unfold wrap64; omega
      have e3 : wrap64 (8 * (j : Int)) = ((8 * j : Nat) : Int) := by unfold wrap64; omega
      have e4 : wrap64 (56 - ((8 * j : Nat) : Int)) = ((56 - 8 * j : Nat) : Int) := by unfold wrap64; omega
      have e5 : (J : Int) < N := by have := HN.out; omega
      go_wp2_with (fail)
      refine ⟨⟨j + 1, by simp, Lib.hid ⟨HJ.out.1, ?_⟩⟩, by simp [intOf]; omega⟩
      have h9 := HR.out.2.set (8 * p + j) (ub (byteOf v j))
      rw [putv_next] at h9
      rw [hP, hJ] at h9
      have e9 : ub (byteOf v j) = .int .u8 ((v : Int) / 2 ^ (56 - 8 * j) % 256) := by unfold ub byteOf; push_cast; rfl
      rw [← e9]; exact h9
    · obtain rfl : j = 8 := by have := HR.out.1; omega
      go_wp2_with (fail)
      exact bodyPost_end (v := .tuple #[]) (by simp [results, Tryd.results26, go_sem]) rfl ⟨rfl, HR.out.2⟩
theorem undP4 : Tryd.prog.underlying 32 = some (.array (Tryd.prog.arrayLen 32) (Tryd.prog.elem 32)) := by kernel_rfl
theorem undP5 : Tryd.prog.underlying 32 = some (.array 64 5) := by kernel_rfl
theorem lenP4 : Tryd.prog.arrayLen 32 = 64 := by kernel_rfl
theorem sizeP4 (w : World) : (sizeOf (Tryd.prog.elem 32)).run Tryd.prog w = .ok 1 w := by kernel_rfl
theorem slP4 (q : Nat) (w : World) : (Instr.sliceAt 32 (.pointer (some ⟨q, 0, none⟩)) none none none).run Tryd.prog w = .ok (.slice (some ⟨q, 0, none⟩) 64 64) w := by
  rw [run_sliceAt_array_all w _ ⟨q, 0, none⟩ undP4, sizeP4]
  simp [slicedAt, lenP4, add_at]
theorem infP4 (g : Nat → Value) : (Tryd.prog.info? 32).map (·.size) = some (tab 64 g).size := by rw [Kc.tab_size]; kernel_rfl
theorem zeroP4 (w : World) : (zeroValue 32).run Tryd.prog w = .ok (.agg (tab 64 fun _ => ub 0)) w := by kernel_rfl
/-- The record's words, its bytes. -/
def wordAt (f : Nat → Nat) (i : Nat) : Nat := if i = 0 then 1 else if i ≤ 6 then f (i - 1) else 0
def recB (f : Nat → Nat) (j : Nat) : Nat := byteOf (wordAt f (j / 8)) (j % 8)
def recV (f : Nat → Nat) : Value := .agg (tab 64 fun j => ub (recB f j))
/-- Behind the first m words. -/
def recM (f : Nat → Nat) (m : Nat) : Nat → Value := fun j => if j < 8 * m then ub (recB f j) else ub 0
theorem byte_zero (j : Nat) : byteOf 0 j = 0 := by unfold byteOf; simp
theorem recM_zero (f : Nat → Nat) : recM f 0 = fun _ => ub 0 := by funext j; unfold recM; rw [if_neg (by omega)]
theorem recM_next (f : Nat → Nat) (m : Nat) : putv (recM f m) m (wordAt f m) 8 = recM f (m + 1) := by
  funext j
  unfold putv recM
  by_cases h : 8 * m ≤ j ∧ j < 8 * m + 8
  · rw [if_pos h, if_pos (by omega)]
    unfold recB
    rw [show j / 8 = m by omega, show j % 8 = j - 8 * m by omega]
  · rw [if_neg h]
    by_cases h2 : j < 8 * m
    · rw [if_pos h2, if_pos (by omega)]
    · rw [if_neg h2, if_neg (by omega)]
theorem recM_all (f : Nat → Nat) : ∀ j, j < 64 → recM f 7 j = ub (recB f j) := by
  intro j hj
  unfold recM
  by_cases h : j < 8 * 7
  · rw [if_pos h]
  · rw [if_neg h]
    unfold recB wordAt
    rw [if_neg (by omega), if_neg (by omega), byte_zero]
/-- What Record's loop keeps. -/
structure Rc (w : World) (f : Nat → Nat) (q q2 q3 m : Nat) (y : World) : Prop where
  below : Below w.heap.size w y
  tx : ∀ i, i < 6 → y.cell? ⟨q, i, none⟩ = some (.int .u64 (f i))
  res : IsTab y q2 32 64 fun _ => ub 0
  row : IsTab y q3 32 64 (recM f m)
  n1 : q ≠ q3
  n2 : q2 ≠ q3
  g2 : w.heap.size ≤ q2
  g3 : w.heap.size ≤ q3
theorem Rc.next {w y y' : World} {f : Nat → Nat} {q q2 q3 m : Nat} (h : Rc w f q q2 q3 m y) (hb : Below y.heap.size y y') : Rc w f q q2 q3 m y' :=
  ⟨bl h.below hb, fun i hi => keep1 hb (h.tx i hi), h.res.below hb, h.row.below hb, h.n1, h.n2, h.g2, h.g3⟩
theorem Rc.put {w y y' : World} {f : Nat → Nat} {q q2 q3 m T n : Nat} (h : Rc w f q q2 q3 m y) (hk : Kept (fun b => b = q3) y y') (hr : IsTab y' q3 32 64 (putv (recM f m) m (wordAt f m) 8)) : Rc w f q q2 q3 (m + 1) y' :=
  ⟨⟨hk.os.trans h.below.os, hk.tape.trans h.below.tape, hk.output.trans h.below.output, Nat.le_trans h.below.size hk.size, fun k hl => (hk.block k (by have := h.below.size; omega) (fun e => by have := h.g3; omega)).trans (h.below.block k hl)⟩,
    fun i hi => hk.cell h.n1 (h.tx i hi), by unfold IsTab at *; rw [hk.block q2 (Array.getElem?_eq_some_iff.1 h.res).1 h.n2]; exact h.res, by rw [← recM_next]; exact hr, h.n1, h.n2, h.g2, h.g3⟩
set_option maxHeartbeats 2000000 in
set_option maxRecDepth 100000 in
theorem record_walk (w : World) (f : Nat → Nat) (hf : ∀ i, i < 6 → f i < 18446744073709551616) :
    Calls Tryd.prog 9 #[txv f] w fun e w' => e = .returned (recV f) ∧ Below w.heap.size w w' := by
  have HF := Lib.hid hf
  have z1 := zeroP4
  obtain ⟨zp, hz⟩ : ∃ z, tab 64 (fun _ => ub 0) = z := ⟨_, rfl⟩
  rw [hz] at z1
  have HZ := Lib.hid hz
  have HZL := Lib.hid (show zp.size = 64 by rw [← hz, Kc.tab_size])
  have HZO := Lib.hid (show zp.all (·.oneCell') = true by rw [← hz]; exact Kc.tab_one fun i => rfl)
  have HZI := Lib.hid (show (Tryd.prog.info? 32).map (·.size) = some zp.size by rw [← hz]; exact infP4 _)
  clear hz hf
  go_enter Tryd.func9, Tryd.ntmps9
  go_upto_region 1 with (fail)
  have HT0 : Hid (∀ i, i < 6 → ((w.alloc (txo f)).alloc (.cells zp 32)).cell? ⟨w.heap.size, i, none⟩ = some (.int .u64 (f i))) := Lib.hid (fun i hi => keep1 (ba _ _) (txo_at w f i hi))
  have HS0 : Hid (IsTab ((w.alloc (txo f)).alloc (.cells zp 32)) (w.heap.size + 1) 32 64 fun _ => ub 0) := Lib.hid (by
    have := IsTab.new (w.alloc (txo f)) 32 64 fun _ => ub 0
    rw [HZ.out] at this
    simpa using this)
  have HB0 : Hid (Below w.heap.size w ((w.alloc (txo f)).alloc (.cells zp 32)) ∧ ((w.alloc (txo f)).alloc (.cells zp 32)).heap.size = w.heap.size + 2) := Lib.hid ⟨bl (ba _ _) (ba _ _), by simp⟩
  generalize (w.alloc (txo f)).alloc (.cells zp 32) = w1 at *
  go_upto_region 2 with (refine wpList_store_row rfl 32 (.tmp 3) (.tmp 6) rfl w1.heap.size zp rfl rfl 32 zp (heap_alloc_last w1 _) HZI.out rfl HZO.out ?_)
  rw [World.setRow_alloc_new]
  simp only [Act.put]
  have HR0 : Hid (Rc w f w.heap.size (w.heap.size + 1) w1.heap.size 0 (w1.alloc (.cells zp 32))) := Lib.hid (by
    have h2 := HB0.out.2
    refine ⟨bl HB0.out.1 (ba _ _), fun i hi => keep1 (ba _ _) (HT0.out i hi), HS0.out.alloc _, ?_, by omega, by omega, by omega, by omega⟩
    rw [recM_zero, ← HZ.out]
    exact IsTab.new w1 _ 64 _)
  clear HT0 HS0 HB0 HZ HZL HZO HZI z1
  generalize w1.alloc (.cells zp 32) = y0 at *
  generalize w1.heap.size = q3 at *
  generalize hq2 : w.heap.size + 1 = q2 at *
  generalize hq : w.heap.size = q at *
  have HQ := Lib.hid (And.intro hq hq2)
  clear hq hq2
  have s1 := slP4 q3
  have HPT : Hid (Calls Tryd.prog 26 #[.slice (some ⟨q3, 0, none⟩) 64 64, .int .i64 0, .int .u64 1] y0 fun e w' => e = .returned (.tuple #[]) ∧ Put y0 q3 32 64 (putv (recM f 0) 0 1 8) w') := Lib.hid (put_walk y0 q3 _ 64 64 (recM f 0) 0 1 HR0.out.row (by decide) (by decide) (by decide))
  go_wp2_with (first
    | (go_at_call 26; (with_reducible refine HPT.out.mono ?_); rintro e y1 ⟨rfl, hpt⟩
       have HR1 : Hid (Rc w f q q2 q3 1 y1) := Lib.hid (HR0.out.put (T := 0) (n := 0) hpt.kept hpt.row)
       clear hpt)
    | (go_at_call 27; (with_reducible refine (fields_walk _ q).mono ?_); rintro e y2 ⟨rfl, hb⟩
       have HR2 : Hid (Rc w f q q2 q3 1 y2) := Lib.hid (HR1.out.next hb)
       clear hb HR1))
  go_loopw [10] (fun i y => ∃ j : Nat, i = .int .i64 j ∧ Hid (j ≤ 6 ∧ Rc w f q q2 q3 (j + 1) y)) (fun i _ => 6 - (intOf i).toNat)
  case atStart => exact ⟨0, rfl, Lib.hid ⟨Nat.zero_le _, HR2.out⟩⟩
  case round =>
    obtain ⟨j, rfl, hp⟩ := hrel
    have HR := Lib.hid hp.out
    clear hp HR2
    by_cases hlt : (j : Int) < 6
    · have HJ := Lib.hid (And.intro (show j < 6 by omega) (show wrap64 ((j : Int) + 1) = ((j + 1 : Nat) : Int) by unfold wrap64; omega))
      go_upto_region 6 with (refine wpList_six rfl (.tmp 9) (.tmp 10) rfl q j HJ.out.1 rfl rfl ?_)
      have s1 := slP4 q3
      obtain ⟨J1, hJ1⟩ : ∃ J1, j + 1 = J1 := ⟨_, rfl⟩
      have e1 : wrap64 (1 + (j : Int)) = (J1 : Int) := by have := HJ.out.1; unfold wrap64; omega
      have x1 := HR.out.2.tx j HJ.out.1
      go_still_tail 6, (by kernel_rfl)
      change wpList _ _ _ _ _ wr.drew
      have HRd : Hid (Rc w f q q2 q3 (j + 1) wr.drew) := Lib.hid (HR.out.2.next (Below.refl _ _).drew)
      have HPT := Lib.hid (put_walk wr.drew q3 _ 64 64 (recM f (j + 1)) (j + 1) (f j) HRd.out.row (by have := HJ.out.1; omega) (by decide) (HF.out j HJ.out.1))
      have HWA := Lib.hid (show wordAt f (j + 1) = f j by unfold wordAt; rw [if_neg (by omega), if_pos (by have := HJ.out.1; omega), Nat.add_sub_cancel])
      have HJ1 := Lib.hid hJ1
      rw [hJ1] at HPT HRd HWA
      rw [show ((J1 : Nat) : Int) = 1 + (j : Int) by omega] at HPT
      clear hJ1
      have x1 := HRd.out.tx j HJ.out.1
      go_wp2_with (go_at_call 26; (with_reducible refine HPT.out.mono ?_); rintro e y5 ⟨rfl, hpt⟩
                   have HR5 : Hid (Rc w f q q2 q3 (J1 + 1) y5) := Lib.hid (HRd.out.put (T := 0) (n := 0) hpt.kept (by rw [HWA.out]; exact hpt.row))
                   clear hpt HPT)
      try rw [HJ.out.2]
      go_roundw
      case rel => exact ⟨j + 1, rfl, Lib.hid ⟨HJ.out.1, by rw [HJ1.out]; exact HR5.out⟩⟩
      case measure => have := HJ.out.1; show 6 - (j + 1) < 6 - j; omega
    · obtain rfl : j = 6 := by have := HR.out.1; omega
      have HR7 := Lib.hid (HR.out.2.row.cong (recM_all f))
      have HR8 := Lib.hid HR.out.2
      clear HR hlt
      go_wp2_with (first
        | (refine wpList_load_row rfl 32 (.tmp 3) rfl q3 rfl 32 (tab 64 fun j => ub (recB f j)) (0, 0) _ HR7.out undP5 rfl (infP4 _) ?_)
        | (refine wpList_store_row rfl 32 (.tmp 2) (.tmp 22) rfl q2 (tab 64 fun j => ub (recB f j)) rfl rfl 32 _ HR8.out.res (infP4 _) (by rw [Kc.tab_size, Kc.tab_size]) (Kc.tab_one fun i => rfl) ?_))
      have hr : IsTab (World.setRow wr q2 (tab 64 fun j => ub (recB f j))) q2 32 64 fun j => ub (recB f j) := HR8.out.res.row
      have hbb := Kc.below_setRow HR8.out.below HR8.out.g2 (tab 64 fun j => ub (recB f j))
      exact bodyPost_ret (results_cell_row rfl _ _ q2 32 _ (0, 0) _ rfl hr undP5 rfl (infP4 _)) rfl ⟨rfl, hbb⟩
end Rl
end Go.Proofs.YtkhdamjjbjmeaaaDoor
