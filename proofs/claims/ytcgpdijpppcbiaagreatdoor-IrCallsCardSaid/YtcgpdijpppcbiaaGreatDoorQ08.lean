/- Merged of Kperm Pis Ms Evd. Own work. -/
import Derived.Test.YtcgpdijpppcbiaaGreatDoorQ05
import Derived.Test.YtcgpdijpppcbiaaGreatDoorQ02
import Derived.StillTailTactics
import Derived.RegionTactic
import Derived.BigRegion
import Derived.BigQuiet
import Derived.Deep.QuietTactic
import Derived.IntWalk
import Derived.Test.YtcgpdijpppcbiaaGreatDoorQ01
import Derived.Test.YtcgpdijpppcbiaaGreatDoorQ07
import Derived.Deep.MidRow
namespace Go.Proofs.YtcgpdijpppcbiaaGreatDoor
open Go.RowKit
set_option linter.unusedVariables false
namespace Kc
theorem rnds_succ (a : Nat → Wd64) (n : Nat) (h : n < 24) : rnds a (n + 1) = rnd (consts.getD n 0#64) (rnds a n) := by
  have hl : n < consts.length := h
  unfold rnds
  rw [List.take_succ_eq_append_getElem hl, List.foldl_append, List.getD_eq_getElem?_getD, List.getElem?_eq_getElem hl]
  rfl
set_option maxHeartbeats 40000000 in
set_option maxRecDepth 100000 in
theorem perm_walk (a : Nat → Wd64) (w : World) (ht : Laid.KTab w) :
    Calls Tryz.prog 78 #[.agg (arr a)] w fun e w' => e = .returned (.agg (arr (perm a))) ∧ Below w.heap.size w w' := by
  have HT := Lib.hid ht
  clear ht
  go_enter Tryz.func78, Tryz.ntmps78
  go_upto_region 1 with (fail)
  have hp : Pm w w.heap.size (w.heap.size + 1) ((w.alloc (.cells (arr a) 141)).alloc (.cells #[.int .u64 0, .int .u64 0, .int .u64 0, .int .u64 0, .int .u64 0, .int .u64 0, .int .u64 0, .int .u64 0, .int .u64 0, .int .u64 0, .int .u64 0, .int .u64 0, .int .u64 0, .int .u64 0, .int .u64 0, .int .u64 0, .int .u64 0, .int .u64 0, .int .u64 0, .int .u64 0, .int .u64 0, .int .u64 0, .int .u64 0, .int .u64 0, .int .u64 0] 141)).heap.size a (fun _ => 0#64) (((w.alloc (.cells (arr a) 141)).alloc (.cells #[.int .u64 0, .int .u64 0, .int .u64 0, .int .u64 0, .int .u64 0, .int .u64 0, .int .u64 0, .int .u64 0, .int .u64 0, .int .u64 0, .int .u64 0, .int .u64 0, .int .u64 0, .int .u64 0, .int .u64 0, .int .u64 0, .int .u64 0, .int .u64 0, .int .u64 0, .int .u64 0, .int .u64 0, .int .u64 0, .int .u64 0, .int .u64 0, .int .u64 0] 141)).alloc (.cells #[.int .u64 0, .int .u64 0, .int .u64 0, .int .u64 0, .int .u64 0, .int .u64 0, .int .u64 0, .int .u64 0, .int .u64 0, .int .u64 0, .int .u64 0, .int .u64 0, .int .u64 0, .int .u64 0, .int .u64 0, .int .u64 0, .int .u64 0, .int .u64 0, .int .u64 0, .int .u64 0, .int .u64 0, .int .u64 0, .int .u64 0, .int .u64 0, .int .u64 0] 141)) := by
    rw [← arr_zero]
    have e1 : (w.alloc (.cells (arr a) 141)).heap.size = w.heap.size + 1 := by simp
    have e2 : ((w.alloc (.cells (arr a) 141)).alloc (.cells (arr fun _ => 0#64) 141)).heap.size = w.heap.size + 1 + 1 := by simp
    refine ⟨st_old (st_old (st_new w a) _) _, ?_, st_new _ _, by omega, by omega, by omega, Nat.le_refl _, by omega, by omega, (((Below.refl _ _).alloc (Nat.le_refl _) _).alloc (by simp) _).alloc (by simp; omega) _⟩
    have := st_new (w.alloc (.cells (arr a) 141)) (fun _ => 0#64)
    rw [e1] at this
    exact st_old this _
  have HP := Lib.hid hp
  clear hp
  generalize (w.alloc (.cells (arr a) 141)).alloc (.cells #[.int .u64 0, .int .u64 0, .int .u64 0, .int .u64 0, .int .u64 0, .int .u64 0, .int .u64 0, .int .u64 0, .int .u64 0, .int .u64 0, .int .u64 0, .int .u64 0, .int .u64 0, .int .u64 0, .int .u64 0, .int .u64 0, .int .u64 0, .int .u64 0, .int .u64 0, .int .u64 0, .int .u64 0, .int .u64 0, .int .u64 0, .int .u64 0, .int .u64 0] 141) = w1 at *
  generalize w.heap.size + 1 = q1 at *
  go_wp2_with ((refine wpList_store_row rfl 141 (.tmp 3) (.tmp 21) rfl w1.heap.size #[.int .u64 0, .int .u64 0, .int .u64 0, .int .u64 0, .int .u64 0, .int .u64 0, .int .u64 0, .int .u64 0, .int .u64 0, .int .u64 0, .int .u64 0, .int .u64 0, .int .u64 0, .int .u64 0, .int .u64 0, .int .u64 0, .int .u64 0, .int .u64 0, .int .u64 0, .int .u64 0, .int .u64 0, .int .u64 0, .int .u64 0, .int .u64 0, .int .u64 0] ?c2 ?c3 141 #[.int .u64 0, .int .u64 0, .int .u64 0, .int .u64 0, .int .u64 0, .int .u64 0, .int .u64 0, .int .u64 0, .int .u64 0, .int .u64 0, .int .u64 0, .int .u64 0, .int .u64 0, .int .u64 0, .int .u64 0, .int .u64 0, .int .u64 0, .int .u64 0, .int .u64 0, .int .u64 0, .int .u64 0, .int .u64 0, .int .u64 0, .int .u64 0, .int .u64 0] (heap_alloc_last w1 _) zInfo rfl zOne ?_))
  case c2 => rfl
  case c3 => rfl
  rw [World.setRow_alloc_new]
  generalize w1.alloc (.cells #[.int .u64 0, .int .u64 0, .int .u64 0, .int .u64 0, .int .u64 0, .int .u64 0, .int .u64 0, .int .u64 0, .int .u64 0, .int .u64 0, .int .u64 0, .int .u64 0, .int .u64 0, .int .u64 0, .int .u64 0, .int .u64 0, .int .u64 0, .int .u64 0, .int .u64 0, .int .u64 0, .int .u64 0, .int .u64 0, .int .u64 0, .int .u64 0, .int .u64 0] 141) = w2 at *
  generalize w1.heap.size = q2 at *
  go_loopw [22] (fun i y => ∃ (n : Nat) (b : Nat → Wd64), n ≤ 24 ∧ i = .int .i64 n ∧ Pm w w.heap.size q1 q2 (rnds a n) b y) (fun i _ => 24 - (intOf i).toNat)
  case atStart => exact ⟨0, _, by decide, rfl, HP.out⟩
  case round =>
    obtain ⟨n, b, hn, rfl, hp⟩ := hrel
    obtain ⟨c, hc⟩ : ∃ c, c = rnds a n := ⟨_, rfl⟩
    rw [← hc] at hp
    have HC := Lib.hid hc
    clear hc
    generalize w.heap.size = q0 at *
    have xr := W_xor
    have HPP := Lib.hid hp
    clear hp
    by_cases hlt : (n : Int) < 24
    · have hp := HPP.out
      have a0 := hp.sa.cell 0 (by decide)
      have a1 := hp.sa.cell 1 (by decide)
      have a2 := hp.sa.cell 2 (by decide)
      have a3 := hp.sa.cell 3 (by decide)
      have a4 := hp.sa.cell 4 (by decide)
      have a5 := hp.sa.cell 5 (by decide)
      have a6 := hp.sa.cell 6 (by decide)
      have a7 := hp.sa.cell 7 (by decide)
      have a8 := hp.sa.cell 8 (by decide)
      have a9 := hp.sa.cell 9 (by decide)
      have a10 := hp.sa.cell 10 (by decide)
      have a11 := hp.sa.cell 11 (by decide)
      have a12 := hp.sa.cell 12 (by decide)
      have a13 := hp.sa.cell 13 (by decide)
      have a14 := hp.sa.cell 14 (by decide)
      have a15 := hp.sa.cell 15 (by decide)
      have a16 := hp.sa.cell 16 (by decide)
      have a17 := hp.sa.cell 17 (by decide)
      have a18 := hp.sa.cell 18 (by decide)
      have a19 := hp.sa.cell 19 (by decide)
      have a20 := hp.sa.cell 20 (by decide)
      have a21 := hp.sa.cell 21 (by decide)
      have a22 := hp.sa.cell 22 (by decide)
      have a23 := hp.sa.cell 23 (by decide)
      have a24 := hp.sa.cell 24 (by decide)
      clear hp
      go_upto_region 10 with (fail)
      clear a0 a1 a2 a3 a4 a5 a6 a7 a8 a9 a10 a11 a12 a13 a14 a15 a16 a17 a18 a19 a20 a21 a22 a23 a24
      generalize hpar0 : (c 0 ^^^ c 5 ^^^ c 10 ^^^ c 15 ^^^ c 20 : Wd64) = p0
      have hq0 : p0 = par c 0 := hpar0.symm
      clear hpar0
      subst hq0
      generalize hpar1 : (c 1 ^^^ c 6 ^^^ c 11 ^^^ c 16 ^^^ c 21 : Wd64) = p1
      have hq1 : p1 = par c 1 := hpar1.symm
      clear hpar1
      subst hq1
      generalize hpar2 : (c 2 ^^^ c 7 ^^^ c 12 ^^^ c 17 ^^^ c 22 : Wd64) = p2
      have hq2 : p2 = par c 2 := hpar2.symm
      clear hpar2
      subst hq2
      generalize hpar3 : (c 3 ^^^ c 8 ^^^ c 13 ^^^ c 18 ^^^ c 23 : Wd64) = p3
      have hq3 : p3 = par c 3 := hpar3.symm
      clear hpar3
      subst hq3
      generalize hpar4 : (c 4 ^^^ c 9 ^^^ c 14 ^^^ c 19 ^^^ c 24 : Wd64) = p4
      have hq4 : p4 = par c 4 := hpar4.symm
      clear hpar4
      subst hq4
      go_wp2_with fail
      refine (rot_at (par c 1) 1 1 rfl (by decide) (by decide) _).mono ?_
      rintro e w' ⟨rfl, rfl⟩
      go_wp2_with fail
      refine (rot_at (par c 2) 1 1 rfl (by decide) (by decide) _).mono ?_
      rintro e w' ⟨rfl, rfl⟩
      go_wp2_with fail
      refine (rot_at (par c 3) 1 1 rfl (by decide) (by decide) _).mono ?_
      rintro e w' ⟨rfl, rfl⟩
      go_wp2_with fail
      refine (rot_at (par c 4) 1 1 rfl (by decide) (by decide) _).mono ?_
      rintro e w' ⟨rfl, rfl⟩
      go_wp2_with fail
      refine (rot_at (par c 0) 1 1 rfl (by decide) (by decide) _).mono ?_
      rintro e w' ⟨rfl, rfl⟩
      go_upto_region 15 with (fail)
      generalize hdd0 : (par c 4 ^^^ rotl (par c 1) 1 : Wd64) = e0
      have hf0 : e0 = dd c 0 := hdd0.symm
      clear hdd0
      subst hf0
      generalize hdd1 : (par c 0 ^^^ rotl (par c 2) 1 : Wd64) = e1
      have hf1 : e1 = dd c 1 := hdd1.symm
      clear hdd1
      subst hf1
      generalize hdd2 : (par c 1 ^^^ rotl (par c 3) 1 : Wd64) = e2
      have hf2 : e2 = dd c 2 := hdd2.symm
      clear hdd2
      subst hf2
      generalize hdd3 : (par c 2 ^^^ rotl (par c 4) 1 : Wd64) = e3
      have hf3 : e3 = dd c 3 := hdd3.symm
      clear hdd3
      subst hf3
      generalize hdd4 : (par c 3 ^^^ rotl (par c 0) 1 : Wd64) = e4
      have hf4 : e4 = dd c 4 := hdd4.symm
      clear hdd4
      subst hf4
      have ai := HPP.out.sa.cell 0 (by decide)
      have sj := HPP.out.sb.cell 0 (by decide)
      have fj := HPP.out.sb.fz 0
      go_upto_region 16 with (fail)
      have hp2 := HPP.out.setB 0 (c 0 ^^^ dd c 0)
      clear HPP ai sj fj
      have HPP := Lib.hid hp2
      clear hp2
      generalize World.setCell wr ⟨q2, 0, none⟩ (.int .u64 (W (c 0 ^^^ dd c 0))) = y1 at *
      have ai := HPP.out.sa.cell 1 (by decide)
      have sj := HPP.out.sb.cell 10 (by decide)
      have fj := HPP.out.sb.fz 10
      go_wp2_with fail
      refine (rot_at (c 1 ^^^ dd c 1) 1 1 rfl (by decide) (by decide) _).mono ?_
      rintro e w' ⟨rfl, rfl⟩
      go_upto_region 17 with (fail)
      have hp2 := HPP.out.setB 10 (rotl (c 1 ^^^ dd c 1) 1)
      clear HPP ai sj fj
      have HPP := Lib.hid hp2
      clear hp2
      generalize World.setCell y1 ⟨q2, 10, none⟩ (.int .u64 (W (rotl (c 1 ^^^ dd c 1) 1))) = y2 at *
      have ai := HPP.out.sa.cell 2 (by decide)
      have sj := HPP.out.sb.cell 20 (by decide)
      have fj := HPP.out.sb.fz 20
      go_wp2_with fail
      refine (rot_at (c 2 ^^^ dd c 2) 62 62 rfl (by decide) (by decide) _).mono ?_
      rintro e w' ⟨rfl, rfl⟩
      go_upto_region 18 with (fail)
      have hp2 := HPP.out.setB 20 (rotl (c 2 ^^^ dd c 2) 62)
      clear HPP ai sj fj
      have HPP := Lib.hid hp2
      clear hp2
      generalize World.setCell y2 ⟨q2, 20, none⟩ (.int .u64 (W (rotl (c 2 ^^^ dd c 2) 62))) = y3 at *
      have ai := HPP.out.sa.cell 3 (by decide)
      have sj := HPP.out.sb.cell 5 (by decide)
      have fj := HPP.out.sb.fz 5
      go_wp2_with fail
      refine (rot_at (c 3 ^^^ dd c 3) 28 28 rfl (by decide) (by decide) _).mono ?_
      rintro e w' ⟨rfl, rfl⟩
      go_upto_region 19 with (fail)
      have hp2 := HPP.out.setB 5 (rotl (c 3 ^^^ dd c 3) 28)
      clear HPP ai sj fj
      have HPP := Lib.hid hp2
      clear hp2
      generalize World.setCell y3 ⟨q2, 5, none⟩ (.int .u64 (W (rotl (c 3 ^^^ dd c 3) 28))) = y4 at *
      have ai := HPP.out.sa.cell 4 (by decide)
      have sj := HPP.out.sb.cell 15 (by decide)
      have fj := HPP.out.sb.fz 15
      go_wp2_with fail
      refine (rot_at (c 4 ^^^ dd c 4) 27 27 rfl (by decide) (by decide) _).mono ?_
      rintro e w' ⟨rfl, rfl⟩
      go_upto_region 20 with (fail)
      have hp2 := HPP.out.setB 15 (rotl (c 4 ^^^ dd c 4) 27)
      clear HPP ai sj fj
      have HPP := Lib.hid hp2
      clear hp2
      generalize World.setCell y4 ⟨q2, 15, none⟩ (.int .u64 (W (rotl (c 4 ^^^ dd c 4) 27))) = y5 at *
      have ai := HPP.out.sa.cell 5 (by decide)
      have sj := HPP.out.sb.cell 16 (by decide)
      have fj := HPP.out.sb.fz 16
      go_wp2_with fail
      refine (rot_at (c 5 ^^^ dd c 0) 36 36 rfl (by decide) (by decide) _).mono ?_
      rintro e w' ⟨rfl, rfl⟩
      go_upto_region 21 with (fail)
      have hp2 := HPP.out.setB 16 (rotl (c 5 ^^^ dd c 0) 36)
      clear HPP ai sj fj
      have HPP := Lib.hid hp2
      clear hp2
      generalize World.setCell y5 ⟨q2, 16, none⟩ (.int .u64 (W (rotl (c 5 ^^^ dd c 0) 36))) = y6 at *
      have ai := HPP.out.sa.cell 6 (by decide)
      have sj := HPP.out.sb.cell 1 (by decide)
      have fj := HPP.out.sb.fz 1
      go_wp2_with fail
      refine (rot_at (c 6 ^^^ dd c 1) 44 44 rfl (by decide) (by decide) _).mono ?_
      rintro e w' ⟨rfl, rfl⟩
      go_upto_region 22 with (fail)
      have hp2 := HPP.out.setB 1 (rotl (c 6 ^^^ dd c 1) 44)
      clear HPP ai sj fj
      have HPP := Lib.hid hp2
      clear hp2
      generalize World.setCell y6 ⟨q2, 1, none⟩ (.int .u64 (W (rotl (c 6 ^^^ dd c 1) 44))) = y7 at *
      have ai := HPP.out.sa.cell 7 (by decide)
      have sj := HPP.out.sb.cell 11 (by decide)
      have fj := HPP.out.sb.fz 11
      go_wp2_with fail
      refine (rot_at (c 7 ^^^ dd c 2) 6 6 rfl (by decide) (by decide) _).mono ?_
      rintro e w' ⟨rfl, rfl⟩
      go_upto_region 23 with (fail)
      have hp2 := HPP.out.setB 11 (rotl (c 7 ^^^ dd c 2) 6)
      clear HPP ai sj fj
      have HPP := Lib.hid hp2
      clear hp2
      generalize World.setCell y7 ⟨q2, 11, none⟩ (.int .u64 (W (rotl (c 7 ^^^ dd c 2) 6))) = y8 at *
      have ai := HPP.out.sa.cell 8 (by decide)
      have sj := HPP.out.sb.cell 21 (by decide)
      have fj := HPP.out.sb.fz 21
      go_wp2_with fail
      refine (rot_at (c 8 ^^^ dd c 3) 55 55 rfl (by decide) (by decide) _).mono ?_
      rintro e w' ⟨rfl, rfl⟩
      go_upto_region 24 with (fail)
      have hp2 := HPP.out.setB 21 (rotl (c 8 ^^^ dd c 3) 55)
      clear HPP ai sj fj
      have HPP := Lib.hid hp2
      clear hp2
      generalize World.setCell y8 ⟨q2, 21, none⟩ (.int .u64 (W (rotl (c 8 ^^^ dd c 3) 55))) = y9 at *
      have ai := HPP.out.sa.cell 9 (by decide)
      have sj := HPP.out.sb.cell 6 (by decide)
      have fj := HPP.out.sb.fz 6
      go_wp2_with fail
      refine (rot_at (c 9 ^^^ dd c 4) 20 20 rfl (by decide) (by decide) _).mono ?_
      rintro e w' ⟨rfl, rfl⟩
      go_upto_region 25 with (fail)
      have hp2 := HPP.out.setB 6 (rotl (c 9 ^^^ dd c 4) 20)
      clear HPP ai sj fj
      have HPP := Lib.hid hp2
      clear hp2
      generalize World.setCell y9 ⟨q2, 6, none⟩ (.int .u64 (W (rotl (c 9 ^^^ dd c 4) 20))) = y10 at *
      have ai := HPP.out.sa.cell 10 (by decide)
      have sj := HPP.out.sb.cell 7 (by decide)
      have fj := HPP.out.sb.fz 7
      go_wp2_with fail
      refine (rot_at (c 10 ^^^ dd c 0) 3 3 rfl (by decide) (by decide) _).mono ?_
      rintro e w' ⟨rfl, rfl⟩
      go_upto_region 26 with (fail)
      have hp2 := HPP.out.setB 7 (rotl (c 10 ^^^ dd c 0) 3)
      clear HPP ai sj fj
      have HPP := Lib.hid hp2
      clear hp2
      generalize World.setCell y10 ⟨q2, 7, none⟩ (.int .u64 (W (rotl (c 10 ^^^ dd c 0) 3))) = y11 at *
      have ai := HPP.out.sa.cell 11 (by decide)
      have sj := HPP.out.sb.cell 17 (by decide)
      have fj := HPP.out.sb.fz 17
      go_wp2_with fail
      refine (rot_at (c 11 ^^^ dd c 1) 10 10 rfl (by decide) (by decide) _).mono ?_
      rintro e w' ⟨rfl, rfl⟩
      go_upto_region 27 with (fail)
      have hp2 := HPP.out.setB 17 (rotl (c 11 ^^^ dd c 1) 10)
      clear HPP ai sj fj
      have HPP := Lib.hid hp2
      clear hp2
      generalize World.setCell y11 ⟨q2, 17, none⟩ (.int .u64 (W (rotl (c 11 ^^^ dd c 1) 10))) = y12 at *
      have ai := HPP.out.sa.cell 12 (by decide)
      have sj := HPP.out.sb.cell 2 (by decide)
      have fj := HPP.out.sb.fz 2
      go_wp2_with fail
      refine (rot_at (c 12 ^^^ dd c 2) 43 43 rfl (by decide) (by decide) _).mono ?_
      rintro e w' ⟨rfl, rfl⟩
      go_upto_region 28 with (fail)
      have hp2 := HPP.out.setB 2 (rotl (c 12 ^^^ dd c 2) 43)
      clear HPP ai sj fj
      have HPP := Lib.hid hp2
      clear hp2
      generalize World.setCell y12 ⟨q2, 2, none⟩ (.int .u64 (W (rotl (c 12 ^^^ dd c 2) 43))) = y13 at *
      have ai := HPP.out.sa.cell 13 (by decide)
      have sj := HPP.out.sb.cell 12 (by decide)
      have fj := HPP.out.sb.fz 12
      go_wp2_with fail
      refine (rot_at (c 13 ^^^ dd c 3) 25 25 rfl (by decide) (by decide) _).mono ?_
      rintro e w' ⟨rfl, rfl⟩
      go_upto_region 29 with (fail)
      have hp2 := HPP.out.setB 12 (rotl (c 13 ^^^ dd c 3) 25)
      clear HPP ai sj fj
      have HPP := Lib.hid hp2
      clear hp2
      generalize World.setCell y13 ⟨q2, 12, none⟩ (.int .u64 (W (rotl (c 13 ^^^ dd c 3) 25))) = y14 at *
      have ai := HPP.out.sa.cell 14 (by decide)
      have sj := HPP.out.sb.cell 22 (by decide)
      have fj := HPP.out.sb.fz 22
      go_wp2_with fail
      refine (rot_at (c 14 ^^^ dd c 4) 39 39 rfl (by decide) (by decide) _).mono ?_
      rintro e w' ⟨rfl, rfl⟩
      go_upto_region 30 with (fail)
      have hp2 := HPP.out.setB 22 (rotl (c 14 ^^^ dd c 4) 39)
      clear HPP ai sj fj
      have HPP := Lib.hid hp2
      clear hp2
      generalize World.setCell y14 ⟨q2, 22, none⟩ (.int .u64 (W (rotl (c 14 ^^^ dd c 4) 39))) = y15 at *
      have ai := HPP.out.sa.cell 15 (by decide)
      have sj := HPP.out.sb.cell 23 (by decide)
      have fj := HPP.out.sb.fz 23
      go_wp2_with fail
      refine (rot_at (c 15 ^^^ dd c 0) 41 41 rfl (by decide) (by decide) _).mono ?_
      rintro e w' ⟨rfl, rfl⟩
      go_upto_region 31 with (fail)
      have hp2 := HPP.out.setB 23 (rotl (c 15 ^^^ dd c 0) 41)
      clear HPP ai sj fj
      have HPP := Lib.hid hp2
      clear hp2
      generalize World.setCell y15 ⟨q2, 23, none⟩ (.int .u64 (W (rotl (c 15 ^^^ dd c 0) 41))) = y16 at *
      have ai := HPP.out.sa.cell 16 (by decide)
      have sj := HPP.out.sb.cell 8 (by decide)
      have fj := HPP.out.sb.fz 8
      go_wp2_with fail
      refine (rot_at (c 16 ^^^ dd c 1) 45 45 rfl (by decide) (by decide) _).mono ?_
      rintro e w' ⟨rfl, rfl⟩
      go_upto_region 32 with (fail)
      have hp2 := HPP.out.setB 8 (rotl (c 16 ^^^ dd c 1) 45)
      clear HPP ai sj fj
      have HPP := Lib.hid hp2
      clear hp2
      generalize World.setCell y16 ⟨q2, 8, none⟩ (.int .u64 (W (rotl (c 16 ^^^ dd c 1) 45))) = y17 at *
      have ai := HPP.out.sa.cell 17 (by decide)
      have sj := HPP.out.sb.cell 18 (by decide)
      have fj := HPP.out.sb.fz 18
      go_wp2_with fail
      refine (rot_at (c 17 ^^^ dd c 2) 15 15 rfl (by decide) (by decide) _).mono ?_
      rintro e w' ⟨rfl, rfl⟩
      go_upto_region 33 with (fail)
      have hp2 := HPP.out.setB 18 (rotl (c 17 ^^^ dd c 2) 15)
      clear HPP ai sj fj
      have HPP := Lib.hid hp2
      clear hp2
      generalize World.setCell y17 ⟨q2, 18, none⟩ (.int .u64 (W (rotl (c 17 ^^^ dd c 2) 15))) = y18 at *
      have ai := HPP.out.sa.cell 18 (by decide)
      have sj := HPP.out.sb.cell 3 (by decide)
      have fj := HPP.out.sb.fz 3
      go_wp2_with fail
      refine (rot_at (c 18 ^^^ dd c 3) 21 21 rfl (by decide) (by decide) _).mono ?_
      rintro e w' ⟨rfl, rfl⟩
      go_upto_region 34 with (fail)
      have hp2 := HPP.out.setB 3 (rotl (c 18 ^^^ dd c 3) 21)
      clear HPP ai sj fj
      have HPP := Lib.hid hp2
      clear hp2
      generalize World.setCell y18 ⟨q2, 3, none⟩ (.int .u64 (W (rotl (c 18 ^^^ dd c 3) 21))) = y19 at *
      have ai := HPP.out.sa.cell 19 (by decide)
      have sj := HPP.out.sb.cell 13 (by decide)
      have fj := HPP.out.sb.fz 13
      go_wp2_with fail
      refine (rot_at (c 19 ^^^ dd c 4) 8 8 rfl (by decide) (by decide) _).mono ?_
      rintro e w' ⟨rfl, rfl⟩
      go_upto_region 35 with (fail)
      have hp2 := HPP.out.setB 13 (rotl (c 19 ^^^ dd c 4) 8)
      clear HPP ai sj fj
      have HPP := Lib.hid hp2
      clear hp2
      generalize World.setCell y19 ⟨q2, 13, none⟩ (.int .u64 (W (rotl (c 19 ^^^ dd c 4) 8))) = y20 at *
      have ai := HPP.out.sa.cell 20 (by decide)
      have sj := HPP.out.sb.cell 14 (by decide)
      have fj := HPP.out.sb.fz 14
      go_wp2_with fail
      refine (rot_at (c 20 ^^^ dd c 0) 18 18 rfl (by decide) (by decide) _).mono ?_
      rintro e w' ⟨rfl, rfl⟩
      go_upto_region 36 with (fail)
      have hp2 := HPP.out.setB 14 (rotl (c 20 ^^^ dd c 0) 18)
      clear HPP ai sj fj
      have HPP := Lib.hid hp2
      clear hp2
      generalize World.setCell y20 ⟨q2, 14, none⟩ (.int .u64 (W (rotl (c 20 ^^^ dd c 0) 18))) = y21 at *
      have ai := HPP.out.sa.cell 21 (by decide)
      have sj := HPP.out.sb.cell 24 (by decide)
      have fj := HPP.out.sb.fz 24
      go_wp2_with fail
      refine (rot_at (c 21 ^^^ dd c 1) 2 2 rfl (by decide) (by decide) _).mono ?_
      rintro e w' ⟨rfl, rfl⟩
      go_upto_region 37 with (fail)
      have hp2 := HPP.out.setB 24 (rotl (c 21 ^^^ dd c 1) 2)
      clear HPP ai sj fj
      have HPP := Lib.hid hp2
      clear hp2
      generalize World.setCell y21 ⟨q2, 24, none⟩ (.int .u64 (W (rotl (c 21 ^^^ dd c 1) 2))) = y22 at *
      have ai := HPP.out.sa.cell 22 (by decide)
      have sj := HPP.out.sb.cell 9 (by decide)
      have fj := HPP.out.sb.fz 9
      go_wp2_with fail
      refine (rot_at (c 22 ^^^ dd c 2) 61 61 rfl (by decide) (by decide) _).mono ?_
      rintro e w' ⟨rfl, rfl⟩
      go_upto_region 38 with (fail)
      have hp2 := HPP.out.setB 9 (rotl (c 22 ^^^ dd c 2) 61)
      clear HPP ai sj fj
      have HPP := Lib.hid hp2
      clear hp2
      generalize World.setCell y22 ⟨q2, 9, none⟩ (.int .u64 (W (rotl (c 22 ^^^ dd c 2) 61))) = y23 at *
      have ai := HPP.out.sa.cell 23 (by decide)
      have sj := HPP.out.sb.cell 19 (by decide)
      have fj := HPP.out.sb.fz 19
      go_wp2_with fail
      refine (rot_at (c 23 ^^^ dd c 3) 56 56 rfl (by decide) (by decide) _).mono ?_
      rintro e w' ⟨rfl, rfl⟩
      go_upto_region 39 with (fail)
      have hp2 := HPP.out.setB 19 (rotl (c 23 ^^^ dd c 3) 56)
      clear HPP ai sj fj
      have HPP := Lib.hid hp2
      clear hp2
      generalize World.setCell y23 ⟨q2, 19, none⟩ (.int .u64 (W (rotl (c 23 ^^^ dd c 3) 56))) = y24 at *
      have ai := HPP.out.sa.cell 24 (by decide)
      have sj := HPP.out.sb.cell 4 (by decide)
      have fj := HPP.out.sb.fz 4
      go_wp2_with fail
      refine (rot_at (c 24 ^^^ dd c 4) 14 14 rfl (by decide) (by decide) _).mono ?_
      rintro e w' ⟨rfl, rfl⟩
      go_upto_region 40 with (fail)
      have hp2 := HPP.out.setB 4 (rotl (c 24 ^^^ dd c 4) 14)
      clear HPP ai sj fj
      have HPP := Lib.hid hp2
      clear hp2
      generalize World.setCell y24 ⟨q2, 4, none⟩ (.int .u64 (W (rotl (c 24 ^^^ dd c 4) 14))) = y25 at *
      have hp2 := HPP.out.congB (chain_ok b c)
      clear HPP
      have HPP := Lib.hid hp2
      clear hp2
      go_wp2_with fail
      generalize y25 = z0 at *
      refine rows_loop q0 q1 q2 (rhopi (theta c)) c w _ _ _ _ _ _ _ _ _ _ _ _ _ _ _ _ _ _ _ _ _ _ _ _ _ _ _ _ _ _ _ _ _ _ _ _ _ _ _ _ _ _ _ _ _ _ _ _ _ _ _ _ _ _ _ _ _ _ _ _ _ _ _ _ _ _ _ _ _ _ _ _ _ _ _ _ _ _ _ _ _ _ _ _ _ _ _ _ _ _ _ _ _ _ _ _ _ _ _ _ _ _ _ _ _ _ _ _ _ _ _ _ _ _ _ _ _ _ _ _ _ _ _ _ _ _ _ _ _ _ _ _ _ _ _ _ _ _ _ _ _ _ _ _ _ _ _ _ _ _ _ _ _ _ _ _ _ _ _ _ _ _ _ _ _ _ _ _ _ _ _ _ _ _ _ _ _ _ _ _ _ _ _ _ _ _ _ _ _ _ _ _ _ _ _ _ _ _ _ _ _ _ _ _ _ _ _ _ _ _ _ _ _ _ _ _ _ _ _ _ _ _ _ _ _ _ _ _ _ _ _ _ _ _ _ _ _ _ _ _ _ _ _ _ _ _ _ _ _ _ _ _ _ _ _ _ _ _ _ _ _ _ _ _ _ _ _ _ _ _ _ _ _ _ _ _ _ _ _ _ _ _ _ _ _ _ _ _ _ _ _ _ _ _ _ _ _ _ _ _ _ _ _ _ _ _ _ _ _ _ _ _ _ _ _ _ _ _ _ _ _ _ _ _ _ _ _ _ _ _ _ _ _ _ _ _ _ z0 HPP.out ?_
      intro v16 v17 v18 v19 v20 v264 v265 v266 v267 v268 v269 v270 v271 v272 v273 v274 v275 v276 v277 v278 v279 v280 v281 v282 v283 v284 v285 v286 v287 v288 v289 v290 v291 v292 v293 v294 v295 v296 v297 v298 v299 v300 v301 v302 v303 v304 v305 v306 v307 v308 v309 v310 v311 v312 v313 v314 v315 v316 v317 v318 v319 v320 v321 v322 v323 v324 v325 v326 v327 v328 v329 v330 z hpz
      have HPZ := Lib.hid hpz
      clear hpz HPP
      have a0 := HPZ.out.sa.cell 0 (by decide)
      have f0 := HPZ.out.sa.fz 0
      have kn := HPZ.out.tab HT.out n (by omega)
      have n0 : (0 : Int) ≤ (n : Int) := by omega
      go_upto_region 49 with (fail)
      go_still_tail 7, (by kernel_rfl)
      change wpList _ _ _ _ _ z.drew
      have HPD := HPZ.out.drew
      clear a0 f0 kn HPZ
      have HPZ := Lib.hid HPD
      clear HPD
      generalize z.drew = z1 at *
      have a0 := HPZ.out.sa.cell 0 (by decide)
      have f0 := HPZ.out.sa.fz 0
      go_wp2_with fail
      go_roundw
      case rel => exact ⟨n + 1, rhopi (theta c), by omega, by go_num, (HPZ.out.setA 0 _).congA (fun i _ => by rw [rnds_succ a n (by omega), ← HC.out]; rfl)⟩
      case measure => simp [intOf]; omega
    · obtain rfl : n = 24 := by omega
      clear xr
      have HSR : Hid (wr.heap[q1]? = some (.cells (arr fun _ => 0#64) 141 (0, 0))) := Lib.hid HPP.out.sr
      have HSA : Hid (wr.heap[q0]? = some (.cells (arr c) 141 (0, 0))) := Lib.hid HPP.out.sa
      go_wp2_with (first
        | (refine wpList_load_row rfl 141 (.tmp 1) rfl q0 ?c5 141 (arr c) (0, 0) (.array 25 22) HSA.out und25 rfl (inf25 fun i => wv (c i)) ?_)
        | (refine wpList_store_row rfl 141 (.tmp 2) (.tmp 339) rfl q1 (arr c) ?d5 ?d6 141 (arr fun _ => 0#64) HSR.out (inf25 fun i => wv (c i)) ?d8 (one_wv c 25) ?_))
      case d8 => rw [arr_size, arr_size]
      have hr : IsTab (World.setRow wr q1 (arr c)) q1 141 25 fun i => wv (c i) := setRow_heap wr q1 _ _ _ _ HSR.out
      have hbb := below_setRow HPP.out.below HPP.out.g1 (arr c)
      have hpc : perm a = c := HC.out.symm
      rw [hpc]
      refine bodyPost_ret (v := .agg (arr c)) (results_cell_row rfl _ _ q1 141 (tab 25 fun i => wv (c i)) (0, 0) _ rfl hr und25 rfl (inf25 _)) rfl ⟨rfl, hbb⟩
end Kc
end Go.Proofs.YtcgpdijpppcbiaaGreatDoor
namespace Go.Proofs.YtcgpdijpppcbiaaGreatDoor
namespace Kc
theorem permIs : PermIs := fun a w h => perm_walk a w h
end Kc
end Go.Proofs.YtcgpdijpppcbiaaGreatDoor
namespace Go.Proofs.YtcgpdijpppcbiaaGreatDoor
open Go.RowKit
set_option linter.unusedVariables false
section
variable {P : Program}
/-- A load whose value is known, as one operation. -/
theorem wp_loadE {op : Oper} {a : Act} {w : World} {K : Act → World → Prop} {Q : Exit → Act → World → Prop} (ty : TypeId) (x : Operand) (ho : op.op = .load ty x) (p v : Value) (hx : a.eval x = p) (hl : (Instr.loadAt ty p).run P w = .ok v w)
    (h : K (a.put op.dst v) w) : op.wp P a w K Q := by
  unfold Oper.wp execOp
  simp only [ho, hx]
  simp [hl]
  exact h
/-- At the list of a plain region's operations. -/
theorem wpList_loadE {ops : Array Oper} {rest : List Oper} {op : Oper} {a : Act} {w : World} {Q : Exit → Act → World → Prop} (hgd : op.guard = none) (ty : TypeId) (x : Operand) (ho : op.op = .load ty x) (p v : Value) (hx : a.eval x = p) (hl : (Instr.loadAt ty p).run P w = .ok v w)
    (h : wpList P ops Q rest (a.put op.dst v) w) : wpList P ops Q (op :: rest) a w :=
  wpList_plain hgd fun _ hK => wp_loadE ty x ho p v hx hl (hK _ _ h)
/-- A slice of one, made on the spot, whose run is known. -/
theorem wpList_build1 {ops : Array Oper} {rest : List Oper} {op : Oper} {a : Act} {w : World} {Q : Exit → Act → World → Prop} (hgd : op.guard = none) (t : TypeId) (x : Operand) (ho : op.op = .buildSlice t 1 #[(0, x)]) (p v : Value) (hx : a.eval x = p) (w' : World) (hl : (Instr.buildSlice t 1 #[(0, p)]).run P w = .ok v w')
    (h : wpList P ops Q rest (a.put op.dst v) w') : wpList P ops Q (op :: rest) a w :=
  wpList_plain hgd fun _ hK => by
    unfold Oper.wp execOp
    simp only [ho, List.map_toArray, List.map_cons, List.map_nil, hx]
    simp [hl]
    exact hK _ _ h
end
namespace Mk
open Kc
/-- The value of a digest. -/
def dv (x : Hx) : Value := .agg (tab 32 fun i => bv (x i))
/-- n digests from a place on. -/
def At5 (w : World) (b o n : Nat) (f : Nat → Hx) : Prop := ∀ k j, k < n → j < 32 → w.cell? ⟨b, o + 32 * k + j, none⟩ = some (bv (f k j))
/-- A slice of n digests. -/
def IsHs (w : World) (a : Option Addr) (n : Nat) (f : Nat → Hx) : Prop := n = 0 ∨ ∃ b o, a = some ⟨b, o, none⟩ ∧ At5 w b o n f
theorem At5.keep {w w' : World} {b o n : Nat} {f : Nat → Hx} (h : At5 w b o n f) (hk : ∀ i v, w.cell? ⟨b, i, none⟩ = some v → w'.cell? ⟨b, i, none⟩ = some v) : At5 w' b o n f := fun k j h1 h2 => hk _ _ (h k j h1 h2)
theorem At5.below {w w' : World} {b o n : Nat} {f : Nat → Hx} (h : At5 w b o n f) (hb : Below w.heap.size w w') : At5 w' b o n f := h.keep fun i v hv => keep1 hb hv
theorem At5.cong {w : World} {b o n : Nat} {f g : Nat → Hx} (h : At5 w b o n f) (e : ∀ k, k < n → f k = g k) : At5 w b o n g := fun k j h1 h2 => by rw [← e k h1]; exact h k j h1 h2
theorem At5.from {w : World} {b o n : Nat} {f : Nat → Hx} (h : At5 w b o n f) (m : Nat) : At5 w b (o + 32 * m) (n - m) fun k => f (m + k) := fun k j h1 h2 => by
  rw [show o + 32 * m + 32 * k + j = o + 32 * (m + k) + j from by omega]; exact h (m + k) j (by omega) h2
theorem IsHs.below {w w' : World} {a : Option Addr} {n : Nat} {f : Nat → Hx} (h : IsHs w a n f) (hb : Below w.heap.size w w') : IsHs w' a n f := by
  rcases h with h | ⟨b, o, h1, h2⟩
  · exact .inl h
  · exact .inr ⟨b, o, h1, h2.below hb⟩
theorem IsHs.drew {w : World} {a : Option Addr} {n : Nat} {f : Nat → Hx} (h : IsHs w a n f) : IsHs w.drew a n f := h
theorem IsHs.cong {w : World} {a : Option Addr} {n : Nat} {f g : Nat → Hx} (h : IsHs w a n f) (e : ∀ k, k < n → f k = g k) : IsHs w a n g := by
  rcases h with h | ⟨b, o, h1, h2⟩
  · exact .inl h
  · exact .inr ⟨b, o, h1, h2.cong e⟩
theorem IsHs.at {w : World} {a : Option Addr} {n : Nat} {f : Nat → Hx} (h : IsHs w a n f) {k : Nat} (hk : k < n) : ∃ b o, a = some ⟨b, o, none⟩ ∧ At5 w b o n f := by
  rcases h with h | h
  · omega
  · exact h
theorem infR : (Tryz.prog.info? 74).map (·.size) = some 32 := by kernel_rfl
theorem infHh : (Tryz.prog.info? 75).map (·.size) = some 32 := by kernel_rfl
/-- A digest is loaded, as the one type or as the other. -/
theorem loadH {w : World} {b o n : Nat} {f : Nat → Hx} (h : At5 w b o n f) {k p : Nat} (hk : k < n) (hp : p = o + 32 * k) : (Instr.loadAt 75 (.pointer (some ⟨b, p, none⟩))).run Tryz.prog w = .ok (dv (f k)) w := by
  subst hp
  refine run_loadAt_mid w b (o + 32 * k) _ ((List.range 32).map fun i => bv (f k i)) _ (fun j v hv => ?_) undH rfl (by rw [List.length_map, List.length_range]; exact infHh)
  obtain ⟨hj, rfl⟩ := List.getElem?_eq_some_iff.1 hv
  simp only [List.length_map, List.length_range] at hj
  simpa using h k j hk hj
theorem loadR {w : World} {b o n : Nat} {f : Nat → Hx} (h : At5 w b o n f) {k p : Nat} (hk : k < n) (hp : p = o + 32 * k) : (Instr.loadAt 74 (.pointer (some ⟨b, p, none⟩))).run Tryz.prog w = .ok (dv (f k)) w := by
  subst hp
  refine run_loadAt_mid w b (o + 32 * k) _ ((List.range 32).map fun i => bv (f k i)) _ (fun j v hv => ?_) und26 rfl (by rw [List.length_map, List.length_range]; exact infR)
  obtain ⟨hj, rfl⟩ := List.getElem?_eq_some_iff.1 hv
  simp only [List.length_map, List.length_range] at hj
  simpa using h k j hk hj
/-- The cells of n digests. -/
def flat (n : Nat) (f : Nat → Hx) : List Value := (List.range (32 * n)).map fun i => bv (f (i / 32) (i % 32))
theorem flat_len (n : Nat) (f : Nat → Hx) : (flat n f).length = n * 32 := by simp [flat]; omega
theorem flat_at {n : Nat} {f : Nat → Hx} {k j : Nat} (hk : k < n) (hj : j < 32) : (flat n f)[32 * k + j]? = some (bv (f k j)) := by
  unfold flat
  have h : 32 * k + j < 32 * n := by omega
  simp [h, show (32 * k + j) / 32 = k from by omega, show (32 * k + j) % 32 = j from by omega]
theorem flat_one (n : Nat) (f : Nat → Hx) : ∀ u ∈ flat n f, u.oneCell' = true := by intro u hu; obtain ⟨i, _, rfl⟩ := List.mem_map.1 hu; rfl
theorem flat_cong {n : Nat} {f g : Nat → Hx} (h : ∀ k, k < n → f k = g k) : flat n f = flat n g := by
  unfold flat
  refine List.map_congr_left fun i hi => ?_
  rw [h (i / 32) (by have : i < 32 * n := by simpa using hi
                     omega)]
theorem flat_append (n m : Nat) (f g : Nat → Hx) : flat n f ++ flat m g = flat (n + m) fun k => if k < n then f k else g (k - n) := by
  apply List.ext_getElem?
  intro i
  by_cases h : i < 32 * n
  · rw [List.getElem?_append_left (by rw [flat_len]; omega)]
    unfold flat
    simp [h, show i < 32 * (n + m) from by omega, show i / 32 < n from by omega]
  · rw [List.getElem?_append_right (by rw [flat_len]; omega), flat_len]
    unfold flat
    by_cases h2 : i < 32 * (n + m)
    · simp [h2, show i - n * 32 < 32 * m from by omega, show ¬ i / 32 < n from by omega, show (i - n * 32) / 32 = i / 32 - n from by omega, show (i - n * 32) % 32 = i % 32 from by omega]
    · simp [h2, show ¬ i - n * 32 < 32 * m from by omega]
/-- A row of the call's own that holds n digests, as a slice. -/
theorem hs_of {w : World} {q T : Nat} {V : Value} {n : Nat} {f : Nat → Hx} (h : w.ownsRow q T 32 V n (flat n f)) :
    ∃ a c, V = .slice a n c ∧ IsHs w a n f ∧ (a = none → n = 0 ∧ c = 0) ∧ n ≤ c ∧ c ≤ maxLen ∧ (∀ x, a = some x → x.block < w.heap.size) := by
  obtain ⟨h0, h1⟩ := h
  rcases h1 with ⟨rfl, e⟩ | ⟨g, cap, cur, rfl, hg, hc, hnc, hm, hs, ht⟩
  · have hn : n = 0 := by have := flat_len n f; rw [e] at this; simp at this; omega
    subst hn
    exact ⟨none, 0, rfl, .inl rfl, fun _ => ⟨rfl, rfl⟩, by omega, by decide, fun x hx => by cases hx⟩
  · refine ⟨_, cap, rfl, .inr ⟨g, 0, rfl, fun k j hk hj => ?_⟩, fun h => (by cases h), by omega, hm, fun x hx => by injection hx with hx; subst hx; exact (Array.getElem?_eq_some_iff.1 hc).1⟩
    have e1 : (cur.toList.take (n * 32))[32 * k + j]? = (flat n f)[32 * k + j]? := by rw [ht]
    rw [List.getElem?_take, if_pos (by omega), flat_at hk hj] at e1
    rw [Nat.zero_add, cell_of_row w g (32 * k + j) _ _ _ hc]
    simpa using e1
end Mk
end Go.Proofs.YtcgpdijpppcbiaaGreatDoor
namespace Go.Proofs.YtcgpdijpppcbiaaGreatDoor
open Go.RowKit
set_option linter.unusedVariables false
set_option linter.unusedSimpArgs false
namespace Ir
open Kc
def ValC (pv sv : Value) (prog : List Fn) (D : Nat → Prop) (val : Int → Nat → Ef → (Nat → Nat) → Rs → Option (Nat × Bool × Rs)) : Prop :=
  ∀ (op : Int) (n : Nat) (kids : Ef) (L : Nat → Nat) (s : Rs) (v : Nat) (ok : Bool) (s' : Rs), val op n kids L s = some (v, ok, s') →
  ∀ (w : World) (r f fv : Nat) (V : Value), IsRun w r pv sv s → IsFr w f L fv → SlP w D pv prog → SlE w D V kids → n < 18446744073709551616 → (∀ k, D k → k < w.heap.size ∧ k ≠ r ∧ k ≠ f) → r ≠ f →
  Calls Tryz.prog 74 #[.pointer (some ⟨r, 0, none⟩), .pointer (some ⟨f, 0, none⟩), .agg #[.int .i64 op, .int .u64 n, V]] w fun e w' => e = .returned (.tuple #[.int .u64 v, .bool ok]) ∧ v < 18446744073709551616 ∧ IsRun w' r pv sv s' ∧ Kept (fun k => k = r) w w'
def LstC (pv sv : Value) (prog : List Fn) (D : Nat → Prop) (lst : Sf → (Nat → Nat) → Nat → Rs → Option (Nat × (Nat → Nat) × Nat × Rs)) : Prop :=
  ∀ (x : Sf) (L : Nat → Nat) (v : Nat) (s : Rs) (way : Nat) (L' : Nat → Nat) (v' : Nat) (s' : Rs), lst x L v s = some (way, L', v', s') →
  ∀ (w : World) (r f : Nat) (V : Value), IsRun w r pv sv s → IsFr w f L v → SlP w D pv prog → SlS w D V x → (∀ k, D k → k < w.heap.size ∧ k ≠ r ∧ k ≠ f) → r ≠ f →
  Calls Tryz.prog 54 #[.pointer (some ⟨r, 0, none⟩), .pointer (some ⟨f, 0, none⟩), V] w fun e w' => e = .returned (.int .i64 way) ∧ way < 3 ∧ IsRun w' r pv sv s' ∧ IsFr w' f L' v' ∧ Kept (fun k => k = r ∨ k = f) w w'
theorem undX : Tryz.prog.underlying 30 = some (.struct (Tryz.prog.fieldsOf 30)) := by kernel_rfl
theorem infX : (Tryz.prog.info? 30).map (·.size) = some 3 := by kernel_rfl
theorem undT : Tryz.prog.underlying 35 = some (.struct (Tryz.prog.fieldsOf 35)) := by kernel_rfl
theorem infT : (Tryz.prog.info? 35).map (·.size) = some 10 := by kernel_rfl
theorem loadX {w : World} {b o : Nat} {l0 l1 l2 : Value} (h0 : w.cell? ⟨b, o, none⟩ = some l0) (h1 : w.cell? ⟨b, o + 1, none⟩ = some l1) (h2 : w.cell? ⟨b, o + 2, none⟩ = some l2) : (Instr.loadAt 30 (.pointer (some ⟨b, o, none⟩))).run Tryz.prog w = .ok (.agg #[l0, l1, l2]) w := by
  refine run_loadAt_mid w b o _ [l0, l1, l2] _ (fun i v hv => ?_) undX rfl (by rw [infX]; rfl)
  match i, hv with
  | 0, hv => cases hv; exact h0
  | 1, hv => cases hv; exact h1
  | 2, hv => cases hv; exact h2
  | i + 3, hv => simp at hv
theorem loadT {w : World} {b o : Nat} {l0 l1 l2 l3 l4 l5 l6 l7 l8 l9 : Value} (h0 : w.cell? ⟨b, o, none⟩ = some l0) (h1 : w.cell? ⟨b, o + 1, none⟩ = some l1) (h2 : w.cell? ⟨b, o + 2, none⟩ = some l2) (h3 : w.cell? ⟨b, o + 3, none⟩ = some l3) (h4 : w.cell? ⟨b, o + 4, none⟩ = some l4)
    (h5 : w.cell? ⟨b, o + 5, none⟩ = some l5) (h6 : w.cell? ⟨b, o + 6, none⟩ = some l6) (h7 : w.cell? ⟨b, o + 7, none⟩ = some l7) (h8 : w.cell? ⟨b, o + 8, none⟩ = some l8) (h9 : w.cell? ⟨b, o + 9, none⟩ = some l9) :
    (Instr.loadAt 35 (.pointer (some ⟨b, o, none⟩))).run Tryz.prog w = .ok (.agg #[l0, l1, l2, l3, l4, l5, l6, l7, l8, l9]) w := by
  refine run_loadAt_mid w b o _ [l0, l1, l2, l3, l4, l5, l6, l7, l8, l9] _ (fun i v hv => ?_) undT rfl (by rw [infT]; rfl)
  match i, hv with
  | 0, hv => cases hv; exact h0
  | 1, hv => cases hv; exact h1
  | 2, hv => cases hv; exact h2
  | 3, hv => cases hv; exact h3
  | 4, hv => cases hv; exact h4
  | 5, hv => cases hv; exact h5
  | 6, hv => cases hv; exact h6
  | 7, hv => cases hv; exact h7
  | 8, hv => cases hv; exact h8
  | 9, hv => cases hv; exact h9
  | i + 10, hv => simp at hv
/-- A block of an expression, or of a statement, of its own. -/
theorem xc {w : World} {l : Array Value} {T : Nat} (i : Nat) (v : Value) (h : l[i]? = some v) : (w.alloc (.cells l T)).cell? ⟨w.heap.size, i, none⟩ = some v := by
  rw [cell_of_row _ _ i _ _ _ (heap_alloc_new w _)]; simpa using h
/-- An expression of its own. -/
structure Bx (w : World) (q : Nat) (l0 l1 l2 : Value) : Prop where
  c0 : w.cell? ⟨q, 0, none⟩ = some l0
  c1 : w.cell? ⟨q, 1, none⟩ = some l1
  c2 : w.cell? ⟨q, 2, none⟩ = some l2
theorem Bx.new (w : World) (l0 l1 l2 : Value) (T : Nat) : Bx (w.alloc (.cells #[l0, l1, l2] T)) w.heap.size l0 l1 l2 := ⟨xc 0 _ rfl, xc 1 _ rfl, xc 2 _ rfl⟩
theorem Bx.kept {w w' : World} {q : Nat} {l0 l1 l2 : Value} {S : Nat → Prop} (h : Bx w q l0 l1 l2) (hk : Kept S w w') (hn : ¬ S q) : Bx w' q l0 l1 l2 := ⟨hk.cell hn h.c0, hk.cell hn h.c1, hk.cell hn h.c2⟩
theorem Bx.load {w : World} {q : Nat} {l0 l1 l2 : Value} (h : Bx w q l0 l1 l2) : (Instr.loadAt 30 (.pointer (some ⟨q, 0, none⟩))).run Tryz.prog w = .ok (.agg #[l0, l1, l2]) w := loadX h.c0 h.c1 h.c2
/-- A statement of its own. -/
structure Bt10 (w : World) (q : Nat) (l0 l1 l2 l3 l4 l5 l6 l7 l8 l9 : Value) : Prop where
  c0 : w.cell? ⟨q, 0, none⟩ = some l0
  c1 : w.cell? ⟨q, 1, none⟩ = some l1
  c2 : w.cell? ⟨q, 2, none⟩ = some l2
  c3 : w.cell? ⟨q, 3, none⟩ = some l3
  c4 : w.cell? ⟨q, 4, none⟩ = some l4
  c5 : w.cell? ⟨q, 5, none⟩ = some l5
  c6 : w.cell? ⟨q, 6, none⟩ = some l6
  c7 : w.cell? ⟨q, 7, none⟩ = some l7
  c8 : w.cell? ⟨q, 8, none⟩ = some l8
  c9 : w.cell? ⟨q, 9, none⟩ = some l9
theorem Bt10.new (w : World) (l0 l1 l2 l3 l4 l5 l6 l7 l8 l9 : Value) (T : Nat) : Bt10 (w.alloc (.cells #[l0, l1, l2, l3, l4, l5, l6, l7, l8, l9] T)) w.heap.size l0 l1 l2 l3 l4 l5 l6 l7 l8 l9 := ⟨xc 0 _ rfl, xc 1 _ rfl, xc 2 _ rfl, xc 3 _ rfl, xc 4 _ rfl, xc 5 _ rfl, xc 6 _ rfl, xc 7 _ rfl, xc 8 _ rfl, xc 9 _ rfl⟩
section
variable {w w' : World} {q : Nat} {l0 l1 l2 l3 l4 l5 l6 l7 l8 l9 : Value} {S : Nat → Prop}
theorem Bt10.kept (h : Bt10 w q l0 l1 l2 l3 l4 l5 l6 l7 l8 l9) (hk : Kept S w w') (hn : ¬ S q) : Bt10 w' q l0 l1 l2 l3 l4 l5 l6 l7 l8 l9 :=
  ⟨hk.cell hn h.c0, hk.cell hn h.c1, hk.cell hn h.c2, hk.cell hn h.c3, hk.cell hn h.c4, hk.cell hn h.c5, hk.cell hn h.c6, hk.cell hn h.c7, hk.cell hn h.c8, hk.cell hn h.c9⟩
theorem Bt10.load (h : Bt10 w q l0 l1 l2 l3 l4 l5 l6 l7 l8 l9) : (Instr.loadAt 35 (.pointer (some ⟨q, 0, none⟩))).run Tryz.prog w = .ok (.agg #[l0, l1, l2, l3, l4, l5, l6, l7, l8, l9]) w := loadT h.c0 h.c1 h.c2 h.c3 h.c4 h.c5 h.c6 h.c7 h.c8 h.c9
theorem Bt10.loadA (h : Bt10 w q l0 l1 l2 l3 l4 l5 l6 l7 l8 l9) : (Instr.loadAt 30 (.pointer (some ⟨q, 2, none⟩))).run Tryz.prog w = .ok (.agg #[l2, l3, l4]) w := loadX h.c2 h.c3 h.c4
theorem Bt10.loadB (h : Bt10 w q l0 l1 l2 l3 l4 l5 l6 l7 l8 l9) : (Instr.loadAt 30 (.pointer (some ⟨q, 5, none⟩))).run Tryz.prog w = .ok (.agg #[l5, l6, l7]) w := loadX h.c5 h.c6 h.c7
end
section
variable {pv sv : Value} {prog : List Fn} {D : Nat → Prop}
set_option maxHeartbeats 2000000 in
set_option maxRecDepth 100000 in
theorem store_walk (val : Int → Nat → Ef → (Nat → Nat) → Rs → Option (Nat × Bool × Rs)) (hV : ValC pv sv prog D val) (bo : Int) (bn : Nat) (bk : Ef) (L : Nat → Nat) (s : Rs) (x : Nat) (ok : Bool) (s' : Rs) (hv : val bo bn bk L s = some (x, ok, s'))
    (w : World) (r f fv a : Nat) (V : Value) (hr : IsRun w r pv sv s) (hf : IsFr w f L fv) (hp : SlP w D pv prog) (hk : SlE w D V bk) (hn : bn < 18446744073709551616) (hD : ∀ k, D k → k < w.heap.size ∧ k ≠ r ∧ k ≠ f) (hrf : r ≠ f) (ha : a < 18446744073709551616) (way : Nat) (s2 : Rs) (hres : (if ok = true then if a < 2048 then (0, s'.put a x) else (2, s'.ends wrong) else (2, s')) = (way, s2)) :
    Calls Tryz.prog 75 #[.pointer (some ⟨r, 0, none⟩), .pointer (some ⟨f, 0, none⟩), .int .u64 a, .agg #[.int .i64 bo, .int .u64 bn, V]] w fun e w' => e = .returned (.int .i64 way) ∧ IsRun w' r pv sv s2 ∧ Kept (fun k => k = r) w w' := by
  have hk0 : Kept (fun _ => False) w (w.alloc (.cells #[.int .i64 bo, .int .u64 bn, V] 30)) := (Kept.refl _ w).alloc _
  have HL := Lib.hid (Bx.new w (.int .i64 bo) (.int .u64 bn) V 30).load
  have HC := Lib.hid (hV bo bn bk L s x ok s' hv (w.alloc (.cells #[.int .i64 bo, .int .u64 bn, V] 30)) r f fv V (hr.kept hk0 id) (hf.kept hk0 id) (hp.kept hk0 fun _ _ => id) (hk.kept hk0 fun _ _ => id) hn (fun k h => ⟨Nat.lt_of_lt_of_le (hD k h).1 hk0.size, (hD k h).2⟩) hrf)
  have HK0 := Lib.hid hk0
  have HA := Lib.hid ha
  clear hk0 hr hf hp hk hD hV hv ha
  go_enter Tryz.func75, Tryz.ntmps75
  go_upto_region 1 with (fail)
  generalize w.alloc (.cells #[.int .i64 bo, .int .u64 bn, V] 30) = y0 at *
  generalize w.heap.size = q at *
  go_upto_region 2 with (first
    | ((with_reducible refine wpList_loadE (P := Tryz.prog) (w := y0) (ty := 30) (x := .tmp 7) (p := .pointer (some ⟨q, 0, none⟩)) (v := .agg #[.int .i64 bo, .int .u64 bn, V]) ?_ ?_ ?_ HL.out ?_); (· exact rfl); (· exact rfl); (· exact rfl))
    | (go_at_call 74; (with_reducible refine HC.out.mono ?_); rintro e y1 ⟨he, hx, hr1, hk1⟩; obtain rfl : e = _ := he; have H1 := Lib.hid (And.intro hx (And.intro hr1 hk1)); clear hx hr1 hk1 HC))
  have HRS := Lib.hid hres
  clear hres
  cases ok with
  | false =>
    obtain ⟨rfl, rfl⟩ : way = 2 ∧ s2 = s' := by have := HRS.out; simp at this; exact ⟨this.1.symm, this.2.symm⟩
    go_wp2_with (fail)
    exact bodyPost_ret (v := .int .i64 2) (by simp [results, Tryz.results75, go_sem]) rfl ⟨rfl, H1.out.2.1, Kept.after HK0.out H1.out.2.2⟩
  | true =>
    by_cases hlt : a < 2048
    · obtain ⟨rfl, rfl⟩ : way = 0 ∧ s2 = s'.put a x := by have := HRS.out; simp [hlt] at this; exact ⟨this.1.symm, this.2.symm⟩
      have t1 : decide (2048 ≤ (a : Int)) = false := by simp; omega
      have ha0 : (a : Int) < 2048 := by omega
      have ka := H1.out.2.1.m hlt
      have fa := H1.out.2.1.fz (2 + a)
      have HS := Lib.hid (H1.out.2.1.setMem hlt H1.out.1)
      have HKS := Lib.hid (kept_one (S := fun k => k = r) H1.out.2.2 r (2 + a) (.inl rfl) (.int .u64 x))
      clear hlt
      go_wp2_with (fail)
      exact bodyPost_ret (v := .int .i64 0) (by simp [results, Tryz.results75, go_sem]) rfl ⟨rfl, HS.out, Kept.after HK0.out HKS.out⟩
    · obtain ⟨rfl, rfl⟩ : way = 2 ∧ s2 = s'.ends wrong := by have := HRS.out; simp [hlt] at this; exact ⟨this.1.symm, this.2.symm⟩
      have t1 : decide (2048 ≤ (a : Int)) = true := by simp; omega
      have HE := Lib.hid (end_wrong y1 r pv sv s' H1.out.2.1)
      clear hlt
      go_wp2_with (go_at_call 76; (with_reducible refine HE.out.mono ?_); rintro e y2 ⟨he, hr2, hk2⟩; obtain rfl : e = _ := he; have H2 := Lib.hid (And.intro hr2 hk2); clear hr2 hk2 HE)
      exact bodyPost_ret (v := .int .i64 2) (by simp [results, Tryz.results75, go_sem]) rfl ⟨rfl, H2.out.1, Kept.after HK0.out (H1.out.2.2.trans H2.out.2 fun _ _ h => h)⟩
end
end Ir
end Go.Proofs.YtcgpdijpppcbiaaGreatDoor
