/- Merged of Kperm Pis Ms Za. Own work. -/
import Derived.Test.YtbenjgncbpafbaaGreatDoorP04
import Derived.Test.YtbenjgncbpafbaaGreatDoorP02
import Derived.StillTailTactics
import Derived.RegionTactic
import Derived.BigRegion
import Derived.BigQuiet
import Derived.Deep.QuietTactic
import Derived.IntWalk
import Derived.DeepKeys4
import Derived.Maps.Keyed
import Derived.Carry
namespace Go.Proofs.YtbenjgncbpafbaaGreatDoor
open Go.RowKit
set_option linter.unusedVariables false
namespace Kc
theorem rnds_succ (a : Nat → Wd64) (n : Nat) (h : n < 24) : rnds a (n + 1) = rnd (consts.getD n 0#64) (rnds a n) := by
  have hl : n < consts.length := h
  unfold rnds
  rw [List.take_succ_eq_append_getElem hl, List.foldl_append, List.getD_eq_getElem?_getD, List.getElem?_eq_getElem hl]
  rfl
set_option maxHeartbeats 40000000 in
set_option maxRecDepth 100000 in
theorem perm_walk (a : Nat → Wd64) (w : World) (ht : Laid.KTab w) :
    Calls Tryz.prog 89 #[.agg (arr a)] w fun e w' => e = .returned (.agg (arr (perm a))) ∧ Below w.heap.size w w' := by
  have HT := Lib.hid ht
  clear ht
  go_enter Tryz.func89, Tryz.ntmps89
  go_upto_region 1 with (fail)
  have hp : Pm w w.heap.size (w.heap.size + 1) ((w.alloc (.cells (arr a) 145)).alloc (.cells #[.int .u64 0, .int .u64 0, .int .u64 0, .int .u64 0, .int .u64 0, .int .u64 0, .int .u64 0, .int .u64 0, .int .u64 0, .int .u64 0, .int .u64 0, .int .u64 0, .int .u64 0, .int .u64 0, .int .u64 0, .int .u64 0, .int .u64 0, .int .u64 0, .int .u64 0, .int .u64 0, .int .u64 0, .int .u64 0, .int .u64 0, .int .u64 0, .int .u64 0] 145)).heap.size a (fun _ => 0#64) (((w.alloc (.cells (arr a) 145)).alloc (.cells #[.int .u64 0, .int .u64 0, .int .u64 0, .int .u64 0, .int .u64 0, .int .u64 0, .int .u64 0, .int .u64 0, .int .u64 0, .int .u64 0, .int .u64 0, .int .u64 0, .int .u64 0, .int .u64 0, .int .u64 0, .int .u64 0, .int .u64 0, .int .u64 0, .int .u64 0, .int .u64 0, .int .u64 0, .int .u64 0, .int .u64 0, .int .u64 0, .int .u64 0] 145)).alloc (.cells #[.int .u64 0, .int .u64 0, .int .u64 0, .int .u64 0, .int .u64 0, .int .u64 0, .int .u64 0, .int .u64 0, .int .u64 0, .int .u64 0, .int .u64 0, .int .u64 0, .int .u64 0, .int .u64 0, .int .u64 0, .int .u64 0, .int .u64 0, .int .u64 0, .int .u64 0, .int .u64 0, .int .u64 0, .int .u64 0, .int .u64 0, .int .u64 0, .int .u64 0] 145)) := by
    rw [← arr_zero]
    have e1 : (w.alloc (.cells (arr a) 145)).heap.size = w.heap.size + 1 := by simp
    have e2 : ((w.alloc (.cells (arr a) 145)).alloc (.cells (arr fun _ => 0#64) 145)).heap.size = w.heap.size + 1 + 1 := by simp
    refine ⟨st_old (st_old (st_new w a) _) _, ?_, st_new _ _, by omega, by omega, by omega, Nat.le_refl _, by omega, by omega, (((Below.refl _ _).alloc (Nat.le_refl _) _).alloc (by simp) _).alloc (by simp; omega) _⟩
    have := st_new (w.alloc (.cells (arr a) 145)) (fun _ => 0#64)
    rw [e1] at this
    exact st_old this _
  have HP := Lib.hid hp
  clear hp
  generalize (w.alloc (.cells (arr a) 145)).alloc (.cells #[.int .u64 0, .int .u64 0, .int .u64 0, .int .u64 0, .int .u64 0, .int .u64 0, .int .u64 0, .int .u64 0, .int .u64 0, .int .u64 0, .int .u64 0, .int .u64 0, .int .u64 0, .int .u64 0, .int .u64 0, .int .u64 0, .int .u64 0, .int .u64 0, .int .u64 0, .int .u64 0, .int .u64 0, .int .u64 0, .int .u64 0, .int .u64 0, .int .u64 0] 145) = w1 at *
  generalize w.heap.size + 1 = q1 at *
  go_wp2_with ((refine wpList_store_row rfl 145 (.tmp 3) (.tmp 21) rfl w1.heap.size #[.int .u64 0, .int .u64 0, .int .u64 0, .int .u64 0, .int .u64 0, .int .u64 0, .int .u64 0, .int .u64 0, .int .u64 0, .int .u64 0, .int .u64 0, .int .u64 0, .int .u64 0, .int .u64 0, .int .u64 0, .int .u64 0, .int .u64 0, .int .u64 0, .int .u64 0, .int .u64 0, .int .u64 0, .int .u64 0, .int .u64 0, .int .u64 0, .int .u64 0] ?c2 ?c3 145 #[.int .u64 0, .int .u64 0, .int .u64 0, .int .u64 0, .int .u64 0, .int .u64 0, .int .u64 0, .int .u64 0, .int .u64 0, .int .u64 0, .int .u64 0, .int .u64 0, .int .u64 0, .int .u64 0, .int .u64 0, .int .u64 0, .int .u64 0, .int .u64 0, .int .u64 0, .int .u64 0, .int .u64 0, .int .u64 0, .int .u64 0, .int .u64 0, .int .u64 0] (heap_alloc_last w1 _) zInfo rfl zOne ?_))
  case c2 => rfl
  case c3 => rfl
  rw [World.setRow_alloc_new]
  generalize w1.alloc (.cells #[.int .u64 0, .int .u64 0, .int .u64 0, .int .u64 0, .int .u64 0, .int .u64 0, .int .u64 0, .int .u64 0, .int .u64 0, .int .u64 0, .int .u64 0, .int .u64 0, .int .u64 0, .int .u64 0, .int .u64 0, .int .u64 0, .int .u64 0, .int .u64 0, .int .u64 0, .int .u64 0, .int .u64 0, .int .u64 0, .int .u64 0, .int .u64 0, .int .u64 0] 145) = w2 at *
  generalize w1.heap.size = q2 at *
  go_loopw [22] (fun i y => ∃ (n : Nat) (b : Nat → Wd64), n ≤ 24 ∧ i = .int .i64 n ∧ Pm w w.heap.size q1 q2 (rnds a n) b y) (fun i _ => 24 - (intOf i).toNat)
  case atStart => exact ⟨0, _, by decide, rfl, HP.out⟩
  case round =>
    obtain ⟨n, b, hn, rfl, hp⟩ := hrel
    obtain ⟨c, hc⟩ : ∃ c, c = rnds a n := ⟨_, rfl⟩
    rw [← hc] at hp
    have HC := Lib.hid hc
    clear hc
    generalize w.heap.size = q0 at *
    have xr := W_xor
    have HPP := Lib.hid hp
    clear hp
    by_cases hlt : (n : Int) < 24
    · have hp := HPP.out
      have a0 := hp.sa.cell 0 (by decide)
      have a1 := hp.sa.cell 1 (by decide)
      have a2 := hp.sa.cell 2 (by decide)
      have a3 := hp.sa.cell 3 (by decide)
      have a4 := hp.sa.cell 4 (by decide)
      have a5 := hp.sa.cell 5 (by decide)
      have a6 := hp.sa.cell 6 (by decide)
      have a7 := hp.sa.cell 7 (by decide)
      have a8 := hp.sa.cell 8 (by decide)
      have a9 := hp.sa.cell 9 (by decide)
      have a10 := hp.sa.cell 10 (by decide)
      have a11 := hp.sa.cell 11 (by decide)
      have a12 := hp.sa.cell 12 (by decide)
      have a13 := hp.sa.cell 13 (by decide)
      have a14 := hp.sa.cell 14 (by decide)
      have a15 := hp.sa.cell 15 (by decide)
      have a16 := hp.sa.cell 16 (by decide)
      have a17 := hp.sa.cell 17 (by decide)
      have a18 := hp.sa.cell 18 (by decide)
      have a19 := hp.sa.cell 19 (by decide)
      have a20 := hp.sa.cell 20 (by decide)
      have a21 := hp.sa.cell 21 (by decide)
      have a22 := hp.sa.cell 22 (by decide)
      have a23 := hp.sa.cell 23 (by decide)
      have a24 := hp.sa.cell 24 (by decide)
      clear hp
      go_upto_region 10 with (fail)
      clear a0 a1 a2 a3 a4 a5 a6 a7 a8 a9 a10 a11 a12 a13 a14 a15 a16 a17 a18 a19 a20 a21 a22 a23 a24
      generalize hpar0 : (c 0 ^^^ c 5 ^^^ c 10 ^^^ c 15 ^^^ c 20 : Wd64) = p0
      have hq0 : p0 = par c 0 := hpar0.symm
      clear hpar0
      subst hq0
      generalize hpar1 : (c 1 ^^^ c 6 ^^^ c 11 ^^^ c 16 ^^^ c 21 : Wd64) = p1
      have hq1 : p1 = par c 1 := hpar1.symm
      clear hpar1
      subst hq1
      generalize hpar2 : (c 2 ^^^ c 7 ^^^ c 12 ^^^ c 17 ^^^ c 22 : Wd64) = p2
      have hq2 : p2 = par c 2 := hpar2.symm
      clear hpar2
      subst hq2
      generalize hpar3 : (c 3 ^^^ c 8 ^^^ c 13 ^^^ c 18 ^^^ c 23 : Wd64) = p3
      have hq3 : p3 = par c 3 := hpar3.symm
      clear hpar3
      subst hq3
      generalize hpar4 : (c 4 ^^^ c 9 ^^^ c 14 ^^^ c 19 ^^^ c 24 : Wd64) = p4
      have hq4 : p4 = par c 4 := hpar4.symm
      clear hpar4
      subst hq4
      go_wp2_with fail
      refine (rot_at (par c 1) 1 1 rfl (by decide) (by decide) _).mono ?_
      rintro e w' ⟨rfl, rfl⟩
      go_wp2_with fail
      refine (rot_at (par c 2) 1 1 rfl (by decide) (by decide) _).mono ?_
      rintro e w' ⟨rfl, rfl⟩
      go_wp2_with fail
      refine (rot_at (par c 3) 1 1 rfl (by decide) (by decide) _).mono ?_
      rintro e w' ⟨rfl, rfl⟩
      go_wp2_with fail
      refine (rot_at (par c 4) 1 1 rfl (by decide) (by decide) _).mono ?_
      rintro e w' ⟨rfl, rfl⟩
      go_wp2_with fail
      refine (rot_at (par c 0) 1 1 rfl (by decide) (by decide) _).mono ?_
      rintro e w' ⟨rfl, rfl⟩
      go_upto_region 15 with (fail)
      generalize hdd0 : (par c 4 ^^^ rotl (par c 1) 1 : Wd64) = e0
      have hf0 : e0 = dd c 0 := hdd0.symm
      clear hdd0
      subst hf0
      generalize hdd1 : (par c 0 ^^^ rotl (par c 2) 1 : Wd64) = e1
      have hf1 : e1 = dd c 1 := hdd1.symm
      clear hdd1
      subst hf1
      generalize hdd2 : (par c 1 ^^^ rotl (par c 3) 1 : Wd64) = e2
      have hf2 : e2 = dd c 2 := hdd2.symm
      clear hdd2
      subst hf2
      generalize hdd3 : (par c 2 ^^^ rotl (par c 4) 1 : Wd64) = e3
      have hf3 : e3 = dd c 3 := hdd3.symm
      clear hdd3
      subst hf3
      generalize hdd4 : (par c 3 ^^^ rotl (par c 0) 1 : Wd64) = e4
      have hf4 : e4 = dd c 4 := hdd4.symm
      clear hdd4
      subst hf4
      have ai := HPP.out.sa.cell 0 (by decide)
      have sj := HPP.out.sb.cell 0 (by decide)
      have fj := HPP.out.sb.fz 0
      go_upto_region 16 with (fail)
      have hp2 := HPP.out.setB 0 (c 0 ^^^ dd c 0)
      clear HPP ai sj fj
      have HPP := Lib.hid hp2
      clear hp2
      generalize World.setCell wr ⟨q2, 0, none⟩ (.int .u64 (W (c 0 ^^^ dd c 0))) = y1 at *
      have ai := HPP.out.sa.cell 1 (by decide)
      have sj := HPP.out.sb.cell 10 (by decide)
      have fj := HPP.out.sb.fz 10
      go_wp2_with fail
      refine (rot_at (c 1 ^^^ dd c 1) 1 1 rfl (by decide) (by decide) _).mono ?_
      rintro e w' ⟨rfl, rfl⟩
      go_upto_region 17 with (fail)
      have hp2 := HPP.out.setB 10 (rotl (c 1 ^^^ dd c 1) 1)
      clear HPP ai sj fj
      have HPP := Lib.hid hp2
      clear hp2
      generalize World.setCell y1 ⟨q2, 10, none⟩ (.int .u64 (W (rotl (c 1 ^^^ dd c 1) 1))) = y2 at *
      have ai := HPP.out.sa.cell 2 (by decide)
      have sj := HPP.out.sb.cell 20 (by decide)
      have fj := HPP.out.sb.fz 20
      go_wp2_with fail
      refine (rot_at (c 2 ^^^ dd c 2) 62 62 rfl (by decide) (by decide) _).mono ?_
      rintro e w' ⟨rfl, rfl⟩
      go_upto_region 18 with (fail)
      have hp2 := HPP.out.setB 20 (rotl (c 2 ^^^ dd c 2) 62)
      clear HPP ai sj fj
      have HPP := Lib.hid hp2
      clear hp2
      generalize World.setCell y2 ⟨q2, 20, none⟩ (.int .u64 (W (rotl (c 2 ^^^ dd c 2) 62))) = y3 at *
      have ai := HPP.out.sa.cell 3 (by decide)
      have sj := HPP.out.sb.cell 5 (by decide)
      have fj := HPP.out.sb.fz 5
      go_wp2_with fail
      refine (rot_at (c 3 ^^^ dd c 3) 28 28 rfl (by decide) (by decide) _).mono ?_
      rintro e w' ⟨rfl, rfl⟩
      go_upto_region 19 with (fail)
      have hp2 := HPP.out.setB 5 (rotl (c 3 ^^^ dd c 3) 28)
      clear HPP ai sj fj
      have HPP := Lib.hid hp2
      clear hp2
      generalize World.setCell y3 ⟨q2, 5, none⟩ (.int .u64 (W (rotl (c 3 ^^^ dd c 3) 28))) = y4 at *
      have ai := HPP.out.sa.cell 4 (by decide)
      have sj := HPP.out.sb.cell 15 (by decide)
      have fj := HPP.out.sb.fz 15
      go_wp2_with fail
      refine (rot_at (c 4 ^^^ dd c 4) 27 27 rfl (by decide) (by decide) _).mono ?_
      rintro e w' ⟨rfl, rfl⟩
      go_upto_region 20 with (fail)
      have hp2 := HPP.out.setB 15 (rotl (c 4 ^^^ dd c 4) 27)
      clear HPP ai sj fj
      have HPP := Lib.hid hp2
      clear hp2
      generalize World.setCell y4 ⟨q2, 15, none⟩ (.int .u64 (W (rotl (c 4 ^^^ dd c 4) 27))) = y5 at *
      have ai := HPP.out.sa.cell 5 (by decide)
      have sj := HPP.out.sb.cell 16 (by decide)
      have fj := HPP.out.sb.fz 16
      go_wp2_with fail
      refine (rot_at (c 5 ^^^ dd c 0) 36 36 rfl (by decide) (by decide) _).mono ?_
      rintro e w' ⟨rfl, rfl⟩
      go_upto_region 21 with (fail)
      have hp2 := HPP.out.setB 16 (rotl (c 5 ^^^ dd c 0) 36)
      clear HPP ai sj fj
      have HPP := Lib.hid hp2
      clear hp2
      generalize World.setCell y5 ⟨q2, 16, none⟩ (.int .u64 (W (rotl (c 5 ^^^ dd c 0) 36))) = y6 at *
      have ai := HPP.out.sa.cell 6 (by decide)
      have sj := HPP.out.sb.cell 1 (by decide)
      have fj := HPP.out.sb.fz 1
      go_wp2_with fail
      refine (rot_at (c 6 ^^^ dd c 1) 44 44 rfl (by decide) (by decide) _).mono ?_
      rintro e w' ⟨rfl, rfl⟩
      go_upto_region 22 with (fail)
      have hp2 := HPP.out.setB 1 (rotl (c 6 ^^^ dd c 1) 44)
      clear HPP ai sj fj
      have HPP := Lib.hid hp2
      clear hp2
      generalize World.setCell y6 ⟨q2, 1, none⟩ (.int .u64 (W (rotl (c 6 ^^^ dd c 1) 44))) = y7 at *
      have ai := HPP.out.sa.cell 7 (by decide)
      have sj := HPP.out.sb.cell 11 (by decide)
      have fj := HPP.out.sb.fz 11
      go_wp2_with fail
      refine (rot_at (c 7 ^^^ dd c 2) 6 6 rfl (by decide) (by decide) _).mono ?_
      rintro e w' ⟨rfl, rfl⟩
      go_upto_region 23 with (fail)
      have hp2 := HPP.out.setB 11 (rotl (c 7 ^^^ dd c 2) 6)
      clear HPP ai sj fj
      have HPP := Lib.hid hp2
      clear hp2
      generalize World.setCell y7 ⟨q2, 11, none⟩ (.int .u64 (W (rotl (c 7 ^^^ dd c 2) 6))) = y8 at *
      have ai := HPP.out.sa.cell 8 (by decide)
      have sj := HPP.out.sb.cell 21 (by decide)
      have fj := HPP.out.sb.fz 21
      go_wp2_with fail
      refine (rot_at (c 8 ^^^ dd c 3) 55 55 rfl (by decide) (by decide) _).mono ?_
      rintro e w' ⟨rfl, rfl⟩
      go_upto_region 24 with (fail)
      have hp2 := HPP.out.setB 21 (rotl (c 8 ^^^ dd c 3) 55)
      clear HPP ai sj fj
      have HPP := Lib.hid hp2
      clear hp2
      generalize World.setCell y8 ⟨q2, 21, none⟩ (.int .u64 (W (rotl (c 8 ^^^ dd c 3) 55))) = y9 at *
      have ai := HPP.out.sa.cell 9 (by decide)
      have sj := HPP.out.sb.cell 6 (by decide)
      have fj := HPP.out.sb.fz 6
      go_wp2_with fail
      refine (rot_at (c 9 ^^^ dd c 4) 20 20 rfl (by decide) (by decide) _).mono ?_
      rintro e w' ⟨rfl, rfl⟩
      go_upto_region 25 with (fail)
      have hp2 := HPP.out.setB 6 (rotl (c 9 ^^^ dd c 4) 20)
      clear HPP ai sj fj
      have HPP := Lib.hid hp2
      clear hp2
      generalize World.setCell y9 ⟨q2, 6, none⟩ (.int .u64 (W (rotl (c 9 ^^^ dd c 4) 20))) = y10 at *
      have ai := HPP.out.sa.cell 10 (by decide)
      have sj := HPP.out.sb.cell 7 (by decide)
      have fj := HPP.out.sb.fz 7
      go_wp2_with fail
      refine (rot_at (c 10 ^^^ dd c 0) 3 3 rfl (by decide) (by decide) _).mono ?_
      rintro e w' ⟨rfl, rfl⟩
      go_upto_region 26 with (fail)
      have hp2 := HPP.out.setB 7 (rotl (c 10 ^^^ dd c 0) 3)
      clear HPP ai sj fj
      have HPP := Lib.hid hp2
      clear hp2
      generalize World.setCell y10 ⟨q2, 7, none⟩ (.int .u64 (W (rotl (c 10 ^^^ dd c 0) 3))) = y11 at *
      have ai := HPP.out.sa.cell 11 (by decide)
      have sj := HPP.out.sb.cell 17 (by decide)
      have fj := HPP.out.sb.fz 17
      go_wp2_with fail
      refine (rot_at (c 11 ^^^ dd c 1) 10 10 rfl (by decide) (by decide) _).mono ?_
      rintro e w' ⟨rfl, rfl⟩
      go_upto_region 27 with (fail)
      have hp2 := HPP.out.setB 17 (rotl (c 11 ^^^ dd c 1) 10)
      clear HPP ai sj fj
      have HPP := Lib.hid hp2
      clear hp2
      generalize World.setCell y11 ⟨q2, 17, none⟩ (.int .u64 (W (rotl (c 11 ^^^ dd c 1) 10))) = y12 at *
      have ai := HPP.out.sa.cell 12 (by decide)
      have sj := HPP.out.sb.cell 2 (by decide)
      have fj := HPP.out.sb.fz 2
      go_wp2_with fail
      refine (rot_at (c 12 ^^^ dd c 2) 43 43 rfl (by decide) (by decide) _).mono ?_
      rintro e w' ⟨rfl, rfl⟩
      go_upto_region 28 with (fail)
      have hp2 := HPP.out.setB 2 (rotl (c 12 ^^^ dd c 2) 43)
      clear HPP ai sj fj
      have HPP := Lib.hid hp2
      clear hp2
      generalize World.setCell y12 ⟨q2, 2, none⟩ (.int .u64 (W (rotl (c 12 ^^^ dd c 2) 43))) = y13 at *
      have ai := HPP.out.sa.cell 13 (by decide)
      have sj := HPP.out.sb.cell 12 (by decide)
      have fj := HPP.out.sb.fz 12
      go_wp2_with fail
      refine (rot_at (c 13 ^^^ dd c 3) 25 25 rfl (by decide) (by decide) _).mono ?_
      rintro e w' ⟨rfl, rfl⟩
      go_upto_region 29 with (fail)
      have hp2 := HPP.out.setB 12 (rotl (c 13 ^^^ dd c 3) 25)
      clear HPP ai sj fj
      have HPP := Lib.hid hp2
      clear hp2
      generalize World.setCell y13 ⟨q2, 12, none⟩ (.int .u64 (W (rotl (c 13 ^^^ dd c 3) 25))) = y14 at *
      have ai := HPP.out.sa.cell 14 (by decide)
      have sj := HPP.out.sb.cell 22 (by decide)
      have fj := HPP.out.sb.fz 22
      go_wp2_with fail
      refine (rot_at (c 14 ^^^ dd c 4) 39 39 rfl (by decide) (by decide) _).mono ?_
      rintro e w' ⟨rfl, rfl⟩
      go_upto_region 30 with (fail)
      have hp2 := HPP.out.setB 22 (rotl (c 14 ^^^ dd c 4) 39)
      clear HPP ai sj fj
      have HPP := Lib.hid hp2
      clear hp2
      generalize World.setCell y14 ⟨q2, 22, none⟩ (.int .u64 (W (rotl (c 14 ^^^ dd c 4) 39))) = y15 at *
      have ai := HPP.out.sa.cell 15 (by decide)
      have sj := HPP.out.sb.cell 23 (by decide)
      have fj := HPP.out.sb.fz 23
      go_wp2_with fail
      refine (rot_at (c 15 ^^^ dd c 0) 41 41 rfl (by decide) (by decide) _).mono ?_
      rintro e w' ⟨rfl, rfl⟩
      go_upto_region 31 with (fail)
      have hp2 := HPP.out.setB 23 (rotl (c 15 ^^^ dd c 0) 41)
      clear HPP ai sj fj
      have HPP := Lib.hid hp2
      clear hp2
      generalize World.setCell y15 ⟨q2, 23, none⟩ (.int .u64 (W (rotl (c 15 ^^^ dd c 0) 41))) = y16 at *
      have ai := HPP.out.sa.cell 16 (by decide)
      have sj := HPP.out.sb.cell 8 (by decide)
      have fj := HPP.out.sb.fz 8
      go_wp2_with fail
      refine (rot_at (c 16 ^^^ dd c 1) 45 45 rfl (by decide) (by decide) _).mono ?_
      rintro e w' ⟨rfl, rfl⟩
      go_upto_region 32 with (fail)
      have hp2 := HPP.out.setB 8 (rotl (c 16 ^^^ dd c 1) 45)
      clear HPP ai sj fj
      have HPP := Lib.hid hp2
      clear hp2
      generalize World.setCell y16 ⟨q2, 8, none⟩ (.int .u64 (W (rotl (c 16 ^^^ dd c 1) 45))) = y17 at *
      have ai := HPP.out.sa.cell 17 (by decide)
      have sj := HPP.out.sb.cell 18 (by decide)
      have fj := HPP.out.sb.fz 18
      go_wp2_with fail
      refine (rot_at (c 17 ^^^ dd c 2) 15 15 rfl (by decide) (by decide) _).mono ?_
      rintro e w' ⟨rfl, rfl⟩
      go_upto_region 33 with (fail)
      have hp2 := HPP.out.setB 18 (rotl (c 17 ^^^ dd c 2) 15)
      clear HPP ai sj fj
      have HPP := Lib.hid hp2
      clear hp2
      generalize World.setCell y17 ⟨q2, 18, none⟩ (.int .u64 (W (rotl (c 17 ^^^ dd c 2) 15))) = y18 at *
      have ai := HPP.out.sa.cell 18 (by decide)
      have sj := HPP.out.sb.cell 3 (by decide)
      have fj := HPP.out.sb.fz 3
      go_wp2_with fail
      refine (rot_at (c 18 ^^^ dd c 3) 21 21 rfl (by decide) (by decide) _).mono ?_
      rintro e w' ⟨rfl, rfl⟩
      go_upto_region 34 with (fail)
      have hp2 := HPP.out.setB 3 (rotl (c 18 ^^^ dd c 3) 21)
      clear HPP ai sj fj
      have HPP := Lib.hid hp2
      clear hp2
      generalize World.setCell y18 ⟨q2, 3, none⟩ (.int .u64 (W (rotl (c 18 ^^^ dd c 3) 21))) = y19 at *
      have ai := HPP.out.sa.cell 19 (by decide)
      have sj := HPP.out.sb.cell 13 (by decide)
      have fj := HPP.out.sb.fz 13
      go_wp2_with fail
      refine (rot_at (c 19 ^^^ dd c 4) 8 8 rfl (by decide) (by decide) _).mono ?_
      rintro e w' ⟨rfl, rfl⟩
      go_upto_region 35 with (fail)
      have hp2 := HPP.out.setB 13 (rotl (c 19 ^^^ dd c 4) 8)
      clear HPP ai sj fj
      have HPP := Lib.hid hp2
      clear hp2
      generalize World.setCell y19 ⟨q2, 13, none⟩ (.int .u64 (W (rotl (c 19 ^^^ dd c 4) 8))) = y20 at *
      have ai := HPP.out.sa.cell 20 (by decide)
      have sj := HPP.out.sb.cell 14 (by decide)
      have fj := HPP.out.sb.fz 14
      go_wp2_with fail
      refine (rot_at (c 20 ^^^ dd c 0) 18 18 rfl (by decide) (by decide) _).mono ?_
      rintro e w' ⟨rfl, rfl⟩
      go_upto_region 36 with (fail)
      have hp2 := HPP.out.setB 14 (rotl (c 20 ^^^ dd c 0) 18)
      clear HPP ai sj fj
      have HPP := Lib.hid hp2
      clear hp2
      generalize World.setCell y20 ⟨q2, 14, none⟩ (.int .u64 (W (rotl (c 20 ^^^ dd c 0) 18))) = y21 at *
      have ai := HPP.out.sa.cell 21 (by decide)
      have sj := HPP.out.sb.cell 24 (by decide)
      have fj := HPP.out.sb.fz 24
      go_wp2_with fail
      refine (rot_at (c 21 ^^^ dd c 1) 2 2 rfl (by decide) (by decide) _).mono ?_
      rintro e w' ⟨rfl, rfl⟩
      go_upto_region 37 with (fail)
      have hp2 := HPP.out.setB 24 (rotl (c 21 ^^^ dd c 1) 2)
      clear HPP ai sj fj
      have HPP := Lib.hid hp2
      clear hp2
      generalize World.setCell y21 ⟨q2, 24, none⟩ (.int .u64 (W (rotl (c 21 ^^^ dd c 1) 2))) = y22 at *
      have ai := HPP.out.sa.cell 22 (by decide)
      have sj := HPP.out.sb.cell 9 (by decide)
      have fj := HPP.out.sb.fz 9
      go_wp2_with fail
      refine (rot_at (c 22 ^^^ dd c 2) 61 61 rfl (by decide) (by decide) _).mono ?_
      rintro e w' ⟨rfl, rfl⟩
      go_upto_region 38 with (fail)
      have hp2 := HPP.out.setB 9 (rotl (c 22 ^^^ dd c 2) 61)
      clear HPP ai sj fj
      have HPP := Lib.hid hp2
      clear hp2
      generalize World.setCell y22 ⟨q2, 9, none⟩ (.int .u64 (W (rotl (c 22 ^^^ dd c 2) 61))) = y23 at *
      have ai := HPP.out.sa.cell 23 (by decide)
      have sj := HPP.out.sb.cell 19 (by decide)
      have fj := HPP.out.sb.fz 19
      go_wp2_with fail
      refine (rot_at (c 23 ^^^ dd c 3) 56 56 rfl (by decide) (by decide) _).mono ?_
      rintro e w' ⟨rfl, rfl⟩
      go_upto_region 39 with (fail)
      have hp2 := HPP.out.setB 19 (rotl (c 23 ^^^ dd c 3) 56)
      clear HPP ai sj fj
      have HPP := Lib.hid hp2
      clear hp2
      generalize World.setCell y23 ⟨q2, 19, none⟩ (.int .u64 (W (rotl (c 23 ^^^ dd c 3) 56))) = y24 at *
      have ai := HPP.out.sa.cell 24 (by decide)
      have sj := HPP.out.sb.cell 4 (by decide)
      have fj := HPP.out.sb.fz 4
      go_wp2_with fail
      refine (rot_at (c 24 ^^^ dd c 4) 14 14 rfl (by decide) (by decide) _).mono ?_
      rintro e w' ⟨rfl, rfl⟩
      go_upto_region 40 with (fail)
      have hp2 := HPP.out.setB 4 (rotl (c 24 ^^^ dd c 4) 14)
      clear HPP ai sj fj
      have HPP := Lib.hid hp2
      clear hp2
      generalize World.setCell y24 ⟨q2, 4, none⟩ (.int .u64 (W (rotl (c 24 ^^^ dd c 4) 14))) = y25 at *
      have hp2 := HPP.out.congB (chain_ok b c)
      clear HPP
      have HPP := Lib.hid hp2
      clear hp2
      go_wp2_with fail
      generalize y25 = z0 at *
      refine rows_loop q0 q1 q2 (rhopi (theta c)) c w _ _ _ _ _ _ _ _ _ _ _ _ _ _ _ _ _ _ _ _ _ _ _ _ _ _ _ _ _ _ _ _ _ _ _ _ _ _ _ _ _ _ _ _ _ _ _ _ _ _ _ _ _ _ _ _ _ _ _ _ _ _ _ _ _ _ _ _ _ _ _ _ _ _ _ _ _ _ _ _ _ _ _ _ _ _ _ _ _ _ _ _ _ _ _ _ _ _ _ _ _ _ _ _ _ _ _ _ _ _ _ _ _ _ _ _ _ _ _ _ _ _ _ _ _ _ _ _ _ _ _ _ _ _ _ _ _ _ _ _ _ _ _ _ _ _ _ _ _ _ _ _ _ _ _ _ _ _ _ _ _ _ _ _ _ _ _ _ _ _ _ _ _ _ _ _ _ _ _ _ _ _ _ _ _ _ _ _ _ _ _ _ _ _ _ _ _ _ _ _ _ _ _ _ _ _ _ _ _ _ _ _ _ _ _ _ _ _ _ _ _ _ _ _ _ _ _ _ _ _ _ _ _ _ _ _ _ _ _ _ _ _ _ _ _ _ _ _ _ _ _ _ _ _ _ _ _ _ _ _ _ _ _ _ _ _ _ _ _ _ _ _ _ _ _ _ _ _ _ _ _ _ _ _ _ _ _ _ _ _ _ _ _ _ _ _ _ _ _ _ _ _ _ _ _ _ _ _ _ _ _ _ _ _ _ _ _ _ _ _ _ _ _ _ _ _ _ _ _ _ _ _ _ _ _ _ _ z0 HPP.out ?_
      intro v16 v17 v18 v19 v20 v264 v265 v266 v267 v268 v269 v270 v271 v272 v273 v274 v275 v276 v277 v278 v279 v280 v281 v282 v283 v284 v285 v286 v287 v288 v289 v290 v291 v292 v293 v294 v295 v296 v297 v298 v299 v300 v301 v302 v303 v304 v305 v306 v307 v308 v309 v310 v311 v312 v313 v314 v315 v316 v317 v318 v319 v320 v321 v322 v323 v324 v325 v326 v327 v328 v329 v330 z hpz
      have HPZ := Lib.hid hpz
      clear hpz HPP
      have a0 := HPZ.out.sa.cell 0 (by decide)
      have f0 := HPZ.out.sa.fz 0
      have kn := HPZ.out.tab HT.out n (by omega)
      have n0 : (0 : Int) ≤ (n : Int) := by omega
      go_upto_region 49 with (fail)
      go_still_tail 7, (by kernel_rfl)
      change wpList _ _ _ _ _ z.drew
      have HPD := HPZ.out.drew
      clear a0 f0 kn HPZ
      have HPZ := Lib.hid HPD
      clear HPD
      generalize z.drew = z1 at *
      have a0 := HPZ.out.sa.cell 0 (by decide)
      have f0 := HPZ.out.sa.fz 0
      go_wp2_with fail
      go_roundw
      case rel => exact ⟨n + 1, rhopi (theta c), by omega, by go_num, (HPZ.out.setA 0 _).congA (fun i _ => by rw [rnds_succ a n (by omega), ← HC.out]; rfl)⟩
      case measure => simp [intOf]; omega
    · obtain rfl : n = 24 := by omega
      clear xr
      have HSR : Hid (wr.heap[q1]? = some (.cells (arr fun _ => 0#64) 145 (0, 0))) := Lib.hid HPP.out.sr
      have HSA : Hid (wr.heap[q0]? = some (.cells (arr c) 145 (0, 0))) := Lib.hid HPP.out.sa
      go_wp2_with (first
        | (refine wpList_load_row rfl 145 (.tmp 1) rfl q0 ?c5 145 (arr c) (0, 0) (.array 25 36) HSA.out und25 rfl (inf25 fun i => wv (c i)) ?_)
        | (refine wpList_store_row rfl 145 (.tmp 2) (.tmp 339) rfl q1 (arr c) ?d5 ?d6 145 (arr fun _ => 0#64) HSR.out (inf25 fun i => wv (c i)) ?d8 (one_wv c 25) ?_))
      case d8 => rw [arr_size, arr_size]
      have hr : IsTab (World.setRow wr q1 (arr c)) q1 145 25 fun i => wv (c i) := setRow_heap wr q1 _ _ _ _ HSR.out
      have hbb := below_setRow HPP.out.below HPP.out.g1 (arr c)
      have hpc : perm a = c := HC.out.symm
      rw [hpc]
      refine bodyPost_ret (v := .agg (arr c)) (results_cell_row rfl _ _ q1 145 (tab 25 fun i => wv (c i)) (0, 0) _ rfl hr und25 rfl (inf25 _)) rfl ⟨rfl, hbb⟩
end Kc
end Go.Proofs.YtbenjgncbpafbaaGreatDoor
namespace Go.Proofs.YtbenjgncbpafbaaGreatDoor
namespace Kc
theorem permIs : PermIs := fun a w h => perm_walk a w h
end Kc
end Go.Proofs.YtbenjgncbpafbaaGreatDoor
namespace Go.Proofs.YtbenjgncbpafbaaGreatDoor
open Go.RowKit
set_option linter.unusedVariables false
section
variable {P : Program}
/-- A load whose value is known, as one operation. -/
theorem wp_loadE {op : Oper} {a : Act} {w : World} {K : Act → World → Prop} {Q : Exit → Act → World → Prop} (ty : TypeId) (x : Operand) (ho : op.op = .load ty x) (p v : Value) (hx : a.eval x = p) (hl : (Instr.loadAt ty p).run P w = .ok v w)
    (h : K (a.put op.dst v) w) : op.wp P a w K Q := by
  unfold Oper.wp execOp
  simp only [ho, hx]
  simp [hl]
  exact h
/-- At the list of a plain region's operations. -/
theorem wpList_loadE {ops : Array Oper} {rest : List Oper} {op : Oper} {a : Act} {w : World} {Q : Exit → Act → World → Prop} (hgd : op.guard = none) (ty : TypeId) (x : Operand) (ho : op.op = .load ty x) (p v : Value) (hx : a.eval x = p) (hl : (Instr.loadAt ty p).run P w = .ok v w)
    (h : wpList P ops Q rest (a.put op.dst v) w) : wpList P ops Q (op :: rest) a w :=
  wpList_plain hgd fun _ hK => wp_loadE ty x ho p v hx hl (hK _ _ h)
/-- A slice of one, made on the spot, whose run is known. -/
theorem wpList_build1 {ops : Array Oper} {rest : List Oper} {op : Oper} {a : Act} {w : World} {Q : Exit → Act → World → Prop} (hgd : op.guard = none) (t : TypeId) (x : Operand) (ho : op.op = .buildSlice t 1 #[(0, x)]) (p v : Value) (hx : a.eval x = p) (w' : World) (hl : (Instr.buildSlice t 1 #[(0, p)]).run P w = .ok v w')
    (h : wpList P ops Q rest (a.put op.dst v) w') : wpList P ops Q (op :: rest) a w :=
  wpList_plain hgd fun _ hK => by
    unfold Oper.wp execOp
    simp only [ho, List.map_toArray, List.map_cons, List.map_nil, hx]
    simp [hl]
    exact hK _ _ h
end
namespace Mk
open Kc
/-- The value of a digest. -/
def dv (x : Hx) : Value := .agg (tab 32 fun i => bv (x i))
/-- n digests from a place on. -/
def At5 (w : World) (b o n : Nat) (f : Nat → Hx) : Prop := ∀ k j, k < n → j < 32 → w.cell? ⟨b, o + 32 * k + j, none⟩ = some (bv (f k j))
/-- A slice of n digests. -/
def IsHs (w : World) (a : Option Addr) (n : Nat) (f : Nat → Hx) : Prop := n = 0 ∨ ∃ b o, a = some ⟨b, o, none⟩ ∧ At5 w b o n f
theorem At5.keep {w w' : World} {b o n : Nat} {f : Nat → Hx} (h : At5 w b o n f) (hk : ∀ i v, w.cell? ⟨b, i, none⟩ = some v → w'.cell? ⟨b, i, none⟩ = some v) : At5 w' b o n f := fun k j h1 h2 => hk _ _ (h k j h1 h2)
theorem At5.below {w w' : World} {b o n : Nat} {f : Nat → Hx} (h : At5 w b o n f) (hb : Below w.heap.size w w') : At5 w' b o n f := h.keep fun i v hv => keep1 hb hv
theorem At5.cong {w : World} {b o n : Nat} {f g : Nat → Hx} (h : At5 w b o n f) (e : ∀ k, k < n → f k = g k) : At5 w b o n g := fun k j h1 h2 => by rw [← e k h1]; exact h k j h1 h2
theorem At5.from {w : World} {b o n : Nat} {f : Nat → Hx} (h : At5 w b o n f) (m : Nat) : At5 w b (o + 32 * m) (n - m) fun k => f (m + k) := fun k j h1 h2 => by
  rw [show o + 32 * m + 32 * k + j = o + 32 * (m + k) + j from by omega]; exact h (m + k) j (by omega) h2
theorem IsHs.below {w w' : World} {a : Option Addr} {n : Nat} {f : Nat → Hx} (h : IsHs w a n f) (hb : Below w.heap.size w w') : IsHs w' a n f := by
  rcases h with h | ⟨b, o, h1, h2⟩
  · exact .inl h
  · exact .inr ⟨b, o, h1, h2.below hb⟩
theorem IsHs.drew {w : World} {a : Option Addr} {n : Nat} {f : Nat → Hx} (h : IsHs w a n f) : IsHs w.drew a n f := h
theorem IsHs.cong {w : World} {a : Option Addr} {n : Nat} {f g : Nat → Hx} (h : IsHs w a n f) (e : ∀ k, k < n → f k = g k) : IsHs w a n g := by
  rcases h with h | ⟨b, o, h1, h2⟩
  · exact .inl h
  · exact .inr ⟨b, o, h1, h2.cong e⟩
theorem IsHs.at {w : World} {a : Option Addr} {n : Nat} {f : Nat → Hx} (h : IsHs w a n f) {k : Nat} (hk : k < n) : ∃ b o, a = some ⟨b, o, none⟩ ∧ At5 w b o n f := by
  rcases h with h | h
  · omega
  · exact h
theorem infHh : (Tryz.prog.info? 81).map (·.size) = some 32 := by kernel_rfl
/-- A digest is loaded, as the one type or as the other. -/
theorem loadH {w : World} {b o n : Nat} {f : Nat → Hx} (h : At5 w b o n f) {k p : Nat} (hk : k < n) (hp : p = o + 32 * k) : (Instr.loadAt 81 (.pointer (some ⟨b, p, none⟩))).run Tryz.prog w = .ok (dv (f k)) w := by
  subst hp
  refine run_loadAt_mid w b (o + 32 * k) _ ((List.range 32).map fun i => bv (f k i)) _ (fun j v hv => ?_) undH rfl (by rw [List.length_map, List.length_range]; exact infHh)
  obtain ⟨hj, rfl⟩ := List.getElem?_eq_some_iff.1 hv
  simp only [List.length_map, List.length_range] at hj
  simpa using h k j hk hj
/-- The cells of n digests. -/
def flat (n : Nat) (f : Nat → Hx) : List Value := (List.range (32 * n)).map fun i => bv (f (i / 32) (i % 32))
end Mk
end Go.Proofs.YtbenjgncbpafbaaGreatDoor
namespace Go.Proofs.YtbenjgncbpafbaaGreatDoor
open Go.RowKit
set_option linter.unusedVariables false
set_option linter.unusedSimpArgs false
namespace Wt
open Kc Mk
theorem laidOutP : laidOutB Tryz.prog = true := by kernel_rfl
theorem rowKH : (81 : TypeId) < Tryz.prog.types.size := of_decide_eq_true (by kernel_rfl)
theorem lawH : WideMaps.KeyLaw Tryz.prog 81 := deep_law_laid laidOutP (m := 2) (by omega) rowKH (by kernel_rfl) (by kernel_rfl)
theorem mapM_some {α β : Type} {f : α → Option β} {g : α → β} : ∀ (l : List α), (∀ a ∈ l, f a = some (g a)) → l.mapM f = some (l.map g)
  | [], _ => rfl
  | a :: l, h => by
    rw [List.mapM_cons, h a (by simp), mapM_some l (fun x hx => h x (by simp [hx]))]
    rfl
theorem wfB (x : Bt) : (Lit.int .u8 (Bv x)).wf = true := by
  have := Bv_bd x
  have h1 : IntKind.u8.min = 0 := rfl
  have h2 : IntKind.u8.max = 255 := rfl
  simp only [Lit.wf, h1, h2, Bool.and_eq_true, decide_eq_true_eq]
  omega
theorem typesSucc : ∃ m, Tryz.prog.types.size = m + 1 := ⟨Tryz.prog.types.size - 1, by have : 0 < Tryz.prog.types.size := of_decide_eq_true (by kernel_rfl); omega⟩
theorem cellsU8 : Tryz.prog.cellsOf 5 = 1 := by kernel_rfl
theorem cellsHh : Tryz.prog.cellsOf 81 = 32 := by kernel_rfl
theorem keyTypeH : Tryz.prog.keyType 81 = true := by kernel_rfl
theorem keyH (x : Hx) : keyOf Tryz.prog 81 (dv x) = some (.string (keyBytes (((List.range 32).map fun i => [Lit.int .u8 (Bv (x i))]).flatten))) := by
  obtain ⟨m, hm⟩ := typesSucc
  have hf : (dv x).formed Tryz.prog 81 = true := by simp [dv, Value.formed, undH, cellsHh, tab_size]
  have hl : Tryz.prog.keyLits (Tryz.prog.types.size + 1) 81 (dv x).cells.toList = some (((List.range 32).map fun i => [Lit.int .u8 (Bv (x i))]).flatten) := by
    unfold Program.keyLits
    simp only [undH]
    have hlen : (dv x).cells.toList.length = Tryz.prog.cellsOf 81 := by rw [cellsHh]; simp [dv, Value.cells, tab]
    rw [if_pos hlen, mapM_some (g := fun i => [Lit.int .u8 (Bv (x i))])]
    · rfl
    · intro i hi
      have hi' : i < 32 := by simpa using hi
      have e : ((dv x).cells.toList.drop (i * Tryz.prog.cellsOf 5)).take (Tryz.prog.cellsOf 5) = [bv (x i)] := by
        rw [cellsU8]
        simp only [dv, Value.cells, tab, Nat.mul_one]
        apply List.ext_getElem?
        intro j
        rcases j with _ | j
        · simp [hi']
        · simp [List.getElem?_take]
      rw [e, hm]
      unfold Program.keyLits
      simp only [undU8, bv]
      rw [if_pos ⟨trivial, wfB _⟩]
  unfold keyOf
  simp only [undH, keyTypeH, hf, hl]
  rfl
/-- A digest's bytes, as what tells two apart. -/
def key (x : Hx) : List Bt := (List.range 32).map x
theorem key_at {x y : Hx} (h : key x = key y) (i : Nat) (hi : i < 32) : x i = y i := by
  have := congrArg (fun l => l[i]?) h
  simpa [key, hi] using this
theorem key_of {x y : Hx} (h : ∀ i, i < 32 → x i = y i) : key x = key y := List.map_congr_left fun i hi => h i (by simpa using hi)
theorem dv_key {x y : Hx} : dv x = dv y ↔ key x = key y := by
  constructor
  · intro h
    refine key_of fun i hi => ?_
    have h' : tab 32 (fun i => bv (x i)) = tab 32 fun i => bv (y i) := by unfold dv at h; injection h
    have := tab_ext h' i hi
    unfold bv at this
    injection this with _ h2
    exact Bv_inj h2
  · intro h
    unfold dv
    rw [tab_cong fun i hi => by rw [key_at h i hi]]
theorem dv_of {x y : Hx} (h : key x = key y) : dv x = dv y := dv_key.2 h
section
variable {β : Type}
/-- What stands at a key. -/
def look (M : List (Hx × β)) (h : Hx) : Option β := (M.find? fun p => key p.1 == key h).map (·.2)
def has (M : List (Hx × β)) (h : Hx) : Bool := M.any fun p => key p.1 == key h
def putM (M : List (Hx × β)) (h : Hx) (v : β) : List (Hx × β) := if has M h then M.map (fun p => if key p.1 == key h then (p.1, v) else p) else M ++ [(h, v)]
def Apart (M : List (Hx × β)) : Prop := M.Pairwise fun p q => key p.1 ≠ key q.1
theorem find_at {M : List (Hx × β)} (hA : Apart M) {j : Nat} {p : Hx × β} {h : Hx} (hj : M[j]? = some p) (hp : key p.1 = key h) : M.find? (fun p => key p.1 == key h) = some p := by
  induction M generalizing j with
  | nil => simp at hj
  | cons q M ih =>
    obtain ⟨h1, h2⟩ := List.pairwise_cons.1 hA
    cases j with
    | zero => simp at hj; subst hj; simp [List.find?_cons, hp]
    | succ j =>
      have hj' : M[j]? = some p := by simpa using hj
      have hne : key q.1 ≠ key h := by rw [← hp]; exact h1 p (List.mem_of_getElem? hj')
      rw [List.find?_cons, show (key q.1 == key h) = false from by simpa using hne]
      exact ih h2 hj'
theorem look_at {M : List (Hx × β)} (hA : Apart M) {j : Nat} {p : Hx × β} {h : Hx} (hj : M[j]? = some p) (hp : key p.1 = key h) : look M h = some p.2 := by
  unfold look; rw [find_at hA hj hp]; rfl
theorem look_none {M : List (Hx × β)} {h : Hx} (hn : ∀ p ∈ M, key p.1 ≠ key h) : look M h = none := by
  unfold look
  rw [List.find?_eq_none.2 (fun p hp => by simpa using hn p hp)]; rfl
theorem has_at {M : List (Hx × β)} {j : Nat} {p : Hx × β} {h : Hx} (hj : M[j]? = some p) (hp : key p.1 = key h) : has M h = true := by
  unfold has; exact List.any_eq_true.2 ⟨p, List.mem_of_getElem? hj, by simpa using hp⟩
theorem has_none {M : List (Hx × β)} {h : Hx} (hn : ∀ p ∈ M, key p.1 ≠ key h) : has M h = false := by
  unfold has; exact List.any_eq_false.2 fun p hp => by simpa using hn p hp
theorem map_at {M : List (Hx × β)} (hA : Apart M) {j : Nat} {p : Hx × β} {h : Hx} (v : β) (hj : M[j]? = some p) (hp : key p.1 = key h) :
    M.map (fun p => if key p.1 == key h then (p.1, v) else p) = M.set j (p.1, v) := by
  induction M generalizing j with
  | nil => simp at hj
  | cons q M ih =>
    obtain ⟨h1, h2⟩ := List.pairwise_cons.1 hA
    cases j with
    | zero =>
      simp at hj; subst hj
      simp only [List.map_cons, List.set_cons_zero, show (key q.1 == key h) = true from by simpa using hp, if_true]
      congr 1
      refine (List.map_congr_left fun r hr => ?_).trans (List.map_id' M)
      rw [show (key r.1 == key h) = false from by simpa using fun e => h1 r hr (hp.trans e.symm)]; rfl
    | succ j =>
      have hj' : M[j]? = some p := by simpa using hj
      have hne : key q.1 ≠ key h := by rw [← hp]; exact h1 p (List.mem_of_getElem? hj')
      simp only [List.map_cons, List.set_cons_succ, show (key q.1 == key h) = false from by simpa using hne]
      rw [ih h2 hj']; rfl
theorem apart_put {M : List (Hx × β)} (hA : Apart M) (h : Hx) (v : β) : Apart (putM M h v) := by
  unfold putM
  split
  · unfold Apart
    rw [List.pairwise_map]
    refine hA.imp fun {a b} hab => ?_
    split <;> split <;> exact hab
  · rename_i hn
    refine List.pairwise_append.2 ⟨hA, by simp, fun a ha b hb => ?_⟩
    simp only [List.mem_singleton] at hb
    subst hb
    intro e
    apply hn
    unfold has
    exact List.any_eq_true.2 ⟨a, ha, by simpa using e⟩
/-- A block is a map that holds these pairs. -/
def IsMp (V : β → Value) (w : World) (b : Nat) (M : List (Hx × β)) : Prop :=
  ∃ es clock, w.heap[b]? = some (.map es clock) ∧ es.toList.map (fun e => (e.key, e.val)) = M.map (fun p => (dv p.1, V p.2)) ∧ Apart M
variable {V : β → Value} {w w' : World} {b : Nat} {M : List (Hx × β)}
theorem IsMp.lt (h : IsMp V w b M) : b < w.heap.size := by obtain ⟨_, _, hb, _⟩ := h; exact (Array.getElem?_eq_some_iff.1 hb).1
theorem IsMp.same (h : IsMp V w b M) (hb : w'.heap[b]? = w.heap[b]?) : IsMp V w' b M := by obtain ⟨es, c, h1, h2⟩ := h; exact ⟨es, c, hb.trans h1, h2⟩
theorem IsMp.kept {S : Nat → Prop} (h : IsMp V w b M) (hk : Kept S w w') (hn : ¬ S b) : IsMp V w' b M := h.same (hk.block b h.lt hn)
theorem IsMp.below (h : IsMp V w b M) (hb : Below w.heap.size w w') : IsMp V w' b M := h.same (hb.block b h.lt)
theorem IsMp.new (V : β → Value) (w : World) : IsMp V (w.alloc (.map #[] 0)) w.heap.size [] := ⟨#[], 0, (MapKept.heap_alloc w _).1, rfl, by simp [Apart]⟩
theorem IsMp.alloc (h : IsMp V w b M) (o : Obj) : IsMp V (w.alloc o) b M := h.same (Below.heap_alloc w o b h.lt)
/-- How a key is found. -/
theorem find_run {es : Array MapEntry} (he : es.toList.map (fun e => (e.key, e.val)) = M.map (fun p => (dv p.1, V p.2))) (w : World) (h : Hx) :
    ((Instr.findKey 81 (dv h) es.toList).run Tryz.prog w = .ok none w ∧ ∀ p ∈ M, key p.1 ≠ key h) ∨
    ∃ j e p, (Instr.findKey 81 (dv h) es.toList).run Tryz.prog w = .ok (some (j, e.val)) w ∧ es.toList[j]? = some e ∧ M[j]? = some p ∧ e.key = dv p.1 ∧ e.val = V p.2 ∧ key p.1 = key h := by
  have hk : ∀ e ∈ es.toList, ∃ l, keyOf Tryz.prog 81 e.key = some l := fun e hm => by
    have : (e.key, e.val) ∈ M.map (fun p => (dv p.1, V p.2)) := by rw [← he]; exact List.mem_map.2 ⟨e, hm, rfl⟩
    obtain ⟨p, _, hp⟩ := List.mem_map.1 this
    injection hp with h1 h2
    exact ⟨_, by rw [← h1]; exact keyH p.1⟩
  rcases lawH.find w (keyH h) es.toList hk with ⟨h1, h2⟩ | ⟨j, e, h1, h2, h3⟩
  · refine .inl ⟨h1, fun p hp hkk => ?_⟩
    have : (dv p.1, V p.2) ∈ es.toList.map (fun e => (e.key, e.val)) := by rw [he]; exact List.mem_map.2 ⟨p, hp, rfl⟩
    obtain ⟨e, hm, hee⟩ := List.mem_map.1 this
    injection hee with h3 h4
    exact h2 e hm (h3.trans (dv_of hkk))
  · have : (es.toList.map (fun e => (e.key, e.val)))[j]? = some (e.key, e.val) := by rw [List.getElem?_map, h2]; rfl
    rw [he, List.getElem?_map] at this
    cases hM : M[j]? with
    | none => rw [hM] at this; cases this
    | some p =>
      rw [hM] at this
      simp only [Option.map_some, Option.some.injEq, Prod.mk.injEq] at this
      exact .inr ⟨j, e, p, h1, h2, hM, this.1.symm, this.2.symm, dv_key.1 (this.1.trans h3)⟩
/-- 'v, ok := m[k]'. -/
theorem IsMp.look_ok {t e : TypeId} {z : Value} (h : IsMp V w b M) (ht : Tryz.prog.underlying t = some (.map 81 e)) (hz : (zeroValue e).run Tryz.prog w = .ok z w) (k : Hx) :
    (Instr.lookup t (.map (some b)) (dv k) true).run Tryz.prog w = .ok (.tuple #[((look M k).map V).getD z, .bool (has M k)]) w := by
  obtain ⟨es, clock, hb, he, hA⟩ := h
  rcases find_run he w k with ⟨h1, h2⟩ | ⟨j, e0, p, h1, h2, h3, h4, h5, h6⟩
  · simp [Instr.lookup, run_underlying ht, MapKept.run_getObj_map hb, lawH.check w _ (keyH k), h1, hz, Result.andThen, look_none h2, has_none h2]
  · simp [Instr.lookup, run_underlying ht, MapKept.run_getObj_map hb, lawH.check w _ (keyH k), h1, Result.andThen, look_at hA h3 h6, has_at h3 h6, h5]
/-- 'm[k] = v'. -/
theorem IsMp.store {t e : TypeId} (h : IsMp V w b M) (ht : Tryz.prog.underlying t = some (.map 81 e)) (k : Hx) (v : β) :
    ∃ w', (Instr.mapUpdate t (.map (some b)) (dv k) (V v)).run Tryz.prog w = .ok () w' ∧ IsMp V w' b (putM M k v) ∧ Kept (· = b) w w' ∧ w'.heap.size = w.heap.size := by
  obtain ⟨es, clock, hb, he, hA⟩ := h
  have hK : ∀ o, Kept (· = b) w (ChangeMaps.setBlock w b o) ∧ (ChangeMaps.setBlock w b o).heap.size = w.heap.size := fun o =>
    ⟨⟨rfl, rfl, rfl, by simp [ChangeMaps.setBlock], fun i _ hi => ChangeMaps.heap_setBlock_other hb _ hi⟩, by simp [ChangeMaps.setBlock]⟩
  rcases find_run he w k with ⟨h1, h2⟩ | ⟨j, e0, p, h1, h2, h3, h4, h5, h6⟩
  · refine ⟨ChangeMaps.setBlock w b (.map (es.push ⟨dv k, V v, clock⟩) (clock + 1)), ?_, ⟨_, _, ChangeMaps.heap_setBlock_same hb _, ?_, apart_put hA k v⟩, hK _⟩
    · simp [Instr.mapUpdate, run_underlying ht, MapKept.run_getObj_map hb, lawH.check w false (keyH k), h1, MapKept.run_setObj_map _ hb, Result.andThen, ChangeMaps.setBlock]
    · unfold putM
      rw [has_none h2]
      simp [he]
  · have hj : es[j]? = some e0 := by simpa using h2
    have hkk : e0.key = dv k := h4.trans (dv_of h6)
    refine ⟨ChangeMaps.setBlock w b (.map (es.modify j (fun e' => { e' with key := dv k, val := V v })) clock), ?_, ⟨_, _, ChangeMaps.heap_setBlock_same hb _, ?_, apart_put hA k v⟩, hK _⟩
    · simp [Instr.mapUpdate, run_underlying ht, MapKept.run_getObj_map hb, lawH.check w false (keyH k), h1, hj, hkk, lawH.stays w (keyH k), MapKept.run_setObj_map _ hb, Result.andThen, ChangeMaps.setBlock]
    · rw [Array.toList_modify, ChangeMaps.modify_eq_set _ _ _ _ h2, List.map_set, he]
      unfold putM
      rw [has_at h3 h6, if_pos rfl, map_at hA v h3 h6, List.map_set]
      simp only [dv_of h6]
/-- 'len(m)'. -/
theorem IsMp.len {t e ty : TypeId} (h : IsMp V w b M) (ht : Tryz.prog.underlying t = some (.map 81 e)) : (Builtin.len_ #[t] ty #[.map (some b)]).run Tryz.prog w = .ok (.int .i64 M.length) w := by
  obtain ⟨es, clock, hb, he, hA⟩ := h
  have hs : es.size = M.length := by have := congrArg List.length he; simpa using this
  simp [Builtin.len_, run_underlying ht, MapKept.run_getObj_map hb, Result.andThen, hs, goInt]
end
end Wt
end Go.Proofs.YtbenjgncbpafbaaGreatDoor
