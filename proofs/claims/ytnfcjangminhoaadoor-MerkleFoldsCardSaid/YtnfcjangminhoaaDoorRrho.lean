/-
  mootref02.permute, its second loop: the turns. Written by genref.py. Own work.
-/
import Derived.Test.YtnfcjangminhoaaDoorRth
import Derived.Test.YtnfcjangminhoaaDoorRcon
import Derived.Test.YtnfcjangminhoaaDoorRleft
import Derived.Test.YtnfcjangminhoaaDoorLps
import Derived.Test.YtnfcjangminhoaaDoorQtl
import Derived.Test.YtnfcjangminhoaaDoorKrows
import Derived.RegionTactic
import Derived.BigRegion
import Derived.StillTailTactics
import Derived.IntWalk
namespace Go.Proofs.YtnfcjangminhoaaDoor
open Go.RowKit
set_option linter.unusedVariables false
namespace Kc
def rhoK (b : Nat → Wd64) (x y : Nat) : Nat → Wd64 := fun k => if src k % 5 < x ∨ (src k % 5 = x ∧ src k / 5 < y) then rhopi b k else 0#64
theorem dst_src : ∀ x, x < 5 → ∀ y, y < 5 → ∀ k, k < 25 → (k = y + 5 * ((2 * x + 3 * y) % 5) ↔ src k = x + 5 * y) := by decide
theorem rho_step (b : Nat → Wd64) (x y L D T : Nat) (hx : x < 5) (hy : y < 5) (hL : x + 5 * y = L) (hD : y + 5 * ((2 * x + 3 * y) % 5) = D) (hT : turns.getD L 0 = T) (k : Nat) (hk : k < 25) :
    upd (rhoK b x y) D (rotl (b L) T) k = rhoK b x (y + 1) k := by
  have h := dst_src x hx y hy k hk
  rw [hD] at h
  unfold upd rhoK
  by_cases e : k = D
  · have hs := h.1 e
    rw [if_pos e, if_pos (by omega)]
    unfold rhopi
    rw [hs, hL, hT]
  · have hs : ¬ src k = x + 5 * y := fun he => e (h.2 he)
    rw [if_neg e]
    by_cases h2 : src k % 5 < x ∨ (src k % 5 = x ∧ src k / 5 < y)
    · rw [if_pos h2, if_pos (by omega)]
    · rw [if_neg h2, if_neg (by omega)]
noncomputable def rhoBody : Code := ((Tryd.f47.body.map fun c => loopAt 1 (loopAt 0 c)).getD .skip)
set_option maxHeartbeats 40000000 in
set_option maxRecDepth 1000000 in
theorem rho_loop {Q0 : Exit → Act → World → Prop} (q0 qr q8 q9 qc qt : Nat) (a b : Nat → Wd64) (w : World) (c0 c1 c4 c5 c7 c10 c11 c12 c13 c14 c17 c18 c19 c20 c21 c22 c23 c24 c25 c26 c27 c28 c29 c30 c31 c32 c33 c34 c35 c36 c37 c38 c39 c40 c41 c42 c43 c44 c45 c46 c47 c48 c49 c50 c51 c52 c53 c54 c55 c56 c57 c58 c59 c60 c61 c62 c63 c64 c65 c66 c99 c100 c101 c102 c103 c104 c105 c106 c107 c108 c109 c110 c111 c112 c113 c114 c115 c116 c117 c118 c119 c120 c121 c122 c123 c124 c125 c126 c127 c128 c129 c130 c131 c132 c133 c134 c135 c136 c137 c138 c139 c140 c141 c142 c143 c144 c145 u16 u67 u68 u69 u70 u71 u72 u73 u74 u75 u76 u77 u78 u79 u80 u81 u82 u83 u84 u85 u86 u87 u88 u89 u90 u91 u92 u93 u94 u95 u96 u97 u98 : Value) (z0 : World)
    (hp : Pf w q0 qr q8 q9 qc qt a b (fun _ => 0#64) z0)
    (hexit : ∀ (v16 v67 v68 v69 v70 v71 v72 v73 v74 v75 v76 v77 v78 v79 v80 v81 v82 v83 v84 v85 v86 v87 v88 v89 v90 v91 v92 v93 v94 v95 v96 v97 v98 : Value) (z : World), Pf w q0 qr q8 q9 qc qt a b (rhopi b) z → Q0 (.exit 8) ⟨(c0 :: c1 :: Value.slice (some ⟨qt, 0, none⟩) 25 25 :: Value.pointer (some ⟨q0, 0, none⟩) :: c4 :: c5 :: Value.pointer (some ⟨qr, 0, none⟩) :: c7 :: Value.pointer (some ⟨q8, 0, none⟩) :: Value.pointer (some ⟨q9, 0, none⟩) :: c10 :: c11 :: c12 :: c13 :: c14 :: Value.int .i64 5 :: v16 :: c17 :: c18 :: c19 :: c20 :: c21 :: c22 :: c23 :: c24 :: c25 :: c26 :: c27 :: c28 :: c29 :: c30 :: c31 :: c32 :: c33 :: c34 :: c35 :: c36 :: c37 :: c38 :: c39 :: c40 :: c41 :: c42 :: c43 :: c44 :: c45 :: c46 :: c47 :: c48 :: c49 :: c50 :: c51 :: c52 :: c53 :: c54 :: c55 :: c56 :: c57 :: c58 :: c59 :: c60 :: c61 :: c62 :: c63 :: c64 :: c65 :: c66 :: v67 :: v68 :: v69 :: v70 :: v71 :: v72 :: v73 :: v74 :: v75 :: v76 :: v77 :: v78 :: v79 :: v80 :: v81 :: v82 :: v83 :: v84 :: v85 :: v86 :: v87 :: v88 :: v89 :: v90 :: v91 :: v92 :: v93 :: v94 :: v95 :: v96 :: v97 :: v98 :: c99 :: c100 :: c101 :: c102 :: c103 :: c104 :: c105 :: c106 :: c107 :: c108 :: c109 :: c110 :: c111 :: c112 :: c113 :: c114 :: c115 :: c116 :: c117 :: c118 :: c119 :: c120 :: c121 :: c122 :: c123 :: c124 :: c125 :: c126 :: c127 :: c128 :: c129 :: c130 :: c131 :: c132 :: c133 :: c134 :: c135 :: c136 :: c137 :: c138 :: c139 :: c140 :: c141 :: c142 :: c143 :: c144 :: c145 :: []).toArray, []⟩ z) :
    Code.wp Tryd.prog (Code.loop rhoBody) Q0 ⟨(c0 :: c1 :: Value.slice (some ⟨qt, 0, none⟩) 25 25 :: Value.pointer (some ⟨q0, 0, none⟩) :: c4 :: c5 :: Value.pointer (some ⟨qr, 0, none⟩) :: c7 :: Value.pointer (some ⟨q8, 0, none⟩) :: Value.pointer (some ⟨q9, 0, none⟩) :: c10 :: c11 :: c12 :: c13 :: c14 :: Value.int .i64 0 :: u16 :: c17 :: c18 :: c19 :: c20 :: c21 :: c22 :: c23 :: c24 :: c25 :: c26 :: c27 :: c28 :: c29 :: c30 :: c31 :: c32 :: c33 :: c34 :: c35 :: c36 :: c37 :: c38 :: c39 :: c40 :: c41 :: c42 :: c43 :: c44 :: c45 :: c46 :: c47 :: c48 :: c49 :: c50 :: c51 :: c52 :: c53 :: c54 :: c55 :: c56 :: c57 :: c58 :: c59 :: c60 :: c61 :: c62 :: c63 :: c64 :: c65 :: c66 :: u67 :: u68 :: u69 :: u70 :: u71 :: u72 :: u73 :: u74 :: u75 :: u76 :: u77 :: u78 :: u79 :: u80 :: u81 :: u82 :: u83 :: u84 :: u85 :: u86 :: u87 :: u88 :: u89 :: u90 :: u91 :: u92 :: u93 :: u94 :: u95 :: u96 :: u97 :: u98 :: c99 :: c100 :: c101 :: c102 :: c103 :: c104 :: c105 :: c106 :: c107 :: c108 :: c109 :: c110 :: c111 :: c112 :: c113 :: c114 :: c115 :: c116 :: c117 :: c118 :: c119 :: c120 :: c121 :: c122 :: c123 :: c124 :: c125 :: c126 :: c127 :: c128 :: c129 :: c130 :: c131 :: c132 :: c133 :: c134 :: c135 :: c136 :: c137 :: c138 :: c139 :: c140 :: c141 :: c142 :: c143 :: c144 :: c145 :: []).toArray, []⟩ z0 := by
  conv => arg 2; whnf
  conv => arg 2; arg 1; whnf
  have HEX := Lib.hid hexit
  clear hexit
  have HPP := Lib.hid hp
  clear hp
  go_loopw [15] (fun s z => ∃ x : Nat, x ≤ 5 ∧ s = .int .i64 x ∧ Hid (Pf w q0 qr q8 q9 qc qt a b (rhoK b x 0) z)) (fun s _ => 5 - (intOf s).toNat)
  case atStart => exact ⟨0, by decide, rfl, Lib.hid (HPP.out.congC fun j _ => by unfold rhoK; rw [if_neg (by omega)])⟩
  case round =>
    obtain ⟨x, hx, rfl, hp⟩ := hrel
    clear HPP
    by_cases hx5 : (x : Int) < 5
    · have hc : x = 0 ∨ x = 1 ∨ x = 2 ∨ x = 3 ∨ x = 4 := by omega
      clear hx hx5
      rcases hc with rfl | rfl | rfl | rfl | rfl
      · rw [show ((0 : Nat) : Int) = 0 from rfl]
        go_wp2_with fail
        go_loopw [16] (fun y z => ∃ y' : Nat, y' ≤ 5 ∧ y = .int .i64 y' ∧ Hid (Pf w q0 qr q8 q9 qc qt a b (rhoK b 0 y') z)) (fun y _ => 5 - (intOf y).toNat)
        case atStart => exact ⟨0, by decide, rfl, hp⟩
        case round =>
          obtain ⟨y, hy, rfl, hp2⟩ := hrel
          clear hp
          by_cases hy5 : (y : Int) < 5
          · have hc : y = 0 ∨ y = 1 ∨ y = 2 ∨ y = 3 ∨ y = 4 := by omega
            clear hy hy5
            rcases hc with rfl | rfl | rfl | rfl | rfl
            · rw [show ((0 : Nat) : Int) = 0 from rfl]
              have NE : Nonempty (Wd (Pf w q0 qr q8 q9 qc qt a b (rhoK b 0 0))) := ⟨⟨_, hp2.out⟩⟩
              have a1 : ∀ z : Wd (Pf w q0 qr q8 q9 qc qt a b (rhoK b 0 0)), z.val.cell? ⟨q8, 0, none⟩ = some (Value.int .u64 (W (b 0))) := fun z => z.ok.sb.cell 0 (by decide)
              have a2 : ∀ z : Wd (Pf w q0 qr q8 q9 qc qt a b (rhoK b 0 0)), z.val.cell? ⟨qt, 0, none⟩ = some (Value.int .i64 0) := fun z => z.ok.turn 0 (by decide)
              have q1 : ∀ z : Wd (Pf w q0 qr q8 q9 qc qt a b (rhoK b 0 0)), Calls Tryd.prog 51 #[.int .u64 (W (b 0)), .int .i64 0] z.val fun e w' => e = .returned (.int .u64 (W (rotl (b 0) 0))) ∧ ∃ s' : Wd (Pf w q0 qr q8 q9 qc qt a b (rhoK b 0 0)), w' = s'.val := fun z => in_of_same z (left_is (b 0) 0 (by decide) z.val)
              have Q1 := Lib.hid q1
              clear q1
              have HP2 := Lib.hid hp2.out.drew
              go_upto_region 24 with (fail)
              refine wp_region_quiet_tail 24 (Pf w q0 qr q8 q9 qc qt a b (rhoK b 0 0)) (by kernel_rfl) (by kernel_rfl) HP2.out ?_
              simp only [List.take_succ_cons, List.take_zero, List.drop_succ_cons, List.drop_zero]
              repeat (go_big_quiet_step (with_reducible exact Q1.out _))
              refine wpQuiet_nil ?_
              rintro _ ⟨z, rfl⟩
              have fj := z.ok.sc.fz 0
              have sj : _ = some (Value.int .u64 (W (rhoK b 0 0 0))) := z.ok.sc.cell 0 (by decide)
              clear a1 a2 Q1 HP2 NE hp2
              go_wp2_with fail
              exact ⟨⟨0 + 1, by decide, rfl, Lib.hid ((z.ok.setC 0 _).congC (fun j hj => rho_step b 0 0 0 0 0 (by decide) (by decide) rfl rfl rfl j hj))⟩, by simp [intOf]⟩
            · rw [show ((1 : Nat) : Int) = 1 from rfl]
              have NE : Nonempty (Wd (Pf w q0 qr q8 q9 qc qt a b (rhoK b 0 1))) := ⟨⟨_, hp2.out⟩⟩
              have a1 : ∀ z : Wd (Pf w q0 qr q8 q9 qc qt a b (rhoK b 0 1)), z.val.cell? ⟨q8, 5, none⟩ = some (Value.int .u64 (W (b 5))) := fun z => z.ok.sb.cell 5 (by decide)
              have a2 : ∀ z : Wd (Pf w q0 qr q8 q9 qc qt a b (rhoK b 0 1)), z.val.cell? ⟨qt, 5, none⟩ = some (Value.int .i64 36) := fun z => z.ok.turn 5 (by decide)
              have q1 : ∀ z : Wd (Pf w q0 qr q8 q9 qc qt a b (rhoK b 0 1)), Calls Tryd.prog 51 #[.int .u64 (W (b 5)), .int .i64 36] z.val fun e w' => e = .returned (.int .u64 (W (rotl (b 5) 36))) ∧ ∃ s' : Wd (Pf w q0 qr q8 q9 qc qt a b (rhoK b 0 1)), w' = s'.val := fun z => in_of_same z (left_is (b 5) 36 (by decide) z.val)
              have Q1 := Lib.hid q1
              clear q1
              have HP2 := Lib.hid hp2.out.drew
              go_upto_region 24 with (fail)
              refine wp_region_quiet_tail 24 (Pf w q0 qr q8 q9 qc qt a b (rhoK b 0 1)) (by kernel_rfl) (by kernel_rfl) HP2.out ?_
              simp only [List.take_succ_cons, List.take_zero, List.drop_succ_cons, List.drop_zero]
              repeat (go_big_quiet_step (with_reducible exact Q1.out _))
              refine wpQuiet_nil ?_
              rintro _ ⟨z, rfl⟩
              have fj := z.ok.sc.fz 16
              have sj : _ = some (Value.int .u64 (W (rhoK b 0 1 16))) := z.ok.sc.cell 16 (by decide)
              clear a1 a2 Q1 HP2 NE hp2
              go_wp2_with fail
              exact ⟨⟨1 + 1, by decide, rfl, Lib.hid ((z.ok.setC 16 _).congC (fun j hj => rho_step b 0 1 5 16 36 (by decide) (by decide) rfl rfl rfl j hj))⟩, by simp [intOf]⟩
            · rw [show ((2 : Nat) : Int) = 2 from rfl]
              have NE : Nonempty (Wd (Pf w q0 qr q8 q9 qc qt a b (rhoK b 0 2))) := ⟨⟨_, hp2.out⟩⟩
              have a1 : ∀ z : Wd (Pf w q0 qr q8 q9 qc qt a b (rhoK b 0 2)), z.val.cell? ⟨q8, 10, none⟩ = some (Value.int .u64 (W (b 10))) := fun z => z.ok.sb.cell 10 (by decide)
              have a2 : ∀ z : Wd (Pf w q0 qr q8 q9 qc qt a b (rhoK b 0 2)), z.val.cell? ⟨qt, 10, none⟩ = some (Value.int .i64 3) := fun z => z.ok.turn 10 (by decide)
              have q1 : ∀ z : Wd (Pf w q0 qr q8 q9 qc qt a b (rhoK b 0 2)), Calls Tryd.prog 51 #[.int .u64 (W (b 10)), .int .i64 3] z.val fun e w' => e = .returned (.int .u64 (W (rotl (b 10) 3))) ∧ ∃ s' : Wd (Pf w q0 qr q8 q9 qc qt a b (rhoK b 0 2)), w' = s'.val := fun z => in_of_same z (left_is (b 10) 3 (by decide) z.val)
              have Q1 := Lib.hid q1
              clear q1
              have HP2 := Lib.hid hp2.out.drew
              go_upto_region 24 with (fail)
              refine wp_region_quiet_tail 24 (Pf w q0 qr q8 q9 qc qt a b (rhoK b 0 2)) (by kernel_rfl) (by kernel_rfl) HP2.out ?_
              simp only [List.take_succ_cons, List.take_zero, List.drop_succ_cons, List.drop_zero]
              repeat (go_big_quiet_step (with_reducible exact Q1.out _))
              refine wpQuiet_nil ?_
              rintro _ ⟨z, rfl⟩
              have fj := z.ok.sc.fz 7
              have sj : _ = some (Value.int .u64 (W (rhoK b 0 2 7))) := z.ok.sc.cell 7 (by decide)
              clear a1 a2 Q1 HP2 NE hp2
              go_wp2_with fail
              exact ⟨⟨2 + 1, by decide, rfl, Lib.hid ((z.ok.setC 7 _).congC (fun j hj => rho_step b 0 2 10 7 3 (by decide) (by decide) rfl rfl rfl j hj))⟩, by simp [intOf]⟩
            · rw [show ((3 : Nat) : Int) = 3 from rfl]
              have NE : Nonempty (Wd (Pf w q0 qr q8 q9 qc qt a b (rhoK b 0 3))) := ⟨⟨_, hp2.out⟩⟩
              have a1 : ∀ z : Wd (Pf w q0 qr q8 q9 qc qt a b (rhoK b 0 3)), z.val.cell? ⟨q8, 15, none⟩ = some (Value.int .u64 (W (b 15))) := fun z => z.ok.sb.cell 15 (by decide)
              have a2 : ∀ z : Wd (Pf w q0 qr q8 q9 qc qt a b (rhoK b 0 3)), z.val.cell? ⟨qt, 15, none⟩ = some (Value.int .i64 41) := fun z => z.ok.turn 15 (by decide)
              have q1 : ∀ z : Wd (Pf w q0 qr q8 q9 qc qt a b (rhoK b 0 3)), Calls Tryd.prog 51 #[.int .u64 (W (b 15)), .int .i64 41] z.val fun e w' => e = .returned (.int .u64 (W (rotl (b 15) 41))) ∧ ∃ s' : Wd (Pf w q0 qr q8 q9 qc qt a b (rhoK b 0 3)), w' = s'.val := fun z => in_of_same z (left_is (b 15) 41 (by decide) z.val)
              have Q1 := Lib.hid q1
              clear q1
              have HP2 := Lib.hid hp2.out.drew
              go_upto_region 24 with (fail)
              refine wp_region_quiet_tail 24 (Pf w q0 qr q8 q9 qc qt a b (rhoK b 0 3)) (by kernel_rfl) (by kernel_rfl) HP2.out ?_
              simp only [List.take_succ_cons, List.take_zero, List.drop_succ_cons, List.drop_zero]
              repeat (go_big_quiet_step (with_reducible exact Q1.out _))
              refine wpQuiet_nil ?_
              rintro _ ⟨z, rfl⟩
              have fj := z.ok.sc.fz 23
              have sj : _ = some (Value.int .u64 (W (rhoK b 0 3 23))) := z.ok.sc.cell 23 (by decide)
              clear a1 a2 Q1 HP2 NE hp2
              go_wp2_with fail
              exact ⟨⟨3 + 1, by decide, rfl, Lib.hid ((z.ok.setC 23 _).congC (fun j hj => rho_step b 0 3 15 23 41 (by decide) (by decide) rfl rfl rfl j hj))⟩, by simp [intOf]⟩
            · rw [show ((4 : Nat) : Int) = 4 from rfl]
              have NE : Nonempty (Wd (Pf w q0 qr q8 q9 qc qt a b (rhoK b 0 4))) := ⟨⟨_, hp2.out⟩⟩
              have a1 : ∀ z : Wd (Pf w q0 qr q8 q9 qc qt a b (rhoK b 0 4)), z.val.cell? ⟨q8, 20, none⟩ = some (Value.int .u64 (W (b 20))) := fun z => z.ok.sb.cell 20 (by decide)
              have a2 : ∀ z : Wd (Pf w q0 qr q8 q9 qc qt a b (rhoK b 0 4)), z.val.cell? ⟨qt, 20, none⟩ = some (Value.int .i64 18) := fun z => z.ok.turn 20 (by decide)
              have q1 : ∀ z : Wd (Pf w q0 qr q8 q9 qc qt a b (rhoK b 0 4)), Calls Tryd.prog 51 #[.int .u64 (W (b 20)), .int .i64 18] z.val fun e w' => e = .returned (.int .u64 (W (rotl (b 20) 18))) ∧ ∃ s' : Wd (Pf w q0 qr q8 q9 qc qt a b (rhoK b 0 4)), w' = s'.val := fun z => in_of_same z (left_is (b 20) 18 (by decide) z.val)
              have Q1 := Lib.hid q1
              clear q1
              have HP2 := Lib.hid hp2.out.drew
              go_upto_region 24 with (fail)
              refine wp_region_quiet_tail 24 (Pf w q0 qr q8 q9 qc qt a b (rhoK b 0 4)) (by kernel_rfl) (by kernel_rfl) HP2.out ?_
              simp only [List.take_succ_cons, List.take_zero, List.drop_succ_cons, List.drop_zero]
              repeat (go_big_quiet_step (with_reducible exact Q1.out _))
              refine wpQuiet_nil ?_
              rintro _ ⟨z, rfl⟩
              have fj := z.ok.sc.fz 14
              have sj : _ = some (Value.int .u64 (W (rhoK b 0 4 14))) := z.ok.sc.cell 14 (by decide)
              clear a1 a2 Q1 HP2 NE hp2
              go_wp2_with fail
              exact ⟨⟨4 + 1, by decide, rfl, Lib.hid ((z.ok.setC 14 _).congC (fun j hj => rho_step b 0 4 20 14 18 (by decide) (by decide) rfl rfl rfl j hj))⟩, by simp [intOf]⟩
          · obtain rfl : y = 5 := by omega
            have hpn := Lib.hid (hp2.out.congC (c' := rhoK b (0 + 1) 0) (fun i hi => by
              unfold rhoK
              have : src i < 25 := src_lt i hi
              by_cases h1 : src i % 5 < 0 ∨ (src i % 5 = 0 ∧ src i / 5 < 5)
              · rw [if_pos h1, if_pos (by omega)]
              · rw [if_neg h1, if_neg (by omega)]))
            clear hp2
            go_wp2_with fail
            go_roundw
            case rel => exact ⟨0 + 1, by decide, rfl, hpn⟩
            case measure => simp [intOf]
      · rw [show ((1 : Nat) : Int) = 1 from rfl]
        go_wp2_with fail
        go_loopw [16] (fun y z => ∃ y' : Nat, y' ≤ 5 ∧ y = .int .i64 y' ∧ Hid (Pf w q0 qr q8 q9 qc qt a b (rhoK b 1 y') z)) (fun y _ => 5 - (intOf y).toNat)
        case atStart => exact ⟨0, by decide, rfl, hp⟩
        case round =>
          obtain ⟨y, hy, rfl, hp2⟩ := hrel
          clear hp
          by_cases hy5 : (y : Int) < 5
          · have hc : y = 0 ∨ y = 1 ∨ y = 2 ∨ y = 3 ∨ y = 4 := by omega
            clear hy hy5
            rcases hc with rfl | rfl | rfl | rfl | rfl
            · rw [show ((0 : Nat) : Int) = 0 from rfl]
              have NE : Nonempty (Wd (Pf w q0 qr q8 q9 qc qt a b (rhoK b 1 0))) := ⟨⟨_, hp2.out⟩⟩
              have a1 : ∀ z : Wd (Pf w q0 qr q8 q9 qc qt a b (rhoK b 1 0)), z.val.cell? ⟨q8, 1, none⟩ = some (Value.int .u64 (W (b 1))) := fun z => z.ok.sb.cell 1 (by decide)
              have a2 : ∀ z : Wd (Pf w q0 qr q8 q9 qc qt a b (rhoK b 1 0)), z.val.cell? ⟨qt, 1, none⟩ = some (Value.int .i64 1) := fun z => z.ok.turn 1 (by decide)
              have q1 : ∀ z : Wd (Pf w q0 qr q8 q9 qc qt a b (rhoK b 1 0)), Calls Tryd.prog 51 #[.int .u64 (W (b 1)), .int .i64 1] z.val fun e w' => e = .returned (.int .u64 (W (rotl (b 1) 1))) ∧ ∃ s' : Wd (Pf w q0 qr q8 q9 qc qt a b (rhoK b 1 0)), w' = s'.val := fun z => in_of_same z (left_is (b 1) 1 (by decide) z.val)
              have Q1 := Lib.hid q1
              clear q1
              have HP2 := Lib.hid hp2.out.drew
              go_upto_region 24 with (fail)
              refine wp_region_quiet_tail 24 (Pf w q0 qr q8 q9 qc qt a b (rhoK b 1 0)) (by kernel_rfl) (by kernel_rfl) HP2.out ?_
              simp only [List.take_succ_cons, List.take_zero, List.drop_succ_cons, List.drop_zero]
              repeat (go_big_quiet_step (with_reducible exact Q1.out _))
              refine wpQuiet_nil ?_
              rintro _ ⟨z, rfl⟩
              have fj := z.ok.sc.fz 10
              have sj : _ = some (Value.int .u64 (W (rhoK b 1 0 10))) := z.ok.sc.cell 10 (by decide)
              clear a1 a2 Q1 HP2 NE hp2
              go_wp2_with fail
              exact ⟨⟨0 + 1, by decide, rfl, Lib.hid ((z.ok.setC 10 _).congC (fun j hj => rho_step b 1 0 1 10 1 (by decide) (by decide) rfl rfl rfl j hj))⟩, by simp [intOf]⟩
            · rw [show ((1 : Nat) : Int) = 1 from rfl]
              have NE : Nonempty (Wd (Pf w q0 qr q8 q9 qc qt a b (rhoK b 1 1))) := ⟨⟨_, hp2.out⟩⟩
              have a1 : ∀ z : Wd (Pf w q0 qr q8 q9 qc qt a b (rhoK b 1 1)), z.val.cell? ⟨q8, 6, none⟩ = some (Value.int .u64 (W (b 6))) := fun z => z.ok.sb.cell 6 (by decide)
              have a2 : ∀ z : Wd (Pf w q0 qr q8 q9 qc qt a b (rhoK b 1 1)), z.val.cell? ⟨qt, 6, none⟩ = some (Value.int .i64 44) := fun z => z.ok.turn 6 (by decide)
              have q1 : ∀ z : Wd (Pf w q0 qr q8 q9 qc qt a b (rhoK b 1 1)), Calls Tryd.prog 51 #[.int .u64 (W (b 6)), .int .i64 44] z.val fun e w' => e = .returned (.int .u64 (W (rotl (b 6) 44))) ∧ ∃ s' : Wd (Pf w q0 qr q8 q9 qc qt a b (rhoK b 1 1)), w' = s'.val := fun z => in_of_same z (left_is (b 6) 44 (by decide) z.val)
              have Q1 := Lib.hid q1
              clear q1
              have HP2 := Lib.hid hp2.out.drew
              go_upto_region 24 with (fail)
              refine wp_region_quiet_tail 24 (Pf w q0 qr q8 q9 qc qt a b (rhoK b 1 1)) (by kernel_rfl) (by kernel_rfl) HP2.out ?_
              simp only [List.take_succ_cons, List.take_zero, List.drop_succ_cons, List.drop_zero]
              repeat (go_big_quiet_step (with_reducible exact Q1.out _))
              refine wpQuiet_nil ?_
              rintro _ ⟨z, rfl⟩
              have fj := z.ok.sc.fz 1
              have sj : _ = some (Value.int .u64 (W (rhoK b 1 1 1))) := z.ok.sc.cell 1 (by decide)
              clear a1 a2 Q1 HP2 NE hp2
              go_wp2_with fail
              exact ⟨⟨1 + 1, by decide, rfl, Lib.hid ((z.ok.setC 1 _).congC (fun j hj => rho_step b 1 1 6 1 44 (by decide) (by decide) rfl rfl rfl j hj))⟩, by simp [intOf]⟩
            · rw [show ((2 : Nat) : Int) = 2 from rfl]
              have NE : Nonempty (Wd (Pf w q0 qr q8 q9 qc qt a b (rhoK b 1 2))) := ⟨⟨_, hp2.out⟩⟩
              have a1 : ∀ z : Wd (Pf w q0 qr q8 q9 qc qt a b (rhoK b 1 2)), z.val.cell? ⟨q8, 11, none⟩ = some (Value.int .u64 (W (b 11))) := fun z => z.ok.sb.cell 11 (by decide)
              have a2 : ∀ z : Wd (Pf w q0 qr q8 q9 qc qt a b (rhoK b 1 2)), z.val.cell? ⟨qt, 11, none⟩ = some (Value.int .i64 10) := fun z => z.ok.turn 11 (by decide)
              have q1 : ∀ z : Wd (Pf w q0 qr q8 q9 qc qt a b (rhoK b 1 2)), Calls Tryd.prog 51 #[.int .u64 (W (b 11)), .int .i64 10] z.val fun e w' => e = .returned (.int .u64 (W (rotl (b 11) 10))) ∧ ∃ s' : Wd (Pf w q0 qr q8 q9 qc qt a b (rhoK b 1 2)), w' = s'.val := fun z => in_of_same z (left_is (b 11) 10 (by decide) z.val)
              have Q1 := Lib.hid q1
              clear q1
              have HP2 := Lib.hid hp2.out.drew
              go_upto_region 24 with (fail)
              refine wp_region_quiet_tail 24 (Pf w q0 qr q8 q9 qc qt a b (rhoK b 1 2)) (by kernel_rfl) (by kernel_rfl) HP2.out ?_
              simp only [List.take_succ_cons, List.take_zero, List.drop_succ_cons, List.drop_zero]
              repeat (go_big_quiet_step (with_reducible exact Q1.out _))
              refine wpQuiet_nil ?_
              rintro _ ⟨z, rfl⟩
              have fj := z.ok.sc.fz 17
              have sj : _ = some (Value.int .u64 (W (rhoK b 1 2 17))) := z.ok.sc.cell 17 (by decide)
              clear a1 a2 Q1 HP2 NE hp2
              go_wp2_with fail
              exact ⟨⟨2 + 1, by decide, rfl, Lib.hid ((z.ok.setC 17 _).congC (fun j hj => rho_step b 1 2 11 17 10 (by decide) (by decide) rfl rfl rfl j hj))⟩, by simp [intOf]⟩
            · rw [show ((3 : Nat) : Int) = 3 from rfl]
              have NE : Nonempty (Wd (Pf w q0 qr q8 q9 qc qt a b (rhoK b 1 3))) := ⟨⟨_, hp2.out⟩⟩
              have a1 : ∀ z : Wd (Pf w q0 qr q8 q9 qc qt a b (rhoK b 1 3)), z.val.cell? ⟨q8, 16, none⟩ = some (Value.int .u64 (W (b 16))) := fun z => z.ok.sb.cell 16 (by decide)
              have a2 : ∀ z : Wd (Pf w q0 qr q8 q9 qc qt a b (rhoK b 1 3)), z.val.cell? ⟨qt, 16, none⟩ = some (Value.int .i64 45) := fun z => z.ok.turn 16 (by decide)
              have q1 : ∀ z : Wd (Pf w q0 qr q8 q9 qc qt a b (rhoK b 1 3)), Calls Tryd.prog 51 #[.int .u64 (W (b 16)), .int .i64 45] z.val fun e w' => e = .returned (.int .u64 (W (rotl (b 16) 45))) ∧ ∃ s' : Wd (Pf w q0 qr q8 q9 qc qt a b (rhoK b 1 3)), w' = s'.val := fun z => in_of_same z (left_is (b 16) 45 (by decide) z.val)
              have Q1 := Lib.hid q1
              clear q1
              have HP2 := Lib.hid hp2.out.drew
              go_upto_region 24 with (fail)
              refine wp_region_quiet_tail 24 (Pf w q0 qr q8 q9 qc qt a b (rhoK b 1 3)) (by kernel_rfl) (by kernel_rfl) HP2.out ?_
              simp only [List.take_succ_cons, List.take_zero, List.drop_succ_cons, List.drop_zero]
              repeat (go_big_quiet_step (with_reducible exact Q1.out _))
              refine wpQuiet_nil ?_
              rintro _ ⟨z, rfl⟩
              have fj := z.ok.sc.fz 8
              have sj : _ = some (Value.int .u64 (W (rhoK b 1 3 8))) := z.ok.sc.cell 8 (by decide)
              clear a1 a2 Q1 HP2 NE hp2
              go_wp2_with fail
              exact ⟨⟨3 + 1, by decide, rfl, Lib.hid ((z.ok.setC 8 _).congC (fun j hj => rho_step b 1 3 16 8 45 (by decide) (by decide) rfl rfl rfl j hj))⟩, by simp [intOf]⟩
            · rw [show ((4 : Nat) : Int) = 4 from rfl]
              have NE : Nonempty (Wd (Pf w q0 qr q8 q9 qc qt a b (rhoK b 1 4))) := ⟨⟨_, hp2.out⟩⟩
              have a1 : ∀ z : Wd (Pf w q0 qr q8 q9 qc qt a b (rhoK b 1 4)), z.val.cell? ⟨q8, 21, none⟩ = some (Value.int .u64 (W (b 21))) := fun z => z.ok.sb.cell 21 (by decide)
              have a2 : ∀ z : Wd (Pf w q0 qr q8 q9 qc qt a b (rhoK b 1 4)), z.val.cell? ⟨qt, 21, none⟩ = some (Value.int .i64 2) := fun z => z.ok.turn 21 (by decide)
              have q1 : ∀ z : Wd (Pf w q0 qr q8 q9 qc qt a b (rhoK b 1 4)), Calls Tryd.prog 51 #[.int .u64 (W (b 21)), .int .i64 2] z.val fun e w' => e = .returned (.int .u64 (W (rotl (b 21) 2))) ∧ ∃ s' : Wd (Pf w q0 qr q8 q9 qc qt a b (rhoK b 1 4)), w' = s'.val := fun z => in_of_same z (left_is (b 21) 2 (by decide) z.val)
              have Q1 := Lib.hid q1
              clear q1
              have HP2 := Lib.hid hp2.out.drew
              go_upto_region 24 with (fail)
              refine wp_region_quiet_tail 24 (Pf w q0 qr q8 q9 qc qt a b (rhoK b 1 4)) (by kernel_rfl) (by kernel_rfl) HP2.out ?_
              simp only [List.take_succ_cons, List.take_zero, List.drop_succ_cons, List.drop_zero]
              repeat (go_big_quiet_step (with_reducible exact Q1.out _))
              refine wpQuiet_nil ?_
              rintro _ ⟨z, rfl⟩
              have fj := z.ok.sc.fz 24
              have sj : _ = some (Value.int .u64 (W (rhoK b 1 4 24))) := z.ok.sc.cell 24 (by decide)
              clear a1 a2 Q1 HP2 NE hp2
              go_wp2_with fail
              exact ⟨⟨4 + 1, by decide, rfl, Lib.hid ((z.ok.setC 24 _).congC (fun j hj => rho_step b 1 4 21 24 2 (by decide) (by decide) rfl rfl rfl j hj))⟩, by simp [intOf]⟩
          · obtain rfl : y = 5 := by omega
            have hpn := Lib.hid (hp2.out.congC (c' := rhoK b (1 + 1) 0) (fun i hi => by
              unfold rhoK
              have : src i < 25 := src_lt i hi
              by_cases h1 : src i % 5 < 1 ∨ (src i % 5 = 1 ∧ src i / 5 < 5)
              · rw [if_pos h1, if_pos (by omega)]
              · rw [if_neg h1, if_neg (by omega)]))
            clear hp2
            go_wp2_with fail
            go_roundw
            case rel => exact ⟨1 + 1, by decide, rfl, hpn⟩
            case measure => simp [intOf]
      · rw [show ((2 : Nat) : Int) = 2 from rfl]
        go_wp2_with fail
        go_loopw [16] (fun y z => ∃ y' : Nat, y' ≤ 5 ∧ y = .int .i64 y' ∧ Hid (Pf w q0 qr q8 q9 qc qt a b (rhoK b 2 y') z)) (fun y _ => 5 - (intOf y).toNat)
        case atStart => exact ⟨0, by decide, rfl, hp⟩
        case round =>
          obtain ⟨y, hy, rfl, hp2⟩ := hrel
          clear hp
          by_cases hy5 : (y : Int) < 5
          · have hc : y = 0 ∨ y = 1 ∨ y = 2 ∨ y = 3 ∨ y = 4 := by omega
            clear hy hy5
            rcases hc with rfl | rfl | rfl | rfl | rfl
            · rw [show ((0 : Nat) : Int) = 0 from rfl]
              have NE : Nonempty (Wd (Pf w q0 qr q8 q9 qc qt a b (rhoK b 2 0))) := ⟨⟨_, hp2.out⟩⟩
              have a1 : ∀ z : Wd (Pf w q0 qr q8 q9 qc qt a b (rhoK b 2 0)), z.val.cell? ⟨q8, 2, none⟩ = some (Value.int .u64 (W (b 2))) := fun z => z.ok.sb.cell 2 (by decide)
              have a2 : ∀ z : Wd (Pf w q0 qr q8 q9 qc qt a b (rhoK b 2 0)), z.val.cell? ⟨qt, 2, none⟩ = some (Value.int .i64 62) := fun z => z.ok.turn 2 (by decide)
              have q1 : ∀ z : Wd (Pf w q0 qr q8 q9 qc qt a b (rhoK b 2 0)), Calls Tryd.prog 51 #[.int .u64 (W (b 2)), .int .i64 62] z.val fun e w' => e = .returned (.int .u64 (W (rotl (b 2) 62))) ∧ ∃ s' : Wd (Pf w q0 qr q8 q9 qc qt a b (rhoK b 2 0)), w' = s'.val := fun z => in_of_same z (left_is (b 2) 62 (by decide) z.val)
              have Q1 := Lib.hid q1
              clear q1
              have HP2 := Lib.hid hp2.out.drew
              go_upto_region 24 with (fail)
              refine wp_region_quiet_tail 24 (Pf w q0 qr q8 q9 qc qt a b (rhoK b 2 0)) (by kernel_rfl) (by kernel_rfl) HP2.out ?_
              simp only [List.take_succ_cons, List.take_zero, List.drop_succ_cons, List.drop_zero]
              repeat (go_big_quiet_step (with_reducible exact Q1.out _))
              refine wpQuiet_nil ?_
              rintro _ ⟨z, rfl⟩
              have fj := z.ok.sc.fz 20
              have sj : _ = some (Value.int .u64 (W (rhoK b 2 0 20))) := z.ok.sc.cell 20 (by decide)
              clear a1 a2 Q1 HP2 NE hp2
              go_wp2_with fail
              exact ⟨⟨0 + 1, by decide, rfl, Lib.hid ((z.ok.setC 20 _).congC (fun j hj => rho_step b 2 0 2 20 62 (by decide) (by decide) rfl rfl rfl j hj))⟩, by simp [intOf]⟩
            · rw [show ((1 : Nat) : Int) = 1 from rfl]
              have NE : Nonempty (Wd (Pf w q0 qr q8 q9 qc qt a b (rhoK b 2 1))) := ⟨⟨_, hp2.out⟩⟩
              have a1 : ∀ z : Wd (Pf w q0 qr q8 q9 qc qt a b (rhoK b 2 1)), z.val.cell? ⟨q8, 7, none⟩ = some (Value.int .u64 (W (b 7))) := fun z => z.ok.sb.cell 7 (by decide)
              have a2 : ∀ z : Wd (Pf w q0 qr q8 q9 qc qt a b (rhoK b 2 1)), z.val.cell? ⟨qt, 7, none⟩ = some (Value.int .i64 6) := fun z => z.ok.turn 7 (by decide)
              have q1 : ∀ z : Wd (Pf w q0 qr q8 q9 qc qt a b (rhoK b 2 1)), Calls Tryd.prog 51 #[.int .u64 (W (b 7)), .int .i64 6] z.val fun e w' => e = .returned (.int .u64 (W (rotl (b 7) 6))) ∧ ∃ s' : Wd (Pf w q0 qr q8 q9 qc qt a b (rhoK b 2 1)), w' = s'.val := fun z => in_of_same z (left_is (b 7) 6 (by decide) z.val)
              have Q1 := Lib.hid q1
              clear q1
              have HP2 := Lib.hid hp2.out.drew
              go_upto_region 24 with (fail)
              refine wp_region_quiet_tail 24 (Pf w q0 qr q8 q9 qc qt a b (rhoK b 2 1)) (by kernel_rfl) (by kernel_rfl) HP2.out ?_
              simp only [List.take_succ_cons, List.take_zero, List.drop_succ_cons, List.drop_zero]
              repeat (go_big_quiet_step (with_reducible exact Q1.out _))
              refine wpQuiet_nil ?_
              rintro _ ⟨z, rfl⟩
              have fj := z.ok.sc.fz 11
              have sj : _ = some (Value.int .u64 (W (rhoK b 2 1 11))) := z.ok.sc.cell 11 (by decide)
              clear a1 a2 Q1 HP2 NE hp2
              go_wp2_with fail
              exact ⟨⟨1 + 1, by decide, rfl, Lib.hid ((z.ok.setC 11 _).congC (fun j hj => rho_step b 2 1 7 11 6 (by decide) (by decide) rfl rfl rfl j hj))⟩, by simp [intOf]⟩
            · rw [show ((2 : Nat) : Int) = 2 from rfl]
              have NE : Nonempty (Wd (Pf w q0 qr q8 q9 qc qt a b (rhoK b 2 2))) := ⟨⟨_, hp2.out⟩⟩
              have a1 : ∀ z : Wd (Pf w q0 qr q8 q9 qc qt a b (rhoK b 2 2)), z.val.cell? ⟨q8, 12, none⟩ = some (Value.int .u64 (W (b 12))) := fun z => z.ok.sb.cell 12 (by decide)
              have a2 : ∀ z : Wd (Pf w q0 qr q8 q9 qc qt a b (rhoK b 2 2)), z.val.cell? ⟨qt, 12, none⟩ = some (Value.int .i64 43) := fun z => z.ok.turn 12 (by decide)
              have q1 : ∀ z : Wd (Pf w q0 qr q8 q9 qc qt a b (rhoK b 2 2)), Calls Tryd.prog 51 #[.int .u64 (W (b 12)), .int .i64 43] z.val fun e w' => e = .returned (.int .u64 (W (rotl (b 12) 43))) ∧ ∃ s' : Wd (Pf w q0 qr q8 q9 qc qt a b (rhoK b 2 2)), w' = s'.val := fun z => in_of_same z (left_is (b 12) 43 (by decide) z.val)
              have Q1 := Lib.hid q1
              clear q1
              have HP2 := Lib.hid hp2.out.drew
              go_upto_region 24 with (fail)
              refine wp_region_quiet_tail 24 (Pf w q0 qr q8 q9 qc qt a b (rhoK b 2 2)) (by kernel_rfl) (by kernel_rfl) HP2.out ?_
              simp only [List.take_succ_cons, List.take_zero, List.drop_succ_cons, List.drop_zero]
              repeat (go_big_quiet_step (with_reducible exact Q1.out _))
              refine wpQuiet_nil ?_
              rintro _ ⟨z, rfl⟩
              have fj := z.ok.sc.fz 2
              have sj : _ = some (Value.int .u64 (W (rhoK b 2 2 2))) := z.ok.sc.cell 2 (by decide)
              clear a1 a2 Q1 HP2 NE hp2
              go_wp2_with fail
              exact ⟨⟨2 + 1, by decide, rfl, Lib.hid ((z.ok.setC 2 _).congC (fun j hj => rho_step b 2 2 12 2 43 (by decide) (by decide) rfl rfl rfl j hj))⟩, by simp [intOf]⟩
            · rw [show ((3 : Nat) : Int) = 3 from rfl]
              have NE : Nonempty (Wd (Pf w q0 qr q8 q9 qc qt a b (rhoK b 2 3))) := ⟨⟨_, hp2.out⟩⟩
              have a1 : ∀ z : Wd (Pf w q0 qr q8 q9 qc qt a b (rhoK b 2 3)), z.val.cell? ⟨q8, 17, none⟩ = some (Value.int .u64 (W (b 17))) := fun z => z.ok.sb.cell 17 (by decide)
              have a2 : ∀ z : Wd (Pf w q0 qr q8 q9 qc qt a b (rhoK b 2 3)), z.val.cell? ⟨qt, 17, none⟩ = some (Value.int .i64 15) := fun z => z.ok.turn 17 (by decide)
              have q1 : ∀ z : Wd (Pf w q0 qr q8 q9 qc qt a b (rhoK b 2 3)), Calls Tryd.prog 51 #[.int .u64 (W (b 17)), .int .i64 15] z.val fun e w' => e = .returned (.int .u64 (W (rotl (b 17) 15))) ∧ ∃ s' : Wd (Pf w q0 qr q8 q9 qc qt a b (rhoK b 2 3)), w' = s'.val := fun z => in_of_same z (left_is (b 17) 15 (by decide) z.val)
              have Q1 := Lib.hid q1
              clear q1
              have HP2 := Lib.hid hp2.out.drew
              go_upto_region 24 with (fail)
              refine wp_region_quiet_tail 24 (Pf w q0 qr q8 q9 qc qt a b (rhoK b 2 3)) (by kernel_rfl) (by kernel_rfl) HP2.out ?_
              simp only [List.take_succ_cons, List.take_zero, List.drop_succ_cons, List.drop_zero]
              repeat (go_big_quiet_step (with_reducible exact Q1.out _))
              refine wpQuiet_nil ?_
              rintro _ ⟨z, rfl⟩
              have fj := z.ok.sc.fz 18
              have sj : _ = some (Value.int .u64 (W (rhoK b 2 3 18))) := z.ok.sc.cell 18 (by decide)
              clear a1 a2 Q1 HP2 NE hp2
              go_wp2_with fail
              exact ⟨⟨3 + 1, by decide, rfl, Lib.hid ((z.ok.setC 18 _).congC (fun j hj => rho_step b 2 3 17 18 15 (by decide) (by decide) rfl rfl rfl j hj))⟩, by simp [intOf]⟩
            · rw [show ((4 : Nat) : Int) = 4 from rfl]
              have NE : Nonempty (Wd (Pf w q0 qr q8 q9 qc qt a b (rhoK b 2 4))) := ⟨⟨_, hp2.out⟩⟩
              have a1 : ∀ z : Wd (Pf w q0 qr q8 q9 qc qt a b (rhoK b 2 4)), z.val.cell? ⟨q8, 22, none⟩ = some (Value.int .u64 (W (b 22))) := fun z => z.ok.sb.cell 22 (by decide)
              have a2 : ∀ z : Wd (Pf w q0 qr q8 q9 qc qt a b (rhoK b 2 4)), z.val.cell? ⟨qt, 22, none⟩ = some (Value.int .i64 61) := fun z => z.ok.turn 22 (by decide)
              have q1 : ∀ z : Wd (Pf w q0 qr q8 q9 qc qt a b (rhoK b 2 4)), Calls Tryd.prog 51 #[.int .u64 (W (b 22)), .int .i64 61] z.val fun e w' => e = .returned (.int .u64 (W (rotl (b 22) 61))) ∧ ∃ s' : Wd (Pf w q0 qr q8 q9 qc qt a b (rhoK b 2 4)), w' = s'.val := fun z => in_of_same z (left_is (b 22) 61 (by decide) z.val)
              have Q1 := Lib.hid q1
              clear q1
              have HP2 := Lib.hid hp2.out.drew
              go_upto_region 24 with (fail)
              refine wp_region_quiet_tail 24 (Pf w q0 qr q8 q9 qc qt a b (rhoK b 2 4)) (by kernel_rfl) (by kernel_rfl) HP2.out ?_
              simp only [List.take_succ_cons, List.take_zero, List.drop_succ_cons, List.drop_zero]
              repeat (go_big_quiet_step (with_reducible exact Q1.out _))
              refine wpQuiet_nil ?_
              rintro _ ⟨z, rfl⟩
              have fj := z.ok.sc.fz 9
              have sj : _ = some (Value.int .u64 (W (rhoK b 2 4 9))) := z.ok.sc.cell 9 (by decide)
              clear a1 a2 Q1 HP2 NE hp2
              go_wp2_with fail
              exact ⟨⟨4 + 1, by decide, rfl, Lib.hid ((z.ok.setC 9 _).congC (fun j hj => rho_step b 2 4 22 9 61 (by decide) (by decide) rfl rfl rfl j hj))⟩, by simp [intOf]⟩
          · obtain rfl : y = 5 := by omega
            have hpn := Lib.hid (hp2.out.congC (c' := rhoK b (2 + 1) 0) (fun i hi => by
              unfold rhoK
              have : src i < 25 := src_lt i hi
              by_cases h1 : src i % 5 < 2 ∨ (src i % 5 = 2 ∧ src i / 5 < 5)
              · rw [if_pos h1, if_pos (by omega)]
              · rw [if_neg h1, if_neg (by omega)]))
            clear hp2
            go_wp2_with fail
            go_roundw
            case rel => exact ⟨2 + 1, by decide, rfl, hpn⟩
            case measure => simp [intOf]
      · rw [show ((3 : Nat) : Int) = 3 from rfl]
        go_wp2_with fail
        go_loopw [16] (fun y z => ∃ y' : Nat, y' ≤ 5 ∧ y = .int .i64 y' ∧ Hid (Pf w q0 qr q8 q9 qc qt a b (rhoK b 3 y') z)) (fun y _ => 5 - (intOf y).toNat)
        case atStart => exact ⟨0, by decide, rfl, hp⟩
        case round =>
          obtain ⟨y, hy, rfl, hp2⟩ := hrel
          clear hp
          by_cases hy5 : (y : Int) < 5
          · have hc : y = 0 ∨ y = 1 ∨ y = 2 ∨ y = 3 ∨ y = 4 := by omega
            clear hy hy5
            rcases hc with rfl | rfl | rfl | rfl | rfl
            · rw [show ((0 : Nat) : Int) = 0 from rfl]
              have NE : Nonempty (Wd (Pf w q0 qr q8 q9 qc qt a b (rhoK b 3 0))) := ⟨⟨_, hp2.out⟩⟩
              have a1 : ∀ z : Wd (Pf w q0 qr q8 q9 qc qt a b (rhoK b 3 0)), z.val.cell? ⟨q8, 3, none⟩ = some (Value.int .u64 (W (b 3))) := fun z => z.ok.sb.cell 3 (by decide)
              have a2 : ∀ z : Wd (Pf w q0 qr q8 q9 qc qt a b (rhoK b 3 0)), z.val.cell? ⟨qt, 3, none⟩ = some (Value.int .i64 28) := fun z => z.ok.turn 3 (by decide)
              have q1 : ∀ z : Wd (Pf w q0 qr q8 q9 qc qt a b (rhoK b 3 0)), Calls Tryd.prog 51 #[.int .u64 (W (b 3)), .int .i64 28] z.val fun e w' => e = .returned (.int .u64 (W (rotl (b 3) 28))) ∧ ∃ s' : Wd (Pf w q0 qr q8 q9 qc qt a b (rhoK b 3 0)), w' = s'.val := fun z => in_of_same z (left_is (b 3) 28 (by decide) z.val)
              have Q1 := Lib.hid q1
              clear q1
              have HP2 := Lib.hid hp2.out.drew
              go_upto_region 24 with (fail)
              refine wp_region_quiet_tail 24 (Pf w q0 qr q8 q9 qc qt a b (rhoK b 3 0)) (by kernel_rfl) (by kernel_rfl) HP2.out ?_
              simp only [List.take_succ_cons, List.take_zero, List.drop_succ_cons, List.drop_zero]
              repeat (go_big_quiet_step (with_reducible exact Q1.out _))
              refine wpQuiet_nil ?_
              rintro _ ⟨z, rfl⟩
              have fj := z.ok.sc.fz 5
              have sj : _ = some (Value.int .u64 (W (rhoK b 3 0 5))) := z.ok.sc.cell 5 (by decide)
              clear a1 a2 Q1 HP2 NE hp2
              go_wp2_with fail
              exact ⟨⟨0 + 1, by decide, rfl, Lib.hid ((z.ok.setC 5 _).congC (fun j hj => rho_step b 3 0 3 5 28 (by decide) (by decide) rfl rfl rfl j hj))⟩, by simp [intOf]⟩
            · rw [show ((1 : Nat) : Int) = 1 from rfl]
              have NE : Nonempty (Wd (Pf w q0 qr q8 q9 qc qt a b (rhoK b 3 1))) := ⟨⟨_, hp2.out⟩⟩
              have a1 : ∀ z : Wd (Pf w q0 qr q8 q9 qc qt a b (rhoK b 3 1)), z.val.cell? ⟨q8, 8, none⟩ = some (Value.int .u64 (W (b 8))) := fun z => z.ok.sb.cell 8 (by decide)
              have a2 : ∀ z : Wd (Pf w q0 qr q8 q9 qc qt a b (rhoK b 3 1)), z.val.cell? ⟨qt, 8, none⟩ = some (Value.int .i64 55) := fun z => z.ok.turn 8 (by decide)
              have q1 : ∀ z : Wd (Pf w q0 qr q8 q9 qc qt a b (rhoK b 3 1)), Calls Tryd.prog 51 #[.int .u64 (W (b 8)), .int .i64 55] z.val fun e w' => e = .returned (.int .u64 (W (rotl (b 8) 55))) ∧ ∃ s' : Wd (Pf w q0 qr q8 q9 qc qt a b (rhoK b 3 1)), w' = s'.val := fun z => in_of_same z (left_is (b 8) 55 (by decide) z.val)
              have Q1 := Lib.hid q1
              clear q1
              have HP2 := Lib.hid hp2.out.drew
              go_upto_region 24 with (fail)
              refine wp_region_quiet_tail 24 (Pf w q0 qr q8 q9 qc qt a b (rhoK b 3 1)) (by kernel_rfl) (by kernel_rfl) HP2.out ?_
              simp only [List.take_succ_cons, List.take_zero, List.drop_succ_cons, List.drop_zero]
              repeat (go_big_quiet_step (with_reducible exact Q1.out _))
              refine wpQuiet_nil ?_
              rintro _ ⟨z, rfl⟩
              have fj := z.ok.sc.fz 21
              have sj : _ = some (Value.int .u64 (W (rhoK b 3 1 21))) := z.ok.sc.cell 21 (by decide)
              clear a1 a2 Q1 HP2 NE hp2
              go_wp2_with fail
              exact ⟨⟨1 + 1, by decide, rfl, Lib.hid ((z.ok.setC 21 _).congC (fun j hj => rho_step b 3 1 8 21 55 (by decide) (by decide) rfl rfl rfl j hj))⟩, by simp [intOf]⟩
            · rw [show ((2 : Nat) : Int) = 2 from rfl]
              have NE : Nonempty (Wd (Pf w q0 qr q8 q9 qc qt a b (rhoK b 3 2))) := ⟨⟨_, hp2.out⟩⟩
              have a1 : ∀ z : Wd (Pf w q0 qr q8 q9 qc qt a b (rhoK b 3 2)), z.val.cell? ⟨q8, 13, none⟩ = some (Value.int .u64 (W (b 13))) := fun z => z.ok.sb.cell 13 (by decide)
              have a2 : ∀ z : Wd (Pf w q0 qr q8 q9 qc qt a b (rhoK b 3 2)), z.val.cell? ⟨qt, 13, none⟩ = some (Value.int .i64 25) := fun z => z.ok.turn 13 (by decide)
              have q1 : ∀ z : Wd (Pf w q0 qr q8 q9 qc qt a b (rhoK b 3 2)), Calls Tryd.prog 51 #[.int .u64 (W (b 13)), .int .i64 25] z.val fun e w' => e = .returned (.int .u64 (W (rotl (b 13) 25))) ∧ ∃ s' : Wd (Pf w q0 qr q8 q9 qc qt a b (rhoK b 3 2)), w' = s'.val := fun z => in_of_same z (left_is (b 13) 25 (by decide) z.val)
              have Q1 := Lib.hid q1
              clear q1
              have HP2 := Lib.hid hp2.out.drew
              go_upto_region 24 with (fail)
              refine wp_region_quiet_tail 24 (Pf w q0 qr q8 q9 qc qt a b (rhoK b 3 2)) (by kernel_rfl) (by kernel_rfl) HP2.out ?_
              simp only [List.take_succ_cons, List.take_zero, List.drop_succ_cons, List.drop_zero]
              repeat (go_big_quiet_step (with_reducible exact Q1.out _))
              refine wpQuiet_nil ?_
              rintro _ ⟨z, rfl⟩
              have fj := z.ok.sc.fz 12
              have sj : _ = some (Value.int .u64 (W (rhoK b 3 2 12))) := z.ok.sc.cell 12 (by decide)
              clear a1 a2 Q1 HP2 NE hp2
              go_wp2_with fail
              exact ⟨⟨2 + 1, by decide, rfl, Lib.hid ((z.ok.setC 12 _).congC (fun j hj => rho_step b 3 2 13 12 25 (by decide) (by decide) rfl rfl rfl j hj))⟩, by simp [intOf]⟩
            · rw [show ((3 : Nat) : Int) = 3 from rfl]
              have NE : Nonempty (Wd (Pf w q0 qr q8 q9 qc qt a b (rhoK b 3 3))) := ⟨⟨_, hp2.out⟩⟩
              have a1 : ∀ z : Wd (Pf w q0 qr q8 q9 qc qt a b (rhoK b 3 3)), z.val.cell? ⟨q8, 18, none⟩ = some (Value.int .u64 (W (b 18))) := fun z => z.ok.sb.cell 18 (by decide)
              have a2 : ∀ z : Wd (Pf w q0 qr q8 q9 qc qt a b (rhoK b 3 3)), z.val.cell? ⟨qt, 18, none⟩ = some (Value.int .i64 21) := fun z => z.ok.turn 18 (by decide)
              have q1 : ∀ z : Wd (Pf w q0 qr q8 q9 qc qt a b (rhoK b 3 3)), Calls Tryd.prog 51 #[.int .u64 (W (b 18)), .int .i64 21] z.val fun e w' => e = .returned (.int .u64 (W (rotl (b 18) 21))) ∧ ∃ s' : Wd (Pf w q0 qr q8 q9 qc qt a b (rhoK b 3 3)), w' = s'.val := fun z => in_of_same z (left_is (b 18) 21 (by decide) z.val)
              have Q1 := Lib.hid q1
              clear q1
              have HP2 := Lib.hid hp2.out.drew
              go_upto_region 24 with (fail)
              refine wp_region_quiet_tail 24 (Pf w q0 qr q8 q9 qc qt a b (rhoK b 3 3)) (by kernel_rfl) (by kernel_rfl) HP2.out ?_
              simp only [List.take_succ_cons, List.take_zero, List.drop_succ_cons, List.drop_zero]
              repeat (go_big_quiet_step (with_reducible exact Q1.out _))
              refine wpQuiet_nil ?_
              rintro _ ⟨z, rfl⟩
              have fj := z.ok.sc.fz 3
              have sj : _ = some (Value.int .u64 (W (rhoK b 3 3 3))) := z.ok.sc.cell 3 (by decide)
              clear a1 a2 Q1 HP2 NE hp2
              go_wp2_with fail
              exact ⟨⟨3 + 1, by decide, rfl, Lib.hid ((z.ok.setC 3 _).congC (fun j hj => rho_step b 3 3 18 3 21 (by decide) (by decide) rfl rfl rfl j hj))⟩, by simp [intOf]⟩
            · rw [show ((4 : Nat) : Int) = 4 from rfl]
              have NE : Nonempty (Wd (Pf w q0 qr q8 q9 qc qt a b (rhoK b 3 4))) := ⟨⟨_, hp2.out⟩⟩
              have a1 : ∀ z : Wd (Pf w q0 qr q8 q9 qc qt a b (rhoK b 3 4)), z.val.cell? ⟨q8, 23, none⟩ = some (Value.int .u64 (W (b 23))) := fun z => z.ok.sb.cell 23 (by decide)
              have a2 : ∀ z : Wd (Pf w q0 qr q8 q9 qc qt a b (rhoK b 3 4)), z.val.cell? ⟨qt, 23, none⟩ = some (Value.int .i64 56) := fun z => z.ok.turn 23 (by decide)
              have q1 : ∀ z : Wd (Pf w q0 qr q8 q9 qc qt a b (rhoK b 3 4)), Calls Tryd.prog 51 #[.int .u64 (W (b 23)), .int .i64 56] z.val fun e w' => e = .returned (.int .u64 (W (rotl (b 23) 56))) ∧ ∃ s' : Wd (Pf w q0 qr q8 q9 qc qt a b (rhoK b 3 4)), w' = s'.val := fun z => in_of_same z (left_is (b 23) 56 (by decide) z.val)
              have Q1 := Lib.hid q1
              clear q1
              have HP2 := Lib.hid hp2.out.drew
              go_upto_region 24 with (fail)
              refine wp_region_quiet_tail 24 (Pf w q0 qr q8 q9 qc qt a b (rhoK b 3 4)) (by kernel_rfl) (by kernel_rfl) HP2.out ?_
              simp only [List.take_succ_cons, List.take_zero, List.drop_succ_cons, List.drop_zero]
              repeat (go_big_quiet_step (with_reducible exact Q1.out _))
              refine wpQuiet_nil ?_
              rintro _ ⟨z, rfl⟩
              have fj := z.ok.sc.fz 19
              have sj : _ = some (Value.int .u64 (W (rhoK b 3 4 19))) := z.ok.sc.cell 19 (by decide)
              clear a1 a2 Q1 HP2 NE hp2
              go_wp2_with fail
              exact ⟨⟨4 + 1, by decide, rfl, Lib.hid ((z.ok.setC 19 _).congC (fun j hj => rho_step b 3 4 23 19 56 (by decide) (by decide) rfl rfl rfl j hj))⟩, by simp [intOf]⟩
          · obtain rfl : y = 5 := by omega
            have hpn := Lib.hid (hp2.out.congC (c' := rhoK b (3 + 1) 0) (fun i hi => by
              unfold rhoK
              have : src i < 25 := src_lt i hi
              by_cases h1 : src i % 5 < 3 ∨ (src i % 5 = 3 ∧ src i / 5 < 5)
              · rw [if_pos h1, if_pos (by omega)]
              · rw [if_neg h1, if_neg (by omega)]))
            clear hp2
            go_wp2_with fail
            go_roundw
            case rel => exact ⟨3 + 1, by decide, rfl, hpn⟩
            case measure => simp [intOf]
      · rw [show ((4 : Nat) : Int) = 4 from rfl]
        go_wp2_with fail
        go_loopw [16] (fun y z => ∃ y' : Nat, y' ≤ 5 ∧ y = .int .i64 y' ∧ Hid (Pf w q0 qr q8 q9 qc qt a b (rhoK b 4 y') z)) (fun y _ => 5 - (intOf y).toNat)
        case atStart => exact ⟨0, by decide, rfl, hp⟩
        case round =>
          obtain ⟨y, hy, rfl, hp2⟩ := hrel
          clear hp
          by_cases hy5 : (y : Int) < 5
          · have hc : y = 0 ∨ y = 1 ∨ y = 2 ∨ y = 3 ∨ y = 4 := by omega
            clear hy hy5
            rcases hc with rfl | rfl | rfl | rfl | rfl
            · rw [show ((0 : Nat) : Int) = 0 from rfl]
              have NE : Nonempty (Wd (Pf w q0 qr q8 q9 qc qt a b (rhoK b 4 0))) := ⟨⟨_, hp2.out⟩⟩
              have a1 : ∀ z : Wd (Pf w q0 qr q8 q9 qc qt a b (rhoK b 4 0)), z.val.cell? ⟨q8, 4, none⟩ = some (Value.int .u64 (W (b 4))) := fun z => z.ok.sb.cell 4 (by decide)
              have a2 : ∀ z : Wd (Pf w q0 qr q8 q9 qc qt a b (rhoK b 4 0)), z.val.cell? ⟨qt, 4, none⟩ = some (Value.int .i64 27) := fun z => z.ok.turn 4 (by decide)
              have q1 : ∀ z : Wd (Pf w q0 qr q8 q9 qc qt a b (rhoK b 4 0)), Calls Tryd.prog 51 #[.int .u64 (W (b 4)), .int .i64 27] z.val fun e w' => e = .returned (.int .u64 (W (rotl (b 4) 27))) ∧ ∃ s' : Wd (Pf w q0 qr q8 q9 qc qt a b (rhoK b 4 0)), w' = s'.val := fun z => in_of_same z (left_is (b 4) 27 (by decide) z.val)
              have Q1 := Lib.hid q1
              clear q1
              have HP2 := Lib.hid hp2.out.drew
              go_upto_region 24 with (fail)
              refine wp_region_quiet_tail 24 (Pf w q0 qr q8 q9 qc qt a b (rhoK b 4 0)) (by kernel_rfl) (by kernel_rfl) HP2.out ?_
              simp only [List.take_succ_cons, List.take_zero, List.drop_succ_cons, List.drop_zero]
              repeat (go_big_quiet_step (with_reducible exact Q1.out _))
              refine wpQuiet_nil ?_
              rintro _ ⟨z, rfl⟩
              have fj := z.ok.sc.fz 15
              have sj : _ = some (Value.int .u64 (W (rhoK b 4 0 15))) := z.ok.sc.cell 15 (by decide)
              clear a1 a2 Q1 HP2 NE hp2
              go_wp2_with fail
              exact ⟨⟨0 + 1, by decide, rfl, Lib.hid ((z.ok.setC 15 _).congC (fun j hj => rho_step b 4 0 4 15 27 (by decide) (by decide) rfl rfl rfl j hj))⟩, by simp [intOf]⟩
            · rw [show ((1 : Nat) : Int) = 1 from rfl]
              have NE : Nonempty (Wd (Pf w q0 qr q8 q9 qc qt a b (rhoK b 4 1))) := ⟨⟨_, hp2.out⟩⟩
              have a1 : ∀ z : Wd (Pf w q0 qr q8 q9 qc qt a b (rhoK b 4 1)), z.val.cell? ⟨q8, 9, none⟩ = some (Value.int .u64 (W (b 9))) := fun z => z.ok.sb.cell 9 (by decide)
              have a2 : ∀ z : Wd (Pf w q0 qr q8 q9 qc qt a b (rhoK b 4 1)), z.val.cell? ⟨qt, 9, none⟩ = some (Value.int .i64 20) := fun z => z.ok.turn 9 (by decide)
              have q1 : ∀ z : Wd (Pf w q0 qr q8 q9 qc qt a b (rhoK b 4 1)), Calls Tryd.prog 51 #[.int .u64 (W (b 9)), .int .i64 20] z.val fun e w' => e = .returned (.int .u64 (W (rotl (b 9) 20))) ∧ ∃ s' : Wd (Pf w q0 qr q8 q9 qc qt a b (rhoK b 4 1)), w' = s'.val := fun z => in_of_same z (left_is (b 9) 20 (by decide) z.val)
              have Q1 := Lib.hid q1
              clear q1
              have HP2 := Lib.hid hp2.out.drew
              go_upto_region 24 with (fail)
              refine wp_region_quiet_tail 24 (Pf w q0 qr q8 q9 qc qt a b (rhoK b 4 1)) (by kernel_rfl) (by kernel_rfl) HP2.out ?_
              simp only [List.take_succ_cons, List.take_zero, List.drop_succ_cons, List.drop_zero]
              repeat (go_big_quiet_step (with_reducible exact Q1.out _))
              refine wpQuiet_nil ?_
              rintro _ ⟨z, rfl⟩
              have fj := z.ok.sc.fz 6
              have sj : _ = some (Value.int .u64 (W (rhoK b 4 1 6))) := z.ok.sc.cell 6 (by decide)
              clear a1 a2 Q1 HP2 NE hp2
              go_wp2_with fail
              exact ⟨⟨1 + 1, by decide, rfl, Lib.hid ((z.ok.setC 6 _).congC (fun j hj => rho_step b 4 1 9 6 20 (by decide) (by decide) rfl rfl rfl j hj))⟩, by simp [intOf]⟩
            · rw [show ((2 : Nat) : Int) = 2 from rfl]
              have NE : Nonempty (Wd (Pf w q0 qr q8 q9 qc qt a b (rhoK b 4 2))) := ⟨⟨_, hp2.out⟩⟩
              have a1 : ∀ z : Wd (Pf w q0 qr q8 q9 qc qt a b (rhoK b 4 2)), z.val.cell? ⟨q8, 14, none⟩ = some (Value.int .u64 (W (b 14))) := fun z => z.ok.sb.cell 14 (by decide)
              have a2 : ∀ z : Wd (Pf w q0 qr q8 q9 qc qt a b (rhoK b 4 2)), z.val.cell? ⟨qt, 14, none⟩ = some (Value.int .i64 39) := fun z => z.ok.turn 14 (by decide)
              have q1 : ∀ z : Wd (Pf w q0 qr q8 q9 qc qt a b (rhoK b 4 2)), Calls Tryd.prog 51 #[.int .u64 (W (b 14)), .int .i64 39] z.val fun e w' => e = .returned (.int .u64 (W (rotl (b 14) 39))) ∧ ∃ s' : Wd (Pf w q0 qr q8 q9 qc qt a b (rhoK b 4 2)), w' = s'.val := fun z => in_of_same z (left_is (b 14) 39 (by decide) z.val)
              have Q1 := Lib.hid q1
              clear q1
              have HP2 := Lib.hid hp2.out.drew
              go_upto_region 24 with (fail)
              refine wp_region_quiet_tail 24 (Pf w q0 qr q8 q9 qc qt a b (rhoK b 4 2)) (by kernel_rfl) (by kernel_rfl) HP2.out ?_
              simp only [List.take_succ_cons, List.take_zero, List.drop_succ_cons, List.drop_zero]
              repeat (go_big_quiet_step (with_reducible exact Q1.out _))
              refine wpQuiet_nil ?_
              rintro _ ⟨z, rfl⟩
              have fj := z.ok.sc.fz 22
              have sj : _ = some (Value.int .u64 (W (rhoK b 4 2 22))) := z.ok.sc.cell 22 (by decide)
              clear a1 a2 Q1 HP2 NE hp2
              go_wp2_with fail
              exact ⟨⟨2 + 1, by decide, rfl, Lib.hid ((z.ok.setC 22 _).congC (fun j hj => rho_step b 4 2 14 22 39 (by decide) (by decide) rfl rfl rfl j hj))⟩, by simp [intOf]⟩
            · rw [show ((3 : Nat) : Int) = 3 from rfl]
              have NE : Nonempty (Wd (Pf w q0 qr q8 q9 qc qt a b (rhoK b 4 3))) := ⟨⟨_, hp2.out⟩⟩
              have a1 : ∀ z : Wd (Pf w q0 qr q8 q9 qc qt a b (rhoK b 4 3)), z.val.cell? ⟨q8, 19, none⟩ = some (Value.int .u64 (W (b 19))) := fun z => z.ok.sb.cell 19 (by decide)
              have a2 : ∀ z : Wd (Pf w q0 qr q8 q9 qc qt a b (rhoK b 4 3)), z.val.cell? ⟨qt, 19, none⟩ = some (Value.int .i64 8) := fun z => z.ok.turn 19 (by decide)
              have q1 : ∀ z : Wd (Pf w q0 qr q8 q9 qc qt a b (rhoK b 4 3)), Calls Tryd.prog 51 #[.int .u64 (W (b 19)), .int .i64 8] z.val fun e w' => e = .returned (.int .u64 (W (rotl (b 19) 8))) ∧ ∃ s' : Wd (Pf w q0 qr q8 q9 qc qt a b (rhoK b 4 3)), w' = s'.val := fun z => in_of_same z (left_is (b 19) 8 (by decide) z.val)
              have Q1 := Lib.hid q1
              clear q1
              have HP2 := Lib.hid hp2.out.drew
              go_upto_region 24 with (fail)
              refine wp_region_quiet_tail 24 (Pf w q0 qr q8 q9 qc qt a b (rhoK b 4 3)) (by kernel_rfl) (by kernel_rfl) HP2.out ?_
              simp only [List.take_succ_cons, List.take_zero, List.drop_succ_cons, List.drop_zero]
              repeat (go_big_quiet_step (with_reducible exact Q1.out _))
              refine wpQuiet_nil ?_
              rintro _ ⟨z, rfl⟩
              have fj := z.ok.sc.fz 13
              have sj : _ = some (Value.int .u64 (W (rhoK b 4 3 13))) := z.ok.sc.cell 13 (by decide)
              clear a1 a2 Q1 HP2 NE hp2
              go_wp2_with fail
              exact ⟨⟨3 + 1, by decide, rfl, Lib.hid ((z.ok.setC 13 _).congC (fun j hj => rho_step b 4 3 19 13 8 (by decide) (by decide) rfl rfl rfl j hj))⟩, by simp [intOf]⟩
            · rw [show ((4 : Nat) : Int) = 4 from rfl]
              have NE : Nonempty (Wd (Pf w q0 qr q8 q9 qc qt a b (rhoK b 4 4))) := ⟨⟨_, hp2.out⟩⟩
              have a1 : ∀ z : Wd (Pf w q0 qr q8 q9 qc qt a b (rhoK b 4 4)), z.val.cell? ⟨q8, 24, none⟩ = some (Value.int .u64 (W (b 24))) := fun z => z.ok.sb.cell 24 (by decide)
              have a2 : ∀ z : Wd (Pf w q0 qr q8 q9 qc qt a b (rhoK b 4 4)), z.val.cell? ⟨qt, 24, none⟩ = some (Value.int .i64 14) := fun z => z.ok.turn 24 (by decide)
              have q1 : ∀ z : Wd (Pf w q0 qr q8 q9 qc qt a b (rhoK b 4 4)), Calls Tryd.prog 51 #[.int .u64 (W (b 24)), .int .i64 14] z.val fun e w' => e = .returned (.int .u64 (W (rotl (b 24) 14))) ∧ ∃ s' : Wd (Pf w q0 qr q8 q9 qc qt a b (rhoK b 4 4)), w' = s'.val := fun z => in_of_same z (left_is (b 24) 14 (by decide) z.val)
              have Q1 := Lib.hid q1
              clear q1
              have HP2 := Lib.hid hp2.out.drew
              go_upto_region 24 with (fail)
              refine wp_region_quiet_tail 24 (Pf w q0 qr q8 q9 qc qt a b (rhoK b 4 4)) (by kernel_rfl) (by kernel_rfl) HP2.out ?_
              simp only [List.take_succ_cons, List.take_zero, List.drop_succ_cons, List.drop_zero]
              repeat (go_big_quiet_step (with_reducible exact Q1.out _))
              refine wpQuiet_nil ?_
              rintro _ ⟨z, rfl⟩
              have fj := z.ok.sc.fz 4
              have sj : _ = some (Value.int .u64 (W (rhoK b 4 4 4))) := z.ok.sc.cell 4 (by decide)
              clear a1 a2 Q1 HP2 NE hp2
              go_wp2_with fail
              exact ⟨⟨4 + 1, by decide, rfl, Lib.hid ((z.ok.setC 4 _).congC (fun j hj => rho_step b 4 4 24 4 14 (by decide) (by decide) rfl rfl rfl j hj))⟩, by simp [intOf]⟩
          · obtain rfl : y = 5 := by omega
            have hpn := Lib.hid (hp2.out.congC (c' := rhoK b (4 + 1) 0) (fun i hi => by
              unfold rhoK
              have : src i < 25 := src_lt i hi
              by_cases h1 : src i % 5 < 4 ∨ (src i % 5 = 4 ∧ src i / 5 < 5)
              · rw [if_pos h1, if_pos (by omega)]
              · rw [if_neg h1, if_neg (by omega)]))
            clear hp2
            go_wp2_with fail
            go_roundw
            case rel => exact ⟨4 + 1, by decide, rfl, hpn⟩
            case measure => simp [intOf]
    · obtain rfl : x = 5 := by omega
      have hpx := Lib.hid (hp.out.congC (c' := rhopi b) (fun i hi => by unfold rhoK; rw [if_pos (by omega)]))
      clear hp
      go_wp2_with fail
      exact HEX.out _ _ _ _ _ _ _ _ _ _ _ _ _ _ _ _ _ _ _ _ _ _ _ _ _ _ _ _ _ _ _ _ _ _ hpx.out
end Kc
end Go.Proofs.YtnfcjangminhoaaDoor
