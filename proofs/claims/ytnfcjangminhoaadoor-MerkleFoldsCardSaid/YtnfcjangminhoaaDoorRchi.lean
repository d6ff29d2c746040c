/-
  mootref02.permute, its third loop: the rows. Written by genref.py. Own work.
-/
import Derived.Test.YtnfcjangminhoaaDoorRth
import Derived.Test.YtnfcjangminhoaaDoorRcon
import Derived.Test.YtnfcjangminhoaaDoorRleft
import Derived.Test.YtnfcjangminhoaaDoorLps
import Derived.Test.YtnfcjangminhoaaDoorQtl
import Derived.Test.YtnfcjangminhoaaDoorKrows
import Derived.RegionTactic
import Derived.BigRegion
import Derived.StillTailTactics
import Derived.IntWalk
namespace Go.Proofs.YtnfcjangminhoaaDoor
open Go.RowKit
set_option linter.unusedVariables false
namespace Kc
theorem chi_step (c a : Nat → Wd64) (r : Nat) (v : Wd64) (hv : v = chi c r) (j : Nat) : upd (chiK c a r) r v j = chiK c a (r + 1) j := by
  unfold upd chiK
  by_cases e : j = r
  · rw [if_pos e, if_pos (by omega), hv, e]
  · rw [if_neg e]
    by_cases h2 : j < r
    · rw [if_pos h2, if_pos (by omega)]
    · rw [if_neg h2, if_neg (by omega)]
theorem W_xones (x : Wd64) : bits BinOp.xor .u64 (W x) 18446744073709551615 = W (~~~x) := by
  rw [show (18446744073709551615 : Int) = W (BitVec.allOnes 64) from rfl, W_xor, BitVec.xor_allOnes]
noncomputable def chiBody : Code := ((Tryd.f47.body.map fun c => loopAt 2 (loopAt 0 c)).getD .skip)
set_option maxHeartbeats 40000000 in
set_option maxRecDepth 1000000 in
theorem chi_loop {Q0 : Exit → Act → World → Prop} (q0 qr q8 q9 qc qt : Nat) (a b c : Nat → Wd64) (w : World) (c0 c1 c4 c5 c7 c10 c11 c12 c13 c14 c15 c16 c19 c20 c21 c22 c23 c24 c25 c26 c27 c28 c29 c30 c31 c32 c33 c34 c35 c36 c37 c38 c39 c40 c41 c42 c43 c44 c45 c46 c47 c48 c49 c50 c51 c52 c53 c54 c55 c56 c57 c58 c59 c60 c61 c62 c63 c64 c65 c66 c67 c68 c69 c70 c71 c72 c73 c74 c75 c76 c77 c78 c79 c80 c81 c82 c83 c84 c85 c86 c87 c88 c89 c90 c91 c92 c93 c94 c95 c96 c97 c98 c137 c138 c139 c140 c141 c142 c143 c144 c145 u18 u99 u100 u101 u102 u103 u104 u105 u106 u107 u108 u109 u110 u111 u112 u113 u114 u115 u116 u117 u118 u119 u120 u121 u122 u123 u124 u125 u126 u127 u128 u129 u130 u131 u132 u133 u134 u135 u136 : Value) (z0 : World)
    (hp : Pf w q0 qr q8 q9 qc qt a b c z0)
    (hexit : ∀ (v18 v99 v100 v101 v102 v103 v104 v105 v106 v107 v108 v109 v110 v111 v112 v113 v114 v115 v116 v117 v118 v119 v120 v121 v122 v123 v124 v125 v126 v127 v128 v129 v130 v131 v132 v133 v134 v135 v136 : Value) (z : World), Pf w q0 qr q8 q9 qc qt (chi c) b c z → Q0 (.exit 12) ⟨(c0 :: c1 :: Value.slice (some ⟨qt, 0, none⟩) 25 25 :: Value.pointer (some ⟨q0, 0, none⟩) :: c4 :: c5 :: Value.pointer (some ⟨qr, 0, none⟩) :: c7 :: Value.pointer (some ⟨q8, 0, none⟩) :: Value.pointer (some ⟨q9, 0, none⟩) :: c10 :: c11 :: c12 :: c13 :: c14 :: c15 :: c16 :: Value.int .i64 5 :: v18 :: c19 :: c20 :: c21 :: c22 :: c23 :: c24 :: c25 :: c26 :: c27 :: c28 :: c29 :: c30 :: c31 :: c32 :: c33 :: c34 :: c35 :: c36 :: c37 :: c38 :: c39 :: c40 :: c41 :: c42 :: c43 :: c44 :: c45 :: c46 :: c47 :: c48 :: c49 :: c50 :: c51 :: c52 :: c53 :: c54 :: c55 :: c56 :: c57 :: c58 :: c59 :: c60 :: c61 :: c62 :: c63 :: c64 :: c65 :: c66 :: c67 :: c68 :: c69 :: c70 :: c71 :: c72 :: c73 :: c74 :: c75 :: c76 :: c77 :: c78 :: c79 :: c80 :: c81 :: c82 :: c83 :: c84 :: c85 :: c86 :: c87 :: c88 :: c89 :: c90 :: c91 :: c92 :: c93 :: c94 :: c95 :: c96 :: c97 :: c98 :: v99 :: v100 :: v101 :: v102 :: v103 :: v104 :: v105 :: v106 :: v107 :: v108 :: v109 :: v110 :: v111 :: v112 :: v113 :: v114 :: v115 :: v116 :: v117 :: v118 :: v119 :: v120 :: v121 :: v122 :: v123 :: v124 :: v125 :: v126 :: v127 :: v128 :: v129 :: v130 :: v131 :: v132 :: v133 :: v134 :: v135 :: v136 :: c137 :: c138 :: c139 :: c140 :: c141 :: c142 :: c143 :: c144 :: c145 :: []).toArray, []⟩ z) :
    Code.wp Tryd.prog (Code.loop chiBody) Q0 ⟨(c0 :: c1 :: Value.slice (some ⟨qt, 0, none⟩) 25 25 :: Value.pointer (some ⟨q0, 0, none⟩) :: c4 :: c5 :: Value.pointer (some ⟨qr, 0, none⟩) :: c7 :: Value.pointer (some ⟨q8, 0, none⟩) :: Value.pointer (some ⟨q9, 0, none⟩) :: c10 :: c11 :: c12 :: c13 :: c14 :: c15 :: c16 :: Value.int .i64 0 :: u18 :: c19 :: c20 :: c21 :: c22 :: c23 :: c24 :: c25 :: c26 :: c27 :: c28 :: c29 :: c30 :: c31 :: c32 :: c33 :: c34 :: c35 :: c36 :: c37 :: c38 :: c39 :: c40 :: c41 :: c42 :: c43 :: c44 :: c45 :: c46 :: c47 :: c48 :: c49 :: c50 :: c51 :: c52 :: c53 :: c54 :: c55 :: c56 :: c57 :: c58 :: c59 :: c60 :: c61 :: c62 :: c63 :: c64 :: c65 :: c66 :: c67 :: c68 :: c69 :: c70 :: c71 :: c72 :: c73 :: c74 :: c75 :: c76 :: c77 :: c78 :: c79 :: c80 :: c81 :: c82 :: c83 :: c84 :: c85 :: c86 :: c87 :: c88 :: c89 :: c90 :: c91 :: c92 :: c93 :: c94 :: c95 :: c96 :: c97 :: c98 :: u99 :: u100 :: u101 :: u102 :: u103 :: u104 :: u105 :: u106 :: u107 :: u108 :: u109 :: u110 :: u111 :: u112 :: u113 :: u114 :: u115 :: u116 :: u117 :: u118 :: u119 :: u120 :: u121 :: u122 :: u123 :: u124 :: u125 :: u126 :: u127 :: u128 :: u129 :: u130 :: u131 :: u132 :: u133 :: u134 :: u135 :: u136 :: c137 :: c138 :: c139 :: c140 :: c141 :: c142 :: c143 :: c144 :: c145 :: []).toArray, []⟩ z0 := by
  conv => arg 2; whnf
  conv => arg 2; arg 1; whnf
  have HEX := Lib.hid hexit
  clear hexit
  have HPP := Lib.hid hp
  clear hp
  go_loopw [17] (fun s z => ∃ x : Nat, x ≤ 5 ∧ s = .int .i64 x ∧ Hid (Pf w q0 qr q8 q9 qc qt (chiK c a (5 * x)) b c z)) (fun s _ => 5 - (intOf s).toNat)
  case atStart => exact ⟨0, by decide, rfl, Lib.hid (HPP.out.congA (chiK_zero _ a))⟩
  case round =>
    obtain ⟨x, hx, rfl, hp⟩ := hrel
    clear HPP
    by_cases hx5 : (x : Int) < 5
    · have hc : x = 0 ∨ x = 1 ∨ x = 2 ∨ x = 3 ∨ x = 4 := by omega
      clear hx hx5
      rcases hc with rfl | rfl | rfl | rfl | rfl
      · rw [show ((0 : Nat) : Int) = 0 from rfl]
        go_wp2_with fail
        go_loopw [18] (fun y z => ∃ y' : Nat, y' ≤ 5 ∧ y = .int .i64 y' ∧ Hid (Pf w q0 qr q8 q9 qc qt (chiK c a (0 + y')) b c z)) (fun y _ => 5 - (intOf y).toNat)
        case atStart => exact ⟨0, by decide, rfl, hp⟩
        case round =>
          obtain ⟨y, hy, rfl, hp2⟩ := hrel
          clear hp
          by_cases hy5 : (y : Int) < 5
          · have hc : y = 0 ∨ y = 1 ∨ y = 2 ∨ y = 3 ∨ y = 4 := by omega
            clear hy hy5
            rcases hc with rfl | rfl | rfl | rfl | rfl
            · rw [show ((0 : Nat) : Int) = 0 from rfl]
              have NE : Nonempty (Wd (Pf w q0 qr q8 q9 qc qt (chiK c a (0 + 0)) b c)) := ⟨⟨_, hp2.out⟩⟩
              have a0 : ∀ z : Wd (Pf w q0 qr q8 q9 qc qt (chiK c a (0 + 0)) b c), z.val.cell? ⟨q9, 0, none⟩ = some (Value.int .u64 (W (c 0))) := fun z => z.ok.sc.cell 0 (by decide)
              have a1 : ∀ z : Wd (Pf w q0 qr q8 q9 qc qt (chiK c a (0 + 0)) b c), z.val.cell? ⟨q9, 1, none⟩ = some (Value.int .u64 (W (c 1))) := fun z => z.ok.sc.cell 1 (by decide)
              have a2 : ∀ z : Wd (Pf w q0 qr q8 q9 qc qt (chiK c a (0 + 0)) b c), z.val.cell? ⟨q9, 2, none⟩ = some (Value.int .u64 (W (c 2))) := fun z => z.ok.sc.cell 2 (by decide)
              have HP2 := Lib.hid hp2.out.drew
              go_upto_region 31 with (fail)
              refine wp_region_quiet_tail 30 (Pf w q0 qr q8 q9 qc qt (chiK c a (0 + 0)) b c) (by kernel_rfl) (by kernel_rfl) HP2.out ?_
              simp only [List.take_succ_cons, List.take_zero, List.drop_succ_cons, List.drop_zero]
              repeat (go_big_quiet_step (fail))
              refine wpQuiet_nil ?_
              rintro _ ⟨z, rfl⟩
              have fj := z.ok.sa.fz 0
              have sj : _ = some (Value.int .u64 (W (chiK c a (0 + 0) 0))) := z.ok.sa.cell 0 (by decide)
              clear a0 a1 a2 HP2 NE hp2
              go_wp2_with fail
              rw [W_xones, W_and, W_xor]
              exact ⟨⟨0 + 1, by decide, rfl, Lib.hid ((z.ok.setA 0 _).congA (fun j _ => chi_step c a 0 _ rfl j))⟩, by simp [intOf]⟩
            · rw [show ((1 : Nat) : Int) = 1 from rfl]
              have NE : Nonempty (Wd (Pf w q0 qr q8 q9 qc qt (chiK c a (0 + 1)) b c)) := ⟨⟨_, hp2.out⟩⟩
              have a0 : ∀ z : Wd (Pf w q0 qr q8 q9 qc qt (chiK c a (0 + 1)) b c), z.val.cell? ⟨q9, 1, none⟩ = some (Value.int .u64 (W (c 1))) := fun z => z.ok.sc.cell 1 (by decide)
              have a1 : ∀ z : Wd (Pf w q0 qr q8 q9 qc qt (chiK c a (0 + 1)) b c), z.val.cell? ⟨q9, 2, none⟩ = some (Value.int .u64 (W (c 2))) := fun z => z.ok.sc.cell 2 (by decide)
              have a2 : ∀ z : Wd (Pf w q0 qr q8 q9 qc qt (chiK c a (0 + 1)) b c), z.val.cell? ⟨q9, 3, none⟩ = some (Value.int .u64 (W (c 3))) := fun z => z.ok.sc.cell 3 (by decide)
              have HP2 := Lib.hid hp2.out.drew
              go_upto_region 31 with (fail)
              refine wp_region_quiet_tail 30 (Pf w q0 qr q8 q9 qc qt (chiK c a (0 + 1)) b c) (by kernel_rfl) (by kernel_rfl) HP2.out ?_
              simp only [List.take_succ_cons, List.take_zero, List.drop_succ_cons, List.drop_zero]
              repeat (go_big_quiet_step (fail))
              refine wpQuiet_nil ?_
              rintro _ ⟨z, rfl⟩
              have fj := z.ok.sa.fz 1
              have sj : _ = some (Value.int .u64 (W (chiK c a (0 + 1) 1))) := z.ok.sa.cell 1 (by decide)
              clear a0 a1 a2 HP2 NE hp2
              go_wp2_with fail
              rw [W_xones, W_and, W_xor]
              exact ⟨⟨1 + 1, by decide, rfl, Lib.hid ((z.ok.setA 1 _).congA (fun j _ => chi_step c a 1 _ rfl j))⟩, by simp [intOf]⟩
            · rw [show ((2 : Nat) : Int) = 2 from rfl]
              have NE : Nonempty (Wd (Pf w q0 qr q8 q9 qc qt (chiK c a (0 + 2)) b c)) := ⟨⟨_, hp2.out⟩⟩
              have a0 : ∀ z : Wd (Pf w q0 qr q8 q9 qc qt (chiK c a (0 + 2)) b c), z.val.cell? ⟨q9, 2, none⟩ = some (Value.int .u64 (W (c 2))) := fun z => z.ok.sc.cell 2 (by decide)
              have a1 : ∀ z : Wd (Pf w q0 qr q8 q9 qc qt (chiK c a (0 + 2)) b c), z.val.cell? ⟨q9, 3, none⟩ = some (Value.int .u64 (W (c 3))) := fun z => z.ok.sc.cell 3 (by decide)
              have a2 : ∀ z : Wd (Pf w q0 qr q8 q9 qc qt (chiK c a (0 + 2)) b c), z.val.cell? ⟨q9, 4, none⟩ = some (Value.int .u64 (W (c 4))) := fun z => z.ok.sc.cell 4 (by decide)
              have HP2 := Lib.hid hp2.out.drew
              go_upto_region 31 with (fail)
              refine wp_region_quiet_tail 30 (Pf w q0 qr q8 q9 qc qt (chiK c a (0 + 2)) b c) (by kernel_rfl) (by kernel_rfl) HP2.out ?_
              simp only [List.take_succ_cons, List.take_zero, List.drop_succ_cons, List.drop_zero]
              repeat (go_big_quiet_step (fail))
              refine wpQuiet_nil ?_
              rintro _ ⟨z, rfl⟩
              have fj := z.ok.sa.fz 2
              have sj : _ = some (Value.int .u64 (W (chiK c a (0 + 2) 2))) := z.ok.sa.cell 2 (by decide)
              clear a0 a1 a2 HP2 NE hp2
              go_wp2_with fail
              rw [W_xones, W_and, W_xor]
              exact ⟨⟨2 + 1, by decide, rfl, Lib.hid ((z.ok.setA 2 _).congA (fun j _ => chi_step c a 2 _ rfl j))⟩, by simp [intOf]⟩
            · rw [show ((3 : Nat) : Int) = 3 from rfl]
              have NE : Nonempty (Wd (Pf w q0 qr q8 q9 qc qt (chiK c a (0 + 3)) b c)) := ⟨⟨_, hp2.out⟩⟩
              have a0 : ∀ z : Wd (Pf w q0 qr q8 q9 qc qt (chiK c a (0 + 3)) b c), z.val.cell? ⟨q9, 3, none⟩ = some (Value.int .u64 (W (c 3))) := fun z => z.ok.sc.cell 3 (by decide)
              have a1 : ∀ z : Wd (Pf w q0 qr q8 q9 qc qt (chiK c a (0 + 3)) b c), z.val.cell? ⟨q9, 4, none⟩ = some (Value.int .u64 (W (c 4))) := fun z => z.ok.sc.cell 4 (by decide)
              have a2 : ∀ z : Wd (Pf w q0 qr q8 q9 qc qt (chiK c a (0 + 3)) b c), z.val.cell? ⟨q9, 0, none⟩ = some (Value.int .u64 (W (c 0))) := fun z => z.ok.sc.cell 0 (by decide)
              have HP2 := Lib.hid hp2.out.drew
              go_upto_region 31 with (fail)
              refine wp_region_quiet_tail 30 (Pf w q0 qr q8 q9 qc qt (chiK c a (0 + 3)) b c) (by kernel_rfl) (by kernel_rfl) HP2.out ?_
              simp only [List.take_succ_cons, List.take_zero, List.drop_succ_cons, List.drop_zero]
              repeat (go_big_quiet_step (fail))
              refine wpQuiet_nil ?_
              rintro _ ⟨z, rfl⟩
              have fj := z.ok.sa.fz 3
              have sj : _ = some (Value.int .u64 (W (chiK c a (0 + 3) 3))) := z.ok.sa.cell 3 (by decide)
              clear a0 a1 a2 HP2 NE hp2
              go_wp2_with fail
              rw [W_xones, W_and, W_xor]
              exact ⟨⟨3 + 1, by decide, rfl, Lib.hid ((z.ok.setA 3 _).congA (fun j _ => chi_step c a 3 _ rfl j))⟩, by simp [intOf]⟩
            · rw [show ((4 : Nat) : Int) = 4 from rfl]
              have NE : Nonempty (Wd (Pf w q0 qr q8 q9 qc qt (chiK c a (0 + 4)) b c)) := ⟨⟨_, hp2.out⟩⟩
              have a0 : ∀ z : Wd (Pf w q0 qr q8 q9 qc qt (chiK c a (0 + 4)) b c), z.val.cell? ⟨q9, 4, none⟩ = some (Value.int .u64 (W (c 4))) := fun z => z.ok.sc.cell 4 (by decide)
              have a1 : ∀ z : Wd (Pf w q0 qr q8 q9 qc qt (chiK c a (0 + 4)) b c), z.val.cell? ⟨q9, 0, none⟩ = some (Value.int .u64 (W (c 0))) := fun z => z.ok.sc.cell 0 (by decide)
              have a2 : ∀ z : Wd (Pf w q0 qr q8 q9 qc qt (chiK c a (0 + 4)) b c), z.val.cell? ⟨q9, 1, none⟩ = some (Value.int .u64 (W (c 1))) := fun z => z.ok.sc.cell 1 (by decide)
              have HP2 := Lib.hid hp2.out.drew
              go_upto_region 31 with (fail)
              refine wp_region_quiet_tail 30 (Pf w q0 qr q8 q9 qc qt (chiK c a (0 + 4)) b c) (by kernel_rfl) (by kernel_rfl) HP2.out ?_
              simp only [List.take_succ_cons, List.take_zero, List.drop_succ_cons, List.drop_zero]
              repeat (go_big_quiet_step (fail))
              refine wpQuiet_nil ?_
              rintro _ ⟨z, rfl⟩
              have fj := z.ok.sa.fz 4
              have sj : _ = some (Value.int .u64 (W (chiK c a (0 + 4) 4))) := z.ok.sa.cell 4 (by decide)
              clear a0 a1 a2 HP2 NE hp2
              go_wp2_with fail
              rw [W_xones, W_and, W_xor]
              exact ⟨⟨4 + 1, by decide, rfl, Lib.hid ((z.ok.setA 4 _).congA (fun j _ => chi_step c a 4 _ rfl j))⟩, by simp [intOf]⟩
          · obtain rfl : y = 5 := by omega
            clear hy
            go_wp2_with fail
            go_roundw
            case rel => exact ⟨0 + 1, by decide, rfl, hp2⟩
            case measure => simp [intOf]
      · rw [show ((1 : Nat) : Int) = 1 from rfl]
        go_wp2_with fail
        go_loopw [18] (fun y z => ∃ y' : Nat, y' ≤ 5 ∧ y = .int .i64 y' ∧ Hid (Pf w q0 qr q8 q9 qc qt (chiK c a (5 + y')) b c z)) (fun y _ => 5 - (intOf y).toNat)
        case atStart => exact ⟨0, by decide, rfl, hp⟩
        case round =>
          obtain ⟨y, hy, rfl, hp2⟩ := hrel
          clear hp
          by_cases hy5 : (y : Int) < 5
          · have hc : y = 0 ∨ y = 1 ∨ y = 2 ∨ y = 3 ∨ y = 4 := by omega
            clear hy hy5
            rcases hc with rfl | rfl | rfl | rfl | rfl
            · rw [show ((0 : Nat) : Int) = 0 from rfl]
              have NE : Nonempty (Wd (Pf w q0 qr q8 q9 qc qt (chiK c a (5 + 0)) b c)) := ⟨⟨_, hp2.out⟩⟩
              have a0 : ∀ z : Wd (Pf w q0 qr q8 q9 qc qt (chiK c a (5 + 0)) b c), z.val.cell? ⟨q9, 5, none⟩ = some (Value.int .u64 (W (c 5))) := fun z => z.ok.sc.cell 5 (by decide)
              have a1 : ∀ z : Wd (Pf w q0 qr q8 q9 qc qt (chiK c a (5 + 0)) b c), z.val.cell? ⟨q9, 6, none⟩ = some (Value.int .u64 (W (c 6))) := fun z => z.ok.sc.cell 6 (by decide)
              have a2 : ∀ z : Wd (Pf w q0 qr q8 q9 qc qt (chiK c a (5 + 0)) b c), z.val.cell? ⟨q9, 7, none⟩ = some (Value.int .u64 (W (c 7))) := fun z => z.ok.sc.cell 7 (by decide)
              have HP2 := Lib.hid hp2.out.drew
              go_upto_region 31 with (fail)
              refine wp_region_quiet_tail 30 (Pf w q0 qr q8 q9 qc qt (chiK c a (5 + 0)) b c) (by kernel_rfl) (by kernel_rfl) HP2.out ?_
              simp only [List.take_succ_cons, List.take_zero, List.drop_succ_cons, List.drop_zero]
              repeat (go_big_quiet_step (fail))
              refine wpQuiet_nil ?_
              rintro _ ⟨z, rfl⟩
              have fj := z.ok.sa.fz 5
              have sj : _ = some (Value.int .u64 (W (chiK c a (5 + 0) 5))) := z.ok.sa.cell 5 (by decide)
              clear a0 a1 a2 HP2 NE hp2
              go_wp2_with fail
              rw [W_xones, W_and, W_xor]
              exact ⟨⟨0 + 1, by decide, rfl, Lib.hid ((z.ok.setA 5 _).congA (fun j _ => chi_step c a 5 _ rfl j))⟩, by simp [intOf]⟩
            · rw [show ((1 : Nat) : Int) = 1 from rfl]
              have NE : Nonempty (Wd (Pf w q0 qr q8 q9 qc qt (chiK c a (5 + 1)) b c)) := ⟨⟨_, hp2.out⟩⟩
              have a0 : ∀ z : Wd (Pf w q0 qr q8 q9 qc qt (chiK c a (5 + 1)) b c), z.val.cell? ⟨q9, 6, none⟩ = some (Value.int .u64 (W (c 6))) := fun z => z.ok.sc.cell 6 (by decide)
              have a1 : ∀ z : Wd (Pf w q0 qr q8 q9 qc qt (chiK c a (5 + 1)) b c), z.val.cell? ⟨q9, 7, none⟩ = some (Value.int .u64 (W (c 7))) := fun z => z.ok.sc.cell 7 (by decide)
              have a2 : ∀ z : Wd (Pf w q0 qr q8 q9 qc qt (chiK c a (5 + 1)) b c), z.val.cell? ⟨q9, 8, none⟩ = some (Value.int .u64 (W (c 8))) := fun z => z.ok.sc.cell 8 (by decide)
              have HP2 := Lib.hid hp2.out.drew
              go_upto_region 31 with (fail)
              refine wp_region_quiet_tail 30 (Pf w q0 qr q8 q9 qc qt (chiK c a (5 + 1)) b c) (by kernel_rfl) (by kernel_rfl) HP2.out ?_
              simp only [List.take_succ_cons, List.take_zero, List.drop_succ_cons, List.drop_zero]
              repeat (go_big_quiet_step (fail))
              refine wpQuiet_nil ?_
              rintro _ ⟨z, rfl⟩
              have fj := z.ok.sa.fz 6
              have sj : _ = some (Value.int .u64 (W (chiK c a (5 + 1) 6))) := z.ok.sa.cell 6 (by decide)
              clear a0 a1 a2 HP2 NE hp2
              go_wp2_with fail
              rw [W_xones, W_and, W_xor]
              exact ⟨⟨1 + 1, by decide, rfl, Lib.hid ((z.ok.setA 6 _).congA (fun j _ => chi_step c a 6 _ rfl j))⟩, by simp [intOf]⟩
            · rw [show ((2 : Nat) : Int) = 2 from rfl]
              have NE : Nonempty (Wd (Pf w q0 qr q8 q9 qc qt (chiK c a (5 + 2)) b c)) := ⟨⟨_, hp2.out⟩⟩
              have a0 : ∀ z : Wd (Pf w q0 qr q8 q9 qc qt (chiK c a (5 + 2)) b c), z.val.cell? ⟨q9, 7, none⟩ = some (Value.int .u64 (W (c 7))) := fun z => z.ok.sc.cell 7 (by decide)
              have a1 : ∀ z : Wd (Pf w q0 qr q8 q9 qc qt (chiK c a (5 + 2)) b c), z.val.cell? ⟨q9, 8, none⟩ = some (Value.int .u64 (W (c 8))) := fun z => z.ok.sc.cell 8 (by decide)
              have a2 : ∀ z : Wd (Pf w q0 qr q8 q9 qc qt (chiK c a (5 + 2)) b c), z.val.cell? ⟨q9, 9, none⟩ = some (Value.int .u64 (W (c 9))) := fun z => z.ok.sc.cell 9 (by decide)
              have HP2 := Lib.hid hp2.out.drew
              go_upto_region 31 with (fail)
              refine wp_region_quiet_tail 30 (Pf w q0 qr q8 q9 qc qt (chiK c a (5 + 2)) b c) (by kernel_rfl) (by kernel_rfl) HP2.out ?_
              simp only [List.take_succ_cons, List.take_zero, List.drop_succ_cons, List.drop_zero]
              repeat (go_big_quiet_step (fail))
              refine wpQuiet_nil ?_
              rintro _ ⟨z, rfl⟩
              have fj := z.ok.sa.fz 7
              have sj : _ = some (Value.int .u64 (W (chiK c a (5 + 2) 7))) := z.ok.sa.cell 7 (by decide)
              clear a0 a1 a2 HP2 NE hp2
              go_wp2_with fail
              rw [W_xones, W_and, W_xor]
              exact ⟨⟨2 + 1, by decide, rfl, Lib.hid ((z.ok.setA 7 _).congA (fun j _ => chi_step c a 7 _ rfl j))⟩, by simp [intOf]⟩
            · rw [show ((3 : Nat) : Int) = 3 from rfl]
              have NE : Nonempty (Wd (Pf w q0 qr q8 q9 qc qt (chiK c a (5 + 3)) b c)) := ⟨⟨_, hp2.out⟩⟩
              have a0 : ∀ z : Wd (Pf w q0 qr q8 q9 qc qt (chiK c a (5 + 3)) b c), z.val.cell? ⟨q9, 8, none⟩ = some (Value.int .u64 (W (c 8))) := fun z => z.ok.sc.cell 8 (by decide)
              have a1 : ∀ z : Wd (Pf w q0 qr q8 q9 qc qt (chiK c a (5 + 3)) b c), z.val.cell? ⟨q9, 9, none⟩ = some (Value.int .u64 (W (c 9))) := fun z => z.ok.sc.cell 9 (by decide)
              have a2 : ∀ z : Wd (Pf w q0 qr q8 q9 qc qt (chiK c a (5 + 3)) b c), z.val.cell? ⟨q9, 5, none⟩ = some (Value.int .u64 (W (c 5))) := fun z => z.ok.sc.cell 5 (by decide)
              have HP2 := Lib.hid hp2.out.drew
              go_upto_region 31 with (fail)
              refine wp_region_quiet_tail 30 (Pf w q0 qr q8 q9 qc qt (chiK c a (5 + 3)) b c) (by kernel_rfl) (by kernel_rfl) HP2.out ?_
              simp only [List.take_succ_cons, List.take_zero, List.drop_succ_cons, List.drop_zero]
              repeat (go_big_quiet_step (fail))
              refine wpQuiet_nil ?_
              rintro _ ⟨z, rfl⟩
              have fj := z.ok.sa.fz 8
              have sj : _ = some (Value.int .u64 (W (chiK c a (5 + 3) 8))) := z.ok.sa.cell 8 (by decide)
              clear a0 a1 a2 HP2 NE hp2
              go_wp2_with fail
              rw [W_xones, W_and, W_xor]
              exact ⟨⟨3 + 1, by decide, rfl, Lib.hid ((z.ok.setA 8 _).congA (fun j _ => chi_step c a 8 _ rfl j))⟩, by simp [intOf]⟩
            · rw [show ((4 : Nat) : Int) = 4 from rfl]
              have NE : Nonempty (Wd (Pf w q0 qr q8 q9 qc qt (chiK c a (5 + 4)) b c)) := ⟨⟨_, hp2.out⟩⟩
              have a0 : ∀ z : Wd (Pf w q0 qr q8 q9 qc qt (chiK c a (5 + 4)) b c), z.val.cell? ⟨q9, 9, none⟩ = some (Value.int .u64 (W (c 9))) := fun z => z.ok.sc.cell 9 (by decide)
              have a1 : ∀ z : Wd (Pf w q0 qr q8 q9 qc qt (chiK c a (5 + 4)) b c), z.val.cell? ⟨q9, 5, none⟩ = some (Value.int .u64 (W (c 5))) := fun z => z.ok.sc.cell 5 (by decide)
              have a2 : ∀ z : Wd (Pf w q0 qr q8 q9 qc qt (chiK c a (5 + 4)) b c), z.val.cell? ⟨q9, 6, none⟩ = some (Value.int .u64 (W (c 6))) := fun z => z.ok.sc.cell 6 (by decide)
              have HP2 := Lib.hid hp2.out.drew
              go_upto_region 31 with (fail)
              refine wp_region_quiet_tail 30 (Pf w q0 qr q8 q9 qc qt (chiK c a (5 + 4)) b c) (by kernel_rfl) (by kernel_rfl) HP2.out ?_
              simp only [List.take_succ_cons, List.take_zero, List.drop_succ_cons, List.drop_zero]
              repeat (go_big_quiet_step (fail))
              refine wpQuiet_nil ?_
              rintro _ ⟨z, rfl⟩
              have fj := z.ok.sa.fz 9
              have sj : _ = some (Value.int .u64 (W (chiK c a (5 + 4) 9))) := z.ok.sa.cell 9 (by decide)
              clear a0 a1 a2 HP2 NE hp2
              go_wp2_with fail
              rw [W_xones, W_and, W_xor]
              exact ⟨⟨4 + 1, by decide, rfl, Lib.hid ((z.ok.setA 9 _).congA (fun j _ => chi_step c a 9 _ rfl j))⟩, by simp [intOf]⟩
          · obtain rfl : y = 5 := by omega
            clear hy
            go_wp2_with fail
            go_roundw
            case rel => exact ⟨1 + 1, by decide, rfl, hp2⟩
            case measure => simp [intOf]
      · rw [show ((2 : Nat) : Int) = 2 from rfl]
        go_wp2_with fail
        go_loopw [18] (fun y z => ∃ y' : Nat, y' ≤ 5 ∧ y = .int .i64 y' ∧ Hid (Pf w q0 qr q8 q9 qc qt (chiK c a (10 + y')) b c z)) (fun y _ => 5 - (intOf y).toNat)
        case atStart => exact ⟨0, by decide, rfl, hp⟩
        case round =>
          obtain ⟨y, hy, rfl, hp2⟩ := hrel
          clear hp
          by_cases hy5 : (y : Int) < 5
          · have hc : y = 0 ∨ y = 1 ∨ y = 2 ∨ y = 3 ∨ y = 4 := by omega
            clear hy hy5
            rcases hc with rfl | rfl | rfl | rfl | rfl
            · rw [show ((0 : Nat) : Int) = 0 from rfl]
              have NE : Nonempty (Wd (Pf w q0 qr q8 q9 qc qt (chiK c a (10 + 0)) b c)) := ⟨⟨_, hp2.out⟩⟩
              have a0 : ∀ z : Wd (Pf w q0 qr q8 q9 qc qt (chiK c a (10 + 0)) b c), z.val.cell? ⟨q9, 10, none⟩ = some (Value.int .u64 (W (c 10))) := fun z => z.ok.sc.cell 10 (by decide)
              have a1 : ∀ z : Wd (Pf w q0 qr q8 q9 qc qt (chiK c a (10 + 0)) b c), z.val.cell? ⟨q9, 11, none⟩ = some (Value.int .u64 (W (c 11))) := fun z => z.ok.sc.cell 11 (by decide)
              have a2 : ∀ z : Wd (Pf w q0 qr q8 q9 qc qt (chiK c a (10 + 0)) b c), z.val.cell? ⟨q9, 12, none⟩ = some (Value.int .u64 (W (c 12))) := fun z => z.ok.sc.cell 12 (by decide)
              have HP2 := Lib.hid hp2.out.drew
              go_upto_region 31 with (fail)
              refine wp_region_quiet_tail 30 (Pf w q0 qr q8 q9 qc qt (chiK c a (10 + 0)) b c) (by kernel_rfl) (by kernel_rfl) HP2.out ?_
              simp only [List.take_succ_cons, List.take_zero, List.drop_succ_cons, List.drop_zero]
              repeat (go_big_quiet_step (fail))
              refine wpQuiet_nil ?_
              rintro _ ⟨z, rfl⟩
              have fj := z.ok.sa.fz 10
              have sj : _ = some (Value.int .u64 (W (chiK c a (10 + 0) 10))) := z.ok.sa.cell 10 (by decide)
              clear a0 a1 a2 HP2 NE hp2
              go_wp2_with fail
              rw [W_xones, W_and, W_xor]
              exact ⟨⟨0 + 1, by decide, rfl, Lib.hid ((z.ok.setA 10 _).congA (fun j _ => chi_step c a 10 _ rfl j))⟩, by simp [intOf]⟩
            · rw [show ((1 : Nat) : Int) = 1 from rfl]
              have NE : Nonempty (Wd (Pf w q0 qr q8 q9 qc qt (chiK c a (10 + 1)) b c)) := ⟨⟨_, hp2.out⟩⟩
              have a0 : ∀ z : Wd (Pf w q0 qr q8 q9 qc qt (chiK c a (10 + 1)) b c), z.val.cell? ⟨q9, 11, none⟩ = some (Value.int .u64 (W (c 11))) := fun z => z.ok.sc.cell 11 (by decide)
              have a1 : ∀ z : Wd (Pf w q0 qr q8 q9 qc qt (chiK c a (10 + 1)) b c), z.val.cell? ⟨q9, 12, none⟩ = some (Value.int .u64 (W (c 12))) := fun z => z.ok.sc.cell 12 (by decide)
              have a2 : ∀ z : Wd (Pf w q0 qr q8 q9 qc qt (chiK c a (10 + 1)) b c), z.val.cell? ⟨q9, 13, none⟩ = some (Value.int .u64 (W (c 13))) := fun z => z.ok.sc.cell 13 (by decide)
              have HP2 := Lib.hid hp2.out.drew
              go_upto_region 31 with (fail)
              refine wp_region_quiet_tail 30 (Pf w q0 qr q8 q9 qc qt (chiK c a (10 + 1)) b c) (by kernel_rfl) (by kernel_rfl) HP2.out ?_
              simp only [List.take_succ_cons, List.take_zero, List.drop_succ_cons, List.drop_zero]
              repeat (go_big_quiet_step (fail))
              refine wpQuiet_nil ?_
              rintro _ ⟨z, rfl⟩
              have fj := z.ok.sa.fz 11
              have sj : _ = some (Value.int .u64 (W (chiK c a (10 + 1) 11))) := z.ok.sa.cell 11 (by decide)
              clear a0 a1 a2 HP2 NE hp2
              go_wp2_with fail
              rw [W_xones, W_and, W_xor]
              exact ⟨⟨1 + 1, by decide, rfl, Lib.hid ((z.ok.setA 11 _).congA (fun j _ => chi_step c a 11 _ rfl j))⟩, by simp [intOf]⟩
            · rw [show ((2 : Nat) : Int) = 2 from rfl]
              have NE : Nonempty (Wd (Pf w q0 qr q8 q9 qc qt (chiK c a (10 + 2)) b c)) := ⟨⟨_, hp2.out⟩⟩
              have a0 : ∀ z : Wd (Pf w q0 qr q8 q9 qc qt (chiK c a (10 + 2)) b c), z.val.cell? ⟨q9, 12, none⟩ = some (Value.int .u64 (W (c 12))) := fun z => z.ok.sc.cell 12 (by decide)
              have a1 : ∀ z : Wd (Pf w q0 qr q8 q9 qc qt (chiK c a (10 + 2)) b c), z.val.cell? ⟨q9, 13, none⟩ = some (Value.int .u64 (W (c 13))) := fun z => z.ok.sc.cell 13 (by decide)
              have a2 : ∀ z : Wd (Pf w q0 qr q8 q9 qc qt (chiK c a (10 + 2)) b c), z.val.cell? ⟨q9, 14, none⟩ = some (Value.int .u64 (W (c 14))) := fun z => z.ok.sc.cell 14 (by decide)
              have HP2 := Lib.hid hp2.out.drew
              go_upto_region 31 with (fail)
              refine wp_region_quiet_tail 30 (Pf w q0 qr q8 q9 qc qt (chiK c a (10 + 2)) b c) (by kernel_rfl) (by kernel_rfl) HP2.out ?_
              simp only [List.take_succ_cons, List.take_zero, List.drop_succ_cons, List.drop_zero]
              repeat (go_big_quiet_step (fail))
              refine wpQuiet_nil ?_
              rintro _ ⟨z, rfl⟩
              have fj := z.ok.sa.fz 12
              have sj : _ = some (Value.int .u64 (W (chiK c a (10 + 2) 12))) := z.ok.sa.cell 12 (by decide)
              clear a0 a1 a2 HP2 NE hp2
              go_wp2_with fail
              rw [W_xones, W_and, W_xor]
              exact ⟨⟨2 + 1, by decide, rfl, Lib.hid ((z.ok.setA 12 _).congA (fun j _ => chi_step c a 12 _ rfl j))⟩, by simp [intOf]⟩
            · rw [show ((3 : Nat) : Int) = 3 from rfl]
              have NE : Nonempty (Wd (Pf w q0 qr q8 q9 qc qt (chiK c a (10 + 3)) b c)) := ⟨⟨_, hp2.out⟩⟩
              have a0 : ∀ z : Wd (Pf w q0 qr q8 q9 qc qt (chiK c a (10 + 3)) b c), z.val.cell? ⟨q9, 13, none⟩ = some (Value.int .u64 (W (c 13))) := fun z => z.ok.sc.cell 13 (by decide)
              have a1 : ∀ z : Wd (Pf w q0 qr q8 q9 qc qt (chiK c a (10 + 3)) b c), z.val.cell? ⟨q9, 14, none⟩ = some (Value.int .u64 (W (c 14))) := fun z => z.ok.sc.cell 14 (by decide)
              have a2 : ∀ z : Wd (Pf w q0 qr q8 q9 qc qt (chiK c a (10 + 3)) b c), z.val.cell? ⟨q9, 10, none⟩ = some (Value.int .u64 (W (c 10))) := fun z => z.ok.sc.cell 10 (by decide)
              have HP2 := Lib.hid hp2.out.drew
              go_upto_region 31 with (fail)
              refine wp_region_quiet_tail 30 (Pf w q0 qr q8 q9 qc qt (chiK c a (10 + 3)) b c) (by kernel_rfl) (by kernel_rfl) HP2.out ?_
              simp only [List.take_succ_cons, List.take_zero, List.drop_succ_cons, List.drop_zero]
              repeat (go_big_quiet_step (fail))
              refine wpQuiet_nil ?_
              rintro _ ⟨z, rfl⟩
              have fj := z.ok.sa.fz 13
              have sj : _ = some (Value.int .u64 (W (chiK c a (10 + 3) 13))) := z.ok.sa.cell 13 (by decide)
              clear a0 a1 a2 HP2 NE hp2
              go_wp2_with fail
              rw [W_xones, W_and, W_xor]
              exact ⟨⟨3 + 1, by decide, rfl, Lib.hid ((z.ok.setA 13 _).congA (fun j _ => chi_step c a 13 _ rfl j))⟩, by simp [intOf]⟩
            · rw [show ((4 : Nat) : Int) = 4 from rfl]
              have NE : Nonempty (Wd (Pf w q0 qr q8 q9 qc qt (chiK c a (10 + 4)) b c)) := ⟨⟨_, hp2.out⟩⟩
              have a0 : ∀ z : Wd (Pf w q0 qr q8 q9 qc qt (chiK c a (10 + 4)) b c), z.val.cell? ⟨q9, 14, none⟩ = some (Value.int .u64 (W (c 14))) := fun z => z.ok.sc.cell 14 (by decide)
              have a1 : ∀ z : Wd (Pf w q0 qr q8 q9 qc qt (chiK c a (10 + 4)) b c), z.val.cell? ⟨q9, 10, none⟩ = some (Value.int .u64 (W (c 10))) := fun z => z.ok.sc.cell 10 (by decide)
              have a2 : ∀ z : Wd (Pf w q0 qr q8 q9 qc qt (chiK c a (10 + 4)) b c), z.val.cell? ⟨q9, 11, none⟩ = some (Value.int .u64 (W (c 11))) := fun z => z.ok.sc.cell 11 (by decide)
              have HP2 := Lib.hid hp2.out.drew
              go_upto_region 31 with (fail)
              refine wp_region_quiet_tail 30 (Pf w q0 qr q8 q9 qc qt (chiK c a (10 + 4)) b c) (by kernel_rfl) (by kernel_rfl) HP2.out ?_
              simp only [List.take_succ_cons, List.take_zero, List.drop_succ_cons, List.drop_zero]
              repeat (go_big_quiet_step (fail))
              refine wpQuiet_nil ?_
              rintro _ ⟨z, rfl⟩
              have fj := z.ok.sa.fz 14
              have sj : _ = some (Value.int .u64 (W (chiK c a (10 + 4) 14))) := z.ok.sa.cell 14 (by decide)
              clear a0 a1 a2 HP2 NE hp2
              go_wp2_with fail
              rw [W_xones, W_and, W_xor]
              exact ⟨⟨4 + 1, by decide, rfl, Lib.hid ((z.ok.setA 14 _).congA (fun j _ => chi_step c a 14 _ rfl j))⟩, by simp [intOf]⟩
          · obtain rfl : y = 5 := by omega
            clear hy
            go_wp2_with fail
            go_roundw
            case rel => exact ⟨2 + 1, by decide, rfl, hp2⟩
            case measure => simp [intOf]
      · rw [show ((3 : Nat) : Int) = 3 from rfl]
        go_wp2_with fail
        go_loopw [18] (fun y z => ∃ y' : Nat, y' ≤ 5 ∧ y = .int .i64 y' ∧ Hid (Pf w q0 qr q8 q9 qc qt (chiK c a (15 + y')) b c z)) (fun y _ => 5 - (intOf y).toNat)
        case atStart => exact ⟨0, by decide, rfl, hp⟩
        case round =>
          obtain ⟨y, hy, rfl, hp2⟩ := hrel
          clear hp
          by_cases hy5 : (y : Int) < 5
          · have hc : y = 0 ∨ y = 1 ∨ y = 2 ∨ y = 3 ∨ y = 4 := by omega
            clear hy hy5
            rcases hc with rfl | rfl | rfl | rfl | rfl
            · rw [show ((0 : Nat) : Int) = 0 from rfl]
              have NE : Nonempty (Wd (Pf w q0 qr q8 q9 qc qt (chiK c a (15 + 0)) b c)) := ⟨⟨_, hp2.out⟩⟩
              have a0 : ∀ z : Wd (Pf w q0 qr q8 q9 qc qt (chiK c a (15 + 0)) b c), z.val.cell? ⟨q9, 15, none⟩ = some (Value.int .u64 (W (c 15))) := fun z => z.ok.sc.cell 15 (by decide)
              have a1 : ∀ z : Wd (Pf w q0 qr q8 q9 qc qt (chiK c a (15 + 0)) b c), z.val.cell? ⟨q9, 16, none⟩ = some (Value.int .u64 (W (c 16))) := fun z => z.ok.sc.cell 16 (by decide)
              have a2 : ∀ z : Wd (Pf w q0 qr q8 q9 qc qt (chiK c a (15 + 0)) b c), z.val.cell? ⟨q9, 17, none⟩ = some (Value.int .u64 (W (c 17))) := fun z => z.ok.sc.cell 17 (by decide)
              have HP2 := Lib.hid hp2.out.drew
              go_upto_region 31 with (fail)
              refine wp_region_quiet_tail 30 (Pf w q0 qr q8 q9 qc qt (chiK c a (15 + 0)) b c) (by kernel_rfl) (by kernel_rfl) HP2.out ?_
              simp only [List.take_succ_cons, List.take_zero, List.drop_succ_cons, List.drop_zero]
              repeat (go_big_quiet_step (fail))
              refine wpQuiet_nil ?_
              rintro _ ⟨z, rfl⟩
              have fj := z.ok.sa.fz 15
              have sj : _ = some (Value.int .u64 (W (chiK c a (15 + 0) 15))) := z.ok.sa.cell 15 (by decide)
              clear a0 a1 a2 HP2 NE hp2
              go_wp2_with fail
              rw [W_xones, W_and, W_xor]
              exact ⟨⟨0 + 1, by decide, rfl, Lib.hid ((z.ok.setA 15 _).congA (fun j _ => chi_step c a 15 _ rfl j))⟩, by simp [intOf]⟩
            · rw [show ((1 : Nat) : Int) = 1 from rfl]
              have NE : Nonempty (Wd (Pf w q0 qr q8 q9 qc qt (chiK c a (15 + 1)) b c)) := ⟨⟨_, hp2.out⟩⟩
              have a0 : ∀ z : Wd (Pf w q0 qr q8 q9 qc qt (chiK c a (15 + 1)) b c), z.val.cell? ⟨q9, 16, none⟩ = some (Value.int .u64 (W (c 16))) := fun z => z.ok.sc.cell 16 (by decide)
              have a1 : ∀ z : Wd (Pf w q0 qr q8 q9 qc qt (chiK c a (15 + 1)) b c), z.val.cell? ⟨q9, 17, none⟩ = some (Value.int .u64 (W (c 17))) := fun z => z.ok.sc.cell 17 (by decide)
              have a2 : ∀ z : Wd (Pf w q0 qr q8 q9 qc qt (chiK c a (15 + 1)) b c), z.val.cell? ⟨q9, 18, none⟩ = some (Value.int .u64 (W (c 18))) := fun z => z.ok.sc.cell 18 (by decide)
              have HP2 := Lib.hid hp2.out.drew
              go_upto_region 31 with (fail)
              refine wp_region_quiet_tail 30 (Pf w q0 qr q8 q9 qc qt (chiK c a (15 + 1)) b c) (by kernel_rfl) (by kernel_rfl) HP2.out ?_
              simp only [List.take_succ_cons, List.take_zero, List.drop_succ_cons, List.drop_zero]
              repeat (go_big_quiet_step (fail))
              refine wpQuiet_nil ?_
              rintro _ ⟨z, rfl⟩
              have fj := z.ok.sa.fz 16
              have sj : _ = some (Value.int .u64 (W (chiK c a (15 + 1) 16))) := z.ok.sa.cell 16 (by decide)
              clear a0 a1 a2 HP2 NE hp2
              go_wp2_with fail
              rw [W_xones, W_and, W_xor]
              exact ⟨⟨1 + 1, by decide, rfl, Lib.hid ((z.ok.setA 16 _).congA (fun j _ => chi_step c a 16 _ rfl j))⟩, by simp [intOf]⟩
            · rw [show ((2 : Nat) : Int) = 2 from rfl]
              have NE : Nonempty (Wd (Pf w q0 qr q8 q9 qc qt (chiK c a (15 + 2)) b c)) := ⟨⟨_, hp2.out⟩⟩
              have a0 : ∀ z : Wd (Pf w q0 qr q8 q9 qc qt (chiK c a (15 + 2)) b c), z.val.cell? ⟨q9, 17, none⟩ = some (Value.int .u64 (W (c 17))) := fun z => z.ok.sc.cell 17 (by decide)
              have a1 : ∀ z : Wd (Pf w q0 qr q8 q9 qc qt (chiK c a (15 + 2)) b c), z.val.cell? ⟨q9, 18, none⟩ = some (Value.int .u64 (W (c 18))) := fun z => z.ok.sc.cell 18 (by decide)
              have a2 : ∀ z : Wd (Pf w q0 qr q8 q9 qc qt (chiK c a (15 + 2)) b c), z.val.cell? ⟨q9, 19, none⟩ = some (Value.int .u64 (W (c 19))) := fun z => z.ok.sc.cell 19 (by decide)
              have HP2 := Lib.hid hp2.out.drew
              go_upto_region 31 with (fail)
              refine wp_region_quiet_tail 30 (Pf w q0 qr q8 q9 qc qt (chiK c a (15 + 2)) b c) (by kernel_rfl) (by kernel_rfl) HP2.out ?_
              simp only [List.take_succ_cons, List.take_zero, List.drop_succ_cons, List.drop_zero]
              repeat (go_big_quiet_step (fail))
              refine wpQuiet_nil ?_
              rintro _ ⟨z, rfl⟩
              have fj := z.ok.sa.fz 17
              have sj : _ = some (Value.int .u64 (W (chiK c a (15 + 2) 17))) := z.ok.sa.cell 17 (by decide)
              clear a0 a1 a2 HP2 NE hp2
              go_wp2_with fail
              rw [W_xones, W_and, W_xor]
              exact ⟨⟨2 + 1, by decide, rfl, Lib.hid ((z.ok.setA 17 _).congA (fun j _ => chi_step c a 17 _ rfl j))⟩, by simp [intOf]⟩
            · rw [show ((3 : Nat) : Int) = 3 from rfl]
              have NE : Nonempty (Wd (Pf w q0 qr q8 q9 qc qt (chiK c a (15 + 3)) b c)) := ⟨⟨_, hp2.out⟩⟩
              have a0 : ∀ z : Wd (Pf w q0 qr q8 q9 qc qt (chiK c a (15 + 3)) b c), z.val.cell? ⟨q9, 18, none⟩ = some (Value.int .u64 (W (c 18))) := fun z => z.ok.sc.cell 18 (by decide)
              have a1 : ∀ z : Wd (Pf w q0 qr q8 q9 qc qt (chiK c a (15 + 3)) b c), z.val.cell? ⟨q9, 19, none⟩ = some (Value.int .u64 (W (c 19))) := fun z => z.ok.sc.cell 19 (by decide)
              have a2 : ∀ z : Wd (Pf w q0 qr q8 q9 qc qt (chiK c a (15 + 3)) b c), z.val.cell? ⟨q9, 15, none⟩ = some (Value.int .u64 (W (c 15))) := fun z => z.ok.sc.cell 15 (by decide)
              have HP2 := Lib.hid hp2.out.drew
              go_upto_region 31 with (fail)
              refine wp_region_quiet_tail 30 (Pf w q0 qr q8 q9 qc qt (chiK c a (15 + 3)) b c) (by kernel_rfl) (by kernel_rfl) HP2.out ?_
              simp only [List.take_succ_cons, List.take_zero, List.drop_succ_cons, List.drop_zero]
              repeat (go_big_quiet_step (fail))
              refine wpQuiet_nil ?_
              rintro _ ⟨z, rfl⟩
              have fj := z.ok.sa.fz 18
              have sj : _ = some (Value.int .u64 (W (chiK c a (15 + 3) 18))) := z.ok.sa.cell 18 (by decide)
              clear a0 a1 a2 HP2 NE hp2
              go_wp2_with fail
              rw [W_xones, W_and, W_xor]
              exact ⟨⟨3 + 1, by decide, rfl, Lib.hid ((z.ok.setA 18 _).congA (fun j _ => chi_step c a 18 _ rfl j))⟩, by simp [intOf]⟩
            · rw [show ((4 : Nat) : Int) = 4 from rfl]
              have NE : Nonempty (Wd (Pf w q0 qr q8 q9 qc qt (chiK c a (15 + 4)) b c)) := ⟨⟨_, hp2.out⟩⟩
              have a0 : ∀ z : Wd (Pf w q0 qr q8 q9 qc qt (chiK c a (15 + 4)) b c), z.val.cell? ⟨q9, 19, none⟩ = some (Value.int .u64 (W (c 19))) := fun z => z.ok.sc.cell 19 (by decide)
              have a1 : ∀ z : Wd (Pf w q0 qr q8 q9 qc qt (chiK c a (15 + 4)) b c), z.val.cell? ⟨q9, 15, none⟩ = some (Value.int .u64 (W (c 15))) := fun z => z.ok.sc.cell 15 (by decide)
              have a2 : ∀ z : Wd (Pf w q0 qr q8 q9 qc qt (chiK c a (15 + 4)) b c), z.val.cell? ⟨q9, 16, none⟩ = some (Value.int .u64 (W (c 16))) := fun z => z.ok.sc.cell 16 (by decide)
              have HP2 := Lib.hid hp2.out.drew
              go_upto_region 31 with (fail)
              refine wp_region_quiet_tail 30 (Pf w q0 qr q8 q9 qc qt (chiK c a (15 + 4)) b c) (by kernel_rfl) (by kernel_rfl) HP2.out ?_
              simp only [List.take_succ_cons, List.take_zero, List.drop_succ_cons, List.drop_zero]
              repeat (go_big_quiet_step (fail))
              refine wpQuiet_nil ?_
              rintro _ ⟨z, rfl⟩
              have fj := z.ok.sa.fz 19
              have sj : _ = some (Value.int .u64 (W (chiK c a (15 + 4) 19))) := z.ok.sa.cell 19 (by decide)
              clear a0 a1 a2 HP2 NE hp2
              go_wp2_with fail
              rw [W_xones, W_and, W_xor]
              exact ⟨⟨4 + 1, by decide, rfl, Lib.hid ((z.ok.setA 19 _).congA (fun j _ => chi_step c a 19 _ rfl j))⟩, by simp [intOf]⟩
          · obtain rfl : y = 5 := by omega
            clear hy
            go_wp2_with fail
            go_roundw
            case rel => exact ⟨3 + 1, by decide, rfl, hp2⟩
            case measure => simp [intOf]
      · rw [show ((4 : Nat) : Int) = 4 from rfl]
        go_wp2_with fail
        go_loopw [18] (fun y z => ∃ y' : Nat, y' ≤ 5 ∧ y = .int .i64 y' ∧ Hid (Pf w q0 qr q8 q9 qc qt (chiK c a (20 + y')) b c z)) (fun y _ => 5 - (intOf y).toNat)
        case atStart => exact ⟨0, by decide, rfl, hp⟩
        case round =>
          obtain ⟨y, hy, rfl, hp2⟩ := hrel
          clear hp
          by_cases hy5 : (y : Int) < 5
          · have hc : y = 0 ∨ y = 1 ∨ y = 2 ∨ y = 3 ∨ y = 4 := by omega
            clear hy hy5
            rcases hc with rfl | rfl | rfl | rfl | rfl
            · rw [show ((0 : Nat) : Int) = 0 from rfl]
              have NE : Nonempty (Wd (Pf w q0 qr q8 q9 qc qt (chiK c a (20 + 0)) b c)) := ⟨⟨_, hp2.out⟩⟩
              have a0 : ∀ z : Wd (Pf w q0 qr q8 q9 qc qt (chiK c a (20 + 0)) b c), z.val.cell? ⟨q9, 20, none⟩ = some (Value.int .u64 (W (c 20))) := fun z => z.ok.sc.cell 20 (by decide)
              have a1 : ∀ z : Wd (Pf w q0 qr q8 q9 qc qt (chiK c a (20 + 0)) b c), z.val.cell? ⟨q9, 21, none⟩ = some (Value.int .u64 (W (c 21))) := fun z => z.ok.sc.cell 21 (by decide)
              have a2 : ∀ z : Wd (Pf w q0 qr q8 q9 qc qt (chiK c a (20 + 0)) b c), z.val.cell? ⟨q9, 22, none⟩ = some (Value.int .u64 (W (c 22))) := fun z => z.ok.sc.cell 22 (by decide)
              have HP2 := Lib.hid hp2.out.drew
              go_upto_region 31 with (fail)
              refine wp_region_quiet_tail 30 (Pf w q0 qr q8 q9 qc qt (chiK c a (20 + 0)) b c) (by kernel_rfl) (by kernel_rfl) HP2.out ?_
              simp only [List.take_succ_cons, List.take_zero, List.drop_succ_cons, List.drop_zero]
              repeat (go_big_quiet_step (fail))
              refine wpQuiet_nil ?_
              rintro _ ⟨z, rfl⟩
              have fj := z.ok.sa.fz 20
              have sj : _ = some (Value.int .u64 (W (chiK c a (20 + 0) 20))) := z.ok.sa.cell 20 (by decide)
              clear a0 a1 a2 HP2 NE hp2
              go_wp2_with fail
              rw [W_xones, W_and, W_xor]
              exact ⟨⟨0 + 1, by decide, rfl, Lib.hid ((z.ok.setA 20 _).congA (fun j _ => chi_step c a 20 _ rfl j))⟩, by simp [intOf]⟩
            · rw [show ((1 : Nat) : Int) = 1 from rfl]
              have NE : Nonempty (Wd (Pf w q0 qr q8 q9 qc qt (chiK c a (20 + 1)) b c)) := ⟨⟨_, hp2.out⟩⟩
              have a0 : ∀ z : Wd (Pf w q0 qr q8 q9 qc qt (chiK c a (20 + 1)) b c), z.val.cell? ⟨q9, 21, none⟩ = some (Value.int .u64 (W (c 21))) := fun z => z.ok.sc.cell 21 (by decide)
              have a1 : ∀ z : Wd (Pf w q0 qr q8 q9 qc qt (chiK c a (20 + 1)) b c), z.val.cell? ⟨q9, 22, none⟩ = some (Value.int .u64 (W (c 22))) := fun z => z.ok.sc.cell 22 (by decide)
              have a2 : ∀ z : Wd (Pf w q0 qr q8 q9 qc qt (chiK c a (20 + 1)) b c), z.val.cell? ⟨q9, 23, none⟩ = some (Value.int .u64 (W (c 23))) := fun z => z.ok.sc.cell 23 (by decide)
              have HP2 := Lib.hid hp2.out.drew
              go_upto_region 31 with (fail)
              refine wp_region_quiet_tail 30 (Pf w q0 qr q8 q9 qc qt (chiK c a (20 + 1)) b c) (by kernel_rfl) (by kernel_rfl) HP2.out ?_
              simp only [List.take_succ_cons, List.take_zero, List.drop_succ_cons, List.drop_zero]
              repeat (go_big_quiet_step (fail))
              refine wpQuiet_nil ?_
              rintro _ ⟨z, rfl⟩
              have fj := z.ok.sa.fz 21
              have sj : _ = some (Value.int .u64 (W (chiK c a (20 + 1) 21))) := z.ok.sa.cell 21 (by decide)
              clear a0 a1 a2 HP2 NE hp2
              go_wp2_with fail
              rw [W_xones, W_and, W_xor]
              exact ⟨⟨1 + 1, by decide, rfl, Lib.hid ((z.ok.setA 21 _).congA (fun j _ => chi_step c a 21 _ rfl j))⟩, by simp [intOf]⟩
            · rw [show ((2 : Nat) : Int) = 2 from rfl]
              have NE : Nonempty (Wd (Pf w q0 qr q8 q9 qc qt (chiK c a (20 + 2)) b c)) := ⟨⟨_, hp2.out⟩⟩
              have a0 : ∀ z : Wd (Pf w q0 qr q8 q9 qc qt (chiK c a (20 + 2)) b c), z.val.cell? ⟨q9, 22, none⟩ = some (Value.int .u64 (W (c 22))) := fun z => z.ok.sc.cell 22 (by decide)
              have a1 : ∀ z : Wd (Pf w q0 qr q8 q9 qc qt (chiK c a (20 + 2)) b c), z.val.cell? ⟨q9, 23, none⟩ = some (Value.int .u64 (W (c 23))) := fun z => z.ok.sc.cell 23 (by decide)
              have a2 : ∀ z : Wd (Pf w q0 qr q8 q9 qc qt (chiK c a (20 + 2)) b c), z.val.cell? ⟨q9, 24, none⟩ = some (Value.int .u64 (W (c 24))) := fun z => z.ok.sc.cell 24 (by decide)
              have HP2 := Lib.hid hp2.out.drew
              go_upto_region 31 with (fail)
              refine wp_region_quiet_tail 30 (Pf w q0 qr q8 q9 qc qt (chiK c a (20 + 2)) b c) (by kernel_rfl) (by kernel_rfl) HP2.out ?_
              simp only [List.take_succ_cons, List.take_zero, List.drop_succ_cons, List.drop_zero]
              repeat (go_big_quiet_step (fail))
              refine wpQuiet_nil ?_
              rintro _ ⟨z, rfl⟩
              have fj := z.ok.sa.fz 22
              have sj : _ = some (Value.int .u64 (W (chiK c a (20 + 2) 22))) := z.ok.sa.cell 22 (by decide)
              clear a0 a1 a2 HP2 NE hp2
              go_wp2_with fail
              rw [W_xones, W_and, W_xor]
              exact ⟨⟨2 + 1, by decide, rfl, Lib.hid ((z.ok.setA 22 _).congA (fun j _ => chi_step c a 22 _ rfl j))⟩, by simp [intOf]⟩
            · rw [show ((3 : Nat) : Int) = 3 from rfl]
              have NE : Nonempty (Wd (Pf w q0 qr q8 q9 qc qt (chiK c a (20 + 3)) b c)) := ⟨⟨_, hp2.out⟩⟩
              have a0 : ∀ z : Wd (Pf w q0 qr q8 q9 qc qt (chiK c a (20 + 3)) b c), z.val.cell? ⟨q9, 23, none⟩ = some (Value.int .u64 (W (c 23))) := fun z => z.ok.sc.cell 23 (by decide)
              have a1 : ∀ z : Wd (Pf w q0 qr q8 q9 qc qt (chiK c a (20 + 3)) b c), z.val.cell? ⟨q9, 24, none⟩ = some (Value.int .u64 (W (c 24))) := fun z => z.ok.sc.cell 24 (by decide)
              have a2 : ∀ z : Wd (Pf w q0 qr q8 q9 qc qt (chiK c a (20 + 3)) b c), z.val.cell? ⟨q9, 20, none⟩ = some (Value.int .u64 (W (c 20))) := fun z => z.ok.sc.cell 20 (by decide)
              have HP2 := Lib.hid hp2.out.drew
              go_upto_region 31 with (fail)
              refine wp_region_quiet_tail 30 (Pf w q0 qr q8 q9 qc qt (chiK c a (20 + 3)) b c) (by kernel_rfl) (by kernel_rfl) HP2.out ?_
              simp only [List.take_succ_cons, List.take_zero, List.drop_succ_cons, List.drop_zero]
              repeat (go_big_quiet_step (fail))
              refine wpQuiet_nil ?_
              rintro _ ⟨z, rfl⟩
              have fj := z.ok.sa.fz 23
              have sj : _ = some (Value.int .u64 (W (chiK c a (20 + 3) 23))) := z.ok.sa.cell 23 (by decide)
              clear a0 a1 a2 HP2 NE hp2
              go_wp2_with fail
              rw [W_xones, W_and, W_xor]
              exact ⟨⟨3 + 1, by decide, rfl, Lib.hid ((z.ok.setA 23 _).congA (fun j _ => chi_step c a 23 _ rfl j))⟩, by simp [intOf]⟩
            · rw [show ((4 : Nat) : Int) = 4 from rfl]
              have NE : Nonempty (Wd (Pf w q0 qr q8 q9 qc qt (chiK c a (20 + 4)) b c)) := ⟨⟨_, hp2.out⟩⟩
              have a0 : ∀ z : Wd (Pf w q0 qr q8 q9 qc qt (chiK c a (20 + 4)) b c), z.val.cell? ⟨q9, 24, none⟩ = some (Value.int .u64 (W (c 24))) := fun z => z.ok.sc.cell 24 (by decide)
              have a1 : ∀ z : Wd (Pf w q0 qr q8 q9 qc qt (chiK c a (20 + 4)) b c), z.val.cell? ⟨q9, 20, none⟩ = some (Value.int .u64 (W (c 20))) := fun z => z.ok.sc.cell 20 (by decide)
              have a2 : ∀ z : Wd (Pf w q0 qr q8 q9 qc qt (chiK c a (20 + 4)) b c), z.val.cell? ⟨q9, 21, none⟩ = some (Value.int .u64 (W (c 21))) := fun z => z.ok.sc.cell 21 (by decide)
              have HP2 := Lib.hid hp2.out.drew
              go_upto_region 31 with (fail)
              refine wp_region_quiet_tail 30 (Pf w q0 qr q8 q9 qc qt (chiK c a (20 + 4)) b c) (by kernel_rfl) (by kernel_rfl) HP2.out ?_
              simp only [List.take_succ_cons, List.take_zero, List.drop_succ_cons, List.drop_zero]
              repeat (go_big_quiet_step (fail))
              refine wpQuiet_nil ?_
              rintro _ ⟨z, rfl⟩
              have fj := z.ok.sa.fz 24
              have sj : _ = some (Value.int .u64 (W (chiK c a (20 + 4) 24))) := z.ok.sa.cell 24 (by decide)
              clear a0 a1 a2 HP2 NE hp2
              go_wp2_with fail
              rw [W_xones, W_and, W_xor]
              exact ⟨⟨4 + 1, by decide, rfl, Lib.hid ((z.ok.setA 24 _).congA (fun j _ => chi_step c a 24 _ rfl j))⟩, by simp [intOf]⟩
          · obtain rfl : y = 5 := by omega
            clear hy
            go_wp2_with fail
            go_roundw
            case rel => exact ⟨4 + 1, by decide, rfl, hp2⟩
            case measure => simp [intOf]
    · obtain rfl : x = 5 := by omega
      have hpx := Lib.hid (hp.out.congA (a' := chi c) (fun i hi => by unfold chiK; rw [if_pos (by omega)]))
      clear hp
      go_wp2_with fail
      exact HEX.out _ _ _ _ _ _ _ _ _ _ _ _ _ _ _ _ _ _ _ _ _ _ _ _ _ _ _ _ _ _ _ _ _ _ _ _ _ _ _ _ hpx.out
end Kc
end Go.Proofs.YtnfcjangminhoaaDoor
