/-
  mootref02.permute, its first loop: theta. Written by genref.py. Own work.
-/
import Derived.Test.YtnfcjangminhoaaDoorRcon
import Derived.Test.YtnfcjangminhoaaDoorRleft
import Derived.Test.YtnfcjangminhoaaDoorLps
import Derived.Test.YtnfcjangminhoaaDoorQtl
import Derived.Test.YtnfcjangminhoaaDoorKrows
import Derived.RegionTactic
import Derived.BigRegion
import Derived.StillTailTactics
import Derived.IntWalk
namespace Go.Proofs.YtnfcjangminhoaaDoor
open Go.RowKit
set_option linter.unusedVariables false
namespace Kc
structure Pf (W : World) (q0 qr q8 q9 qc qt : Nat) (a b c : Nat → Wd64) (y : World) : Prop where
  sa : IsTab y q0 75 25 fun i => wv (a i)
  sr : IsTab y qr 75 25 fun _ => wv 0#64
  sb : IsTab y q8 75 25 fun i => wv (b i)
  sc : IsTab y q9 75 25 fun i => wv (c i)
  cons : ∀ i, i < 24 → y.cell? ⟨qc, i, none⟩ = some (wv (consts.getD i 0#64))
  turn : ∀ j, j < 25 → y.cell? ⟨qt, j, none⟩ = some (tv (turns.getD j 0))
  lc : qc < W.heap.size
  lt : qt < W.heap.size
  g0 : W.heap.size ≤ q0
  o1 : q0 < qr
  o2 : qr < q8
  o3 : q8 < q9
  below : Below W.heap.size W y
namespace Pf
variable {W : World} {q0 qr q8 q9 qc qt : Nat} {a b c : Nat → Wd64} {y : World}
theorem drew (h : Pf W q0 qr q8 q9 qc qt a b c y) : Pf W q0 qr q8 q9 qc qt a b c y.drew := ⟨h.sa, h.sr, h.sb, h.sc, h.cons, h.turn, h.lc, h.lt, h.g0, h.o1, h.o2, h.o3, h.below.drew⟩
theorem cell_old (h : Pf W q0 qr q8 q9 qc qt a b c y) {q i k j : Nat} {v : Value} (hq : W.heap.size ≤ q) (hk : k < W.heap.size) : (y.setCell ⟨q, i, none⟩ v).cell? ⟨k, j, none⟩ = y.cell? ⟨k, j, none⟩ :=
  World.cell?_setCell_other _ _ _ _ (fun e => by have := congrArg Addr.block e; simp only at this; omega)
theorem setA (h : Pf W q0 qr q8 q9 qc qt a b c y) (i : Nat) (x : Wd64) : Pf W q0 qr q8 q9 qc qt (upd a i x) b c (y.setCell ⟨q0, i, none⟩ (wv x)) :=
  ⟨(h.sa.set i _).cong (fun j _ => by unfold updv upd; dsimp only; split <;> rfl), h.sr.keep (by have := h.o1; omega), h.sb.keep (by have := h.o1; have := h.o2; omega), h.sc.keep (by have := h.o1; have := h.o2; have := h.o3; omega),
   fun k hk => by rw [h.cell_old h.g0 h.lc]; exact h.cons k hk, fun k hk => by rw [h.cell_old h.g0 h.lt]; exact h.turn k hk, h.lc, h.lt, h.g0, h.o1, h.o2, h.o3, h.below.setCell h.g0 _⟩
theorem setB (h : Pf W q0 qr q8 q9 qc qt a b c y) (i : Nat) (x : Wd64) : Pf W q0 qr q8 q9 qc qt a (upd b i x) c (y.setCell ⟨q8, i, none⟩ (wv x)) :=
  have g : W.heap.size ≤ q8 := by have := h.g0; have := h.o1; have := h.o2; omega
  ⟨h.sa.keep (by have := h.o1; have := h.o2; omega), h.sr.keep (by have := h.o2; omega), (h.sb.set i _).cong (fun j _ => by unfold updv upd; dsimp only; split <;> rfl), h.sc.keep (by have := h.o3; omega),
   fun k hk => by rw [h.cell_old g h.lc]; exact h.cons k hk, fun k hk => by rw [h.cell_old g h.lt]; exact h.turn k hk, h.lc, h.lt, h.g0, h.o1, h.o2, h.o3, h.below.setCell g _⟩
theorem setC (h : Pf W q0 qr q8 q9 qc qt a b c y) (i : Nat) (x : Wd64) : Pf W q0 qr q8 q9 qc qt a b (upd c i x) (y.setCell ⟨q9, i, none⟩ (wv x)) :=
  have g : W.heap.size ≤ q9 := by have := h.g0; have := h.o1; have := h.o2; have := h.o3; omega
  ⟨h.sa.keep (by have := h.o1; have := h.o2; have := h.o3; omega), h.sr.keep (by have := h.o2; have := h.o3; omega), h.sb.keep (by have := h.o3; omega), (h.sc.set i _).cong (fun j _ => by unfold updv upd; dsimp only; split <;> rfl),
   fun k hk => by rw [h.cell_old g h.lc]; exact h.cons k hk, fun k hk => by rw [h.cell_old g h.lt]; exact h.turn k hk, h.lc, h.lt, h.g0, h.o1, h.o2, h.o3, h.below.setCell g _⟩
theorem congA (h : Pf W q0 qr q8 q9 qc qt a b c y) {a' : Nat → Wd64} (e : ∀ i, i < 25 → a i = a' i) : Pf W q0 qr q8 q9 qc qt a' b c y :=
  ⟨h.sa.cong (fun i hi => by rw [e i hi]), h.sr, h.sb, h.sc, h.cons, h.turn, h.lc, h.lt, h.g0, h.o1, h.o2, h.o3, h.below⟩
theorem congB (h : Pf W q0 qr q8 q9 qc qt a b c y) {b' : Nat → Wd64} (e : ∀ i, i < 25 → b i = b' i) : Pf W q0 qr q8 q9 qc qt a b' c y :=
  ⟨h.sa, h.sr, h.sb.cong (fun i hi => by rw [e i hi]), h.sc, h.cons, h.turn, h.lc, h.lt, h.g0, h.o1, h.o2, h.o3, h.below⟩
theorem congC (h : Pf W q0 qr q8 q9 qc qt a b c y) {c' : Nat → Wd64} (e : ∀ i, i < 25 → c i = c' i) : Pf W q0 qr q8 q9 qc qt a b c' y :=
  ⟨h.sa, h.sr, h.sb, h.sc.cong (fun i hi => by rw [e i hi]), h.cons, h.turn, h.lc, h.lt, h.g0, h.o1, h.o2, h.o3, h.below⟩
end Pf
theorem left_one (x : Wd64) (w : World) : Calls Tryd.prog 51 #[.int .u64 (W x), .int .i64 1] w fun e w' => e = .returned (.int .u64 (W (rotl x 1))) ∧ w = w' := left_is x 1 (by decide) w
def thK (a : Nat → Wd64) (x k : Nat) : Nat → Wd64 := fun j => if j % 5 < x ∨ (j % 5 = x ∧ j / 5 < k) then theta a j else 0#64
theorem thK_step (a : Nat → Wd64) (x k : Nat) (m n : Wd64) (hx : x < 5) (hm : par a ((x + 4) % 5) = m) (hn : par a ((x + 1) % 5) = n) (j : Nat) :
    upd (thK a x k) (x + 5 * k) (a (x + 5 * k) ^^^ m ^^^ rotl n 1) j = thK a x (k + 1) j := by
  unfold upd thK
  by_cases h : j = x + 5 * k
  · subst h
    rw [if_pos rfl, if_pos (by omega)]
    unfold theta dd
    rw [show (x + 5 * k) % 5 = x from by omega, hm, hn, BitVec.xor_assoc]
  · rw [if_neg h]
    by_cases h2 : j % 5 < x ∨ (j % 5 = x ∧ j / 5 < k)
    · rw [if_pos h2, if_pos (by omega)]
    · rw [if_neg h2, if_neg (by omega)]
def parK (a : Nat → Wd64) (c : Nat) : Nat → Wd64
  | 0 => 0#64
  | k + 1 => parK a c k ^^^ a (c + 5 * k)
theorem parK5 (a : Nat → Wd64) (c : Nat) : parK a c 5 = par a c := by
  show 0#64 ^^^ a (c + 5 * 0) ^^^ a (c + 5 * 1) ^^^ a (c + 5 * 2) ^^^ a (c + 5 * 3) ^^^ a (c + 5 * 4) = _
  rw [BitVec.zero_xor]; rfl
noncomputable def thBody : Code := ((Tryd.f47.body.map fun c => loopAt 0 (loopAt 0 c)).getD .skip)
set_option maxHeartbeats 40000000 in
set_option maxRecDepth 1000000 in
theorem theta_loop {Q0 : Exit → Act → World → Prop} (q0 qr q8 q9 qc qt : Nat) (a b c : Nat → Wd64) (w : World) (c0 c1 c4 c5 c7 c15 c16 c17 c18 c19 c20 c21 c22 c67 c68 c69 c70 c71 c72 c73 c74 c75 c76 c77 c78 c79 c80 c81 c82 c83 c84 c85 c86 c87 c88 c89 c90 c91 c92 c93 c94 c95 c96 c97 c98 c99 c100 c101 c102 c103 c104 c105 c106 c107 c108 c109 c110 c111 c112 c113 c114 c115 c116 c117 c118 c119 c120 c121 c122 c123 c124 c125 c126 c127 c128 c129 c130 c131 c132 c133 c134 c135 c136 c137 c138 c139 c140 c141 c142 c143 c144 c145 u11 u12 u13 u14 u23 u24 u25 u26 u27 u28 u29 u30 u31 u32 u33 u34 u35 u36 u37 u38 u39 u40 u41 u42 u43 u44 u45 u46 u47 u48 u49 u50 u51 u52 u53 u54 u55 u56 u57 u58 u59 u60 u61 u62 u63 u64 u65 u66 : Value) (z0 : World)
    (hp : Pf w q0 qr q8 q9 qc qt a (fun _ => 0#64) c z0)
    (hexit : ∀ (v11 v12 v13 v14 v23 v24 v25 v26 v27 v28 v29 v30 v31 v32 v33 v34 v35 v36 v37 v38 v39 v40 v41 v42 v43 v44 v45 v46 v47 v48 v49 v50 v51 v52 v53 v54 v55 v56 v57 v58 v59 v60 v61 v62 v63 v64 v65 v66 : Value) (z : World), Pf w q0 qr q8 q9 qc qt a (theta a) c z → Q0 (.exit 2) ⟨(c0 :: c1 :: Value.slice (some ⟨qt, 0, none⟩) 25 25 :: Value.pointer (some ⟨q0, 0, none⟩) :: c4 :: c5 :: Value.pointer (some ⟨qr, 0, none⟩) :: c7 :: Value.pointer (some ⟨q8, 0, none⟩) :: Value.pointer (some ⟨q9, 0, none⟩) :: Value.int .i64 5 :: v11 :: v12 :: v13 :: v14 :: c15 :: c16 :: c17 :: c18 :: c19 :: c20 :: c21 :: c22 :: v23 :: v24 :: v25 :: v26 :: v27 :: v28 :: v29 :: v30 :: v31 :: v32 :: v33 :: v34 :: v35 :: v36 :: v37 :: v38 :: v39 :: v40 :: v41 :: v42 :: v43 :: v44 :: v45 :: v46 :: v47 :: v48 :: v49 :: v50 :: v51 :: v52 :: v53 :: v54 :: v55 :: v56 :: v57 :: v58 :: v59 :: v60 :: v61 :: v62 :: v63 :: v64 :: v65 :: v66 :: c67 :: c68 :: c69 :: c70 :: c71 :: c72 :: c73 :: c74 :: c75 :: c76 :: c77 :: c78 :: c79 :: c80 :: c81 :: c82 :: c83 :: c84 :: c85 :: c86 :: c87 :: c88 :: c89 :: c90 :: c91 :: c92 :: c93 :: c94 :: c95 :: c96 :: c97 :: c98 :: c99 :: c100 :: c101 :: c102 :: c103 :: c104 :: c105 :: c106 :: c107 :: c108 :: c109 :: c110 :: c111 :: c112 :: c113 :: c114 :: c115 :: c116 :: c117 :: c118 :: c119 :: c120 :: c121 :: c122 :: c123 :: c124 :: c125 :: c126 :: c127 :: c128 :: c129 :: c130 :: c131 :: c132 :: c133 :: c134 :: c135 :: c136 :: c137 :: c138 :: c139 :: c140 :: c141 :: c142 :: c143 :: c144 :: c145 :: []).toArray, []⟩ z) :
    Code.wp Tryd.prog (Code.loop thBody) Q0 ⟨(c0 :: c1 :: Value.slice (some ⟨qt, 0, none⟩) 25 25 :: Value.pointer (some ⟨q0, 0, none⟩) :: c4 :: c5 :: Value.pointer (some ⟨qr, 0, none⟩) :: c7 :: Value.pointer (some ⟨q8, 0, none⟩) :: Value.pointer (some ⟨q9, 0, none⟩) :: Value.int .i64 0 :: u11 :: u12 :: u13 :: u14 :: c15 :: c16 :: c17 :: c18 :: c19 :: c20 :: c21 :: c22 :: u23 :: u24 :: u25 :: u26 :: u27 :: u28 :: u29 :: u30 :: u31 :: u32 :: u33 :: u34 :: u35 :: u36 :: u37 :: u38 :: u39 :: u40 :: u41 :: u42 :: u43 :: u44 :: u45 :: u46 :: u47 :: u48 :: u49 :: u50 :: u51 :: u52 :: u53 :: u54 :: u55 :: u56 :: u57 :: u58 :: u59 :: u60 :: u61 :: u62 :: u63 :: u64 :: u65 :: u66 :: c67 :: c68 :: c69 :: c70 :: c71 :: c72 :: c73 :: c74 :: c75 :: c76 :: c77 :: c78 :: c79 :: c80 :: c81 :: c82 :: c83 :: c84 :: c85 :: c86 :: c87 :: c88 :: c89 :: c90 :: c91 :: c92 :: c93 :: c94 :: c95 :: c96 :: c97 :: c98 :: c99 :: c100 :: c101 :: c102 :: c103 :: c104 :: c105 :: c106 :: c107 :: c108 :: c109 :: c110 :: c111 :: c112 :: c113 :: c114 :: c115 :: c116 :: c117 :: c118 :: c119 :: c120 :: c121 :: c122 :: c123 :: c124 :: c125 :: c126 :: c127 :: c128 :: c129 :: c130 :: c131 :: c132 :: c133 :: c134 :: c135 :: c136 :: c137 :: c138 :: c139 :: c140 :: c141 :: c142 :: c143 :: c144 :: c145 :: []).toArray, []⟩ z0 := by
  conv => arg 2; whnf
  conv => arg 2; arg 1; whnf
  have HEX := Lib.hid hexit
  clear hexit
  have HPP := Lib.hid hp
  clear hp
  go_loopw [10] (fun s z => ∃ x : Nat, x ≤ 5 ∧ s = .int .i64 x ∧ Hid (Pf w q0 qr q8 q9 qc qt a (thK a x 0) c z)) (fun s _ => 5 - (intOf s).toNat)
  case atStart => exact ⟨0, by decide, rfl, Lib.hid (HPP.out.congB fun j _ => by unfold thK; rw [if_neg (by omega)])⟩
  case round =>
    obtain ⟨x, hx, rfl, hp⟩ := hrel
    clear HPP
    by_cases hx5 : (x : Int) < 5
    · have hc : x = 0 ∨ x = 1 ∨ x = 2 ∨ x = 3 ∨ x = 4 := by omega
      clear hx hx5
      rcases hc with rfl | rfl | rfl | rfl | rfl
      · rw [show ((0 : Nat) : Int) = 0 from rfl]
        go_wp2_with fail
        go_loop [11, 12, 13] (fun m n y => ∃ k : Nat, k ≤ 5 ∧ m = .int .u64 (W (parK a 4 k)) ∧ n = .int .u64 (W (parK a 1 k)) ∧ y = .int .i64 (5 * (k : Int))) (fun _ _ y => 25 - (intOf y).toNat)
        case atStart => exact ⟨0, by decide, rfl, rfl, rfl⟩
        case round =>
          obtain ⟨k, hk, rfl, rfl, rfl⟩ := hrel
          by_cases hk5 : (k : Int) < 5
          · have a1 : _ = some (Value.int .u64 (W (a (4 + 5 * k)))) := hp.out.sa.cell (4 + 5 * k) (by omega)
            have a2 : _ = some (Value.int .u64 (W (a (1 + 5 * k)))) := hp.out.sa.cell (1 + 5 * k) (by omega)
            have e1 : parK a 4 k ^^^ a (4 + 5 * k) = parK a 4 (k + 1) := rfl
            have e2 : parK a 1 k ^^^ a (1 + 5 * k) = parK a 1 (k + 1) := rfl
            have E1 := Lib.hid e1
            have E2 := Lib.hid e2
            clear e1 e2
            generalize parK a 4 k = p1 at *
            generalize parK a 1 k = p2 at *
            go_wp2_with fail
            go_round
            case rel => exact ⟨k + 1, by omega, by rw [W_xor, ← E1.out], by rw [W_xor, ← E2.out], by go_num⟩
            case measure => simp [intOf]; omega
          · obtain rfl : k = 5 := by omega
            rw [parK5, parK5]
            generalize hm : par a 4 = m at *
            generalize hn : par a 1 = n at *
            have HM := Lib.hid hm
            have HN := Lib.hid hn
            clear hm hn
            go_wp2_with fail
            go_loopw [14] (fun y z => ∃ k : Nat, k ≤ 5 ∧ y = .int .i64 (5 * (k : Int)) ∧ Hid (Pf w q0 qr q8 q9 qc qt a (thK a 0 k) c z)) (fun y _ => 25 - (intOf y).toNat)
            case atStart => exact ⟨0, by decide, rfl, hp⟩
            case round =>
              obtain ⟨k, hk, rfl, hp2⟩ := hrel
              clear hp
              by_cases hk5 : (k : Int) < 5
              · have NE : Nonempty (Wd (Pf w q0 qr q8 q9 qc qt a (thK a 0 k) c)) := ⟨⟨_, hp2.out⟩⟩
                have a1 : ∀ z : Wd (Pf w q0 qr q8 q9 qc qt a (thK a 0 k) c), z.val.cell? ⟨q0, 0 + 5 * k, none⟩ = some (Value.int .u64 (W (a (0 + 5 * k)))) := fun z => z.ok.sa.cell (0 + 5 * k) (by omega)
                simp only [Nat.zero_add] at a1
                have s2 : (0 : Int) ≤ 0 + 5 * (k : Int) := by omega
                have s3 : (0 : Int) + 5 * (k : Int) < 25 := by omega
                have s4 : ((0 : Int) + 5 * (k : Int)).toNat = 0 + 5 * k := by omega
                have s1 : IntKind.i64.wrap ((0 : Int) + 5 * (k : Int)) = 0 + 5 * (k : Int) := IntWalk.i64_in _ (by omega)
                have q1 := fun z : Wd (Pf w q0 qr q8 q9 qc qt a (thK a 0 k) c) => in_of_same z (left_one n z.val)
                have Q1 := Lib.hid q1
                clear q1
                have HP2 := Lib.hid hp2.out.drew
                go_upto_region 17 with (fail)
                refine wp_region_quiet_tail 14 (Pf w q0 qr q8 q9 qc qt a (thK a 0 k) c) (by kernel_rfl) (by kernel_rfl) HP2.out ?_
                simp only [List.take_succ_cons, List.take_zero, List.drop_succ_cons, List.drop_zero]
                repeat (go_big_quiet_step (with_reducible exact Q1.out _))
                refine wpQuiet_nil ?_
                rintro _ ⟨z, rfl⟩
                have fj := z.ok.sb.fz (0 + 5 * k)
                have sj : _ = some (Value.int .u64 (W (thK a 0 k (0 + 5 * k)))) := z.ok.sb.cell (0 + 5 * k) (by omega)
                clear a1 s1 s2 s3 s4 Q1 HP2 NE hp2
                simp only [Nat.zero_add] at fj sj
                go_wp2_with fail
                rw [W_xor, W_xor]
                exact ⟨⟨k + 1, by omega, congrArg _ (by omega), (by have h := (z.ok.setB (0 + 5 * k) (a (0 + 5 * k) ^^^ m ^^^ rotl n 1)).congB (fun j _ => thK_step a 0 k m n (by decide) HM.out HN.out j); simp only [Nat.zero_add] at h; exact Lib.hid h)⟩, by simp [intOf]; omega⟩
              · obtain rfl : k = 5 := by omega
                have hpn := Lib.hid (hp2.out.congB (b' := thK a (0 + 1) 0) (fun i hi => by
                  unfold thK
                  by_cases h1 : i % 5 < 0 ∨ (i % 5 = 0 ∧ i / 5 < 5)
                  · rw [if_pos h1, if_pos (by omega)]
                  · rw [if_neg h1, if_neg (by omega)]))
                clear hp2
                go_wp2_with fail
                go_roundw
                case rel => exact ⟨0 + 1, by omega, by go_num, hpn⟩
                case measure => simp [intOf]
      · rw [show ((1 : Nat) : Int) = 1 from rfl]
        go_wp2_with fail
        go_loop [11, 12, 13] (fun m n y => ∃ k : Nat, k ≤ 5 ∧ m = .int .u64 (W (parK a 0 k)) ∧ n = .int .u64 (W (parK a 2 k)) ∧ y = .int .i64 (5 * (k : Int))) (fun _ _ y => 25 - (intOf y).toNat)
        case atStart => exact ⟨0, by decide, rfl, rfl, rfl⟩
        case round =>
          obtain ⟨k, hk, rfl, rfl, rfl⟩ := hrel
          by_cases hk5 : (k : Int) < 5
          · have a1 : _ = some (Value.int .u64 (W (a (0 + 5 * k)))) := hp.out.sa.cell (0 + 5 * k) (by omega)
            have a2 : _ = some (Value.int .u64 (W (a (2 + 5 * k)))) := hp.out.sa.cell (2 + 5 * k) (by omega)
            have e1 : parK a 0 k ^^^ a (0 + 5 * k) = parK a 0 (k + 1) := rfl
            have e2 : parK a 2 k ^^^ a (2 + 5 * k) = parK a 2 (k + 1) := rfl
            rw [Nat.zero_add] at e1
            have E1 := Lib.hid e1
            have E2 := Lib.hid e2
            clear e1 e2
            generalize parK a 0 k = p1 at *
            generalize parK a 2 k = p2 at *
            rw [Nat.zero_add] at a1
            go_wp2_with fail
            go_round
            case rel => exact ⟨k + 1, by omega, by rw [W_xor, ← E1.out], by rw [W_xor, ← E2.out], by go_num⟩
            case measure => simp [intOf]; omega
          · obtain rfl : k = 5 := by omega
            rw [parK5, parK5]
            generalize hm : par a 0 = m at *
            generalize hn : par a 2 = n at *
            have HM := Lib.hid hm
            have HN := Lib.hid hn
            clear hm hn
            go_wp2_with fail
            go_loopw [14] (fun y z => ∃ k : Nat, k ≤ 5 ∧ y = .int .i64 (5 * (k : Int)) ∧ Hid (Pf w q0 qr q8 q9 qc qt a (thK a 1 k) c z)) (fun y _ => 25 - (intOf y).toNat)
            case atStart => exact ⟨0, by decide, rfl, hp⟩
            case round =>
              obtain ⟨k, hk, rfl, hp2⟩ := hrel
              clear hp
              by_cases hk5 : (k : Int) < 5
              · have NE : Nonempty (Wd (Pf w q0 qr q8 q9 qc qt a (thK a 1 k) c)) := ⟨⟨_, hp2.out⟩⟩
                have a1 : ∀ z : Wd (Pf w q0 qr q8 q9 qc qt a (thK a 1 k) c), z.val.cell? ⟨q0, 1 + 5 * k, none⟩ = some (Value.int .u64 (W (a (1 + 5 * k)))) := fun z => z.ok.sa.cell (1 + 5 * k) (by omega)
                have s2 : (0 : Int) ≤ 1 + 5 * (k : Int) := by omega
                have s3 : (1 : Int) + 5 * (k : Int) < 25 := by omega
                have s4 : ((1 : Int) + 5 * (k : Int)).toNat = 1 + 5 * k := by omega
                have s1 : IntKind.i64.wrap ((1 : Int) + 5 * (k : Int)) = 1 + 5 * (k : Int) := IntWalk.i64_in _ (by omega)
                have q1 := fun z : Wd (Pf w q0 qr q8 q9 qc qt a (thK a 1 k) c) => in_of_same z (left_one n z.val)
                have Q1 := Lib.hid q1
                clear q1
                have HP2 := Lib.hid hp2.out.drew
                go_upto_region 17 with (fail)
                refine wp_region_quiet_tail 14 (Pf w q0 qr q8 q9 qc qt a (thK a 1 k) c) (by kernel_rfl) (by kernel_rfl) HP2.out ?_
                simp only [List.take_succ_cons, List.take_zero, List.drop_succ_cons, List.drop_zero]
                repeat (go_big_quiet_step (with_reducible exact Q1.out _))
                refine wpQuiet_nil ?_
                rintro _ ⟨z, rfl⟩
                have fj := z.ok.sb.fz (1 + 5 * k)
                have sj : _ = some (Value.int .u64 (W (thK a 1 k (1 + 5 * k)))) := z.ok.sb.cell (1 + 5 * k) (by omega)
                clear a1 s1 s2 s3 s4 Q1 HP2 NE hp2
                go_wp2_with fail
                rw [W_xor, W_xor]
                exact ⟨⟨k + 1, by omega, congrArg _ (by omega), Lib.hid ((z.ok.setB (1 + 5 * k) _).congB (fun j _ => thK_step a 1 k m n (by decide) HM.out HN.out j))⟩, by simp [intOf]; omega⟩
              · obtain rfl : k = 5 := by omega
                have hpn := Lib.hid (hp2.out.congB (b' := thK a (1 + 1) 0) (fun i hi => by
                  unfold thK
                  by_cases h1 : i % 5 < 1 ∨ (i % 5 = 1 ∧ i / 5 < 5)
                  · rw [if_pos h1, if_pos (by omega)]
                  · rw [if_neg h1, if_neg (by omega)]))
                clear hp2
                go_wp2_with fail
                go_roundw
                case rel => exact ⟨1 + 1, by omega, by go_num, hpn⟩
                case measure => simp [intOf]
      · rw [show ((2 : Nat) : Int) = 2 from rfl]
        go_wp2_with fail
        go_loop [11, 12, 13] (fun m n y => ∃ k : Nat, k ≤ 5 ∧ m = .int .u64 (W (parK a 1 k)) ∧ n = .int .u64 (W (parK a 3 k)) ∧ y = .int .i64 (5 * (k : Int))) (fun _ _ y => 25 - (intOf y).toNat)
        case atStart => exact ⟨0, by decide, rfl, rfl, rfl⟩
        case round =>
          obtain ⟨k, hk, rfl, rfl, rfl⟩ := hrel
          by_cases hk5 : (k : Int) < 5
          · have a1 : _ = some (Value.int .u64 (W (a (1 + 5 * k)))) := hp.out.sa.cell (1 + 5 * k) (by omega)
            have a2 : _ = some (Value.int .u64 (W (a (3 + 5 * k)))) := hp.out.sa.cell (3 + 5 * k) (by omega)
            have e1 : parK a 1 k ^^^ a (1 + 5 * k) = parK a 1 (k + 1) := rfl
            have e2 : parK a 3 k ^^^ a (3 + 5 * k) = parK a 3 (k + 1) := rfl
            have E1 := Lib.hid e1
            have E2 := Lib.hid e2
            clear e1 e2
            generalize parK a 1 k = p1 at *
            generalize parK a 3 k = p2 at *
            go_wp2_with fail
            go_round
            case rel => exact ⟨k + 1, by omega, by rw [W_xor, ← E1.out], by rw [W_xor, ← E2.out], by go_num⟩
            case measure => simp [intOf]; omega
          · obtain rfl : k = 5 := by omega
            rw [parK5, parK5]
            generalize hm : par a 1 = m at *
            generalize hn : par a 3 = n at *
            have HM := Lib.hid hm
            have HN := Lib.hid hn
            clear hm hn
            go_wp2_with fail
            go_loopw [14] (fun y z => ∃ k : Nat, k ≤ 5 ∧ y = .int .i64 (5 * (k : Int)) ∧ Hid (Pf w q0 qr q8 q9 qc qt a (thK a 2 k) c z)) (fun y _ => 25 - (intOf y).toNat)
            case atStart => exact ⟨0, by decide, rfl, hp⟩
            case round =>
              obtain ⟨k, hk, rfl, hp2⟩ := hrel
              clear hp
              by_cases hk5 : (k : Int) < 5
              · have NE : Nonempty (Wd (Pf w q0 qr q8 q9 qc qt a (thK a 2 k) c)) := ⟨⟨_, hp2.out⟩⟩
                have a1 : ∀ z : Wd (Pf w q0 qr q8 q9 qc qt a (thK a 2 k) c), z.val.cell? ⟨q0, 2 + 5 * k, none⟩ = some (Value.int .u64 (W (a (2 + 5 * k)))) := fun z => z.ok.sa.cell (2 + 5 * k) (by omega)
                have s2 : (0 : Int) ≤ 2 + 5 * (k : Int) := by omega
                have s3 : (2 : Int) + 5 * (k : Int) < 25 := by omega
                have s4 : ((2 : Int) + 5 * (k : Int)).toNat = 2 + 5 * k := by omega
                have s1 : IntKind.i64.wrap ((2 : Int) + 5 * (k : Int)) = 2 + 5 * (k : Int) := IntWalk.i64_in _ (by omega)
                have q1 := fun z : Wd (Pf w q0 qr q8 q9 qc qt a (thK a 2 k) c) => in_of_same z (left_one n z.val)
                have Q1 := Lib.hid q1
                clear q1
                have HP2 := Lib.hid hp2.out.drew
                go_upto_region 17 with (fail)
                refine wp_region_quiet_tail 14 (Pf w q0 qr q8 q9 qc qt a (thK a 2 k) c) (by kernel_rfl) (by kernel_rfl) HP2.out ?_
                simp only [List.take_succ_cons, List.take_zero, List.drop_succ_cons, List.drop_zero]
                repeat (go_big_quiet_step (with_reducible exact Q1.out _))
                refine wpQuiet_nil ?_
                rintro _ ⟨z, rfl⟩
                have fj := z.ok.sb.fz (2 + 5 * k)
                have sj : _ = some (Value.int .u64 (W (thK a 2 k (2 + 5 * k)))) := z.ok.sb.cell (2 + 5 * k) (by omega)
                clear a1 s1 s2 s3 s4 Q1 HP2 NE hp2
                go_wp2_with fail
                rw [W_xor, W_xor]
                exact ⟨⟨k + 1, by omega, congrArg _ (by omega), Lib.hid ((z.ok.setB (2 + 5 * k) _).congB (fun j _ => thK_step a 2 k m n (by decide) HM.out HN.out j))⟩, by simp [intOf]; omega⟩
              · obtain rfl : k = 5 := by omega
                have hpn := Lib.hid (hp2.out.congB (b' := thK a (2 + 1) 0) (fun i hi => by
                  unfold thK
                  by_cases h1 : i % 5 < 2 ∨ (i % 5 = 2 ∧ i / 5 < 5)
                  · rw [if_pos h1, if_pos (by omega)]
                  · rw [if_neg h1, if_neg (by omega)]))
                clear hp2
                go_wp2_with fail
                go_roundw
                case rel => exact ⟨2 + 1, by omega, by go_num, hpn⟩
                case measure => simp [intOf]
      · rw [show ((3 : Nat) : Int) = 3 from rfl]
        go_wp2_with fail
        go_loop [11, 12, 13] (fun m n y => ∃ k : Nat, k ≤ 5 ∧ m = .int .u64 (W (parK a 2 k)) ∧ n = .int .u64 (W (parK a 4 k)) ∧ y = .int .i64 (5 * (k : Int))) (fun _ _ y => 25 - (intOf y).toNat)
        case atStart => exact ⟨0, by decide, rfl, rfl, rfl⟩
        case round =>
          obtain ⟨k, hk, rfl, rfl, rfl⟩ := hrel
          by_cases hk5 : (k : Int) < 5
          · have a1 : _ = some (Value.int .u64 (W (a (2 + 5 * k)))) := hp.out.sa.cell (2 + 5 * k) (by omega)
            have a2 : _ = some (Value.int .u64 (W (a (4 + 5 * k)))) := hp.out.sa.cell (4 + 5 * k) (by omega)
            have e1 : parK a 2 k ^^^ a (2 + 5 * k) = parK a 2 (k + 1) := rfl
            have e2 : parK a 4 k ^^^ a (4 + 5 * k) = parK a 4 (k + 1) := rfl
            have E1 := Lib.hid e1
            have E2 := Lib.hid e2
            clear e1 e2
            generalize parK a 2 k = p1 at *
            generalize parK a 4 k = p2 at *
            go_wp2_with fail
            go_round
            case rel => exact ⟨k + 1, by omega, by rw [W_xor, ← E1.out], by rw [W_xor, ← E2.out], by go_num⟩
            case measure => simp [intOf]; omega
          · obtain rfl : k = 5 := by omega
            rw [parK5, parK5]
            generalize hm : par a 2 = m at *
            generalize hn : par a 4 = n at *
            have HM := Lib.hid hm
            have HN := Lib.hid hn
            clear hm hn
            go_wp2_with fail
            go_loopw [14] (fun y z => ∃ k : Nat, k ≤ 5 ∧ y = .int .i64 (5 * (k : Int)) ∧ Hid (Pf w q0 qr q8 q9 qc qt a (thK a 3 k) c z)) (fun y _ => 25 - (intOf y).toNat)
            case atStart => exact ⟨0, by decide, rfl, hp⟩
            case round =>
              obtain ⟨k, hk, rfl, hp2⟩ := hrel
              clear hp
              by_cases hk5 : (k : Int) < 5
              · have NE : Nonempty (Wd (Pf w q0 qr q8 q9 qc qt a (thK a 3 k) c)) := ⟨⟨_, hp2.out⟩⟩
                have a1 : ∀ z : Wd (Pf w q0 qr q8 q9 qc qt a (thK a 3 k) c), z.val.cell? ⟨q0, 3 + 5 * k, none⟩ = some (Value.int .u64 (W (a (3 + 5 * k)))) := fun z => z.ok.sa.cell (3 + 5 * k) (by omega)
                have s2 : (0 : Int) ≤ 3 + 5 * (k : Int) := by omega
                have s3 : (3 : Int) + 5 * (k : Int) < 25 := by omega
                have s4 : ((3 : Int) + 5 * (k : Int)).toNat = 3 + 5 * k := by omega
                have s1 : IntKind.i64.wrap ((3 : Int) + 5 * (k : Int)) = 3 + 5 * (k : Int) := IntWalk.i64_in _ (by omega)
                have q1 := fun z : Wd (Pf w q0 qr q8 q9 qc qt a (thK a 3 k) c) => in_of_same z (left_one n z.val)
                have Q1 := Lib.hid q1
                clear q1
                have HP2 := Lib.hid hp2.out.drew
                go_upto_region 17 with (fail)
                refine wp_region_quiet_tail 14 (Pf w q0 qr q8 q9 qc qt a (thK a 3 k) c) (by kernel_rfl) (by kernel_rfl) HP2.out ?_
                simp only [List.take_succ_cons, List.take_zero, List.drop_succ_cons, List.drop_zero]
                repeat (go_big_quiet_step (with_reducible exact Q1.out _))
                refine wpQuiet_nil ?_
                rintro _ ⟨z, rfl⟩
                have fj := z.ok.sb.fz (3 + 5 * k)
                have sj : _ = some (Value.int .u64 (W (thK a 3 k (3 + 5 * k)))) := z.ok.sb.cell (3 + 5 * k) (by omega)
                clear a1 s1 s2 s3 s4 Q1 HP2 NE hp2
                go_wp2_with fail
                rw [W_xor, W_xor]
                exact ⟨⟨k + 1, by omega, congrArg _ (by omega), Lib.hid ((z.ok.setB (3 + 5 * k) _).congB (fun j _ => thK_step a 3 k m n (by decide) HM.out HN.out j))⟩, by simp [intOf]; omega⟩
              · obtain rfl : k = 5 := by omega
                have hpn := Lib.hid (hp2.out.congB (b' := thK a (3 + 1) 0) (fun i hi => by
                  unfold thK
                  by_cases h1 : i % 5 < 3 ∨ (i % 5 = 3 ∧ i / 5 < 5)
                  · rw [if_pos h1, if_pos (by omega)]
                  · rw [if_neg h1, if_neg (by omega)]))
                clear hp2
                go_wp2_with fail
                go_roundw
                case rel => exact ⟨3 + 1, by omega, by go_num, hpn⟩
                case measure => simp [intOf]
      · rw [show ((4 : Nat) : Int) = 4 from rfl]
        go_wp2_with fail
        go_loop [11, 12, 13] (fun m n y => ∃ k : Nat, k ≤ 5 ∧ m = .int .u64 (W (parK a 3 k)) ∧ n = .int .u64 (W (parK a 0 k)) ∧ y = .int .i64 (5 * (k : Int))) (fun _ _ y => 25 - (intOf y).toNat)
        case atStart => exact ⟨0, by decide, rfl, rfl, rfl⟩
        case round =>
          obtain ⟨k, hk, rfl, rfl, rfl⟩ := hrel
          by_cases hk5 : (k : Int) < 5
          · have a1 : _ = some (Value.int .u64 (W (a (3 + 5 * k)))) := hp.out.sa.cell (3 + 5 * k) (by omega)
            have a2 : _ = some (Value.int .u64 (W (a (0 + 5 * k)))) := hp.out.sa.cell (0 + 5 * k) (by omega)
            have e1 : parK a 3 k ^^^ a (3 + 5 * k) = parK a 3 (k + 1) := rfl
            have e2 : parK a 0 k ^^^ a (0 + 5 * k) = parK a 0 (k + 1) := rfl
            rw [Nat.zero_add] at e2
            have E1 := Lib.hid e1
            have E2 := Lib.hid e2
            clear e1 e2
            generalize parK a 3 k = p1 at *
            generalize parK a 0 k = p2 at *
            rw [Nat.zero_add] at a2
            go_wp2_with fail
            go_round
            case rel => exact ⟨k + 1, by omega, by rw [W_xor, ← E1.out], by rw [W_xor, ← E2.out], by go_num⟩
            case measure => simp [intOf]; omega
          · obtain rfl : k = 5 := by omega
            rw [parK5, parK5]
            generalize hm : par a 3 = m at *
            generalize hn : par a 0 = n at *
            have HM := Lib.hid hm
            have HN := Lib.hid hn
            clear hm hn
            go_wp2_with fail
            go_loopw [14] (fun y z => ∃ k : Nat, k ≤ 5 ∧ y = .int .i64 (5 * (k : Int)) ∧ Hid (Pf w q0 qr q8 q9 qc qt a (thK a 4 k) c z)) (fun y _ => 25 - (intOf y).toNat)
            case atStart => exact ⟨0, by decide, rfl, hp⟩
            case round =>
              obtain ⟨k, hk, rfl, hp2⟩ := hrel
              clear hp
              by_cases hk5 : (k : Int) < 5
              · have NE : Nonempty (Wd (Pf w q0 qr q8 q9 qc qt a (thK a 4 k) c)) := ⟨⟨_, hp2.out⟩⟩
                have a1 : ∀ z : Wd (Pf w q0 qr q8 q9 qc qt a (thK a 4 k) c), z.val.cell? ⟨q0, 4 + 5 * k, none⟩ = some (Value.int .u64 (W (a (4 + 5 * k)))) := fun z => z.ok.sa.cell (4 + 5 * k) (by omega)
                have s2 : (0 : Int) ≤ 4 + 5 * (k : Int) := by omega
                have s3 : (4 : Int) + 5 * (k : Int) < 25 := by omega
                have s4 : ((4 : Int) + 5 * (k : Int)).toNat = 4 + 5 * k := by omega
                have s1 : IntKind.i64.wrap ((4 : Int) + 5 * (k : Int)) = 4 + 5 * (k : Int) := IntWalk.i64_in _ (by omega)
                have q1 := fun z : Wd (Pf w q0 qr q8 q9 qc qt a (thK a 4 k) c) => in_of_same z (left_one n z.val)
                have Q1 := Lib.hid q1
                clear q1
                have HP2 := Lib.hid hp2.out.drew
                go_upto_region 17 with (fail)
                refine wp_region_quiet_tail 14 (Pf w q0 qr q8 q9 qc qt a (thK a 4 k) c) (by kernel_rfl) (by kernel_rfl) HP2.out ?_
                simp only [List.take_succ_cons, List.take_zero, List.drop_succ_cons, List.drop_zero]
                repeat (go_big_quiet_step (with_reducible exact Q1.out _))
                refine wpQuiet_nil ?_
                rintro _ ⟨z, rfl⟩
                have fj := z.ok.sb.fz (4 + 5 * k)
                have sj : _ = some (Value.int .u64 (W (thK a 4 k (4 + 5 * k)))) := z.ok.sb.cell (4 + 5 * k) (by omega)
                clear a1 s1 s2 s3 s4 Q1 HP2 NE hp2
                go_wp2_with fail
                rw [W_xor, W_xor]
                exact ⟨⟨k + 1, by omega, congrArg _ (by omega), Lib.hid ((z.ok.setB (4 + 5 * k) _).congB (fun j _ => thK_step a 4 k m n (by decide) HM.out HN.out j))⟩, by simp [intOf]; omega⟩
              · obtain rfl : k = 5 := by omega
                have hpn := Lib.hid (hp2.out.congB (b' := thK a (4 + 1) 0) (fun i hi => by
                  unfold thK
                  by_cases h1 : i % 5 < 4 ∨ (i % 5 = 4 ∧ i / 5 < 5)
                  · rw [if_pos h1, if_pos (by omega)]
                  · rw [if_neg h1, if_neg (by omega)]))
                clear hp2
                go_wp2_with fail
                go_roundw
                case rel => exact ⟨4 + 1, by omega, by go_num, hpn⟩
                case measure => simp [intOf]
    · obtain rfl : x = 5 := by omega
      have hpx := Lib.hid (hp.out.congB (b' := theta a) (fun i hi => by unfold thK; rw [if_pos (by omega)]))
      clear hp
      go_wp2_with fail
      exact HEX.out _ _ _ _ _ _ _ _ _ _ _ _ _ _ _ _ _ _ _ _ _ _ _ _ _ _ _ _ _ _ _ _ _ _ _ _ _ _ _ _ _ _ _ _ _ _ _ _ _ hpx.out
end Kc
end Go.Proofs.YtnfcjangminhoaaDoor
