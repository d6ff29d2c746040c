/- Merged of Zr As Why Asf Zs Zt Zu Zv Zx Zy Zz Ua Ub Uc Ud Ue. Own work. -/
import Derived.Test.YtcgpdijpppcbiaaGreatDoorQ24
import Derived.Test.YtcgpdijpppcbiaaGreatDoorQ26
import Derived.Test.YtcgpdijpppcbiaaGreatDoorRows
import Derived.Test.YtcgpdijpppcbiaaGreatDoorQ10
import Derived.WalkKit
import Derived.LaidEql
import Derived.Stop.Asserts
import Derived.RowKitTokens
import Derived.Test.YtcgpdijpppcbiaaGreatDoorQ01
import Derived.Outline
import Derived.BigQuiet
import Derived.Deep.QuietTactic
namespace Go.Proofs.YtcgpdijpppcbiaaGreatDoor
open Go.RowKit
set_option linter.unusedVariables false
set_option linter.unusedSimpArgs false
namespace Wt
open Kc Mk
theorem hs_zz (k : Nat) : hs (zz k) = zero (k + 1) := hs_jn _ _
/-- The noughts' words; of the nought of nothing none. -/
def nlit : Nat → List Wd64
  | 1 => N1z | 2 => N2z | 3 => N3z | 4 => N4z | 5 => N5z | 6 => N6z | 7 => N7z | 8 => N8z
  | 9 => N9z | 10 => N10z | 11 => N11z | 12 => N12z | 13 => N13z | 14 => N14z | 15 => N15z | 16 => N16z
  | _ => []
theorem zlit (k : Nat) (h1 : 1 ≤ k) (h2 : k ≤ 16) (i : Nat) (hi : i < 32) : zero k i = digest (ofw (nlit k)) i := by
  obtain ⟨j, rfl⟩ : ∃ j, k = j + 1 := ⟨k - 1, by omega⟩
  have hj : j < 16 := by omega
  rcases j with _ | _ | _ | _ | _ | _ | _ | _ | _ | _ | _ | _ | _ | _ | _ | _ | j
  · exact N0_is i hi
  · exact N1_is i hi
  · exact N2_is i hi
  · exact N3_is i hi
  · exact N4_is i hi
  · exact N5_is i hi
  · exact N6_is i hi
  · exact N7_is i hi
  · exact N8_is i hi
  · exact N9_is i hi
  · exact N10_is i hi
  · exact N11_is i hi
  · exact N12_is i hi
  · exact N13_is i hi
  · exact N14_is i hi
  · exact N15_is i hi
  · omega
theorem heads : ((List.range 16).all fun a => (List.range 16).all fun b => a == b || digest (ofw (nlit (a + 1))) 0 != digest (ofw (nlit (b + 1))) 0 || digest (ofw (nlit (a + 1))) 1 != digest (ofw (nlit (b + 1))) 1) = true := by decide +kernel
theorem tails : ((List.range 16).all fun a => digest (ofw (nlit (a + 1))) 1 != 0#8) = true := by decide +kernel
theorem zero_ne {a b : Nat} (ha : a < 16) (hb : b < 16) (h : a ≠ b) : key (zero (a + 1)) ≠ key (zero (b + 1)) := fun e => by
  have e0 := key_at e 0 (by decide)
  have e1 := key_at e 1 (by decide)
  rw [zlit (a + 1) (by omega) (by omega) _ (by decide), zlit (b + 1) (by omega) (by omega) _ (by decide)] at e0 e1
  have := List.all_eq_true.1 (List.all_eq_true.1 heads a (List.mem_range.2 ha)) b (List.mem_range.2 hb)
  simp [e0, e1, h] at this
theorem zs_eq : ∀ k, k ≤ 16 → zs k = (List.range k).map fun j => (zero (j + 1), zz j)
  | 0, _ => rfl
  | k + 1, h => by
    unfold zs
    rw [zs_eq k (by omega), hs_zz]
    unfold putM
    rw [has_none, List.range_succ, List.map_append]
    · rfl
    · intro p hp
      obtain ⟨j, hj, rfl⟩ := List.mem_map.1 hp
      have hj' : j < k := List.mem_range.1 hj
      exact zero_ne (by omega) (by omega) (by omega)
theorem zs_apart : ∀ k, Apart (zs k)
  | 0 => List.Pairwise.nil
  | k + 1 => apart_put (zs_apart k) _ _
end Wt
end Go.Proofs.YtcgpdijpppcbiaaGreatDoor
namespace Go.Proofs.YtcgpdijpppcbiaaGreatDoor
open Go.RowKit Go.Extern.Stop Go.Stop Go.Extern
namespace As
noncomputable def valueOfM : Array Value → Sem Value := fun args => ReflectliteValue.unpack (args.getD 0 (.tuple #[]))
noncomputable def typeM : Array Value → Sem Value := ReflectliteValue.methodAny (ReflectliteValue.valueError "reflectlite.Value.Type" 0) fun t _ _ _ => ReflectliteType.toType t
noncomputable def isNilM : Array Value → Sem Value := ReflectliteValue.method (ReflectliteValue.valueError "reflectlite.Value.IsNil" 0) ReflectliteValue.isNil
noncomputable def elemVM : Array Value → Sem Value := ReflectliteValue.method (ReflectliteValue.valueError "reflectlite.Value.Elem" 0) ReflectliteValue.elem
noncomputable def setM : Array Value → Sem Value := ReflectliteValue.set
noncomputable def kindM : Array Value → Sem Value := ReflectliteType.abiMethod fun t => do pure (.int .u8 (← Rtype.kind t))
noncomputable def elemM : Array Value → Sem Value := ReflectliteType.method ReflectliteType.elem
noncomputable def implM : Array Value → Sem Value := ReflectliteType.relation "Implements" ReflectliteType.implements_
noncomputable def asgM : Array Value → Sem Value := ReflectliteType.relation "AssignableTo" ReflectliteType.assignableTo
noncomputable def typeOfM : Array Value → Sem Value := ReflectliteType.typeOf

end As
end Go.Proofs.YtcgpdijpppcbiaaGreatDoor
namespace Go.Proofs.YtcgpdijpppcbiaaGreatDoor
open Go.RowKit
end Go.Proofs.YtcgpdijpppcbiaaGreatDoor
namespace Go.Proofs.YtcgpdijpppcbiaaGreatDoor
open Go.RowKit Go.Extern.Stop Go.Stop Go.Extern
namespace As
end As
namespace Err
end Err
end Go.Proofs.YtcgpdijpppcbiaaGreatDoor
namespace Go.Proofs.YtcgpdijpppcbiaaGreatDoor
open Go.RowKit
set_option linter.unusedVariables false
set_option linter.unusedSimpArgs false
namespace Wt
open Kc Mk
theorem ba (w : World) (o : Obj) : Below w.heap.size w (w.alloc o) := (Below.refl _ _).alloc (Nat.le_refl _) _
end Wt
end Go.Proofs.YtcgpdijpppcbiaaGreatDoor
namespace Go.Proofs.YtcgpdijpppcbiaaGreatDoor
open Go.RowKit
set_option linter.unusedVariables false
set_option linter.unusedSimpArgs false
section
variable {P : Program}
end
namespace Wt
open Kc Mk
/-- The cells of n preimages. -/
def flp (n : Nat) (f : Nat → Px) : List Value := (List.range (64 * n)).map fun i => bv (f (i / 64) (i % 64))
theorem flp_len (n : Nat) (f : Nat → Px) : (flp n f).length = n * 64 := by simp [flp]; omega
theorem flp_one (n : Nat) (f : Nat → Px) : ∀ u ∈ flp n f, u.oneCell' = true := by intro u hu; obtain ⟨i, _, rfl⟩ := List.mem_map.1 hu; rfl
theorem flp_step (n : Nat) (f : Nat → Px) : flp n f ++ flp 1 (fun _ => f n) = flp (n + 1) f := by
  apply List.ext_getElem?
  intro i
  by_cases h : i < 64 * n
  · rw [List.getElem?_append_left (by rw [flp_len]; omega)]
    unfold flp
    simp [h, show i < 64 * (n + 1) from by omega]
  · rw [List.getElem?_append_right (by rw [flp_len]; omega), flp_len]
    unfold flp
    by_cases h2 : i < 64 * (n + 1)
    · simp [h2, show i - n * 64 < 64 from by omega, show i / 64 = n from by omega, show (i - n * 64) % 64 = i % 64 from by omega]
    · simp [h2, show ¬ i - n * 64 < 64 from by omega]
theorem flp1 (x : Px) : flp 1 (fun _ => x) = (tab 64 fun i => bv (x i)).toList := by
  unfold flp tab
  simp only [Nat.mul_one]
  exact List.map_congr_left fun i hi => by rw [Nat.mod_eq_of_lt (by simpa using hi)]
theorem undPa : Tryz.prog.underlying 69 = some (.slice 73) := by kernel_rfl
theorem zcellsP : (pv zp).cells.size = 64 := by show (tab 64 _).size = 64; rw [tab_size]
theorem infPa : ∃ i, Tryz.prog.info? 73 = some i ∧ i.zero = some (pv zp) ∧ i.size = 64 ∧ i.bytes = 64 :=
  ⟨(Tryz.prog.info? 73).get (by kernel_rfl), by kernel_rfl, by kernel_rfl, by kernel_rfl, by kernel_rfl⟩
theorem buildPa (x : Px) (w : World) : (Instr.buildSlice 69 1 #[(0, .agg (tab 64 fun i => bv (x i)))]).run Tryz.prog w = .ok (.slice (some ⟨w.heap.size, 0, none⟩) 1 1) (w.alloc (.cells (tab 64 fun i => bv (x i)) 73)) := by kernel_rfl
theorem src1p (w : World) (x : Px) : ∀ j u, (flp 1 fun _ => x)[j]? = some u → (w.alloc (.cells (tab 64 fun i => bv (x i)) 73)).cell? ((⟨w.heap.size, 0, none⟩ : Addr).add j) = some u := fun j u hu => by
    rw [flp1] at hu
    rw [add_at, Nat.zero_add, cell_of_row _ _ _ _ _ _ (heap_alloc_last w _)]
    simpa using hu
/-- The preimage at a level. -/
def px (M : List (Hx × Px)) (hh : Nat → Hx) (j : Nat) : Px := (look M (hh j)).getD zp
theorem row_base {w : World} {B B' e size n : Nat} {v : Value} {xs : List Value} (h : w.ownsRow B e size v n xs) (hb : B' ≤ B) : w.ownsRow B' e size v n xs :=
  ⟨h.1, h.2.imp id fun ⟨g, cap, cur, h1, h2, h3⟩ => ⟨g, cap, cur, h1, Nat.le_trans hb h2, h3⟩⟩
/-- What the way's loop keeps. -/
structure Wy (W : World) (T : Nat → Prop) (s kb fb : Nat) (M : List (Hx × Px)) (A : List Hx) (q8 q11 B l : Nat) (h : Hx) (f : Nat → Px) (V : Value) (T' : Nat → Prop) (y : World) : Prop where
  st : IsSt y T' s kb fb ⟨M, A⟩
  tt : ∀ k, T' k → (T k ∨ W.heap.size ≤ k) ∧ k < y.heap.size ∧ k ≠ q8 ∧ k ≠ q11
  hc : IsTab y q11 75 32 fun i => bv (h i)
  rc : IsTab y q8 75 32 fun _ => bv 0#8
  row : y.ownsRow B 73 64 V l (flp l f)
  vt : ∀ k, V.ownBlock = some k → ¬ T' k
  kp : Kept T W y
  o8 : W.heap.size ≤ q8
  o11 : q8 < q11
  ob : q11 < B ∧ B ≤ y.heap.size
  kl : kb < W.heap.size ∧ fb < W.heap.size
section
variable {W y y' : World} {T T' : Nat → Prop} {s kb fb q8 q11 B l : Nat} {M : List (Hx × Px)} {A : List Hx} {h : Hx} {f : Nat → Px} {V : Value}
theorem Wy.next (H : Wy W T s kb fb M A q8 q11 B l h f V T' y) (hb : Below y.heap.size y y') : Wy W T s kb fb M A q8 q11 B l h f V T' y' :=
  ⟨H.st.below hb, fun k hk => ⟨(H.tt k hk).1, Nat.lt_of_lt_of_le (H.tt k hk).2.1 hb.size, (H.tt k hk).2.2⟩, H.hc.below hb, H.rc.below hb, (Kept.ofBelow (S := fun _ => False) hb).row H.row (fun _ _ h => h), H.vt,
    H.kp.trans (Kept.ofBelow hb) fun _ _ h => h, H.o8, H.o11, ⟨H.ob.1, Nat.le_trans H.ob.2 hb.size⟩, H.kl⟩
/-- Behind a Get. -/
theorem Wy.got {A' : List Hx} (H : Wy W T s kb fb M A q8 q11 B l h f V T' y) (hs : IsSt y' (Grow T' y y') s kb fb ⟨M, A'⟩) (hk : Kept T' y y') : Wy W T s kb fb M A' q8 q11 B l h f V (Grow T' y y') y' := by
  have hz := hk.size
  have h8 := H.rc.lt
  have h11 := H.hc.lt
  refine ⟨hs, fun k hk => ?_, Wt.IsTab.kept H.hc hk fun e => (H.tt _ e).2.2.2 rfl, Wt.IsTab.kept H.rc hk fun e => (H.tt _ e).2.2.1 rfl, hk.row H.row H.vt, fun k e hk => ?_, H.kp.trans hk fun k hlt hk => (H.tt k hk).1.elim id fun h => absurd h (by omega), H.o8, H.o11, ⟨H.ob.1, Nat.le_trans H.ob.2 hz⟩, H.kl⟩
  · have := H.kp.size
    rcases hk with hk | hk
    · have := H.tt k hk
      exact ⟨this.1, by omega, this.2.2⟩
    · exact ⟨.inr (by omega), hk.2, by omega, by omega⟩
  · have := own_lt H.row e
    rcases hk with hk | hk
    · exact H.vt k e hk
    · omega
/-- Behind the append. -/
theorem Wy.grown {V' : Value} (H : Wy W T s kb fb M A q8 q11 B l h f V T' y) (hr : y'.ownsRow B 73 64 V' (l + 1) (flp l f ++ flp 1 fun _ => f l)) (hg : y.grownBy y' V.ownBlock) (hV : ∀ k, V'.ownBlock = some k → V.ownBlock = some k ∨ k = y.heap.size) : Wy W T s kb fb M A q8 q11 B (l + 1) h f V' T' y' := by
  have hk : Kept (fun k => V.ownBlock = some k) y y' := ⟨hg.os, hg.tape, hg.output, hg.size, fun k hk hn => hg.block k hk (fun e => hn e.symm)⟩
  have hB : ∀ k, V.ownBlock = some k → B ≤ k := fun k hk => owns_base H.row hk
  have hn : ∀ k, T' k → ¬ V.ownBlock = some k := fun k h1 h2 => H.vt k h2 h1
  have hkb := H.kl
  have hw := H.kp.size
  have h1 := H.o8
  have h2 := H.o11
  have h3 := H.ob
  refine ⟨H.st.kept hk hn (fun e => ?_) (fun e => ?_), fun k hk' => ⟨(H.tt k hk').1, Nat.lt_of_lt_of_le (H.tt k hk').2.1 hk.size, (H.tt k hk').2.2⟩, Wt.IsTab.kept H.hc hk fun e => ?_, Wt.IsTab.kept H.rc hk fun e => ?_, by rw [← flp_step]; exact hr, fun k e hk' => ?_,
    H.kp.trans hk fun k hlt e => ?_, H.o8, H.o11, ⟨H.ob.1, Nat.le_trans H.ob.2 hk.size⟩, H.kl⟩
  · have := hB _ e; omega
  · have := hB _ e; omega
  · have := hB _ e; omega
  · have := hB _ e; omega
  · rcases hV k e with e | e
    · exact H.vt k e hk'
    · have := (H.tt k hk').2.1; omega
  · have := hB _ e; omega
/-- Behind the copy. -/
theorem Wy.step {g : Nat → Value} {h' : Hx} (H : Wy W T s kb fb M A q8 q11 B l h f V T' y) (hg : ∀ i, i < 32 → g i = bv (h' i)) : Wy W T s kb fb M A q8 q11 B l h' f V T' (y.setRow q11 (tab 32 g)) := by
  have hk : Kept (fun k => k = q11) y (y.setRow q11 (tab 32 g)) := ⟨by simp, by simp, by simp, by simp, fun k _ hk => setRow_other _ _ _ _ hk⟩
  have h1 := H.o8
  have h2 := H.o11
  have h3 := H.ob
  have hw := H.kp.size
  have hkb := H.kl
  have hr : IsTab (y.setRow q11 (tab 32 g)) q11 75 32 g := H.hc.row
  refine ⟨H.st.kept hk (fun k hk e => (H.tt k hk).2.2.2 e) (by omega) (by omega), fun k hk' => ⟨(H.tt k hk').1, Nat.lt_of_lt_of_le (H.tt k hk').2.1 hk.size, (H.tt k hk').2.2⟩, hr.cong hg, Wt.IsTab.kept H.rc hk (by omega), hk.row H.row fun k e h => ?_, H.vt,
    H.kp.trans hk fun k hlt e => by omega, H.o8, H.o11, ⟨H.ob.1, by simpa using H.ob.2⟩, H.kl⟩
  have := owns_base H.row e; omega
end
end Wt
end Go.Proofs.YtcgpdijpppcbiaaGreatDoor
namespace Go.Proofs.YtcgpdijpppcbiaaGreatDoor
open Go.RowKit
set_option linter.unusedVariables false
set_option linter.unusedSimpArgs false
namespace Wt
open Kc Mk
end Wt
end Go.Proofs.YtcgpdijpppcbiaaGreatDoor
namespace Go.Proofs.YtcgpdijpppcbiaaGreatDoor
open Go.RowKit
set_option linter.unusedVariables false
set_option linter.unusedSimpArgs false
namespace Wt
open Kc Mk
end Wt
end Go.Proofs.YtcgpdijpppcbiaaGreatDoor
namespace Go.Proofs.YtcgpdijpppcbiaaGreatDoor
open Go.RowKit
set_option linter.unusedVariables false
set_option linter.unusedSimpArgs false
namespace Wt
open Kc Mk
/-- Is there such a leaf? -/
def place (d i : Int) : Prop := 0 ≤ d ∧ d ≤ 16 ∧ 0 ≤ i ∧ i < 2 ^ d.toNat
end Wt
end Go.Proofs.YtcgpdijpppcbiaaGreatDoor
namespace Go.Proofs.YtcgpdijpppcbiaaGreatDoor
open Go.RowKit
set_option linter.unusedVariables false
set_option linter.unusedSimpArgs false
namespace Wt
open Kc Mk
end Wt
end Go.Proofs.YtcgpdijpppcbiaaGreatDoor
namespace Go.Proofs.YtcgpdijpppcbiaaGreatDoor
open Go.RowKit
set_option linter.unusedVariables false
set_option linter.unusedSimpArgs false
namespace Wt
open Kc Mk
theorem meas_dn {i k : Nat} (h : i + 1 ≤ k) : k - (i + 1) < k - i := by omega
theorem meas_lp {i k : Nat} (h : i + 1 ≤ k) (hw : wrap64 ((i : Int) + 1) = ((i + 1 : Nat) : Int)) : k - (intOf (.int .i64 (wrap64 ((i : Int) + 1)))).toNat < k - (intOf (.int .i64 (i : Int))).toNat := by
  rw [hw]
  show k - (i + 1) < k - i
  exact meas_dn h
/-- What Write's loop keeps. -/
structure Ww (W : World) (T : Nat → Prop) (s kb fb : Nat) (S : Sto) (q10 q15 B d : Nat) (h : Hx) (f : Nat → Px) (V : Value) (T' : Nat → Prop) (y : World) : Prop where
  st : IsSt y T' s kb fb S
  tt : ∀ k, T' k → (T k ∨ W.heap.size ≤ k) ∧ k < y.heap.size ∧ k ≠ q10 ∧ k ≠ q15
  hc : IsTab y q15 75 32 fun i => bv (h i)
  rc : IsTab y q10 75 32 fun _ => bv 0#8
  row : y.ownsRow B 73 64 V d (flp d f)
  vt : ∀ k, V.ownBlock = some k → ¬ T' k ∧ k ≠ q15 ∧ k ≠ q10
  kp : Kept (Foot T kb fb) W y
  kt : Laid.KTab W
  lo : ∀ k, T k → lowB ≤ k
  o : W.heap.size ≤ B ∧ W.heap.size ≤ q10 ∧ W.heap.size ≤ q15 ∧ q10 ≠ q15
  kl : kb < W.heap.size ∧ fb < W.heap.size
section
variable {W y y' : World} {T T' : Nat → Prop} {s kb fb q10 q15 B d : Nat} {S S' : Sto} {h h' : Hx} {f : Nat → Px} {V : Value}
theorem Ww.next (H : Ww W T s kb fb S q10 q15 B d h f V T' y) (hb : Below y.heap.size y y') : Ww W T s kb fb S q10 q15 B d h f V T' y' :=
  ⟨H.st.below hb, fun k hk => ⟨(H.tt k hk).1, Nat.lt_of_lt_of_le (H.tt k hk).2.1 hb.size, (H.tt k hk).2.2⟩, H.hc.below hb, H.rc.below hb, (Kept.ofBelow (S := fun _ => False) hb).row H.row (fun _ _ h => h), H.vt,
    H.kp.trans (Kept.ofBelow hb) fun _ _ h => h, H.kt, H.lo, H.o, H.kl⟩
/-- Behind an Add. -/
theorem Ww.added (H : Ww W T s kb fb S q10 q15 B d h f V T' y) (hs : IsSt y' T' s kb fb S') (hk : Kept (Foot T' kb fb) y y') : Ww W T s kb fb S' q10 q15 B d h f V T' y' := by
  have hz := hk.size
  have ho := H.o
  have hl := H.kl
  have hn : ∀ q, W.heap.size ≤ q → ¬ T' q → ¬ Foot T' kb fb q := fun q h1 h2 h3 => by
    rcases h3 with h3 | h3 | h3
    · exact h2 h3
    · omega
    · omega
  refine ⟨hs, fun k hk' => ⟨(H.tt k hk').1, Nat.lt_of_lt_of_le (H.tt k hk').2.1 hz, (H.tt k hk').2.2⟩, Wt.IsTab.kept H.hc hk (hn _ ho.2.2.1 fun e => (H.tt _ e).2.2.2 rfl), Wt.IsTab.kept H.rc hk (hn _ ho.2.1 fun e => (H.tt _ e).2.2.1 rfl),
    hk.row H.row fun k e h3 => hn k (Nat.le_trans ho.1 (owns_base H.row e)) (H.vt k e).1 h3, H.vt, H.kp.trans hk fun k hlt h3 => ?_, H.kt, H.lo, H.o, H.kl⟩
  rcases h3 with h3 | h3 | h3
  · exact .inl ((H.tt k h3).1.elim id fun h => absurd h (by omega))
  · exact .inr (.inl h3)
  · exact .inr (.inr h3)
/-- Behind the store of a digest. -/
theorem Ww.set (H : Ww W T s kb fb S q10 q15 B d h f V T' y) (h' : Hx) : Ww W T s kb fb S q10 q15 B d h' f V T' (y.setRow q15 (tab 32 fun i => bv (h' i))) := by
  have hk : Kept (fun k => k = q15) y (y.setRow q15 (tab 32 fun i => bv (h' i))) := ⟨by simp, by simp, by simp, by simp, fun k _ hk => setRow_other _ _ _ _ hk⟩
  have ho := H.o
  have hl := H.kl
  have hr : IsTab (y.setRow q15 (tab 32 fun i => bv (h' i))) q15 75 32 fun i => bv (h' i) := H.hc.row
  exact ⟨H.st.kept hk (fun k hk e => (H.tt k hk).2.2.2 e) (by omega) (by omega), fun k hk' => ⟨(H.tt k hk').1, Nat.lt_of_lt_of_le (H.tt k hk').2.1 hk.size, (H.tt k hk').2.2⟩, hr, Wt.IsTab.kept H.rc hk ho.2.2.2, hk.row H.row fun k e h3 => (H.vt k e).2.1 h3, H.vt,
    H.kp.trans hk fun k hlt e => by omega, H.kt, H.lo, H.o, H.kl⟩
end
/-- Behind a write to a block of its own. -/
theorem Ww.other {W y y' : World} {T T' : Nat → Prop} {s kb fb q10 q15 B d q : Nat} {S : Sto} {h : Hx} {f : Nat → Px} {V : Value} (H : Ww W T s kb fb S q10 q15 B d h f V T' y) (h1 : W.heap.size ≤ q) (h2 : ¬ T' q) (h3 : q10 ≠ q) (h4 : q15 ≠ q) (h5 : ∀ k, V.ownBlock = some k → k ≠ q) (hk : Kept (fun k => k = q) y y') : Ww W T s kb fb S q10 q15 B d h f V T' y' := by
  have hl := H.kl
  exact ⟨H.st.kept hk (fun k hk e => h2 (e ▸ hk)) (by omega) (by omega), fun k hk' => ⟨(H.tt k hk').1, Nat.lt_of_lt_of_le (H.tt k hk').2.1 hk.size, (H.tt k hk').2.2⟩, Wt.IsTab.kept H.hc hk h4, Wt.IsTab.kept H.rc hk h3, hk.row H.row h5, H.vt,
    H.kp.trans hk fun k hlt e => by omega, H.kt, H.lo, H.o, H.kl⟩
end Wt
end Go.Proofs.YtcgpdijpppcbiaaGreatDoor
namespace Go.Proofs.YtcgpdijpppcbiaaGreatDoor
open Go.RowKit
set_option linter.unusedVariables false
set_option linter.unusedSimpArgs false
namespace Wt
open Kc Mk
theorem buildS1 (m k : Nat) (w : World) : (Instr.build 102 #[(0, .map (some m)), (3, .pointer (some ⟨k, 0, none⟩))]).run Tryz.prog w = .ok (.agg #[.map (some m), .slice none 0 0, .map none, .pointer (some ⟨k, 0, none⟩)]) w := by kernel_rfl
end Wt
end Go.Proofs.YtcgpdijpppcbiaaGreatDoor
namespace Go.Proofs.YtcgpdijpppcbiaaGreatDoor
open Go.RowKit
set_option linter.unusedVariables false
set_option linter.unusedSimpArgs false
namespace Wt
open Kc Mk
theorem eqlR (a b : Hx) (w : World) : (binOp .eql 74 (dv a) (dv b)).run Tryz.prog w = .ok (.bool (same32 a b)) w :=
  run_eql_tab w _ _ 32 .u8 (by kernel_rfl) undU8 sizeU8 _ _
theorem guardR (x y : Operand) (A B : Hx) (u : World) : (eqGuard .eql 74 x y (dv A) (dv B)).run Tryz.prog u = .ok () u := by kernel_rfl
theorem exec_eqR {o : Oper} {ev : Operand → Value} {u : World} (x y : Operand) (yt : TypeId) (a b : Hx) (ho : o.op = .binOp .eql 74 x y yt) (hx : ev x = dv a) (hy : ev y = dv b) : (execOp ev o).run Tryz.prog u = .ok (.value (.bool (same32 a b))) u := by
  unfold execOp
  simp only [ho, hx, hy, Sem.run_bind, Sem.run_pure, Result.andThen_ok, guardR, eqlR]
theorem same_key (a b : Hx) : same32 a b = decide (key a = key b) := by
  rw [Bool.eq_iff_iff, decide_eq_true_iff, same32_iff]
  exact ⟨key_of, fun h i hi => key_at h i hi⟩
theorem loadRb {w : World} {q T : Nat} {x : Hx} (h : IsTab w q T 32 fun i => bv (x i)) : (Instr.loadAt 74 (.pointer (some ⟨q, 0, none⟩))).run Tryz.prog w = .ok (.agg (tab 32 fun i => bv (x i))) w :=
  (run_loadVar_row w q T 74 _ (0, 0) _ h und26 rfl (by rw [tab_size]; exact infR))
/-- The digests and the preimages of pairs. -/
def kf (M : List (Hx × Px)) : Nat → Hx := fun j => (M.map (·.1)).getD j fun _ => 0#8
def pf (M : List (Hx × Px)) : Nat → Px := fun j => (M.map (·.2)).getD j zp
/-- The document's store in memory. -/
structure IsRo (w : World) (T : Nat → Prop) (r : Nat) (S : Sto) (met : Bool) (vh vp va : Value) : Prop where
  box : Box4 w r 107 vh vp va (.bool met)
  hrow : w.ownsRow 0 74 32 vh S.pres.length (flat S.pres.length (kf S.pres))
  prow : w.ownsRow 0 73 64 vp S.pres.length (flp S.pres.length (pf S.pres))
  arow : w.ownsRow 0 74 32 va S.asked.length (fl S.asked)
  ap : Apart S.pres
  tr : T r
  th : ∀ k, vh.ownBlock = some k → T k ∧ k ≠ r
  tp : ∀ k, vp.ownBlock = some k → T k ∧ k ≠ r ∧ vh.ownBlock ≠ some k
  ta : ∀ k, va.ownBlock = some k → T k ∧ k ≠ r ∧ vh.ownBlock ≠ some k ∧ vp.ownBlock ≠ some k
def IsR (w : World) (T : Nat → Prop) (r : Nat) (S : Sto) (met : Bool) : Prop := ∃ vh vp va, IsRo w T r S met vh vp va
section
variable {w w' : World} {T T' : Nat → Prop} {r : Nat} {S : Sto} {met : Bool} {vh vp va : Value}
theorem IsRo.kept {U : Nat → Prop} (h : IsRo w T r S met vh vp va) (hk : Kept U w w') (hn : ∀ k, T k → ¬ U k) : IsRo w' T r S met vh vp va :=
  ⟨h.box.kept hk (hn _ h.tr), hk.row h.hrow fun k e => hn _ (h.th k e).1, hk.row h.prow fun k e => hn _ (h.tp k e).1, hk.row h.arow fun k e => hn _ (h.ta k e).1, h.ap, h.tr, h.th, h.tp, h.ta⟩
theorem IsRo.below (h : IsRo w T r S met vh vp va) (hb : Below w.heap.size w w') : IsRo w' T r S met vh vp va := h.kept (Kept.ofBelow (S := fun _ => False) hb) fun _ _ h => h
theorem IsRo.mono (h : IsRo w T r S met vh vp va) (hT : ∀ k, T k → T' k) : IsRo w T' r S met vh vp va :=
  ⟨h.box, h.hrow, h.prow, h.arow, h.ap, hT _ h.tr, fun k e => ⟨hT _ (h.th k e).1, (h.th k e).2⟩, fun k e => ⟨hT _ (h.tp k e).1, (h.tp k e).2⟩, fun k e => ⟨hT _ (h.ta k e).1, (h.ta k e).2⟩⟩
theorem IsR.kept {U : Nat → Prop} (h : IsR w T r S met) (hk : Kept U w w') (hn : ∀ k, T k → ¬ U k) : IsR w' T r S met := by
  obtain ⟨vh, vp, va, h⟩ := h; exact ⟨vh, vp, va, h.kept hk hn⟩
theorem IsR.below (h : IsR w T r S met) (hb : Below w.heap.size w w') : IsR w' T r S met := by
  obtain ⟨vh, vp, va, h⟩ := h; exact ⟨vh, vp, va, h.below hb⟩
end
/-- A row of digests of its own, as what is loaded from it. -/
theorem row_hx {w : World} {T n : Nat} {V : Value} {f : Nat → Hx} (h : w.ownsRow 0 T 32 V n (flat n f)) : ∃ a c, V = .slice a n c ∧ ∀ j, j < n → ∃ g, a = some ⟨g, 0, none⟩ ∧ ∀ y, Below w.heap.size w y → (Instr.loadAt 74 (.pointer (some ⟨g, 32 * j, none⟩))).run Tryz.prog y = .ok (.agg (tab 32 fun i => bv (f j i))) y := by
  rcases h.2 with ⟨rfl, e⟩ | ⟨g, cap, cur, rfl, hg, hc, hnc, hm, hs, ht⟩
  · have hn : n = 0 := by have := flat_len n f; rw [e] at this; simp at this; omega
    subst hn
    exact ⟨none, 0, rfl, fun j hj => by omega⟩
  · refine ⟨some ⟨g, 0, none⟩, cap, rfl, fun j hj => ⟨g, rfl, fun y hy => ?_⟩⟩
    have h5 : At5 w g 0 n f := fun k x hk hx => by
      have e1 : (cur.toList.take (n * 32))[32 * k + x]? = (flat n f)[32 * k + x]? := by rw [ht]
      rw [List.getElem?_take, if_pos (by omega), flat_at hk hx] at e1
      rw [Nat.zero_add, cell_of_row w g (32 * k + x) _ _ _ hc]
      simpa using e1
    exact loadR (h5.below hy) hj (by omega)
set_option maxHeartbeats 2000000 in
set_option maxRecDepth 100000 in
theorem index_walk (T : Nat → Prop) (r : Nat) (S : Sto) (met : Bool) (h : Hx) (k : Nat) (w : World) (hr : IsR w T r S met) (hl : S.pres.length < 1073741824) (hk : k ≤ S.pres.length) (hmin : ∀ i, i < k → key (kf S.pres i) ≠ key h) (hend : k = S.pres.length ∨ key (kf S.pres k) = key h) (V : Int) (hV : (k < S.pres.length → V = k) ∧ (k = S.pres.length → V = -1)) :
    Calls Tryz.prog 53 #[.pointer (some ⟨r, 0, none⟩), dv h] w fun e w' => e = .returned (.int .i64 V) ∧ Below w.heap.size w w' := by
  obtain ⟨vh, vp, va, hro⟩ := hr
  generalize hn : S.pres.length = n at *
  have hrow := hro.hrow
  rw [hn] at hrow
  obtain ⟨a, c, hv, hld⟩ := row_hx hrow
  subst hv
  obtain ⟨f, hf⟩ : ∃ f, kf S.pres = f := ⟨_, rfl⟩
  rw [hf] at hld hmin hend
  have HR := Lib.hid hro.box
  have HV := Lib.hid hV
  clear hV
  have HL := Lib.hid (And.intro hld (And.intro hmin (And.intro hend (And.intro hk hl))))
  have HA : Hid (IsTab (w.alloc (.cells (tab 32 fun i => bv (h i)) 74)) w.heap.size 74 32 (fun i => bv (h i)) ∧ Below w.heap.size w (w.alloc (.cells (tab 32 fun i => bv (h i)) 74))) := Lib.hid ⟨IsTab.new w _ 32 _, ba _ _⟩
  clear hro hrow hld hmin hend hk hl hf hn
  unfold dv
  go_enter Tryz.func53, Tryz.ntmps53
  go_wp2_with (fail)
  have H0 : Hid (Below w.heap.size w (w.alloc (.cells (tab 32 fun i => bv (h i)) 74)) ∧ IsTab (w.alloc (.cells (tab 32 fun i => bv (h i)) 74)) w.heap.size 74 32 (fun i => bv (h i))) := Lib.hid ⟨HA.out.2, HA.out.1⟩
  clear HA
  generalize w.alloc (.cells (tab 32 fun i => bv (h i)) 74) = y0 at *
  go_loopw [5] (fun ti y => ∃ i : Nat, i ≤ k ∧ ti = .int .i64 i ∧ Hid (Below w.heap.size w y ∧ IsTab y w.heap.size 74 32 (fun i => bv (h i)))) (fun ti _ => n - (intOf ti).toNat)
  case atStart => exact ⟨0, Nat.zero_le _, rfl, H0⟩
  case round =>
    obtain ⟨i, hi, rfl, hp⟩ := hrel
    have HP := Lib.hid hp.out
    clear hp H0
    have k0 := (HR.out.kept (Kept.ofBelow (S := fun _ => False) HP.out.1) id).k0
    by_cases hin : i < n
    · have t1 : decide (i < n) = true := by simp; omega
      obtain ⟨g, hg, hlo⟩ := HL.out.1 i hin
      subst hg
      have HLO := Lib.hid hlo
      have HIN := Lib.hid (And.intro hin hi)
      obtain ⟨o, ho⟩ : ∃ o, 32 * i = o := ⟨_, rfl⟩
      rw [ho] at HLO
      have HOO : Hid (i * 32 = o) := Lib.hid (by omega)
      clear hlo hin hi ho
      go_upto_region 4 with (fail)
      clear k0 t1
      have HD : Hid (Below w.heap.size w wr.drew ∧ IsTab wr.drew w.heap.size 74 32 (fun i => bv (h i))) := Lib.hid ⟨HP.out.1.drew, HP.out.2.drew⟩
      clear HP
      refine wp_region_og (fun z : World => wr.drew = z) (.take 0 (.take 1 (.take 2 (.take 3 (.take 4 (.take 5 (.take 6 (.take 7 (.take 8 .done))))))))) (by kernel_rfl) (by kernel_rfl) rfl ?_
      generalize wr.drew = y1 at *
      have HLW : Hid ((Instr.loadAt 74 (.pointer (some ⟨g, o, none⟩))).run Tryz.prog y1 = .ok (.agg (tab 32 fun x => bv (f i x))) y1) := Lib.hid (HLO.out y1 HD.out.1)
      refine og_tk (some 15) (.pointer (some ⟨r, 0, none⟩)) rfl rfl (by go_simp) (fun _ _ => by simp [execOp, go_sem]) ?_
      simp only [Act.put, pS]
      refine og_tk (some 16) (.pointer (some ⟨r, 0, none⟩)) rfl rfl (by go_simp) (fun _ _ => by simp [execOp, go_sem]) ?_
      simp only [Act.put, pS]
      refine og_tk (some 17) (.pointer (some ⟨r, 0, none⟩)) rfl rfl (by go_simp) (fun _ _ => by simp [execOp, go_sem]) ?_
      simp only [Act.put, pS]
      refine og_ld (some 18) 105 (.tmp 17) (.pointer (some ⟨r, 0, none⟩)) (.slice (some ⟨g, 0, none⟩) n c) rfl rfl (by go_simp) rfl rfl (fun y hy => by have h := hy ▸ (HR.out.kept (Kept.ofBelow (S := fun _ => False) HD.out.1) id).k0; simp [Instr.loadAt, go_sem, h, Tryz.underlying105]) ?_
      simp only [Act.put, pS]
      refine og_tk (some 19) (.int .i64 i) rfl rfl (by go_simp) (fun _ _ => by simp [execOp, go_sem]) ?_
      simp only [Act.put, pS]
      refine og_tk (some 20) (.pointer (some ⟨g, o, none⟩)) rfl rfl (by go_simp) (fun y hy => by have h1 := HIN.out.1; have h2 := HOO.out; simp [execOp, go_sem, h1, h2, Result.andThen, Tryz.underlying105]) ?_
      simp only [Act.put, pS]
      refine og_ld (some 21) 74 (.tmp 20) (.pointer (some ⟨g, o, none⟩)) (.agg (tab 32 fun x => bv (f i x))) rfl rfl (by go_simp) rfl rfl (fun y hy => hy ▸ HLW.out) ?_
      simp only [Act.put, pS]
      refine og_ld (some 22) 74 (.tmp 3) (.pointer (some ⟨w.heap.size, 0, none⟩)) (.agg (tab 32 fun x => bv (h x))) rfl rfl (by go_simp) rfl rfl (fun y hy => loadRb (hy ▸ HD.out.2)) ?_
      simp only [Act.put, pS]
      refine og_tk (some 23) (.bool (decide (key (f i) = key h))) rfl rfl (by go_simp) (fun y hy => by rw [← same_key]; exact exec_eqR (.tmp 21) (.tmp 22) 74 (f i) h rfl rfl rfl) ?_
      simp only [Act.put, pS]
      refine og_done (NoPanic.normal ?_)
      by_cases hik : i < k
      · have e1 : decide (key (f i) = key h) = false := by rw [decide_eq_false_iff_not]; exact HL.out.2.1 i hik
        rw [e1]
        have HW : Hid (i < k ∧ wrap64 ((i : Int) + 1) = ((i + 1 : Nat) : Int)) := Lib.hid ⟨hik, by have := HL.out; unfold wrap64; omega⟩
        have hw1 := HW.out.2
        clear hik e1
        go_wp2_with (fail)
        go_roundw
        case rel => exact ⟨i + 1, HW.out.1, by go_num, HD⟩
        case measure => exact meas_lp HIN.out.1 HW.out.2
      · obtain rfl : i = k := by have := HIN.out.2; omega
        have e1 : decide (key (f i) = key h) = true := by rw [decide_eq_true_iff]; exact HL.out.2.2.1.resolve_left (by have := HIN.out.1; omega)
        rw [e1]
        clear hik e1
        go_wp2_with (fail)
        exact bodyPost_ret (v := .int .i64 (i : Int)) (by simp [results, Tryz.results53, go_sem]) rfl ⟨by rw [HV.out.1 HIN.out.1], HD.out.1⟩
    · obtain rfl : i = n := by have := HL.out.2.2.2.1; omega
      obtain rfl : i = k := by have := HL.out.2.2.2.1; omega
      clear hin hi
      go_wp2_with (fail)
      exact bodyPost_ret (v := .int .i64 (-1)) (by simp [results, Tryz.results53, go_sem]) rfl ⟨by rw [HV.out.2 (by first | rfl | trivial | omega)], HP.out.1⟩
end Wt
end Go.Proofs.YtcgpdijpppcbiaaGreatDoor
namespace Go.Proofs.YtcgpdijpppcbiaaGreatDoor
open Go.RowKit
set_option linter.unusedVariables false
set_option linter.unusedSimpArgs false
section
variable {P : Program} {ops : Array Oper} {Q : Exit → Act → World → Prop} {S : World → Prop}
end
namespace Wt
open Kc Mk
theorem undRa : Tryz.prog.underlying 105 = some (.slice 74) := by kernel_rfl
theorem infRa : ∃ i, Tryz.prog.info? 74 = some i ∧ i.zero = some (dv fun _ => 0#8) ∧ i.size = 32 ∧ i.bytes = 32 :=
  ⟨(Tryz.prog.info? 74).get (by kernel_rfl), by kernel_rfl, by kernel_rfl, by kernel_rfl, by kernel_rfl⟩
theorem buildRa (x : Hx) (w : World) : (Instr.buildSlice 105 1 #[(0, .agg (tab 32 fun i => bv (x i)))]).run Tryz.prog w = .ok (.slice (some ⟨w.heap.size, 0, none⟩) 1 1) (w.alloc (.cells (tab 32 fun i => bv (x i)) 74)) := by kernel_rfl
theorem src1r (w : World) (x : Hx) : ((some ⟨w.heap.size, 0, none⟩ : Option Addr) = none ∧ 1 = 0 ∧ 1 = 0 ∧ flat 1 (fun _ => x) = []) ∨ ∃ ad, (some ⟨w.heap.size, 0, none⟩ : Option Addr) = some ad ∧ (flat 1 fun _ => x).length = 1 * 32 ∧ ∀ j u, (flat 1 fun _ => x)[j]? = some u → (w.alloc (.cells (tab 32 fun i => bv (x i)) 74)).cell? (ad.add j) = some u :=
  .inr ⟨_, rfl, flat_len _ _, fun j u hu => by
    rw [flat1h] at hu
    rw [add_at, Nat.zero_add, cell_of_row _ _ _ _ _ _ (heap_alloc_last w _)]
    simpa using hu⟩
end Wt
end Go.Proofs.YtcgpdijpppcbiaaGreatDoor
namespace Go.Proofs.YtcgpdijpppcbiaaGreatDoor
open Go.RowKit
set_option linter.unusedVariables false
set_option linter.unusedSimpArgs false
namespace Wt
open Kc Mk
/-- Two digests, laid down as far as i. -/
def jni (a b : Hx) (i : Nat) : Nat → Bt := fun j => if j < i then a j else if 32 ≤ j ∧ j < 32 + i then b (j - 32) else 0#8
theorem jni_zero (a b : Hx) (j : Nat) (hj : j < 64) : bv (jni a b 0 j) = bv 0#8 := by
  unfold jni; rw [if_neg (by omega), if_neg (by omega)]
theorem jni_step (a b : Hx) (i : Nat) (hi : i < 32) (j : Nat) (hj : j < 64) : updv (updv (fun j => bv (jni a b i j)) i (bv (a i))) (32 + i) (bv (b i)) j = bv (jni a b (i + 1) j) := by
  unfold updv
  by_cases h1 : j = 32 + i
  · subst h1
    rw [if_pos rfl]
    unfold jni
    rw [if_neg (by omega), if_pos (by omega), Nat.add_sub_cancel_left]
  · rw [if_neg h1]
    by_cases h2 : j = i
    · subst h2
      rw [if_pos rfl]
      unfold jni
      rw [if_pos (by omega)]
    · rw [if_neg h2]
      show bv (jni a b i j) = bv (jni a b (i + 1) j)
      congr 1
      unfold jni
      by_cases h3 : j < i
      · rw [if_pos h3, if_pos (show j < i + 1 by omega)]
      · rw [if_neg h3, if_neg (show ¬ j < i + 1 by omega)]
        by_cases h4 : 32 ≤ j ∧ j < 32 + i
        · rw [if_pos h4, if_pos (show 32 ≤ j ∧ j < 32 + (i + 1) by omega)]
        · rw [if_neg h4, if_neg (show ¬ (32 ≤ j ∧ j < 32 + (i + 1)) by omega)]
theorem jni_all (a b : Hx) (j : Nat) (hj : j < 64) : jni a b 32 j = jn a b j := by
  unfold jni jn
  by_cases h : j < 32
  · rw [if_pos h, if_pos h]
  · rw [if_neg h, if_neg h, if_pos (by omega)]
structure Jd (W : World) (q1 q2 q3 : Nat) (a b : Hx) (i : Nat) (y : World) : Prop where
  sa : IsTab y W.heap.size 74 32 fun j => bv (a j)
  sb : IsTab y q1 74 32 fun j => bv (b j)
  sr : IsTab y q2 73 64 fun _ => bv 0#8
  sp : IsTab y q3 73 64 fun j => bv (jni a b i j)
  below : Below W.heap.size W y
set_option maxHeartbeats 4000000 in
set_option maxRecDepth 100000 in
theorem joined_walk (a b : Hx) (w : World) : Calls Tryz.prog 49 #[dv a, dv b] w fun e w' => e = .returned (pv (jn a b)) ∧ Below w.heap.size w w' := by
  have z1 := zeroPre
  generalize hz : (tab 64 fun _ => bv 0#8) = zq at *
  have HZQ := Lib.hid hz
  have s1 : (w.alloc (.cells (tab 32 fun j => bv (a j)) 74)).heap.size = w.heap.size + 1 := by simp
  have s2 : ((w.alloc (.cells (tab 32 fun j => bv (a j)) 74)).alloc (.cells (tab 32 fun j => bv (b j)) 74)).heap.size = w.heap.size + 1 + 1 := by simp
  have s3 : (((w.alloc (.cells (tab 32 fun j => bv (a j)) 74)).alloc (.cells (tab 32 fun j => bv (b j)) 74)).alloc (.cells zq 73)).heap.size = w.heap.size + 1 + 1 + 1 := by simp
  have H0 : Hid (Jd w (w.heap.size + 1) (w.heap.size + 1 + 1) (w.heap.size + 1 + 1 + 1) a b 0 ((((w.alloc (.cells (tab 32 fun j => bv (a j)) 74)).alloc (.cells (tab 32 fun j => bv (b j)) 74)).alloc (.cells zq 73)).alloc (.cells zq 73))) := by
    refine Lib.hid ⟨(((IsTab.new w _ 32 _).alloc _).alloc _).alloc _, ?_, ?_, ?_, ((((Below.refl _ _).alloc (Nat.le_refl _) _).alloc (by simp) _).alloc (by simp; omega) _).alloc (by simp; omega) _⟩
    · have := ((IsTab.new (w.alloc (.cells (tab 32 fun j => bv (a j)) 74)) 74 32 fun j => bv (b j)).alloc (.cells zq 73)).alloc (.cells zq 73)
      rw [s1] at this
      exact this
    · have := (IsTab.new ((w.alloc (.cells (tab 32 fun j => bv (a j)) 74)).alloc (.cells (tab 32 fun j => bv (b j)) 74)) 73 64 fun _ => bv 0#8).alloc (.cells zq 73)
      rw [s2, hz] at this
      exact this
    · have := (IsTab.new (((w.alloc (.cells (tab 32 fun j => bv (a j)) 74)).alloc (.cells (tab 32 fun j => bv (b j)) 74)).alloc (.cells zq 73)) 73 64 fun _ => bv 0#8).cong (g := fun j => bv (jni a b 0 j)) fun j hj => (jni_zero a b j hj).symm
      rw [s3, hz] at this
      exact this
  clear s1 s2 s3
  clear hz
  unfold dv pv
  go_enter Tryz.func49, Tryz.ntmps49
  go_wp2_with (fail)
  generalize ((((w.alloc (.cells (tab 32 fun j => bv (a j)) 74)).alloc (.cells (tab 32 fun j => bv (b j)) 74)).alloc (.cells zq 73)).alloc (.cells zq 73)) = y0 at *
  have HQ : Hid (w.heap.size < w.heap.size + 1 ∧ w.heap.size + 1 < w.heap.size + 1 + 1 ∧ w.heap.size + 1 + 1 < w.heap.size + 1 + 1 + 1) := Lib.hid (by omega)
  generalize w.heap.size + 1 + 1 + 1 = q3 at *
  generalize w.heap.size + 1 + 1 = q2 at *
  generalize w.heap.size + 1 = q1 at *
  go_loopw [6] (fun ti y => ∃ i : Nat, i ≤ 32 ∧ ti = .int .i64 i ∧ Hid (Jd w q1 q2 q3 a b i y)) (fun ti _ => 32 - (intOf ti).toNat)
  case atStart => exact ⟨0, Nat.zero_le _, rfl, H0⟩
  case round =>
    obtain ⟨i, hi, rfl, hp⟩ := hrel
    have HP := Lib.hid hp.out
    clear hp H0
    by_cases hlt : (i : Int) < 32
    · have HI : Hid (i < 32 ∧ wrap64 ((i : Int) + 1) = ((i + 1 : Nat) : Int)) := Lib.hid ⟨by omega, by unfold wrap64; omega⟩
      obtain ⟨za, hza⟩ : ∃ za, Bv (a i) = za := ⟨_, rfl⟩
      obtain ⟨zb, hzb⟩ : ∃ zb, Bv (b i) = zb := ⟨_, rfl⟩
      have HZZ := Lib.hid (And.intro (show bv (a i) = .int .u8 za by rw [← hza]; rfl) (show bv (b i) = .int .u8 zb by rw [← hzb]; rfl))
      have k1 : wr.cell? ⟨w.heap.size, i, none⟩ = some (.int .u8 za) := by rw [← HZZ.out.1]; exact HP.out.sa.cell i (by have := HI.out; omega)
      clear hza hzb
      have k2 := HP.out.sp.cell i (by have := HI.out; omega)
      have f2 := IsTab.fz HP.out.sp i
      have hi64 : (i : Int) < 64 := by omega
      clear hi
      go_upto_region 6 with (fail)
      clear k1 k2 f2
      have hk3 : Kept (fun k => k = q3) wr (wr.setCell ⟨q3, i, none⟩ (.int .u8 za)) := (Kept.refl (fun k => k = q3) _).setCell (.inl rfl) _
      have HP1 : Hid (IsTab (wr.setCell ⟨q3, i, none⟩ (.int .u8 za)) q1 74 32 (fun j => bv (b j)) ∧ IsTab (wr.setCell ⟨q3, i, none⟩ (.int .u8 za)) (q3) 73 64 (updv (fun j => bv (jni a b i j)) i (.int .u8 za))) := Lib.hid ⟨Wt.IsTab.kept HP.out.sb hk3 (by have := HQ.out; omega), HP.out.sp.set i _⟩
      have HK1 := Lib.hid hk3
      clear hk3
      generalize wr.setCell ⟨q3, i, none⟩ (.int .u8 za) = y1 at *
      have k1 : y1.cell? ⟨q1, i, none⟩ = some (.int .u8 zb) := by rw [← HZZ.out.2]; exact HP1.out.1.cell i (by have := HI.out; omega)
      have k2 := HP1.out.2.cell (32 + i) (by have := HI.out; omega)
      have f2 := IsTab.fz HP1.out.2 (32 + i)
      have hw1 := HI.out.2
      go_upto_region 4 with (fail)
      clear k1 k2 f2
      have HP2 : Hid (Jd w q1 q2 q3 a b (i + 1) (y1.setCell ⟨q3, 32 + i, none⟩ (.int .u8 zb))) := by
        have hk4 : Kept (fun k => k = q3) y1 (y1.setCell ⟨q3, 32 + i, none⟩ (.int .u8 zb)) := (Kept.refl (fun k => k = q3) _).setCell (.inl rfl) _
        have hk := HK1.out.trans hk4 fun _ _ h => h
        exact Lib.hid ⟨Wt.IsTab.kept HP.out.sa hk (by have := HQ.out; omega), Wt.IsTab.kept HP.out.sb hk (by have := HQ.out; omega), Wt.IsTab.kept HP.out.sr hk (by have := HQ.out; omega), (HP1.out.2.set (32 + i) _).cong fun j hj => by rw [← HZZ.out.1, ← HZZ.out.2]; exact jni_step a b i HI.out.1 j hj, below_of HP.out.below hk fun j _ hj => by have := HQ.out; omega⟩
      generalize y1.setCell ⟨q3, 32 + i, none⟩ (.int .u8 zb) = y2 at *
      go_wp2_with (fail)
      go_roundw
      case rel => exact ⟨i + 1, HI.out.1, by go_num, HP2⟩
      case measure => have := HI.out.1; simp [intOf]; omega
    · obtain rfl : i = 32 := by omega
      have HJ : Hid (IsTab wr (q3) 73 64 (fun j => bv (jn a b j))) := Lib.hid (HP.out.sp.cong fun j hj => by rw [jni_all a b j hj])
      have HLP := Lib.hid (loadPb HJ.out)
      go_wp2_with (first
        | ((with_reducible refine wpList_loadE (P := Tryz.prog) (w := wr) (ty := 73) (x := .tmp 5) (p := .pointer (some ⟨q3, 0, none⟩)) (v := .agg (tab 64 fun i => bv (jn a b i))) ?_ ?_ ?_ HLP.out ?_); (· exact rfl); (· exact rfl); (· exact rfl))
        | ((with_reducible refine wpList_store_row (P := Tryz.prog) (w := wr) ?_ 73 (.tmp 4) (.tmp 22) ?_ q2 (tab 64 fun i => bv (jn a b i)) ?_ ?_ 73 (tab 64 fun _ => bv 0#8) ?_ (infPre _) ?_ (one_bv _ _) ?_); (· exact rfl); (· exact rfl); (· exact rfl); (· exact rfl); (· exact HP.out.sr); (· rw [tab_size, tab_size])))
      have hr : IsTab (wr.setRow q2 (tab 64 fun i => bv (jn a b i))) q2 73 64 fun i => bv (jn a b i) := HP.out.sr.row
      exact bodyPost_ret (results_cell_row rfl _ _ q2 73 _ (0, 0) _ rfl hr undPre rfl (infPre _)) rfl ⟨rfl, below_setRow HP.out.below (by have := HQ.out; omega) _⟩
end Wt
end Go.Proofs.YtcgpdijpppcbiaaGreatDoor
namespace Go.Proofs.YtcgpdijpppcbiaaGreatDoor
open Go.RowKit
set_option linter.unusedVariables false
set_option linter.unusedSimpArgs false
namespace Wt
open Kc Mk
/-- The half of a preimage. -/
def hfb (p : Px) (right : Bool) : Hx := fun j => p (if right then 32 + j else j)
end Wt
end Go.Proofs.YtcgpdijpppcbiaaGreatDoor
