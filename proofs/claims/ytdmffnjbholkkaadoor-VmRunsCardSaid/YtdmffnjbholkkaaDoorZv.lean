/- Merged. Own work. -/
import Derived.Test.YtdmffnjbholkkaaDoorZq
import Derived.Test.YtdmffnjbholkkaaDoorZd2
import Derived.Test.YtdmffnjbholkkaaDoorAsf
import Derived.BigQuiet
import Derived.Deep.QuietTactic
namespace Go.Proofs.YtdmffnjbholkkaaDoor
open Go.RowKit
set_option linter.unusedVariables false
set_option linter.unusedSimpArgs false
set_option linter.unusedVariables false
set_option linter.unusedSimpArgs false
namespace Wt
open Kc Mk
theorem hs_zz (k : Nat) : hs (zz k) = zero (k + 1) := hs_jn _ _
/-- The noughts' words; of the nought of nothing none. -/
def nlit : Nat → List Wd64
  | 1 => N1z | 2 => N2z | 3 => N3z | 4 => N4z | 5 => N5z | 6 => N6z | 7 => N7z | 8 => N8z
  | 9 => N9z | 10 => N10z | 11 => N11z | 12 => N12z | 13 => N13z | 14 => N14z | 15 => N15z | 16 => N16z
  | _ => []
theorem zlit (k : Nat) (h1 : 1 ≤ k) (h2 : k ≤ 16) (i : Nat) (hi : i < 32) : zero k i = digest (ofw (nlit k)) i := by
  obtain ⟨j, rfl⟩ : ∃ j, k = j + 1 := ⟨k - 1, by omega⟩
  have hj : j < 16 := by omega
  rcases j with _ | _ | _ | _ | _ | _ | _ | _ | _ | _ | _ | _ | _ | _ | _ | _ | j
  · exact N0_is i hi
  · exact N1_is i hi
  · exact N2_is i hi
  · exact N3_is i hi
  · exact N4_is i hi
  · exact N5_is i hi
  · exact N6_is i hi
  · exact N7_is i hi
  · exact N8_is i hi
  · exact N9_is i hi
  · exact N10_is i hi
  · exact N11_is i hi
  · exact N12_is i hi
  · exact N13_is i hi
  · exact N14_is i hi
  · exact N15_is i hi
  · omega
theorem heads : ((List.range 16).all fun a => (List.range 16).all fun b => a == b || digest (ofw (nlit (a + 1))) 0 != digest (ofw (nlit (b + 1))) 0 || digest (ofw (nlit (a + 1))) 1 != digest (ofw (nlit (b + 1))) 1) = true := by decide +kernel
theorem tails : ((List.range 16).all fun a => digest (ofw (nlit (a + 1))) 1 != 0#8) = true := by decide +kernel
theorem zero_ne {a b : Nat} (ha : a < 16) (hb : b < 16) (h : a ≠ b) : key (zero (a + 1)) ≠ key (zero (b + 1)) := fun e => by
  have e0 := key_at e 0 (by decide)
  have e1 := key_at e 1 (by decide)
  rw [zlit (a + 1) (by omega) (by omega) _ (by decide), zlit (b + 1) (by omega) (by omega) _ (by decide)] at e0 e1
  have := List.all_eq_true.1 (List.all_eq_true.1 heads a (List.mem_range.2 ha)) b (List.mem_range.2 hb)
  simp [e0, e1, h] at this
theorem zs_eq : ∀ k, k ≤ 16 → zs k = (List.range k).map fun j => (zero (j + 1), zz j)
  | 0, _ => rfl
  | k + 1, h => by
    unfold zs
    rw [zs_eq k (by omega), hs_zz]
    unfold putM
    rw [has_none, List.range_succ, List.map_append]
    · rfl
    · intro p hp
      obtain ⟨j, hj, rfl⟩ := List.mem_map.1 hp
      have hj' : j < k := List.mem_range.1 hj
      exact zero_ne (by omega) (by omega) (by omega)
theorem zs_apart : ∀ k, Apart (zs k)
  | 0 => List.Pairwise.nil
  | k + 1 => apart_put (zs_apart k) _ _
/-- A digest that is none of the noughts'. -/
def nine : Hx := fun i => if i = 0 then 9#8 else 0#8
theorem ba (w : World) (o : Obj) : Below w.heap.size w (w.alloc o) := (Below.refl _ _).alloc (Nat.le_refl _) _
/-- The cell of errors.errorType. -/
def Et (w : World) : Prop := w.cell? ⟨0, 0, none⟩ = some (.iface 173 (.agg #[.pointer (some ⟨4, 41, none⟩)]))
theorem Et.next {w w' : World} (h : Et w) (hb : Below w.heap.size w w') : Et w' := keep1 hb h
end Wt
end Go.Proofs.YtdmffnjbholkkaaDoor
namespace Go.Proofs.YtdmffnjbholkkaaDoor
open Go.RowKit
set_option linter.unusedVariables false
set_option linter.unusedSimpArgs false
section
variable {P : Program}
end
namespace Wt
open Kc Mk
/-- The cells of n preimages. -/
def flp (n : Nat) (f : Nat → Px) : List Value := (List.range (64 * n)).map fun i => bv (f (i / 64) (i % 64))
theorem flp_len (n : Nat) (f : Nat → Px) : (flp n f).length = n * 64 := by simp [flp]; omega
theorem flp_one (n : Nat) (f : Nat → Px) : ∀ u ∈ flp n f, u.oneCell' = true := by intro u hu; obtain ⟨i, _, rfl⟩ := List.mem_map.1 hu; rfl
theorem flp_step (n : Nat) (f : Nat → Px) : flp n f ++ flp 1 (fun _ => f n) = flp (n + 1) f := by
  apply List.ext_getElem?
  intro i
  by_cases h : i < 64 * n
  · rw [List.getElem?_append_left (by rw [flp_len]; omega)]
    unfold flp
    simp [h, show i < 64 * (n + 1) from by omega]
  · rw [List.getElem?_append_right (by rw [flp_len]; omega), flp_len]
    unfold flp
    by_cases h2 : i < 64 * (n + 1)
    · simp [h2, show i - n * 64 < 64 from by omega, show i / 64 = n from by omega, show (i - n * 64) % 64 = i % 64 from by omega]
    · simp [h2, show ¬ i - n * 64 < 64 from by omega]
theorem flp1 (x : Px) : flp 1 (fun _ => x) = (tab 64 fun i => bv (x i)).toList := by
  unfold flp tab
  simp only [Nat.mul_one]
  exact List.map_congr_left fun i hi => by rw [Nat.mod_eq_of_lt (by simpa using hi)]
theorem undPa : Tryd.prog.underlying 30 = some (.slice 37) := by kernel_rfl
theorem zcellsP : (pv zp).cells.size = 64 := by show (tab 64 _).size = 64; rw [tab_size]
theorem infPa : ∃ i, Tryd.prog.info? 37 = some i ∧ i.zero = some (pv zp) ∧ i.size = 64 ∧ i.bytes = 64 :=
  ⟨(Tryd.prog.info? 37).get (by kernel_rfl), by kernel_rfl, by kernel_rfl, by kernel_rfl, by kernel_rfl⟩
theorem buildPa (x : Px) (w : World) : (Instr.buildSlice 30 1 #[(0, .agg (tab 64 fun i => bv (x i)))]).run Tryd.prog w = .ok (.slice (some ⟨w.heap.size, 0, none⟩) 1 1) (w.alloc (.cells (tab 64 fun i => bv (x i)) 37)) := by kernel_rfl
theorem src1p (w : World) (x : Px) : ∀ j u, (flp 1 fun _ => x)[j]? = some u → (w.alloc (.cells (tab 64 fun i => bv (x i)) 37)).cell? ((⟨w.heap.size, 0, none⟩ : Addr).add j) = some u := fun j u hu => by
    rw [flp1] at hu
    rw [add_at, Nat.zero_add, cell_of_row _ _ _ _ _ _ (heap_alloc_last w _)]
    simpa using hu
/-- What was asked, behind n digests of a row. -/
def askN (A : List Hx) (hh : Nat → Hx) : Nat → List Hx
  | 0 => A
  | n + 1 => askL (askN A hh n) (hh n)
theorem askL_len (A : List Hx) (h : Hx) : (askL A h).length ≤ A.length + 1 := by unfold askL; split <;> simp
/-- The preimage at a level. -/
def px (M : List (Hx × Px)) (hh : Nat → Hx) (j : Nat) : Px := (look M (hh j)).getD zp
theorem row_base {w : World} {B B' e size n : Nat} {v : Value} {xs : List Value} (h : w.ownsRow B e size v n xs) (hb : B' ≤ B) : w.ownsRow B' e size v n xs :=
  ⟨h.1, h.2.imp id fun ⟨g, cap, cur, h1, h2, h3⟩ => ⟨g, cap, cur, h1, Nat.le_trans hb h2, h3⟩⟩
/-- What the way's loop keeps. -/
structure Wy (W : World) (T : Nat → Prop) (s kb fb : Nat) (M : List (Hx × Px)) (A : List Hx) (q8 q11 B l : Nat) (h : Hx) (f : Nat → Px) (V : Value) (T' : Nat → Prop) (y : World) : Prop where
  st : IsSt y T' s kb fb ⟨M, A⟩
  tt : ∀ k, T' k → (T k ∨ W.heap.size ≤ k) ∧ k < y.heap.size ∧ k ≠ q8 ∧ k ≠ q11
  hc : IsTab y q11 39 32 fun i => bv (h i)
  rc : IsTab y q8 39 32 fun _ => bv 0#8
  row : y.ownsRow B 37 64 V l (flp l f)
  vt : ∀ k, V.ownBlock = some k → ¬ T' k
  kp : Kept T W y
  o8 : W.heap.size ≤ q8
  o11 : q8 < q11
  ob : q11 < B ∧ B ≤ y.heap.size
  kl : kb < W.heap.size ∧ fb < W.heap.size
section
variable {W y y' : World} {T T' : Nat → Prop} {s kb fb q8 q11 B l : Nat} {M : List (Hx × Px)} {A : List Hx} {h : Hx} {f : Nat → Px} {V : Value}
theorem Wy.next (H : Wy W T s kb fb M A q8 q11 B l h f V T' y) (hb : Below y.heap.size y y') : Wy W T s kb fb M A q8 q11 B l h f V T' y' :=
  ⟨H.st.below hb, fun k hk => ⟨(H.tt k hk).1, Nat.lt_of_lt_of_le (H.tt k hk).2.1 hb.size, (H.tt k hk).2.2⟩, H.hc.below hb, H.rc.below hb, (Kept.ofBelow (S := fun _ => False) hb).row H.row (fun _ _ h => h), H.vt,
    H.kp.trans (Kept.ofBelow hb) fun _ _ h => h, H.o8, H.o11, ⟨H.ob.1, Nat.le_trans H.ob.2 hb.size⟩, H.kl⟩
/-- Behind a Get. -/
theorem Wy.got {A' : List Hx} (H : Wy W T s kb fb M A q8 q11 B l h f V T' y) (hs : IsSt y' (Grow T' y y') s kb fb ⟨M, A'⟩) (hk : Kept T' y y') : Wy W T s kb fb M A' q8 q11 B l h f V (Grow T' y y') y' := by
  have hz := hk.size
  have h8 := H.rc.lt
  have h11 := H.hc.lt
  refine ⟨hs, fun k hk => ?_, Wt.IsTab.kept H.hc hk fun e => (H.tt _ e).2.2.2 rfl, Wt.IsTab.kept H.rc hk fun e => (H.tt _ e).2.2.1 rfl, hk.row H.row H.vt, fun k e hk => ?_, H.kp.trans hk fun k hlt hk => (H.tt k hk).1.elim id fun h => absurd h (by omega), H.o8, H.o11, ⟨H.ob.1, Nat.le_trans H.ob.2 hz⟩, H.kl⟩
  · have := H.kp.size
    rcases hk with hk | hk
    · have := H.tt k hk
      exact ⟨this.1, by omega, this.2.2⟩
    · exact ⟨.inr (by omega), hk.2, by omega, by omega⟩
  · have := own_lt H.row e
    rcases hk with hk | hk
    · exact H.vt k e hk
    · omega
/-- Behind the append. -/
theorem Wy.grown {V' : Value} (H : Wy W T s kb fb M A q8 q11 B l h f V T' y) (hr : y'.ownsRow B 37 64 V' (l + 1) (flp l f ++ flp 1 fun _ => f l)) (hg : y.grownBy y' V.ownBlock) (hV : ∀ k, V'.ownBlock = some k → V.ownBlock = some k ∨ k = y.heap.size) : Wy W T s kb fb M A q8 q11 B (l + 1) h f V' T' y' := by
  have hk : Kept (fun k => V.ownBlock = some k) y y' := ⟨hg.os, hg.tape, hg.output, hg.size, fun k hk hn => hg.block k hk (fun e => hn e.symm)⟩
  have hB : ∀ k, V.ownBlock = some k → B ≤ k := fun k hk => owns_base H.row hk
  have hn : ∀ k, T' k → ¬ V.ownBlock = some k := fun k h1 h2 => H.vt k h2 h1
  have hkb := H.kl
  have hw := H.kp.size
  have h1 := H.o8
  have h2 := H.o11
  have h3 := H.ob
  refine ⟨H.st.kept hk hn (fun e => ?_) (fun e => ?_), fun k hk' => ⟨(H.tt k hk').1, Nat.lt_of_lt_of_le (H.tt k hk').2.1 hk.size, (H.tt k hk').2.2⟩, Wt.IsTab.kept H.hc hk fun e => ?_, Wt.IsTab.kept H.rc hk fun e => ?_, by rw [← flp_step]; exact hr, fun k e hk' => ?_,
    H.kp.trans hk fun k hlt e => ?_, H.o8, H.o11, ⟨H.ob.1, Nat.le_trans H.ob.2 hk.size⟩, H.kl⟩
  · have := hB _ e; omega
  · have := hB _ e; omega
  · have := hB _ e; omega
  · have := hB _ e; omega
  · rcases hV k e with e | e
    · exact H.vt k e hk'
    · have := (H.tt k hk').2.1; omega
  · have := hB _ e; omega
/-- Behind the copy. -/
theorem Wy.step {g : Nat → Value} {h' : Hx} (H : Wy W T s kb fb M A q8 q11 B l h f V T' y) (hg : ∀ i, i < 32 → g i = bv (h' i)) : Wy W T s kb fb M A q8 q11 B l h' f V T' (y.setRow q11 (tab 32 g)) := by
  have hk : Kept (fun k => k = q11) y (y.setRow q11 (tab 32 g)) := ⟨by simp, by simp, by simp, by simp, fun k _ hk => setRow_other _ _ _ _ hk⟩
  have h1 := H.o8
  have h2 := H.o11
  have h3 := H.ob
  have hw := H.kp.size
  have hkb := H.kl
  have hr : IsTab (y.setRow q11 (tab 32 g)) q11 39 32 g := H.hc.row
  refine ⟨H.st.kept hk (fun k hk e => (H.tt k hk).2.2.2 e) (by omega) (by omega), fun k hk' => ⟨(H.tt k hk').1, Nat.lt_of_lt_of_le (H.tt k hk').2.1 hk.size, (H.tt k hk').2.2⟩, hr.cong hg, Wt.IsTab.kept H.rc hk (by omega), hk.row H.row fun k e h => ?_, H.vt,
    H.kp.trans hk fun k hlt e => by omega, H.o8, H.o11, ⟨H.ob.1, by simpa using H.ob.2⟩, H.kl⟩
  have := owns_base H.row e; omega
end
/-- What the way leaves. -/
structure WyEnd (W : World) (T : Nat → Prop) (s kb fb : Nat) (M : List (Hx × Px)) (A : List Hx) (d k : Nat) (hh : Nat → Hx) (x : Hx) (V E : Value) (T' : Nat → Prop) (y : World) : Prop where
  st : IsSt y T' s kb fb ⟨M, askN A hh (if k < d then k + 1 else d)⟩
  tt : ∀ j, T' j → (T j ∨ W.heap.size ≤ j) ∧ j < y.heap.size
  kp : Kept T W y
  hit : k = d → x = hh d ∧ E = .nilIface ∧ y.ownsRow W.heap.size 37 64 V d (flp d (px M hh)) ∧ ∀ j, V.ownBlock = some j → ¬ T' j
  miss : k < d → x = (fun _ => 0#8) ∧ V = .slice none 0 0 ∧ ∃ q, E = .iface 156 (.pointer (some ⟨q, 0, none⟩)) ∧ y.cell? ⟨q, 0, none⟩ = some (.int .i64 k) ∧ y.cell? ⟨q, 1, none⟩ = some (.iface 62 (.int .i64 14)) ∧ ¬ T' q ∧ W.heap.size ≤ q
/-- What Read leaves. -/
structure RdEnd (W : World) (T : Nat → Prop) (s kb fb : Nat) (M : List (Hx × Px)) (A : List Hx) (d k : Nat) (hh : Nat → Hx) (x : Hx) (E : Value) (T' : Nat → Prop) (y : World) : Prop where
  st : IsSt y T' s kb fb ⟨M, askN A hh (if k < d then k + 1 else d)⟩
  tt : ∀ j, T' j → (T j ∨ W.heap.size ≤ j) ∧ j < y.heap.size
  kp : Kept T W y
  hit : k = d → x = hh d ∧ E = .nilIface
  miss : k < d → x = (fun _ => 0#8) ∧ ∃ q, E = .iface 156 (.pointer (some ⟨q, 0, none⟩)) ∧ y.cell? ⟨q, 0, none⟩ = some (.int .i64 k) ∧ y.cell? ⟨q, 1, none⟩ = some (.iface 62 (.int .i64 14)) ∧ ¬ T' q ∧ W.heap.size ≤ q
end Wt
end Go.Proofs.YtdmffnjbholkkaaDoor
