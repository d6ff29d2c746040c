/- Merged. Own work. -/
import Derived.Test.YtdmffnjbholkkaaDoorZq
import Derived.Test.YtdmffnjbholkkaaDoorZd2
import Derived.Test.YtdmffnjbholkkaaDoorAsf
import Derived.BigQuiet
import Derived.Deep.QuietTactic
namespace Go.Proofs.YtdmffnjbholkkaaDoor
open Go.RowKit
set_option linter.unusedVariables false
set_option linter.unusedSimpArgs false
set_option linter.unusedVariables false
set_option linter.unusedSimpArgs false
namespace Wt
open Kc Mk
theorem hs_zz (k : Nat) : hs (zz k) = zero (k + 1) := hs_jn _ _
/-- The noughts' words; of the nought of nothing none. -/
def nlit : Nat → List Wd64
  | 1 => N1z | 2 => N2z | 3 => N3z | 4 => N4z | 5 => N5z | 6 => N6z | 7 => N7z | 8 => N8z
  | 9 => N9z | 10 => N10z | 11 => N11z | 12 => N12z | 13 => N13z | 14 => N14z | 15 => N15z | 16 => N16z
  | _ => []
theorem zlit (k : Nat) (h1 : 1 ≤ k) (h2 : k ≤ 16) (i : Nat) (hi : i < 32) : zero k i = digest (ofw (nlit k)) i := by
  obtain ⟨j, rfl⟩ : ∃ j, k = j + 1 := ⟨k - 1, by omega⟩
  have hj : j < 16 := by omega
  rcases j with _ | _ | _ | _ | _ | _ | _ | _ | _ | _ | _ | _ | _ | _ | _ | _ | j
  · exact N0_is i hi
  · exact N1_is i hi
  · exact N2_is i hi
  · exact N3_is i hi
  · exact N4_is i hi
  · exact N5_is i hi
  · exact N6_is i hi
  · exact N7_is i hi
  · exact N8_is i hi
  · exact N9_is i hi
  · exact N10_is i hi
  · exact N11_is i hi
  · exact N12_is i hi
  · exact N13_is i hi
  · exact N14_is i hi
  · exact N15_is i hi
  · omega
theorem heads : ((List.range 16).all fun a => (List.range 16).all fun b => a == b || digest (ofw (nlit (a + 1))) 0 != digest (ofw (nlit (b + 1))) 0 || digest (ofw (nlit (a + 1))) 1 != digest (ofw (nlit (b + 1))) 1) = true := by decide +kernel
theorem tails : ((List.range 16).all fun a => digest (ofw (nlit (a + 1))) 1 != 0#8) = true := by decide +kernel
theorem zero_ne {a b : Nat} (ha : a < 16) (hb : b < 16) (h : a ≠ b) : key (zero (a + 1)) ≠ key (zero (b + 1)) := fun e => by
  have e0 := key_at e 0 (by decide)
  have e1 := key_at e 1 (by decide)
  rw [zlit (a + 1) (by omega) (by omega) _ (by decide), zlit (b + 1) (by omega) (by omega) _ (by decide)] at e0 e1
  have := List.all_eq_true.1 (List.all_eq_true.1 heads a (List.mem_range.2 ha)) b (List.mem_range.2 hb)
  simp [e0, e1, h] at this
theorem zero_nb {a : Nat} (ha : a < 16) : zero (a + 1) 1 ≠ 0#8 := fun e => by
  rw [zlit (a + 1) (by omega) (by omega) _ (by decide)] at e
  have := List.all_eq_true.1 tails a (List.mem_range.2 ha)
  simp [e] at this
theorem zs_eq : ∀ k, k ≤ 16 → zs k = (List.range k).map fun j => (zero (j + 1), zz j)
  | 0, _ => rfl
  | k + 1, h => by
    unfold zs
    rw [zs_eq k (by omega), hs_zz]
    unfold putM
    rw [has_none, List.range_succ, List.map_append]
    · rfl
    · intro p hp
      obtain ⟨j, hj, rfl⟩ := List.mem_map.1 hp
      have hj' : j < k := List.mem_range.1 hj
      exact zero_ne (by omega) (by omega) (by omega)
theorem zs_len : (zs 16).length = 16 := by rw [zs_eq 16 (Nat.le_refl _)]; simp
theorem zs_apart : ∀ k, Apart (zs k)
  | 0 => List.Pairwise.nil
  | k + 1 => apart_put (zs_apart k) _ _
theorem look_zs (k : Nat) (hk : k < 16) : look (zs 16) (zero (k + 1)) = some (zz k) := by
  have h : (zs 16)[k]? = some (zero (k + 1), zz k) := by rw [zs_eq 16 (Nat.le_refl _)]; simp [hk]
  exact look_at (zs_apart 16) h rfl
theorem has_zs (k : Nat) (hk : k < 16) : has (zs 16) (zero (k + 1)) = true := by rw [← look_has, look_zs k hk]; rfl
/-- A digest that is none of the noughts'. -/
def nine : Hx := fun i => if i = 0 then 9#8 else 0#8
theorem nine_none : look (zs 16) nine = none := by
  refine look_none fun p hp e => ?_
  rw [zs_eq 16 (Nat.le_refl _)] at hp
  obtain ⟨j, hj, rfl⟩ := List.mem_map.1 hp
  exact zero_nb (List.mem_range.1 hj) (key_at e 1 (by decide))
theorem nine_has : has (zs 16) nine = false := by rw [← look_has, nine_none]; rfl
theorem ba (w : World) (o : Obj) : Below w.heap.size w (w.alloc o) := (Below.refl _ _).alloc (Nat.le_refl _) _
/-- The cell of errors.errorType. -/
def Et (w : World) : Prop := w.cell? ⟨0, 0, none⟩ = some (.iface 173 (.agg #[.pointer (some ⟨4, 41, none⟩)]))
theorem Et.next {w w' : World} (h : Et w) (hb : Below w.heap.size w w') : Et w' := keep1 hb h
set_option maxHeartbeats 4000000 in
set_option maxRecDepth 100000 in
theorem why_flt (w : World) (q p : Nat) (k : Int) (hg : Et w) (h0 : w.cell? ⟨q, 0, none⟩ = some (.int .i64 p)) (h1 : w.cell? ⟨q, 1, none⟩ = some (.iface 62 (.int .i64 k))) :
    Calls Tryd.prog 49 #[.iface 156 (.pointer (some ⟨q, 0, none⟩))] w fun e w' => e = .returned (.tuple #[.int .i64 k, .int .i64 p]) ∧ Below w.heap.size w w' := by
  have HB1 := Lib.hid (ba w (.cells #[.int .i64 0] 62))
  have HG1 := Lib.hid (hg.next HB1.out)
  have HC := Lib.hid (As.as_fault_num q k ⟨w.heap.size, 0, none⟩ (.int .i64 0) (w.alloc (.cells #[.int .i64 0] 62)) HG1.out (by simp) (by simp) (keep1 HB1.out h1))
  have H0 := Lib.hid (And.intro h0 (inHeap h0))
  have HE0 := Lib.hid hg
  clear hg h0 h1
  go_enter Tryd.func49, Tryd.ntmps49
  go_wp2_with (fail)
  refine HC.out.mono ?_
  rintro e y1 ⟨rfl, y2, rfl, hb⟩
  have HB2 := Lib.hid ((bl HB1.out hb).setCell (p := ⟨w.heap.size, 0, none⟩) (Nat.le_refl _) (.int .i64 k))
  have hz := hb.size
  simp at hz
  have c1 := keep1 (x := .int .i64 0) (o := 0) (b := w.heap.size) hb (by simp)
  have he0 := inHeap HE0.out
  have hq0 := H0.out.2
  have HY : Hid (Et (y2.setCell ⟨w.heap.size, 0, none⟩ (.int .i64 k)) ∧ (y2.setCell ⟨w.heap.size, 0, none⟩ (.int .i64 k)).cell? ⟨w.heap.size, 0, none⟩ = some (.int .i64 k) ∧ (y2.setCell ⟨w.heap.size, 0, none⟩ (.int .i64 k)).cell? ⟨q, 0, none⟩ = some (.int .i64 p)) := Lib.hid (by
    refine ⟨?_, World.cell?_setCell_same _ _ _ c1, ?_⟩
    · exact (World.cell?_setCell_other _ _ _ _ (fun e => by have h9 : w.heap.size = 0 := congrArg Addr.block e; omega)).trans (HG1.out.next hb)
    · rw [World.cell?_setCell_other _ _ _ _ (fun e => by have := congrArg Addr.block e; simp at this; omega)]
      exact keep1 hb (keep1 HB1.out H0.out.1))
  have hy2 : y2.heap.size = (y2.setCell ⟨w.heap.size, 0, none⟩ (.int .i64 k)).heap.size := (size_setCell _ _ _).symm
  clear hb c1 HC he0 hq0
  generalize y2.setCell ⟨w.heap.size, 0, none⟩ (.int .i64 k) = y3 at *
  have HD := Lib.hid (As.as_fault_fault ⟨q, 0, none⟩ ⟨y3.heap.size, 0, none⟩ (.pointer none) (y3.alloc (.cells #[.pointer none] 156)) (HY.out.1.next (ba _ _)) (by simp) (by simp))
  have HZ := Lib.hid (And.intro hz hy2)
  clear hz hy2
  go_wp2_with (fail)
  refine HD.out.mono ?_
  rintro e y4 ⟨rfl, y5, rfl, hb⟩
  have B3 := Lib.hid ((bl (HB2.out.alloc HB2.out.size (.cells #[.pointer none] 156)) hb).setCell (p := ⟨y3.heap.size, 0, none⟩) HB2.out.size (.pointer (some ⟨q, 0, none⟩)))
  have c4 := keep1 (x := .pointer none) (o := 0) (b := y3.heap.size) hb (by simp)
  have c5 := keep1 hb (keep1 (ba _ (.cells #[.pointer none] 156)) HY.out.2.1)
  have c6 := keep1 hb (keep1 (ba _ (.cells #[.pointer none] 156)) HY.out.2.2)
  have n5 := inHeap HY.out.2.1
  have n6 := inHeap HY.out.2.2
  have c7 := World.cell?_setCell_same y5 ⟨y3.heap.size, 0, none⟩ (.pointer (some ⟨q, 0, none⟩)) c4
  have c8 : (y5.setCell ⟨y3.heap.size, 0, none⟩ (.pointer (some ⟨q, 0, none⟩))).cell? ⟨w.heap.size, 0, none⟩ = some (.int .i64 k) := by
    rw [World.cell?_setCell_other _ _ _ _ (fun e => by have := congrArg Addr.block e; simp at this; omega)]; exact c5
  have c9 : (y5.setCell ⟨y3.heap.size, 0, none⟩ (.pointer (some ⟨q, 0, none⟩))).cell? ⟨q, 0, none⟩ = some (.int .i64 p) := by
    rw [World.cell?_setCell_other _ _ _ _ (fun e => by have := congrArg Addr.block e; simp at this; omega)]; exact c6
  clear hb c4 c5 c6 n5 n6 HD
  generalize y5.setCell ⟨y3.heap.size, 0, none⟩ (.pointer (some ⟨q, 0, none⟩)) = y6 at *
  go_wp2_with (fail)
  go_quiet (fail)
  go_wp2_with (fail)
  exact bodyPost_ret (v := .tuple #[.int .i64 k, .int .i64 p]) (by simp [results, Tryd.results49, go_sem]) rfl ⟨rfl, below_drewN B3.out nq⟩
end Wt
end Go.Proofs.YtdmffnjbholkkaaDoor
namespace Go.Proofs.YtdmffnjbholkkaaDoor
open Go.RowKit
set_option linter.unusedVariables false
set_option linter.unusedSimpArgs false
section
variable {P : Program}
theorem wp_copy_tab {w : World} {o : Oper} {a : Act} {K : Act → World → Prop} {Q : Exit → Act → World → Prop} (d s : Operand) (dT sT : TypeId)
    (ho : o.op = .call { callee := .builtin .copy, args := #[d, s], argTypes := #[dT, sT] }) (elem : TypeId) (hu : P.underlying dT = some (.slice elem)) (hsz : (P.info? elem).map (·.size) = some 1)
    (q off dLen dCap : Nat) (ad : Addr) (sLen sCap : Nat) (hd : a.eval d = .slice (some ⟨q, off, none⟩) dLen dCap) (hs : a.eval s = .slice (some ad) sLen sCap)
    (T n : Nat) (g : Nat → Value) (hg : Kc.IsTab w q T n g) (k : Nat) (hk : k = min sLen dLen) (f : Nat → Value) (hsrc : ∀ j, j < k → w.cell? (ad.add j) = some (f j)) (hfit : off + k ≤ n) (h1 : ∀ j, (f j).oneCell' = true)
    (h : K (a.put o.dst (.int .i64 k)) (w.setRow q (Kc.tab n (Kc.splv g off k f)))) : o.wp P a w K Q := by
  have hrun := run_copy_row (P := P) w dT sT o.type elem q off dLen dCap ad sLen sCap (Kc.tab n g) T ((List.range k).map f) hu hsz hg (by rw [hk]; simp) (fun j v hv => by
    obtain ⟨hj, rfl⟩ := List.getElem?_eq_some_iff.1 hv
    simp only [List.length_map, List.length_range] at hj
    simpa using hsrc j hj) (by simp [Kc.tab_size]; exact hfit) (fun v hv => by
    obtain ⟨j, _, rfl⟩ := List.mem_map.1 hv
    exact h1 j)
  rw [List.length_map, List.length_range, List.append_assoc, Kc.tab_splice n g off k f hfit] at hrun
  unfold Oper.wp
  simp [execOp, ho, resolve, invoke, builtin, hd, hs, hrun, Result.andThen]
  exact h
end
namespace Wt
open Kc Mk
/-- The cells of n preimages. -/
def flp (n : Nat) (f : Nat → Px) : List Value := (List.range (64 * n)).map fun i => bv (f (i / 64) (i % 64))
theorem flp_len (n : Nat) (f : Nat → Px) : (flp n f).length = n * 64 := by simp [flp]; omega
theorem flp_one (n : Nat) (f : Nat → Px) : ∀ u ∈ flp n f, u.oneCell' = true := by intro u hu; obtain ⟨i, _, rfl⟩ := List.mem_map.1 hu; rfl
theorem flp_step (n : Nat) (f : Nat → Px) : flp n f ++ flp 1 (fun _ => f n) = flp (n + 1) f := by
  apply List.ext_getElem?
  intro i
  by_cases h : i < 64 * n
  · rw [List.getElem?_append_left (by rw [flp_len]; omega)]
    unfold flp
    simp [h, show i < 64 * (n + 1) from by omega]
  · rw [List.getElem?_append_right (by rw [flp_len]; omega), flp_len]
    unfold flp
    by_cases h2 : i < 64 * (n + 1)
    · simp [h2, show i - n * 64 < 64 from by omega, show i / 64 = n from by omega, show (i - n * 64) % 64 = i % 64 from by omega]
    · simp [h2, show ¬ i - n * 64 < 64 from by omega]
theorem flp1 (x : Px) : flp 1 (fun _ => x) = (tab 64 fun i => bv (x i)).toList := by
  unfold flp tab
  simp only [Nat.mul_one]
  exact List.map_congr_left fun i hi => by rw [Nat.mod_eq_of_lt (by simpa using hi)]
theorem undPa : Tryd.prog.underlying 30 = some (.slice 37) := by kernel_rfl
theorem zcellsP : (pv zp).cells.size = 64 := by show (tab 64 _).size = 64; rw [tab_size]
theorem infPa : ∃ i, Tryd.prog.info? 37 = some i ∧ i.zero = some (pv zp) ∧ i.size = 64 ∧ i.bytes = 64 :=
  ⟨(Tryd.prog.info? 37).get (by kernel_rfl), by kernel_rfl, by kernel_rfl, by kernel_rfl, by kernel_rfl⟩
theorem buildPa (x : Px) (w : World) : (Instr.buildSlice 30 1 #[(0, .agg (tab 64 fun i => bv (x i)))]).run Tryd.prog w = .ok (.slice (some ⟨w.heap.size, 0, none⟩) 1 1) (w.alloc (.cells (tab 64 fun i => bv (x i)) 37)) := by kernel_rfl
theorem src1p (w : World) (x : Px) : ∀ j u, (flp 1 fun _ => x)[j]? = some u → (w.alloc (.cells (tab 64 fun i => bv (x i)) 37)).cell? ((⟨w.heap.size, 0, none⟩ : Addr).add j) = some u := fun j u hu => by
    rw [flp1] at hu
    rw [add_at, Nat.zero_add, cell_of_row _ _ _ _ _ _ (heap_alloc_last w _)]
    simpa using hu
/-- What was asked, behind n digests of a row. -/
def askN (A : List Hx) (hh : Nat → Hx) : Nat → List Hx
  | 0 => A
  | n + 1 => askL (askN A hh n) (hh n)
theorem askL_len (A : List Hx) (h : Hx) : (askL A h).length ≤ A.length + 1 := by unfold askL; split <;> simp
theorem askN_len (A : List Hx) (hh : Nat → Hx) : ∀ n, (askN A hh n).length ≤ A.length + n
  | 0 => Nat.le_refl _
  | n + 1 => by have := askL_len (askN A hh n) (hh n); have := askN_len A hh n; unfold askN; omega
/-- The preimage at a level. -/
def px (M : List (Hx × Px)) (hh : Nat → Hx) (j : Nat) : Px := (look M (hh j)).getD zp
theorem side_any (q b : Nat) (w : World) : Calls Tryd.prog 57 #[.pointer (some ⟨q, 0, none⟩), .int .i64 b] w fun e w' => e = .returned (.slice (some ⟨q, 32 * (b % 2), none⟩) 32 (64 - 32 * (b % 2))) ∧ w = w' := by
  have h := side_walk q (b : Int) w
  rcases Nat.mod_two_eq_zero_or_one b with hb | hb
  · rw [if_pos (by rw [Int.tmod_eq_emod_of_nonneg (by omega)]; omega)] at h
    rw [hb]; exact h
  · rw [if_neg (by rw [Int.tmod_eq_emod_of_nonneg (by omega)]; omega)] at h
    rw [hb]; exact h
theorem keptC {U : Nat → Prop} {w w' : World} {b o : Nat} {x : Value} (hk : Kept U w w') (hn : ¬ U b) (h : w.cell? ⟨b, o, none⟩ = some x) : w'.cell? ⟨b, o, none⟩ = some x := by
  have e := hk.block b (inHeap h) hn
  simp only [World.cell?, e] at h ⊢
  exact h
theorem row_base {w : World} {B B' e size n : Nat} {v : Value} {xs : List Value} (h : w.ownsRow B e size v n xs) (hb : B' ≤ B) : w.ownsRow B' e size v n xs :=
  ⟨h.1, h.2.imp id fun ⟨g, cap, cur, h1, h2, h3⟩ => ⟨g, cap, cur, h1, Nat.le_trans hb h2, h3⟩⟩
/-- What the way's loop keeps. -/
structure Wy (W : World) (T : Nat → Prop) (s kb fb : Nat) (M : List (Hx × Px)) (A : List Hx) (q8 q11 B l : Nat) (h : Hx) (f : Nat → Px) (V : Value) (T' : Nat → Prop) (y : World) : Prop where
  st : IsSt y T' s kb fb ⟨M, A⟩
  tt : ∀ k, T' k → (T k ∨ W.heap.size ≤ k) ∧ k < y.heap.size ∧ k ≠ q8 ∧ k ≠ q11
  hc : IsTab y q11 39 32 fun i => bv (h i)
  rc : IsTab y q8 39 32 fun _ => bv 0#8
  row : y.ownsRow B 37 64 V l (flp l f)
  vt : ∀ k, V.ownBlock = some k → ¬ T' k
  kp : Kept T W y
  o8 : W.heap.size ≤ q8
  o11 : q8 < q11
  ob : q11 < B ∧ B ≤ y.heap.size
  kl : kb < W.heap.size ∧ fb < W.heap.size
section
variable {W y y' : World} {T T' : Nat → Prop} {s kb fb q8 q11 B l : Nat} {M : List (Hx × Px)} {A : List Hx} {h : Hx} {f : Nat → Px} {V : Value}
theorem Wy.next (H : Wy W T s kb fb M A q8 q11 B l h f V T' y) (hb : Below y.heap.size y y') : Wy W T s kb fb M A q8 q11 B l h f V T' y' :=
  ⟨H.st.below hb, fun k hk => ⟨(H.tt k hk).1, Nat.lt_of_lt_of_le (H.tt k hk).2.1 hb.size, (H.tt k hk).2.2⟩, H.hc.below hb, H.rc.below hb, (Kept.ofBelow (S := fun _ => False) hb).row H.row (fun _ _ h => h), H.vt,
    H.kp.trans (Kept.ofBelow hb) fun _ _ h => h, H.o8, H.o11, ⟨H.ob.1, Nat.le_trans H.ob.2 hb.size⟩, H.kl⟩
/-- Behind a Get. -/
theorem Wy.got {A' : List Hx} (H : Wy W T s kb fb M A q8 q11 B l h f V T' y) (hs : IsSt y' (Grow T' y y') s kb fb ⟨M, A'⟩) (hk : Kept T' y y') : Wy W T s kb fb M A' q8 q11 B l h f V (Grow T' y y') y' := by
  have hz := hk.size
  have h8 := H.rc.lt
  have h11 := H.hc.lt
  refine ⟨hs, fun k hk => ?_, Wt.IsTab.kept H.hc hk fun e => (H.tt _ e).2.2.2 rfl, Wt.IsTab.kept H.rc hk fun e => (H.tt _ e).2.2.1 rfl, hk.row H.row H.vt, fun k e hk => ?_, H.kp.trans hk fun k hlt hk => (H.tt k hk).1.elim id fun h => absurd h (by omega), H.o8, H.o11, ⟨H.ob.1, Nat.le_trans H.ob.2 hz⟩, H.kl⟩
  · have := H.kp.size
    rcases hk with hk | hk
    · have := H.tt k hk
      exact ⟨this.1, by omega, this.2.2⟩
    · exact ⟨.inr (by omega), hk.2, by omega, by omega⟩
  · have := own_lt H.row e
    rcases hk with hk | hk
    · exact H.vt k e hk
    · omega
/-- Behind the append. -/
theorem Wy.grown {V' : Value} (H : Wy W T s kb fb M A q8 q11 B l h f V T' y) (hr : y'.ownsRow B 37 64 V' (l + 1) (flp l f ++ flp 1 fun _ => f l)) (hg : y.grownBy y' V.ownBlock) (hV : ∀ k, V'.ownBlock = some k → V.ownBlock = some k ∨ k = y.heap.size) : Wy W T s kb fb M A q8 q11 B (l + 1) h f V' T' y' := by
  have hk : Kept (fun k => V.ownBlock = some k) y y' := ⟨hg.os, hg.tape, hg.output, hg.size, fun k hk hn => hg.block k hk (fun e => hn e.symm)⟩
  have hB : ∀ k, V.ownBlock = some k → B ≤ k := fun k hk => owns_base H.row hk
  have hn : ∀ k, T' k → ¬ V.ownBlock = some k := fun k h1 h2 => H.vt k h2 h1
  have hkb := H.kl
  have hw := H.kp.size
  have h1 := H.o8
  have h2 := H.o11
  have h3 := H.ob
  refine ⟨H.st.kept hk hn (fun e => ?_) (fun e => ?_), fun k hk' => ⟨(H.tt k hk').1, Nat.lt_of_lt_of_le (H.tt k hk').2.1 hk.size, (H.tt k hk').2.2⟩, Wt.IsTab.kept H.hc hk fun e => ?_, Wt.IsTab.kept H.rc hk fun e => ?_, by rw [← flp_step]; exact hr, fun k e hk' => ?_,
    H.kp.trans hk fun k hlt e => ?_, H.o8, H.o11, ⟨H.ob.1, Nat.le_trans H.ob.2 hk.size⟩, H.kl⟩
  · have := hB _ e; omega
  · have := hB _ e; omega
  · have := hB _ e; omega
  · have := hB _ e; omega
  · rcases hV k e with e | e
    · exact H.vt k e hk'
    · have := (H.tt k hk').2.1; omega
  · have := hB _ e; omega
/-- Behind the copy. -/
theorem Wy.step {g : Nat → Value} {h' : Hx} (H : Wy W T s kb fb M A q8 q11 B l h f V T' y) (hg : ∀ i, i < 32 → g i = bv (h' i)) : Wy W T s kb fb M A q8 q11 B l h' f V T' (y.setRow q11 (tab 32 g)) := by
  have hk : Kept (fun k => k = q11) y (y.setRow q11 (tab 32 g)) := ⟨by simp, by simp, by simp, by simp, fun k _ hk => setRow_other _ _ _ _ hk⟩
  have h1 := H.o8
  have h2 := H.o11
  have h3 := H.ob
  have hw := H.kp.size
  have hkb := H.kl
  have hr : IsTab (y.setRow q11 (tab 32 g)) q11 39 32 g := H.hc.row
  refine ⟨H.st.kept hk (fun k hk e => (H.tt k hk).2.2.2 e) (by omega) (by omega), fun k hk' => ⟨(H.tt k hk').1, Nat.lt_of_lt_of_le (H.tt k hk').2.1 hk.size, (H.tt k hk').2.2⟩, hr.cong hg, Wt.IsTab.kept H.rc hk (by omega), hk.row H.row fun k e h => ?_, H.vt,
    H.kp.trans hk fun k hlt e => by omega, H.o8, H.o11, ⟨H.ob.1, by simpa using H.ob.2⟩, H.kl⟩
  have := owns_base H.row e; omega
end
/-- What the way leaves. -/
structure WyEnd (W : World) (T : Nat → Prop) (s kb fb : Nat) (M : List (Hx × Px)) (A : List Hx) (d k : Nat) (hh : Nat → Hx) (x : Hx) (V E : Value) (T' : Nat → Prop) (y : World) : Prop where
  st : IsSt y T' s kb fb ⟨M, askN A hh (if k < d then k + 1 else d)⟩
  tt : ∀ j, T' j → (T j ∨ W.heap.size ≤ j) ∧ j < y.heap.size
  kp : Kept T W y
  hit : k = d → x = hh d ∧ E = .nilIface ∧ y.ownsRow W.heap.size 37 64 V d (flp d (px M hh)) ∧ ∀ j, V.ownBlock = some j → ¬ T' j
  miss : k < d → x = (fun _ => 0#8) ∧ V = .slice none 0 0 ∧ ∃ q, E = .iface 156 (.pointer (some ⟨q, 0, none⟩)) ∧ y.cell? ⟨q, 0, none⟩ = some (.int .i64 k) ∧ y.cell? ⟨q, 1, none⟩ = some (.iface 62 (.int .i64 14)) ∧ ¬ T' q ∧ W.heap.size ≤ q
set_option maxHeartbeats 4000000 in
set_option maxRecDepth 100000 in
theorem way_walk (T : Nat → Prop) (s kb fb : Nat) (M : List (Hx × Px)) (A : List Hx) (d i k : Nat) (hh : Nat → Hx) (w : World) (hs : IsSt w T s kb fb ⟨M, A⟩) (hT : ∀ j, T j → j < w.heap.size) (hn : A.length + 17 < 1073741824) (hd : d ≤ 16) (hi : i < 2 ^ d) (hk : k ≤ d)
    (hstep : ∀ j, j < k → ∀ x, x < 32 → hh (j + 1) x = px M hh j (32 * (i / 2 ^ (d - 1 - j) % 2) + x)) (hhas : ∀ j, j < k → has M (hh j) = true) (hend : k = d ∨ has M (hh k) = false) :
    Calls Tryd.prog 55 #[.pointer (some ⟨s, 0, none⟩), .int .i64 d, dv (hh 0), .int .i64 i] w fun e w' => ∃ x V E, e = .returned (.tuple #[dv x, V, E]) ∧ ∃ T', WyEnd w T s kb fb M A d k hh x V E T' w' := by
  have hp2 : (2 : Nat) ^ d ≤ 2 ^ 16 := Nat.pow_le_pow_right (by decide) hd
  have t1 : decide ((d : Int) < 0) = false := by simp
  have t2 : decide (16 < (d : Int)) = false := by simp; omega
  have t3 : decide ((i : Int) < 0) = false := by simp
  have t5 : decide (wrap64 ((2 : Int) ^ d) ≤ (i : Int)) = false := by
    rw [decide_eq_false_iff_not, show ((2 : Int) ^ d) = ((2 ^ d : Nat) : Int) from (Int.natCast_pow 2 d).symm]
    have h9 : (2 : Nat) ^ d ≤ 65536 := hp2
    unfold wrap64
    omega
  have HP2 := Lib.hid hp2
  have HST := Lib.hid (And.intro hs hT)
  have HDK := Lib.hid (And.intro hd (And.intro hk (And.intro hi hn)))
  have HHH := Lib.hid (And.intro hstep (And.intro hhas hend))
  clear hp2 hs hT hn hi hstep hhas hend
  have z1 := zeroPre
  generalize hz : (tab 64 fun _ => bv 0#8) = zq at *
  have HZQ := Lib.hid hz
  clear hz
  have z2 := zeroHash
  generalize hz : (tab 32 fun _ => bv 0#8) = zh at *
  have HZH := Lib.hid hz
  clear hz
  have HA : Hid (IsTab ((w.alloc (.cells (tab 32 fun i => bv (hh 0 i)) 39)).alloc (.cells zh 39)) w.heap.size 39 32 (fun i => bv (hh 0 i)) ∧ IsTab ((w.alloc (.cells (tab 32 fun i => bv (hh 0 i)) 39)).alloc (.cells zh 39)) (w.heap.size + 1) 39 32 (fun _ => bv 0#8) ∧ Below w.heap.size w ((w.alloc (.cells (tab 32 fun i => bv (hh 0 i)) 39)).alloc (.cells zh 39)) ∧ ((w.alloc (.cells (tab 32 fun i => bv (hh 0 i)) 39)).alloc (.cells zh 39)).heap.size = w.heap.size + 2) := by
    refine Lib.hid ⟨(IsTab.new w _ 32 _).alloc _, ?_, ((Below.refl _ _).alloc (Nat.le_refl _) _).alloc (by simp) _, by simp⟩
    rw [← HZH.out]
    have := IsTab.new (w.alloc (.cells (tab 32 fun i => bv (hh 0 i)) 39)) 39 32 fun _ => bv 0#8
    simpa using this
  have HBH : Hid (∀ u : World, (Instr.build 39 #[]).run Tryd.prog u = .ok (.agg zh) u) := Lib.hid (fun u => by rw [← HZH.out]; exact buildZh u)
  have HIH : Hid ((Tryd.prog.info? 39).map (·.size) = some zh.size) := Lib.hid (by rw [← HZH.out]; exact infH _)
  unfold dv
  go_enter Tryd.func55, Tryd.ntmps55
  go_upto_region 1 with (fail)
  generalize ((w.alloc (.cells (tab 32 fun i => bv (hh 0 i)) 39)).alloc (.cells zh 39)) = y0 at *
  have HL0 := Lib.hid (loadHb HA.out.1)
  go_upto_region 6 with (first
    | ((with_reducible refine wpList_loadE (P := Tryd.prog) (w := y0) (ty := 39) (x := .tmp 6) (p := .pointer (some ⟨w.heap.size, 0, none⟩)) (v := .agg (tab 32 fun i => bv (hh 0 i))) ?_ ?_ ?_ HL0.out ?_); (· exact rfl); (· exact rfl); (· exact rfl))
    | ((with_reducible refine wpList_store_row (P := Tryd.prog) (w := y0.alloc (.cells zh 39)) ?_ 39 (.tmp 11) (.tmp 38) ?_ y0.heap.size (tab 32 fun i => bv (hh 0 i)) ?_ ?_ 39 zh (heap_alloc_last y0 _) (infH _) ?_ (one_bv _ _) ?_); (· exact rfl); (· exact rfl); (· exact rfl); (· exact rfl); (· rw [← HZH.out, tab_size, tab_size]); rw [World.setRow_alloc_new]; simp only [Act.put]))
  clear t1 t2 t3 t5 HL0
  have HB1 : Hid (Below y0.heap.size y0 (y0.alloc (.cells (tab 32 fun i => bv (hh 0 i)) 39)) ∧ IsTab (y0.alloc (.cells (tab 32 fun i => bv (hh 0 i)) 39)) y0.heap.size 39 32 (fun i => bv (hh 0 i)) ∧ (y0.alloc (.cells (tab 32 fun i => bv (hh 0 i)) 39)).heap.size = y0.heap.size + 1) := Lib.hid ⟨ba _ _, IsTab.new y0 _ 32 _, by simp⟩
  generalize y0.alloc (.cells (tab 32 fun i => bv (hh 0 i)) 39) = y1 at *
  obtain ⟨i0, hi0, hi1, hi2, hi3⟩ := infPa
  have HI := Lib.hid (And.intro hi0 (And.intro hi1 (And.intro hi2 hi3)))
  clear hi0 hi1 hi2 hi3
  obtain ⟨y2, hmk, hown, hgr⟩ := run_makeSlice_owned (P := Tryd.prog) y1 y1.heap.size 30 37 i0 (pv zp) 64 undPa HI.out.1 HI.out.2.1 HI.out.2.2.1 .i64 .i64 d (by have := HDK.out.1; omega) (by rw [HI.out.2.2.2]; have := HDK.out.1; omega) (by unfold maxLen; have := HDK.out.1; omega) (Nat.le_refl _)
  have H0 : Hid (∃ T', Wy w T s kb fb M (askN A hh 0) (w.heap.size + 1) y0.heap.size y1.heap.size 0 (hh 0) (px M hh) (.slice (some ⟨y1.heap.size, 0, none⟩) 0 d) T' y2) := by
    have hb2 : Below y1.heap.size y1 y2 := below_grown (Nat.le_refl _) (Below.refl _ _) hgr (fun k hk => by cases hk)
    have hb : Below w.heap.size w y2 := bl (bl HA.out.2.2.1 HB1.out.1) hb2
    have hz0 := HA.out.2.2.2
    have hz1 := HB1.out.2.2
    have hz2 := hb2.size
    refine Lib.hid ⟨T, HST.out.1.below hb, fun k hk => ⟨.inl hk, by have := HST.out.2 k hk; omega, by have := HST.out.2 k hk; omega, by have := HST.out.2 k hk; omega⟩, HB1.out.2.1.below hb2, (HA.out.2.1.below HB1.out.1).below hb2, hown, fun k e hk => ?_, Kept.ofBelow hb, by omega, by omega, by omega, HST.out.1.kin.lt⟩
    have e : y1.heap.size = k := by simpa [Value.ownBlock] using e
    have := HST.out.2 k hk
    omega
  clear HB1 hown hgr
  have HQ8 : Hid (w.heap.size + 1 = w.heap.size + 1) := Lib.hid rfl
  go_wp2_with (fail)
  clear hmk HI
  obtain ⟨i0, hi0, hi1, hi2, hi3⟩ := infPa
  have HI := Lib.hid (And.intro hi0 (And.intro hi1 (And.intro hi2 hi3)))
  clear hi0 hi1 hi2 hi3
  generalize y0.heap.size = q11 at *
  generalize y1.heap.size = B at *
  generalize w.heap.size + 1 = q8 at *
  generalize (Value.slice (some ⟨B, 0, none⟩) 0 d) = V0 at *
  go_loopw [12, 42] (fun tp tc y => ∃ l : Nat, l ≤ k ∧ tc = .int .i64 l ∧ Hid (∃ T', Wy w T s kb fb M (askN A hh l) q8 q11 B l (hh l) (px M hh) tp T' y)) (fun _ tc _ => d - (intOf tc).toNat)
  case atStart => exact ⟨0, Nat.zero_le _, rfl, H0⟩
  case round =>
    obtain ⟨l, hlk, rfl, hp⟩ := hrel
    obtain ⟨T1, hp⟩ := hp.out
    have HP := Lib.hid hp
    clear hp H0
    generalize u12 = V at *
    by_cases hlt : l < k
    · have t1 : decide (l < d) = true := by have := HDK.out.2.1; simp; omega
      have hg := get_walk T1 s kb fb ⟨M, askN A hh l⟩ (hh l) wr HP.out.st (fun k hk => (HP.out.tt k hk).2.1) (by have h1 := askN_len A hh l; have h2 := HDK.out; show (askN A hh l).length < _; omega)
      rw [show has (⟨M, askN A hh l⟩ : Sto).pres (hh l) = true from HHH.out.2.1 l hlt, show (look (⟨M, askN A hh l⟩ : Sto).pres (hh l)).getD zp = px M hh l from rfl, show missV true = .nilIface from rfl] at hg
      unfold dv pv at hg
      have HG := Lib.hid hg
      clear hg
      have HLH := Lib.hid (loadHb HP.out.hc)
      have HLT := Lib.hid hlt
      clear hlt
      go_upto_region 13 with (first
        | ((with_reducible refine wpList_loadE (P := Tryd.prog) (w := wr) (ty := 39) (x := .tmp 11) (p := .pointer (some ⟨q11, 0, none⟩)) (v := .agg (tab 32 fun i => bv (hh l i))) ?_ ?_ ?_ HLH.out ?_); (· exact rfl); (· exact rfl); (· exact rfl))
        | (go_at_call 19; (with_reducible refine HG.out.mono ?_); rintro e y3 ⟨he, hst, hkk⟩; obtain rfl : e = _ := he; have HP3 := Lib.hid (HP.out.got hst hkk); clear hst hkk HG)
        | ((with_reducible refine wpList_store_row (P := Tryd.prog) (w := y3.alloc (.cells zq 37)) ?_ 37 (.tmp 14) (.tmp 49) ?_ y3.heap.size (tab 64 fun i => bv (px M hh l i)) ?_ ?_ 37 zq (heap_alloc_last y3 _) (infPre _) ?_ (one_bv _ _) ?_); (· exact rfl); (· exact rfl); (· exact rfl); (· exact rfl); (· rw [← HZQ.out, tab_size, tab_size]); rw [World.setRow_alloc_new]; simp only [Act.put]))
      have H4 : Hid (Wy w T s kb fb M (askN A hh (l + 1)) q8 q11 B l (hh l) (px M hh) V (Grow T1 wr y3) (y3.alloc (.cells (tab 64 fun i => bv (px M hh l i)) 37)) ∧ IsTab (y3.alloc (.cells (tab 64 fun i => bv (px M hh l i)) 37)) y3.heap.size 37 64 (fun i => bv (px M hh l i)) ∧ ∀ k, V.ownBlock = some k → k < y3.heap.size) := Lib.hid ⟨HP3.out.next (ba _ _), IsTab.new y3 _ 64 _, fun k hk => own_lt HP3.out.row hk⟩
      clear HP HP3 HLH t1
      generalize Grow T1 wr y3 = T2 at *
      generalize y3.alloc (.cells (tab 64 fun i => bv (px M hh l i)) 37) = y4 at *
      generalize y3.heap.size = q14 at *
      have HLP := Lib.hid (loadPb H4.out.2.1)
      have HBD := Lib.hid (buildPa (px M hh l) y4)
      have HBB := Lib.hid (ba y4 (.cells (tab 64 fun i => bv (px M hh l i)) 37))
      have H5 := Lib.hid (And.intro (H4.out.1.next HBB.out) (And.intro (H4.out.2.1.below HBB.out) (src1p y4 (px M hh l))))
      have HLB : Hid (l + 1 ≤ maxLen ∧ (l + 1) * 64 ≤ 140737488355328) := Lib.hid ⟨by unfold maxLen; have := HDK.out; omega, by have := HDK.out; omega⟩
      have H64 : Hid (0 < 64) := Lib.hid (by decide)
      go_upto_region 14 with (first
        | ((with_reducible refine wpList_loadE (P := Tryd.prog) (w := y4) (ty := 37) (x := .tmp 14) (p := .pointer (some ⟨q14, 0, none⟩)) (v := .agg (tab 64 fun i => bv (px M hh l i))) ?_ ?_ ?_ HLP.out ?_); (· exact rfl); (· exact rfl); (· exact rfl))
        | ((with_reducible refine wpList_build1 (P := Tryd.prog) (w := y4) (t := 30) (x := .tmp 60) (p := .agg (tab 64 fun i => bv (px M hh l i))) (v := .slice (some ⟨y4.heap.size, 0, none⟩) 1 1) (w' := y4.alloc (.cells (tab 64 fun i => bv (px M hh l i)) 37)) ?_ ?_ ?_ HBD.out ?_); (· exact rfl); (· exact rfl); (· exact rfl))
        | (at_builtin; (with_reducible refine wpList_append_at (P := Tryd.prog) (w := y4.alloc (.cells (tab 64 fun i => bv (px M hh l i)) 37)) ?_ (.tmp 59) (.tmp 61) 30 ?_ B 37 i0 (pv zp) 64 64 undPa HI.out zcellsP H64.out V l (flp l (px M hh)) ?_ H5.out.1.row ⟨y4.heap.size, 0, none⟩ 1 1 (flp 1 fun _ => px M hh l) ?_ (flp_len _ _) H5.out.2.2 (flp_one _ _) HLB.out.1 HLB.out.2 H5.out.1.ob.2 ?_); (· exact rfl); (· exact rfl); (· exact rfl); (· exact rfl); intro V7 w7 hown7 hgr7 hat7))
      have H7 : Hid (Wy w T s kb fb M (askN A hh (l + 1)) q8 q11 B (l + 1) (hh l) (px M hh) V7 T2 w7.drew ∧ IsTab w7.drew q14 37 64 (fun i => bv (px M hh l i))) := Lib.hid ⟨(H5.out.1.grown hown7 hgr7 hat7).next (Below.refl _ _).drew, (hgr7.block q14 H5.out.2.1.lt (fun e => by have := H4.out.2.2 q14 e.symm; omega)).trans H5.out.2.1⟩
      clear H4 H5 hown7 hgr7 hat7 HLP HBD HBB HLB H64
      obtain ⟨d1, c, b, hf1, hf2, hf3, hb⟩ : ∃ d1 c b : Nat, IntKind.i64.wrap ((d : Int) - 1) = (d1 : Int) ∧ IntKind.i64.wrap ((d1 : Int) - (l : Int)) = (c : Int) ∧ Op.shift .shr .i64 (i : Int) .i64 (c : Int) = pure (.int .i64 (b : Int)) ∧ b = i / 2 ^ (d - 1 - l) := by
        have h1 := HDK.out
        have h2 := HLT.out
        refine ⟨d - 1, d - 1 - l, i / 2 ^ (d - 1 - l), by rw [IntWalk.i64_in _ (by omega)]; omega, by rw [IntWalk.i64_in _ (by omega)]; omega, ?_, rfl⟩
        rw [shift_shr_i64 (yk := .i64) (x := (i : Int)) (y := ((d - 1 - l : Nat) : Int)) (by omega) (by omega), Int.toNat_natCast, show ((2 : Int) ^ (d - 1 - l)) = ((2 ^ (d - 1 - l) : Nat) : Int) from (Int.natCast_pow 2 _).symm, ← Int.natCast_ediv]
      have HF := Lib.hid (And.intro hf1 (And.intro hf2 hf3))
      have HBE := Lib.hid hb
      clear hf1 hf2 hf3 hb
      refine wp_region_og (fun _ : World => True) (.take 0 (.take 1 (.take 2 (.take 3 (.take 4 (.take 5 (.take 6 (.one 7 (.one 8 .done))))))))) (by kernel_rfl) (by kernel_rfl) (trivial) ?_
      generalize w7.drew = w8 at *
      refine og_tk (some 63) (.slice (some ⟨q11, 0, none⟩) 32 32) rfl rfl (by go_simp) (fun y hy => by have h := slHA q11 y; simp [execOp, go_sem, h, Result.andThen]) ?_
      simp only [Act.put, pS]
      refine og_tk (some 64) (.int .i64 i) rfl rfl (by go_simp) (fun _ _ => by simp [execOp, go_sem]) ?_
      simp only [Act.put, pS]
      refine og_tk (some 65) (.int .i64 d) rfl rfl (by go_simp) (fun _ _ => by simp [execOp, go_sem]) ?_
      simp only [Act.put, pS]
      refine og_tk (some 66) (.int .i64 (d1 : Int)) rfl rfl (by go_simp) (fun y hy => by have h := HF.out.1; simp [execOp, go_sem, h]) ?_
      simp only [Act.put, pS]
      refine og_tk (some 67) (.int .i64 l) rfl rfl (by go_simp) (fun _ _ => by simp [execOp, go_sem]) ?_
      simp only [Act.put, pS]
      refine og_tk (some 68) (.int .i64 (c : Int)) rfl rfl (by go_simp) (fun y hy => by have h := HF.out.2.1; simp [execOp, go_sem, h]) ?_
      simp only [Act.put, pS]
      refine og_tk (some 69) (.int .i64 (b : Int)) rfl rfl (by go_simp) (fun y hy => by have h := HF.out.2.2; simp [execOp, go_sem, h]) ?_
      simp only [Act.put, pS]
      refine og_f rfl (by go_simp) fun K hK => ?_
      go_simp
      refine (side_any q14 b _).mono ?_
      rintro e y9 ⟨he, hw⟩
      obtain rfl : e = _ := he
      subst hw
      refine hK _ _ trivial ?_
      clear hK K
      try simp only [Act.put, pS]
      refine og_f rfl (by go_simp) fun K hK => ?_
      refine wp_copy_tab (.tmp 63) (.tmp 70) 127 127 rfl 5 und22 size8 q11 0 32 32 ⟨q14, 32 * (b % 2), none⟩ 32 (64 - 32 * (b % 2)) rfl rfl 39 32 (fun i => bv (hh l i)) H7.out.1.hc 32 rfl (fun j => bv (px M hh l (32 * (b % 2) + j))) (fun j hj => by rw [add_at]; exact H7.out.2.cell _ (by omega)) (by decide) (fun _ => rfl) ?_
      refine hK _ _ trivial ?_
      clear hK K
      try simp only [Act.put, pS]
      refine og_done (NoPanic.normal ?_)
      have H9 : Hid (Wy w T s kb fb M (askN A hh (l + 1)) q8 q11 B (l + 1) (hh (l + 1)) (px M hh) V7 T2 (w8.setRow q11 (tab 32 (splv (fun i => bv (hh l i)) 0 32 fun j => bv (px M hh l (32 * (b % 2) + j)))))) := Lib.hid (H7.out.1.step (h' := hh (l + 1)) fun x hx => by
        unfold splv
        rw [if_pos ⟨Nat.zero_le _, by omega⟩, Nat.sub_zero, HHH.out.1 l HLT.out x hx, ← HBE.out])
      clear H7
      generalize w8.setRow q11 (tab 32 (splv (fun i => bv (hh l i)) 0 32 fun j => bv (px M hh l (32 * (b % 2) + j)))) = w9 at *
      have hw1 : wrap64 ((l : Int) + 1) = ((l + 1 : Nat) : Int) := by have := HDK.out; have := HLT.out; unfold wrap64; omega
      go_wp2_with (fail)
      go_roundw
      case rel => exact ⟨l + 1, HLT.out, by go_num, Lib.hid ⟨T2, H9.out⟩⟩
      case measure => have := HDK.out; have := HLT.out; simp [intOf]; omega
    · obtain rfl : l = k := by omega
      by_cases hkd : l < d
      · have t1 : decide (l < d) = true := by simp; omega
        have hg := get_walk T1 s kb fb ⟨M, askN A hh l⟩ (hh l) wr HP.out.st (fun k hk => (HP.out.tt k hk).2.1) (by have h1 := askN_len A hh l; have h2 := HDK.out; show (askN A hh l).length < _; omega)
        rw [show has (⟨M, askN A hh l⟩ : Sto).pres (hh l) = false from (HHH.out.2.2.resolve_left (by omega)), show (look (⟨M, askN A hh l⟩ : Sto).pres (hh l)).getD zp = px M hh l from rfl, show missV false = .iface 62 (.int .i64 14) from rfl] at hg
        unfold dv pv at hg
        have HG := Lib.hid hg
        clear hg
        have HLH := Lib.hid (loadHb HP.out.hc)
        have HLT := Lib.hid hkd
        clear hkd
        go_upto_region 12 with (first
          | ((with_reducible refine wpList_loadE (P := Tryd.prog) (w := wr) (ty := 39) (x := .tmp 11) (p := .pointer (some ⟨q11, 0, none⟩)) (v := .agg (tab 32 fun i => bv (hh l i))) ?_ ?_ ?_ HLH.out ?_); (· exact rfl); (· exact rfl); (· exact rfl))
          | (go_at_call 19; (with_reducible refine HG.out.mono ?_); rintro e y3 ⟨he, hst, hkk⟩; obtain rfl : e = _ := he; have HP3 := Lib.hid (HP.out.got hst hkk); clear hst hkk HG)
          | ((with_reducible refine wpList_store_row (P := Tryd.prog) (w := y3.alloc (.cells zq 37)) ?_ 37 (.tmp 14) (.tmp 49) ?_ y3.heap.size (tab 64 fun i => bv (px M hh l i)) ?_ ?_ 37 zq (heap_alloc_last y3 _) (infPre _) ?_ (one_bv _ _) ?_); (· exact rfl); (· exact rfl); (· exact rfl); (· exact rfl); (· rw [← HZQ.out, tab_size, tab_size]); rw [World.setRow_alloc_new]; simp only [Act.put]))
        have H4 := Lib.hid (HP3.out.next (ba y3 (.cells (tab 64 fun i => bv (px M hh l i)) 37)))
        clear HP HP3 HLH t1
        generalize Grow T1 wr y3 = T2 at *
        generalize y3.alloc (.cells (tab 64 fun i => bv (px M hh l i)) 37) = y4 at *
        generalize y3.heap.size = q14 at *
        have H5 := Lib.hid (H4.out.next (ba y4 (.cells #[.int .i64 (l : Int), .iface 62 (.int .i64 14)] 159)))
        have HFC : Hid ((y4.alloc (.cells #[.int .i64 (l : Int), .iface 62 (.int .i64 14)] 159)).cell? ⟨y4.heap.size, 0, none⟩ = some (.int .i64 (l : Int)) ∧ (y4.alloc (.cells #[.int .i64 (l : Int), .iface 62 (.int .i64 14)] 159)).cell? ⟨y4.heap.size, 1, none⟩ = some (.iface 62 (.int .i64 14))) := Lib.hid ⟨by rw [World.cell?_alloc_at _ _ _ _ (by simp)]; rfl, by rw [World.cell?_alloc_at _ _ _ _ (by simp)]; rfl⟩
        go_wp2_with (first
          | ((with_reducible refine Wt.wpList_buildM (P := Tryd.prog) (w := y4) ?_ 39 ?_ (.agg zh) (HBH.out y4) ?_); (· exact rfl); (· exact rfl))
          | ((with_reducible refine wpList_store_row (P := Tryd.prog) (w := y4.alloc (.cells #[.int .i64 (l : Int), .iface 62 (.int .i64 14)] 159)) ?_ 39 (.tmp 8) (.tmp 53) ?_ q8 zh ?_ ?_ 39 (tab 32 fun _ => bv 0#8) ?_ HIH.out ?_ ?_ ?_); (· exact rfl); (· exact rfl); (· exact rfl); (· exact rfl); (· exact H5.out.rc); (· rw [← HZH.out]); (· rw [← HZH.out]; exact one_bv _ _)))
        rw [← HZH.out]
        generalize hy5 : y4.alloc (.cells #[.int .i64 (l : Int), .iface 62 (.int .i64 14)] 159) = y5 at *
        have hr : IsTab (y5.setRow q8 (tab 32 fun _ => bv 0#8)) q8 39 32 fun _ => bv 0#8 := H5.out.rc.row
        refine bodyPost_ret (results_cell_tmp2 rfl _ _ q8 39 _ (0, 0) _ rfl hr undH rfl (infH _) (.slice none 0 0) (.iface 156 (.pointer (some ⟨y4.heap.size, 0, none⟩))) rfl rfl) rfl ⟨fun _ => 0#8, .slice none 0 0, .iface 156 (.pointer (some ⟨y4.heap.size, 0, none⟩)), rfl, T2, ?_⟩
        have hk : Kept (fun k => k = q8) y5 (y5.setRow q8 (tab 32 fun _ => bv 0#8)) := ⟨by simp, by simp, by simp, by simp, fun k _ hk => setRow_other _ _ _ _ hk⟩
        have ho := H5.out.o8
        have hkl := H5.out.kl
        have hz4 := H4.out.rc.lt
        have hkz := H4.out.kp.size
        refine ⟨?_, fun j hj => ⟨(H5.out.tt j hj).1, by simpa using (H5.out.tt j hj).2.1⟩, H5.out.kp.trans hk fun k hlt e => by omega, fun e => absurd HLT.out (by omega), fun _ => ⟨rfl, rfl, y4.heap.size, rfl, ?_, ?_, fun h => ?_, hkz⟩⟩
        · rw [if_pos HLT.out]
          exact H5.out.st.kept hk (fun k hk e => (H5.out.tt k hk).2.2.1 e) (by omega) (by omega)
        · exact (keptC hk (by omega) HFC.out.1)
        · exact (keptC hk (by omega) HFC.out.2)
        · have := (H4.out.tt _ h).2.1; omega
      · obtain rfl : l = d := by have := HDK.out.2.1; omega
        clear hlt hkd
        have HLH := Lib.hid (loadHb HP.out.hc)
        go_wp2_with (first
          | ((with_reducible refine wpList_loadE (P := Tryd.prog) (w := wr) (ty := 39) (x := .tmp 11) (p := .pointer (some ⟨q11, 0, none⟩)) (v := .agg (tab 32 fun i => bv (hh l i))) ?_ ?_ ?_ HLH.out ?_); (· exact rfl); (· exact rfl); (· exact rfl))
          | ((with_reducible refine wpList_store_row (P := Tryd.prog) (w := wr) ?_ 39 (.tmp 8) (.tmp 73) ?_ q8 (tab 32 fun i => bv (hh l i)) ?_ ?_ 39 (tab 32 fun _ => bv 0#8) ?_ (infH _) ?_ (tab_one fun i => rfl) ?_); (· exact rfl); (· exact rfl); (· exact rfl); (· exact rfl); (· exact HP.out.rc); (· rw [tab_size, tab_size])))
        have hr : IsTab (wr.setRow q8 (tab 32 fun i => bv (hh l i))) q8 39 32 fun i => bv (hh l i) := HP.out.rc.row
        refine bodyPost_ret (results_cell_tmp2 rfl _ _ q8 39 _ (0, 0) _ rfl hr undH rfl (infH _) V .nilIface rfl rfl) rfl ⟨hh l, V, .nilIface, rfl, T1, ?_⟩
        have hk : Kept (fun k => k = q8) wr (wr.setRow q8 (tab 32 fun i => bv (hh l i))) := ⟨by simp, by simp, by simp, by simp, fun k _ hk => setRow_other _ _ _ _ hk⟩
        have ho := HP.out.o8
        have ho1 := HP.out.o11
        have hob := HP.out.ob
        have hkl := HP.out.kl
        refine ⟨?_, fun j hj => ⟨(HP.out.tt j hj).1, by simpa using (HP.out.tt j hj).2.1⟩, HP.out.kp.trans hk fun k hlt e => by omega, fun _ => ⟨rfl, rfl, ?_, HP.out.vt⟩, fun e => absurd e (by omega)⟩
        · rw [if_neg (by omega)]
          exact HP.out.st.kept hk (fun k hk e => (HP.out.tt k hk).2.2.1 e) (by omega) (by omega)
        · have := hk.row HP.out.row fun k e h => by have := owns_base HP.out.row e; omega
          exact row_base this (by omega)
set_option maxHeartbeats 1000000 in
set_option maxRecDepth 100000 in
/-- Read answers what the way answers, whatever that is. -/
theorem read_by2 (depth i : Int) (sp : Value) (h : Hx) (Z : World → Hx → Value → Prop) (w : World) (Rr : World → World → Hx → Value → Prop)
    (hC : ∀ y, Below w.heap.size w y → y.heap.size = w.heap.size + 2 → Calls Tryd.prog 55 #[sp, .int .i64 depth, dv h, .int .i64 i] y fun e w' => ∃ x V E, e = .returned (.tuple #[dv x, V, E]) ∧ Rr y w' x E)
    (hR : ∀ y z x E, Rr y z x E → y.heap.size ≤ z.heap.size ∧ z.heap[w.heap.size + 1]? = y.heap[w.heap.size + 1]?)
    (hZ : ∀ y z u x E, Below w.heap.size w y → y.heap.size = w.heap.size + 2 → Rr y z x E → Kept (fun k => k = w.heap.size + 1) z u → Z u x E) :
    Calls Tryd.prog 24 #[sp, .int .i64 depth, dv h, .int .i64 i] w fun e w' => ∃ x E, e = .returned (.tuple #[dv x, E]) ∧ Z w' x E := by
  have z1 := zeroHash
  generalize hz : (tab 32 fun _ => bv 0#8) = zh at *
  have HZ := Lib.hid hz
  have HA : Hid (IsTab ((w.alloc (.cells (tab 32 fun i => bv (h i)) 39)).alloc (.cells zh 39)) w.heap.size 39 32 (fun i => bv (h i)) ∧ IsTab ((w.alloc (.cells (tab 32 fun i => bv (h i)) 39)).alloc (.cells zh 39)) (w.heap.size + 1) 39 32 (fun _ => bv 0#8) ∧ Below w.heap.size w ((w.alloc (.cells (tab 32 fun i => bv (h i)) 39)).alloc (.cells zh 39)) ∧ ((w.alloc (.cells (tab 32 fun i => bv (h i)) 39)).alloc (.cells zh 39)).heap.size = w.heap.size + 2) := by
    refine Lib.hid ⟨(IsTab.new w _ 32 _).alloc _, ?_, ((Below.refl _ _).alloc (Nat.le_refl _) _).alloc (by simp) _, by simp⟩
    rw [← hz]
    have := IsTab.new (w.alloc (.cells (tab 32 fun i => bv (h i)) 39)) 39 32 fun _ => bv 0#8
    simpa using this
  clear hz
  have HI : Hid ((Tryd.prog.info? 39).map (·.size) = some zh.size) := Lib.hid (by rw [← HZ.out]; exact infH _)
  have HZZ := Lib.hid (And.intro hR hZ)
  have HCC := Lib.hid hC
  clear hR hZ hC
  unfold dv
  go_enter Tryd.func24, Tryd.ntmps24
  go_upto_region 1 with (fail)
  generalize ((w.alloc (.cells (tab 32 fun i => bv (h i)) 39)).alloc (.cells zh 39)) = y0 at *
  have hc := HCC.out y0 HA.out.2.2.1 HA.out.2.2.2
  unfold dv at hc
  have HC := Lib.hid hc
  have HLH := Lib.hid (loadHb HA.out.1)
  clear hc
  go_upto_region 2 with (first
    | ((with_reducible refine wpList_loadE (P := Tryd.prog) (w := y0) (ty := 39) (x := .tmp 6) (p := .pointer (some ⟨w.heap.size, 0, none⟩)) (v := .agg (tab 32 fun i => bv (h i))) ?_ ?_ ?_ HLH.out ?_); (· exact rfl); (· exact rfl); (· exact rfl))
    | (go_at_call 55; (with_reducible refine HC.out.mono ?_); rintro e y2 ⟨x, V, E, he, hst⟩; (try unfold dv at he); obtain rfl : e = _ := he; have HS2 := Lib.hid hst; clear hst)
    | ((with_reducible refine wpList_store_row (P := Tryd.prog) (w := y2.alloc (.cells zh 39)) ?_ 39 (.tmp 10) (.tmp 19) ?_ y2.heap.size (tab 32 fun i => bv (x i)) ?_ ?_ 39 zh (heap_alloc_last y2 _) (infH _) ?_ (one_bv _ _) ?_); (· exact rfl); (· exact rfl); (· exact rfl); (· exact rfl); (· rw [← HZ.out, tab_size, tab_size]); rw [World.setRow_alloc_new]; simp only [Act.put]))
  have H3 : Hid (IsTab (y2.alloc (.cells (tab 32 fun i => bv (x i)) 39)) y2.heap.size 39 32 (fun i => bv (x i)) ∧ IsTab (y2.alloc (.cells (tab 32 fun i => bv (x i)) 39)) (w.heap.size + 1) 39 32 (fun _ => bv 0#8) ∧ Kept (fun k => k = w.heap.size + 1) y2 (y2.alloc (.cells (tab 32 fun i => bv (x i)) 39))) := Lib.hid ⟨IsTab.new y2 _ 32 _, IsTab.alloc (show y2.heap[w.heap.size + 1]? = _ from (HZZ.out.1 _ _ _ _ HS2.out).2.trans HA.out.2.1) _, (Kept.refl _ _).alloc _⟩
  have HLX := Lib.hid (loadHb H3.out.1)
  generalize y2.alloc (.cells (tab 32 fun i => bv (x i)) 39) = y3 at *
  generalize hq : y2.heap.size = q2 at *
  go_wp2_with (first
    | ((with_reducible refine wpList_loadE (P := Tryd.prog) (w := y3) (ty := 39) (x := .tmp 10) (p := .pointer (some ⟨q2, 0, none⟩)) (v := .agg (tab 32 fun i => bv (x i))) ?_ ?_ ?_ HLX.out ?_); (· exact rfl); (· exact rfl); (· exact rfl))
    | ((with_reducible refine wpList_store_row (P := Tryd.prog) (w := y3) ?_ 39 (.tmp 8) (.tmp 22) ?_ (w.heap.size + 1) (tab 32 fun i => bv (x i)) ?_ ?_ 39 (tab 32 fun _ => bv 0#8) ?_ (infH _) ?_ (one_bv _ _) ?_); (· exact rfl); (· exact rfl); (· exact rfl); (· exact rfl); (· exact H3.out.2.1); (· rw [tab_size, tab_size])))
  have hr : IsTab (y3.setRow (w.heap.size + 1) (tab 32 fun i => bv (x i))) (w.heap.size + 1) 39 32 fun i => bv (x i) := H3.out.2.1.row
  have hk : Kept (fun k => k = w.heap.size + 1) y3 (y3.setRow (w.heap.size + 1) (tab 32 fun i => bv (x i))) := ⟨by simp, by simp, by simp, by simp, fun k _ hk => setRow_other _ _ _ _ hk⟩
  exact bodyPost_ret (Kc.results_cell_tmp rfl _ _ (w.heap.size + 1) 39 _ (0, 0) _ rfl hr undH rfl (infH _) E rfl) rfl ⟨x, E, rfl, HZZ.out.2 _ _ _ _ _ HA.out.2.2.1 HA.out.2.2.2 HS2.out (H3.out.2.2.trans hk fun _ _ h => h)⟩
/-- What Read leaves. -/
structure RdEnd (W : World) (T : Nat → Prop) (s kb fb : Nat) (M : List (Hx × Px)) (A : List Hx) (d k : Nat) (hh : Nat → Hx) (x : Hx) (E : Value) (T' : Nat → Prop) (y : World) : Prop where
  st : IsSt y T' s kb fb ⟨M, askN A hh (if k < d then k + 1 else d)⟩
  tt : ∀ j, T' j → (T j ∨ W.heap.size ≤ j) ∧ j < y.heap.size
  kp : Kept T W y
  hit : k = d → x = hh d ∧ E = .nilIface
  miss : k < d → x = (fun _ => 0#8) ∧ ∃ q, E = .iface 156 (.pointer (some ⟨q, 0, none⟩)) ∧ y.cell? ⟨q, 0, none⟩ = some (.int .i64 k) ∧ y.cell? ⟨q, 1, none⟩ = some (.iface 62 (.int .i64 14)) ∧ ¬ T' q ∧ W.heap.size ≤ q
theorem read_walk (T : Nat → Prop) (s kb fb : Nat) (M : List (Hx × Px)) (A : List Hx) (d i k : Nat) (hh : Nat → Hx) (w : World) (hs : IsSt w T s kb fb ⟨M, A⟩) (hT : ∀ j, T j → j < w.heap.size) (hn : A.length + 17 < 1073741824) (hd : d ≤ 16) (hi : i < 2 ^ d) (hk : k ≤ d)
    (hstep : ∀ j, j < k → ∀ x, x < 32 → hh (j + 1) x = px M hh j (32 * (i / 2 ^ (d - 1 - j) % 2) + x)) (hhas : ∀ j, j < k → has M (hh j) = true) (hend : k = d ∨ has M (hh k) = false) :
    Calls Tryd.prog 24 #[.pointer (some ⟨s, 0, none⟩), .int .i64 d, dv (hh 0), .int .i64 i] w fun e w' => ∃ x E, e = .returned (.tuple #[dv x, E]) ∧ ∃ T', RdEnd w T s kb fb M A d k hh x E T' w' := by
  refine read_by2 d i (.pointer (some ⟨s, 0, none⟩)) (hh 0) (fun u x E => ∃ T', RdEnd w T s kb fb M A d k hh x E T' u) w (fun y z x E => y.heap.size = w.heap.size + 2 ∧ ∃ V T', WyEnd y T s kb fb M A d k hh x V E T' z) (fun y hb hy => ?_) (fun y z x E hr => ?_) fun y z u x E hb hy hr hk4 => ?_
  · refine (way_walk T s kb fb M A d i k hh y (hs.below hb) (fun j hj => Nat.lt_of_lt_of_le (hT j hj) hb.size) hn hd hi hk hstep hhas hend).mono ?_
    rintro e w' ⟨x, V, E, he, T', h⟩
    exact ⟨x, V, E, he, hy, V, T', h⟩
  · obtain ⟨hy, V, T', h⟩ := hr
    exact ⟨h.kp.size, h.kp.block _ (by omega) fun e => by have := hT _ e; omega⟩
  · obtain ⟨_, V, T', h⟩ := hr
    have hl := hs.kin.lt
    have hz := h.kp.size
    have hn1 : ¬ T' (w.heap.size + 1) := fun e => by
      rcases (h.tt _ e).1 with e | e
      · have := hT _ e; omega
      · omega
    refine ⟨T', h.st.kept hk4 (fun j hj e => hn1 (e ▸ hj)) (by omega) (by omega), fun j hj => ⟨(h.tt j hj).1.imp id fun e => by omega, Nat.lt_of_lt_of_le (h.tt j hj).2 hk4.size⟩,
      ((Kept.ofBelow hb).trans h.kp fun _ _ h => h).trans hk4 fun j hlt e => by omega, fun e => ⟨(h.hit e).1, (h.hit e).2.1⟩, fun e => ?_⟩
    obtain ⟨h1, _, q, h3, h4, h5, h6, h7⟩ := h.miss e
    exact ⟨h1, q, h3, keptC hk4 (by omega) h4, keptC hk4 (by omega) h5, h6, by omega⟩
theorem lowB_le {w : World} (ht : Laid.KTab w) : lowB ≤ w.heap.size := by
  have := inHeap (ht 0 (by decide))
  unfold lowB
  omega
theorem zz_at (k b x : Nat) (hb : b < 2) (hx : x < 32) : zz k (32 * b + x) = zero k x := by
  unfold zz jn
  by_cases h : b = 0
  · subst h
    rw [if_pos (by omega), Nat.mul_zero, Nat.zero_add]
  · rw [if_neg (by omega)]
    congr 1
    omega
theorem px_zero (hh : Nat → Hx) (j k : Nat) (hk : k < 16) (h : hh j = zero (k + 1)) : px (zs 16) hh j = zz k := by
  unfold px
  rw [h, look_zs k hk]
  rfl
theorem buildNine (w : World) : (Instr.build 39 #[(0, .int .u8 9)]).run Tryd.prog w = .ok (.agg (tab 32 fun i => bv (nine i))) w := by kernel_rfl
theorem read9 (T : Nat → Prop) (s kb fb : Nat) (w : World) (hs : IsSt w T s kb fb nw) (hT : ∀ j, T j → j < w.heap.size) :
    Calls Tryd.prog 24 #[.pointer (some ⟨s, 0, none⟩), .int .i64 2, dv nine, .int .i64 0] w fun e w' => ∃ q T' A, e = .returned (.tuple #[dv fun _ => 0#8, .iface 156 (.pointer (some ⟨q, 0, none⟩))]) ∧ IsSt w' T' s kb fb ⟨zs 16, A⟩ ∧ A.length ≤ 17 ∧ (∀ j, T' j → (T j ∨ w.heap.size ≤ j) ∧ j < w'.heap.size) ∧ Kept T w w' ∧ w'.cell? ⟨q, 0, none⟩ = some (.int .i64 (0 : Nat)) ∧ w'.cell? ⟨q, 1, none⟩ = some (.iface 62 (.int .i64 14)) ∧ ¬ T' q := by
  refine Calls.mono (read_walk T s kb fb (zs 16) [] 2 0 0 (fun _ => nine) w hs hT (by decide) (by decide) (by decide) (by decide) (fun j hj => by omega) (fun j hj => by omega) (.inr nine_has)) ?_
  rintro e w' ⟨x, E, he, T', h⟩
  obtain ⟨rfl, q, rfl, h1, h2, h3, _⟩ := h.miss (by decide)
  refine ⟨q, T', _, he, h.st, ?_, h.tt, h.kp, h1, h2, h3⟩
  exact Nat.le_trans (askN_len [] (fun _ => nine) 1) (by decide)
theorem read3 (T : Nat → Prop) (s kb fb : Nat) (A : List Hx) (w : World) (hs : IsSt w T s kb fb ⟨zs 16, A⟩) (hT : ∀ j, T j → j < w.heap.size) (hA : A.length ≤ 17) :
    Calls Tryd.prog 24 #[.pointer (some ⟨s, 0, none⟩), .int .i64 3, dv (zero 3), .int .i64 5] w fun e w' => e = .returned (.tuple #[dv fun _ => 0#8, .nilIface]) ∧ ∃ T' : Nat → Prop, (∀ j, T' j → (T j ∨ w.heap.size ≤ j) ∧ j < w'.heap.size) ∧ Kept T w w' := by
  refine Calls.mono (read_walk T s kb fb (zs 16) A 3 5 3 (fun j => zero (3 - j)) w hs hT (by omega) (by decide) (by decide) (by decide) (fun j hj x hx => ?_) (fun j hj => ?_) (.inl rfl)) ?_
  · rw [px_zero _ j (2 - j) (by omega) (by show zero (3 - j) = _; congr 1; omega), zz_at _ _ _ (Nat.mod_lt _ (by decide)) hx]
    show zero (3 - (j + 1)) x = _
    rw [show 3 - (j + 1) = 2 - j from by omega]
  · show has (zs 16) (zero (3 - j)) = true
    rw [show 3 - j = (2 - j) + 1 from by omega]
    exact has_zs _ (by omega)
  · rintro e w' ⟨x, E, he, T', h⟩
    obtain ⟨rfl, rfl⟩ := h.hit rfl
    exact ⟨he, T', h.tt, h.kp⟩
theorem nw_pres : nw.pres = zs 16 := by simp only [nw]
theorem len_nw (T : Nat → Prop) (s kb fb : Nat) (w : World) (hs : IsSt w T s kb fb nw) : Calls Tryd.prog 29 #[.pointer (some ⟨s, 0, none⟩)] w fun e w' => e = .returned (.int .i64 16) ∧ w = w' := by
  have h := len_walk T s kb fb nw w hs
  rw [nw_pres, zs_len] at h
  exact h
set_option maxHeartbeats 4000000 in
set_option maxRecDepth 100000 in
theorem fixed06_walk (w : World) (hg : Et w) (ht : Laid.KTab w) : Calls Tryd.prog 15 #[] w fun e w' => e = .returned (.bool true) ∧ Below w.heap.size w w' := by
  have HT := Lib.hid (And.intro hg ht)
  have HN := Lib.hid (New_walk w ht (lowB_le ht))
  clear hg ht
  have z2 := zeroHash
  generalize hz : (tab 32 fun _ => bv 0#8) = zh at *
  have HZH := Lib.hid hz
  clear hz
  go_enter Tryd.func15, Tryd.ntmps15
  go_upto_region 2 with (go_at_call 13; (with_reducible refine HN.out.mono ?_); rintro e y1 ⟨s, T, kb, fb, he, hst, hb, hlo, hlt, hkt⟩; obtain rfl : e = _ := he; have HS := Lib.hid (And.intro hst (And.intro hb (And.intro hlo hlt))); have HK := Lib.hid hkt; clear hst hb hlo hlt hkt HN)
  have HL := Lib.hid (len_nw T s kb fb y1 HS.out.1)
  have hr := read9 T s kb fb y1 HS.out.1 HS.out.2.2.2
  unfold dv at hr
  have HR := Lib.hid hr
  clear hr
  have HB9 := Lib.hid (buildNine y1)
  go_upto_region 4 with (go_at_call 29; (with_reducible refine HL.out.mono ?_); rintro e y ⟨he, hw⟩; obtain rfl : e = _ := he; subst hw)
  go_upto_region 5 with (first
    | ((with_reducible refine wpList_buildE (P := Tryd.prog) (w := y1) ?_ 39 #[(0, .const (.int .u8 9))] ?_ #[(0, .int .u8 9)] ?_ (.agg (tab 32 fun i => bv (nine i))) HB9.out ?_); (· exact rfl); (· exact rfl); (· simp [go_sem]))
    | (go_at_call 24; (with_reducible refine HR.out.mono ?_); rintro e y2 ⟨q, T2, A, he, hst, hA, htt, hkp, h0, h1, hq⟩; (try unfold dv at he); obtain rfl : e = _ := he; have HS2 := Lib.hid (And.intro hst (And.intro hA (And.intro htt hkp))); have HQ := Lib.hid (And.intro h0 (And.intro h1 hq)); clear hst hA htt hkp h0 h1 hq HR)
    | ((with_reducible refine wpList_store_row (P := Tryd.prog) (w := y2.alloc (.cells zh 39)) ?_ 39 (.tmp 2) (.tmp 22) ?_ y2.heap.size (tab 32 fun _ => bv 0#8) ?_ ?_ 39 zh (heap_alloc_last y2 _) (infH _) ?_ (one_bv _ _) ?_); (· exact rfl); (· exact rfl); (· exact rfl); (· exact rfl); (· rw [← HZH.out] <;> rw [tab_size, tab_size]); rw [World.setRow_alloc_new]; simp only [Act.put]))
  have HB2 : Hid (Below w.heap.size w y2) := Lib.hid (below_of HS.out.2.1 HS2.out.2.2.2 fun j _ hj => HS.out.2.2.1 j (.inl hj))
  have HB3 := Lib.hid (bl HB2.out (ba y2 (.cells (tab 32 fun _ => bv 0#8) 39)))
  have HQ3 : Hid (y2.heap.size ≤ (y2.alloc (.cells (tab 32 fun _ => bv 0#8) 39)).heap.size ∧ IsSt (y2.alloc (.cells (tab 32 fun _ => bv 0#8) 39)) T2 s kb fb ⟨zs 16, A⟩ ∧ (y2.alloc (.cells (tab 32 fun _ => bv 0#8) 39)).cell? ⟨q, 0, none⟩ = some (.int .i64 (0 : Nat)) ∧ (y2.alloc (.cells (tab 32 fun _ => bv 0#8) 39)).cell? ⟨q, 1, none⟩ = some (.iface 62 (.int .i64 14))) := Lib.hid ⟨by simp, HS2.out.1.below (ba _ _), keep1 (ba _ _) HQ.out.1, keep1 (ba _ _) HQ.out.2.1⟩
  generalize y2.alloc (.cells (tab 32 fun _ => bv 0#8) 39) = y3 at *
  have HW := Lib.hid (why_flt y3 q 0 14 (HT.out.1.next HB3.out) HQ3.out.2.2.1 HQ3.out.2.2.2)
  go_upto_region 6 with (go_at_call 49; (with_reducible refine HW.out.mono ?_); rintro e y4 ⟨he, hb⟩; obtain rfl : e = _ := he; have H4 := Lib.hid hb; clear hb HW)
  have HB4 := Lib.hid (bl HB3.out H4.out)
  have hz3 := zero_ok 3 (by decide) y4 (ktab_below HT.out.2 HB4.out)
  rw [show ((3 : Nat) : Int) = 3 from rfl] at hz3
  unfold dv at hz3
  have HZ3 := Lib.hid hz3
  clear hz3
  go_upto_region 7 with (first
    | (go_at_call 31; (with_reducible refine HZ3.out.mono ?_); rintro e y5 ⟨he, hb⟩; (try unfold dv at he); obtain rfl : e = _ := he; have H5 := Lib.hid hb; clear hb HZ3)
    | ((with_reducible refine wpList_store_row (P := Tryd.prog) (w := y5.alloc (.cells zh 39)) ?_ 39 (.tmp 6) (.tmp 31) ?_ y5.heap.size (tab 32 fun i => bv (zero 3 i)) ?_ ?_ 39 zh (heap_alloc_last y5 _) (infH _) ?_ (one_bv _ _) ?_); (· exact rfl); (· exact rfl); (· exact rfl); (· exact rfl); (· rw [← HZH.out] <;> rw [tab_size, tab_size]); rw [World.setRow_alloc_new]; simp only [Act.put]))
  have H6 : Hid (Below y3.heap.size y3 (y5.alloc (.cells (tab 32 fun i => bv (zero 3 i)) 39)) ∧ IsTab (y5.alloc (.cells (tab 32 fun i => bv (zero 3 i)) 39)) y5.heap.size 39 32 (fun i => bv (zero 3 i))) := Lib.hid ⟨bl (bl H4.out H5.out) (ba _ _), IsTab.new y5 _ 32 _⟩
  generalize y5.alloc (.cells (tab 32 fun i => bv (zero 3 i)) 39) = y6 at *
  generalize y5.heap.size = q6 at *
  have HB6 := Lib.hid (bl HB3.out H6.out.1)
  have hr := read3 T2 s kb fb A y6 (HQ3.out.2.1.below H6.out.1) (fun j hj => by have h1 := (HS2.out.2.2.1 j hj).2; have h2 := HQ3.out.1; have h3 := H6.out.1.size; omega) HS2.out.2.1
  unfold dv at hr
  have HR := Lib.hid hr
  have HL6 := Lib.hid (loadHb H6.out.2)
  clear hr
  go_upto_region 8 with (first
    | ((with_reducible refine wpList_loadE (P := Tryd.prog) (w := y6) (ty := 39) (x := .tmp 6) (p := .pointer (some ⟨q6, 0, none⟩)) (v := .agg (tab 32 fun i => bv (zero 3 i))) ?_ ?_ ?_ HL6.out ?_); (· exact rfl); (· exact rfl); (· exact rfl))
    | (go_at_call 24; (with_reducible refine HR.out.mono ?_); rintro e y7 ⟨he, T3, htt, hkp⟩; obtain rfl : e = _ := he; have HS7 := Lib.hid (And.intro htt hkp); clear htt hkp HR)
    | ((with_reducible refine wpList_store_row (P := Tryd.prog) (w := y7.alloc (.cells zh 39)) ?_ 39 (.tmp 8) (.tmp 37) ?_ y7.heap.size (tab 32 fun _ => bv 0#8) ?_ ?_ 39 zh (heap_alloc_last y7 _) (infH _) ?_ (one_bv _ _) ?_); (· exact rfl); (· exact rfl); (· exact rfl); (· exact rfl); (· rw [← HZH.out] <;> rw [tab_size, tab_size]); rw [World.setRow_alloc_new]; simp only [Act.put]))
  have HB7 : Hid (Below w.heap.size w y7) := Lib.hid (below_of HB6.out HS7.out.2 fun j _ hj => by
    rcases (HS2.out.2.2.1 j hj).1 with h | h
    · exact HS.out.2.2.1 j (.inl h)
    · exact Nat.le_trans HS.out.2.1.size h)
  have H8 : Hid (Below w.heap.size w (y7.alloc (.cells (tab 32 fun _ => bv 0#8) 39)) ∧ IsTab (y7.alloc (.cells (tab 32 fun _ => bv 0#8) 39)) y7.heap.size 39 32 (fun _ => bv 0#8) ∧ (y7.alloc (.cells (tab 32 fun _ => bv 0#8) 39)).cell? ⟨q, 1, none⟩ = some (.iface 62 (.int .i64 14))) := Lib.hid ⟨bl HB7.out (ba _ _), IsTab.new y7 _ 32 _, keep1 (ba _ _) (keptC HS7.out.2 HQ.out.2.2 (keep1 H6.out.1 HQ3.out.2.2.2))⟩
  generalize y7.alloc (.cells (tab 32 fun _ => bv 0#8) 39) = y8 at *
  generalize y7.heap.size = q8 at *
  have HI : Hid (Calls Tryd.prog 30 #[.iface 156 (.pointer (some ⟨q, 0, none⟩)), .iface 62 (.int .i64 14)] y8 fun e w' => e = .returned (.bool true) ∧ y8 = w') := Lib.hid (Err.is_fault q 14 14 y8 H8.out.2.2)
  have hl8 := loadHb (x := fun _ => 0#8) H8.out.2.1
  have he9 : (Op.equalIn 10000 39 (.agg zh) (.agg zh)).run Tryd.prog y8 = .ok true y8 := by
    rw [← HZH.out]
    have h := run_equal_tab (P := Tryd.prog) y8 9998 39 5 32 .u8 (by kernel_rfl) undU8 sizeU8 (fun _ => Bv 0#8) (fun _ => Bv 0#8)
    rw [show ((List.range 32).all fun i => Bv 0#8 == Bv 0#8) = true from by simp] at h
    exact h
  rw [HZH.out] at hl8
  have hge : ∀ (x y : Operand) (u : World), (eqGuard .eql 39 x y (.agg zh) (.agg zh)).run Tryd.prog u = .ok () u := fun x y u => by rw [← HZH.out]; exact guardE x y (fun _ => 0#8) (fun _ => 0#8) u
  have HL8 := Lib.hid hl8
  clear hl8
  go_wp2_with (first
    | ((with_reducible refine wpList_loadG (P := Tryd.prog) (w := y8) (ty := 39) (x := .tmp 8) (p := .pointer (some ⟨q8, 0, none⟩)) (v := .agg zh) ?_ ?_ ?_ HL8.out ?_); rotate_left; (· exact rfl); (· exact rfl); rotate_left; (· go_simp))
    | (go_at_call 30; (with_reducible refine HI.out.mono ?_); rintro e y9 ⟨he, hw⟩; obtain rfl : e = _ := he; subst hw))
  exact bodyPost_ret (v := .bool true) (by simp [results, Tryd.results15, go_sem]) rfl ⟨rfl, H8.out.1⟩
end Wt
end Go.Proofs.YtdmffnjbholkkaaDoor
