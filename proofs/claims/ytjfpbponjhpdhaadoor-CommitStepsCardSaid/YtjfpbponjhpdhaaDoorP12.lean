/- Merged of Zk Ya Yb Yc Yd Ye. Own work. -/
import Derived.Test.YtjfpbponjhpdhaaDoorP11
import Derived.Test.YtjfpbponjhpdhaaDoorP06
import Derived.Test.YtjfpbponjhpdhaaDoorP01
import Derived.Laws.BitsAllLaws
import Derived.IntWalk
import Derived.BigQuiet
import Derived.Deep.QuietTactic
import Derived.Deep.Cut
import Derived.Lib.Hide
import Derived.Outline
import Derived.Deep.Slices
import Derived.Test.YtjfpbponjhpdhaaDoorP07
import Derived.Test.YtjfpbponjhpdhaaDoorP09
namespace Go.Proofs.YtjfpbponjhpdhaaDoor
open Go.RowKit
set_option linter.unusedVariables false
set_option linter.unusedSimpArgs false
namespace Wt
open Kc Mk
theorem ask_walk (T : Nat → Prop) (s kb fb : Nat) (S : Sto) (h : Hx) (w : World) (hs : IsSt w T s kb fb S) (hn : S.asked.length < 1073741824) :
    Calls Tryd.prog 97 #[.pointer (some ⟨s, 0, none⟩), dv h] w fun e w' => e = .returned (.tuple #[]) ∧ (IsSt w' (Grow T w w') s kb fb ⟨S.pres, askL S.asked h⟩ ∧ Kept T w w') := by
  obtain ⟨pb, av, sv, ho⟩ := hs.own
  have hl := hs.kin.lt
  by_cases ha : asks S.asked h = true
  · refine (ask_old T s kb S pb av sv h w ho ha).mono ?_
    rintro e w' ⟨he, hb⟩
    have e1 : askL S.asked h = S.asked := by unfold askL; rw [if_pos ha]
    rw [e1]
    exact ⟨he, (hs.below hb).grow hl.1 hl.2, Kept.ofBelow hb⟩
  · have ha' : asks S.asked h = false := by simpa using ha
    have e1 : askL S.asked h = S.asked ++ [h] := by unfold askL; rw [if_neg ha]
    rw [e1]
    have fin : ∀ {w' : World}, ((∃ av' sv', IsSto w' (Grow T w w') s kb ⟨S.pres, S.asked ++ [h]⟩ pb av' sv') ∧ Kept T w w') → (IsSt w' (Grow T w w') s kb fb ⟨S.pres, S.asked ++ [h]⟩ ∧ Kept T w w') := fun {w'} ⟨⟨av', sv', h1⟩, hk⟩ => by
      refine ⟨⟨⟨pb, av', sv', h1⟩, hs.kin.kept hk hs.n1 hs.n2, fun hh => hh.elim hs.n1 fun hh => by omega, fun hh => hh.elim hs.n2 fun hh => by omega, fun k hk => ?_⟩, hk⟩
      have hlk := hs.lo kb (.inr (.inl rfl))
      rcases hk with (hk | hk) | hk
      · exact hs.lo k (.inl hk)
      · omega
      · exact hs.lo k (.inr hk)
    cases sv with
    | none =>
      refine (ask_new0 T s kb S pb av h w ho ha' hn).mono ?_
      rintro e w' ⟨he, hh⟩
      exact ⟨he, fin hh⟩
    | some qb =>
      refine (ask_new1 T s kb S pb av qb h w ho ha' hn).mono ?_
      rintro e w' ⟨he, hh⟩
      exact ⟨he, fin hh⟩
def missV (b : Bool) : Value := if b then .nilIface else .iface 85 (.int .i64 14)
theorem get_fin {T : Nat → Prop} {s kb fb : Nat} {S0 S1 : Sto} {w y0 y2 y5 y6 : World} (hs : IsSt w T s kb fb S0) (hS : IsSt y2 (Grow T y0 y2) s kb fb S1) (hk2 : Kept T y0 y2) (hb0 : Below w.heap.size w y0) (hz : y0.heap.size = w.heap.size + 2) (hb5 : Below y2.heap.size y2 y5)
    (hk6 : Kept (fun k => k = w.heap.size + 1) y5 y6) (hT : ∀ k, T k → k < w.heap.size) : IsSt y6 (Grow T w y6) s kb fb S1 ∧ Kept T w y6 := by
  have hl := hs.kin.lt
  have h6 := (hS.below hb5).kept hk6 (fun k hk e => by
    rcases hk with hk | hk
    · have := hT k hk; omega
    · omega) (by omega) (by omega)
  have z2 := hk2.size
  have z5 := hb5.size
  have z6 := hk6.size
  obtain ⟨pb, av, sv, ho⟩ := h6.own
  refine ⟨⟨⟨pb, av, sv, ho.mono fun k hk => ?_⟩, h6.kin, fun hh => hh.elim hs.n1 fun hh => by omega, fun hh => hh.elim hs.n2 fun hh => by omega, fun k hk => ?_⟩, ?_⟩
  · rcases hk with hk | hk
    · exact .inl hk
    · exact .inr (by omega)
  · have hlk := hs.lo kb (.inr (.inl rfl))
    rcases hk with (hk | hk) | hk
    · exact hs.lo k (.inl hk)
    · omega
    · exact hs.lo k (.inr hk)
  · exact (((Kept.ofBelow hb0).trans hk2 fun _ _ h => h).trans (Kept.ofBelow hb5) fun _ _ h => h).trans hk6 fun k hk e => by omega
theorem buildZ (w : World) : (Instr.build 79 #[]).run Tryd.prog w = .ok (.agg (tab 64 fun _ => bv 0#8)) w := by kernel_rfl
set_option maxHeartbeats 4000000 in
set_option maxRecDepth 100000 in
theorem get_walk (T : Nat → Prop) (s kb fb : Nat) (S : Sto) (h : Hx) (w : World) (hs : IsSt w T s kb fb S) (hT : ∀ k, T k → k < w.heap.size) (hn : S.asked.length < 1073741824) :
    Calls Tryd.prog 93 #[.pointer (some ⟨s, 0, none⟩), dv h] w fun e w' => e = .returned (.tuple #[pv ((look S.pres h).getD zp), missV (has S.pres h)]) ∧ (IsSt w' (Grow T w w') s kb fb ⟨S.pres, askL S.asked h⟩ ∧ Kept T w w') := by
  have z1 := zeroPre
  generalize hz : (tab 64 fun _ => bv 0#8) = zq at *
  have HZ := Lib.hid hz
  have HA : Hid (IsTab ((w.alloc (.cells (tab 32 fun i => bv (h i)) 42)).alloc (.cells zq 79)) w.heap.size 42 32 (fun i => bv (h i)) ∧ IsTab ((w.alloc (.cells (tab 32 fun i => bv (h i)) 42)).alloc (.cells zq 79)) (w.heap.size + 1) 79 64 (fun _ => bv 0#8) ∧ Below w.heap.size w ((w.alloc (.cells (tab 32 fun i => bv (h i)) 42)).alloc (.cells zq 79)) ∧ ((w.alloc (.cells (tab 32 fun i => bv (h i)) 42)).alloc (.cells zq 79)).heap.size = w.heap.size + 2) := by
    refine Lib.hid ⟨(IsTab.new w _ 32 _).alloc _, ?_, ((Below.refl _ _).alloc (Nat.le_refl _) _).alloc (by simp) _, by simp⟩
    rw [← hz]
    have := IsTab.new (w.alloc (.cells (tab 32 fun i => bv (h i)) 42)) 79 64 fun _ => bv 0#8
    simpa using this
  clear hz
  have HI : Hid ((Tryd.prog.info? 79).map (·.size) = some zq.size) := Lib.hid (by rw [← HZ.out]; exact infPre _)
  have HS := Lib.hid (hs.below HA.out.2.2.1)
  have HTT := Lib.hid (And.intro hT (And.intro hn hs))
  generalize hr : (look S.pres h).getD zp = r at *
  have HR := Lib.hid hr
  generalize hb : has S.pres h = b at *
  have HBB := Lib.hid hb
  clear hr hb hs hT hn
  unfold dv pv
  go_enter Tryd.func93, Tryd.ntmps93
  go_upto_region 1 with (fail)
  generalize ((w.alloc (.cells (tab 32 fun i => bv (h i)) 42)).alloc (.cells zq 79)) = y0 at *
  have hc := ask_walk T s kb fb S h y0 HS.out HTT.out.2.1
  unfold dv at hc
  have HC := Lib.hid hc
  have HLH := Lib.hid (loadHb HA.out.1)
  clear hc
  go_upto_region 4 with (first
    | ((with_reducible refine wpList_loadE (P := Tryd.prog) (w := y0) (ty := 42) (x := .tmp 3) (p := .pointer (some ⟨w.heap.size, 0, none⟩)) (v := .agg (tab 32 fun i => bv (h i))) ?_ ?_ ?_ HLH.out ?_); (· exact rfl); (· exact rfl); (· exact rfl))
    | (go_at_call 97; (with_reducible refine HC.out.mono ?_); rintro e y2 ⟨he, hst, hk⟩; obtain rfl : e = _ := he; have HS2 := Lib.hid hst; have HK2 := Lib.hid hk; clear hst hk))
  obtain ⟨pb, av, sv, ho⟩ := HS2.out.own
  have HO2 : Hid (IsSto y2.drew (Grow T y0 y2) s kb ⟨S.pres, askL S.asked h⟩ pb av sv) := Lib.hid (ho.kept (Wt.kept_drew y2) fun _ _ h => h)
  have H2 : Hid (IsTab y2.drew w.heap.size 42 32 (fun i => bv (h i)) ∧ IsTab y2.drew (w.heap.size + 1) 79 64 (fun _ => bv 0#8) ∧ Below y2.heap.size y2 y2.drew) := Lib.hid ⟨(Wt.IsTab.kept HA.out.1 HK2.out (fun e => by have := HTT.out.1 _ e; omega)).drew, (Wt.IsTab.kept HA.out.2.1 HK2.out (fun e => by have := HTT.out.1 _ e; omega)).drew, (Below.refl _ _).drew⟩
  have HB : Hid (∀ y, Below y2.drew.heap.size y2.drew y → (Instr.lookup 92 (.map (some pb)) (.agg (tab 32 fun i => bv (h i))) true).run Tryd.prog y = .ok (.tuple #[.agg (tab 64 fun i => bv (r i)), .bool b]) y) := Lib.hid fun y hy => HBB.out ▸ look_pv (HO2.out.pres.below hy) h r HR.out
  clear ho HC HLH
  refine wp_region_og (fun y : World => Below y2.drew.heap.size y2.drew y) (.take 0 (.take 1 (.take 2 (.take 3 (.take 4 (.take 5 (.take 6 (.take 7 (.take 8 (.one 9 (.one 10 (.one 11 .done)))))))))))) (by kernel_rfl) (by kernel_rfl) (Below.refl _ _) ?_
  have HYD : Hid (y2.drew.heap.size = y2.heap.size) := Lib.hid rfl
  generalize y2.drew = y3 at *
  refine og_tk (some 16) (.pointer (some ⟨s, 0, none⟩)) rfl rfl (by go_simp) (fun _ _ => by simp [execOp, go_sem]) ?_
  simp only [Act.put, pS]
  refine og_tk (some 17) (.pointer (some ⟨s, 0, none⟩)) rfl rfl (by go_simp) (fun _ _ => by simp [execOp, go_sem]) ?_
  simp only [Act.put, pS]
  refine og_tk (some 18) (.pointer (some ⟨s, 0, none⟩)) rfl rfl (by go_simp) (fun _ _ => by simp [execOp, go_sem]) ?_
  simp only [Act.put, pS]
  refine og_ld (some 19) 92 (.tmp 18) (.pointer (some ⟨s, 0, none⟩)) (.map (some pb)) rfl rfl (by go_simp) rfl rfl (fun y hy => by have h := keep1 hy HO2.out.box.k0; simp [Instr.loadAt, go_sem, h, Tryd.underlying92]) ?_
  simp only [Act.put, pS]
  refine og_ld (some 20) 42 (.tmp 3) (.pointer (some ⟨w.heap.size, 0, none⟩)) (.agg (tab 32 fun i => bv (h i))) rfl rfl (by go_simp) rfl rfl (fun y hy => loadHb (H2.out.1.below hy)) ?_
  simp only [Act.put, pS]
  refine og_tk (some 21) (.tuple #[.agg (tab 64 fun i => bv (r i)), .bool b]) rfl rfl (by go_simp) (fun y hy => by have h := HB.out y hy; simp [execOp, go_sem, h, Result.andThen]) ?_
  simp only [Act.put, pS]
  refine og_tk (some 15) (.tuple #[.agg (tab 64 fun i => bv (r i)), .bool b]) rfl rfl (by go_simp) (fun _ _ => by simp [execOp, go_sem]) ?_
  simp only [Act.put, pS]
  refine og_tk (some 22) (.agg (tab 64 fun i => bv (r i))) rfl rfl (by go_simp) (fun _ _ => by simp [execOp, go_sem]) ?_
  simp only [Act.put, pS]
  refine og_tk (some 23) (.bool b) rfl rfl (by go_simp) (fun _ _ => by simp [execOp, go_sem]) ?_
  simp only [Act.put, pS]
  have HN : Hid (Below y3.heap.size y3 (y3.alloc (.cells zq 79)) ∧ IsTab (y3.alloc (.cells zq 79)) y3.heap.size 79 64 (fun _ => bv 0#8)) := Lib.hid ⟨(Below.refl _ _).alloc (Nat.le_refl _) _, by rw [← HZ.out]; exact IsTab.new y3 _ 64 _⟩
  refine og_f rfl (by go_simp) fun K hK => ?_
  go_simp
  refine hK _ _ (HN.out.1) ?_
  clear hK K
  generalize y3.alloc (.cells zq 79) = y4 at *
  have HSR : Hid (Below y3.heap.size y3 (y4.setRow y3.heap.size (tab 64 fun i => bv (r i))) ∧ IsTab (y4.setRow y3.heap.size (tab 64 fun i => bv (r i))) y3.heap.size 79 64 (fun i => bv (r i))) := Lib.hid ⟨below_setRow HN.out.1 (Nat.le_refl _) _, HN.out.2.row⟩
  refine og_f rfl (by go_simp) fun K hK => ?_
  refine wp_store_row 79 (.tmp 6) (.tmp 22) rfl y3.heap.size (tab 64 fun i => bv (r i)) rfl rfl 79 _ HN.out.2 (infPre _) (by rw [tab_size, tab_size]) (one_bv _ _) ?_
  refine hK _ _ HSR.out.1 ?_
  clear hK K
  simp only [Act.put, pS]
  generalize y4.setRow y3.heap.size (tab 64 fun i => bv (r i)) = y5 at *
  refine og_f rfl (by go_simp) fun K hK => ?_
  go_simp
  refine hK _ _ (HSR.out.1) ?_
  clear hK K
  refine og_done (NoPanic.normal ?_)
  have H5 : Hid (IsTab y5 (w.heap.size + 1) 79 64 (fun _ => bv 0#8) ∧ IsTab y5 y3.heap.size 79 64 (fun i => bv (r i)) ∧ Below y2.heap.size y2 y5) := Lib.hid ⟨H2.out.2.1.below HSR.out.1, HSR.out.2, H2.out.2.2.trans (HYD.out ▸ HSR.out.1)⟩
  have HF : Hid (∀ xs, IsSt (y5.setRow (w.heap.size + 1) xs) (Grow T w (y5.setRow (w.heap.size + 1) xs)) s kb fb ⟨S.pres, askL S.asked h⟩ ∧ Kept T w (y5.setRow (w.heap.size + 1) xs)) := Lib.hid fun xs => get_fin HTT.out.2.2 HS2.out HK2.out HA.out.2.2.1 HA.out.2.2.2 H5.out.2.2 ⟨by simp, by simp, by simp, by simp, fun k _ hk => setRow_other _ _ _ _ hk⟩ HTT.out.1
  have HLR := Lib.hid (loadPb H5.out.2.1)
  have HBZ := Lib.hid (buildZ y5)
  clear HB H2 HO2 HN HSR HYD
  generalize y3.heap.size = q2 at *
  cases b
  · have hrz : r = zp := by
      rw [← HR.out]
      have : look S.pres h = none := by
        have := look_has S.pres h
        rw [HBB.out] at this
        simpa using this
      rw [this]; rfl
    subst hrz
    rw [HZ.out] at HBZ
    go_wp2_with (first
      | ((with_reducible refine Wt.wpList_buildM (P := Tryd.prog) (w := y5) ?_ 79 ?_ (.agg zq) HBZ.out ?_); (· exact rfl); (· exact rfl))
      | ((with_reducible refine wpList_store_row (P := Tryd.prog) (w := y5) ?_ 79 (.tmp 4) (.tmp 26) ?_ (w.heap.size + 1) zq ?_ ?_ 79 (tab 64 fun _ => bv 0#8) ?_ HI.out ?_ ?_ ?_); (· exact rfl); (· exact rfl); (· exact rfl); (· exact rfl); (· exact H5.out.1); (· rw [← HZ.out]); (· rw [← HZ.out]; exact one_bv _ _)))
    rw [← HZ.out]
    have hr : IsTab (y5.setRow (w.heap.size + 1) (tab 64 fun _ => bv 0#8)) (w.heap.size + 1) 79 64 fun i => bv (zp i) := H5.out.1.row
    exact bodyPost_ret (Kc.results_cell_tmp rfl _ _ (w.heap.size + 1) 79 _ (0, 0) _ rfl hr undPre rfl (infPre _) (missV false) rfl) rfl ⟨rfl, HF.out _⟩
  · skip
    go_wp2_with (first
      | ((with_reducible refine wpList_loadE (P := Tryd.prog) (w := y5) (ty := 79) (x := .tmp 6) (p := .pointer (some ⟨q2, 0, none⟩)) (v := .agg (tab 64 fun i => bv (r i))) ?_ ?_ ?_ HLR.out ?_); (· exact rfl); (· exact rfl); (· exact rfl))
      | ((with_reducible refine wpList_store_row (P := Tryd.prog) (w := y5) ?_ 79 (.tmp 4) (.tmp 28) ?_ (w.heap.size + 1) (tab 64 fun i => bv (r i)) ?_ ?_ 79 (tab 64 fun _ => bv 0#8) ?_ (infPre _) ?_ (one_bv _ _) ?_); (· exact rfl); (· exact rfl); (· exact rfl); (· exact rfl); (· exact H5.out.1); (· rw [tab_size, tab_size])))
    have hr : IsTab (y5.setRow (w.heap.size + 1) (tab 64 fun i => bv (r i))) (w.heap.size + 1) 79 64 fun i => bv (r i) := H5.out.1.row
    exact bodyPost_ret (Kc.results_cell_tmp rfl _ _ (w.heap.size + 1) 79 _ (0, 0) _ rfl hr undPre rfl (infPre _) (missV true) rfl) rfl ⟨rfl, HF.out _⟩
end Wt
end Go.Proofs.YtjfpbponjhpdhaaDoor
namespace Go.Proofs.YtjfpbponjhpdhaaDoor
open Go.RowKit
set_option linter.unusedVariables false
set_option linter.unusedSimpArgs false
namespace Vm
def pOp (x : Nat) : Nat := x / 2 ^ 56 % 256
def pN0 (x : Nat) : Nat := x / 2 ^ 32 % 256
def pD (x : Nat) : Nat := x / 2 ^ 52 % 16
def pA (x : Nat) : Nat := x / 2 ^ 48 % 16
def pB (x : Nat) : Nat := x / 2 ^ 44 % 16
def pC (x : Nat) : Nat := x / 2 ^ 40 % 16
/-- The number, as 32 bits with a sign. -/
def pN (x : Nat) : Int := ((x : Int) + 2147483648) % 4294967296 - 2147483648
def pOk (x : Nat) : Bool := decide (pOp x ≤ 35) && decide (pN0 x = 0)
/-- What Parts answers. -/
def partsV (x : Nat) : Value :=
  if pOk x = true then .tuple #[.int .i64 (pOp x), .int .i64 (pD x), .int .i64 (pA x), .int .i64 (pB x), .int .i64 (pC x), .int .i64 (pN x), .bool true]
  else .tuple #[.int .i64 0, .int .i64 0, .int .i64 0, .int .i64 0, .int .i64 0, .int .i64 0, .bool false]
theorem cut_walk (w : World) (q : Nat) (x : Nat) (k j : Nat) (hx : x < 18446744073709551616) (hk : k < 64) (hj : j ≤ 8) (k0 : w.cell? ⟨q, 0, none⟩ = some (.int .u64 x)) :
    Calls Tryd.prog 73 #[.int .u64 k, .int .u64 ((2 ^ j - 1 : Nat) : Int), .pointer (some ⟨q, 0, none⟩)] w fun e w' => e = .returned (.int .i64 ((x / 2 ^ k % 2 ^ j : Nat) : Int)) ∧ w = w' := by
  have hp : 2 ^ j ≤ 2 ^ 8 := Nat.pow_le_pow_right (by decide) hj
  have hpp : 0 < 2 ^ j := Nat.pow_pos (by decide)
  have hle : x / 2 ^ k ≤ x := Nat.div_le_self _ _
  have hb := u64_and_nat (x / 2 ^ k) (2 ^ j - 1) (by omega) (by omega)
  rw [Nat.and_two_pow_sub_one_eq_mod] at hb
  have hc : ((x / 2 ^ k : Nat) : Int) = (x : Int) / 2 ^ k := by rw [Int.natCast_ediv, Int.natCast_pow]; rfl
  have hw : wrap64 (((x / 2 ^ k % 2 ^ j : Nat)) : Int) = ((x / 2 ^ k % 2 ^ j : Nat) : Int) := by
    have := Nat.mod_lt (x / 2 ^ k) hpp
    generalize x / 2 ^ k % 2 ^ j = z at *
    unfold wrap64; omega
  rw [hc] at hb
  have HB := Lib.hid hb
  have HW := Lib.hid hw
  clear hb hw hc hle hpp hp
  generalize ((2 ^ j - 1 : Nat) : Int) = M at *
  generalize ((x / 2 ^ k % 2 ^ j : Nat) : Int) = R at *
  go_enter Tryd.func73, Tryd.ntmps73
  go_wp2_with (fail)
  rw [HB.out, HW.out]
  go_ret
  exact ⟨rfl, rfl⟩
theorem cut255 (w : World) (q x k : Nat) (hx : x < 18446744073709551616) (hk : k < 64) (k0 : w.cell? ⟨q, 0, none⟩ = some (.int .u64 x)) :
    Calls Tryd.prog 73 #[.int .u64 k, .int .u64 255, .pointer (some ⟨q, 0, none⟩)] w fun e w' => e = .returned (.int .i64 ((x / 2 ^ k % 256 : Nat) : Int)) ∧ w = w' := cut_walk w q x k 8 hx hk (by decide) k0
theorem cut15 (w : World) (q x k : Nat) (hx : x < 18446744073709551616) (hk : k < 64) (k0 : w.cell? ⟨q, 0, none⟩ = some (.int .u64 x)) :
    Calls Tryd.prog 73 #[.int .u64 k, .int .u64 15, .pointer (some ⟨q, 0, none⟩)] w fun e w' => e = .returned (.int .i64 ((x / 2 ^ k % 16 : Nat) : Int)) ∧ w = w' := cut_walk w q x k 4 hx hk (by decide) k0
theorem c56 (w : World) (q x : Nat) (hx : x < 18446744073709551616) (k0 : w.cell? ⟨q, 0, none⟩ = some (.int .u64 x)) :
    Calls Tryd.prog 73 #[.int .u64 56, .int .u64 255, .pointer (some ⟨q, 0, none⟩)] w fun e w' => e = .returned (.int .i64 (pOp x : Int)) ∧ w = w' := cut255 w q x 56 hx (by decide) k0
theorem c32 (w : World) (q x : Nat) (hx : x < 18446744073709551616) (k0 : w.cell? ⟨q, 0, none⟩ = some (.int .u64 x)) :
    Calls Tryd.prog 73 #[.int .u64 32, .int .u64 255, .pointer (some ⟨q, 0, none⟩)] w fun e w' => e = .returned (.int .i64 (pN0 x : Int)) ∧ w = w' := cut255 w q x 32 hx (by decide) k0
theorem c52 (w : World) (q x : Nat) (hx : x < 18446744073709551616) (k0 : w.cell? ⟨q, 0, none⟩ = some (.int .u64 x)) :
    Calls Tryd.prog 73 #[.int .u64 52, .int .u64 15, .pointer (some ⟨q, 0, none⟩)] w fun e w' => e = .returned (.int .i64 (pD x : Int)) ∧ w = w' := cut15 w q x 52 hx (by decide) k0
theorem c48 (w : World) (q x : Nat) (hx : x < 18446744073709551616) (k0 : w.cell? ⟨q, 0, none⟩ = some (.int .u64 x)) :
    Calls Tryd.prog 73 #[.int .u64 48, .int .u64 15, .pointer (some ⟨q, 0, none⟩)] w fun e w' => e = .returned (.int .i64 (pA x : Int)) ∧ w = w' := cut15 w q x 48 hx (by decide) k0
theorem c44 (w : World) (q x : Nat) (hx : x < 18446744073709551616) (k0 : w.cell? ⟨q, 0, none⟩ = some (.int .u64 x)) :
    Calls Tryd.prog 73 #[.int .u64 44, .int .u64 15, .pointer (some ⟨q, 0, none⟩)] w fun e w' => e = .returned (.int .i64 (pB x : Int)) ∧ w = w' := cut15 w q x 44 hx (by decide) k0
theorem c40 (w : World) (q x : Nat) (hx : x < 18446744073709551616) (k0 : w.cell? ⟨q, 0, none⟩ = some (.int .u64 x)) :
    Calls Tryd.prog 73 #[.int .u64 40, .int .u64 15, .pointer (some ⟨q, 0, none⟩)] w fun e w' => e = .returned (.int .i64 (pC x : Int)) ∧ w = w' := cut15 w q x 40 hx (by decide) k0
/-- A world in which the box holds the word. -/
structure Bx (W : World) (q x : Nat) (y : World) : Prop where
  cell : y.cell? ⟨q, 0, none⟩ = some (.int .u64 x)
  below : Below W.heap.size W y
set_option maxHeartbeats 1000000 in
set_option maxRecDepth 100000 in
theorem parts_walk (w : World) (x : Nat) (hx : x < 18446744073709551616) :
    Calls Tryd.prog 58 #[.int .u64 x] w fun e w' => e = .returned (partsV x) ∧ Below w.heap.size w w' := by
  have HB : Hid (Bx w w.heap.size x (w.alloc (.cells #[.int .u64 x] 33))) := Lib.hid ⟨by simp, (Below.refl _ _).alloc (Nat.le_refl _) _⟩
  have HX := Lib.hid hx
  clear hx
  have hv : Hid (partsV x = if pOk x = true then .tuple #[.int .i64 (pOp x), .int .i64 (pD x), .int .i64 (pA x), .int .i64 (pB x), .int .i64 (pC x), .int .i64 (pN x), .bool true]
    else .tuple #[.int .i64 0, .int .i64 0, .int .i64 0, .int .i64 0, .int .i64 0, .int .i64 0, .bool false]) := Lib.hid rfl
  have HP : Hid (pOk x = (decide (pOp x ≤ 35) && decide (pN0 x = 0))) := Lib.hid rfl
  have H56 := Lib.hid (fun z : Wd (Bx w w.heap.size x) => in_of_same z (Calls.mono (c56 z.val w.heap.size x HX.out z.ok.cell) fun e w' h => h))
  have H52 := Lib.hid (fun z : Wd (Bx w w.heap.size x) => in_of_same z (c52 z.val w.heap.size x HX.out z.ok.cell))
  have H48 := Lib.hid (fun z : Wd (Bx w w.heap.size x) => in_of_same z (c48 z.val w.heap.size x HX.out z.ok.cell))
  have H44 := Lib.hid (fun z : Wd (Bx w w.heap.size x) => in_of_same z (c44 z.val w.heap.size x HX.out z.ok.cell))
  have H40 := Lib.hid (fun z : Wd (Bx w w.heap.size x) => in_of_same z (c40 z.val w.heap.size x HX.out z.ok.cell))
  have C56 := Lib.hid (c56 _ w.heap.size x HX.out HB.out.cell)
  have C32 := Lib.hid (c32 _ w.heap.size x HX.out HB.out.cell)
  have HN : Hid (wrap64 (wrap32 (x : Int)) = pN x) := Lib.hid (by unfold pN wrap64 wrap32; omega)
  go_enter Tryd.func58, Tryd.ntmps58
  go_upto_region 2 with (fail)
  generalize w.alloc (.cells #[.int .u64 x] 33) = y at *
  go_upto_region 3 with (go_at_call 73; (with_reducible refine C56.out.mono ?_); rintro e y1 ⟨he, hy⟩; obtain rfl : e = _ := he; subst hy)
  by_cases h1 : pOp x ≤ 35
  · by_cases h2 : pN0 x = 0
    · have t1 : decide (35 < (pOp x : Int)) = false := by simp; omega
      have t2 : ((pN0 x : Int) != 0) = false := by simp [h2]
      have HK : Hid (pOk x = true) := Lib.hid (by rw [HP.out]; simp [h1, h2])
      clear h1 h2
      go_upto_region 5 with (go_at_call 73; (with_reducible refine C32.out.mono ?_); rintro e y1 ⟨he, hy⟩; obtain rfl : e = _ := he; subst hy)
      have NE : Nonempty (Wd (Bx w w.heap.size x)) := ⟨⟨_, HB.out⟩⟩
      have k0 : ∀ z : Wd (Bx w w.heap.size x), z.val.cell? ⟨w.heap.size, 0, none⟩ = some (.int .u64 x) := fun z => z.ok.cell
      refine wp_region_in (Bx w w.heap.size x) (by kernel_rfl) (by kernel_rfl) ⟨HB.out.cell, HB.out.below.drew⟩ ?_
      repeat (go_big_quiet_step (first | with_reducible exact H52.out _ | with_reducible exact H48.out _ | with_reducible exact H44.out _ | with_reducible exact H40.out _))
      refine wpQuiet_nil ?_
      rintro y2 ⟨z, rfl⟩
      go_wp2_with (fail)
      rw [HN.out]
      refine bodyPost_ret (v := partsV x) ?_ rfl ⟨rfl, z.ok.below⟩
      rw [hv.out, if_pos HK.out]
      simp [results, Tryd.results58, go_sem]
    · have t1 : decide (35 < (pOp x : Int)) = false := by simp; omega
      have t2 : ((pN0 x : Int) != 0) = true := by simp; omega
      have HK : Hid (¬ pOk x = true) := Lib.hid (by rw [HP.out]; simp [h2])
      clear h1 h2
      go_wp2_with (go_at_call 73; (with_reducible refine C32.out.mono ?_); rintro e y1 ⟨he, hy⟩; obtain rfl : e = _ := he; subst hy)
      refine bodyPost_ret (v := partsV x) ?_ rfl ⟨rfl, HB.out.below⟩
      rw [hv.out, if_neg HK.out]
      simp [results, Tryd.results58, go_sem]
  · have t1 : decide (35 < (pOp x : Int)) = true := by simp; omega
    have HK : Hid (¬ pOk x = true) := Lib.hid (by rw [HP.out]; simp [h1])
    clear h1
    go_wp2_with (fail)
    refine bodyPost_ret (v := partsV x) ?_ rfl ⟨rfl, HB.out.below⟩
    rw [hv.out, if_neg HK.out]
    simp [results, Tryd.results58, go_sem]
end Vm
end Go.Proofs.YtjfpbponjhpdhaaDoor
namespace Go.Proofs.YtjfpbponjhpdhaaDoor
open Go.RowKit
set_option linter.unusedVariables false
set_option linter.unusedSimpArgs false
section
variable {P : Program}
end
namespace Vm
/-- Is a register one? -/
def gd (x : Int) : Prop := 0 ≤ x ∧ x ≤ 15
instance (x : Int) : Decidable (gd x) := by unfold gd; infer_instance
/-- Are these an instruction's parts? -/
def codeOk (op d a b c n : Int) : Prop := (0 ≤ op ∧ op ≤ 35 ∧ -2147483648 ≤ n ∧ n < 2147483648) ∧ gd d ∧ gd a ∧ gd b ∧ gd c
instance (op d a b c n : Int) : Decidable (codeOk op d a b c n) := by unfold codeOk; infer_instance
def codeW (op d a b c n : Int) : Int := op * 72057594037927936 + d * 4503599627370496 + a * 281474976710656 + b * 17592186044416 + c * 1099511627776 + n % 4294967296
def r4 (d a b c : Int) : Nat → Int
  | 0 => d
  | 1 => a
  | 2 => b
  | _ => c
end Vm
end Go.Proofs.YtjfpbponjhpdhaaDoor
namespace Go.Proofs.YtjfpbponjhpdhaaDoor
open Go.RowKit
set_option linter.unusedVariables false
set_option linter.unusedSimpArgs false
namespace Vm
def rAcc (op d a b c : Int) : Nat → Int
  | 0 => IntKind.u64.wrap op
  | k + 1 => IntKind.u64.wrap (IntKind.u64.wrap (rAcc op d a b c k * 16) + IntKind.u64.wrap (r4 d a b c k))
def codeR (op d a b c n : Int) : Value := if codeOk op d a b c n then .tuple #[.int .u64 (codeW op d a b c n), .int .i64 0] else .tuple #[.int .u64 0, .int .i64 2]
theorem and_low (n : Int) : bits .and .u64 (IntKind.u64.wrap n) 4294967295 = n % 4294967296 := by
  have e : IntKind.u64.wrap n = n % 18446744073709551616 := by simp [IntKind.wrap, IntKind.bits, IntKind.signed]
  rw [e]
  obtain ⟨m, hm⟩ := Int.eq_ofNat_of_zero_le (show 0 ≤ n % 18446744073709551616 by omega)
  have hb := u64_and_nat m (2 ^ 32 - 1) (by omega) (by omega)
  rw [Nat.and_two_pow_sub_one_eq_mod] at hb
  rw [hm]
  refine Eq.trans hb ?_
  omega
theorem rcode_word (op d a b c n : Int) (h : codeOk op d a b c n) : IntKind.u64.wrap (IntKind.u64.wrap (rAcc op d a b c 4 * 1099511627776) + n % 4294967296) = codeW op d a b c n := by
  unfold codeOk gd at h
  have u := fun z h => IntWalk.u64_in z h
  have e0 : rAcc op d a b c 0 = op := u _ (by omega)
  have e1 : rAcc op d a b c 1 = op * 16 + d := by
    unfold rAcc; rw [e0, u (op * 16) (by omega)]; rw [show r4 d a b c 0 = d from rfl, u d (by omega), u _ (by omega)]
  have e2 : rAcc op d a b c 2 = (op * 16 + d) * 16 + a := by
    unfold rAcc; rw [e1, u ((op * 16 + d) * 16) (by omega)]; rw [show r4 d a b c 1 = a from rfl, u a (by omega), u _ (by omega)]
  have e3 : rAcc op d a b c 3 = ((op * 16 + d) * 16 + a) * 16 + b := by
    unfold rAcc; rw [e2, u (((op * 16 + d) * 16 + a) * 16) (by omega)]; rw [show r4 d a b c 2 = b from rfl, u b (by omega), u _ (by omega)]
  have e4 : rAcc op d a b c 4 = (((op * 16 + d) * 16 + a) * 16 + b) * 16 + c := by
    unfold rAcc; rw [e3, u ((((op * 16 + d) * 16 + a) * 16 + b) * 16) (by omega)]; rw [show r4 d a b c 3 = c from rfl, u c (by omega), u _ (by omega)]
  rw [e4, u (((((op * 16 + d) * 16 + a) * 16 + b) * 16 + c) * 1099511627776) (by omega), u _ (by omega)]
  unfold codeW
  omega
structure Rw (W : World) (q : Nat) (d a b c : Int) (y : World) : Prop where
  k0 : y.cell? ⟨q, 0, none⟩ = some (.int .i64 d)
  k1 : y.cell? ⟨q, 1, none⟩ = some (.int .i64 a)
  k2 : y.cell? ⟨q, 2, none⟩ = some (.int .i64 b)
  k3 : y.cell? ⟨q, 3, none⟩ = some (.int .i64 c)
  below : Below W.heap.size W y
set_option maxHeartbeats 1000000 in
set_option maxRecDepth 100000 in
theorem rcode_walk (w : World) (op d a b c n : Int) :
    Calls Tryd.prog 31 #[.int .i64 op, .int .i64 d, .int .i64 a, .int .i64 b, .int .i64 c, .int .i64 n] w fun e w' => e = .returned (codeR op d a b c n) ∧ Below w.heap.size w w' := by
  have HV : Hid (codeR op d a b c n = if codeOk op d a b c n then .tuple #[.int .u64 (codeW op d a b c n), .int .i64 0] else .tuple #[.int .u64 0, .int .i64 2]) := Lib.hid rfl
  have HR : Hid (Rw w w.heap.size d a b c (w.alloc (.cells #[.int .i64 d, .int .i64 a, .int .i64 b, .int .i64 c] 3))) := Lib.hid ⟨by simp, by simp, by simp, by simp, (Below.refl _ _).alloc (Nat.le_refl _) _⟩
  go_enter Tryd.func31, Tryd.ntmps31
  go_upto_region 4 with (fail)
  generalize w.alloc (.cells #[.int .i64 d, .int .i64 a, .int .i64 b, .int .i64 c] 3) = y0 at *
  generalize w.heap.size = q at *
  go_loopw [16, 14] (fun t u y => ∃ k : Nat, k ≤ 4 ∧ t = .int .i64 k ∧ u = .int .u64 (rAcc op d a b c k) ∧ Hid ((∀ i, i < k → gd (r4 d a b c i)) ∧ y0 = y)) (fun t u _ => 4 - (intOf t).toNat)
  case atStart => exact ⟨0, by decide, rfl, rfl, Lib.hid ⟨fun i hi => by omega, rfl⟩⟩
  case round =>
    obtain ⟨k, hk, rfl, rfl, hp⟩ := hrel
    have HP := Lib.hid hp.out.1
    obtain rfl := hp.out.2
    clear hp
    by_cases h4 : k = 4
    · subst h4
      have hrg : gd d ∧ gd a ∧ gd b ∧ gd c := ⟨HP.out 0 (by decide), HP.out 1 (by decide), HP.out 2 (by decide), HP.out 3 (by decide)⟩
      have HG := Lib.hid hrg
      clear hrg hk
      by_cases h1 : 0 ≤ op ∧ op ≤ 35 ∧ -2147483648 ≤ n ∧ n < 2147483648
      · have t1 : decide (op < 0) = false := by simp; omega
        have t2 : decide (35 < op) = false := by simp; omega
        have t3 : decide (n < -2147483648) = false := by simp; omega
        have t4 : decide (2147483648 ≤ n) = false := by simp; omega
        have HE : Hid (codeOk op d a b c n) := Lib.hid ⟨h1, HG.out⟩
        have HC := Lib.hid (rcode_word op d a b c n HE.out)
        clear h1
        generalize rAcc op d a b c 4 = A at *
        go_wp2_with (fail)
        refine bodyPost_ret (v := codeR op d a b c n) ?_ rfl ⟨rfl, HR.out.below⟩
        rw [HV.out, if_pos HE.out, ← HC.out, ← and_low n]
        simp [results, Tryd.results31, go_sem]
      · have HNO : Hid (¬ codeOk op d a b c n) := Lib.hid (fun h => h1 h.1)
        have h5 : op < 0 ∨ (0 ≤ op ∧ 35 < op) ∨ (0 ≤ op ∧ op ≤ 35 ∧ n < -2147483648) ∨ (0 ≤ op ∧ op ≤ 35 ∧ -2147483648 ≤ n ∧ 2147483648 ≤ n) := by omega
        clear h1
        generalize rAcc op d a b c 4 = A at *
        rcases h5 with h5 | h5 | h5 | h5
        · skip
          have t0 : decide (op < 0) = true := by simp; omega
          clear h5
          go_wp2_with (fail)
          refine bodyPost_ret (v := codeR op d a b c n) ?_ rfl ⟨rfl, HR.out.below⟩
          rw [HV.out, if_neg HNO.out]
          simp [results, Tryd.results31, go_sem]
        · skip
          have t0 : decide (op < 0) = false := by simp; omega
          have t1 : decide (35 < op) = true := by simp; omega
          clear h5
          go_wp2_with (fail)
          refine bodyPost_ret (v := codeR op d a b c n) ?_ rfl ⟨rfl, HR.out.below⟩
          rw [HV.out, if_neg HNO.out]
          simp [results, Tryd.results31, go_sem]
        · skip
          have t0 : decide (op < 0) = false := by simp; omega
          have t1 : decide (35 < op) = false := by simp; omega
          have t2 : decide (n < -2147483648) = true := by simp; omega
          clear h5
          go_wp2_with (fail)
          refine bodyPost_ret (v := codeR op d a b c n) ?_ rfl ⟨rfl, HR.out.below⟩
          rw [HV.out, if_neg HNO.out]
          simp [results, Tryd.results31, go_sem]
        · skip
          have t0 : decide (op < 0) = false := by simp; omega
          have t1 : decide (35 < op) = false := by simp; omega
          have t2 : decide (n < -2147483648) = false := by simp; omega
          have t3 : decide (2147483648 ≤ n) = true := by simp; omega
          clear h5
          go_wp2_with (fail)
          refine bodyPost_ret (v := codeR op d a b c n) ?_ rfl ⟨rfl, HR.out.below⟩
          rw [HV.out, if_neg HNO.out]
          simp [results, Tryd.results31, go_sem]
    · have hk3 : k = 0 ∨ k = 1 ∨ k = 2 ∨ k = 3 := by omega
      clear h4 hk
      have k0 := HR.out.k0
      have k1 := HR.out.k1
      have k2 := HR.out.k2
      have k3 := HR.out.k3
      rcases hk3 with rfl | rfl | rfl | rfl
      · by_cases hg : gd d
        · have t5 : decide (d < 0) = false := by have := hg.1; simp; omega
          have t6 : decide (15 < d) = false := by have := hg.2; simp; omega
          have HG := Lib.hid hg
          clear hg
          have HA : Hid (rAcc op d a b c 1 = IntKind.u64.wrap (IntKind.u64.wrap (rAcc op d a b c 0 * 16) + IntKind.u64.wrap d)) := Lib.hid rfl
          generalize rAcc op d a b c 0 = A at *
          go_wp2_with (fail)
          go_roundw
          case rel => exact ⟨1, by decide, rfl, by rw [HA.out], Lib.hid ⟨fun i hi => by
            by_cases e : i = 0
            · subst e; exact HG.out
            · exact HP.out i (by omega), trivial⟩⟩
          case measure => simp [intOf]
        · have hno : ¬ codeOk op d a b c n := fun h => hg h.2.1
          have HNO := Lib.hid hno
          by_cases h0 : d < 0
          · have t5 : decide (d < 0) = true := by simpa using h0
            clear hg hno h0
            go_wp2_with (fail)
            refine bodyPost_ret (v := codeR op d a b c n) ?_ rfl ⟨rfl, HR.out.below⟩
            rw [HV.out, if_neg HNO.out]
            simp [results, Tryd.results31, go_sem]
          · have t5 : decide (d < 0) = false := by simpa using h0
            have t6 : decide (15 < d) = true := by simp; unfold gd at hg; omega
            clear hg hno h0
            go_wp2_with (fail)
            refine bodyPost_ret (v := codeR op d a b c n) ?_ rfl ⟨rfl, HR.out.below⟩
            rw [HV.out, if_neg HNO.out]
            simp [results, Tryd.results31, go_sem]
      · by_cases hg : gd a
        · have t5 : decide (a < 0) = false := by have := hg.1; simp; omega
          have t6 : decide (15 < a) = false := by have := hg.2; simp; omega
          have HG := Lib.hid hg
          clear hg
          have HA : Hid (rAcc op d a b c 2 = IntKind.u64.wrap (IntKind.u64.wrap (rAcc op d a b c 1 * 16) + IntKind.u64.wrap a)) := Lib.hid rfl
          generalize rAcc op d a b c 1 = A at *
          go_wp2_with (fail)
          go_roundw
          case rel => exact ⟨2, by decide, rfl, by rw [HA.out], Lib.hid ⟨fun i hi => by
            by_cases e : i = 1
            · subst e; exact HG.out
            · exact HP.out i (by omega), trivial⟩⟩
          case measure => simp [intOf]
        · have hno : ¬ codeOk op d a b c n := fun h => hg h.2.2.1
          have HNO := Lib.hid hno
          by_cases h0 : a < 0
          · have t5 : decide (a < 0) = true := by simpa using h0
            clear hg hno h0
            go_wp2_with (fail)
            refine bodyPost_ret (v := codeR op d a b c n) ?_ rfl ⟨rfl, HR.out.below⟩
            rw [HV.out, if_neg HNO.out]
            simp [results, Tryd.results31, go_sem]
          · have t5 : decide (a < 0) = false := by simpa using h0
            have t6 : decide (15 < a) = true := by simp; unfold gd at hg; omega
            clear hg hno h0
            go_wp2_with (fail)
            refine bodyPost_ret (v := codeR op d a b c n) ?_ rfl ⟨rfl, HR.out.below⟩
            rw [HV.out, if_neg HNO.out]
            simp [results, Tryd.results31, go_sem]
      · by_cases hg : gd b
        · have t5 : decide (b < 0) = false := by have := hg.1; simp; omega
          have t6 : decide (15 < b) = false := by have := hg.2; simp; omega
          have HG := Lib.hid hg
          clear hg
          have HA : Hid (rAcc op d a b c 3 = IntKind.u64.wrap (IntKind.u64.wrap (rAcc op d a b c 2 * 16) + IntKind.u64.wrap b)) := Lib.hid rfl
          generalize rAcc op d a b c 2 = A at *
          go_wp2_with (fail)
          go_roundw
          case rel => exact ⟨3, by decide, rfl, by rw [HA.out], Lib.hid ⟨fun i hi => by
            by_cases e : i = 2
            · subst e; exact HG.out
            · exact HP.out i (by omega), trivial⟩⟩
          case measure => simp [intOf]
        · have hno : ¬ codeOk op d a b c n := fun h => hg h.2.2.2.1
          have HNO := Lib.hid hno
          by_cases h0 : b < 0
          · have t5 : decide (b < 0) = true := by simpa using h0
            clear hg hno h0
            go_wp2_with (fail)
            refine bodyPost_ret (v := codeR op d a b c n) ?_ rfl ⟨rfl, HR.out.below⟩
            rw [HV.out, if_neg HNO.out]
            simp [results, Tryd.results31, go_sem]
          · have t5 : decide (b < 0) = false := by simpa using h0
            have t6 : decide (15 < b) = true := by simp; unfold gd at hg; omega
            clear hg hno h0
            go_wp2_with (fail)
            refine bodyPost_ret (v := codeR op d a b c n) ?_ rfl ⟨rfl, HR.out.below⟩
            rw [HV.out, if_neg HNO.out]
            simp [results, Tryd.results31, go_sem]
      · by_cases hg : gd c
        · have t5 : decide (c < 0) = false := by have := hg.1; simp; omega
          have t6 : decide (15 < c) = false := by have := hg.2; simp; omega
          have HG := Lib.hid hg
          clear hg
          have HA : Hid (rAcc op d a b c 4 = IntKind.u64.wrap (IntKind.u64.wrap (rAcc op d a b c 3 * 16) + IntKind.u64.wrap c)) := Lib.hid rfl
          generalize rAcc op d a b c 3 = A at *
          go_wp2_with (fail)
          go_roundw
          case rel => exact ⟨4, by decide, rfl, by rw [HA.out], Lib.hid ⟨fun i hi => by
            by_cases e : i = 3
            · subst e; exact HG.out
            · exact HP.out i (by omega), trivial⟩⟩
          case measure => simp [intOf]
        · have hno : ¬ codeOk op d a b c n := fun h => hg h.2.2.2.2
          have HNO := Lib.hid hno
          by_cases h0 : c < 0
          · have t5 : decide (c < 0) = true := by simpa using h0
            clear hg hno h0
            go_wp2_with (fail)
            refine bodyPost_ret (v := codeR op d a b c n) ?_ rfl ⟨rfl, HR.out.below⟩
            rw [HV.out, if_neg HNO.out]
            simp [results, Tryd.results31, go_sem]
          · have t5 : decide (c < 0) = false := by simpa using h0
            have t6 : decide (15 < c) = true := by simp; unfold gd at hg; omega
            clear hg hno h0
            go_wp2_with (fail)
            refine bodyPost_ret (v := codeR op d a b c n) ?_ rfl ⟨rfl, HR.out.below⟩
            rw [HV.out, if_neg HNO.out]
            simp [results, Tryd.results31, go_sem]
end Vm
end Go.Proofs.YtjfpbponjhpdhaaDoor
namespace Go.Proofs.YtjfpbponjhpdhaaDoor
open Go.RowKit
set_option linter.unusedVariables false
set_option linter.unusedSimpArgs false
namespace Vm
structure R5 (w : World) (q : Nat) (f : Nat → Int) : Prop where
  k0 : w.cell? ⟨q, 0, none⟩ = some (.int .i64 (f 0))
  k1 : w.cell? ⟨q, 1, none⟩ = some (.int .i64 (f 1))
  k2 : w.cell? ⟨q, 2, none⟩ = some (.int .i64 (f 2))
  k3 : w.cell? ⟨q, 3, none⟩ = some (.int .i64 (f 3))
  k4 : w.cell? ⟨q, 4, none⟩ = some (.int .i64 (f 4))
theorem R5.below {w w' : World} {q : Nat} {f : Nat → Int} (h : R5 w q f) (hb : Below w.heap.size w w') : R5 w' q f := ⟨keep1 hb h.k0, keep1 hb h.k1, keep1 hb h.k2, keep1 hb h.k3, keep1 hb h.k4⟩
theorem R5.new (w : World) (a b c d e : Int) (f : Nat → Int) (h0 : f 0 = a) (h1 : f 1 = b) (h2 : f 2 = c) (h3 : f 3 = d) (h4 : f 4 = e) :
    R5 (w.alloc (.cells #[.int .i64 a, .int .i64 b, .int .i64 c, .int .i64 d, .int .i64 e] 3)) w.heap.size f := ⟨by simp [h0], by simp [h1], by simp [h2], by simp [h3], by simp [h4]⟩
end Vm
end Go.Proofs.YtjfpbponjhpdhaaDoor
namespace Go.Proofs.YtjfpbponjhpdhaaDoor
open Go.RowKit
set_option linter.unusedVariables false
set_option linter.unusedSimpArgs false
namespace Vm
open Kc
section
variable {w w' : World} {b : Nat} {M M' : Mac}
end
def stopM (M : Mac) (x : Nat) : Mac := { M with halted := true, exit := x }
set_option maxHeartbeats 1000000 in
set_option maxRecDepth 100000 in
theorem stop_walk (w : World) (b x : Nat) (M : Mac) (h : IsMac w b M) :
    Calls Tryd.prog 57 #[.pointer (some ⟨b, 0, none⟩), .int .u64 x] w fun e w' => e = .returned (.tuple #[]) ∧ IsMac w' b (stopM M x) ∧ Kept (fun k => k = b) w w' := by
  have k1 := h.halted
  have f1 := h.fz 8209
  have k2 := (h.setHalted true).exit
  have f2 := (h.setHalted true).fz 8210
  have HH := Lib.hid ((h.setHalted true).setExit x)
  have HK : Hid (Kept (fun k => k = b) w ((w.setCell ⟨b, 8209, none⟩ (.bool true)).setCell ⟨b, 8210, none⟩ (.int .u64 (x : Int)))) := Lib.hid (kept_set (kept_set (Kept.refl (fun k => k = b) w) b _ rfl _) b _ rfl _)
  clear h
  go_enter Tryd.func57, Tryd.ntmps57
  go_wp2_with (fail)
  exact bodyPost_end (v := .tuple #[]) (by simp [results, Tryd.results57, go_sem]) rfl ⟨rfl, HH.out, HK.out⟩
end Vm
end Go.Proofs.YtjfpbponjhpdhaaDoor
