/-
  WitnessPlays: the walk. Written by genGe.py. Own work.
-/
import Derived.Test.YtdmffnjbholkkaaDoorGd
import Derived.Deep.DeepCutAuto
import Derived.Deep.CutBlock
namespace Go.Proofs.YtdmffnjbholkkaaDoor
open Go.RowKit
set_option linter.unusedVariables false
set_option linter.unusedSimpArgs false
namespace Wt
open Kc Mk
theorem Gm.box2 {W y y0 : World} {s t kb fb : Nat} {Ts Tt : Nat → Prop} {M N : List (Hx × Px)} {A B : List Hx} {met : Bool} {V : Value} {K : List Hx} {bx bx0 : List Bx} (H : Gm W s t kb fb Ts Tt M A N B met V K bx y) (q T n : Nat) (g : Nat → Value) (h : IsTab y q T n g) (H0 : Gm W s t kb fb Ts Tt M A N B met V K bx0 y0) (hq : y0.heap.size ≤ q) : Gm W s t kb fb Ts Tt M A N B met V K (⟨q, T, n, g⟩ :: bx) y :=
  ⟨H.st, H.ro, H.row, H.ts, H.tt, H.dj, H.k1, H.k2, H.vs, fun b hb => by
    rcases List.mem_cons.1 hb with rfl | hb
    · exact ⟨h, H0.fresh q hq⟩
    · exact H.bx b hb, H.below, H.kt, H.et, H.lo⟩
/-- A row of digests, as what is loaded from it. -/
theorem row_hh {w : World} {T n : Nat} {V : Value} {f : Nat → Hx} (h : w.ownsRow 0 T 32 V n (flat n f)) : ∃ a c, V = .slice a n c ∧ ∀ j, j < n → ∃ g, a = some ⟨g, 0, none⟩ ∧ ∀ y, Below w.heap.size w y → (Instr.loadAt 39 (.pointer (some ⟨g, 32 * j, none⟩))).run Tryd.prog y = .ok (.agg (tab 32 fun i => bv (f j i))) y := by
  rcases h.2 with ⟨rfl, e⟩ | ⟨g, cap, cur, rfl, hg, hc, hnc, hm, hs, ht⟩
  · have hn : n = 0 := by have := flat_len n f; rw [e] at this; simp at this; omega
    subst hn
    exact ⟨none, 0, rfl, fun j hj => by omega⟩
  · refine ⟨some ⟨g, 0, none⟩, cap, rfl, fun j hj => ⟨g, rfl, fun y hy => ?_⟩⟩
    have h5 : At5 w g 0 n f := fun k x hk hx => by
      have e1 : (cur.toList.take (n * 32))[32 * k + x]? = (flat n f)[32 * k + x]? := by rw [ht]
      rw [List.getElem?_take, if_pos (by omega), flat_at hk hx] at e1
      rw [Nat.zero_add, cell_of_row w g (32 * k + x) _ _ _ hc]
      simpa using e1
    exact loadH (h5.below hy) hj (by omega)
def p7 : Px := fun i => if i = 0 then 7#8 else 0#8
theorem buildP7 (w : World) : (Instr.build 37 #[(0, .int .u8 7)]).run Tryd.prog w = .ok (.agg (tab 64 fun i => bv (p7 i))) w := by kernel_rfl
theorem u64_mod' (d : Int) (m : Nat) (hm : 0 < m) : ∃ k : Nat, (IntKind.u64.wrap d).tmod (m : Int) = (k : Int) ∧ k < m := by
  have e : IntKind.u64.wrap d = d % 18446744073709551616 := IntKind.wrap_u64 d
  have h0 : 0 ≤ d % 18446744073709551616 := Int.emod_nonneg _ (by decide)
  have h1 := Int.emod_nonneg (d % 18446744073709551616) (show (m : Int) ≠ 0 by omega)
  have h2 := Int.emod_lt_of_pos (d % 18446744073709551616) (show (0 : Int) < m by omega)
  refine ⟨((IntKind.u64.wrap d).tmod m).toNat, ?_, ?_⟩
  · rw [e, Int.tmod_eq_emod_of_nonneg h0]; omega
  · rw [e, Int.tmod_eq_emod_of_nonneg h0]; omega
theorem exec_allocR (ev : Operand → Value) (o : Oper) (y : World) (ho : o.op = .alloc 28) : (execOp ev o).run Tryd.prog y = .ok (.value (.pointer (some ⟨y.heap.size, 0, none⟩))) (y.alloc (.cells (tab 32 fun _ => bv 0#8) 28)) := by
  unfold execOp
  rw [ho]
  simp [Instr.alloc, go_sem, zero26, Result.andThen]
  rfl
set_option maxHeartbeats 16000000 in
set_option maxRecDepth 100000 in
theorem plays_in (AP : Option Addr) (len cap : Nat) (w : World) (hlm : (len : Int) ≤ 9223372036854775807)
    (cells : ∀ i, i < len → ∃ c off k a b d v, AP = some ⟨c, off, none⟩ ∧ w.cell? ⟨c, off + i * 5, none⟩ = some (.int .i64 k) ∧ w.cell? ⟨c, off + i * 5 + 1, none⟩ = some (.int .i64 a) ∧ w.cell? ⟨c, off + i * 5 + 2, none⟩ = some (.int .i64 b) ∧ w.cell? ⟨c, off + i * 5 + 3, none⟩ = some (.int .i64 d) ∧ w.cell? ⟨c, off + i * 5 + 4, none⟩ = some (.int .i64 v))
    (hg : Et w) (ht : Laid.KTab w) :
    Calls Tryd.prog 3 #[.slice AP len cap] w fun e w' => e = .returned (.bool true) ∧ Below w.heap.size w w' := by
  have HC := Lib.hid cells
  have HG := Lib.hid (And.intro hg ht)
  clear cells hg ht
  have HW0 := Lib.hid (New_walk w HG.out.2 (lowB_le HG.out.2))
  go_enter Tryd.func3, Tryd.ntmps3
  go_upto_region 2 with (first
    | (go_at_call 13; (with_reducible refine HW0.out.mono ?_); rintro e y1 ⟨s, Ts, kb, fb, he, h1, h2, h3, h4, h5⟩; obtain rfl : e = _ := he; have HS := Lib.hid (And.intro h1 (And.intro h2 (And.intro h3 (And.intro h4 h5)))); have HR := Lib.hid (rnew_walk y1); clear h1 h2 h3 h4 h5 HW0)
    | (go_at_call 14; (with_reducible refine HR.out.mono ?_); rintro e y2 ⟨t, he, Tt, h1, h2, h3⟩; obtain rfl : e = _ := he; have HT := Lib.hid (And.intro h1 (And.intro h2 h3)); clear h1 h2 h3 HR))
  have HF := Lib.hid (fixed06_walk y2 (HG.out.1.next (bl HS.out.2.1 HT.out.2.2)) (ktab_below HG.out.2 (bl HS.out.2.1 HT.out.2.2)))
  go_upto_region 4 with (first
    | (go_at_call 15; (with_reducible refine HF.out.mono ?_); rintro e y3 ⟨he, hb⟩; obtain rfl : e = _ := he; have HB3 := Lib.hid hb; clear hb HF))
  refine wp_region_lit ?_
  refine wpList_buildE rfl 28 #[] rfl #[] (by simp) (.agg (tab 32 fun _ => bv 0#8)) (buildK0 y3) ?_
  simp only [Act.put, pS]
  refine wpList_buildE rfl 28 #[(0, .const (.int .u8 1))] rfl #[(0, .int .u8 1)] (by simp only [List.map_toArray, List.map_cons, List.map_nil]; rfl) (.agg (tab 32 fun i => bv (kn 1#8 i))) (buildK1 y3) ?_
  simp only [Act.put, pS]
  refine wpList_buildE rfl 28 #[(0, .const (.int .u8 2))] rfl #[(0, .int .u8 2)] (by simp only [List.map_toArray, List.map_cons, List.map_nil]; rfl) (.agg (tab 32 fun i => bv (kn 2#8 i))) (buildK2 y3) ?_
  simp only [Act.put, pS]
  refine wpList_buildE rfl 28 #[(0, .const (.int .u8 3))] rfl #[(0, .int .u8 3)] (by simp only [List.map_toArray, List.map_cons, List.map_nil]; rfl) (.agg (tab 32 fun i => bv (kn 3#8 i))) (buildK3 y3) ?_
  simp only [Act.put, pS]
  refine Wt.wpList_buildSl rfl 29 4 #[(0, .tmp 41), (1, .tmp 42), (2, .tmp 43), (3, .tmp 44)] rfl #[(0, .agg (tab 32 fun _ => bv 0#8)), (1, .agg (tab 32 fun i => bv (kn 1#8 i))), (2, .agg (tab 32 fun i => bv (kn 2#8 i))), (3, .agg (tab 32 fun i => bv (kn 3#8 i)))] (by simp only [List.map_toArray, List.map_cons, List.map_nil]; rfl) (.slice (some ⟨y3.heap.size, 0, none⟩) 4 4) (y3.alloc (.cells (fl K0).toArray 28)) (buildK4 y3) ?_
  simp only [Act.put, pS]
  go_upto_region 5 with (fail)
  have h0 := Gm.start HG.out.2 HG.out.1 HS.out.1 HS.out.2.1 HS.out.2.2.1 HS.out.2.2.2.1 HT.out.1 HT.out.2.1 HT.out.2.2 HB3.out
  obtain ⟨Z, hZ, hZl⟩ : ∃ Z, zs 16 = Z ∧ Z.length = 16 := ⟨_, rfl, zs_len⟩
  rw [hZ] at h0
  have H0 := Lib.hid h0
  clear h0 hZ HS HT HB3
  generalize y3.alloc (.cells (fl K0).toArray 28) = y4 at *
  generalize (Value.slice (some ⟨y3.heap.size, 0, none⟩) 4 4) = V4 at *
  obtain ⟨vh, vp, va, hro⟩ := H0.out.ro
  have hrow : y4.ownsRow 0 28 32 vh Z.length (flat Z.length (kf Z)) := hro.hrow
  have hvh := ownsRow_forms hrow
  rw [hZl] at hvh
  obtain ⟨g, cg, hv, _⟩ := hvh.resolve_left (fun h => by have := h.2; omega)
  subst hv
  have k0 := hro.box.k0
  have hsrc : Hid ((fl (Z.map (fun q => q.1))).length = 16 * 32 ∧ ∀ j u, (fl (Z.map (fun q => q.1)))[j]? = some u → y4.cell? ((⟨g, 0, none⟩ : Addr).add j) = some u) := by
    rw [← fl_keys]
    refine Lib.hid ⟨?_, ?_⟩
    · rw [hZl]; exact flat_len _ _
    · rw [hZl] at hrow ⊢
      exact hrow.cells (g := g) rfl
  obtain ⟨KZ, hKZ, hKl⟩ : ∃ l : List Hx, Z.map (fun q => q.1) = l ∧ l.length = 16 := ⟨_, rfl, by rw [List.length_map]; exact hZl⟩
  rw [hKZ] at hsrc
  have HONE : Hid (∀ u ∈ fl KZ, u.oneCell' = true) := Lib.hid (flat_one _ _)
  have HKL := Lib.hid hKl
  clear hKZ hKl
  have HZL := Lib.hid hZl
  clear hro hrow hvh hZl
  have HK0 : Hid (K0.length = 4) := Lib.hid rfl
  obtain ⟨i0, hi0⟩ := infRa
  have HI := Lib.hid hi0
  clear hi0
  have H32 : Hid (0 < 32 ∧ 4 + 16 ≤ maxLen ∧ (4 + 16) * 32 ≤ 140737488355328) := Lib.hid ⟨by decide, by unfold maxLen; omega, by decide⟩
  have HRW : Hid (y4.ownsRow w.heap.size 28 32 V4 4 (fl K0)) := Lib.hid H0.out.row
  go_upto_region 6 with (at_builtin; (with_reducible refine wpList_append_at (P := Tryd.prog) (w := y4) ?_ (.tmp 46) (.tmp 50) 29 ?_ w.heap.size 28 i0 (dv fun _ => 0#8) 32 32 undRa HI.out zcellsH H32.out.1 V4 4 (fl K0) ?_ HRW.out ⟨g, 0, none⟩ 16 cg (fl KZ) ?_ hsrc.out.1 hsrc.out.2 HONE.out H32.out.2.1 H32.out.2.2 H0.out.below.size ?_); (· exact rfl); (· exact rfl); (· exact rfl); (· exact rfl); intro V5 y5 hown5 hgr5 hat5)
  have H5 : Hid (Lq w t kb fb 0 1 (.pointer (some ⟨s, 0, none⟩)) V5 y5) := Lib.hid ⟨s, Ts, Tt, Z, [], Z, false, K0 ++ KZ, rfl, H0.out.grownL (by rw [HKL.out, HK0.out]; exact hown5) hgr5 hat5, Alike.refl _, by rw [HZL.out]; omega, by simp, by rw [List.length_append, HKL.out, HK0.out]; omega, by rw [List.length_append, HK0.out]; omega, by rw [HZL.out]; omega⟩
  clear H0 k0 hsrc H32 HRW hown5 hgr5 hat5
  go_wp2_with (fail)
  go_loopw [3, 5, 54] (fun sv kv i y => ∃ n : Nat, n ≤ len ∧ n ≤ 60 ∧ i = .int .i64 n ∧ Hid (Lq w t kb fb n 1 sv kv y)) (fun _ _ i _ => len - (intOf i).toNat)
  case atStart => exact ⟨0, Nat.zero_le _, Nat.zero_le _, rfl, H5⟩
  case round =>
    obtain ⟨n, hn, h60, rfl, hp⟩ := hrel
    obtain ⟨s, Ts, Tt, M, A, N, met, K, rfl, hG, hMN, hNl, hAl, hKl, hK0, hN0⟩ := hp.out
    have HGm := Lib.hid hG
    have HMN := Lib.hid hMN
    have HLL : Hid (N.length ≤ 16 + 17 * n ∧ A.length ≤ 17 * n ∧ K.length ≤ 20 + n ∧ 0 < K.length ∧ 0 < N.length ∧ n ≤ 60 ∧ n ≤ len) := Lib.hid ⟨hNl, hAl, hKl, hK0, hN0, h60, hn⟩
    clear hG hMN hNl hAl hKl hK0 hN0 hp H5
    by_cases hlt : (n : Int) < (len : Int)
    · obtain ⟨c, off, k, a, b, d, v, rfl, d0, d1, d2, d3, d4⟩ := HC.out n (by omega)
      have c0 := (HGm.out.below.cell (p := ⟨c, off + n * 5, none⟩) (inHeap d0)).trans d0
      have c1 := (HGm.out.below.cell (p := ⟨c, off + n * 5 + 1, none⟩) (inHeap d1)).trans d1
      have c2 := (HGm.out.below.cell (p := ⟨c, off + n * 5 + 2, none⟩) (inHeap d2)).trans d2
      have c3 := (HGm.out.below.cell (p := ⟨c, off + n * 5 + 3, none⟩) (inHeap d3)).trans d3
      have c4 := (HGm.out.below.cell (p := ⟨c, off + n * 5 + 4, none⟩) (inHeap d4)).trans d4
      clear d0 d1 d2 d3 d4
      have HLT : Hid (n < len) := Lib.hid (by omega)
      by_cases h9 : (60 : Int) ≤ (n : Int)
      · go_wp2_with fail
        go_ret
        exact ⟨rfl, bl HGm.out.below (ba _ _)⟩
      · go_upto_region 10 with (fail)
        have HN9 : Hid (n < 60) := Lib.hid (by omega)
        have HB0 : Hid (Gm w s t kb fb Ts Tt M A N A met u5 K [⟨wr.heap.size, 34, 5, (v5 (.int .i64 k) (.int .i64 a) (.int .i64 b) (.int .i64 d) (.int .i64 v))⟩] (wr.alloc (.cells #[.int .i64 k, .int .i64 a, .int .i64 b, .int .i64 d, .int .i64 v] 34))) := Lib.hid ((HGm.out.next (ba _ _)).box _ _ _ _ (box5 wr _ _ _ _ _ _) HGm.out (Nat.le_refl _))
        clear c0 c1 c2 c3 c4 HGm h9 hlt h60 hn
        generalize wr.alloc (.cells #[.int .i64 k, .int .i64 a, .int .i64 b, .int .i64 d, .int .i64 v] 34) = y0 at *
        generalize wr.heap.size = q7 at *
        have hrow : y0.drew.ownsRow 0 28 32 u5 K.length (flat K.length fun j => K.getD j fun _ => 0#8) := ownsRow_base HB0.out.drew.row (Nat.zero_le _)
        obtain ⟨ad, cK, hv, hld⟩ := row_hx hrow
        subst hv
        obtain ⟨m, hm⟩ : ∃ m, K.length = m := ⟨_, rfl⟩
        have hmb : 0 < m ∧ m < 100 := by have := HLL.out; omega
        have hwm : IntKind.u64.wrap (m : Int) = (m : Int) := IntWalk.u64_in _ (by omega)
        obtain ⟨ka, hka, hkab⟩ := u64_mod' a m (by omega)
        obtain ⟨kc, hkc, hkcb⟩ := u64_mod' b m (by omega)
        obtain ⟨ga, hga, hlda⟩ := hld ka (by omega)
        obtain ⟨gc, hgc, hldc⟩ := hld kc (by omega)
        rw [hm] at HB0 ⊢
        obtain rfl : gc = ga := by rw [hga] at hgc; cases hgc; rfl
        subst hga
        clear hgc hld hrow
        generalize K.getD ka (fun _ => 0#8) = ha at *
        generalize K.getD kc (fun _ => 0#8) = hb at *
        obtain ⟨oa, hoa⟩ : ∃ o, ka * 32 = o := ⟨_, rfl⟩
        obtain ⟨oc, hoc⟩ : ∃ o, kc * 32 = o := ⟨_, rfl⟩
        rw [show 32 * ka = oa from by omega] at hlda
        rw [show 32 * kc = oc from by omega] at hldc
        have HLA := Lib.hid hlda
        have HLC := Lib.hid hldc
        have HKA : Hid ((ka : Int) < m ∧ (0 : Int) ≤ ka ∧ ka < m ∧ ka * 32 = oa) := Lib.hid (by omega)
        have HKC : Hid ((kc : Int) < m ∧ (0 : Int) ≤ kc ∧ kc < m ∧ kc * 32 = oc) := Lib.hid (by omega)
        have HW : Hid (IntKind.u64.wrap (m : Int) = (m : Int) ∧ m ≠ 0 ∧ (IntKind.u64.wrap a).tmod m = (ka : Int) ∧ (IntKind.u64.wrap b).tmod m = (kc : Int) ∧ IntKind.u64.wrap (ka : Int) = (ka : Int) ∧ IntKind.u64.wrap (kc : Int) = (kc : Int) ∧ IntKind.i64.wrap (ka : Int) = (ka : Int) ∧ IntKind.i64.wrap (kc : Int) = (kc : Int)) := Lib.hid ⟨hwm, by omega, hka, hkc, IntWalk.u64_in _ (by omega), IntWalk.u64_in _ (by omega), IntWalk.i64_in _ (by omega), IntWalk.i64_in _ (by omega)⟩
        have HMK := Lib.hid hm
        clear hlda hldc hoa hoc hwm hka hkc hkab hkcb hmb hm
        have HBD := Lib.hid HB0.out.drew
        refine wp_region_og (fun z : World => Below y0.drew.heap.size y0.drew z) (.take 0 (.take 1 (.take 2 (.take 3 (.take 4 (.take 5 (.take 6 (.take 7 (.take 8 (.take 9 (.take 10 (.take 11 (.take 12 (.take 13 (.take 14 (.take 15 (.take 16 (.take 17 (.take 18 (.take 19 (.take 20 (.take 21 (.two 22 (.one 23 (.one 24 (.one 25 .done))) 23 (.one 22 (.one 24 (.one 25 .done)))))))))))))))))))))))))) (by kernel_rfl) (by kernel_rfl) (Below.refl _ _) ?_
        generalize y0.drew = y1 at *
        refine og_tk (some 61) (.slice (some ⟨gc, 0, none⟩) m cK) rfl rfl (by go_simp) (fun _ _ => by simp [execOp, go_sem]) ?_
        simp only [Act.put, pS]
        refine og_tk (some 62) (.pointer (some ⟨q7, 1, none⟩)) rfl rfl (by go_simp) (fun _ _ => by simp [execOp, go_sem]) ?_
        simp only [Act.put, pS]
        refine og_ld (some 63) 3 (.tmp 62) (.pointer (some ⟨q7, 1, none⟩)) (.int .i64 a) rfl rfl (by go_simp) rfl rfl (fun y hy => by have h := keep1 hy (show y1.cell? ⟨q7, 1, none⟩ = some (.int .i64 a) from (HBD.out.bx _ (List.mem_cons_self ..)).1.cell 1 (by decide : (1 : Nat) < 5)); simp [Instr.loadAt, go_sem, h, Tryd.underlying3]) ?_
        simp only [Act.put, pS]
        refine og_tk (some 64) (.int .u64 (IntKind.u64.wrap a)) rfl rfl (by go_simp) (fun _ _ => by simp [execOp, go_sem]) ?_
        simp only [Act.put, pS]
        refine og_tk (some 65) (.slice (some ⟨gc, 0, none⟩) m cK) rfl rfl (by go_simp) (fun _ _ => by simp [execOp, go_sem]) ?_
        simp only [Act.put, pS]
        refine og_tk (some 66) (.int .i64 m) rfl rfl (by go_simp) (fun _ _ => exec_len (.tmp 65) 29 _ m cK undRa rfl rfl) ?_
        simp only [Act.put, pS]
        refine og_tk (some 67) (.int .u64 m) rfl rfl (by go_simp) (fun _ _ => by have h := HW.out.1; simp [execOp, go_sem, h]) ?_
        simp only [Act.put, pS]
        refine og_tk (some 68) (.int .u64 ka) rfl rfl (by go_simp) (fun _ _ => by have h := HW.out; simp [execOp, go_sem, h, Result.andThen]) ?_
        simp only [Act.put, pS]
        refine og_tk (some 69) (.int .i64 ka) rfl rfl (by go_simp) (fun _ _ => by have h := HW.out; simp [execOp, go_sem, h, Result.andThen]) ?_
        simp only [Act.put, pS]
        refine og_tk (some 70) (.pointer (some ⟨gc, oa, none⟩)) rfl rfl (by go_simp) (fun y hy => by have h := HKA.out; simp [execOp, go_sem, h, Result.andThen, Tryd.underlying29]) ?_
        simp only [Act.put, pS]
        refine og_ld (some 71) 28 (.tmp 70) (.pointer (some ⟨gc, oa, none⟩)) (.agg (tab 32 fun i => bv (ha i))) rfl rfl (by go_simp) rfl rfl (fun y hy => HLA.out y hy) ?_
        simp only [Act.put, pS]
        refine og_tk (some 72) (.slice (some ⟨gc, 0, none⟩) m cK) rfl rfl (by go_simp) (fun _ _ => by simp [execOp, go_sem]) ?_
        simp only [Act.put, pS]
        refine og_tk (some 73) (.pointer (some ⟨q7, 2, none⟩)) rfl rfl (by go_simp) (fun _ _ => by simp [execOp, go_sem]) ?_
        simp only [Act.put, pS]
        refine og_ld (some 74) 3 (.tmp 73) (.pointer (some ⟨q7, 2, none⟩)) (.int .i64 b) rfl rfl (by go_simp) rfl rfl (fun y hy => by have h := keep1 hy (show y1.cell? ⟨q7, 2, none⟩ = some (.int .i64 b) from (HBD.out.bx _ (List.mem_cons_self ..)).1.cell 2 (by decide : (2 : Nat) < 5)); simp [Instr.loadAt, go_sem, h, Tryd.underlying3]) ?_
        simp only [Act.put, pS]
        refine og_tk (some 75) (.int .u64 (IntKind.u64.wrap b)) rfl rfl (by go_simp) (fun _ _ => by simp [execOp, go_sem]) ?_
        simp only [Act.put, pS]
        refine og_tk (some 76) (.slice (some ⟨gc, 0, none⟩) m cK) rfl rfl (by go_simp) (fun _ _ => by simp [execOp, go_sem]) ?_
        simp only [Act.put, pS]
        refine og_tk (some 77) (.int .i64 m) rfl rfl (by go_simp) (fun _ _ => exec_len (.tmp 76) 29 _ m cK undRa rfl rfl) ?_
        simp only [Act.put, pS]
        refine og_tk (some 78) (.int .u64 m) rfl rfl (by go_simp) (fun _ _ => by have h := HW.out.1; simp [execOp, go_sem, h]) ?_
        simp only [Act.put, pS]
        refine og_tk (some 79) (.int .u64 kc) rfl rfl (by go_simp) (fun _ _ => by have h := HW.out; simp [execOp, go_sem, h, Result.andThen]) ?_
        simp only [Act.put, pS]
        refine og_tk (some 80) (.int .i64 kc) rfl rfl (by go_simp) (fun _ _ => by have h := HW.out; simp [execOp, go_sem, h, Result.andThen]) ?_
        simp only [Act.put, pS]
        refine og_tk (some 81) (.pointer (some ⟨gc, oc, none⟩)) rfl rfl (by go_simp) (fun y hy => by have h := HKC.out; simp [execOp, go_sem, h, Result.andThen, Tryd.underlying29]) ?_
        simp only [Act.put, pS]
        refine og_ld (some 82) 28 (.tmp 81) (.pointer (some ⟨gc, oc, none⟩)) (.agg (tab 32 fun i => bv (hb i))) rfl rfl (by go_simp) rfl rfl (fun y hy => HLC.out y hy) ?_
        simp only [Act.put, pS]
        refine og_alloc2 (.cells (tab 32 fun _ => bv 0#8) 28) 8 9 (by decide) rfl rfl rfl rfl rfl rfl (fun ev y => exec_allocR ev _ y rfl) (fun ev y => exec_allocR ev _ y rfl) (ba _ _) (bl (ba _ _) (ba _ _)) ?_
        intro q8 q9 hq
        simp only [Act.put, pS]
        obtain ⟨r1, r2, rb, rq1, rq2, rn, rz1, rz2⟩ := two_rows y1 28 q8 q9 (fun _ => bv 0#8) (fun i => bv (ha i)) (fun i => bv (hb i)) hq _ rfl
        have HZ1 := Lib.hid rz1
        have HZ2 := Lib.hid rz2
        have HRR := Lib.hid (And.intro r1 (And.intro r2 (And.intro rb (And.intro rq1 (And.intro rq2 rn)))))
        have HBS : Hid (Below y1.heap.size y1 (((y1.alloc (.cells (tab 32 fun _ => bv 0#8) 28)).alloc (.cells (tab 32 fun _ => bv 0#8) 28)).setRow q8 (tab 32 fun i => bv (ha i)))) := Lib.hid (below_setRow (bl (ba _ _) (ba _ _)) rq1 _)
        clear r1 r2 rb rq1 rq2 rz1 rz2 hq
        generalize (y1.alloc (.cells (tab 32 fun _ => bv 0#8) 28)).alloc (.cells (tab 32 fun _ => bv 0#8) 28) = y2 at *
        refine og_f rfl (by go_simp) fun K' hK' => ?_
        refine wp_store_row 28 (.tmp 8) (.tmp 71) rfl q8 (tab 32 fun i => bv (ha i)) rfl rfl 28 (tab 32 fun _ => bv 0#8) HZ1.out (by rw [tab_size]; exact infR) (by simp only [tab_size]) (one_bv _ _) ?_
        refine hK' _ _ HBS.out ?_
        clear hK' K'
        simp only [Act.put, pS]
        refine og_f rfl (by go_simp) fun K' hK' => ?_
        refine wp_store_row 28 (.tmp 9) (.tmp 82) rfl q9 (tab 32 fun i => bv (hb i)) rfl rfl 28 (tab 32 fun _ => bv 0#8) HZ2.out (by rw [tab_size]; exact infR) (by simp only [tab_size]) (one_bv _ _) ?_
        refine hK' _ _ HRR.out.2.2.1 ?_
        clear hK' K'
        simp only [Act.put, List.getElem_toArray, List.getElem_cons_succ, List.getElem_cons_zero]
        refine og_done (NoPanic.normal ?_)
        have HB : Hid (Gm w s t kb fb Ts Tt M A N A met (.slice (some ⟨gc, 0, none⟩) m cK) K [⟨q9, 28, 32, fun i => bv (hb i)⟩, ⟨q8, 28, 32, fun i => bv (ha i)⟩, ⟨q7, 34, 5, (v5 (.int .i64 k) (.int .i64 a) (.int .i64 b) (.int .i64 d) (.int .i64 v))⟩] ((y2.setRow q8 (tab 32 fun i => bv (ha i))).setRow q9 (tab 32 fun i => bv (hb i)))) := Lib.hid (((HBD.out.next HRR.out.2.2.1).box _ _ _ _ HRR.out.1 HBD.out HRR.out.2.2.2.1).box2 _ _ _ _ HRR.out.2.1 HBD.out HRR.out.2.2.2.2.1)
        clear HBD HZ1 HZ2 HRR HBS HLA HLC HKA HKC HW rn HB0
        generalize (y2.setRow q8 (tab 32 fun i => bv (ha i))).setRow q9 (tab 32 fun i => bv (hb i)) = y3 at *
        have e0 : y3.cell? ⟨q7, 0, none⟩ = some (.int .i64 k) := (HB.out.bx _ (List.mem_cons_of_mem _ (List.mem_cons_of_mem _ (List.mem_cons_self ..)))).1.cell 0 (by decide : (0 : Nat) < 5)
        go_upto_block 2 with (fail)
        go_cut [3, 5] (fun sv kv z => Lq w t kb fb (n + 1) 0 sv kv z)
        case first =>
          by_cases k1 : k = 1
          · have b1 : (k == (1 : Int)) = true := by simp [k1]
            clear k1
            as_aux_lemma =>
              have z1 := zeroPre
              generalize hz : (tab 64 fun _ => bv 0#8) = zq at *
              have HZQ := Lib.hid hz
              clear hz
              have z2 := zero26
              have z3 := zeroHash
              generalize hz : (tab 32 fun _ => bv 0#8) = zh at *
              have HZH := Lib.hid hz
              clear hz
              have HL8 := Lib.hid (loadRb (HB.out.bx _ (List.mem_cons_of_mem _ (List.mem_cons_self ..))).1)
              have HL9 := Lib.hid (loadRb (HB.out.bx _ (List.mem_cons_self ..)).1)
              have HJ0 := joined_walk ha hb y3
              unfold dv pv at HJ0
              have HJ := Lib.hid HJ0
              clear HJ0
              go_upto_region 14 with (first
                | ((with_reducible refine wpList_loadE (P := Tryd.prog) (w := y3) (ty := 28) (x := .tmp 8) (p := .pointer (some ⟨q8, 0, none⟩)) (v := .agg (tab 32 fun i => bv (ha i))) ?_ ?_ ?_ HL8.out ?_); (· exact rfl); (· exact rfl); (· exact rfl))
                | ((with_reducible refine wpList_loadE (P := Tryd.prog) (w := y3) (ty := 28) (x := .tmp 9) (p := .pointer (some ⟨q9, 0, none⟩)) (v := .agg (tab 32 fun i => bv (hb i))) ?_ ?_ ?_ HL9.out ?_); (· exact rfl); (· exact rfl); (· exact rfl))
                | (go_at_call 16; (with_reducible refine HJ.out.mono ?_); rintro e y4 ⟨he, hb4⟩; obtain rfl : e = _ := he; have HB4 := Lib.hid (HB.out.next hb4); clear HJ hb4)
                | ((with_reducible refine wpList_store_row (P := Tryd.prog) (w := y4.alloc (.cells zq 37)) ?_ 37 (.tmp 10) (.tmp 89) ?_ y4.heap.size (tab 64 fun i => bv (jn ha hb i)) ?_ ?_ 37 zq (heap_alloc_last y4 _) (infPre _) ?_ (one_bv _ _) ?_); (· exact rfl); (· exact rfl); (· exact rfl); (· exact rfl); (· rw [← HZQ.out, tab_size, tab_size]); rw [World.setRow_alloc_new]; simp only [Act.put]))
              clear HB
              have HB5 := Lib.hid (HB4.out.alloc 37 64 (fun i => bv (jn ha hb i)))
              clear HB4
              generalize y4.alloc (.cells (tab 64 fun i => bv (jn ha hb i)) 37) = y5 at *
              generalize y4.heap.size = q10 at *
              generalize jn ha hb = p at *
              clear HL8 HL9 e0
              have HA0 := HB5.out.add p
              unfold dv pv at HA0
              have HA := Lib.hid HA0
              clear HA0
              have HL10 := Lib.hid (loadPb (HB5.out.bx _ (List.mem_cons_self ..)).1)
              go_upto_region 15 with (first
                | ((with_reducible refine wpList_loadE (P := Tryd.prog) (w := y5) (ty := 37) (x := .tmp 10) (p := .pointer (some ⟨q10, 0, none⟩)) (v := .agg (tab 64 fun i => bv (p i))) ?_ ?_ ?_ HL10.out ?_); (· exact rfl); (· exact rfl); (· exact rfl))
                | (go_at_call 17; (with_reducible refine HA.out.mono ?_); rintro e y6 ⟨he, h6, _⟩; obtain rfl : e = _ := he; have HB6 := Lib.hid h6; clear HA h6)
                | ((with_reducible refine wpList_store_row (P := Tryd.prog) (w := y6.alloc (.cells zh 39)) ?_ 39 (.tmp 11) (.tmp 94) ?_ y6.heap.size (tab 32 fun i => bv (hs p i)) ?_ ?_ 39 zh (heap_alloc_last y6 _) (infH _) ?_ (one_bv _ _) ?_); (· exact rfl); (· exact rfl); (· exact rfl); (· exact rfl); (· rw [← HZH.out, tab_size, tab_size]); rw [World.setRow_alloc_new]; simp only [Act.put]))
              clear HB5 HL10
              have HB7 := Lib.hid (HB6.out.alloc 39 32 (fun i => bv (hs p i)))
              clear HB6
              generalize y6.alloc (.cells (tab 32 fun i => bv (hs p i)) 39) = y7 at *
              generalize y6.heap.size = q11 at *
              have HA0 := HB7.out.radd p (by have := HLL.out; omega)
              unfold dv pv at HA0
              have HA := Lib.hid HA0
              clear HA0
              have HL10 := Lib.hid (loadPb (HB7.out.bx _ (List.mem_cons_of_mem _ (List.mem_cons_self ..))).1)
              go_upto_region 16 with (first
                | ((with_reducible refine wpList_loadE (P := Tryd.prog) (w := y7) (ty := 37) (x := .tmp 10) (p := .pointer (some ⟨q10, 0, none⟩)) (v := .agg (tab 64 fun i => bv (p i))) ?_ ?_ ?_ HL10.out ?_); (· exact rfl); (· exact rfl); (· exact rfl))
                | (go_at_call 18; (with_reducible refine HA.out.mono ?_); rintro e y8 ⟨he, Tt1, met1, h8⟩; obtain rfl : e = _ := he; have HB8 := Lib.hid h8; clear HA h8)
                | ((with_reducible refine wpList_store_row (P := Tryd.prog) (w := y8.alloc (.cells zh 28)) ?_ 28 (.tmp 13) (.tmp 98) ?_ y8.heap.size (tab 32 fun i => bv (hs p i)) ?_ ?_ 28 zh (heap_alloc_last y8 _) (by rw [tab_size]; exact infR) ?_ (one_bv _ _) ?_); (· exact rfl); (· exact rfl); (· exact rfl); (· exact rfl); (· rw [← HZH.out, tab_size, tab_size]); rw [World.setRow_alloc_new]; simp only [Act.put]))
              clear HB7 HL10
              have HB9 := Lib.hid (HB8.out.alloc 28 32 (fun i => bv (hs p i)))
              clear HB8
              generalize y8.alloc (.cells (tab 32 fun i => bv (hs p i)) 28) = y9a at *
              generalize y8.heap.size = q13 at *
              have HL11 := Lib.hid (loadHb (HB9.out.bx _ (List.mem_cons_of_mem _ (List.mem_cons_self ..))).1)
              have HL13 := Lib.hid (loadRb (HB9.out.bx _ (List.mem_cons_self ..)).1)
              have HMN2 := Lib.hid (HMN.out.put (p := p) (p' := p) rfl (hs p))
              have HPL := Lib.hid (putM_len N (hs p) p)
              generalize hs p = hp at *
              go_upto_region 18 with (first
                | ((with_reducible refine wpList_loadG (P := Tryd.prog) (w := y9a) (ty := 39) (x := .tmp 11) (p := .pointer (some ⟨q11, 0, none⟩)) (v := .agg (tab 32 fun i => bv (hp i))) ?_ ?_ ?_ HL11.out ?_); rotate_left; (· exact rfl); (· exact rfl); rotate_left; (· go_simp))
                | ((with_reducible refine wpList_loadG (P := Tryd.prog) (w := y9a) (ty := 28) (x := .tmp 13) (p := .pointer (some ⟨q13, 0, none⟩)) (v := .agg (tab 32 fun i => bv (hp i))) ?_ ?_ ?_ HL13.out ?_); rotate_left; (· exact rfl); (· exact rfl); rotate_left; (· go_simp))
                | ((with_reducible refine wpList_neqX (w := y9a) ?_ (.tmp 102) (.tmp 103) 39 hp ?_ ?_ ?_ ?_); rotate_left; (· exact rfl); (· exact rfl); (· exact rfl); rotate_left; (· go_simp)))
              have HBA := Lib.hid (buildRa (hp) y9a)
              have HAB := Lib.hid ((HB9).out.next (ba y9a (.cells (tab 32 fun i => bv (hp i)) 28)))
              have HSW := Lib.hid (src1w y9a (hp))
              have HAL : Hid (K.length + 1 ≤ maxLen ∧ (K.length + 1) * 32 ≤ 140737488355328 ∧ 0 < 32 ∧ w.heap.size ≤ (y9a.alloc (.cells (tab 32 fun i => bv (hp i)) 28)).heap.size) := Lib.hid ⟨by unfold maxLen; have := HLL.out; omega, by have := HLL.out; omega, by decide, HAB.out.below.size⟩
              rw [HMK.out] at HAL
              have hrw := HAB.out.row
              rw [HMK.out] at hrw
              have HRW := Lib.hid hrw
              clear hrw
              go_wp2_with (first
                | ((with_reducible refine wpList_loadE (P := Tryd.prog) (w := y9a) (ty := 28) (x := .tmp 13) (p := .pointer (some ⟨q13, 0, none⟩)) (v := .agg (tab 32 fun i => bv (hp i))) ?_ ?_ ?_ HL13.out ?_); (· exact rfl); (· exact rfl); (· exact rfl))
                | ((with_reducible refine wpList_build1 (P := Tryd.prog) (w := y9a) (t := 29) (x := .tmp 107) (p := .agg (tab 32 fun i => bv (hp i))) (v := .slice (some ⟨y9a.heap.size, 0, none⟩) 1 1) (w' := y9a.alloc (.cells (tab 32 fun i => bv (hp i)) 28)) ?_ ?_ ?_ HBA.out ?_); (· exact rfl); (· exact rfl); (· exact rfl))
                | (at_builtin; (with_reducible refine wpList_append_at (P := Tryd.prog) (w := y9a.alloc (.cells (tab 32 fun i => bv (hp i)) 28)) ?_ (.tmp 106) (.tmp 108) 29 ?_ w.heap.size 28 i0 (dv fun _ => 0#8) 32 32 undRa HI.out zcellsH HAL.out.2.2.1 (.slice (some ⟨gc, 0, none⟩) m cK) m (fl K) ?_ HRW.out ⟨y9a.heap.size, 0, none⟩ 1 1 (flat 1 fun _ => hp) ?_ (flat_len _ _) HSW.out (flat_one _ _) HAL.out.1 HAL.out.2.1 HAL.out.2.2.2 ?_); (· exact rfl); (· exact rfl); (· exact rfl); (· exact rfl); intro V9 y9 hown9 hgr9 hat9))
              go_meet
              case rel =>
                rw [← fl_one] at hown9
                exact ⟨s, Ts, Tt1, _, A, _, met1, K ++ [hp], rfl, ((HAB.out.sub (bx' := []) (fun b h => by cases h)).grownL (by rw [HMK.out]; exact hown9) hgr9 hat9), HMN2.out, by have := HPL.out; have := HLL.out; omega, by have := HLL.out; omega, by have := HLL.out; rw [List.length_append, List.length_singleton]; omega, by rw [List.length_append, List.length_singleton]; omega, Nat.zero_le _⟩
          · have b1 : (k == (1 : Int)) = false := by simp [k1]
            clear k1
            by_cases k2 : k = 2
            · have b2 : (k == (2 : Int)) = true := by simp [k2]
              clear k2
              as_aux_lemma =>
                have z1 := zeroPre
                generalize hz : (tab 64 fun _ => bv 0#8) = zq at *
                have HZQ := Lib.hid hz
                clear hz
                have HL8 := Lib.hid (loadRb (HB.out.bx _ (List.mem_cons_of_mem _ (List.mem_cons_self ..))).1)
                have hA := HB.out.get ha (by have := HLL.out; omega)
                have hR := fun (y : World) (Ts1 : Nat → Prop) (bs : List Bx) (h : Gm w s t kb fb Ts1 Tt M (askL A ha) N A met (.slice (some ⟨gc, 0, none⟩) m cK) K bs y) => h.rget ha (by have := HLL.out; omega) (by have := HLL.out; omega)
                rw [pv_alike HMN.out ha, HMN.out.has ha] at hA
                obtain ⟨p, hp⟩ : ∃ p, (look N ha).getD zp = p := ⟨_, rfl⟩
                obtain ⟨n3, hn3⟩ : ∃ n : Int, (if has N ha then (0 : Int) else 14) = n := ⟨_, rfl⟩
                have HTE : Hid (∀ u, Tells 0 (missV (has N ha)) n3 (-1) u) := Lib.hid fun u => by rw [← hn3]; exact tells_miss 0 (has N ha) u
                rw [hp] at hA hR
                rw [hn3] at hR
                generalize missV (has N ha) = E3 at *
                unfold dv pv at hA hR
                have HA := Lib.hid hA
                have HR := Lib.hid hR
                clear hA hR hp hn3 e0
                go_upto_region 21 with (first
                  | ((with_reducible refine wpList_loadE (P := Tryd.prog) (w := y3) (ty := 28) (x := .tmp 8) (p := .pointer (some ⟨q8, 0, none⟩)) (v := .agg (tab 32 fun i => bv (ha i))) ?_ ?_ ?_ HL8.out ?_); (· exact rfl); (· exact rfl); (· exact rfl))
                  | (go_at_call 19; (with_reducible refine HA.out.mono ?_); rintro e y4 ⟨he, Ts1, h4⟩; obtain rfl : e = _ := he; have HB4 := Lib.hid h4; clear HA h4)
                  | ((with_reducible refine wpList_store_row (P := Tryd.prog) (w := y4.alloc (.cells zq 37)) ?_ 37 (.tmp 14) (.tmp 116) ?_ y4.heap.size (tab 64 fun i => bv (p i)) ?_ ?_ 37 zq (heap_alloc_last y4 _) (infPre _) ?_ (one_bv _ _) ?_); (· exact rfl); (· exact rfl); (· exact rfl); (· exact rfl); (· rw [← HZQ.out, tab_size, tab_size]); rw [World.setRow_alloc_new]; simp only [Act.put]))
                clear HB HL8
                have HB5 := Lib.hid (HB4.out.alloc 37 64 (fun i => bv (p i)))
                clear HB4
                generalize y4.alloc (.cells (tab 64 fun i => bv (p i)) 37) = y5 at *
                generalize y4.heap.size = q14 at *
                have HL8 := Lib.hid (loadRb (HB5.out.bx _ (List.mem_cons_of_mem _ (List.mem_cons_of_mem _ (List.mem_cons_self ..)))).1)
                have HQ := Lib.hid (HR.out _ _ _ HB5.out)
                clear HR
                go_upto_region 22 with (first
                  | ((with_reducible refine wpList_loadE (P := Tryd.prog) (w := y5) (ty := 28) (x := .tmp 8) (p := .pointer (some ⟨q8, 0, none⟩)) (v := .agg (tab 32 fun i => bv (ha i))) ?_ ?_ ?_ HL8.out ?_); (· exact rfl); (· exact rfl); (· exact rfl))
                  | (go_at_call 20; (with_reducible refine HQ.out.mono ?_); rintro e y6 ⟨he, Tt1, h6⟩; obtain rfl : e = _ := he; have HB6 := Lib.hid h6; clear HQ h6)
                  | ((with_reducible refine wpList_store_row (P := Tryd.prog) (w := y6.alloc (.cells zq 37)) ?_ 37 (.tmp 16) (.tmp 122) ?_ y6.heap.size (tab 64 fun i => bv (p i)) ?_ ?_ 37 zq (heap_alloc_last y6 _) (infPre _) ?_ (one_bv _ _) ?_); (· exact rfl); (· exact rfl); (· exact rfl); (· exact rfl); (· rw [← HZQ.out, tab_size, tab_size]); rw [World.setRow_alloc_new]; simp only [Act.put]))
                clear HB5 HL8
                have HB7 := Lib.hid (HB6.out.alloc 37 64 (fun i => bv (p i)))
                clear HB6
                generalize y6.alloc (.cells (tab 64 fun i => bv (p i)) 37) = y7 at *
                generalize y6.heap.size = q16 at *
                have HL14 := Lib.hid (loadPb (HB7.out.bx _ (List.mem_cons_of_mem _ (List.mem_cons_self ..))).1)
                have HL16 := Lib.hid (loadPb (HB7.out.bx _ (List.mem_cons_self ..)).1)
                have HW := Lib.hid (wrong_tells 0 E3 n3 (-1) y7 (HTE.out y7) HB7.out.etab)
                go_wp2_with (first
                  | ((with_reducible refine wpList_loadE (P := Tryd.prog) (w := y7) (ty := 37) (x := .tmp 14) (p := .pointer (some ⟨q14, 0, none⟩)) (v := .agg (tab 64 fun i => bv (p i))) ?_ ?_ ?_ HL14.out ?_); (· exact rfl); (· exact rfl); (· exact rfl))
                  | ((with_reducible refine wpList_loadE (P := Tryd.prog) (w := y7) (ty := 37) (x := .tmp 16) (p := .pointer (some ⟨q16, 0, none⟩)) (v := .agg (tab 64 fun i => bv (p i))) ?_ ?_ ?_ HL16.out ?_); (· exact rfl); (· exact rfl); (· exact rfl))
                  | ((with_reducible refine wpList_neqP (w := y7) (.tmp 124) (.tmp 125) 37 p ?_ ?_ ?_ ?_ ?_); (· exact rfl); (· exact rfl); (· exact rfl); (· exact rfl))
                  | (go_at_call 21; (with_reducible refine HW.out.mono ?_); rintro e y8 ⟨he, hb8⟩; obtain rfl : e = _ := he; have HB8 := Lib.hid (HB7.out.next hb8); clear HW hb8))
                go_meet
                case rel =>
                  have hq := askL_len A ha
                  exact ⟨s, Ts1, Tt1, M, _, N, met, K, rfl, HB8.out.sub (bx' := []) (fun b h => by cases h), HMN.out, by have := HLL.out; omega, by have := HLL.out; omega, by have := HLL.out; omega, by have := HLL.out; omega, Nat.zero_le _⟩
            · have b2 : (k == (2 : Int)) = false := by simp [k2]
              clear k2
              by_cases k3 : k = 3
              · have b3 : (k == (3 : Int)) = true := by simp [k3]
                clear k3
                as_aux_lemma =>
                  go_upto_region 25 with (fail)
                  clear e0
                  have HBD := Lib.hid HB.out.drew
                  refine wp_region_og (fun z : World => IsTab z q8 28 32 (fun i => bv (ha i))) (.take 0 (.take 1 (.take 3 (.take 4 (.one 2 (.one 5 (.one 6 (.take 7 .done)))))))) (by kernel_rfl) (by kernel_rfl) ((HBD.out.bx _ (List.mem_cons_of_mem _ (List.mem_cons_self ..))).1) ?_
                  generalize y3.drew = y4 at *
                  have hA := HBD.out.drop ha
                  rw [HMN.out.has ha] at hA
                  have hR := fun (y : World) (bs : List Bx) (h : Gm w s t kb fb Ts Tt (dropM M ha) A N A met (.slice (some ⟨gc, 0, none⟩) m cK) K bs y) => h.rdrop ha (by have := HLL.out; omega)
                  obtain ⟨n3, hn3⟩ : ∃ n : Int, (if has N ha then (0 : Int) else 14) = n := ⟨_, rfl⟩
                  have HTE : Hid (∀ u, Tells 0 (missV (has N ha)) n3 (-1) u) := Lib.hid fun u => by rw [← hn3]; exact tells_miss 0 (has N ha) u
                  rw [hn3] at hR
                  generalize missV (has N ha) = E3 at *
                  unfold dv at hA hR
                  have HA := Lib.hid hA
                  have HR := Lib.hid hR
                  clear hA hR hn3
                  refine og_tk (some 135) (.pointer (some ⟨s, 0, none⟩)) rfl rfl (by go_simp) (fun _ _ => by simp [execOp, go_sem]) ?_
                  simp only [Act.put, pS]
                  refine og_ld (some 136) 28 (.tmp 8) (.pointer (some ⟨q8, 0, none⟩)) (.agg (tab 32 fun i => bv (ha i))) rfl rfl (by go_simp) rfl rfl (fun y hy => loadRb hy) ?_
                  simp only [Act.put, pS]
                  refine og_tk (some 138) (.pointer (some ⟨t, 0, none⟩)) rfl rfl (by go_simp) (fun _ _ => by simp [execOp, go_sem]) ?_
                  simp only [Act.put, pS]
                  refine og_ld (some 139) 28 (.tmp 8) (.pointer (some ⟨q8, 0, none⟩)) (.agg (tab 32 fun i => bv (ha i))) rfl rfl (by go_simp) rfl rfl (fun y hy => loadRb hy) ?_
                  simp only [Act.put, pS]
                  refine og_f rfl (by go_simp) fun K' hK' => ?_
                  go_simp
                  refine HA.out.mono ?_
                  rintro e y5 ⟨he, h5, _⟩
                  obtain rfl : e = _ := he
                  have HB5 := Lib.hid h5
                  have HQ := Lib.hid (HR.out _ _ h5)
                  refine hK' _ _ ((HB5.out.bx _ (List.mem_cons_of_mem _ (List.mem_cons_self ..))).1) ?_
                  clear hK' K' HA h5
                  try simp only [Act.put, pS]
                  refine og_f rfl (by go_simp) fun K' hK' => ?_
                  go_simp
                  refine HQ.out.mono ?_
                  rintro e y6 ⟨he, Tt1, h6⟩
                  obtain rfl : e = _ := he
                  have HB6 := Lib.hid h6
                  have HW := Lib.hid (wrong_tells 0 E3 n3 (-1) y6 (HTE.out y6) h6.etab)
                  refine hK' _ _ ((HB6.out.bx _ (List.mem_cons_of_mem _ (List.mem_cons_self ..))).1) ?_
                  clear hK' K' HQ h6
                  try simp only [Act.put, pS]
                  refine og_f rfl (by go_simp) fun K' hK' => ?_
                  go_simp
                  refine HW.out.mono ?_
                  rintro e y7 ⟨he, hb7⟩
                  obtain rfl : e = _ := he
                  have HB7 := Lib.hid (HB6.out.next hb7)
                  refine hK' _ _ ((HB7.out.bx _ (List.mem_cons_of_mem _ (List.mem_cons_self ..))).1) ?_
                  clear hK' K' HW hb7
                  try simp only [Act.put, pS]
                  refine og_tk (some 142) (.bool false) rfl rfl (by go_simp) (fun _ _ => by simp [execOp, go_sem]) ?_
                  simp only [Act.put, pS]
                  refine og_done (NoPanic.normal ?_)
                  go_wp2_with (fail)
                  go_meet
                  case rel =>
                    have hq := drop_len N ha
                    exact ⟨s, Ts, Tt1, _, A, _, met, K, rfl, HB7.out.sub (bx' := []) (fun b h => by cases h), HMN.out.drop ha, by have := HLL.out; omega, by have := HLL.out; omega, by have := HLL.out; omega, by have := HLL.out; omega, Nat.zero_le _⟩
              · have b3 : (k == (3 : Int)) = false := by simp [k3]
                clear k3
                by_cases k4 : k = 4
                · have b4 : (k == (4 : Int)) = true := by simp [k4]
                  clear k4
                  as_aux_lemma =>
                    have z2 := zero26
                    have z3 := zeroHash
                    generalize hz : (tab 32 fun _ => bv 0#8) = zh at *
                    have HZH := Lib.hid hz
                    clear hz
                    have HL8 := Lib.hid (loadRb (HB.out.bx _ (List.mem_cons_of_mem _ (List.mem_cons_self ..))).1)
                    have HL9 := Lib.hid (loadRb (HB.out.bx _ (List.mem_cons_self ..)).1)
                    have e3 : y3.cell? ⟨q7, 3, none⟩ = some (.int .i64 d) := ((HB.out.bx _ (List.mem_cons_of_mem _ (List.mem_cons_of_mem _ (List.mem_cons_self ..)))).1).cell 3 (by decide : (3 : Nat) < 5)
                    have e4 : y3.cell? ⟨q7, 4, none⟩ = some (.int .i64 v) := ((HB.out.bx _ (List.mem_cons_of_mem _ (List.mem_cons_of_mem _ (List.mem_cons_self ..)))).1).cell 4 (by decide : (4 : Nat) < 5)
                    obtain ⟨x, n3, p3, f, ho⟩ := out_any N d v ha
                    have HO := Lib.hid ho
                    have HOL := Lib.hid (out_len ho A)
                    have hA := HB.out.read HO.out HMN.out (by have := HLL.out; omega)
                    unfold dv at hA
                    have HA := Lib.hid hA
                    clear hA ho e0
                    have HTT := Lib.hid HB.out.ttl
                    go_upto_region 29 with (first
                      | ((with_reducible refine wpList_loadE (P := Tryd.prog) (w := y3) (ty := 28) (x := .tmp 8) (p := .pointer (some ⟨q8, 0, none⟩)) (v := .agg (tab 32 fun i => bv (ha i))) ?_ ?_ ?_ HL8.out ?_); (· exact rfl); (· exact rfl); (· exact rfl))
                      | (go_at_call 24; (with_reducible refine HA.out.mono ?_); rintro e y4 ⟨E3, he, htl, Ts1, h4⟩; obtain rfl : e = _ := he; have HB4 := Lib.hid h4; have HTL := Lib.hid htl; clear HA h4 htl)
                      | ((with_reducible refine wpList_store_row (P := Tryd.prog) (w := y4.alloc (.cells zh 39)) ?_ 39 (.tmp 18) (.tmp 153) ?_ y4.heap.size (tab 32 fun i => bv (x i)) ?_ ?_ 39 zh (heap_alloc_last y4 _) (infH _) ?_ (one_bv _ _) ?_); (· exact rfl); (· exact rfl); (· exact rfl); (· exact rfl); (· rw [← HZH.out, tab_size, tab_size]); rw [World.setRow_alloc_new]; simp only [Act.put]))
                    clear HB HL8 HL9 e3 e4
                    have HTL5 := Lib.hid (HTL.out.kept (Kept.ofBelow (S := fun _ => False) (ba y4 (.cells (tab 32 fun i => bv (x i)) 39))) (fun _ h => h.elim))
                    clear HTL
                    have HB5 := Lib.hid (HB4.out.alloc 39 32 (fun i => bv (x i)))
                    clear HB4
                    generalize y4.alloc (.cells (tab 32 fun i => bv (x i)) 39) = y5 at *
                    generalize y4.heap.size = q18 at *
                    have HL8 := Lib.hid (loadRb (HB5.out.bx _ (List.mem_cons_of_mem _ (List.mem_cons_of_mem _ (List.mem_cons_self ..)))).1)
                    have HL9 := Lib.hid (loadRb (HB5.out.bx _ (List.mem_cons_of_mem _ (List.mem_cons_self ..))).1)
                    have e3 : y5.cell? ⟨q7, 3, none⟩ = some (.int .i64 d) := ((HB5.out.bx _ (List.mem_cons_of_mem _ (List.mem_cons_of_mem _ (List.mem_cons_of_mem _ (List.mem_cons_self ..))))).1).cell 3 (by decide : (3 : Nat) < 5)
                    have e4 : y5.cell? ⟨q7, 4, none⟩ = some (.int .i64 v) := ((HB5.out.bx _ (List.mem_cons_of_mem _ (List.mem_cons_of_mem _ (List.mem_cons_of_mem _ (List.mem_cons_self ..))))).1).cell 4 (by decide : (4 : Nat) < 5)
                    have hA := HB5.out.rread hb HO.out (by have := HLL.out; omega) (by have := HLL.out; omega)
                    unfold dv at hA
                    have HA := Lib.hid hA
                    clear hA
                    go_upto_region 30 with (first
                      | ((with_reducible refine wpList_loadE (P := Tryd.prog) (w := y5) (ty := 28) (x := .tmp 8) (p := .pointer (some ⟨q8, 0, none⟩)) (v := .agg (tab 32 fun i => bv (ha i))) ?_ ?_ ?_ HL8.out ?_); (· exact rfl); (· exact rfl); (· exact rfl))
                      | ((with_reducible refine wpList_loadE (P := Tryd.prog) (w := y5) (ty := 28) (x := .tmp 9) (p := .pointer (some ⟨q9, 0, none⟩)) (v := .agg (tab 32 fun i => bv (hb i))) ?_ ?_ ?_ HL9.out ?_); (· exact rfl); (· exact rfl); (· exact rfl))
                      | (go_at_call 25; (with_reducible refine HA.out.mono ?_); rintro e y6 ⟨z, he, Tt1, h6, hk6⟩; obtain rfl : e = _ := he; have HB6 := Lib.hid h6; have HTL6 := Lib.hid (HTL5.out.kept hk6 HTT.out); have HTR := Lib.hid (two_rows y6 28 y6.heap.size (y6.heap.size + 1) (fun _ => bv 0#8) (fun i => bv (x i)) (fun i => bv (z i)) (.inl ⟨rfl, rfl⟩) _ rfl); have HTA : Hid (((y6.alloc (.cells zh 28)).alloc (.cells zh 28)).heap[y6.heap.size]? = some (.cells zh 28 (0, 0))) := Lib.hid (by rw [← HZH.out]; exact HTR.out.2.2.2.2.2.2.1); have HTB : Hid ((((y6.alloc (.cells zh 28)).alloc (.cells zh 28)).setRow y6.heap.size (tab 32 fun i => bv (x i))).heap[y6.heap.size + 1]? = some (.cells zh 28 (0, 0))) := Lib.hid (by rw [← HZH.out]; exact HTR.out.2.2.2.2.2.2.2); clear HA h6 hk6)
                      | ((with_reducible refine wpList_store_row (P := Tryd.prog) (w := ((y6.alloc (.cells zh 28)).alloc (.cells zh 28))) ?_ 28 (.tmp 20) (.tmp 164) ?_ y6.heap.size (tab 32 fun i => bv (x i)) ?_ ?_ 28 zh HTA.out (by rw [tab_size]; exact infR) ?_ (one_bv _ _) ?_); (· exact rfl); (· exact rfl); (· exact rfl); (· exact rfl); (· rw [← HZH.out, tab_size, tab_size]); simp only [Act.put])
                      | ((with_reducible refine wpList_store_row (P := Tryd.prog) (w := ((y6.alloc (.cells zh 28)).alloc (.cells zh 28)).setRow y6.heap.size (tab 32 fun i => bv (x i))) ?_ 28 (.tmp 21) (.tmp 165) ?_ (y6.heap.size + 1) (tab 32 fun i => bv (z i)) ?_ ?_ 28 zh HTB.out (by rw [tab_size]; exact infR) ?_ (one_bv _ _) ?_); (· exact rfl); (· exact rfl); (· exact rfl); (· exact rfl); (· rw [← HZH.out, tab_size, tab_size]); simp only [Act.put]))
                    have htr := HTR.out
                    rw [HZH.out] at htr
                    have HB7 := Lib.hid (((HB6.out.next htr.2.2.1).box _ _ _ _ htr.1 HB6.out (Nat.le_refl _)).box2 _ _ _ _ htr.2.1 HB6.out (Nat.le_succ _))
                    have HTL7 := Lib.hid (HTL6.out.kept (Kept.ofBelow (S := fun _ => False) htr.2.2.1) (fun _ h => h.elim))
                    clear htr HTR HTA HTB HB6 HTL6 HTL5 HB5 HL8 HL9 e3 e4
                    generalize (((y6.alloc (.cells zh 28)).alloc (.cells zh 28)).setRow y6.heap.size (tab 32 fun i => bv (x i))).setRow (y6.heap.size + 1) (tab 32 fun i => bv (z i)) = y7 at *
                    generalize y6.heap.size + 1 = q21 at *
                    generalize y6.heap.size = q20 at *
                    have HL18 := Lib.hid (loadHb (HB7.out.bx _ (List.mem_cons_of_mem _ (List.mem_cons_of_mem _ (List.mem_cons_self ..)))).1)
                    have HL20 := Lib.hid (loadRb (HB7.out.bx _ (List.mem_cons_of_mem _ (List.mem_cons_self ..))).1)
                    have HW := Lib.hid (wrong_tells _ E3 n3 p3 y7 HTL7.out HB7.out.etab)
                    go_wp2_with (first
                      | ((with_reducible refine wpList_loadE (P := Tryd.prog) (w := y7) (ty := 39) (x := .tmp 18) (p := .pointer (some ⟨q18, 0, none⟩)) (v := .agg (tab 32 fun i => bv (x i))) ?_ ?_ ?_ HL18.out ?_); (· exact rfl); (· exact rfl); (· exact rfl))
                      | ((with_reducible refine wpList_loadE (P := Tryd.prog) (w := y7) (ty := 28) (x := .tmp 20) (p := .pointer (some ⟨q20, 0, none⟩)) (v := .agg (tab 32 fun i => bv (x i))) ?_ ?_ ?_ HL20.out ?_); (· exact rfl); (· exact rfl); (· exact rfl))
                      | ((with_reducible refine wpList_neqX (w := y7) ?_ (.tmp 168) (.tmp 169) 39 x ?_ ?_ ?_ ?_); rotate_left; (· exact rfl); (· exact rfl); (· exact rfl); rotate_left; (· go_simp))
                      | (go_at_call 21; (with_reducible refine HW.out.mono ?_); rintro e y8 ⟨he, hb8⟩; obtain rfl : e = _ := he; have HB8 := Lib.hid (HB7.out.next hb8); clear HW hb8))
                    go_meet
                    case rel => exact ⟨s, Ts1, Tt1, M, _, N, met, K, rfl, HB8.out.sub (bx' := []) (fun b h => by cases h), HMN.out, by have := HLL.out; omega, by have := HLL.out; have := HOL.out; omega, by have := HLL.out; omega, by have := HLL.out; omega, Nat.zero_le _⟩
                · have b4 : (k == (4 : Int)) = false := by simp [k4]
                  clear k4
                  by_cases k5 : k = 5
                  · have b5 : (k == (5 : Int)) = true := by simp [k5]
                    clear k5
                    as_aux_lemma =>
                      have z2 := zero26
                      have z3 := zeroHash
                      generalize hz : (tab 32 fun _ => bv 0#8) = zh at *
                      have HZH := Lib.hid hz
                      clear hz
                      have HL8 := Lib.hid (loadRb (HB.out.bx _ (List.mem_cons_of_mem _ (List.mem_cons_self ..))).1)
                      have HL9 := Lib.hid (loadRb (HB.out.bx _ (List.mem_cons_self ..)).1)
                      have e3 : y3.cell? ⟨q7, 3, none⟩ = some (.int .i64 d) := ((HB.out.bx _ (List.mem_cons_of_mem _ (List.mem_cons_of_mem _ (List.mem_cons_self ..)))).1).cell 3 (by decide : (3 : Nat) < 5)
                      have e4 : y3.cell? ⟨q7, 4, none⟩ = some (.int .i64 v) := ((HB.out.bx _ (List.mem_cons_of_mem _ (List.mem_cons_of_mem _ (List.mem_cons_self ..)))).1).cell 4 (by decide : (4 : Nat) < 5)
                      obtain ⟨x, n3, p3, f, N1, cl, ho⟩ := outw_any N d v ha hb
                      have HO := Lib.hid ho
                      have HOL := Lib.hid (outw_len ho A)
                      have hA := HB.out.write HO.out HMN.out (by have := HLL.out; omega)
                      unfold dv at hA
                      have HA := Lib.hid hA
                      clear hA ho e0
                      have HTT := Lib.hid HB.out.ttl
                      go_upto_region 34 with (first
                        | ((with_reducible refine wpList_loadE (P := Tryd.prog) (w := y3) (ty := 28) (x := .tmp 8) (p := .pointer (some ⟨q8, 0, none⟩)) (v := .agg (tab 32 fun i => bv (ha i))) ?_ ?_ ?_ HL8.out ?_); (· exact rfl); (· exact rfl); (· exact rfl))
                        | ((with_reducible refine wpList_loadE (P := Tryd.prog) (w := y3) (ty := 28) (x := .tmp 9) (p := .pointer (some ⟨q9, 0, none⟩)) (v := .agg (tab 32 fun i => bv (hb i))) ?_ ?_ ?_ HL9.out ?_); (· exact rfl); (· exact rfl); (· exact rfl))
                        | (go_at_call 26; (with_reducible refine HA.out.mono ?_); rintro e y4 ⟨E3, he, htl, Ts1, M1, h4, ha4⟩; obtain rfl : e = _ := he; have HB4 := Lib.hid h4; have HTL := Lib.hid htl; have HA4 := Lib.hid ha4; clear HA h4 htl ha4)
                        | ((with_reducible refine wpList_store_row (P := Tryd.prog) (w := y4.alloc (.cells zh 39)) ?_ 39 (.tmp 24) (.tmp 189) ?_ y4.heap.size (tab 32 fun i => bv (x i)) ?_ ?_ 39 zh (heap_alloc_last y4 _) (infH _) ?_ (one_bv _ _) ?_); (· exact rfl); (· exact rfl); (· exact rfl); (· exact rfl); (· rw [← HZH.out, tab_size, tab_size]); rw [World.setRow_alloc_new]; simp only [Act.put]))
                      clear HB HL8 HL9 e3 e4
                      have HTL5 := Lib.hid (HTL.out.kept (Kept.ofBelow (S := fun _ => False) (ba y4 (.cells (tab 32 fun i => bv (x i)) 39))) (fun _ h => h.elim))
                      clear HTL
                      have HB5 := Lib.hid (HB4.out.alloc 39 32 (fun i => bv (x i)))
                      clear HB4
                      generalize y4.alloc (.cells (tab 32 fun i => bv (x i)) 39) = y5 at *
                      generalize y4.heap.size = q24 at *
                      have HL8 := Lib.hid (loadRb (HB5.out.bx _ (List.mem_cons_of_mem _ (List.mem_cons_of_mem _ (List.mem_cons_self ..)))).1)
                      have HL9 := Lib.hid (loadRb (HB5.out.bx _ (List.mem_cons_of_mem _ (List.mem_cons_self ..))).1)
                      have e3 : y5.cell? ⟨q7, 3, none⟩ = some (.int .i64 d) := ((HB5.out.bx _ (List.mem_cons_of_mem _ (List.mem_cons_of_mem _ (List.mem_cons_of_mem _ (List.mem_cons_self ..))))).1).cell 3 (by decide : (3 : Nat) < 5)
                      have e4 : y5.cell? ⟨q7, 4, none⟩ = some (.int .i64 v) := ((HB5.out.bx _ (List.mem_cons_of_mem _ (List.mem_cons_of_mem _ (List.mem_cons_of_mem _ (List.mem_cons_self ..))))).1).cell 4 (by decide : (4 : Nat) < 5)
                      have hA := HB5.out.rwrite HO.out (by have := HLL.out; omega) (by have := HLL.out; omega)
                      unfold dv at hA
                      have HA := Lib.hid hA
                      clear hA
                      go_upto_region 35 with (first
                        | ((with_reducible refine wpList_loadE (P := Tryd.prog) (w := y5) (ty := 28) (x := .tmp 8) (p := .pointer (some ⟨q8, 0, none⟩)) (v := .agg (tab 32 fun i => bv (ha i))) ?_ ?_ ?_ HL8.out ?_); (· exact rfl); (· exact rfl); (· exact rfl))
                        | ((with_reducible refine wpList_loadE (P := Tryd.prog) (w := y5) (ty := 28) (x := .tmp 9) (p := .pointer (some ⟨q9, 0, none⟩)) (v := .agg (tab 32 fun i => bv (hb i))) ?_ ?_ ?_ HL9.out ?_); (· exact rfl); (· exact rfl); (· exact rfl))
                        | (go_at_call 25; (with_reducible refine HA.out.mono ?_); rintro e y6 ⟨z, he, Tt1, h6, hk6⟩; obtain rfl : e = _ := he; have HB6 := Lib.hid h6; have HTL6 := Lib.hid (HTL5.out.kept hk6 HTT.out); have HTR := Lib.hid (two_rows y6 28 y6.heap.size (y6.heap.size + 1) (fun _ => bv 0#8) (fun i => bv (z i)) (fun i => bv (x i)) (.inl ⟨rfl, rfl⟩) _ rfl); have HTA : Hid (((y6.alloc (.cells zh 28)).alloc (.cells zh 28)).heap[y6.heap.size]? = some (.cells zh 28 (0, 0))) := Lib.hid (by rw [← HZH.out]; exact HTR.out.2.2.2.2.2.2.1); have HTB : Hid ((((y6.alloc (.cells zh 28)).alloc (.cells zh 28)).setRow y6.heap.size (tab 32 fun i => bv (z i))).heap[y6.heap.size + 1]? = some (.cells zh 28 (0, 0))) := Lib.hid (by rw [← HZH.out]; exact HTR.out.2.2.2.2.2.2.2); clear HA h6 hk6)
                        | ((with_reducible refine wpList_store_row (P := Tryd.prog) (w := ((y6.alloc (.cells zh 28)).alloc (.cells zh 28))) ?_ 28 (.tmp 26) (.tmp 200) ?_ y6.heap.size (tab 32 fun i => bv (z i)) ?_ ?_ 28 zh HTA.out (by rw [tab_size]; exact infR) ?_ (one_bv _ _) ?_); (· exact rfl); (· exact rfl); (· exact rfl); (· exact rfl); (· rw [← HZH.out, tab_size, tab_size]); simp only [Act.put])
                        | ((with_reducible refine wpList_store_row (P := Tryd.prog) (w := ((y6.alloc (.cells zh 28)).alloc (.cells zh 28)).setRow y6.heap.size (tab 32 fun i => bv (z i))) ?_ 28 (.tmp 27) (.tmp 201) ?_ (y6.heap.size + 1) (tab 32 fun i => bv (x i)) ?_ ?_ 28 zh HTB.out (by rw [tab_size]; exact infR) ?_ (one_bv _ _) ?_); (· exact rfl); (· exact rfl); (· exact rfl); (· exact rfl); (· rw [← HZH.out, tab_size, tab_size]); simp only [Act.put]))
                      have htr := HTR.out
                      rw [HZH.out] at htr
                      have HB7 := Lib.hid (((HB6.out.next htr.2.2.1).box _ _ _ _ htr.1 HB6.out (Nat.le_refl _)).box2 _ _ _ _ htr.2.1 HB6.out (Nat.le_succ _))
                      have HTL7 := Lib.hid (HTL6.out.kept (Kept.ofBelow (S := fun _ => False) htr.2.2.1) (fun _ h => h.elim))
                      clear htr HTR HTA HTB HB6 HTL6 HTL5 HB5 HL8 HL9 e3 e4
                      generalize (((y6.alloc (.cells zh 28)).alloc (.cells zh 28)).setRow y6.heap.size (tab 32 fun i => bv (z i))).setRow (y6.heap.size + 1) (tab 32 fun i => bv (x i)) = y7 at *
                      generalize y6.heap.size + 1 = q21 at *
                      generalize y6.heap.size = q20 at *
                      have HL18 := Lib.hid (loadHb (HB7.out.bx _ (List.mem_cons_of_mem _ (List.mem_cons_of_mem _ (List.mem_cons_self ..)))).1)
                      have HL20 := Lib.hid (loadRb (HB7.out.bx _ (List.mem_cons_self ..)).1)
                      have HW := Lib.hid (wrong_tells _ E3 n3 p3 y7 HTL7.out HB7.out.etab)
                      go_upto_region 37 with (first
                        | ((with_reducible refine wpList_loadE (P := Tryd.prog) (w := y7) (ty := 39) (x := .tmp 24) (p := .pointer (some ⟨q24, 0, none⟩)) (v := .agg (tab 32 fun i => bv (x i))) ?_ ?_ ?_ HL18.out ?_); (· exact rfl); (· exact rfl); (· exact rfl))
                        | ((with_reducible refine wpList_loadE (P := Tryd.prog) (w := y7) (ty := 28) (x := .tmp 27) (p := .pointer (some ⟨q21, 0, none⟩)) (v := .agg (tab 32 fun i => bv (x i))) ?_ ?_ ?_ HL20.out ?_); (· exact rfl); (· exact rfl); (· exact rfl))
                        | ((with_reducible refine wpList_neqX (w := y7) ?_ (.tmp 204) (.tmp 205) 39 x ?_ ?_ ?_ ?_); rotate_left; (· exact rfl); (· exact rfl); (· exact rfl); rotate_left; (· go_simp))
                        | (go_at_call 21; (with_reducible refine HW.out.mono ?_); rintro e y8 ⟨he, hb8⟩; obtain rfl : e = _ := he; have HB8 := Lib.hid (HB7.out.next hb8); clear HW hb8))
                      clear HL20
                      have HL20 := Lib.hid (loadRb (HB8.out.bx _ (List.mem_cons_self ..)).1)
                      have HBA := Lib.hid (buildRa (x) y8)
                      have HAB := Lib.hid ((HB8).out.next (ba y8 (.cells (tab 32 fun i => bv (x i)) 28)))
                      have HSW := Lib.hid (src1w y8 (x))
                      have HAL : Hid (K.length + 1 ≤ maxLen ∧ (K.length + 1) * 32 ≤ 140737488355328 ∧ 0 < 32 ∧ w.heap.size ≤ (y8.alloc (.cells (tab 32 fun i => bv (x i)) 28)).heap.size) := Lib.hid ⟨by unfold maxLen; have := HLL.out; omega, by have := HLL.out; omega, by decide, HAB.out.below.size⟩
                      rw [HMK.out] at HAL
                      have hrw := HAB.out.row
                      rw [HMK.out] at hrw
                      have HRW := Lib.hid hrw
                      clear hrw
                      go_wp2_with (first
                        | ((with_reducible refine wpList_loadE (P := Tryd.prog) (w := y8) (ty := 28) (x := .tmp 27) (p := .pointer (some ⟨q21, 0, none⟩)) (v := .agg (tab 32 fun i => bv (x i))) ?_ ?_ ?_ HL20.out ?_); (· exact rfl); (· exact rfl); (· exact rfl))
                        | ((with_reducible refine wpList_build1 (P := Tryd.prog) (w := y8) (t := 29) (x := .tmp 215) (p := .agg (tab 32 fun i => bv (x i))) (v := .slice (some ⟨y8.heap.size, 0, none⟩) 1 1) (w' := y8.alloc (.cells (tab 32 fun i => bv (x i)) 28)) ?_ ?_ ?_ HBA.out ?_); (· exact rfl); (· exact rfl); (· exact rfl))
                        | (at_builtin; (with_reducible refine wpList_append_at (P := Tryd.prog) (w := y8.alloc (.cells (tab 32 fun i => bv (x i)) 28)) ?_ (.tmp 214) (.tmp 216) 29 ?_ w.heap.size 28 i0 (dv fun _ => 0#8) 32 32 undRa HI.out zcellsH HAL.out.2.2.1 (.slice (some ⟨gc, 0, none⟩) m cK) m (fl K) ?_ HRW.out ⟨y8.heap.size, 0, none⟩ 1 1 (flat 1 fun _ => x) ?_ (flat_len _ _) HSW.out (flat_one _ _) HAL.out.1 HAL.out.2.1 HAL.out.2.2.2 ?_); (· exact rfl); (· exact rfl); (· exact rfl); (· exact rfl); intro V9 y9 hown9 hgr9 hat9))
                      go_meet
                      case rel =>
                        rw [← fl_one] at hown9
                        exact ⟨s, Ts1, Tt1, M1, _, N1, _, K ++ [x], rfl, ((HAB.out.sub (bx' := []) (fun b h => by cases h)).grownL (by rw [HMK.out]; exact hown9) hgr9 hat9), HA4.out, by have := HLL.out; have := HOL.out.2; omega, by have := HLL.out; have := HOL.out.1; omega, by have := HLL.out; rw [List.length_append, List.length_singleton]; omega, by rw [List.length_append, List.length_singleton]; omega, Nat.zero_le _⟩
                  · have b5 : (k == (5 : Int)) = false := by simp [k5]
                    clear k5
                    by_cases k6 : k = 6
                    · have b6 : (k == (6 : Int)) = true := by simp [k6]
                      clear k6
                      as_aux_lemma =>
                        clear e0
                        have HA := Lib.hid HB.out.asked
                        go_upto_region 40 with (first
                          | (go_at_call 27; (with_reducible refine HA.out.mono ?_); rintro e y4 ⟨av, he, hrow4, h4⟩; obtain rfl : e = _ := he; have HB4 := Lib.hid h4; have HR4 := Lib.hid hrow4; clear HA h4 hrow4))
                        clear HB
                        obtain ⟨a1, c1, hv1, hld1⟩ := row_hh (show y4.ownsRow 0 39 32 av A.length (flat A.length fun k => A.getD k fun _ => 0#8) from HR4.out)
                        subst hv1
                        obtain ⟨vh, vp, va, hro⟩ := HB4.out.ro
                        obtain ⟨a2, c2, hv2, hld2⟩ := row_hx (show y4.ownsRow 0 28 32 va A.length (flat A.length fun k => A.getD k fun _ => 0#8) from hro.arow)
                        subst hv2
                        obtain ⟨fA, hfA⟩ : ∃ f : Nat → Hx, (fun k => A.getD k fun _ => 0#8) = f := ⟨_, rfl⟩
                        have e5 : ∀ k, A.getD k (fun _ => 0#8) = fA k := fun k => congrFun hfA k
                        simp only [e5] at hld1 hld2
                        obtain ⟨nA, hnA⟩ : ∃ n, A.length = n := ⟨_, rfl⟩
                        rw [hnA] at hro hld1 hld2 ⊢
                        have HNA : Hid (A.length = nA ∧ nA < 1073741824) := Lib.hid ⟨hnA, by have := HLL.out; omega⟩
                        have HRO := Lib.hid hro
                        have HLD1 := Lib.hid hld1
                        have HLD2 := Lib.hid hld2
                        clear hro hld1 hld2 hfA e5 hnA HR4
                        have k2 := HRO.out.box.k2
                        go_upto_region 42 with (fail)
                        clear k2
                        go_wp2_with (fail)
                        go_loopw [232] (fun i z => ∃ j : Nat, j ≤ nA ∧ i = .int .i64 j ∧ Hid (Below y4.heap.size y4 z)) (fun i _ => nA - (intOf i).toNat)
                        case atStart => exact ⟨0, Nat.zero_le _, rfl, Lib.hid (Below.refl _ _)⟩
                        case round =>
                          obtain ⟨j, hj, rfl, hbz⟩ := hrel
                          by_cases hjn : j < nA
                          · have t1 : decide (j < nA) = true := by simp; omega
                            obtain ⟨g1, hg1, hl1⟩ := HLD1.out j hjn
                            obtain ⟨g2, hg2, hl2⟩ := HLD2.out j hjn
                            subst hg1
                            subst hg2
                            have HJN := Lib.hid (And.intro hjn hj)
                            obtain ⟨o, ho⟩ : ∃ o, 32 * j = o := ⟨_, rfl⟩
                            rw [ho] at hl1 hl2
                            have HL1 := Lib.hid hl1
                            have HL2 := Lib.hid hl2
                            have HOO : Hid (j * 32 = o) := Lib.hid (by omega)
                            clear hl1 hl2 hjn hj ho
                            go_upto_region 45 with (fail)
                            clear t1
                            have HBZ : Hid (Below y4.heap.size y4 wr.drew) := Lib.hid hbz.out.drew
                            clear hbz
                            refine wp_region_og (fun z : World => wr.drew = z) (.take 0 (.take 1 (.take 2 (.take 3 (.take 4 (.take 5 (.take 6 (.take 7 (.take 8 (.take 9 (.take 10 (.take 11 .done)))))))))))) (by kernel_rfl) (by kernel_rfl) rfl ?_
                            generalize wr.drew = z1 at *
                            have HK2 := Lib.hid ((HRO.out.below HBZ.out).box.k2)
                            have HQ1 := Lib.hid (HL1.out z1 HBZ.out)
                            have HQ2 := Lib.hid (HL2.out z1 HBZ.out)
                            refine og_tk (some 235) (.slice (some ⟨g1, 0, none⟩) nA c1) rfl rfl (by go_simp) (fun _ _ => by simp [execOp, go_sem]) ?_
                            simp only [Act.put, pS]
                            refine og_tk (some 236) (.int .i64 j) rfl rfl (by go_simp) (fun _ _ => by simp [execOp, go_sem]) ?_
                            simp only [Act.put, pS]
                            refine og_tk (some 237) (.pointer (some ⟨g1, o, none⟩)) rfl rfl (by go_simp) (fun y hy => by have h1 := HJN.out.1; have h2 := HOO.out; simp [execOp, go_sem, h1, h2, Result.andThen, Tryd.underlying56]) ?_
                            simp only [Act.put, pS]
                            refine og_ld (some 238) 39 (.tmp 237) (.pointer (some ⟨g1, o, none⟩)) (.agg (tab 32 fun i => bv (fA j i))) rfl rfl (by go_simp) rfl rfl (fun y hy => hy ▸ HQ1.out) ?_
                            simp only [Act.put, pS]
                            refine og_tk (some 239) (.pointer (some ⟨t, 0, none⟩)) rfl rfl (by go_simp) (fun _ _ => by simp [execOp, go_sem]) ?_
                            simp only [Act.put, pS]
                            refine og_tk (some 240) (.pointer (some ⟨t, 0, none⟩)) rfl rfl (by go_simp) (fun _ _ => by simp [execOp, go_sem]) ?_
                            simp only [Act.put, pS]
                            refine og_tk (some 241) (.pointer (some ⟨t, 2, none⟩)) rfl rfl (by go_simp) (fun _ _ => by simp [execOp, go_sem]) ?_
                            simp only [Act.put, pS]
                            refine og_ld (some 242) 29 (.tmp 241) (.pointer (some ⟨t, 2, none⟩)) (.slice (some ⟨g2, 0, none⟩) nA c2) rfl rfl (by go_simp) rfl rfl (fun y hy => by have h := hy ▸ HK2.out; simp [Instr.loadAt, go_sem, h, Tryd.underlying29]) ?_
                            simp only [Act.put, pS]
                            refine og_tk (some 243) (.int .i64 j) rfl rfl (by go_simp) (fun _ _ => by simp [execOp, go_sem]) ?_
                            simp only [Act.put, pS]
                            refine og_tk (some 244) (.pointer (some ⟨g2, o, none⟩)) rfl rfl (by go_simp) (fun y hy => by have h1 := HJN.out.1; have h2 := HOO.out; simp [execOp, go_sem, h1, h2, Result.andThen, Tryd.underlying29]) ?_
                            simp only [Act.put, pS]
                            refine og_ld (some 245) 28 (.tmp 244) (.pointer (some ⟨g2, o, none⟩)) (.agg (tab 32 fun i => bv (fA j i))) rfl rfl (by go_simp) rfl rfl (fun y hy => hy ▸ HQ2.out) ?_
                            simp only [Act.put, pS]
                            refine og_tk (some 246) (.bool false) rfl rfl (by go_simp) (fun y hy => exec_neqX (.tmp 238) (.tmp 245) 39 (fA j) rfl rfl rfl) ?_
                            simp only [Act.put, pS]
                            refine og_done (NoPanic.normal ?_)
                            clear HK2 HQ1 HQ2
                            have hw1 : wrap64 ((j : Int) + 1) = ((j + 1 : Nat) : Int) := by have := HJN.out; have := HNA.out; unfold wrap64; omega
                            have HW1 := Lib.hid hw1
                            go_wp2_with (fail)
                            go_roundw
                            case rel => exact ⟨j + 1, HJN.out.1, by go_num, HBZ⟩
                            case measure => exact meas_lp HJN.out.1 HW1.out
                          · obtain rfl : j = nA := by omega
                            clear hj hjn
                            have hro := HRO.out.below hbz.out
                            have k2 := hro.box.k2
                            have f2 := hro.box.f 2
                            have HB5 := Lib.hid (HB4.out.next hbz.out)
                            clear hro hbz
                            go_wp2_with (fail)
                            go_meet
                            case rel => exact ⟨s, Ts, Tt, M, [], N, met, K, rfl, HB5.out.unask.1.sub (bx' := []) (fun b h => by cases h), HMN.out, by have := HLL.out; omega, by simp, by have := HLL.out; omega, by have := HLL.out; omega, Nat.zero_le _⟩
                    · have b6 : (k == (6 : Int)) = false := by simp [k6]
                      clear k6
                      by_cases k7 : k = 7
                      · have b7 : (k == (7 : Int)) = true := by simp [k7]
                        clear k7
                        as_aux_lemma =>
                          clear e0
                          have HA := Lib.hid HB.out.copy
                          have HFT : Hid ((∀ j, Foot Ts kb fb j → j < y3.heap.size) ∧ (∀ j, Tt j → j < y3.heap.size) ∧ w.heap.size ≤ y3.heap.size ∧ gc < y3.heap.size) := Lib.hid ⟨fun j h => h.elim (HB.out.tsl j) fun h => h.elim (fun h => h ▸ HB.out.k1.2.1) fun h => h ▸ HB.out.k2.2.1, HB.out.ttl, HB.out.below.size, own_lt HB.out.row rfl⟩
                          go_upto_region 51 with (first
                            | (go_at_call 28; (with_reducible refine HA.out.mono ?_); rintro e y4 ⟨c2, he, T2, h1, h2, h4⟩; obtain rfl : e = _ := he; have HB4 := Lib.hid h4; have HC4 := Lib.hid (And.intro h1 h2); clear HA h1 h2 h4))
                          clear HB
                          refine wp_region_lit ?_
                          refine wpList_plain rfl fun K' hK' => ?_
                          go_simp
                          refine hK' _ _ ?_
                          clear hK' K'
                          try simp only [Act.put, pS]
                          refine wpList_buildE rfl 37 #[(0, .const (.int .u8 7))] rfl #[(0, .int .u8 7)] (by simp only [List.map_toArray, List.map_cons, List.map_nil]; rfl) (.agg (tab 64 fun i => bv (p7 i))) (buildP7 y4) ?_
                          simp only [Act.put, pS]
                          generalize p7 = p at *
                          have HA0 := HB4.out.add p
                          unfold dv pv at HA0
                          have HA := Lib.hid HA0
                          clear HA0
                          go_upto_region 52 with (first
                            | (go_at_call 17; (with_reducible refine HA.out.mono ?_); rintro e y5 ⟨he, h5, hk5⟩; obtain rfl : e = _ := he; have HB5 := Lib.hid h5; have HZ5 := Lib.hid hk5.size; have HC5 := Lib.hid (HC4.out.1.beside h5.st hk5 fun j q1 q2 => by have := HFT.out.1 j q2; have := (HC4.out.2 j q1).1; omega); clear HA h5 hk5))
                          clear HB4
                          obtain ⟨vh, vp, va, hro⟩ := HB5.out.ro
                          have k0 := hro.box.k0
                          obtain ⟨a1, c1, hv1, hld1⟩ := row_hx (show y5.ownsRow 0 28 32 vh N.length (flat N.length (kf N)) from hro.hrow)
                          subst hv1
                          obtain ⟨g1, hg1, hl1⟩ := hld1 0 (by have := HLL.out; omega)
                          subst hg1
                          have hl2 := hl1 y5 (Below.refl _ _)
                          rw [Nat.mul_zero] at hl2
                          have HLD := Lib.hid hl2
                          have hi1 : 0 < N.length := by have := HLL.out; omega
                          clear hro hld1 hl1 hl2
                          generalize kf N 0 = h0 at *
                          obtain ⟨nN, hnN⟩ : ∃ n, N.length = n := ⟨_, rfl⟩
                          rw [hnN] at k0 hi1
                          have HA0 := HB5.out.drop h0
                          unfold dv at HA0
                          have HA := Lib.hid HA0
                          clear HA0
                          go_upto_region 53 with (first
                            | ((with_reducible refine wpList_loadE (P := Tryd.prog) (w := y5) (ty := 28) (x := .tmp 263) (p := .pointer (some ⟨g1, 0, none⟩)) (v := .agg (tab 32 fun i => bv (h0 i))) ?_ ?_ ?_ HLD.out ?_); (· exact rfl); (· exact rfl); (· exact rfl))
                            | (go_at_call 22; (with_reducible refine HA.out.mono ?_); rintro e y6 ⟨he, h6, hk6⟩; obtain rfl : e = _ := he; have HB6 := Lib.hid h6; have HC6 := Lib.hid (HC5.out.beside h6.st hk6 fun j q1 q2 => by have := HFT.out.1 j q2; have := (HC4.out.2 j q1).1; omega); have HZ6 := Lib.hid hk6.size; clear HA h6 hk6))
                          clear HB5 HLD k0 hi1 hnN HC5
                          obtain ⟨vh, vp, va, hro⟩ := HB6.out.ro
                          have k2 := hro.box.k2
                          have f2 := hro.box.f 2
                          clear hro
                          go_wp2_with (fail)
                          go_meet
                          case rel =>
                            have hu := HB6.out.unask
                            have hz6 := HB6.out.below.size
                            refine ⟨c2, T2, Tt, M, [], N, met, K, rfl, hu.1.turn (HC6.out.kept hu.2 (fun j q1 q2 => by have := HFT.out.2.1 j q2; have := (HC4.out.2 j q1).1; omega) HB6.out.k1.2.2 HB6.out.k2.2.2) fun j q1 => ⟨?_, ?_, fun q2 => by have := HFT.out.2.1 j q2; have := (HC4.out.2 j q1).1; omega, fun q2 => ?_⟩, HMN.out, by have := HLL.out; omega, by simp, by have := HLL.out; omega, by have := HLL.out; omega, Nat.zero_le _⟩
                            · have := (HC4.out.2 j q1).1; have := HFT.out.2.2.1; omega
                            · have := (HC4.out.2 j q1).2
                              have h3 := hu.2.size
                              have h4 := HZ6.out
                              have h5 := HZ5.out
                              omega
                            · have h9 : gc = j := by simpa [Value.ownBlock] using q2
                              have := (HC4.out.2 j q1).1
                              have := HFT.out.2.2.2
                              omega
                      · have b7 : (k == (7 : Int)) = false := by simp [k7]
                        clear k7
                        go_wp2_with (fail)
                        go_meet
                        case rel => exact ⟨s, Ts, Tt, M, A, N, met, K, rfl, HB.out.sub (bx' := []) (fun b h => by cases h), HMN.out, by have := HLL.out; omega, by have := HLL.out; omega, by have := HLL.out; omega, by have := HLL.out; omega, Nat.zero_le _⟩
        case rest =>
          have HQ := Lib.hid hcut
          clear hcut
          as_aux_lemma =>
            obtain ⟨s2, Ts2, Tt2, M2, A2, N2, met2, K2, hs2, hG2, hMN2, hN2, hA2, hK2, hK02, _⟩ := HQ.out
            subst hs2
            have HG2 := Lib.hid hG2
            have HM0 : Hid (M2.length = N2.length) := Lib.hid hMN2.len
            have HL2 : Hid (Alike M2 N2 ∧ N2.length ≤ 16 + 17 * (n + 1) ∧ A2.length ≤ 17 * (n + 1) ∧ K2.length ≤ 20 + (n + 1) ∧ 0 < K2.length) := Lib.hid ⟨hMN2, hN2, hA2, hK2, hK02⟩
            clear hG2 hMN2 hN2 hA2 hK2 hK02 HB e0 HQ HMN HMK
            obtain ⟨nN, hnN⟩ : ∃ x, N2.length = x := ⟨_, rfl⟩
            have HNN := Lib.hid hnN
            have HM2 : Hid (M2.length = nN) := Lib.hid (HM0.out.trans hnN)
            clear hnN HM0
            go_upto_region 57 with (fail)
            obtain ⟨vh, vp, va, hro⟩ := HG2.out.drew.ro
            obtain ⟨ah, ch, hv, _⟩ := row_hx (show wc.drew.ownsRow 0 28 32 vh N2.length (flat N2.length (kf N2)) from hro.hrow)
            subst hv
            have k0 : wc.drew.cell? ⟨t, 0, none⟩ = some (.slice ah N2.length ch) := hro.box.k0
            rw [HNN.out] at k0
            have HK0 := Lib.hid k0
            have HGz := Lib.hid HG2.out.drew
            clear hro k0
            refine wp_region_og (fun z : World => wc.drew = z) (.take 0 (.take 2 (.take 3 (.take 4 (.take 5 (.take 6 (.one 1 (.take 7 (.take 8 (.take 9 (.take 10 (.take 11 (.take 12 (.take 13 (.take 14 (.take 15 .done)))))))))))))))) (by kernel_rfl) (by as_aux_lemma => kernel_rfl) rfl ?_
            generalize wc.drew = z1 at *
            have hl := HGz.out.len
            rw [HM2.out] at hl
            have HCL := Lib.hid hl
            clear hl
            refine og_tk (some 272) (.pointer (some ⟨s2, 0, none⟩)) rfl rfl (by go_simp) (fun _ _ => by simp [execOp, go_sem]) ?_
            simp only [Act.put, pS]
            refine og_tk (some 274) (.pointer (some ⟨t, 0, none⟩)) rfl rfl (by go_simp) (fun _ _ => by simp [execOp, go_sem]) ?_
            simp only [Act.put, pS]
            refine og_tk (some 275) (.pointer (some ⟨t, 0, none⟩)) rfl rfl (by go_simp) (fun _ _ => by simp [execOp, go_sem]) ?_
            simp only [Act.put, pS]
            refine og_tk (some 276) (.pointer (some ⟨t, 0, none⟩)) rfl rfl (by go_simp) (fun _ _ => by simp [execOp, go_sem]) ?_
            simp only [Act.put, pS]
            refine og_ld (some 277) 29 (.tmp 276) (.pointer (some ⟨t, 0, none⟩)) (.slice ah nN ch) rfl rfl (by go_simp) rfl rfl (fun y hy => by have h := hy ▸ HK0.out; simp [Instr.loadAt, go_sem, h, Tryd.underlying29]) ?_
            simp only [Act.put, pS]
            refine og_tk (some 278) (.int .i64 nN) rfl rfl (by go_simp) (fun _ _ => exec_len (.tmp 277) 29 _ nN ch undRa rfl rfl) ?_
            simp only [Act.put, pS]
            refine og_f rfl (by go_simp) fun K' hK' => ?_
            go_simp
            refine HCL.out.mono ?_
            rintro e z9 ⟨he, hz9⟩
            obtain rfl : e = _ := he
            subst hz9
            refine hK' _ _ (rfl) ?_
            clear hK' K' HCL
            try simp only [Act.put, pS]
            refine og_tk (some 279) (.bool false) rfl rfl (by go_simp) (fun _ _ => by simp [execOp, go_sem]) ?_
            simp only [Act.put, pS]
            refine og_tk (some 280) (.bool false) rfl rfl (by go_simp) (fun _ _ => by simp [execOp, go_sem]) ?_
            simp only [Act.put, pS]
            refine og_tk (some 281) (.pointer (some ⟨t, 0, none⟩)) rfl rfl (by go_simp) (fun _ _ => by simp [execOp, go_sem]) ?_
            simp only [Act.put, pS]
            refine og_tk (some 282) (.pointer (some ⟨t, 0, none⟩)) rfl rfl (by go_simp) (fun _ _ => by simp [execOp, go_sem]) ?_
            simp only [Act.put, pS]
            refine og_tk (some 283) (.pointer (some ⟨t, 0, none⟩)) rfl rfl (by go_simp) (fun _ _ => by simp [execOp, go_sem]) ?_
            simp only [Act.put, pS]
            refine og_ld (some 284) 29 (.tmp 283) (.pointer (some ⟨t, 0, none⟩)) (.slice ah nN ch) rfl rfl (by go_simp) rfl rfl (fun y hy => by have h := hy ▸ HK0.out; simp [Instr.loadAt, go_sem, h, Tryd.underlying29]) ?_
            simp only [Act.put, pS]
            refine og_tk (some 285) (.int .i64 nN) rfl rfl (by go_simp) (fun _ _ => exec_len (.tmp 284) 29 _ nN ch undRa rfl rfl) ?_
            simp only [Act.put, pS]
            by_cases hz : nN = 0
            · as_aux_lemma =>
                subst hz
                refine og_tk (some 286) (.bool true) rfl rfl (by go_simp) (fun _ _ => by simp [execOp, go_sem]) ?_
                simp only [Act.put, pS]
                refine og_tk (some 287) (.bool true) rfl rfl (by go_simp) (fun _ _ => by simp [execOp, go_sem]) ?_
                simp only [Act.put, pS]
                refine og_done (NoPanic.normal ?_)
                go_upto_region 58 with (fail)
                clear HK0
                have HG3 := Lib.hid HGz.out
                clear HGz
                obtain ⟨vh, vp, va, hro⟩ := HG3.out.drew.ro
                obtain ⟨ah, ch, hv, _⟩ := row_hx (show z1.drew.ownsRow 0 28 32 vh N2.length (flat N2.length (kf N2)) from hro.hrow)
                subst hv
                have k0 : z1.drew.cell? ⟨t, 0, none⟩ = some (.slice ah N2.length ch) := hro.box.k0
                rw [HNN.out] at k0
                have HK0 := Lib.hid k0
                have HGz := Lib.hid HG3.out.drew
                clear hro k0
                refine wp_region_og (fun z : World => z1.drew = z) (.take 0 (.take 2 (.take 3 (.take 4 (.take 5 (.take 6 (.one 1 (.take 7 (.one 8 .done))))))))) (by kernel_rfl) (by as_aux_lemma => kernel_rfl) rfl ?_
                generalize z1.drew = z2 at *
                have hl := HGz.out.len
                rw [HM2.out] at hl
                have HCL := Lib.hid hl
                clear hl
                refine og_tk (some 288) (.pointer (some ⟨s2, 0, none⟩)) rfl rfl (by go_simp) (fun _ _ => by simp [execOp, go_sem]) ?_
                simp only [Act.put, pS]
                refine og_tk (some 290) (.pointer (some ⟨t, 0, none⟩)) rfl rfl (by go_simp) (fun _ _ => by simp [execOp, go_sem]) ?_
                simp only [Act.put, pS]
                refine og_tk (some 291) (.pointer (some ⟨t, 0, none⟩)) rfl rfl (by go_simp) (fun _ _ => by simp [execOp, go_sem]) ?_
                simp only [Act.put, pS]
                refine og_tk (some 292) (.pointer (some ⟨t, 0, none⟩)) rfl rfl (by go_simp) (fun _ _ => by simp [execOp, go_sem]) ?_
                simp only [Act.put, pS]
                refine og_ld (some 293) 29 (.tmp 292) (.pointer (some ⟨t, 0, none⟩)) (.slice ah 0 ch) rfl rfl (by go_simp) rfl rfl (fun y hy => by have h := hy ▸ HK0.out; simp [Instr.loadAt, go_sem, h, Tryd.underlying29]) ?_
                simp only [Act.put, pS]
                refine og_tk (some 294) (.int .i64 (0 : Nat)) rfl rfl (by go_simp) (fun _ _ => exec_len (.tmp 293) 29 _ 0 ch undRa rfl rfl) ?_
                simp only [Act.put, pS]
                refine og_f rfl (by go_simp) fun K' hK' => ?_
                go_simp
                refine HCL.out.mono ?_
                rintro e z9 ⟨he, hz9⟩
                obtain rfl : e = _ := he
                subst hz9
                refine hK' _ _ (rfl) ?_
                clear hK' K' HCL
                try simp only [Act.put, pS]
                refine og_tk (some 295) (.bool true) rfl rfl (by go_simp) (fun _ _ => by simp [execOp, go_sem]) ?_
                simp only [Act.put, pS]
                refine og_f rfl (by go_simp) fun K' hK' => ?_
                go_simp
                refine hK' _ _ rfl ?_
                clear hK' K'
                refine og_done (NoPanic.normal ?_)
                go_wp2_with (fail)
                go_ret
                exact ⟨rfl, HGz.out.below⟩
            · as_aux_lemma =>
                refine og_tk (some 286) (.bool false) rfl rfl (by go_simp) (fun _ _ => by simp [execOp, go_sem, hz]) ?_
                simp only [Act.put, pS]
                refine og_tk (some 287) (.bool false) rfl rfl (by go_simp) (fun _ _ => by simp [execOp, go_sem]) ?_
                simp only [Act.put, pS]
                have HZ := Lib.hid hz
                clear hz
                refine og_done (NoPanic.normal ?_)
                have hw1 : wrap64 ((n : Int) + 1) = ((n + 1 : Nat) : Int) := by have := HN9.out; unfold wrap64; omega
                have HW1 := Lib.hid hw1
                go_wp2_with (fail)
                go_roundw
                case rel => exact ⟨n + 1, by have := HLT.out; omega, by have := HN9.out; omega, by go_num, Lib.hid ⟨s2, Ts2, Tt2, M2, A2, N2, met2, K2, rfl, HGz.out, HL2.out.1, HL2.out.2.1, HL2.out.2.2.1, HL2.out.2.2.2.1, HL2.out.2.2.2.2, by have := HNN.out; have := HZ.out; omega⟩⟩
                case measure => exact meas_lp HLT.out HW1.out
    · go_wp2_with fail
      go_ret
      exact ⟨rfl, HGm.out.below⟩

end Wt
end Go.Proofs.YtdmffnjbholkkaaDoor
