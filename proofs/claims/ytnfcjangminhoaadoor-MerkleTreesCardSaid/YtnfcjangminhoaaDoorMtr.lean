/-
  MerkleTrees. Own work.
-/
import Derived.Test.YtnfcjangminhoaaDoorMp
namespace Go.Proofs.YtnfcjangminhoaaDoor
open Go.RowKit
set_option linter.unusedVariables false
set_option linter.unusedSimpArgs false
namespace Mk
open Kc
set_option maxHeartbeats 4000000 in
set_option maxRecDepth 100000 in
theorem trees_walk (d : Int) (a : Option Addr) (n c : Nat) (f : Nat → Hx) (i ht0 : Int) (w : World) (hs : IsHs w a n f) (hnil : a = none → n = 0 ∧ c = 0) (hnc : n ≤ c) (hn : n ≤ 4398046511104) (ht : Laid.KTab w)
    (hg : w.cell? ⟨0, 0, none⟩ = some (.iface 82 (.agg #[.pointer (some ⟨2, 29, none⟩)]))) :
    Calls Tryd.prog 5 #[.int .i64 d, .slice a n c, .int .i64 i, .int .i64 ht0] w fun e w' => e = .returned (.bool true) ∧ Below w.heap.size w w' := by
  have HT := Lib.hid ht
  have HG := Lib.hid hg
  clear ht hg
  obtain ⟨N, hN⟩ : ∃ N : Nat, N = min n 300 := ⟨_, rfl⟩
  have HNN : Hid (N ≤ n ∧ N ≤ 300 ∧ N ≤ c) := Lib.hid (by omega)
  have H0 : Hid (IsHs w a N f ∧ (a = none → N = 0 ∧ c = 0)) := Lib.hid ⟨hs.less HNN.out.1, fun e => by have := hnil e; have := HNN.out.1; omega⟩
  have HHS := Lib.hid (hashes_walk a N c f w H0.out.1 HNN.out.2.2 (by have := HNN.out.2.1; omega))
  clear hs hnil
  have z2 := zeroHash
  have z3 := zero26
  generalize hz : (tab 32 fun _ => bv 0#8) = zh at *
  have HZ := Lib.hid hz
  clear hz
  have hzl : zh.size = 32 := by rw [← HZ.out, tab_size]
  have HZL := Lib.hid hzl
  have hzi : (Tryd.prog.info? 26).map (·.size) = some zh.size := by rw [hzl]; exact inf26'
  have HZI := Lib.hid hzi
  have hzo : zh.all (·.oneCell') = true := by rw [← HZ.out]; exact one_bv _ _
  have HZO := Lib.hid hzo
  clear hzl hzi hzo
  by_cases hgt : (300 : Int) < (n : Int)
  case' pos =>
    have hex : ∃ g o, a = some ⟨g, o, none⟩ ∨ True := ⟨0, 0, .inr trivial⟩
    have hNe : N = 300 := by omega
    have hc300 : (300 : Int) ≤ (c : Int) := by omega
    have HNE := Lib.hid hNe
    clear hNe hN hex
    go_enter Tryd.func5, Tryd.ntmps5
    go_upto_region 3 with (fail)
    rw [show Value.slice a 300 c = Value.slice a N c from by rw [HNE.out]]
    clear hgt HNE hc300 hn hnc
  case' neg =>
    have hNe : n = N := by omega
    have HNE := Lib.hid hNe
    clear hNe hN
    go_enter Tryd.func5, Tryd.ntmps5
    go_upto_region 3 with (fail)
    rw [show Value.slice a n c = Value.slice a N c from by rw [← HNE.out]]
    clear hgt HNE hn hnc
  all_goals
    go_upto_region 4 with (go_at_call 7; (with_reducible refine HHS.out.mono ?_); rintro e y0 ⟨V9, rfl, hrow, hb⟩; have H1 := Lib.hid (And.intro hrow hb); clear hrow hb)
    obtain ⟨a9, c9, rfl, h91, h92, h93, h94, _⟩ := hs_of H1.out.1
    have HC9 := Lib.hid (And.intro h92 (And.intro h93 h94))
    have T0 : Hid (Mb w [(a, N, f), (a9, N, f)] [] y0) := Lib.hid (Mb.row (Mb.row ⟨(fun _ h => by cases h), (fun _ h => by cases h), H1.out.2⟩ h91) (H0.out.1.below H1.out.2))
    clear H1 h91 h92 h93 h94 HHS
    obtain ⟨K, hK⟩ : ∃ K, wrong d N = K := ⟨_, rfl⟩
    obtain ⟨X, hX⟩ : ∃ X, rootOf d N f = X := ⟨_, rfl⟩
    obtain ⟨KP, hKP⟩ : ∃ K, wrongP d N i = K := ⟨_, rfl⟩
    obtain ⟨L, hL⟩ : ∃ L, pathLen d N i = L := ⟨_, rfl⟩
    obtain ⟨p, hp⟩ : ∃ p, sib (ext N f) i.toNat = p := ⟨_, rfl⟩
    have hk3 := wrong3 d N
    have hk4 := wrongP3 d N i
    rw [hK] at hk3
    rw [hKP] at hk4
    have HK3 := Lib.hid (And.intro hk3 hk4)
    clear hk3 hk4
    have hr4 := root_any d a9 N c9 f y0 (T0.out.at (by simp)) HC9.out.1 HC9.out.2.1 (by have := HNN.out.2.1; omega) (ktab_below HT.out T0.out.below)
    rw [hK, hX] at hr4
    have HR4 := Lib.hid hr4
    have hr5 := fun y (hy : IsHs y a N f) => refRoot d a N c f y hy HNN.out.2.2 (by have := HNN.out.2.1; omega)
    rw [hK, hX] at hr5
    have HR5 := Lib.hid hr5
    have hr6 := fun y (hy : IsHs y a9 N f) (hk : Laid.KTab y) => path_any d a9 N c9 f i y hy HC9.out.1 HC9.out.2.1 (by have := HNN.out.2.1; omega) hk
    rw [hKP, hL, hp] at hr6
    have HR6 := Lib.hid hr6
    have hr7 := fun y (hy : IsHs y a N f) => refPath_any d a N c f i y hy HNN.out.2.2 (by have := HNN.out.2.1; omega)
    rw [hKP, hL, hp] at hr7
    have HR7 := Lib.hid hr7
    have HL16 : Hid (L ≤ 9223372036854775807) := Lib.hid (by
      rw [← hL]; unfold pathLen; split
      · rename_i h0
        by_cases h1 : wrong d N = 0
        · obtain ⟨k, rfl, hk, _⟩ := wrong_ok h1
          rw [Int.toNat_natCast]; omega
        · unfold wrongP at h0; rw [if_pos h1] at h0; exact absurd h0 h1
      · omega)
    clear hr4 hr5 hr6 hr7 hK hX hKP hL hp
    go_upto_region 5 with (first
      | (go_at_call 8; (with_reducible refine HR4.out.mono ?_); rintro e v4 ⟨rfl, hb⟩; have K4 := Lib.hid (T0.out.next hb); clear hb)
      | ((with_reducible refine wpList_store_row (P := Tryd.prog) (w := v4.alloc (.cells zh 27)) ?_ 27 (.tmp 10) (.tmp 31) ?_ v4.heap.size (tab 32 fun i => bv (X i)) ?_ ?_ 27 zh (heap_alloc_last v4 _) (infH _) ?_ (one_bv _ _) ?_); (· exact rfl); (· exact rfl); (· exact rfl); (· exact rfl); (· rw [HZL.out, tab_size]); rw [World.setRow_alloc_new]; simp only [Act.put]))
    have T4 := Lib.hid (K4.out.add 27 X)
    clear K4 HR4 T0
    generalize v4.alloc (.cells (tab 32 fun i => bv (X i)) 27) = y4 at *
    generalize v4.heap.size = q10 at *
    go_upto_region 6 with (first
      | (go_at_call 15; (with_reducible refine (HR5.out _ (T4.out.at (by simp))).mono ?_); rintro e v5 ⟨rfl, hb⟩; have K5 := Lib.hid (T4.out.next hb); clear hb)
      | ((with_reducible refine wpList_store_row (P := Tryd.prog) (w := v5.alloc (.cells zh 26)) ?_ 26 (.tmp 12) (.tmp 37) ?_ v5.heap.size (tab 32 fun i => bv (X i)) ?_ ?_ 26 zh (heap_alloc_last v5 _) (inf26 _) ?_ (one_bv _ _) ?_); (· exact rfl); (· exact rfl); (· exact rfl); (· exact rfl); (· rw [HZL.out, tab_size]); rw [World.setRow_alloc_new]; simp only [Act.put]))
    have T5 := Lib.hid (K5.out.add 26 X)
    clear K5 HR5 T4
    generalize v5.alloc (.cells (tab 32 fun i => bv (X i)) 26) = y5 at *
    generalize v5.heap.size = q12 at *
    go_upto_region 7 with (first
      | (go_at_call 12; (with_reducible refine (HR6.out _ (T5.out.at (by simp)) (ktab_below HT.out T5.out.below)).mono ?_); rintro e y6 ⟨V6, rfl, hrow, hb⟩; have H6 := Lib.hid (And.intro hrow hb); clear hrow hb))
    obtain ⟨a6, c6, rfl, h61, h62, h63, h64, _⟩ := hs_of H6.out.1
    have T6 := Lib.hid ((T5.out.next H6.out.2).row h61)
    clear h61 h62 h63 h64 H6 HR6 T5
    go_upto_region 8 with (first
      | (go_at_call 16; (with_reducible refine (HR7.out _ (T6.out.at (by simp))).mono ?_); rintro e y7 ⟨a7, c7, rfl, hrow, hb⟩; have T7 := Lib.hid ((T6.out.next hb).row hrow); clear hrow hb))
    clear HR7 T6

    by_cases hb : ht0 < 0 ∨ 16 < ht0
    · have hr8 := zero_bad ht0 hb y7
      obtain ⟨Z, hZ⟩ : ∃ Z, zero 0 = Z := ⟨_, rfl⟩
      rw [hZ] at hr8
      have HR8 := Lib.hid hr8
      have HZZ := Lib.hid hZ
      clear hr8 hZ
      go_upto_region 9 with (first
        | (go_at_call 11; (with_reducible refine HR8.out.mono ?_); rintro e v8 ⟨rfl, hb⟩; have K8 := Lib.hid (T7.out.next hb); clear hb)
        | ((with_reducible refine wpList_store_row (P := Tryd.prog) (w := v8.alloc (.cells zh 27)) ?_ 27 (.tmp 18) (.tmp 56) ?_ v8.heap.size (tab 32 fun i => bv (Z i)) ?_ ?_ 27 zh (heap_alloc_last v8 _) (infH _) ?_ (one_bv _ _) ?_); (· exact rfl); (· exact rfl); (· exact rfl); (· exact rfl); (· rw [HZL.out, tab_size]); rw [World.setRow_alloc_new]; simp only [Act.put]))
      have T8 := Lib.hid (K8.out.add 27 Z)
      clear K8 HR8 T7
      generalize v8.alloc (.cells (tab 32 fun i => bv (Z i)) 27) = y8 at *
      generalize v8.heap.size = q18 at *
      have HF := Lib.hid (fixed5 y8 (ktab_below HT.out T8.out.below))
      go_upto_region 11 with (first
        | (go_at_call 10; (with_reducible refine HF.out.mono ?_); rintro e y9 ⟨rfl, hb⟩; have T9 := Lib.hid (T8.out.next hb); have D10 := Lib.hid (T9.out.loadH (q := q10) (x := X) (by simp)); have D12 := Lib.hid (T9.out.loadR (q := q12) (x := X) (by simp)); have HN9 := Lib.hid (number_any K HK3.out.1 y9 (keep1 (by have h9 := T9.out.below; exact h9) HG.out)); clear hb)
        | ((with_reducible refine wpList_loadG (P := Tryd.prog) (w := y9) (ty := 27) (x := .tmp 10) (p := .pointer (some ⟨q10, 0, none⟩)) (v := dv X) ?_ ?_ ?_ D10.out ?_); rotate_left; (· exact rfl); (· exact rfl); rotate_left; (· go_simp))
        | ((with_reducible refine wpList_loadG (P := Tryd.prog) (w := y9) (ty := 26) (x := .tmp 12) (p := .pointer (some ⟨q12, 0, none⟩)) (v := dv X) ?_ ?_ ?_ D12.out ?_); rotate_left; (· exact rfl); (· exact rfl); rotate_left; (· go_simp))
        | ((with_reducible refine wpList_neqG (w := y9) ?_ (.tmp 61) (.tmp 62) 27 X ?_ ?_ ?_ ?_); rotate_left; (· exact rfl); (· exact rfl); (· exact rfl); rotate_left; (· go_simp))
        | (go_at_call 17; (with_reducible refine HN9.out.mono ?_); rintro e y10 ⟨rfl, hb⟩; have T10 := Lib.hid (T9.out.next hb); have HS10 := Lib.hid (same_yes a6 a7 L c6 c7 p y10 (T10.out.at (by simp)) (T10.out.at (by simp)) HL16.out); clear hb)
        | (go_at_call 18; (with_reducible refine HS10.out.mono ?_); rintro e y11 ⟨rfl, hb⟩; have T11 := Lib.hid (T10.out.next hb); have HN11 := Lib.hid (number_any KP HK3.out.2 y11 (keep1 (by have h9 := T11.out.below; exact h9) HG.out)); clear hb)
        | (go_at_call 17; (with_reducible refine HN11.out.mono ?_); rintro e y12 ⟨rfl, hb⟩; have T12 := Lib.hid (T11.out.next hb); have HS12 := Lib.hid (same_yes a9 a N c9 c f y12 (T12.out.at (by simp)) (T12.out.at (by simp)) (by have := HNN.out.2.1; omega)); clear hb)
        | (go_at_call 18; (with_reducible refine HS12.out.mono ?_); rintro e y13 ⟨rfl, hb⟩; have T13 := Lib.hid (T12.out.next hb); clear hb))
      clear HF T8 T9 T10 T11 T12 D10 D12 HN9 HS10 HN11 HS12
      have D18 := Lib.hid (T13.out.loadH (q := q18) (x := Z) (by simp))
      have EI := Lib.hid (Err.is_num 2 2 y13)
      have z2' : ∀ u, (zeroValue 27).run Tryd.prog u = .ok (dv Z) u := fun u => by rw [← HZZ.out]; exact zeroHash u
      clear z2 z3
      rcases hb with hb | hb
      case' inr => have hb0 : 0 ≤ ht0 := by omega
      all_goals
        go_wp2_with (first
          | (go_at_call 14; (with_reducible refine EI.out.mono ?_); rintro e _ ⟨rfl, rfl⟩)
          | ((with_reducible refine wpList_loadG (P := Tryd.prog) (w := y13) (ty := 27) (x := .tmp 18) (p := .pointer (some ⟨q18, 0, none⟩)) (v := dv Z) ?_ ?_ ?_ D18.out ?_); rotate_left; (· exact rfl); (· exact rfl); rotate_left; (· go_simp))
          | ((with_reducible refine wpList_eqG (w := y13) ?_ (.tmp 99) (.tmp 100) 27 Z Z ?_ ?_ ?_ ?_); rotate_left; (· exact rfl); (· exact rfl); (· exact rfl); rotate_left; (· go_simp); rw [same32_refl]))
        go_ret
        exact ⟨rfl, T13.out.below⟩
    · obtain ⟨M, rfl⟩ : ∃ M : Nat, ht0 = M := ⟨ht0.toNat, by omega⟩
      have hM0 : (M : Int) ≤ 16 := by omega
      clear hb
      have hr8 := zero_ok M (by omega) y7 (ktab_below HT.out T7.out.below)
      obtain ⟨Z, hZ⟩ : ∃ Z, zero M = Z := ⟨_, rfl⟩
      rw [hZ] at hr8
      have HR8 := Lib.hid hr8
      have HZZ := Lib.hid hZ
      clear hr8 hZ
      go_upto_region 9 with (first
        | (go_at_call 11; (with_reducible refine HR8.out.mono ?_); rintro e v8 ⟨rfl, hb⟩; have K8 := Lib.hid (T7.out.next hb); clear hb)
        | ((with_reducible refine wpList_store_row (P := Tryd.prog) (w := v8.alloc (.cells zh 27)) ?_ 27 (.tmp 18) (.tmp 56) ?_ v8.heap.size (tab 32 fun i => bv (Z i)) ?_ ?_ 27 zh (heap_alloc_last v8 _) (infH _) ?_ (one_bv _ _) ?_); (· exact rfl); (· exact rfl); (· exact rfl); (· exact rfl); (· rw [HZL.out, tab_size]); rw [World.setRow_alloc_new]; simp only [Act.put]))
      have T8 := Lib.hid (K8.out.add 27 Z)
      clear K8 HR8 T7
      generalize v8.alloc (.cells (tab 32 fun i => bv (Z i)) 27) = y8 at *
      generalize v8.heap.size = q18 at *
      have HF := Lib.hid (fixed5 y8 (ktab_below HT.out T8.out.below))
      go_upto_region 11 with (first
        | (go_at_call 10; (with_reducible refine HF.out.mono ?_); rintro e y9 ⟨rfl, hb⟩; have T9 := Lib.hid (T8.out.next hb); have D10 := Lib.hid (T9.out.loadH (q := q10) (x := X) (by simp)); have D12 := Lib.hid (T9.out.loadR (q := q12) (x := X) (by simp)); have HN9 := Lib.hid (number_any K HK3.out.1 y9 (keep1 (by have h9 := T9.out.below; exact h9) HG.out)); clear hb)
        | ((with_reducible refine wpList_loadG (P := Tryd.prog) (w := y9) (ty := 27) (x := .tmp 10) (p := .pointer (some ⟨q10, 0, none⟩)) (v := dv X) ?_ ?_ ?_ D10.out ?_); rotate_left; (· exact rfl); (· exact rfl); rotate_left; (· go_simp))
        | ((with_reducible refine wpList_loadG (P := Tryd.prog) (w := y9) (ty := 26) (x := .tmp 12) (p := .pointer (some ⟨q12, 0, none⟩)) (v := dv X) ?_ ?_ ?_ D12.out ?_); rotate_left; (· exact rfl); (· exact rfl); rotate_left; (· go_simp))
        | ((with_reducible refine wpList_neqG (w := y9) ?_ (.tmp 61) (.tmp 62) 27 X ?_ ?_ ?_ ?_); rotate_left; (· exact rfl); (· exact rfl); (· exact rfl); rotate_left; (· go_simp))
        | (go_at_call 17; (with_reducible refine HN9.out.mono ?_); rintro e y10 ⟨rfl, hb⟩; have T10 := Lib.hid (T9.out.next hb); have HS10 := Lib.hid (same_yes a6 a7 L c6 c7 p y10 (T10.out.at (by simp)) (T10.out.at (by simp)) HL16.out); clear hb)
        | (go_at_call 18; (with_reducible refine HS10.out.mono ?_); rintro e y11 ⟨rfl, hb⟩; have T11 := Lib.hid (T10.out.next hb); have HN11 := Lib.hid (number_any KP HK3.out.2 y11 (keep1 (by have h9 := T11.out.below; exact h9) HG.out)); clear hb)
        | (go_at_call 17; (with_reducible refine HN11.out.mono ?_); rintro e y12 ⟨rfl, hb⟩; have T12 := Lib.hid (T11.out.next hb); have HS12 := Lib.hid (same_yes a9 a N c9 c f y12 (T12.out.at (by simp)) (T12.out.at (by simp)) (by have := HNN.out.2.1; omega)); clear hb)
        | (go_at_call 18; (with_reducible refine HS12.out.mono ?_); rintro e y13 ⟨rfl, hb⟩; have T13 := Lib.hid (T12.out.next hb); clear hb))
      clear HF T8 T9 T10 T11 T12 D10 D12 HN9 HS10 HN11 HS12

      have hM1 : (0 : Int) ≤ (M : Int) := by omega
      go_upto_region 13 with (fail)
      have NE : Nonempty (Wd (Mb w [(a7, L, p), (a6, L, p), (a, N, f), (a9, N, f)] [(q18, 27, Z), (q12, 26, X), (q10, 27, X)])) := ⟨⟨_, T13.out⟩⟩
      have l18 : ∀ u, (∃ z : Wd (Mb w [(a7, L, p), (a6, L, p), (a, N, f), (a9, N, f)] [(q18, 27, Z), (q12, 26, X), (q10, 27, X)]), u = z.val) → (Instr.loadAt 27 (.pointer (some ⟨q18, 0, none⟩))).run Tryd.prog u = .ok (dv Z) u := fun u ⟨z, hz⟩ => by rw [hz]; exact z.ok.loadH (by simp)
      have L18 := Lib.hid l18
      clear l18
      have c1 := fun z : Wd (Mb w [(a7, L, p), (a6, L, p), (a, N, f), (a9, N, f)] [(q18, 27, Z), (q12, 26, X), (q10, 27, X)]) => in_of_below z (fun y hb => z.ok.next hb) (refZero M (by omega) z.val)
      rw [HZZ.out] at c1
      have Q1 := Lib.hid c1
      clear c1
      have e1 := eqlT Z
      have eG := guardE
      have HR : Hid ((Mb w [(a7, L, p), (a6, L, p), (a, N, f), (a9, N, f)] [(q18, 27, Z), (q12, 26, X), (q10, 27, X)]) y13.drew) := Lib.hid T13.out.drew
      refine wp_region_in (Mb w [(a7, L, p), (a6, L, p), (a, N, f), (a9, N, f)] [(q18, 27, Z), (q12, 26, X), (q10, 27, X)]) (by kernel_rfl) (by kernel_rfl) HR.out ?_
      repeat (first
        | (refine wpQuiet_loadg 27 _ (.pointer (some ⟨q18, 0, none⟩)) _ (by rfl) rfl rfl L18.out ?_; simp only [Act.put, List.setIfInBounds_toArray, List.set_cons_zero, List.set_cons_succ])
        | (go_big_quiet_step (with_reducible exact Q1.out _)))
      refine wpQuiet_nil ?_
      rintro _ ⟨z, rfl⟩
      go_wp2_with fail
      go_ret
      exact ⟨rfl, z.ok.below⟩
end Mk
theorem merkleTrees_walk {w : World} (a0 : Int) (a1 : Option Addr) (len1 cap1 : Nat) (f1 : Nat → Mk.Hx) (a2 a3 : Int) (w0 : (Lit.int .i64 a0).wf = true) (w1 : Mk.IsHs w a1 len1 f1) (n1 : a1 = none → len1 = 0 ∧ cap1 = 0) (l1 : len1 ≤ cap1) (s1 : cap1 * 32 ≤ 140737488351232) (w2 : (Lit.int .i64 a2).wf = true) (w3 : (Lit.int .i64 a3).wf = true)
    (hg : w.cell? ⟨0, 0, none⟩ = some (.iface 82 (.agg #[.pointer (some ⟨2, 29, none⟩)]))) (ht : Laid.KTab w) :
    Calls Tryd.prog 5 #[.int .i64 a0, .slice a1 len1 cap1, .int .i64 a2, .int .i64 a3] w fun e w' => e = .returned (.bool true) ∧ Below w.heap.size w w' :=
  Mk.trees_walk a0 a1 len1 cap1 f1 a2 a3 w w1 n1 l1 (by omega) ht hg
end Go.Proofs.YtnfcjangminhoaaDoor
