/- Layer 11: CommitProofs: the document's leaves, a place past the memory, a place in it. Merged of Cu, Cr, Ct, Cs, Cv by mg12.py. Own work. -/
import Derived.Test.YtgffohmneobblaaDoorCl
import Derived.Test.YtgffohmneobblaaDoorMp
import Derived.Test.YtgffohmneobblaaDoorCe
import Derived.Test.YtgffohmneobblaaDoorCq
import Derived.Laws.BitsAllLaws
namespace Go.Proofs.YtgffohmneobblaaDoor
open Go.RowKit
set_option linter.unusedVariables false
set_option linter.unusedSimpArgs false
namespace Co
open Kc Mk Vm
theorem infRr (g : Nat → Value) : (Tryd.prog.info? 41).map (·.size) = some (tab 32 g).size := by rw [tab_size]; exact infR
theorem undRr : Tryd.prog.underlying 41 = some (.array 32 5) := by kernel_rfl
set_option maxHeartbeats 2000000 in
set_option maxRecDepth 100000 in
theorem rleaf_walk (w : World) (v : Nat) (hv : v < 18446744073709551616) :
    Calls Tryd.prog 34 #[.int .u64 v] w fun e w' => e = .returned (dv (lfX v)) ∧ Below w.heap.size w w' := by
  have HV := Lib.hid hv
  clear hv
  have z2 := zero26
  generalize hz : (tab 32 fun _ => bv 0#8) = zh at *
  have HZ := Lib.hid hz
  clear hz
  go_enter Tryd.func34, Tryd.ntmps34
  go_upto_region 2 with (fail)
  have H1 : Hid (IsTab ((w.alloc (.cells zh 41)).alloc (.cells zh 41)) (w.heap.size + 1) 41 32 (fun _ => bv 0#8) ∧ IsTab ((w.alloc (.cells zh 41)).alloc (.cells zh 41)) w.heap.size 41 32 (fun _ => bv 0#8) ∧ Below w.heap.size w ((w.alloc (.cells zh 41)).alloc (.cells zh 41))) := Lib.hid (by
    have e1 : (w.alloc (.cells zh 41)).heap.size = w.heap.size + 1 := by simp
    have t6 := put_newR (w.alloc (.cells zh 41)) zh HZ.out
    rw [e1] at t6
    exact ⟨t6, (put_newR w zh HZ.out).alloc _, ((Below.refl _ _).alloc (Nat.le_refl _) _).alloc (by simp) _⟩)
  generalize (w.alloc (.cells zh 41)).alloc (.cells zh 41) = y0 at *
  generalize hq1 : w.heap.size + 1 = q1 at *
  generalize hq : w.heap.size = q0 at *
  have HQ := Lib.hid (And.intro hq hq1)
  clear hq hq1
  go_upto_region 3 with (fail)
  have HP : Hid (Rl.Put y0 q1 41 32 (Rl.putv (fun _ => bv 0#8) 3 v 0) y0) := Lib.hid ⟨by rw [Rl.putv_zero]; exact H1.out.1, Kept.refl _ _⟩
  go_loopw [4] (fun i y => ∃ j : Nat, i = .int .i64 j ∧ Hid (j ≤ 8 ∧ Rl.Put y0 q1 41 32 (Rl.putv (fun _ => bv 0#8) 3 v j) y)) (fun i _ => 8 - (intOf i).toNat)
  case atStart => exact ⟨0, rfl, Lib.hid ⟨Nat.zero_le _, HP.out⟩⟩
  case round =>
    obtain ⟨j, rfl, hp⟩ := hrel
    have HR := Lib.hid hp.out
    clear hp HP
    by_cases hlt : (j : Int) < 8
    · have x1 := HR.out.2.row.cell (24 + j) (by omega)
      have x2 := HR.out.2.row.fz (24 + j)
      have HJ := Lib.hid (And.intro (show j < 8 by omega) (show wrap64 ((j : Int) + 1) = ((j + 1 : Nat) : Int) by unfold wrap64; omega))
      obtain ⟨J, hJ⟩ : ∃ J, 24 + j = J := ⟨_, rfl⟩
      rw [hJ] at x1 x2
      have e2 : wrap64 (24 + (j : Int)) = (J : Int) := by unfold wrap64; omega
      have e3 : wrap64 (8 * (j : Int)) = ((8 * j : Nat) : Int) := by unfold wrap64; omega
      have e4 : wrap64 (56 - ((8 * j : Nat) : Int)) = ((56 - 8 * j : Nat) : Int) := by unfold wrap64; omega
      have e5 : (J : Int) < 32 := by omega
      go_wp2_with (fail)
      go_roundw
      case rel =>
        refine ⟨j + 1, by go_num, Lib.hid ⟨HJ.out.1, ?_⟩⟩
        have h9 := HR.out.2.set (8 * 3 + j) (Rl.ub (Rl.byteOf v j))
        rw [Rl.putv_next, show 8 * 3 + j = J from by omega] at h9
        have e9 : Rl.ub (Rl.byteOf v j) = .int .u8 ((v : Int) / 2 ^ (56 - 8 * j) % 256) := by unfold Rl.ub Rl.byteOf; push_cast; rfl
        rw [← e9]; exact h9
      case measure => simp [intOf]; omega
    · obtain rfl : j = 8 := by have := HR.out.1; omega
      have H2 : Hid (IsTab wr q1 41 32 (fun j => bv (lfX v j)) ∧ IsTab wr q0 41 32 (fun _ => bv 0#8) ∧ Below q0 w wr) := Lib.hid ⟨HR.out.2.row.cong fun j _ => put_lf v j, (HR.out.2.kept.block q0 H1.out.2.1.lt (by have := HQ.out; omega)).trans H1.out.2.1, H1.out.2.2.trans (HR.out.2.kept.below (by have := H1.out.2.2.size; have := HQ.out; omega) fun k _ hk => by rw [hk]; have := HQ.out; omega)⟩
      clear H1 HR
      have D := Lib.hid (load32r H2.out.1)
      go_wp2_with (first
        | ((with_reducible refine wpList_loadE (P := Tryd.prog) (w := wr) (ty := 41) (x := .tmp 3) (p := .pointer (some ⟨q1, 0, none⟩)) (v := dv (lfX v)) ?_ ?_ ?_ D.out ?_); (· exact rfl); (· exact rfl); (· exact rfl))
        | ((with_reducible refine wpList_store_row (P := Tryd.prog) (w := wr) ?_ 41 (.tmp 2) (.tmp 19) ?_ q0 (tab 32 fun i => bv (lfX v i)) ?_ ?_ 41 (tab 32 fun _ => bv 0#8) ?_ (infRr _) ?_ (one_bv _ _) ?_); (· exact rfl); (· exact rfl); (· exact rfl); (· exact rfl); (· exact H2.out.2.1); (· rw [tab_size, tab_size])))
      have hr : IsTab (World.setRow wr q0 (tab 32 fun j => bv (lfX v j))) q0 41 32 fun j => bv (lfX v j) := H2.out.2.1.row
      exact bodyPost_ret (results_cell_row rfl _ _ q0 41 _ (0, 0) _ rfl hr undRr rfl (infRr _)) rfl ⟨rfl, by rw [HQ.out.1]; exact below_setRow H2.out.2.2 (Nat.le_refl _) _⟩
set_option maxHeartbeats 8000000 in
set_option maxRecDepth 100000 in
theorem ext_less (f : Nat → Hx) (n m : Nat) (h : n ≤ m) (hz : ∀ k, n ≤ k → k < m → f k = Mk.zero 0) : ext n f = ext m f := by
  funext k
  unfold ext
  by_cases h1 : k < n
  · rw [if_pos h1, if_pos (by omega)]
  · rw [if_neg h1]
    by_cases h2 : k < m
    · rw [if_pos h2, hz k (by omega) h2]
    · rw [if_neg h2]
theorem rleaves_in (w : World) (qm N : Nat) (hN : N = 8192) (M : Mac) (hm : IsTab w qm 33 8192 (uv M.mem)) (hok : ∀ i, M.mem i < 18446744073709551616) :
    Calls Tryd.prog 26 #[.slice (some ⟨qm, 0, none⟩) N N] w fun e w' => ∃ a n c, e = .returned (.slice a n c) ∧ IsHs w' a n (mlf M) ∧ n ≤ c ∧ n ≤ 8192 ∧ ext n (mlf M) = mg M ∧ Below w.heap.size w w' := by
  have HM := Lib.hid hm
  have HO := Lib.hid hok
  have HN := Lib.hid hN
  clear hN
  obtain ⟨i0, hi0, hi1, hi2, hi3⟩ := infRs
  have HI := Lib.hid (And.intro hi0 (And.intro hi1 (And.intro hi2 hi3)))
  clear hm hok hi0 hi1 hi2 hi3
  go_enter Tryd.func26, Tryd.ntmps26
  go_upto_region 3 with (fail)
  have HS : Hid (IsTab w qm 33 8192 (uv M.mem) ∧ Below w.heap.size w w) := Lib.hid ⟨HM.out, Below.refl _ _⟩
  go_loopw [3, 4] (fun tv t y => ∃ L r : Nat, tv = .int .i64 L ∧ t = .int .i64 r ∧ Hid (r ≤ N ∧ L ≤ r ∧ (∀ k, L ≤ k → k < r → M.mem k = 0) ∧ IsTab y qm 33 8192 (uv M.mem) ∧ Below w.heap.size w y)) (fun _ t _ => N - (intOf t).toNat)
  case atStart => exact ⟨0, 0, rfl, rfl, Lib.hid ⟨Nat.zero_le _, Nat.le_refl _, fun k h1 h2 => absurd h2 (Nat.not_lt_zero _), HS.out⟩⟩
  case round =>
    obtain ⟨L, r, rfl, rfl, hp⟩ := hrel
    have HP := Lib.hid hp.out
    clear hp HS
    by_cases hlt : (r : Int) < (N : Int)
    · have hr : r < 8192 := by have := HN.out; omega
      have HJ : Hid (r + 1 ≤ N ∧ wrap64 ((r : Int) + 1) = ((r + 1 : Nat) : Int)) := Lib.hid ⟨by have := HN.out; omega, by have := HN.out; unfold wrap64; omega⟩
      have hk : wr.cell? ⟨qm, r, none⟩ = some (.int .u64 (M.mem r)) := IsTab.cell HP.out.2.2.2.1 r hr
      have hw1 := HJ.out.2
      by_cases hx : M.mem r = 0
      · rw [hx] at hk
        have HX := Lib.hid hx
        clear hx hr
        go_wp2_with (fail)
        go_roundw
        case rel => exact ⟨L, r + 1, rfl, by go_num, Lib.hid ⟨HJ.out.1, by have := HP.out.2.1; omega, fun k h1 h2 => by
          rcases Nat.lt_or_ge k r with h | h
          · exact HP.out.2.2.1 k h1 h
          · obtain rfl : k = r := by omega
            exact HX.out, HP.out.2.2.2.1, HP.out.2.2.2.2⟩⟩
        case measure => rw [hw1]; exact (show N - (r + 1) < N - r from Nat.sub_lt_sub_left (by omega) (Nat.lt_succ_self r))
      · generalize M.mem r = x at *
        have t1 : (((x : Nat) : Int) == 0) = false := by simp; omega
        have t2 : ¬ (((x : Nat) : Int) = 0) := by omega
        clear hx hr
        go_wp2_with (fail)
        go_roundw
        case rel => exact ⟨r + 1, r + 1, by go_num, by go_num, Lib.hid ⟨HJ.out.1, Nat.le_refl _, fun k h1 h2 => by omega, HP.out.2.2.2.1, HP.out.2.2.2.2⟩⟩
        case measure => rw [hw1]; exact (show N - (r + 1) < N - r from Nat.sub_lt_sub_left (by omega) (Nat.lt_succ_self r))
    · obtain rfl : N = r := by have := HP.out.1; have := HN.out; omega
      go_upto_region 9 with (fail)
      have HP0 : Hid (Pg wr (mlf M) 0 (.slice none 0 0) wr) := Lib.hid ⟨World.ownsRow_nil _ _ _ _, Below.refl _ _⟩
      generalize wr = y1 at *
      have HL : Hid ((L : Int) ≤ (N : Int)) := Lib.hid (by have := HP.out.2.1; omega)
      have hL := HL.out
      clear hlt
      go_loopw [5, 6] (fun tv t y => ∃ r : Nat, r ≤ L ∧ t = .int .i64 r ∧ Hid (Pg y1 (mlf M) r tv y)) (fun _ t _ => L - (intOf t).toNat)
      case atStart => exact ⟨0, Nat.zero_le _, rfl, HP0⟩
      case round =>
        obtain ⟨r, hr, rfl, hp⟩ := hrel
        clear HP0
        generalize u5 = V at *
        by_cases hlt2 : (r : Int) < (L : Int)
        · have hr2 : r < 8192 := by have := HN.out; have := HL.out; omega
          have hk : wr.cell? ⟨qm, r, none⟩ = some (.int .u64 (M.mem r)) := IsTab.cell (HP.out.2.2.2.1.below (hp.out.below.mono (Nat.le_refl _))) r hr2
          have hr3 : (r : Int) < (N : Int) := by have := HN.out; omega
          have HJ : Hid (r + 1 ≤ L ∧ wrap64 ((r : Int) + 1) = ((r + 1 : Nat) : Int)) := Lib.hid ⟨by omega, by have := HN.out; unfold wrap64; omega⟩
          have hw1 := HJ.out.2
          have HUN := Lib.hid (rleaf_walk wr (M.mem r) (HO.out r))
          have e0 : lfX (M.mem r) = mlf M r := rfl
          rw [e0] at HUN
          generalize hx : mlf M r = x at *
          have HX := Lib.hid hx
          clear hx e0
          have H32 : Hid (0 < 32) := Lib.hid (by decide)
          have hlb : Hid (r + 1 ≤ maxLen ∧ (r + 1) * 32 ≤ 140737488355328) := Lib.hid ⟨by have := HN.out; unfold maxLen; omega, by have := HN.out; omega⟩
          clear hr2
          generalize M.mem r = mv at *
          go_upto_region 10 with (first
            | (go_at_call 34; (with_reducible refine HUN.out.mono ?_); rintro e y2 ⟨he, hb⟩; obtain rfl : e = _ := he; have H2 := Lib.hid (hp.out.next hb); have HBD := Lib.hid (buildR x y2); have HSR := Lib.hid (src1R y2 x); have HOW := Lib.hid (H2.out.row.alloc (.cells (tab 32 fun j => bv (x j)) 41)); have HBS : Hid (y1.heap.size ≤ (y2.alloc (.cells (tab 32 fun j => bv (x j)) 41)).heap.size) := Lib.hid (by have := H2.out.below.size; simp; omega); clear hb)
            | ((with_reducible refine wpList_build1 (P := Tryd.prog) (w := y2) (t := 73) (x := .tmp 30) (p := dv x) (v := .slice (some ⟨y2.heap.size, 0, none⟩) 1 1) (w' := y2.alloc (.cells (tab 32 fun j => bv (x j)) 41)) ?_ ?_ ?_ HBD.out ?_); (· exact rfl); (· exact rfl); (· exact rfl))
            | (at_builtin; (with_reducible refine wpList_append_any (P := Tryd.prog) (w := y2.alloc (.cells (tab 32 fun j => bv (x j)) 41)) ?_ (.tmp 25) (.tmp 31) 73 ?_ y1.heap.size 41 i0 (dv fun _ => 0#8) 32 32 undRs HI.out zcells H32.out V r (flat r (mlf M)) ?_ HOW.out (some ⟨y2.heap.size, 0, none⟩) 1 1 (flat 1 fun _ => x) ?_ HSR.out (flat_one _ _) hlb.out.1 hlb.out.2 HBS.out ?_); (· exact rfl); (· exact rfl); (· exact rfl); (· exact rfl); intro V7 w7 hown7 hgr7 hat7))
          have H8 : Hid (Pg y1 (mlf M) (r + 1) V7 w7) := by
            rw [← HX.out, flat_step] at hown7
            have hb8 : Below y1.heap.size y1 (y2.alloc (.cells (tab 32 fun j => bv (x j)) 41)) := H2.out.below.alloc H2.out.below.size _
            exact Lib.hid ⟨hown7, grown_below hb8 HOW.out hgr7⟩
          clear hown7 hgr7 hat7 H2 HBD HSR HOW HBS H32 hlb HUN HX hk
          go_wp2_with fail
          go_roundw
          case rel => exact ⟨r + 1, by omega, by go_num, H8⟩
          case measure => rw [hw1]; exact (show L - (r + 1) < L - r from Nat.sub_lt_sub_left (by omega) (Nat.lt_succ_self r))
        · obtain rfl : r = L := by omega
          obtain ⟨a, c, rfl, hsa, _, hc, _⟩ := hs_of hp.out.row
          go_wp2_with fail
          go_ret
          refine ⟨a, r, c, rfl, hsa, hc, by have := HN.out; omega, ?_, HP.out.2.2.2.2.trans (hp.out.below.mono HP.out.2.2.2.2.size)⟩
          exact ext_less _ _ _ (by have := HN.out; omega) fun k h1 h2 => by
            show lfX (M.mem k) = _
            rw [HP.out.2.2.1 k h1 (by have := HN.out; omega), lf_zero]
theorem rleaves_walk (w : World) (qm : Nat) (M : Mac) (hm : IsTab w qm 33 8192 (uv M.mem)) (hok : ∀ i, M.mem i < 18446744073709551616) :
    Calls Tryd.prog 26 #[.slice (some ⟨qm, 0, none⟩) 8192 8192] w fun e w' => ∃ a n c, e = .returned (.slice a n c) ∧ IsHs w' a n (mlf M) ∧ n ≤ c ∧ n ≤ 8192 ∧ ext n (mlf M) = mg M ∧ Below w.heap.size w w' := rleaves_in w qm 8192 rfl M hm hok
end Co
end Go.Proofs.YtgffohmneobblaaDoor
/-
  Layer 11: CommitProofs, a place past the memory. Written by genCr.py. Own work.
-/
namespace Go.Proofs.YtgffohmneobblaaDoor
open Go.RowKit Go.ChangeShapes
set_option linter.unusedVariables false
set_option linter.unusedSimpArgs false
namespace Co
open Kc Mk Vm
theorem buildPt0 (w : World) : (Instr.build 54 #[]).run Tryd.prog w = .ok (.agg #[.int .u64 0, .slice none 0 0]) w := by kernel_rfl
set_option maxHeartbeats 16000000 in
set_option maxRecDepth 100000 in
theorem proofs_far (w : World) (a0 : Option Addr) (len0 cap0 P V : Nat) (at0 : Int) (tb : Bt) (f : Nat → Nat × Nat) (hl : len0 ≤ maxLen) (hf : IsCl w a0 len0 f) (hfb : ∀ j, (f j).1 < 18446744073709551616 ∧ (f j).2 < 18446744073709551616) (hv1 : V < 18446744073709551616) (hp : P < 18446744073709551616) (ht : Laid.KTab w) (hfar : 8192 ≤ P) :
    Calls Tryd.prog 6 #[.slice a0 len0 cap0, .int .u64 P, .int .u64 V, .int .i64 at0, .int .u8 (Bv tb)] w fun e w' => e = .returned (.bool true) ∧ Below w.heap.size w w' := by
  have HT := Lib.hid ht
  have hl1 := laid_walk w a0 none len0 cap0 0 0 0 0 false f (fun _ => 0) hf (.inl rfl) hl (by decide) (min len0 100) 0 rfl (by decide)
  rw [show ((0 : Nat) : Int) = 0 from rfl] at hl1
  have hok : ∀ i, (endM (layR (fun _ => 0) 0 (layC f (min len0 100) (loaded 0 fun _ => 0))) 0 0 false).mem i < 18446744073709551616 := fun i => layC_lt f hfb _ i
  generalize endM (layR (fun _ => 0) 0 (layC f (min len0 100) (loaded 0 fun _ => 0))) 0 0 false = M at *
  have HOK := Lib.hid (And.intro hok (And.intro hv1 hp))
  have HL := Lib.hid hl1
  clear hl1 hok hf hfb hl hv1 hp ht
  have t1 : decide (8192 ≤ (P : Int)) = true := by simp; omega
  have t1b : (8192 : Int) ≤ (P : Int) := by omega
  have HFAR := Lib.hid t1b
  have HBP := Lib.hid buildPt0
  have HIS := Lib.hid (fun y : World => (show Calls Tryd.prog 31 #[.iface 85 (.int .i64 2), .iface 85 (.int .i64 2)] y fun e w' => e = .returned (.bool true) ∧ y = w' from Err.is_num 2 2 y))
  clear hfar t1b
  have z2 := zeroHash
  have HBH := Lib.hid (fun u : World => buildH0 u)
  generalize hz : (tab 32 fun _ => bv 0#8) = zh at *
  have HZ := Lib.hid hz
  clear hz
  have HZI : Hid ((Tryd.prog.info? 42).map (·.size) = some zh.size ∧ zh.all (·.oneCell') = true ∧ zh.size = 32) := Lib.hid ⟨by rw [← HZ.out]; exact infH _, by rw [← HZ.out]; exact one_bv _ _, by rw [← HZ.out, tab_size]⟩
  go_enter Tryd.func6, Tryd.ntmps6
  go_upto_region 2 with (go_at_call 22; (with_reducible refine HL.out.mono ?_); rintro e y1 ⟨b, r, qm, qr, he, hla⟩; obtain rfl : e = _ := he; have H1 : Hid (La w b r qm qr M y1) := Lib.hid hla; clear hla HL)
  have HFX := Lib.hid (fixed11_walk y1 (ktab_below HT.out H1.out.below))
  go_upto_region 4 with (go_at_call 12; (with_reducible refine HFX.out.mono ?_); rintro e y2 ⟨he, hb⟩; obtain rfl : e = _ := he; have H2 := Lib.hid (H1.out.next hb); clear hb HFX)
  clear H1
  have HPR := Lib.hid (Prove_far y2 b (P : Int) HFAR.out)
  go_upto_region 5 with (first
    | (go_at_call 20; (with_reducible refine HPR.out.mono ?_); rintro e y3 ⟨he, hb⟩; obtain rfl : e = _ := he; have H3 := Lib.hid (H2.out.next hb); clear hb HPR)
    | ((with_reducible refine wpList_store_row (P := Tryd.prog) (w := y3.alloc (.cells #[.int .u64 0, .slice none 0 0] 54)) ?_ 54 (.tmp 13) (.tmp 49) ?_ y3.heap.size #[.int .u64 0, .slice none 0 0] ?_ ?_ 54 #[.int .u64 0, .slice none 0 0] (heap_alloc_last y3 _) infPt ?_ rfl ?_); (· exact rfl); (· exact rfl); (· exact rfl); (· exact rfl); (· exact rfl); rw [World.setRow_alloc_new]; simp only [Act.put]))
  have H4 : Hid (La w b r qm qr M (y3.alloc (.cells #[.int .u64 0, .slice none 0 0] 54))) := Lib.hid (H3.out.next (ba _ _))
  clear H2 H3
  generalize y3.alloc (.cells #[.int .u64 0, .slice none 0 0] 54) = y4 at *
  generalize y3.heap.size = q13 at *
  have HRO := Lib.hid (Root_walk y4 b M H4.out.mac HOK.out.1 (ktab_below HT.out H4.out.below))
  go_upto_region 6 with (first
    | (go_at_call 14; (with_reducible refine HRO.out.mono ?_); rintro e y5 ⟨he, hb⟩; obtain rfl : e = _ := he; have H5 := Lib.hid (H4.out.next hb); clear hb HRO)
    | ((with_reducible refine wpList_store_row (P := Tryd.prog) (w := y5.alloc (.cells zh 42)) ?_ 42 (.tmp 15) (.tmp 54) ?_ y5.heap.size (tab 32 fun i => bv (mroot M i)) ?_ ?_ 42 zh (heap_alloc_last y5 _) (infH _) ?_ (one_bv _ _) ?_); (· exact rfl); (· exact rfl); (· exact rfl); (· exact rfl); (· rw [HZI.out.2.2, tab_size]); rw [World.setRow_alloc_new]; simp only [Act.put]))
  have H6 : Hid (La w b r qm qr M (y5.alloc (.cells (tab 32 fun i => bv (mroot M i)) 42)) ∧ IsTab (y5.alloc (.cells (tab 32 fun i => bv (mroot M i)) 42)) y5.heap.size 42 32 fun i => bv (mroot M i)) := Lib.hid ⟨H5.out.next (ba _ _), IsTab.new y5 _ 32 _⟩
  clear H4 H5
  generalize y5.alloc (.cells (tab 32 fun i => bv (mroot M i)) 42) = y6 at *
  generalize y5.heap.size = q15 at *
  go_upto_region 7 with (fail)
  have HL15 := Lib.hid (load32h H6.out.2)
  have HBD := Lib.hid (HBP.out y6)
  have HH := Lib.hid (Holds_far y6 (mroot M) (P : Int) 0 0 0 none HFAR.out)
  go_upto_region 8 with (first
    | ((with_reducible refine wpList_loadE (P := Tryd.prog) (w := y6) (ty := 42) (x := .tmp 15) (p := .pointer (some ⟨q15, 0, none⟩)) (v := dv (mroot M)) ?_ ?_ ?_ HL15.out ?_); (· exact rfl); (· exact rfl); (· exact rfl))
    | ((with_reducible refine wpList_buildM (P := Tryd.prog) (w := y6) ?_ 54 ?_ (.agg #[.int .u64 0, .slice none 0 0]) (HBD.out) ?_); (· exact rfl); (· exact rfl))
    | (go_at_call 24; (refine HH.out.mono ?_); rintro e y7 ⟨he, hb⟩; obtain rfl : e = _ := he; have H7 : Hid (La w b r qm qr M y7 ∧ IsTab y7 q15 42 32 fun i => bv (mroot M i)) := Lib.hid ⟨H6.out.1.next hb, H6.out.2.below hb⟩; clear hb HH))
  clear HL15 HBD H6
  have HL15 := Lib.hid (load32h H7.out.2)
  have HBD := Lib.hid (HBP.out y7)
  have HW := Lib.hid (Write_far y7 (mroot M) (P : Int) 0 (V : Int) 0 0 none HFAR.out)
  go_upto_region 9 with (first
    | ((with_reducible refine wpList_loadE (P := Tryd.prog) (w := y7) (ty := 42) (x := .tmp 15) (p := .pointer (some ⟨q15, 0, none⟩)) (v := dv (mroot M)) ?_ ?_ ?_ HL15.out ?_); (· exact rfl); (· exact rfl); (· exact rfl))
    | ((with_reducible refine wpList_buildM (P := Tryd.prog) (w := y7) ?_ 54 ?_ (.agg #[.int .u64 0, .slice none 0 0]) (HBD.out) ?_); (· exact rfl); (· exact rfl))
    | (go_at_call 21; (refine HW.out.mono ?_); rintro e y8 ⟨he, hb⟩; obtain rfl : e = _ := he; have H8 : Hid (Below w.heap.size w y8) := Lib.hid (H7.out.1.next hb).below; clear hb HW)
    | ((with_reducible refine wpList_store_row (P := Tryd.prog) (w := y8.alloc (.cells zh 42)) ?_ 42 (.tmp 19) (.tmp 71) ?_ y8.heap.size (tab 32 fun i => bv (Mk.zero 0 i)) ?_ ?_ 42 zh (heap_alloc_last y8 _) (infH _) ?_ (one_bv _ _) ?_); (· exact rfl); (· exact rfl); (· exact rfl); (· exact rfl); (· rw [HZI.out.2.2, tab_size]); rw [World.setRow_alloc_new]; simp only [Act.put]))
  clear HL15 HBD H7
  have H9 : Hid (Below w.heap.size w (y8.alloc (.cells (tab 32 fun i => bv (Mk.zero 0 i)) 42))) := Lib.hid (bl H8.out (ba _ _))
  clear H8
  generalize y8.alloc (.cells (tab 32 fun i => bv (Mk.zero 0 i)) 42) = y9 at *
  generalize y8.heap.size = q19 at *
  go_wp2_with (go_at_call 31; (with_reducible refine (HIS.out _).mono ?_); rintro e yz ⟨he, hy⟩; obtain rfl : e = _ := he; obtain rfl : _ = yz := hy)
  exact bodyPost_ret (v := .bool true) (by simp [results, Tryd.results6, go_sem]) rfl ⟨rfl, H9.out⟩
end Co
end Go.Proofs.YtgffohmneobblaaDoor
/-
  Layer 11: what CommitProofs' last regions need. Written by genCt.py. Own work.
-/
namespace Go.Proofs.YtgffohmneobblaaDoor
open Go.RowKit Go.ChangeShapes
set_option linter.unusedVariables false
set_option linter.unusedSimpArgs false
namespace Co
open Kc Mk Vm
theorem buildPt2 (x : Int) (a : Option Addr) (n c : Nat) (w : World) : (Instr.build 54 #[(0, .int .u64 x), (1, .slice a n c)]).run Tryd.prog w = .ok (.agg #[.int .u64 x, .slice a n c]) w := by kernel_rfl
theorem bldR0 (w : World) : (Instr.buildSlice 73 0 #[]).run Tryd.prog w = .ok (.slice (some ⟨w.heap.size, 0, none⟩) 0 0) (w.alloc (.cells #[] 41)) := by kernel_rfl
theorem ixB (g o J : Nat) (h : J < 32) (w : World) : (Instr.indexAt 41 (.pointer (some ⟨g, o, none⟩)) (.int .i64 J)).run Tryd.prog w = .ok (.pointer (some ⟨g, o + J, none⟩)) w := by
  have h1 : (J : Int) < 32 := by omega
  simp [go_sem, h1, Tryd.underlying41]
theorem lvAt {w : World} {q T N : Nat} {f : Nat → Hx} (h : Lv w q T N f) {k j : Nat} (hk : k < N) (hj : j < 32) : w.cell? ⟨q, k * 32 + j, none⟩ = some (.int .u8 (Bv (f k j))) := by
  have h1 := h.at5 k j hk hj
  rw [show 0 + 32 * k + j = k * 32 + j from by omega] at h1
  exact h1
theorem lvFz {w : World} {q T N : Nat} {f : Nat → Hx} (h : Lv w q T N f) (i : Nat) : w.frozen? ⟨q, i, none⟩ = false := by
  obtain ⟨m, g, h1, _⟩ := h
  exact h1.fz i
def onep (f : Nat → Hx) (I J : Nat) (z : Bt) : Nat → Hx := fun k j => if k = I ∧ j = J then z else f k j
theorem Lv.setOne {w : World} {q T N : Nat} {f : Nat → Hx} (h : Lv w q T N f) (I J : Nat) (hJ : J < 32) (z : Bt) : Lv (w.setCell ⟨q, I * 32 + J, none⟩ (.int .u8 (Bv z))) q T N (onep f I J z) := by
  obtain ⟨m, g, h1, h2, h3⟩ := h
  refine ⟨m, updv g (I * 32 + J) (bv z), h1.set _ _, h2, fun k j hk hj => ?_⟩
  unfold updv onep
  by_cases e : k = I ∧ j = J
  · rw [if_pos (by omega), if_pos e]
  · rw [if_neg (by omega), if_neg e]; exact h3 k j hk hj
theorem onep_row (f : Nat → Hx) (I J : Nat) (z : Bt) : (fun k => if k = I then onep f I J z I else f k) = onep f I J z := by
  funext k j
  unfold onep
  by_cases e : k = I
  · subst e; rw [if_pos rfl]
  · rw [if_neg e, if_neg (fun h => e h.1)]
theorem xorB (x y : Bt) : bits .xor .u8 (Bv x) (Bv y) = Bv (x ^^^ y) := by
  unfold Bv; rw [u8_xor_nat _ _ x.isLt y.isLt, BitVec.toNat_xor]
theorem Lv.cellOther {w : World} {q T N p i : Nat} {v : Value} {f : Nat → Hx} (h : Lv w q T N f) (hn : p ≠ q) : Lv (w.setCell ⟨p, i, none⟩ v) q T N f := by
  obtain ⟨m, g, h1, h2, h3⟩ := h
  exact ⟨m, g, IsTab.keep h1 (by omega), h2, h3⟩
end Co
end Go.Proofs.YtgffohmneobblaaDoor
/-
  Layer 11: CommitProofs, a place in the memory. Written by genCs.py. Own work.
-/
namespace Go.Proofs.YtgffohmneobblaaDoor
open Go.RowKit Go.ChangeShapes
set_option linter.unusedVariables false
set_option linter.unusedSimpArgs false
namespace Co
open Kc Mk Vm
theorem exec_neqX {o : Oper} {ev : Operand → Value} {u : World} (x y : Operand) (yt : TypeId) (a : Hx) (ho : o.op = .binOp .neq 42 x y yt) (hx : ev x = dv a) (hy : ev y = dv a) : (execOp ev o).run Tryd.prog u = .ok (.value (.bool false)) u := by
  unfold execOp
  simp only [ho, hx, hy, Sem.run_bind, Sem.run_pure, Result.andThen_ok, guardN, neqT]
theorem ixUs (q P : Nat) (h : P < 8192) (w : World) : (Instr.indexAt 23 (.slice (some ⟨q, 0, none⟩) 8192 8192) (.int .u64 P)).run Tryd.prog w = .ok (.pointer (some ⟨q, P, none⟩)) w := by
  have h1 : (P : Int) < 8192 := by omega
  simp [go_sem, h1, Tryd.underlying23]
theorem ixHs (g c k : Nat) (h : k < 13) (w : World) : (Instr.indexAt 52 (.slice (some ⟨g, 0, none⟩) 13 c) (.int .i64 k)).run Tryd.prog w = .ok (.pointer (some ⟨g, k * 32, none⟩)) w := by
  have h1 : (k : Int) < 13 := by omega
  simp [go_sem, h1, Tryd.underlying52]
theorem ixRs (g c k : Nat) (h : k < 13) (w : World) : (Instr.indexAt 73 (.slice (some ⟨g, 0, none⟩) 13 c) (.int .i64 k)).run Tryd.prog w = .ok (.pointer (some ⟨g, k * 32, none⟩)) w := by
  have h1 : (k : Int) < 13 := by omega
  simp [go_sem, h1, Tryd.underlying73]
/-- What the law keeps: the machine, the proof's box, the root's, the proof's path. -/
structure Pw (W : World) (b q13 q15 ga c : Nat) (M : Mac) (R : Hx) (p : Nat → Hx) (mv : Nat) (y : World) : Prop where
  mac : IsMac y b M
  s13 : Box2 y q13 54 (.int .u64 mv) (.slice (some ⟨ga, 0, none⟩) 13 c)
  s15 : IsTab y q15 42 32 fun i => bv (R i)
  row : Lv y ga 42 13 p
  below : Below W.heap.size W y
  ge : W.heap.size ≤ b ∧ b < ga ∧ ga < q13 ∧ q13 < q15
theorem Pw.next {W y y' : World} {b q13 q15 ga c : Nat} {M : Mac} {R : Hx} {p : Nat → Hx} {mv : Nat} (h : Pw W b q13 q15 ga c M R p mv y) (hb : Below y.heap.size y y') : Pw W b q13 q15 ga c M R p mv y' :=
  ⟨h.mac.below hb, h.s13.below hb, h.s15.below hb, h.row.below hb, bl h.below hb, h.ge⟩
set_option maxHeartbeats 16000000 in
set_option maxRecDepth 100000 in
theorem proofs_near (w : World) (a0 : Option Addr) (len0 cap0 P V : Nat) (at0 : Int) (tb : Bt) (f : Nat → Nat × Nat) (hl : len0 ≤ maxLen) (hf : IsCl w a0 len0 f) (hfb : ∀ j, (f j).1 < 18446744073709551616 ∧ (f j).2 < 18446744073709551616) (hv1 : V < 18446744073709551616) (hp : P < 18446744073709551616) (ht : Laid.KTab w) (hi : P < 8192) :
    Calls Tryd.prog 6 #[.slice a0 len0 cap0, .int .u64 P, .int .u64 V, .int .i64 at0, .int .u8 (Bv tb)] w fun e w' => e = .returned (.bool true) ∧ Below w.heap.size w w' := by
  have HT := Lib.hid ht
  have hl1 := laid_walk w a0 none len0 cap0 0 0 0 0 false f (fun _ => 0) hf (.inl rfl) hl (by decide) (min len0 100) 0 rfl (by decide)
  rw [show ((0 : Nat) : Int) = 0 from rfl] at hl1
  have hok : ∀ i, (endM (layR (fun _ => 0) 0 (layC f (min len0 100) (loaded 0 fun _ => 0))) 0 0 false).mem i < 18446744073709551616 := fun i => layC_lt f hfb _ i
  generalize endM (layR (fun _ => 0) 0 (layC f (min len0 100) (loaded 0 fun _ => 0))) 0 0 false = M at *
  have HOK := Lib.hid (And.intro hok (And.intro hv1 hp))
  have HL := Lib.hid hl1
  clear hl1 hok hf hfb hl hv1 hp ht
  have z26 := zero26
  have t1 : decide (8192 ≤ (P : Int)) = false := by simp; omega
  have HPB := Lib.hid hi
  obtain ⟨I, hI, hIb⟩ := u64_mod at0 13 (by decide)
  have HI5 := Lib.hid (And.intro hI hIb)
  clear hI hIb
  have HIS3 := Lib.hid (fun y : World => (show Calls Tryd.prog 31 #[.iface 85 (.int .i64 3), .iface 85 (.int .i64 3)] y fun e w' => e = .returned (.bool true) ∧ y = w' from Err.is_num 3 3 y))
  have HIS31 := Lib.hid (fun y : World => (show Calls Tryd.prog 31 #[.iface 85 (.int .i64 31), .iface 85 (.int .i64 31)] y fun e w' => e = .returned (.bool true) ∧ y = w' from Err.is_num 31 31 y))
  obtain ⟨p, hpe⟩ : ∃ p, sib (mg M) P = p := ⟨_, rfl⟩
  have HPE := Lib.hid hpe
  clear hi hpe
  have z2 := zeroHash
  have HBH := Lib.hid (fun u : World => buildH0 u)
  generalize hz : (tab 32 fun _ => bv 0#8) = zh at *
  have HZ := Lib.hid hz
  clear hz
  have HZI : Hid ((Tryd.prog.info? 42).map (·.size) = some zh.size ∧ zh.all (·.oneCell') = true ∧ zh.size = 32) := Lib.hid ⟨by rw [← HZ.out]; exact infH _, by rw [← HZ.out]; exact one_bv _ _, by rw [← HZ.out, tab_size]⟩
  go_enter Tryd.func6, Tryd.ntmps6
  go_upto_region 2 with (go_at_call 22; (with_reducible refine HL.out.mono ?_); rintro e y1 ⟨b, r, qm, qr, he, hla⟩; obtain rfl : e = _ := he; have H1 : Hid (La w b r qm qr M y1) := Lib.hid hla; clear hla HL)
  have HFX := Lib.hid (fixed11_walk y1 (ktab_below HT.out H1.out.below))
  go_upto_region 4 with (go_at_call 12; (with_reducible refine HFX.out.mono ?_); rintro e y2 ⟨he, hb⟩; obtain rfl : e = _ := he; have H2 := Lib.hid (H1.out.next hb); clear hb HFX)
  clear H1
  have HPR := Lib.hid (Prove_ok y2 b P M H2.out.mac HOK.out.1 HPB.out (ktab_below HT.out H2.out.below))
  go_upto_region 5 with (first
    | (go_at_call 20; (with_reducible refine HPR.out.mono ?_); rintro e y3 ⟨a, c, he, hc, hcm, hna, hrow, hb⟩; obtain rfl : e = _ := he; rw [HPE.out] at hrow; obtain ⟨a9, c9, ev, _, _, hlv⟩ := lv_of_row hrow; obtain ⟨rfl, _, rfl⟩ := Value.slice.inj ev; obtain ⟨ga, rfl, hg1, hg2, hlv⟩ := hlv.resolve_left (fun h => absurd h.1 (by decide)); have H3 : Hid (La w b r qm qr M y3 ∧ Lv y3 ga 42 13 p ∧ (13 ≤ c ∧ c ≤ maxLen) ∧ b < ga ∧ ga < y3.heap.size) := Lib.hid ⟨H2.out.next hb, hlv, ⟨hc, hcm⟩, Nat.lt_of_lt_of_le H2.out.mac.lt hg1, hg2⟩; clear hb hc hcm hna hrow hlv hg1 hg2 HPR ev)
    | ((with_reducible refine wpList_store_row (P := Tryd.prog) (w := y3.alloc (.cells #[.int .u64 0, .slice none 0 0] 54)) ?_ 54 (.tmp 13) (.tmp 49) ?_ y3.heap.size #[.int .u64 (M.mem P), .slice (some ⟨ga, 0, none⟩) 13 c] ?_ ?_ 54 #[.int .u64 0, .slice none 0 0] (heap_alloc_last y3 _) infPt ?_ rfl ?_); (· exact rfl); (· exact rfl); (· exact rfl); (· exact rfl); (· exact rfl); rw [World.setRow_alloc_new]; simp only [Act.put]))
  have H4 : Hid (La w b r qm qr M (y3.alloc (.cells #[.int .u64 (M.mem P), .slice (some ⟨ga, 0, none⟩) 13 c] 54)) ∧ Lv (y3.alloc (.cells #[.int .u64 (M.mem P), .slice (some ⟨ga, 0, none⟩) 13 c] 54)) ga 42 13 p ∧ (13 ≤ c ∧ c ≤ maxLen) ∧ (b < ga ∧ ga < y3.heap.size) ∧ Box2 (y3.alloc (.cells #[.int .u64 (M.mem P), .slice (some ⟨ga, 0, none⟩) 13 c] 54)) y3.heap.size 54 (.int .u64 (M.mem P)) (.slice (some ⟨ga, 0, none⟩) 13 c)) := Lib.hid ⟨H3.out.1.next (ba _ _), H3.out.2.1.below (ba _ _), H3.out.2.2.1, H3.out.2.2.2, Box2.new y3 54 _ _⟩
  clear H2 H3
  generalize y3.alloc (.cells #[.int .u64 (M.mem P), .slice (some ⟨ga, 0, none⟩) 13 c] 54) = y4 at *
  generalize y3.heap.size = q13 at *
  have HRO := Lib.hid (Root_walk y4 b M H4.out.1.mac HOK.out.1 (ktab_below HT.out H4.out.1.below))
  go_upto_region 6 with (first
    | (go_at_call 14; (with_reducible refine HRO.out.mono ?_); rintro e y5 ⟨he, hb⟩; obtain rfl : e = _ := he; have HB5 := Lib.hid hb; clear hb HRO)
    | ((with_reducible refine wpList_store_row (P := Tryd.prog) (w := y5.alloc (.cells zh 42)) ?_ 42 (.tmp 15) (.tmp 54) ?_ y5.heap.size (tab 32 fun i => bv (mroot M i)) ?_ ?_ 42 zh (heap_alloc_last y5 _) (infH _) ?_ (one_bv _ _) ?_); (· exact rfl); (· exact rfl); (· exact rfl); (· exact rfl); (· rw [HZI.out.2.2, tab_size]); rw [World.setRow_alloc_new]; simp only [Act.put]))
  have H6 : Hid (Pw w b q13 y5.heap.size ga c M (mroot M) p (M.mem P) (y5.alloc (.cells (tab 32 fun i => bv (mroot M i)) 42)) ∧ IsRm (y5.alloc (.cells (tab 32 fun i => bv (mroot M i)) 42)) r qm qr M) := Lib.hid (by
    have h := H4.out
    have hn := (h.1.next HB5.out).next (ba y5 (.cells (tab 32 fun i => bv (mroot M i)) 42))
    exact ⟨⟨hn.mac, (h.2.2.2.2.below HB5.out).below (ba _ _), IsTab.new y5 _ 32 _, (h.2.1.below HB5.out).below (ba _ _), hn.below, hn.ge.1, h.2.2.2.1.1, h.2.2.2.1.2, Nat.lt_of_lt_of_le h.2.2.2.2.lt HB5.out.size⟩, hn.rm⟩)
  have HC := Lib.hid H4.out.2.2.1
  clear H4 HB5
  generalize y5.alloc (.cells (tab 32 fun i => bv (mroot M i)) 42) = y6 at *
  generalize y5.heap.size = q15 at *
  go_upto_region 10 with (fail)
  have ew : wrap64 (P : Int) = (P : Int) := by have := HPB.out; unfold wrap64; omega
  have hlr : (Instr.loadAt 23 (.pointer (some ⟨r, 0, none⟩))).run Tryd.prog y6 = .ok (.slice (some ⟨qm, 0, none⟩) 8192 8192) y6 := by
    have h := H6.out.2.box.k0
    simp [Instr.loadAt, go_sem, h, Tryd.underlying23]
  have HLR := Lib.hid hlr
  have HLV := Lib.hid (rleaves_walk y6 qm M H6.out.2.mem HOK.out.1)
  clear hlr
  go_upto_region 11 with (first
    | ((with_reducible refine wpList_loadE (P := Tryd.prog) (w := y6) (ty := 23) (x := .tmp 93) (p := .pointer (some ⟨r, 0, none⟩)) (v := .slice (some ⟨qm, 0, none⟩) 8192 8192) ?_ ?_ ?_ HLR.out ?_); (· exact rfl); (· exact rfl); (· exact rfl))
    | (go_at_call 26; (with_reducible refine HLV.out.mono ?_); rintro e y7 ⟨al, n, cl, he, hs, hnc, hn, hext, hb⟩; obtain rfl : e = _ := he; have H7 : Hid (Pw w b q13 q15 ga c M (mroot M) p (M.mem P) y7 ∧ IsRm y7 r qm qr M) := Lib.hid ⟨H6.out.1.next hb, H6.out.2.below hb⟩; have HPA : Hid (Calls Tryd.prog 32 #[.int .i64 13, .slice al n cl, .int .i64 P] y7 fun e w' => ∃ V, e = .returned (.tuple #[V, .int .i64 0]) ∧ w'.ownsRow y7.heap.size 41 32 V 13 (flat 13 p) ∧ Below y7.heap.size y7 w') := Lib.hid (by
        have e13 : (2 : Nat) ^ 13 = 8192 := by decide
        have h := refPath_ok 13 al n cl (mlf M) P y7 hs hnc (by decide) (by omega) (by have := HPB.out; omega)
        rw [hext, HPE.out] at h
        exact h); clear hb hs hnc hn hext HLV HLR)
    | (go_at_call 32; (with_reducible refine HPA.out.mono ?_); rintro e y8 ⟨V8, he, hrow, hb⟩; obtain rfl : e = _ := he; obtain ⟨a9, c21, rfl, hcc, hcm, hlv⟩ := lv_of_row hrow; obtain ⟨g21, rfl, hg1, hg2, hlv⟩ := hlv.resolve_left (fun h => absurd h.1 (by decide)); have H8 : Hid (Pw w b q13 q15 ga c M (mroot M) p (M.mem P) y8 ∧ IsRm y8 r qm qr M ∧ Lv y8 g21 41 13 p ∧ (13 ≤ c21 ∧ c21 ≤ maxLen) ∧ q15 < g21) := Lib.hid ⟨H7.out.1.next hb, H7.out.2.below hb, hlv, ⟨hcc, hcm⟩, Nat.lt_of_lt_of_le H7.out.1.s15.lt hg1⟩; clear hb hrow hlv hg1 hg2 hcc hcm HPA))
  clear H6 H7 ew
  have HS11 : Hid (Box2 y8.drew q13 54 (.int .u64 (M.mem P)) (.slice (some ⟨ga, 0, none⟩) 13 c) ∧ IsRm y8.drew r qm qr M) := Lib.hid ⟨H8.out.1.s13, H8.out.2.1.below (Below.refl _ _).drew⟩
  refine wp_region_og (fun z : World => Box2 z q13 54 (.int .u64 (M.mem P)) (.slice (some ⟨ga, 0, none⟩) 13 c) ∧ IsRm z r qm qr M) (.take 0 (.take 1 (.take 2 (.take 3 (.take 4 (.take 5 (.take 6 (.take 7 (.take 8 (.take 9 (.take 10 (.take 11 (.take 12 (.take 13 (.take 14 (.take 15 (.take 16 (.take 17 (.take 18 (.take 19 (.take 20 (.take 21 (.take 22 (.take 23 .done)))))))))))))))))))))))) (by kernel_rfl) (by kernel_rfl) (⟨HS11.out.1, HS11.out.2⟩) ?_
  refine og_tk (some 101) (.nilIface) rfl rfl (by go_simp) (fun _ _ => by simp [execOp, go_sem]) ?_
  simp only [Act.put, pS]
  refine og_tk (some 102) (.bool false) rfl rfl (by go_simp) (fun _ _ => by simp [execOp, go_sem]) ?_
  simp only [Act.put, pS]
  refine og_tk (some 103) (.bool false) rfl rfl (by go_simp) (fun _ _ => by simp [execOp, go_sem]) ?_
  simp only [Act.put, pS]
  refine og_tk (some 104) (.nilIface) rfl rfl (by go_simp) (fun _ _ => by simp [execOp, go_sem]) ?_
  simp only [Act.put, pS]
  refine og_tk (some 105) (.bool false) rfl rfl (by go_simp) (fun _ _ => by simp [execOp, go_sem]) ?_
  simp only [Act.put, pS]
  refine og_tk (some 106) (.bool false) rfl rfl (by go_simp) (fun _ _ => by simp [execOp, go_sem]) ?_
  simp only [Act.put, pS]
  refine og_tk (some 107) (.bool false) rfl rfl (by go_simp) (fun _ _ => by simp [execOp, go_sem]) ?_
  simp only [Act.put, pS]
  refine og_tk (some 108) (.pointer (some ⟨q13, 0, none⟩)) rfl rfl (by go_simp) (fun _ _ => by simp [execOp, go_sem]) ?_
  simp only [Act.put, pS]
  refine og_ld (some 109) 33 (.tmp 108) (.pointer (some ⟨q13, 0, none⟩)) (.int .u64 (M.mem P)) rfl rfl (by go_simp) rfl rfl (fun y hy => by have h := hy.1.k0; simp [Instr.loadAt, go_sem, h, Tryd.underlying33]) ?_
  simp only [Act.put, pS]
  refine og_tk (some 110) (.pointer (some ⟨r, 0, none⟩)) rfl rfl (by go_simp) (fun _ _ => by simp [execOp, go_sem]) ?_
  simp only [Act.put, pS]
  refine og_tk (some 111) (.pointer (some ⟨r, 0, none⟩)) rfl rfl (by go_simp) (fun _ _ => by simp [execOp, go_sem]) ?_
  simp only [Act.put, pS]
  refine og_tk (some 112) (.pointer (some ⟨r, 0, none⟩)) rfl rfl (by go_simp) (fun _ _ => by simp [execOp, go_sem]) ?_
  simp only [Act.put, pS]
  refine og_ld (some 113) 23 (.tmp 112) (.pointer (some ⟨r, 0, none⟩)) (.slice (some ⟨qm, 0, none⟩) 8192 8192) rfl rfl (by go_simp) rfl rfl (fun y hy => by have h := hy.2.box.k0; simp [Instr.loadAt, go_sem, h, Tryd.underlying23]) ?_
  simp only [Act.put, pS]
  refine og_tk (some 114) (.int .u64 P) rfl rfl (by go_simp) (fun _ _ => by simp [execOp, go_sem]) ?_
  simp only [Act.put, pS]
  refine og_tk (some 115) (.pointer (some ⟨qm, P, none⟩)) rfl rfl (by go_simp) (fun y hy => by have h := ixUs qm P HPB.out y; simp [execOp, go_sem, h, Result.andThen]) ?_
  simp only [Act.put, pS]
  refine og_ld (some 116) 33 (.tmp 115) (.pointer (some ⟨qm, P, none⟩)) (.int .u64 (M.mem P)) rfl rfl (by go_simp) rfl rfl (fun y hy => by have h := (show y.cell? ⟨qm, P, none⟩ = some (.int .u64 (M.mem P)) from IsTab.cell hy.2.mem P HPB.out); simp [Instr.loadAt, go_sem, h, Tryd.underlying33]) ?_
  simp only [Act.put, pS]
  refine og_tk (some 117) (.bool false) rfl rfl (by go_simp) (fun _ _ => by simp [execOp, go_sem]) ?_
  simp only [Act.put, pS]
  refine og_tk (some 118) (.bool false) rfl rfl (by go_simp) (fun _ _ => by simp [execOp, go_sem]) ?_
  simp only [Act.put, pS]
  refine og_tk (some 119) (.bool false) rfl rfl (by go_simp) (fun _ _ => by simp [execOp, go_sem]) ?_
  simp only [Act.put, pS]
  refine og_tk (some 120) (.pointer (some ⟨q13, 1, none⟩)) rfl rfl (by go_simp) (fun _ _ => by simp [execOp, go_sem]) ?_
  simp only [Act.put, pS]
  refine og_ld (some 121) 52 (.tmp 120) (.pointer (some ⟨q13, 1, none⟩)) (.slice (some ⟨ga, 0, none⟩) 13 c) rfl rfl (by go_simp) rfl rfl (fun y hy => by have h := hy.1.k1; simp [Instr.loadAt, go_sem, h, Tryd.underlying52]) ?_
  simp only [Act.put, pS]
  refine og_tk (some 122) (.int .i64 13) rfl rfl (by go_simp) (fun _ _ => by simp [execOp, go_sem]) ?_
  simp only [Act.put, pS]
  refine og_tk (some 123) (.bool false) rfl rfl (by go_simp) (fun _ _ => by simp [execOp, go_sem]) ?_
  simp only [Act.put, pS]
  refine og_tk (some 124) (.bool false) rfl rfl (by go_simp) (fun _ _ => by simp [execOp, go_sem]) ?_
  simp only [Act.put, pS]
  refine og_done (NoPanic.normal ?_)
  have H9 : Hid (Pw w b q13 q15 ga c M (mroot M) p (M.mem P) y8.drew ∧ Lv y8.drew g21 41 13 p ∧ (13 ≤ c21 ∧ c21 ≤ maxLen) ∧ q15 < g21) := Lib.hid ⟨H8.out.1.next (Below.refl _ _).drew, H8.out.2.2.1, H8.out.2.2.2⟩
  clear H8 HS11
  generalize y8.drew = y9 at *
  go_upto_region 14 with (fail)
  go_loopw [127] (fun t y => ∃ k : Nat, t = .int .i64 k ∧ Hid (k ≤ 13 ∧ Pw w b q13 q15 ga c M (mroot M) p (M.mem P) y ∧ Lv y g21 41 13 p)) (fun t _ => 13 - (intOf t).toNat)
  case atStart => exact ⟨0, rfl, Lib.hid ⟨Nat.zero_le _, H9.out.1, H9.out.2.1⟩⟩
  case round =>
    obtain ⟨k, rfl, hp⟩ := hrel
    have HP := Lib.hid hp.out
    have HQ := Lib.hid H9.out.2.2
    clear hp H9
    by_cases hlt : (k : Int) < 13
    · have HK : Hid (k < 13) := Lib.hid (by omega)
      have HJ : Hid (k + 1 ≤ 13 ∧ wrap64 ((k : Int) + 1) = ((k + 1 : Nat) : Int)) := Lib.hid ⟨by omega, by unfold wrap64; omega⟩
      go_upto_region 16 with (fail)
      have HS16 : Hid (Box2 wr.drew q13 54 (.int .u64 (M.mem P)) (.slice (some ⟨ga, 0, none⟩) 13 c) ∧ Lv wr.drew ga 42 13 p ∧ Lv wr.drew g21 41 13 p) := Lib.hid ⟨HP.out.2.1.s13, HP.out.2.1.row, HP.out.2.2⟩
      refine wp_region_og (fun z : World => Box2 z q13 54 (.int .u64 (M.mem P)) (.slice (some ⟨ga, 0, none⟩) 13 c) ∧ Lv z ga 42 13 p ∧ Lv z g21 41 13 p) (.take 0 (.take 1 (.take 2 (.take 3 (.take 4 (.take 5 (.take 6 (.take 7 (.take 8 (.take 9 .done)))))))))) (by kernel_rfl) (by kernel_rfl) (⟨HS16.out.1, HS16.out.2⟩) ?_
      refine og_tk (some 130) (.pointer (some ⟨q13, 1, none⟩)) rfl rfl (by go_simp) (fun _ _ => by simp [execOp, go_sem]) ?_
      simp only [Act.put, pS]
      refine og_ld (some 131) 52 (.tmp 130) (.pointer (some ⟨q13, 1, none⟩)) (.slice (some ⟨ga, 0, none⟩) 13 c) rfl rfl (by go_simp) rfl rfl (fun y hy => by have h := hy.1.k1; simp [Instr.loadAt, go_sem, h, Tryd.underlying52]) ?_
      simp only [Act.put, pS]
      refine og_tk (some 132) (.int .i64 k) rfl rfl (by go_simp) (fun _ _ => by simp [execOp, go_sem]) ?_
      simp only [Act.put, pS]
      refine og_tk (some 133) (.pointer (some ⟨ga, k * 32, none⟩)) rfl rfl (by go_simp) (fun y hy => by have h := ixHs ga c k HK.out y; simp [execOp, go_sem, h, Result.andThen]) ?_
      simp only [Act.put, pS]
      refine og_ld (some 134) 42 (.tmp 133) (.pointer (some ⟨ga, k * 32, none⟩)) (dv (p k)) rfl rfl (by go_simp) rfl rfl (fun y hy => loadH hy.2.1.at5 HK.out (by omega)) ?_
      simp only [Act.put, pS]
      refine og_tk (some 135) (.slice (some ⟨g21, 0, none⟩) 13 c21) rfl rfl (by go_simp) (fun _ _ => by simp [execOp, go_sem]) ?_
      simp only [Act.put, pS]
      refine og_tk (some 136) (.int .i64 k) rfl rfl (by go_simp) (fun _ _ => by simp [execOp, go_sem]) ?_
      simp only [Act.put, pS]
      refine og_tk (some 137) (.pointer (some ⟨g21, k * 32, none⟩)) rfl rfl (by go_simp) (fun y hy => by have h := ixRs g21 c21 k HK.out y; simp [execOp, go_sem, h, Result.andThen]) ?_
      simp only [Act.put, pS]
      refine og_ld (some 138) 41 (.tmp 137) (.pointer (some ⟨g21, k * 32, none⟩)) (dv (p k)) rfl rfl (by go_simp) rfl rfl (fun y hy => loadR hy.2.2.at5 HK.out (by omega)) ?_
      simp only [Act.put, pS]
      refine og_tk (some 139) (.bool false) rfl rfl (by go_simp) (fun y hy => exec_neqX (.tmp 134) (.tmp 138) 42 (p k) rfl rfl rfl) ?_
      simp only [Act.put, pS]
      refine og_done (NoPanic.normal ?_)
      have HP2 : Hid (Pw w b q13 q15 ga c M (mroot M) p (M.mem P) wr.drew ∧ Lv wr.drew g21 41 13 p) := Lib.hid ⟨HP.out.2.1.next (Below.refl _ _).drew, HP.out.2.2⟩
      clear HP HS16
      generalize wr.drew = y10 at *
      have hw1 := HJ.out.2
      go_wp2_with (fail)
      go_roundw
      case rel => exact ⟨k + 1, by go_num, Lib.hid ⟨HJ.out.1, HP2.out⟩⟩
      case measure => exact (show 13 - (k + 1) < 13 - k from Nat.sub_lt_sub_left (by omega) (Nat.lt_succ_self k))
    · obtain rfl : k = 13 := by have := HP.out.1; omega
      clear hlt
      have e1 : fold P (lfX (M.mem P)) p 13 = mroot M := by rw [← HPE.out]; exact own_fold M HPB.out
      have e2 : fold P (lfX V) p 13 = mroot (setM M P V) := by rw [← HPE.out]; exact other_fold M HPB.out V
      have HFO := Lib.hid (And.intro e1 e2)
      clear e1 e2
      go_upto_region 19 with (fail)
      have H10 : Hid (Pw w b q13 q15 ga c M (mroot M) p (M.mem P) wr ∧ Lv wr g21 41 13 p) := Lib.hid HP.out.2
      clear HP
      generalize wr = y10 at *
      have hh := Holds_ok y10 (mroot M) P (M.mem P) c (some ⟨ga, 0, none⟩) p (Or.inr ⟨ga, 0, rfl, H10.out.1.row.at5⟩) HC.out.1 HPB.out (HOK.out.1 P) (ktab_below HT.out H10.out.1.below)
      rw [HFO.out.1, same_refl] at hh
      have HH := Lib.hid hh
      clear hh
      have HL15 := Lib.hid (load32h H10.out.1.s15)
      have HL13 := Lib.hid (loadPt H10.out.1.s13)
      go_upto_region 20 with (first
        | ((with_reducible refine wpList_loadE (P := Tryd.prog) (w := y10) (ty := 42) (x := .tmp 15) (p := .pointer (some ⟨q15, 0, none⟩)) (v := dv (mroot M)) ?_ ?_ ?_ HL15.out ?_); (· exact rfl); (· exact rfl); (· exact rfl))
        | ((with_reducible refine wpList_loadE (P := Tryd.prog) (w := y10) (ty := 54) (x := .tmp 13) (p := .pointer (some ⟨q13, 0, none⟩)) (v := .agg #[.int .u64 (M.mem P), .slice (some ⟨ga, 0, none⟩) 13 c]) ?_ ?_ ?_ HL13.out ?_); (· exact rfl); (· exact rfl); (· exact rfl))
        | (go_at_call 24; (refine HH.out.mono ?_); rintro e y11 ⟨he, hb⟩; obtain rfl : e = _ := he; have H11 : Hid (Pw w b q13 q15 ga c M (mroot M) p (M.mem P) y11 ∧ Lv y11 g21 41 13 p) := Lib.hid ⟨H10.out.1.next hb, H10.out.2.below hb⟩; clear hb HH))
      clear HL15 HL13 H10
      have hh := Write_ok y11 (mroot M) P (M.mem P) V 13 c (some ⟨ga, 0, none⟩) p (Or.inr ⟨ga, 0, rfl, H11.out.1.row.at5⟩) HC.out.1 HPB.out (HOK.out.1 P) HOK.out.2.1 (ktab_below HT.out H11.out.1.below) rfl (by rw [HFO.out.1, same_refl])
      rw [HFO.out.2] at hh
      have HH := Lib.hid hh
      clear hh
      have HL15 := Lib.hid (load32h H11.out.1.s15)
      have HL13 := Lib.hid (loadPt H11.out.1.s13)
      go_upto_region 21 with (first
        | ((with_reducible refine wpList_loadE (P := Tryd.prog) (w := y11) (ty := 42) (x := .tmp 15) (p := .pointer (some ⟨q15, 0, none⟩)) (v := dv (mroot M)) ?_ ?_ ?_ HL15.out ?_); (· exact rfl); (· exact rfl); (· exact rfl))
        | ((with_reducible refine wpList_loadE (P := Tryd.prog) (w := y11) (ty := 54) (x := .tmp 13) (p := .pointer (some ⟨q13, 0, none⟩)) (v := .agg #[.int .u64 (M.mem P), .slice (some ⟨ga, 0, none⟩) 13 c]) ?_ ?_ ?_ HL13.out ?_); (· exact rfl); (· exact rfl); (· exact rfl))
        | (go_at_call 21; (refine HH.out.mono ?_); rintro e y12 ⟨he, hb⟩; obtain rfl : e = _ := he; have H12 : Hid (Pw w b q13 q15 ga c M (mroot M) p (M.mem P) y12 ∧ Lv y12 g21 41 13 p) := Lib.hid ⟨H11.out.1.next hb, H11.out.2.below hb⟩; clear hb HH)
        | ((with_reducible refine wpList_store_row (P := Tryd.prog) (w := y12.alloc (.cells zh 42)) ?_ 42 (.tmp 26) (.tmp 154) ?_ y12.heap.size (tab 32 fun i => bv (mroot (setM M P V) i)) ?_ ?_ 42 zh (heap_alloc_last y12 _) (infH _) ?_ (one_bv _ _) ?_); (· exact rfl); (· exact rfl); (· exact rfl); (· exact rfl); (· rw [HZI.out.2.2, tab_size]); rw [World.setRow_alloc_new]; simp only [Act.put]))
      clear HL15 HL13 H11
      have H13 : Hid (Pw w b q13 q15 ga c M (mroot M) p (M.mem P) (y12.alloc (.cells (tab 32 fun i => bv (mroot (setM M P V) i)) 42)) ∧ Lv (y12.alloc (.cells (tab 32 fun i => bv (mroot (setM M P V) i)) 42)) g21 41 13 p ∧ IsTab (y12.alloc (.cells (tab 32 fun i => bv (mroot (setM M P V) i)) 42)) y12.heap.size 42 32 (fun i => bv (mroot (setM M P V) i)) ∧ (b < y12.heap.size ∧ b < g21)) := Lib.hid ⟨H12.out.1.next (ba _ _), H12.out.2.below (ba _ _), IsTab.new y12 _ 32 _, H12.out.1.mac.lt, by have := H12.out.1.ge; have := HQ.out.2; omega⟩
      clear H12
      generalize y12.alloc (.cells (tab 32 fun i => bv (mroot (setM M P V) i)) 42) = y13 at *
      generalize y12.heap.size = q26 at *
      have hp8 : (P : Int) < 8192 := by have := HPB.out; omega
      have kd := H13.out.1.mac.mem HPB.out
      have fd := H13.out.1.mac.fz P
      have H14 : Hid (Pw w b q13 q15 ga c (setM M P V) (mroot M) p (M.mem P) (y13.setCell ⟨b, P, none⟩ (.int .u64 (V : Int))) ∧ Lv (y13.setCell ⟨b, P, none⟩ (.int .u64 (V : Int))) g21 41 13 p ∧ IsTab (y13.setCell ⟨b, P, none⟩ (.int .u64 (V : Int))) q26 42 32 (fun i => bv (mroot (setM M P V) i))) := Lib.hid (by
        have h := H13.out.1
        have n := H13.out.2.2.2
        have g := h.ge
        refine ⟨⟨h.mac.setMem HPB.out V, IsTab.keep h.s13 (by omega), IsTab.keep h.s15 (by omega), ?_, h.below.setCell g.1 _, g⟩, ?_, IsTab.keep H13.out.2.2.1 (by omega)⟩
        · obtain ⟨m, u, h1, h2, h3⟩ := h.row
          exact ⟨m, u, IsTab.keep h1 (by omega), h2, h3⟩
        · obtain ⟨m, u, h1, h2, h3⟩ := H13.out.2.1
          exact ⟨m, u, IsTab.keep h1 (by omega), h2, h3⟩)
      go_upto_region 22 with (fail)
      clear hp8 kd fd H13
      generalize y13.setCell ⟨b, P, none⟩ (.int .u64 (V : Int)) = y14 at *
      have HRO := Lib.hid (Root_walk y14 b (setM M P V) H14.out.1.mac (mem_setM HOK.out.1 P HOK.out.2.1) (ktab_below HT.out H14.out.1.below))
      go_upto_region 23 with (first
        | (go_at_call 14; (with_reducible refine HRO.out.mono ?_); rintro e y15 ⟨he, hb⟩; obtain rfl : e = _ := he; have H15 : Hid (Pw w b q13 q15 ga c (setM M P V) (mroot M) p (M.mem P) y15 ∧ Lv y15 g21 41 13 p ∧ IsTab y15 q26 42 32 (fun i => bv (mroot (setM M P V) i))) := Lib.hid ⟨H14.out.1.next hb, H14.out.2.1.below hb, H14.out.2.2.below hb⟩; clear hb HRO)
        | ((with_reducible refine wpList_store_row (P := Tryd.prog) (w := y15.alloc (.cells zh 42)) ?_ 42 (.tmp 28) (.tmp 165) ?_ y15.heap.size (tab 32 fun i => bv (mroot (setM M P V) i)) ?_ ?_ 42 zh (heap_alloc_last y15 _) (infH _) ?_ (one_bv _ _) ?_); (· exact rfl); (· exact rfl); (· exact rfl); (· exact rfl); (· rw [HZI.out.2.2, tab_size]); rw [World.setRow_alloc_new]; simp only [Act.put]))
      have H16 : Hid (Pw w b q13 q15 ga c (setM M P V) (mroot M) p (M.mem P) (y15.alloc (.cells (tab 32 fun i => bv (mroot (setM M P V) i)) 42)) ∧ Lv (y15.alloc (.cells (tab 32 fun i => bv (mroot (setM M P V) i)) 42)) g21 41 13 p ∧ IsTab (y15.alloc (.cells (tab 32 fun i => bv (mroot (setM M P V) i)) 42)) q26 42 32 (fun i => bv (mroot (setM M P V) i)) ∧ IsTab (y15.alloc (.cells (tab 32 fun i => bv (mroot (setM M P V) i)) 42)) y15.heap.size 42 32 (fun i => bv (mroot (setM M P V) i))) := Lib.hid ⟨H15.out.1.next (ba _ _), H15.out.2.1.below (ba _ _), H15.out.2.2.below (ba _ _), IsTab.new y15 _ 32 _⟩
      clear H14 H15
      generalize y15.alloc (.cells (tab 32 fun i => bv (mroot (setM M P V) i)) 42) = y16 at *
      generalize y15.heap.size = q28 at *
      have HL26 := Lib.hid (load32h H16.out.2.2.1)
      have HL28 := Lib.hid (load32h H16.out.2.2.2)
      go_upto_region 25 with (first
        | ((with_reducible refine wpList_loadG (P := Tryd.prog) (w := y16) (ty := 42) (x := .tmp 26) (p := .pointer (some ⟨q26, 0, none⟩)) (v := dv (mroot (setM M P V))) ?_ ?_ ?_ HL26.out ?_); rotate_left; (· exact rfl); (· exact rfl); rotate_left; (· go_simp))
        | ((with_reducible refine wpList_loadG (P := Tryd.prog) (w := y16) (ty := 42) (x := .tmp 28) (p := .pointer (some ⟨q28, 0, none⟩)) (v := dv (mroot (setM M P V))) ?_ ?_ ?_ HL28.out ?_); rotate_left; (· exact rfl); (· exact rfl); rotate_left; (· go_simp))
        | (refine wpList_neqG (by go_simp) (.tmp 182) (.tmp 183) 42 (mroot (setM M P V)) rfl rfl rfl ?_))
      clear HL26 HL28
      have H17 : Hid (Pw w b q13 q15 ga c (setM M P V) (mroot M) p (M.mem P) y16 ∧ Lv y16 g21 41 13 p) := Lib.hid ⟨H16.out.1, H16.out.2.1⟩
      clear H16
      have HC12 : Hid ((12 : Int) ≤ (c : Int)) := Lib.hid (by have := HC.out.1; omega)
      have HS25 : Hid ((fun z : World => Pw w b q13 q15 ga c (setM M P V) (mroot M) p (M.mem P) z ∧ Lv z g21 41 13 p) y16.drew) := Lib.hid ⟨H17.out.1.next (Below.refl _ _).drew, H17.out.2.below (Below.refl _ _).drew⟩
      clear H17
      refine wp_region_og (fun z : World => Pw w b q13 q15 ga c (setM M P V) (mroot M) p (M.mem P) z ∧ Lv z g21 41 13 p) (.take 0 (.take 1 (.take 2 (.take 3 (.take 4 (.take 5 (.take 6 (.take 7 (.one 8 (.take 9 (.take 10 (.take 11 (.take 12 .done))))))))))))) (by kernel_rfl) (by kernel_rfl) (HS25.out) ?_
      generalize y16.drew = y17 at *
      have HH := Lib.hid (Holds_shape y17 (mroot M) P (M.mem P) 12 c (some ⟨ga, 0, none⟩) HPB.out (by decide))
      refine og_ld (some 187) 42 (.tmp 15) (.pointer (some ⟨q15, 0, none⟩)) (dv (mroot M)) rfl rfl (by go_simp) rfl rfl (fun y hy => load32h hy.1.s15) ?_
      simp only [Act.put, pS]
      refine og_tk (some 188) (.int .u64 P) rfl rfl (by go_simp) (fun _ _ => by simp [execOp, go_sem]) ?_
      simp only [Act.put, pS]
      refine og_tk (some 189) (.pointer (some ⟨q13, 0, none⟩)) rfl rfl (by go_simp) (fun _ _ => by simp [execOp, go_sem]) ?_
      simp only [Act.put, pS]
      refine og_ld (some 190) 33 (.tmp 189) (.pointer (some ⟨q13, 0, none⟩)) (.int .u64 (M.mem P)) rfl rfl (by go_simp) rfl rfl (fun y hy => by have h := hy.1.s13.k0; simp [Instr.loadAt, go_sem, h, Tryd.underlying33]) ?_
      simp only [Act.put, pS]
      refine og_tk (some 191) (.pointer (some ⟨q13, 1, none⟩)) rfl rfl (by go_simp) (fun _ _ => by simp [execOp, go_sem]) ?_
      simp only [Act.put, pS]
      refine og_ld (some 192) 52 (.tmp 191) (.pointer (some ⟨q13, 1, none⟩)) (.slice (some ⟨ga, 0, none⟩) 13 c) rfl rfl (by go_simp) rfl rfl (fun y hy => by have h := hy.1.s13.k1; simp [Instr.loadAt, go_sem, h, Tryd.underlying52]) ?_
      simp only [Act.put, pS]
      refine og_tk (some 193) (.slice (some ⟨ga, 0, none⟩) 12 c) rfl rfl (by go_simp) (fun y hy => by have h := HC12.out; simp [execOp, go_sem, h, Result.andThen]) ?_
      simp only [Act.put, pS]
      refine og_tk (some 194) (.agg #[.int .u64 (M.mem P), .slice (some ⟨ga, 0, none⟩) 12 c]) rfl rfl (by go_simp) (fun y hy => by have h := buildPt2 (M.mem P) (some ⟨ga, 0, none⟩) 12 c y; simp [execOp, go_sem, h, Result.andThen]) ?_
      simp only [Act.put, pS]
      refine og_f rfl (by go_simp) fun K hK => ?_
      go_simp
      refine HH.out.mono ?_
      rintro e y18 ⟨he, hb⟩
      obtain rfl : e = _ := he
      have H18 : Hid ((fun z : World => Pw w b q13 q15 ga c (setM M P V) (mroot M) p (M.mem P) z ∧ Lv z g21 41 13 p) y18) := Lib.hid ⟨HS25.out.1.next hb, HS25.out.2.below hb⟩
      refine hK _ _ H18.out ?_
      clear hK K hb
      try simp only [List.getElem_toArray, List.getElem_cons_succ, List.getElem_cons_zero, Act.put, pS]
      refine og_tk (some 186) (.tuple #[.bool false, .iface 85 (.int .i64 3)]) rfl rfl (by go_simp) (fun _ _ => by simp [execOp, go_sem]) ?_
      simp only [Act.put, pS]
      refine og_tk (some 196) (.bool false) rfl rfl (by go_simp) (fun _ _ => by simp [execOp, go_sem]) ?_
      simp only [Act.put, pS]
      refine og_tk (some 197) (.iface 85 (.int .i64 3)) rfl rfl (by go_simp) (fun _ _ => by simp [execOp, go_sem]) ?_
      simp only [Act.put, pS]
      refine og_tk (some 25) (.iface 85 (.int .i64 3)) rfl rfl (by go_simp) (fun _ _ => by simp [execOp, go_sem]) ?_
      simp only [Act.put, pS]
      refine og_done (NoPanic.normal ?_)
      clear HS25 HH
      go_upto_region 28 with (go_at_call 31; (with_reducible refine (HIS3.out _).mono ?_); rintro e yz ⟨he, hy⟩; obtain rfl : e = _ := he; obtain rfl : _ = yz := hy)
      have hI := HI5.out.1
      have hI2 : wrap64 (I : Int) = (I : Int) := by have := HI5.out.2; unfold wrap64; omega
      go_upto_region 29 with (fail)
      try rw [hI2]
      clear hI hI2
      obtain ⟨i0, hi0, hi1, hi2, hi3⟩ := infRs
      have HIN := Lib.hid (And.intro hi0 (And.intro hi1 (And.intro hi2 hi3)))
      clear hi0 hi1 hi2 hi3
      have bl0 := bldR0
      have OW0 := Lib.hid (owns_none y18 41 32)
      have SRC := Lib.hid (src_hs (w := y18.alloc (.cells #[] 41)) (a := some ⟨g21, 0, none⟩) (n := 13) (c := c21) (f := p) (.inr ⟨g21, 0, rfl, (H18.out.2.below (ba _ _)).at5⟩) (fun h => by cases h))
      have H32 : Hid (0 < 32) := Lib.hid (by decide)
      have hlb : Hid (0 + 13 ≤ maxLen ∧ (0 + 13) * 32 ≤ 140737488355328 ∧ y18.heap.size ≤ (y18.alloc (.cells #[] 41)).heap.size) := Lib.hid ⟨by decide, by decide, by simp⟩
      go_upto_region 30 with (at_builtin; (with_reducible refine wpList_append_any (P := Tryd.prog) (w := y18.alloc (.cells #[] 41)) ?_ (.tmp 206) (.tmp 207) 73 ?_ y18.heap.size 41 i0 (dv fun _ => 0#8) 32 32 undRs HIN.out zcells H32.out (.slice (some ⟨y18.heap.size, 0, none⟩) 0 0) 0 [] ?_ OW0.out (some ⟨g21, 0, none⟩) 13 c21 (flat 13 p) ?_ SRC.out (flat_one _ _) hlb.out.1 hlb.out.2.1 hlb.out.2.2 ?_); (· exact rfl); (· exact rfl); (· exact rfl); (· exact rfl); intro V7 w7 hown7 hgr7 hat7)
      rw [Nat.zero_add, List.nil_append] at hown7
      have hb7 : Below y18.heap.size y18 w7 := grown_below (ba y18 (.cells #[] 41)) OW0.out hgr7
      obtain ⟨a9, c31, rfl, hc31, _, hlv⟩ := lv_of_row hown7
      obtain ⟨g31, rfl, hg1, hg2, hlv⟩ := hlv.resolve_left (fun h => absurd h.1 (by decide))
      have H19 : Hid (Pw w b q13 q15 ga c (setM M P V) (mroot M) p (M.mem P) w7 ∧ Lv w7 g31 41 13 p) := Lib.hid ⟨H18.out.1.next hb7, hlv⟩
      have H20N : Hid (q15 < g31) := Lib.hid (Nat.lt_of_lt_of_le H18.out.1.s15.lt hg1)
      clear hown7 hgr7 hat7 hb7 hlv hg1 hg2 H18 SRC OW0 bl0 hlb H32
      generalize w7 = y19 at *
      obtain ⟨J, hJ⟩ : ∃ J : Nat, tb.toNat % 32 = J := ⟨_, rfl⟩
      have HIL : Hid (I < 13) := Lib.hid (by have := HI5.out.2; omega)
      have HJ32 : Hid ((Bv tb).tmod 32 = (J : Int) ∧ IntKind.i64.wrap (Bv tb) = Bv tb ∧ J < 32) := Lib.hid (by
        have h1 := tb.isLt
        have h2 : Bv tb = ((tb.toNat : Nat) : Int) := rfl
        rw [h2]
        refine ⟨by rw [Int.tmod_eq_emod_of_nonneg (by omega)]; omega, ?_, by omega⟩
        exact IntWalk.i64_in _ ⟨by omega, by omega⟩)
      obtain ⟨z, hz⟩ : ∃ z, p I J ^^^ tb = z := ⟨_, rfl⟩
      have HZX : Hid (bits .xor .u8 (Bv (p I J)) (Bv tb) = Bv z) := Lib.hid (by rw [xorB, hz])
      clear hJ hz
      have HS30 : Hid (Lv y19.drew g31 41 13 p) := Lib.hid H19.out.2
      have H20 : Hid (Pw w b q13 q15 ga c (setM M P V) (mroot M) p (M.mem P) y19.drew ∧ q15 < g31) := Lib.hid ⟨H19.out.1.next (Below.refl _ _).drew, H20N.out⟩
      clear H19
      refine wp_region_og (fun _ : World => True) (.take 0 (.take 1 (.take 2 (.take 3 (.take 4 (.take 5 (.take 6 (.take 8 (.take 10 (.one 7 (.take 9 (.take 11 (.one 12 .done))))))))))))) (by kernel_rfl) (by kernel_rfl) (trivial) ?_
      generalize y19.drew = y20 at *
      refine og_tk (some 209) (.slice (some ⟨g31, 0, none⟩) 13 c31) rfl rfl (by go_simp) (fun _ _ => by simp [execOp, go_sem]) ?_
      simp only [Act.put, pS]
      refine og_tk (some 210) (.int .i64 I) rfl rfl (by go_simp) (fun _ _ => by simp [execOp, go_sem]) ?_
      simp only [Act.put, pS]
      refine og_tk (some 211) (.int .u8 (Bv tb)) rfl rfl (by go_simp) (fun _ _ => by simp [execOp, go_sem]) ?_
      simp only [Act.put, pS]
      refine og_tk (some 212) (.int .i64 (Bv tb)) rfl rfl (by go_simp) (fun y hy => by have h := HJ32.out.2.1; simp [execOp, go_sem, h, Result.andThen]) ?_
      simp only [Act.put, pS]
      refine og_tk (some 213) (.int .i64 J) rfl rfl (by go_simp) (fun y hy => by have h := HJ32.out.1; simp [execOp, go_sem, h, Result.andThen]) ?_
      simp only [Act.put, pS]
      refine og_tk (some 214) (.pointer (some ⟨g31, I * 32, none⟩)) rfl rfl (by go_simp) (fun y hy => by have h := ixRs g31 c31 I HIL.out y; simp [execOp, go_sem, h, Result.andThen]) ?_
      simp only [Act.put, pS]
      refine og_tk (some 215) (.pointer (some ⟨g31, I * 32 + J, none⟩)) rfl rfl (by go_simp) (fun y hy => by have h := ixB g31 (I * 32) J HJ32.out.2.2 y; simp [execOp, go_sem, h, Result.andThen]) ?_
      simp only [Act.put, pS]
      refine og_tk (some 217) (.int .u8 (Bv tb)) rfl rfl (by go_simp) (fun _ _ => by simp [execOp, go_sem]) ?_
      simp only [Act.put, pS]
      refine og_tk (some 219) (.pointer (some ⟨g31, I * 32, none⟩)) rfl rfl (by go_simp) (fun y hy => by have h := ixRs g31 c31 I HIL.out y; simp [execOp, go_sem, h, Result.andThen]) ?_
      simp only [Act.put, pS]
      have kd := lvAt HS30.out HIL.out HJ32.out.2.2
      refine og_f rfl (by go_simp) fun K hK => ?_
      go_simp
      refine hK _ _ trivial ?_
      clear hK K
      try simp only [List.getElem_toArray, List.getElem_cons_succ, List.getElem_cons_zero, Act.put, pS]
      refine og_tk (some 218) (.int .u8 (Bv z)) rfl rfl (by go_simp) (fun y hy => by have h := HZX.out; simp [execOp, go_sem, h, Result.andThen]) ?_
      simp only [Act.put, pS]
      refine og_tk (some 220) (.pointer (some ⟨g31, I * 32 + J, none⟩)) rfl rfl (by go_simp) (fun y hy => by have h := ixB g31 (I * 32) J HJ32.out.2.2 y; simp [execOp, go_sem, h, Result.andThen]) ?_
      simp only [Act.put, pS]
      have fd := lvFz HS30.out (I * 32 + J)
      have H21 : Hid (Pw w b q13 q15 ga c (setM M P V) (mroot M) p (M.mem P) (y20.setCell ⟨g31, I * 32 + J, none⟩ (.int .u8 (Bv z))) ∧ Lv (y20.setCell ⟨g31, I * 32 + J, none⟩ (.int .u8 (Bv z))) g31 41 13 (onep p I J z)) := Lib.hid (by
        have h := H20.out.1
        have g := h.ge
        have n := H20.out.2
        exact ⟨⟨IsTab.keep h.mac (by omega), IsTab.keep h.s13 (by omega), IsTab.keep h.s15 (by omega), Lv.cellOther h.row (by omega), h.below.setCell (show w.heap.size ≤ g31 by omega) _, g⟩, Lv.setOne HS30.out I J HJ32.out.2.2 z⟩)
      refine og_f rfl (by go_simp) fun K hK => ?_
      go_simp
      refine hK _ _ trivial ?_
      clear hK K kd fd
      try simp only [List.getElem_toArray, List.getElem_cons_succ, List.getElem_cons_zero, Act.put, pS]
      refine og_done (NoPanic.normal ?_)
      clear HS30 H20 HZX
      go_upto_region 31 with (fail)
      generalize y20.setCell ⟨g31, I * 32 + J, none⟩ (.int .u8 (Bv z)) = y21 at *
      have HS31 : Hid ((fun y : World => Box2 y q13 54 (.int .u64 (M.mem P)) (.slice (some ⟨ga, 0, none⟩) 13 c) ∧ Lv y g31 41 13 (onep p I J z)) y21.drew) := Lib.hid ⟨H21.out.1.s13, H21.out.2⟩
      have H22 : Hid (Pw w b q13 q15 ga c (setM M P V) (mroot M) p (M.mem P) y21.drew ∧ Lv y21.drew g31 41 13 (onep p I J z)) := Lib.hid ⟨H21.out.1.next (Below.refl _ _).drew, H21.out.2⟩
      clear H21
      refine wp_region_og (fun y : World => Box2 y q13 54 (.int .u64 (M.mem P)) (.slice (some ⟨ga, 0, none⟩) 13 c) ∧ Lv y g31 41 13 (onep p I J z)) (.take 0 (.take 1 (.take 2 (.take 3 (.take 4 (.take 5 (.take 6 (.take 7 (.one 8 .done))))))))) (by kernel_rfl) (by kernel_rfl) (HS31.out) ?_
      generalize y21.drew = y22 at *
      refine og_tk (some 221) (.pointer (some ⟨q13, 1, none⟩)) rfl rfl (by go_simp) (fun _ _ => by simp [execOp, go_sem]) ?_
      simp only [Act.put, pS]
      refine og_ld (some 222) 52 (.tmp 221) (.pointer (some ⟨q13, 1, none⟩)) (.slice (some ⟨ga, 0, none⟩) 13 c) rfl rfl (by go_simp) rfl rfl (fun y hy => by have h := hy.1.k1; simp [Instr.loadAt, go_sem, h, Tryd.underlying52]) ?_
      simp only [Act.put, pS]
      refine og_tk (some 223) (.int .i64 I) rfl rfl (by go_simp) (fun _ _ => by simp [execOp, go_sem]) ?_
      simp only [Act.put, pS]
      refine og_tk (some 224) (.slice (some ⟨g31, 0, none⟩) 13 c31) rfl rfl (by go_simp) (fun _ _ => by simp [execOp, go_sem]) ?_
      simp only [Act.put, pS]
      refine og_tk (some 225) (.int .i64 I) rfl rfl (by go_simp) (fun _ _ => by simp [execOp, go_sem]) ?_
      simp only [Act.put, pS]
      refine og_tk (some 226) (.pointer (some ⟨g31, I * 32, none⟩)) rfl rfl (by go_simp) (fun y hy => by have h := ixRs g31 c31 I HIL.out y; simp [execOp, go_sem, h, Result.andThen]) ?_
      simp only [Act.put, pS]
      refine og_ld (some 227) 41 (.tmp 226) (.pointer (some ⟨g31, I * 32, none⟩)) (dv ((onep p I J z) I)) rfl rfl (by go_simp) rfl rfl (fun y hy => loadR hy.2.at5 HIL.out (by omega)) ?_
      simp only [Act.put, pS]
      refine og_tk (some 228) (.pointer (some ⟨ga, I * 32, none⟩)) rfl rfl (by go_simp) (fun y hy => by have h := ixHs ga c I HIL.out y; simp [execOp, go_sem, h, Result.andThen]) ?_
      simp only [Act.put, pS]
      have HTH := Lib.hid (H22.out.1.row.there (k := I) (p := I * 32) (n := 32) HIL.out (by omega) rfl)
      have H23 : Hid (Pw w b q13 q15 ga c (setM M P V) (mroot M) (onep p I J z) (M.mem P) (y22.setCells ga (I * 32) (tab 32 fun i => bv ((onep p I J z) I i)).toList) ∧ Lv (y22.setCells ga (I * 32) (tab 32 fun i => bv ((onep p I J z) I i)).toList) g31 41 13 (onep p I J z)) := Lib.hid (by
        have h := H22.out.1
        have g := h.ge
        have n := H20N.out
        have hr := h.row.set I ((onep p I J z) I) (p := I * 32) (by omega)
        rw [show (fun i => if i = I then (onep p I J z) I else p i) = (onep p I J z) from onep_row p I J z] at hr
        exact ⟨⟨IsTab.cellsOther (w := y22) (by omega) _ _ _ h.mac, IsTab.cellsOther (w := y22) (by omega) _ _ _ h.s13, IsTab.cellsOther (w := y22) (by omega) _ _ _ h.s15, hr, below_setCells (by omega) _ _ _ h.below, g⟩, Lv.keep H22.out.2 (by omega)⟩)
      refine og_f rfl (by go_simp) fun K hK => ?_
      refine wp_store_mid 42 (.tmp 228) (.tmp 227) rfl ga (I * 32) (tab 32 fun i => bv ((onep p I J z) I i)) rfl rfl (by rw [tab_size]; exact HTH.out) (infH _) (one_bv _ _) ?_
      refine hK _ _ ⟨H23.out.1.s13, H23.out.2⟩ ?_
      clear hK K HTH
      try simp only [List.getElem_toArray, List.getElem_cons_succ, List.getElem_cons_zero, Act.put, pS]
      refine og_done (NoPanic.normal ?_)
      clear HS31 H22
      generalize y22.setCells ga (I * 32) (tab 32 fun i => bv ((onep p I J z) I i)).toList = y23 at *
      generalize (onep p I J z) = pT at *
      obtain ⟨FT, hFT⟩ : ∃ FT, fold P (lfX (M.mem P)) pT 13 = FT := ⟨_, rfl⟩
      have HFT := Lib.hid hFT
      have HC31 := Lib.hid hc31
      have ew : wrap64 (P : Int) = (P : Int) := by have := HPB.out; unfold wrap64; omega
      have k13 : y23.cell? ⟨q13, 0, none⟩ = some (.int .u64 (M.mem P)) := H23.out.1.s13.k0
      have HLF := Lib.hid (rleaf_walk y23 (M.mem P) (HOK.out.1 P))
      clear hFT hc31
      go_upto_region 33 with (first
        | (go_at_call 34; (with_reducible refine HLF.out.mono ?_); rintro e y24 ⟨he, hb⟩; obtain rfl : e = _ := he; have H24 : Hid (Pw w b q13 q15 ga c (setM M P V) (mroot M) pT (M.mem P) y24 ∧ Lv y24 g31 41 13 pT) := Lib.hid ⟨H23.out.1.next hb, H23.out.2.below hb⟩; have HRF : Hid (Calls Tryd.prog 33 #[.int .i64 P, dv (lfX (M.mem P)), .slice (some ⟨g31, 0, none⟩) 13 c31] y24 fun e w' => e = .returned (.tuple #[dv FT, .int .i64 0]) ∧ Below y24.heap.size y24 w') := Lib.hid (by
            have e13 : (2 : Nat) ^ 13 = 8192 := by decide
            have h := refFold_ok P (lfX (M.mem P)) (some ⟨g31, 0, none⟩) 13 c31 pT y24 (.inr ⟨g31, 0, rfl, H24.out.2.at5⟩) HC31.out (by decide) (by have := HPB.out; omega)
            rw [HFT.out] at h
            exact h); clear hb HLF)
        | (go_at_call 33; (with_reducible refine HRF.out.mono ?_); rintro e y25 ⟨he, hb⟩; obtain rfl : e = _ := he; have H25 : Hid (Pw w b q13 q15 ga c (setM M P V) (mroot M) pT (M.mem P) y25) := Lib.hid (H24.out.1.next hb); clear hb HRF)
        | ((with_reducible refine wpList_store_row (P := Tryd.prog) (w := y25.alloc (.cells zh 41)) ?_ 41 (.tmp 32) (.tmp 237) ?_ y25.heap.size (tab 32 fun i => bv (FT i)) ?_ ?_ 41 zh (heap_alloc_last y25 _) (infRr _) ?_ (one_bv _ _) ?_); (· exact rfl); (· exact rfl); (· exact rfl); (· exact rfl); (· rw [HZI.out.2.2, tab_size]); rw [World.setRow_alloc_new]; simp only [Act.put]))
      clear ew k13 H23 H24
      have H26 : Hid (Pw w b q13 q15 ga c (setM M P V) (mroot M) pT (M.mem P) (y25.alloc (.cells (tab 32 fun i => bv (FT i)) 41)) ∧ IsTab (y25.alloc (.cells (tab 32 fun i => bv (FT i)) 41)) y25.heap.size 41 32 (fun i => bv (FT i))) := Lib.hid ⟨H25.out.next (ba _ _), IsTab.new y25 _ 32 _⟩
      clear H25
      generalize y25.alloc (.cells (tab 32 fun i => bv (FT i)) 41) = y26 at *
      generalize y25.heap.size = q32 at *
      have hh := Holds_ok y26 (mroot M) P (M.mem P) c (some ⟨ga, 0, none⟩) pT (Or.inr ⟨ga, 0, rfl, H26.out.1.row.at5⟩) HC.out.1 HPB.out (HOK.out.1 P) (ktab_below HT.out H26.out.1.below)
      rw [HFT.out] at hh
      cases hok : same32 FT (mroot M)
      · have HOKE := Lib.hid hok
        rw [hok] at hh
        have HH := Lib.hid hh
        clear hh hok
        have HL15 := Lib.hid (load32h H26.out.1.s15)
        have HL13 := Lib.hid (loadPt H26.out.1.s13)
        go_upto_region 34 with (first
          | ((with_reducible refine wpList_loadE (P := Tryd.prog) (w := y26) (ty := 42) (x := .tmp 15) (p := .pointer (some ⟨q15, 0, none⟩)) (v := dv (mroot M)) ?_ ?_ ?_ HL15.out ?_); (· exact rfl); (· exact rfl); (· exact rfl))
          | ((with_reducible refine wpList_loadE (P := Tryd.prog) (w := y26) (ty := 54) (x := .tmp 13) (p := .pointer (some ⟨q13, 0, none⟩)) (v := .agg #[.int .u64 (M.mem P), .slice (some ⟨ga, 0, none⟩) 13 c]) ?_ ?_ ?_ HL13.out ?_); (· exact rfl); (· exact rfl); (· exact rfl))
          | (go_at_call 24; (refine HH.out.mono ?_); rintro e y27 ⟨he, hb⟩; obtain rfl : e = _ := he; have H27 : Hid (Pw w b q13 q15 ga c (setM M P V) (mroot M) pT (M.mem P) y27 ∧ IsTab y27 q32 41 32 (fun i => bv (FT i))) := Lib.hid ⟨H26.out.1.next hb, H26.out.2.below hb⟩; clear hb HH))
        clear HL15 HL13 H26
        have HW := Lib.hid (Write_no y27 (mroot M) P (M.mem P) 13 c (V : Int) (some ⟨ga, 0, none⟩) pT (Or.inr ⟨ga, 0, rfl, H27.out.1.row.at5⟩) HC.out.1 HPB.out (HOK.out.1 P) (ktab_below HT.out H27.out.1.below) rfl (by rw [HFT.out, HOKE.out]))
        have HL15 := Lib.hid (load32h H27.out.1.s15)
        have HL13 := Lib.hid (loadPt H27.out.1.s13)
        go_upto_region 35 with (first
          | ((with_reducible refine wpList_loadE (P := Tryd.prog) (w := y27) (ty := 42) (x := .tmp 15) (p := .pointer (some ⟨q15, 0, none⟩)) (v := dv (mroot M)) ?_ ?_ ?_ HL15.out ?_); (· exact rfl); (· exact rfl); (· exact rfl))
          | ((with_reducible refine wpList_loadE (P := Tryd.prog) (w := y27) (ty := 54) (x := .tmp 13) (p := .pointer (some ⟨q13, 0, none⟩)) (v := .agg #[.int .u64 (M.mem P), .slice (some ⟨ga, 0, none⟩) 13 c]) ?_ ?_ ?_ HL13.out ?_); (· exact rfl); (· exact rfl); (· exact rfl))
          | (go_at_call 21; (refine HW.out.mono ?_); rintro e y28 ⟨he, hb⟩; obtain rfl : e = _ := he; have H28 : Hid (Pw w b q13 q15 ga c (setM M P V) (mroot M) pT (M.mem P) y28 ∧ IsTab y28 q32 41 32 (fun i => bv (FT i))) := Lib.hid ⟨H27.out.1.next hb, H27.out.2.below hb⟩; clear hb HW))
        clear HL15 HL13 H27
        have HL15 := Lib.hid (load32h H28.out.1.s15)
        have HL32 := Lib.hid (load32r H28.out.2)
        go_wp2_with (first
          | ((with_reducible refine wpList_loadG (P := Tryd.prog) (w := y28) (ty := 41) (x := .tmp 32) (p := .pointer (some ⟨q32, 0, none⟩)) (v := dv FT) ?_ ?_ ?_ HL32.out ?_); rotate_left; (· exact rfl); (· exact rfl); rotate_left; (· go_simp))
          | ((with_reducible refine wpList_loadG (P := Tryd.prog) (w := y28) (ty := 42) (x := .tmp 15) (p := .pointer (some ⟨q15, 0, none⟩)) (v := dv (mroot M)) ?_ ?_ ?_ HL15.out ?_); rotate_left; (· exact rfl); (· exact rfl); rotate_left; (· go_simp))
          | (refine wpList_eqG (by go_simp) (.tmp 258) (.tmp 259) 42 FT (mroot M) rfl rfl rfl ?_; rw [HOKE.out])
          | (go_at_call 31; (with_reducible refine (HIS31.out _).mono ?_); rintro e yz ⟨he, hy⟩; obtain rfl : e = _ := he; obtain rfl : _ = yz := hy))
        exact bodyPost_ret (v := .bool true) (by simp [results, Tryd.results6, go_sem]) rfl ⟨rfl, H28.out.1.below⟩
      · have HOKE := Lib.hid hok
        rw [hok] at hh
        have HH := Lib.hid hh
        clear hh hok
        have HL15 := Lib.hid (load32h H26.out.1.s15)
        have HL13 := Lib.hid (loadPt H26.out.1.s13)
        go_upto_region 34 with (first
          | ((with_reducible refine wpList_loadE (P := Tryd.prog) (w := y26) (ty := 42) (x := .tmp 15) (p := .pointer (some ⟨q15, 0, none⟩)) (v := dv (mroot M)) ?_ ?_ ?_ HL15.out ?_); (· exact rfl); (· exact rfl); (· exact rfl))
          | ((with_reducible refine wpList_loadE (P := Tryd.prog) (w := y26) (ty := 54) (x := .tmp 13) (p := .pointer (some ⟨q13, 0, none⟩)) (v := .agg #[.int .u64 (M.mem P), .slice (some ⟨ga, 0, none⟩) 13 c]) ?_ ?_ ?_ HL13.out ?_); (· exact rfl); (· exact rfl); (· exact rfl))
          | (go_at_call 24; (refine HH.out.mono ?_); rintro e y27 ⟨he, hb⟩; obtain rfl : e = _ := he; have H27 : Hid (Pw w b q13 q15 ga c (setM M P V) (mroot M) pT (M.mem P) y27 ∧ IsTab y27 q32 41 32 (fun i => bv (FT i))) := Lib.hid ⟨H26.out.1.next hb, H26.out.2.below hb⟩; clear hb HH))
        clear HL15 HL13 H26
        have HW := Lib.hid (Write_ok y27 (mroot M) P (M.mem P) V 13 c (some ⟨ga, 0, none⟩) pT (Or.inr ⟨ga, 0, rfl, H27.out.1.row.at5⟩) HC.out.1 HPB.out (HOK.out.1 P) HOK.out.2.1 (ktab_below HT.out H27.out.1.below) rfl (by rw [HFT.out, HOKE.out]))
        have HL15 := Lib.hid (load32h H27.out.1.s15)
        have HL13 := Lib.hid (loadPt H27.out.1.s13)
        go_upto_region 35 with (first
          | ((with_reducible refine wpList_loadE (P := Tryd.prog) (w := y27) (ty := 42) (x := .tmp 15) (p := .pointer (some ⟨q15, 0, none⟩)) (v := dv (mroot M)) ?_ ?_ ?_ HL15.out ?_); (· exact rfl); (· exact rfl); (· exact rfl))
          | ((with_reducible refine wpList_loadE (P := Tryd.prog) (w := y27) (ty := 54) (x := .tmp 13) (p := .pointer (some ⟨q13, 0, none⟩)) (v := .agg #[.int .u64 (M.mem P), .slice (some ⟨ga, 0, none⟩) 13 c]) ?_ ?_ ?_ HL13.out ?_); (· exact rfl); (· exact rfl); (· exact rfl))
          | (go_at_call 21; (refine HW.out.mono ?_); rintro e y28 ⟨he, hb⟩; obtain rfl : e = _ := he; have H28 : Hid (Pw w b q13 q15 ga c (setM M P V) (mroot M) pT (M.mem P) y28 ∧ IsTab y28 q32 41 32 (fun i => bv (FT i))) := Lib.hid ⟨H27.out.1.next hb, H27.out.2.below hb⟩; clear hb HW))
        clear HL15 HL13 H27
        have HL15 := Lib.hid (load32h H28.out.1.s15)
        have HL32 := Lib.hid (load32r H28.out.2)
        go_wp2_with (first
          | ((with_reducible refine wpList_loadG (P := Tryd.prog) (w := y28) (ty := 41) (x := .tmp 32) (p := .pointer (some ⟨q32, 0, none⟩)) (v := dv FT) ?_ ?_ ?_ HL32.out ?_); rotate_left; (· exact rfl); (· exact rfl); rotate_left; (· go_simp))
          | ((with_reducible refine wpList_loadG (P := Tryd.prog) (w := y28) (ty := 42) (x := .tmp 15) (p := .pointer (some ⟨q15, 0, none⟩)) (v := dv (mroot M)) ?_ ?_ ?_ HL15.out ?_); rotate_left; (· exact rfl); (· exact rfl); rotate_left; (· go_simp))
          | (refine wpList_eqG (by go_simp) (.tmp 258) (.tmp 259) 42 FT (mroot M) rfl rfl rfl ?_; rw [HOKE.out])
          | (go_at_call 31; (with_reducible refine (HIS31.out _).mono ?_); rintro e yz ⟨he, hy⟩; obtain rfl : e = _ := he; obtain rfl : _ = yz := hy))
        exact bodyPost_ret (v := .bool true) (by simp [results, Tryd.results6, go_sem]) rfl ⟨rfl, H28.out.1.below⟩
end Co
end Go.Proofs.YtgffohmneobblaaDoor
/-
  Layer 11: CommitProofs. Written by genCv.py. Own work.
-/
namespace Go.Proofs.YtgffohmneobblaaDoor
open Go.RowKit Go.ChangeShapes
set_option linter.unusedVariables false
namespace Co
open Kc Mk Vm
theorem commitProofs_walk (a0 : Option Addr) (len0 cap0 : Nat) (x v at0 t : Int) {w : World} (w0 : IsRecs [.u64, .u64] w a0 len0 cap0) (p1 : (Lit.int .u64 x).wf = true) (p2 : (Lit.int .u64 v).wf = true) (p3 : (Lit.int .i64 at0).wf = true) (p4 : (Lit.int .u8 t).wf = true) (ht : Laid.KTab w) :
    Calls Tryd.prog 6 #[.slice a0 len0 cap0, .int .u64 x, .int .u64 v, .int .i64 at0, .int .u8 t] w fun e w' => e = .returned (.bool true) ∧ Below w.heap.size w w' := by
  obtain ⟨f, hl, hf, hfb⟩ := recs_cl w0
  have q1 : 0 ≤ x ∧ x ≤ 18446744073709551615 := ⟨of_decide_eq_true (Bool.and_eq_true_iff.1 p1).1, of_decide_eq_true (Bool.and_eq_true_iff.1 p1).2⟩
  have q2 : 0 ≤ v ∧ v ≤ 18446744073709551615 := ⟨of_decide_eq_true (Bool.and_eq_true_iff.1 p2).1, of_decide_eq_true (Bool.and_eq_true_iff.1 p2).2⟩
  have q4 : 0 ≤ t ∧ t ≤ 255 := ⟨of_decide_eq_true (Bool.and_eq_true_iff.1 p4).1, of_decide_eq_true (Bool.and_eq_true_iff.1 p4).2⟩
  obtain ⟨x, rfl⟩ := Int.eq_ofNat_of_zero_le q1.1
  obtain ⟨v, rfl⟩ := Int.eq_ofNat_of_zero_le q2.1
  obtain ⟨t, rfl⟩ := Int.eq_ofNat_of_zero_le q4.1
  have e : ((t : Nat) : Int) = Bv (BitVec.ofNat 8 t) := by
    unfold Bv
    rw [BitVec.toNat_ofNat, Nat.mod_eq_of_lt (by omega)]
  rw [e]
  rcases Nat.lt_or_ge x 8192 with h | h
  · exact proofs_near w a0 len0 cap0 x v at0 _ f hl hf hfb (by omega) (by omega) ht h
  · exact proofs_far w a0 len0 cap0 x v at0 _ f hl hf hfb (by omega) (by omega) ht h
end Co
end Go.Proofs.YtgffohmneobblaaDoor
