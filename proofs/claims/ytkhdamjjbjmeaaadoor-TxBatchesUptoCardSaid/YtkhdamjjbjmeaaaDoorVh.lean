/-
  mootref04: Batch. Own work.
-/
import Derived.Test.YtkhdamjjbjmeaaaDoorV7
import Derived.Test.YtkhdamjjbjmeaaaDoorJ5
import Derived.Test.YtkhdamjjbjmeaaaDoorJ6
namespace Go.Proofs.YtkhdamjjbjmeaaaDoor
open Go.ChangeShapes Go.WideShapes Go.Deep Go.RowKit
set_option linter.unusedVariables false
set_option linter.unusedSimpArgs false
namespace Rl
set_option maxHeartbeats 4000000 in
set_option maxRecDepth 100000 in
/-- Batch of the reference. -/
theorem txRBatch_walk (w : World) (a : Option Addr) (n c : Nat) (ls : List (List Bt)) (hL : IsBB w a n c ls) (hs : n ≤ 8 → sumL ls ≤ 268435456) :
    Calls Tryd.prog 19 #[.slice a n c] w fun e w' => ∃ V, e = .returned (.tuple #[V, .int .i64 (if btOk ls then 0 else 5)]) ∧ Own w' w.heap.size V (if btOk ls then btB ls else []) ∧ Below w.heap.size w w' := by
  have hn := hL.1
  by_cases h8 : 8 < n
  · have h1 : (8 : Int) < n := by omega
    have e : btOk ls = false := by unfold btOk; rw [decide_eq_false (by omega)]; rfl
    rw [e]
    clear hL hs hn h8 e
    show Calls _ _ _ _ fun e w' => ∃ V, e = .returned (.tuple #[V, .int .i64 5]) ∧ Own w' w.heap.size V [] ∧ Below w.heap.size w w'
    go_enter Tryd.func19, Tryd.ntmps19
    go_wp2_with (fail)
    exact bodyPost_ret (v := .tuple #[.slice none 0 0, .int .i64 5]) (by simp [results, Tryd.results19, go_sem]) rfl ⟨_, rfl, Own.nil _ _, Below.refl _ _⟩
  · have h1 : ¬ (8 : Int) < n := by omega
    have HL := Lib.hid hL
    have HN := Lib.hid (show n ≤ 8 ∧ n = ls.length ∧ sumL ls ≤ 268435456 from ⟨by omega, hn, hs (by omega)⟩)
    have HT0 : Hid (Bte w (.slice none 0 0) .nil (w.alloc (.cells #[.bool true, .slice none 0 0, .slice none 0 0] 79))) := Lib.hid ⟨ba _ _, Box3.new _ _ _ _ _, RowJ.nil _ _ _⟩
    have HER0 : ((wrap true [] (txts ls).form).length ≤ 4096 → (if btOk ls then (0 : Int) else 5) = 0 ∧ (if btOk ls then btB ls else []) = btB ls) ∧ (¬ (wrap true [] (txts ls).form).length ≤ 4096 → (if btOk ls then (0 : Int) else 5) = 5 ∧ (if btOk ls then btB ls else []) = []) := by
      constructor
      · intro h
        have e : btOk ls = true := by unfold btOk; rw [decide_eq_true (by omega), decide_eq_true h]; rfl
        rw [e]; exact ⟨rfl, rfl⟩
      · intro h
        have e : btOk ls = false := by unfold btOk; rw [decide_eq_false h, Bool.and_false]
        rw [e]; exact ⟨rfl, rfl⟩
    have HER := Lib.hid HER0
    generalize (if btOk ls then (0 : Int) else 5) = er at *
    generalize (if btOk ls then btB ls else []) = R at *
    clear HER0 hL hs hn h8
    go_enter Tryd.func19, Tryd.ntmps19
    go_upto_region 4 with (fail)
    clear h1
    generalize w.alloc (.cells #[.bool true, .slice none 0 0, .slice none 0 0] 79) = y0 at *
    go_wp2_with (fail)
    go_loopw [5] (fun i y => ∃ (j : Nat) (V : Value), i = .int .i64 j ∧ Hid (j ≤ n ∧ Bte w V (txts (ls.take j)) y)) (fun i _ => n - (intOf i).toNat)
    case atStart => exact ⟨0, _, rfl, Lib.hid ⟨Nat.zero_le _, HT0.out⟩⟩
    case round =>
      obtain ⟨j, V, rfl, hp⟩ := hrel
      clear HT0
      have HLr := Lib.hid hp.out.2
      by_cases hlt : (j : Int) < n
      · obtain ⟨b, o, a1, n1, c1, rfl, hcel0, hb1⟩ := HL.out.at (show j < n by omega)
        have HJ := Lib.hid (show j < n ∧ wrap64 ((j : Int) + 1) = ((j + 1 : Nat) : Int) by have := HN.out; refine ⟨by omega, ?_⟩; unfold wrap64; omega)
        have HB1 := Lib.hid hb1
        have HCW := Lib.hid hcel0
        have HBL := Lib.hid (inHeap hcel0)
        clear hp hb1 hcel0
        go_upto_region 7 with (fail)
        have hjn : j < n := HJ.out.1
        have HLw := Lib.hid (HLr.out.next (Below.refl _ _).drew)
        refine wp_region_og (fun y : World => y.cell? ⟨b, o + j, none⟩ = some (.slice a1 n1 c1)) (.take 0 (.take 2 (.take 3 (.take 4 (.take 5 (.two 1 (.one 6 (.one 7 (.one 8 (.one 9 (.one 10 .done))))) 6 (.two 1 (.one 7 (.one 8 (.one 9 (.one 10 .done)))) 7 (.one 1 (.one 8 (.one 9 (.one 10 .done))))))))))) (by kernel_rfl) (by kernel_rfl) (keep1 HLw.out.below HCW.out) ?_
        generalize wr.drew = w2 at *
        have HLc := Lib.hid HLw.out
        have HS := Lib.hid (keep1 HLc.out.below HCW.out)
        refine og_tk (some 16) (.pointer (some ⟨w.heap.size, 2, none⟩)) rfl rfl (by go_simp) (fun _ _ => by simp [execOp, go_sem]) ?_
        refine og_tk (some 18) (.slice (some ⟨b, o, none⟩) n c) rfl rfl (by go_simp) (fun _ _ => by simp [execOp, go_sem]) ?_
        refine og_tk (some 19) (.int .i64 j) rfl rfl (by go_simp) (fun _ _ => by simp [execOp, go_sem]) ?_
        refine og_tk (some 20) (.pointer (some ⟨b, o + j, none⟩)) rfl rfl (by go_simp) (fun _ _ => by simp [execOp, go_sem, hlt, hjn, add_at]) ?_
        refine og_tk (some 21) (.slice a1 n1 c1) rfl rfl (by go_simp) (fun y hy => by simp [execOp, go_sem, hy]) ?_
        simp only [Act.put, List.setIfInBounds_toArray, List.set_cons_zero, List.set_cons_succ]
        clear hlt hjn
        refine og_two ?_ ?_
        · skip
          refine og_of rfl (by go_simp) fun K hK => ?_
          have x2 := HLc.out.box.k2
          go_simp
          refine hK _ _ HS.out ?_
          try simp only [Act.put, List.setIfInBounds_toArray, List.set_cons_zero, List.set_cons_succ]
          clear hK K x2
          refine og_f rfl (by go_simp) fun K hK => ?_
          go_simp
          refine hK _ _ HS.out ?_
          try simp only [Act.put, List.setIfInBounds_toArray, List.set_cons_zero, List.set_cons_succ]
          clear hK K
          refine og_f rfl (by go_simp) fun K hK => ?_
          go_simp
          have HLc := Lib.hid (HLc.out.next (ba w2 (.cells #[.bool false, .slice a1 n1 c1, .slice none 0 0] 79)))
          have HS := Lib.hid (keep1 (ba w2 (.cells #[.bool false, .slice a1 n1 c1, .slice none 0 0] 79)) HS.out)
          refine hK _ _ HS.out ?_
          try simp only [Act.put, List.setIfInBounds_toArray, List.set_cons_zero, List.set_cons_succ]
          clear hK K
          have HV3 := Lib.hid (show IsV (see (Bes 0 w.heap.size V) (w2.alloc (.cells #[.bool false, .slice a1 n1 c1, .slice none 0 0] 79))) (.cons false (ls.getD j []) .nil .nil) [.bool false, .slice a1 n1 c1, .slice none 0 0] from it_news (HB1.out.keep (old_bes HLc.out.below HLc.out.row)) (noK4 _))
          have HC3 := Lib.hid (three_new w2 (.bool false) (.slice a1 n1 c1) (.slice none 0 0) 79)
          generalize w2.alloc (.cells #[.bool false, .slice a1 n1 c1, .slice none 0 0] 79) = y4 at *
          refine og_f rfl (by go_simp) fun K hK => ?_
          refine wp_appJ (some 24) (.tmp 17) (.tmp 23) rfl rfl (w.heap.size + 1) w.heap.size V _ rfl HLc.out.row HLc.out.sz (inHeap HLc.out.box.k0) ⟨w2.heap.size, 0, none⟩ false (ls.getD j []) .nil (.slice a1 n1 c1) (.slice none 0 0) 1 rfl HV3.out HC3.out (by rw [txts_len]; have := HN.out; have := HJ.out.1; simp; omega) ?_
          intro V5 y5 hr hg hat
          obtain ⟨a6, c6, rfl, _⟩ := hr.isK
          have HC5 := Lib.hid (HLc.out.put hg hr)
          have hx5 := HLc.out.box.grown hg HLc.out.row.1
          have x4 := hx5.k2
          have x5 := hx5.f2
          have HS := Lib.hid ((grown_cell hg (inHeap HS.out) (fun e => by have := (HLc.out.row.base e).1; have := HBL.out; omega)).trans HS.out)
          refine hK _ _ HS.out ?_
          try simp only [Act.put, List.setIfInBounds_toArray, List.set_cons_zero, List.set_cons_succ]
          clear hK K hr hg hat hx5
          refine og_f rfl (by go_simp) fun K hK => ?_
          go_simp
          refine hK _ _ HS.out ?_
          try simp only [Act.put, List.setIfInBounds_toArray, List.set_cons_zero, List.set_cons_succ]
          clear hK K
          refine og_f rfl (by go_simp) fun K hK => ?_
          go_simp
          have HS := Lib.hid (keep1 HC5.out.below HCW.out)
          refine hK _ _ HS.out ?_
          try simp only [Act.put, List.setIfInBounds_toArray, List.set_cons_zero, List.set_cons_succ]
          clear hK K
          refine og_done (NoPanic.normal ?_)
          clear x4 x5
          go_wp2_with (fail)
          try rw [HJ.out.2]
          go_roundw
          case rel => exact ⟨j + 1, _, rfl, Lib.hid ⟨HJ.out.1, by rw [txts_next _ _ (by rw [← HN.out.2.1]; exact HJ.out.1)]; exact HC5.out⟩⟩
          case measure => have := HJ.out.1; show n - (j + 1) < n - j; omega
        · skip
          refine og_of rfl (by go_simp) fun K hK => ?_
          go_simp
          refine hK _ _ HS.out ?_
          try simp only [Act.put, List.setIfInBounds_toArray, List.set_cons_zero, List.set_cons_succ]
          clear hK K
          refine og_two ?_ ?_
          · skip
            refine og_of rfl (by go_simp) fun K hK => ?_
            have x2 := HLc.out.box.k2
            go_simp
            refine hK _ _ HS.out ?_
            try simp only [Act.put, List.setIfInBounds_toArray, List.set_cons_zero, List.set_cons_succ]
            clear hK K x2
            refine og_f rfl (by go_simp) fun K hK => ?_
            go_simp
            have HLc := Lib.hid (HLc.out.next (ba w2 (.cells #[.bool false, .slice a1 n1 c1, .slice none 0 0] 79)))
            have HS := Lib.hid (keep1 (ba w2 (.cells #[.bool false, .slice a1 n1 c1, .slice none 0 0] 79)) HS.out)
            refine hK _ _ HS.out ?_
            try simp only [Act.put, List.setIfInBounds_toArray, List.set_cons_zero, List.set_cons_succ]
            clear hK K
            have HV3 := Lib.hid (show IsV (see (Bes 0 w.heap.size V) (w2.alloc (.cells #[.bool false, .slice a1 n1 c1, .slice none 0 0] 79))) (.cons false (ls.getD j []) .nil .nil) [.bool false, .slice a1 n1 c1, .slice none 0 0] from it_news (HB1.out.keep (old_bes HLc.out.below HLc.out.row)) (noK4 _))
            have HC3 := Lib.hid (three_new w2 (.bool false) (.slice a1 n1 c1) (.slice none 0 0) 79)
            generalize w2.alloc (.cells #[.bool false, .slice a1 n1 c1, .slice none 0 0] 79) = y4 at *
            refine og_f rfl (by go_simp) fun K hK => ?_
            refine wp_appJ (some 24) (.tmp 17) (.tmp 23) rfl rfl (w.heap.size + 1) w.heap.size V _ rfl HLc.out.row HLc.out.sz (inHeap HLc.out.box.k0) ⟨w2.heap.size, 0, none⟩ false (ls.getD j []) .nil (.slice a1 n1 c1) (.slice none 0 0) 1 rfl HV3.out HC3.out (by rw [txts_len]; have := HN.out; have := HJ.out.1; simp; omega) ?_
            intro V5 y5 hr hg hat
            obtain ⟨a6, c6, rfl, _⟩ := hr.isK
            have HC5 := Lib.hid (HLc.out.put hg hr)
            have hx5 := HLc.out.box.grown hg HLc.out.row.1
            have x4 := hx5.k2
            have x5 := hx5.f2
            have HS := Lib.hid ((grown_cell hg (inHeap HS.out) (fun e => by have := (HLc.out.row.base e).1; have := HBL.out; omega)).trans HS.out)
            refine hK _ _ HS.out ?_
            try simp only [Act.put, List.setIfInBounds_toArray, List.set_cons_zero, List.set_cons_succ]
            clear hK K hr hg hat hx5
            refine og_f rfl (by go_simp) fun K hK => ?_
            go_simp
            refine hK _ _ HS.out ?_
            try simp only [Act.put, List.setIfInBounds_toArray, List.set_cons_zero, List.set_cons_succ]
            clear hK K
            refine og_f rfl (by go_simp) fun K hK => ?_
            go_simp
            have HS := Lib.hid (keep1 HC5.out.below HCW.out)
            refine hK _ _ HS.out ?_
            try simp only [Act.put, List.setIfInBounds_toArray, List.set_cons_zero, List.set_cons_succ]
            clear hK K
            refine og_done (NoPanic.normal ?_)
            clear x4 x5
            go_wp2_with (fail)
            try rw [HJ.out.2]
            go_roundw
            case rel => exact ⟨j + 1, _, rfl, Lib.hid ⟨HJ.out.1, by rw [txts_next _ _ (by rw [← HN.out.2.1]; exact HJ.out.1)]; exact HC5.out⟩⟩
            case measure => have := HJ.out.1; show n - (j + 1) < n - j; omega
          · skip
            refine og_of rfl (by go_simp) fun K hK => ?_
            go_simp
            have HLc := Lib.hid (HLc.out.next (ba w2 (.cells #[.bool false, .slice a1 n1 c1, .slice none 0 0] 79)))
            have HS := Lib.hid (keep1 (ba w2 (.cells #[.bool false, .slice a1 n1 c1, .slice none 0 0] 79)) HS.out)
            refine hK _ _ HS.out ?_
            try simp only [Act.put, List.setIfInBounds_toArray, List.set_cons_zero, List.set_cons_succ]
            clear hK K
            have HV3 := Lib.hid (show IsV (see (Bes 0 w.heap.size V) (w2.alloc (.cells #[.bool false, .slice a1 n1 c1, .slice none 0 0] 79))) (.cons false (ls.getD j []) .nil .nil) [.bool false, .slice a1 n1 c1, .slice none 0 0] from it_news (HB1.out.keep (old_bes HLc.out.below HLc.out.row)) (noK4 _))
            have HC3 := Lib.hid (three_new w2 (.bool false) (.slice a1 n1 c1) (.slice none 0 0) 79)
            generalize w2.alloc (.cells #[.bool false, .slice a1 n1 c1, .slice none 0 0] 79) = y4 at *
            refine og_f rfl (by go_simp) fun K hK => ?_
            have x2 := HLc.out.box.k2
            go_simp
            refine hK _ _ HS.out ?_
            try simp only [Act.put, List.setIfInBounds_toArray, List.set_cons_zero, List.set_cons_succ]
            clear hK K x2
            refine og_f rfl (by go_simp) fun K hK => ?_
            refine wp_appJ (some 24) (.tmp 17) (.tmp 23) rfl rfl (w.heap.size + 1) w.heap.size V _ rfl HLc.out.row HLc.out.sz (inHeap HLc.out.box.k0) ⟨w2.heap.size, 0, none⟩ false (ls.getD j []) .nil (.slice a1 n1 c1) (.slice none 0 0) 1 rfl HV3.out HC3.out (by rw [txts_len]; have := HN.out; have := HJ.out.1; simp; omega) ?_
            intro V5 y5 hr hg hat
            obtain ⟨a6, c6, rfl, _⟩ := hr.isK
            have HC5 := Lib.hid (HLc.out.put hg hr)
            have hx5 := HLc.out.box.grown hg HLc.out.row.1
            have x4 := hx5.k2
            have x5 := hx5.f2
            have HS := Lib.hid ((grown_cell hg (inHeap HS.out) (fun e => by have := (HLc.out.row.base e).1; have := HBL.out; omega)).trans HS.out)
            refine hK _ _ HS.out ?_
            try simp only [Act.put, List.setIfInBounds_toArray, List.set_cons_zero, List.set_cons_succ]
            clear hK K hr hg hat hx5
            refine og_f rfl (by go_simp) fun K hK => ?_
            go_simp
            refine hK _ _ HS.out ?_
            try simp only [Act.put, List.setIfInBounds_toArray, List.set_cons_zero, List.set_cons_succ]
            clear hK K
            refine og_f rfl (by go_simp) fun K hK => ?_
            go_simp
            have HS := Lib.hid (keep1 HC5.out.below HCW.out)
            refine hK _ _ HS.out ?_
            try simp only [Act.put, List.setIfInBounds_toArray, List.set_cons_zero, List.set_cons_succ]
            clear hK K
            refine og_done (NoPanic.normal ?_)
            clear x4 x5
            go_wp2_with (fail)
            try rw [HJ.out.2]
            go_roundw
            case rel => exact ⟨j + 1, _, rfl, Lib.hid ⟨HJ.out.1, by rw [txts_next _ _ (by rw [← HN.out.2.1]; exact HJ.out.1)]; exact HC5.out⟩⟩
            case measure => have := HJ.out.1; show n - (j + 1) < n - j; omega
      · obtain rfl : j = n := by have := hp.out.1; omega
        rw [show ls.take j = ls by rw [List.take_of_length_le (by rw [← HN.out.2.1]; exact Nat.le_refl _)]] at HLr
        obtain ⟨a5, c5, rfl, hK5⟩ := HLr.out.row.isK
        have hsm : (wrap true [] (txts ls).form).length < B30 := by
          have h1 := txts_form ls
          have h2 := wrap_le true [] (txts ls).form
          have := HN.out
          simp at h2
          unfold B30
          omega
        have HE := Lib.hid (rencode_walk wr true 0 0 _ c5 none a5 [] (txts ls) (noB4 _) hK5 hsm)
        rw [bt_enc ls] at HE
        obtain ⟨k0, k1, k2, _, _, _⟩ := HLr.out.box
        clear hp hK5 hsm
        by_cases hb : (wrap true [] (txts ls).form).length ≤ 4096
        · rw [if_pos hb, if_pos rfl] at HE
          have HF := Lib.hid (HER.out.1 hb)
          clear hb
          go_wp2_with (go_at_call 36; (with_reducible refine HE.out.mono ?_); rintro e y2 ⟨V7, rfl, hO, hb⟩
                       have HO := Lib.hid hO; have HB2 := Lib.hid (bl HLr.out.below hb); clear hO hb)
          rw [HF.out.1, HF.out.2]
          exact bodyPost_ret (v := .tuple #[V7, .int .i64 0]) (by simp [results, Tryd.results19, go_sem]) rfl ⟨_, rfl, ownsRow_base HO.out HLr.out.below.size, HB2.out⟩
        · rw [if_neg hb, if_neg (by decide)] at HE
          have HF := Lib.hid (HER.out.2 hb)
          clear hb
          go_wp2_with (go_at_call 36; (with_reducible refine HE.out.mono ?_); rintro e y2 ⟨V7, rfl, hO, hb⟩
                       have HO := Lib.hid hO; have HB2 := Lib.hid (bl HLr.out.below hb); clear hO hb)
          rw [HF.out.1, HF.out.2]
          exact bodyPost_ret (v := .tuple #[V7, .int .i64 5]) (by simp [results, Tryd.results19, go_sem]) rfl ⟨_, rfl, ownsRow_base HO.out HLr.out.below.size, HB2.out⟩
end Rl
end Go.Proofs.YtkhdamjjbjmeaaaDoor
