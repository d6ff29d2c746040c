/- RLP: merged. Own work. -/
import Derived.Test.YtkhdamjjbjmeaaaDoorJ9
namespace Go.Proofs.YtkhdamjjbjmeaaaDoor
open Go.ChangeShapes Go.WideShapes Go.Deep Go.RowKit
set_option linter.unusedVariables false
set_option linter.unusedSimpArgs false
namespace Rl
theorem at_sh {b : List Bt} {i : Nat} (h : ¬ at' b i < 128) : ∃ l n, n < 64 ∧ at' b i = sh l + n := by
  have h1 := at_lt b i
  by_cases h2 : at' b i < 192
  · exact ⟨false, at' b i - 128, by omega, by rw [sh_f]; omega⟩
  · exact ⟨true, at' b i - 192, by omega, by rw [sh_t]; omega⟩
/-- item reads what stands there. -/
theorem ritem_walk : ∀ (f : Nat) (w : World) (q b o N c : Nat) (bs : List Bt) (D : Value) (i e d : Nat), Box4 w q (.slice (some ⟨b, o, none⟩) N c) (.int .i64 i) (.int .i64 0) D → IsB w (some ⟨b, o, none⟩) N c bs → b ≠ q → d ≤ 16 → i < e → e ≤ N → N ≤ 4096 → 2 * (e - i) + 1 ≤ f →
    Calls Tryd.prog 60 #[.pointer (some ⟨q, 0, none⟩), .int .i64 e, .int .i64 d] w fun r w' => ritOut w.heap.size q (.slice (some ⟨b, o, none⟩) N c) D w' (one bs f i e d) r ∧ Kept (fun b => b = q) w w' := by
  intro f
  induction f using Nat.strongRecOn with
  | _ f ih =>
    intro w q b o N c bs D i e d hX hB hbq hdd hi he hN hf
    obtain ⟨f, rfl⟩ : ∃ g, f = g + 1 := ⟨f - 1, by omega⟩
    by_cases h16 : 16 ≤ d
    · obtain rfl : d = 16 := by omega
      rw [one_deep h16]
      exact (ritem_deep w q _ D i e hX).mono fun r w' ⟨h1, h2, h3⟩ => ⟨by rw [h1]; exact ritOut_bad (by decide) h3, h2⟩
    · by_cases h128 : at' bs i < 128
      · have hh : hd bs i e = .ok false 0 1 := by unfold Rl.hd; rw [if_pos h128]
        rw [one_text (by omega) hh]
        refine (ritem_small w q b o N c bs D i e d hX hB hbq (by omega) hi he hN h128).mono ?_
        rintro r w' ⟨⟨g, rfl, hg, hc⟩, hk, hb⟩
        refine ⟨⟨false, _, .nil, some ⟨g, 0, none⟩, 1, 1, none, 0, 0, i + 1, 0, D, rfl, ?_, noK _, hb, .inl ⟨by rw [Nat.add_zero], rfl, rfl⟩⟩, hk⟩
        rw [slc_one (by have := hB.1; omega)]
        refine ⟨rfl, Nat.le_refl _, by decide, fun e => (by cases e), .inr ⟨g, 0, rfl, fun j x hx => ?_⟩⟩
        match j with
        | 0 => simp at hx; subst hx; rw [see_in (show w.heap.size ≤ g from hg)]; exact hc
        | j + 1 => simp at hx
      · obtain ⟨l, n, hn, hs⟩ := at_sh h128
        refine ritem_main l w q b o N c bs D i e d n f hX hB hbq (by omega) hi he hN hn hs (by omega) ?_
        intro y j f' M h1 h2 h3 h4 h5 h6
        exact ih f' (by omega) y q b o N c bs D j M (d + 1) h1 h2 hbq (by omega) h3 h4 hN h6
/-- What Decode of the reference answers. -/
def rdOut (B : Nat) (w : World) : R1 → Ending → Prop
  | .bad p k, e => e = .returned (.tuple #[zIt, .int .i64 p, .int .i64 k])
  | .ok l x k j, e => ∃ a n c a' n' c', e = .returned (.tuple #[.agg #[.bool l, .slice a n c, .slice a' n' c'], .int .i64 0, .int .i64 0]) ∧ IsB (see (fun b => B ≤ b) w) a n c x ∧ IsK (see (fun b => B ≤ b) w) a' n' c' k
set_option maxHeartbeats 2000000 in
set_option maxRecDepth 100000 in
theorem rdecode_long (w : World) (a : Option Addr) (n c : Nat) (h : 4096 < n) : Calls Tryd.prog 39 #[.slice a n c] w fun r w' => rdOut w.heap.size w' (.bad 0 5) r ∧ Below w.heap.size w w' := by
  have h1 : (4096 : Int) < n := by omega
  clear h
  go_enter Tryd.func39, Tryd.ntmps39
  go_wp2_with (fail)
  refine bodyPost_ret (v := .tuple #[zIt, .int .i64 0, .int .i64 5]) (by simp [results, Tryd.results39, go_sem, zIt]) rfl ⟨rfl, ?_⟩
  first | exact ba _ _ | exact put3_below (ba _ _) (Nat.le_refl _)
set_option maxHeartbeats 2000000 in
set_option maxRecDepth 100000 in
theorem rdecode_none (w : World) (a : Option Addr) (c : Nat) : Calls Tryd.prog 39 #[.slice a 0 c] w fun r w' => rdOut w.heap.size w' (.bad 0 11) r ∧ Below w.heap.size w w' := by
  go_enter Tryd.func39, Tryd.ntmps39
  go_wp2_with (fail)
  refine bodyPost_ret (v := .tuple #[zIt, .int .i64 0, .int .i64 11]) (by simp [results, Tryd.results39, go_sem, zIt]) rfl ⟨rfl, ?_⟩
  first | exact ba _ _ | exact put3_below (ba _ _) (Nat.le_refl _)
set_option maxHeartbeats 4000000 in
set_option maxRecDepth 100000 in
theorem rdecode_some (w : World) (b o n c : Nat) (bs : List Bt) (hB : IsB w (some ⟨b, o, none⟩) n c bs) (hn : 0 < n) (hN : n ≤ 4096) :
    Calls Tryd.prog 39 #[.slice (some ⟨b, o, none⟩) n c] w fun r w' => rdOut w.heap.size w' (upto n (one bs (4 * n + 4) 0 n 0)) r ∧ Below w.heap.size w w' := by
  have hb : b < w.heap.size := by
    obtain ⟨b0, o0, e0, hc⟩ := hB.cellAt (j := 0) hn
    injection e0 with e0
    injection e0 with e1 e2
    subst e1 e2
    exact inHeap hc
  have HB1 := Lib.hid (ba w (.cells #[.bool false, .slice none 0 0, .slice none 0 0] 79))
  have HB2 : Hid (Below w.heap.size w ((w.alloc (.cells #[.bool false, .slice none 0 0, .slice none 0 0] 79)).alloc (.cells #[.slice (some ⟨b, o, none⟩) n c, .int .i64 0, .int .i64 0, .int .i64 0] 126))) := Lib.hid (bl HB1.out (ba _ _))
  have HX0 : Hid (Box4 ((w.alloc (.cells #[.bool false, .slice none 0 0, .slice none 0 0] 79)).alloc (.cells #[.slice (some ⟨b, o, none⟩) n c, .int .i64 0, .int .i64 0, .int .i64 0] 126)) (w.heap.size + 1) (.slice (some ⟨b, o, none⟩) n c) (.int .i64 ((0 : Nat) : Int)) (.int .i64 0) (.int .i64 0)) := Lib.hid (by
    have := Box4.new (w.alloc (.cells #[.bool false, .slice none 0 0, .slice none 0 0] 79)) (.slice (some ⟨b, o, none⟩) n c) (.int .i64 0) (.int .i64 0) (.int .i64 0) 126
    rw [show (w.alloc (.cells #[.bool false, .slice none 0 0, .slice none 0 0] 79)).heap.size = w.heap.size + 1 by simp] at this; exact this)
  have HR0 : Hid (Box3 ((w.alloc (.cells #[.bool false, .slice none 0 0, .slice none 0 0] 79)).alloc (.cells #[.slice (some ⟨b, o, none⟩) n c, .int .i64 0, .int .i64 0, .int .i64 0] 126)) w.heap.size (.bool false) (.slice none 0 0) (.slice none 0 0)) := Lib.hid ((Box3.new w _ _ _ _).keep (ba _ _))
  have HC : Hid (Calls Tryd.prog 60 #[.pointer (some ⟨w.heap.size + 1, 0, none⟩), .int .i64 n, .int .i64 0] ((w.alloc (.cells #[.bool false, .slice none 0 0, .slice none 0 0] 79)).alloc (.cells #[.slice (some ⟨b, o, none⟩) n c, .int .i64 0, .int .i64 0, .int .i64 0] 126)) fun r w' => ritOut ((w.alloc (.cells #[.bool false, .slice none 0 0, .slice none 0 0] 79)).alloc (.cells #[.slice (some ⟨b, o, none⟩) n c, .int .i64 0, .int .i64 0, .int .i64 0] 126)).heap.size (w.heap.size + 1) (.slice (some ⟨b, o, none⟩) n c) (.int .i64 0) w' (one bs (4 * n + 4) 0 n 0) r ∧ Kept (fun b => b = w.heap.size + 1) ((w.alloc (.cells #[.bool false, .slice none 0 0, .slice none 0 0] 79)).alloc (.cells #[.slice (some ⟨b, o, none⟩) n c, .int .i64 0, .int .i64 0, .int .i64 0] 126)) w') := Lib.hid (ritem_walk (4 * n + 4) _ (w.heap.size + 1) b o n c bs (.int .i64 0) 0 n 0 HX0.out (hB.keep (keep_below HB2.out)) (by omega) (by omega) hn (Nat.le_refl _) hN (by omega))
  have HZ : Hid (((w.alloc (.cells #[.bool false, .slice none 0 0, .slice none 0 0] 79)).alloc (.cells #[.slice (some ⟨b, o, none⟩) n c, .int .i64 0, .int .i64 0, .int .i64 0] 126)).heap.size = w.heap.size + 2) := Lib.hid (by simp)
  have h1 : decide ((4096 : Int) < n) = false := by simp; omega
  have h2 : ((n : Int) == 0) = false := beq_eq_false_iff_ne.2 (by omega)
  have hjn : ∀ l x k j, one bs (4 * n + 4) 0 n 0 = .ok l x k j → j ≤ n := fun l x k j h => (one_next (by omega) (by rw [hB.1]; exact Nat.le_refl _) h).2
  have HJN := Lib.hid hjn
  generalize one bs (4 * n + 4) 0 n 0 = R at *
  have HN := Lib.hid (And.intro hn hN)
  clear hB hb hn hN hjn
  go_enter Tryd.func39, Tryd.ntmps39
  go_upto_region 6 with (fail)
  generalize (w.alloc (.cells #[.bool false, .slice none 0 0, .slice none 0 0] 79)).alloc (.cells #[.slice (some ⟨b, o, none⟩) n c, .int .i64 0, .int .i64 0, .int .i64 0] 126) = y0 at *
  go_upto_region 7 with (go_at_call 60; (with_reducible refine HC.out.mono ?_); rintro r y1 ⟨⟨l, x, k, a3, n3, c3, a4, n4, c4, j, kk, D', rfl, hB3, hK3, hbx, hor⟩, hk⟩
                         have HX := Lib.hid hbx; have HBK := Lib.hid (And.intro hB3 hK3); have HOR := Lib.hid hor; have HK := Lib.hid hk; clear hbx hB3 hK3 hor hk)
  have HR := Lib.hid ((HR0.out.kept HK.out (by omega)).keep (ba y1 (.cells #[.bool l, .slice a3 n3 c3, .slice a4 n4 c4] 79)))
  have HX := Lib.hid (HX.out.keep (ba y1 (.cells #[.bool l, .slice a3 n3 c3, .slice a4 n4 c4] 79)))
  have HI := Lib.hid (Box3.new y1 (.bool l) (.slice a3 n3 c3) (.slice a4 n4 c4) 79)
  have HY1 := Lib.hid (show Below w.heap.size w y1 from HB2.out.trans (HK.out.below HB2.out.size (fun k _ h => by omega)))
  have HBL := Lib.hid (HY1.out.alloc HY1.out.size (.cells #[.bool l, .slice a3 n3 c3, .slice a4 n4 c4] 79))
  have HSZ := Lib.hid (show w.heap.size + 2 ≤ y1.heap.size by have := HK.out.size; have := HZ.out; omega)
  have HKP : Hid (Keep (see (fun b => y0.heap.size ≤ b) y1) (see (fun b => y0.heap.size ≤ b) (y1.alloc (.cells #[.bool l, .slice a3 n3 c3, .slice a4 n4 c4] 79)))) := Lib.hid (see_below (ba _ _))
  generalize y1.alloc (.cells #[.bool l, .slice a3 n3 c3, .slice a4 n4 c4] 79) = y2 at *
  rcases HOR.out with ⟨rfl, rfl, rfl⟩ | ⟨p, rfl, hkk, rfl⟩
  · by_cases hlt : (j : Int) < n
    · have HL := Lib.hid (show j < n by omega)
      obtain ⟨k0, k1, k2, k3, f0, f1, f2, f3⟩ := HX.out
      go_upto_region 9 with (go_at_call 61; (with_reducible refine (rfail_walk _ (w.heap.size + 1) _ _ _ j 11 HX.out).mono ?_); rintro r y3 ⟨rfl, hk, hbx⟩
                             have HR := Lib.hid (HR.out.kept hk (by omega)); have HX := Lib.hid hbx; have HBL := Lib.hid (HBL.out.trans (hk.below HBL.out.size (fun k _ h => by omega))); clear hbx hk)
      clear k0 k1 k2 k3 f0 f1 f2 f3
      obtain ⟨k0, k1, k2, k3, f0, f1, f2, f3⟩ := HX.out
      go_upto_region 10 with (fail)
      have HX := Lib.hid (HX.out.keep (Below.refl _ _).drew)
      have HR := Lib.hid (HR.out.keep (Below.refl _ _).drew)
      have HBL := Lib.hid (HBL.out.drew)
      obtain ⟨k0, k1, k2, k3, f0, f1, f2, f3⟩ := HX.out
      refine wp_region_og (fun y : World => y.cell? ⟨w.heap.size + 1, 2, none⟩ = some (.int .i64 11) ∧ y.cell? ⟨w.heap.size + 1, 3, none⟩ = some (.int .i64 j)) (.take 0 (.take 1 (.take 2 (.take 3 (.take 4 (.take 5 (.take 6 (.take 7 (.take 8 (.one 9 (.one 10 (.one 11 .done)))))))))))) (by kernel_rfl) (by kernel_rfl) ⟨k2, k3⟩ ?_
      clear k0 k1 k2 k3 f0 f1 f2 f3
      generalize World.drew _ = y5 at *
      refine og_tk (some 47) zIt rfl rfl (by go_simp) (fun _ _ => by simp [execOp, go_sem, zIt]) ?_
      refine og_tk (some 48) (.pointer (some ⟨w.heap.size + 1, 0, none⟩)) rfl rfl (by go_simp) (fun _ _ => by simp [execOp, go_sem]) ?_
      refine og_tk (some 49) (.pointer (some ⟨w.heap.size + 1, 0, none⟩)) rfl rfl (by go_simp) (fun _ _ => by simp [execOp, go_sem]) ?_
      refine og_tk (some 50) (.pointer (some ⟨w.heap.size + 1, 3, none⟩)) rfl rfl (by go_simp) (fun _ _ => by simp [execOp, go_sem]) ?_
      refine og_tk (some 51) (.int .i64 j) rfl rfl (by go_simp) (fun y hy => by simp [execOp, go_sem, hy.2]) ?_
      refine og_tk (some 52) (.pointer (some ⟨w.heap.size + 1, 0, none⟩)) rfl rfl (by go_simp) (fun _ _ => by simp [execOp, go_sem]) ?_
      refine og_tk (some 53) (.pointer (some ⟨w.heap.size + 1, 0, none⟩)) rfl rfl (by go_simp) (fun _ _ => by simp [execOp, go_sem]) ?_
      refine og_tk (some 54) (.pointer (some ⟨w.heap.size + 1, 2, none⟩)) rfl rfl (by go_simp) (fun _ _ => by simp [execOp, go_sem]) ?_
      refine og_tk (some 55) (.int .i64 11) rfl rfl (by go_simp) (fun y hy => by simp [execOp, go_sem, hy.1]) ?_
      simp only [Act.put, List.setIfInBounds_toArray, List.set_cons_zero, List.set_cons_succ]
      obtain ⟨g0, g1, g2, e0, e1, e2⟩ := HR.out
      refine og_f rfl (by go_simp) fun K hK => ?_
      unfold zIt
      go_simp
      refine hK _ _ ⟨by rw [put3_other _ _ _ _ _ (by omega)]; exact HX.out.k2, by rw [put3_other _ _ _ _ _ (by omega)]; exact HX.out.k3⟩ ?_
      clear hK K
      refine og_f rfl (by go_simp) fun K hK => ?_
      go_simp
      refine hK _ _ ⟨by rw [put3_other _ _ _ _ _ (by omega)]; exact HX.out.k2, by rw [put3_other _ _ _ _ _ (by omega)]; exact HX.out.k3⟩ ?_
      clear hK K
      refine og_f rfl (by go_simp) fun K hK => ?_
      go_simp
      refine hK _ _ ⟨by rw [put3_other _ _ _ _ _ (by omega)]; exact HX.out.k2, by rw [put3_other _ _ _ _ _ (by omega)]; exact HX.out.k3⟩ ?_
      clear hK K
      refine og_done (NoPanic.normal ?_)
      go_wp2_with (fail)
      have Y := (Box3.mk g0 g1 g2 e0 e1 e2).put (.bool false) (.slice none 0 0) (.slice none 0 0)
      refine bodyPost_ret (v := .tuple #[zIt, .int .i64 j, .int .i64 11]) (by simp [results, Tryd.results39, go_sem, zIt, Y.k0, Y.k1, Y.k2]) rfl ⟨?_, put3_below HBL.out (Nat.le_refl _)⟩
      show rdOut _ _ (if j < n then _ else _) _
      rw [if_pos HL.out]; rfl
    · have hlt1 : decide ((j : Int) < n) = false := by simpa using hlt
      have HL := Lib.hid (show ¬ j < n by omega)
      clear hlt
      obtain ⟨k0, k1, k2, k3, f0, f1, f2, f3⟩ := HX.out
      obtain ⟨x0, x1, x2, _, _, _⟩ := HI.out
      obtain ⟨g0, g1, g2, e0, e1, e2⟩ := HR.out
      go_wp2_with (fail)
      have Y := (Box3.mk g0 g1 g2 e0 e1 e2).put (.bool l) (.slice a3 n3 c3) (.slice a4 n4 c4)
      refine bodyPost_ret (v := .tuple #[.agg #[.bool l, .slice a3 n3 c3, .slice a4 n4 c4], .int .i64 0, .int .i64 0]) (by simp [results, Tryd.results39, go_sem, Y.k0, Y.k1, Y.k2]) rfl ⟨?_, put3_below HBL.out (Nat.le_refl _)⟩
      show rdOut _ _ (if j < n then _ else _) _
      rw [if_neg HL.out]
      have hkp : Keep (see (fun b => y0.heap.size ≤ b) y1) (see (fun b => w.heap.size ≤ b) (put3 y2 w.heap.size (.bool l) (.slice a3 n3 c3) (.slice a4 n4 c4))) :=
        HKP.out.trans (keep_see fun b o v h1 h2 => ⟨by have := HZ.out; omega, by rw [put3_other _ _ _ _ _ (by have := HZ.out; omega)]; exact h2⟩)
      exact ⟨a3, n3, c3, a4, n4, c4, rfl, HBK.out.1.keep hkp, HBK.out.2.keep hkp⟩
  · have hk0 : (kk == 0) = false := beq_eq_false_iff_ne.2 hkk
    have hk1 : (kk != 0) = true := by simp [hkk]
    have HKK := Lib.hid hkk
    clear hkk
    obtain ⟨k0, k1, k2, k3, f0, f1, f2, f3⟩ := HX.out
    go_upto_region 10 with (fail)
    have HX := Lib.hid (HX.out.keep (Below.refl _ _).drew)
    have HR := Lib.hid (HR.out.keep (Below.refl _ _).drew)
    have HBL := Lib.hid (HBL.out.drew)
    obtain ⟨k0, k1, k2, k3, f0, f1, f2, f3⟩ := HX.out
    refine wp_region_og (fun y : World => y.cell? ⟨w.heap.size + 1, 2, none⟩ = some (.int .i64 kk) ∧ y.cell? ⟨w.heap.size + 1, 3, none⟩ = some (.int .i64 p)) (.take 0 (.take 1 (.take 2 (.take 3 (.take 4 (.take 5 (.take 6 (.take 7 (.take 8 (.one 9 (.one 10 (.one 11 .done)))))))))))) (by kernel_rfl) (by kernel_rfl) ⟨k2, k3⟩ ?_
    clear k0 k1 k2 k3 f0 f1 f2 f3
    generalize World.drew _ = y5 at *
    refine og_tk (some 47) zIt rfl rfl (by go_simp) (fun _ _ => by simp [execOp, go_sem, zIt]) ?_
    refine og_tk (some 48) (.pointer (some ⟨w.heap.size + 1, 0, none⟩)) rfl rfl (by go_simp) (fun _ _ => by simp [execOp, go_sem]) ?_
    refine og_tk (some 49) (.pointer (some ⟨w.heap.size + 1, 0, none⟩)) rfl rfl (by go_simp) (fun _ _ => by simp [execOp, go_sem]) ?_
    refine og_tk (some 50) (.pointer (some ⟨w.heap.size + 1, 3, none⟩)) rfl rfl (by go_simp) (fun _ _ => by simp [execOp, go_sem]) ?_
    refine og_tk (some 51) (.int .i64 p) rfl rfl (by go_simp) (fun y hy => by simp [execOp, go_sem, hy.2]) ?_
    refine og_tk (some 52) (.pointer (some ⟨w.heap.size + 1, 0, none⟩)) rfl rfl (by go_simp) (fun _ _ => by simp [execOp, go_sem]) ?_
    refine og_tk (some 53) (.pointer (some ⟨w.heap.size + 1, 0, none⟩)) rfl rfl (by go_simp) (fun _ _ => by simp [execOp, go_sem]) ?_
    refine og_tk (some 54) (.pointer (some ⟨w.heap.size + 1, 2, none⟩)) rfl rfl (by go_simp) (fun _ _ => by simp [execOp, go_sem]) ?_
    refine og_tk (some 55) (.int .i64 kk) rfl rfl (by go_simp) (fun y hy => by simp [execOp, go_sem, hy.1]) ?_
    simp only [Act.put, List.setIfInBounds_toArray, List.set_cons_zero, List.set_cons_succ]
    obtain ⟨g0, g1, g2, e0, e1, e2⟩ := HR.out
    refine og_f rfl (by go_simp) fun K hK => ?_
    unfold zIt
    go_simp
    refine hK _ _ ⟨by rw [put3_other _ _ _ _ _ (by omega)]; exact HX.out.k2, by rw [put3_other _ _ _ _ _ (by omega)]; exact HX.out.k3⟩ ?_
    clear hK K
    refine og_f rfl (by go_simp) fun K hK => ?_
    go_simp
    refine hK _ _ ⟨by rw [put3_other _ _ _ _ _ (by omega)]; exact HX.out.k2, by rw [put3_other _ _ _ _ _ (by omega)]; exact HX.out.k3⟩ ?_
    clear hK K
    refine og_f rfl (by go_simp) fun K hK => ?_
    go_simp
    refine hK _ _ ⟨by rw [put3_other _ _ _ _ _ (by omega)]; exact HX.out.k2, by rw [put3_other _ _ _ _ _ (by omega)]; exact HX.out.k3⟩ ?_
    clear hK K
    refine og_done (NoPanic.normal ?_)
    go_wp2_with (fail)
    have Y := (Box3.mk g0 g1 g2 e0 e1 e2).put (.bool false) (.slice none 0 0) (.slice none 0 0)
    refine bodyPost_ret (v := .tuple #[zIt, .int .i64 p, .int .i64 kk]) (by simp [results, Tryd.results39, go_sem, zIt, Y.k0, Y.k1, Y.k2]) rfl ⟨?_, put3_below HBL.out (Nat.le_refl _)⟩
    rfl
theorem rdecode_walk (w : World) (a : Option Addr) (n c : Nat) (bs : List Bt) (hB : IsB w a n c bs) : Calls Tryd.prog 39 #[.slice a n c] w fun r w' => rdOut w.heap.size w' (dec bs) r ∧ Below w.heap.size w w' := by
  have hl := hB.1
  unfold dec
  rw [← hl]
  by_cases h1 : 4096 < n
  · rw [if_pos h1]; exact rdecode_long w a n c h1
  · rw [if_neg h1]
    by_cases h2 : n = 0
    · rw [if_pos h2]; subst h2; exact rdecode_none w a c
    · rw [if_neg h2]
      rcases hB.2.2.2.2 with h3 | ⟨b, o, rfl, h4⟩
      · exact absurd h3 h2
      · exact rdecode_some w b o n c bs hB (by omega) (by omega)
end Rl
end Go.Proofs.YtkhdamjjbjmeaaaDoor
