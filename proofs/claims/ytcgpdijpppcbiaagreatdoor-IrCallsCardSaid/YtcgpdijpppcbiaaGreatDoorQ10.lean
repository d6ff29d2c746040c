/- Merged of Evh Err Bits Shelf. Own work. -/
import Derived.Test.YtcgpdijpppcbiaaGreatDoorQ09
import Derived.Test.YtcgpdijpppcbiaaGreatDoorRows
import Derived.WalkKit
import Derived.LaidEql
import Derived.Stop.Asserts
import Derived.RowKitTokens
import Derived.Laws.BitsAllLaws
import Derived.Shelf.Small.Bits
import Derived.Shelf.Strconv.Itoa0
import Derived.Shelf.Bits.Mul64
import Derived.Test.YtcgpdijpppcbiaaGreatDoorProg
namespace Go.Proofs.YtcgpdijpppcbiaaGreatDoor
open Go.RowKit
set_option linter.unusedVariables false
set_option linter.unusedSimpArgs false
namespace Ir
open Kc
section
variable {pv sv : Value} {prog : List Fn} {D : Nat → Prop}
set_option maxHeartbeats 8000000 in
set_option maxRecDepth 100000 in
theorem stmt_walk (rec : Sem) (hV : ValC pv sv prog D rec.val) (hL : LstC pv sv prog D rec.lst) (g : Nat) : StmC pv sv prog D (stepSt rec g) := by
  intro kind n ao an ak bo bn bk body els L v s way L' v' s' hev w r f VA VB V8 V9 hr hf hp hA hB h8 h9 han hbn hD hrf
  have hk0 : Kept (fun _ => False) w (w.alloc (.cells #[.int .i64 kind, .int .i64 n, .int .i64 ao, .int .u64 an, VA, .int .i64 bo, .int .u64 bn, VB, V8, V9] 35)) := (Kept.refl _ w).alloc _
  have HB := Lib.hid (Bt10.new w (.int .i64 kind) (.int .i64 n) (.int .i64 ao) (.int .u64 an) VA (.int .i64 bo) (.int .u64 bn) VB V8 V9 35)
  have HM : Hid (Mid (w.alloc (.cells #[.int .i64 kind, .int .i64 n, .int .i64 ao, .int .u64 an, VA, .int .i64 bo, .int .u64 bn, VB, V8, V9] 35)) D pv sv prog r f L v s (w.alloc (.cells #[.int .i64 kind, .int .i64 n, .int .i64 ao, .int .u64 an, VA, .int .i64 bo, .int .u64 bn, VB, V8, V9] 35))) :=
    Lib.hid ⟨hr.kept hk0 id, hf.kept hk0 id, hp.kept hk0 fun _ _ => id, Kept.refl _ _, fun k e => ⟨Nat.lt_of_lt_of_le (hD k e).1 hk0.size, (hD k e).2⟩⟩
  have HX := Lib.hid (And.intro (hA.kept hk0 fun _ _ => id) (And.intro han (And.intro (hB.kept hk0 fun _ _ => id) (And.intro hbn (And.intro (h8.kept hk0 fun _ _ => id) (h9.kept hk0 fun _ _ => id))))))
  have HQ : Hid (¬ (w.heap.size = r ∨ w.heap.size = f) ∧ (∀ k, D k → ¬ (k = r ∨ k = f)) ∧ r ≠ f) := Lib.hid ⟨by rintro (e | e); have := hr.lt; omega; have := hf.lt; omega, fun k e => by rintro (e2 | e2); exact (hD k e).2.1 e2; exact (hD k e).2.2 e2, hrf⟩
  have HK0 := Lib.hid hk0
  clear hk0 hr hf hp hA hB h8 h9 han hbn hD hrf
  go_enter Tryz.func66, Tryz.ntmps66
  go_upto_region 1 with (fail)
  generalize w.alloc (.cells #[.int .i64 kind, .int .i64 n, .int .i64 ao, .int .u64 an, VA, .int .i64 bo, .int .u64 bn, VB, V8, V9] 35) = y0 at *
  generalize w.heap.size = q at *
  have kk := HB.out.c0
  unfold stepSt at hev
  by_cases h4 : kind = 4
  · subst h4
    rw [if_pos rfl] at hev
    have HT := Lib.hid HB.out.load
    have HC := Lib.hid (loop_walk rec hV hL g 4 n ao an ak bo bn VB V9 body L v s way L' v' s' hev y0 r f VA V8 HM.out.run HM.out.fr HM.out.pr HX.out.1 HX.out.2.2.2.2.1 HX.out.2.1 HM.out.d HQ.out.2.2)
    go_wp2_with (first
      | ((with_reducible refine wpList_loadE (P := Tryz.prog) (w := y0) (ty := 35) (x := .tmp 5) (p := .pointer (some ⟨q, 0, none⟩)) (v := .agg #[.int .i64 4, .int .i64 n, .int .i64 ao, .int .u64 an, VA, .int .i64 bo, .int .u64 bn, VB, V8, V9]) ?_ ?_ ?_ HT.out ?_); (· exact rfl); (· exact rfl); (· exact rfl))
      | (go_at_call 72; (with_reducible refine HC.out.mono ?_); rintro e y3 ⟨he, hw3, hr3, hf3, hk3⟩; obtain rfl : e = _ := he; have HM3 := Lib.hid (And.intro hw3 (HM.out.turn hr3 hf3 hk3)); clear hw3 hr3 hf3 hk3 HC))
    exact bodyPost_ret (v := .int .i64 way) (by simp [results, Tryz.results66, go_sem]) rfl ⟨rfl, HM3.out.1, HM3.out.2.run, HM3.out.2.fr, Kept.after HK0.out HM3.out.2.kp⟩
  · rw [if_neg h4] at hev
    by_cases hu : s.used < s.fuel
    · rw [if_pos hu] at hev
      have HSP := Lib.hid (spend_yes y0 r pv sv s HM.out.run hu)
      clear hu
      cases hv : rec.val ao an ak L s.up with
      | none => rw [hv] at hev; cases hev
      | some res =>
        obtain ⟨a, okk, s2⟩ := res
        rw [hv] at hev
        cases okk with
        | false =>
          dsimp only at hev
          obtain ⟨rfl, rfl, rfl, rfl⟩ : 2 = way ∧ L = L' ∧ v = v' ∧ s2 = s' := by simpa using hev
          clear hev
          have t4 : (kind == 4) = false := by simp; omega
          clear h4
          go_wp2_with (first
            | (go_at_call 73; (with_reducible refine HSP.out.mono ?_); rintro e y1 ⟨he, hr1, hk1⟩; obtain rfl : e = _ := he; have HM1 := Lib.hid (HM.out.turnR hr1 hk1 HQ.out.2.2); clear hr1 hk1 HSP; have HB1 := Lib.hid (HB.out.kept HM1.out.kp HQ.out.1); have HLA := Lib.hid HB1.out.loadA; have HV1 := Lib.hid (hV ao an ak L s.up a _ s2 hv y1 r f v VA HM1.out.run HM1.out.fr HM1.out.pr (HX.out.1.kept HM1.out.kp HQ.out.2.1) HX.out.2.1 HM1.out.d HQ.out.2.2))
            | ((with_reducible refine wpList_loadE (P := Tryz.prog) (w := y1) (ty := 30) (x := .tmp 22) (p := .pointer (some ⟨q, 2, none⟩)) (v := .agg #[.int .i64 ao, .int .u64 an, VA]) ?_ ?_ ?_ HLA.out ?_); (· exact rfl); (· exact rfl); (· exact rfl))
            | (go_at_call 74; (with_reducible refine HV1.out.mono ?_); rintro e y2 ⟨he, hx2, hr2, hk2⟩; obtain rfl : e = _ := he; have HX2 := Lib.hid hx2; have HM2 := Lib.hid (HM1.out.turnR hr2 hk2 HQ.out.2.2); clear hx2 hr2 hk2 HV1; have HB2 := Lib.hid (HB.out.kept HM2.out.kp HQ.out.1); have k0 := HB2.out.c0))
          exact bodyPost_ret (v := .int .i64 2) (by simp [results, Tryz.results66, go_sem]) rfl ⟨rfl, by decide, HM2.out.run, HM2.out.fr, Kept.after HK0.out HM2.out.kp⟩
        | true =>
          dsimp only at hev
          by_cases h1 : kind = 1
          · subst h1
            by_cases hn : 0 ≤ n ∧ n < 24
            · obtain ⟨rfl, rfl, rfl, rfl⟩ : 0 = way ∧ upd L n.toNat a = L' ∧ v = v' ∧ s2 = s' := by simpa [stepKind, hn] using hev
              obtain ⟨nn, rfl⟩ : ∃ nn : Nat, n = nn := ⟨n.toNat, by omega⟩
              have hn24 : (nn : Int) < 24 := hn.2
              have hnl : nn < 24 := by omega
              clear hn hev
              go_upto_region 10 with (first
                | (go_at_call 73; (with_reducible refine HSP.out.mono ?_); rintro e y1 ⟨he, hr1, hk1⟩; obtain rfl : e = _ := he; have HM1 := Lib.hid (HM.out.turnR hr1 hk1 HQ.out.2.2); clear hr1 hk1 HSP; have HB1 := Lib.hid (HB.out.kept HM1.out.kp HQ.out.1); have HLA := Lib.hid HB1.out.loadA; have HV1 := Lib.hid (hV ao an ak L s.up a _ s2 hv y1 r f v VA HM1.out.run HM1.out.fr HM1.out.pr (HX.out.1.kept HM1.out.kp HQ.out.2.1) HX.out.2.1 HM1.out.d HQ.out.2.2))
                | ((with_reducible refine wpList_loadE (P := Tryz.prog) (w := y1) (ty := 30) (x := .tmp 22) (p := .pointer (some ⟨q, 2, none⟩)) (v := .agg #[.int .i64 ao, .int .u64 an, VA]) ?_ ?_ ?_ HLA.out ?_); (· exact rfl); (· exact rfl); (· exact rfl))
                | (go_at_call 74; (with_reducible refine HV1.out.mono ?_); rintro e y2 ⟨he, hx2, hr2, hk2⟩; obtain rfl : e = _ := he; have HX2 := Lib.hid hx2; have HM2 := Lib.hid (HM1.out.turnR hr2 hk2 HQ.out.2.2); clear hx2 hr2 hk2 HV1; have HB2 := Lib.hid (HB.out.kept HM2.out.kp HQ.out.1); have k0 := HB2.out.c0; have k1 := HB2.out.c1; have kl := HM2.out.fr.l hnl; have fl := HM2.out.fr.fz nn))
              go_region
              have HS := Lib.hid ((HM2.out.fr.kept (kept_drew9 y2) id).setL (i := nn) (x := a) hnl HX2.out)
              have HKS : Hid (Kept (fun k => k = r ∨ k = f) y0 (y2.drew.setCell ⟨f, nn, none⟩ (.int .u64 a))) := Lib.hid (kept_one HM2.out.kp.drew f nn (.inl (.inr rfl)) _)
              have HRS := Lib.hid (((HM2.out.run.kept (kept_drew9 y2) id)).kept (kept_one (S := fun k => k = f) (Kept.refl _ y2.drew) f nn (.inl rfl) (.int .u64 a)) HQ.out.2.2)
              go_wp2_with (fail)
              exact bodyPost_ret (v := .int .i64 0) (by simp [results, Tryz.results66, go_sem]) rfl ⟨rfl, by decide, HRS.out, HS.out, Kept.after HK0.out HKS.out⟩
            · simp [stepKind, hn] at hev
          by_cases h2 : kind = 2
          · subst h2
            cases hb : rec.val bo bn bk L s2 with
            | none => simp [stepKind, hb] at hev
            | some res =>
              obtain ⟨x, okb, s3⟩ := res
              have HST : Hid (∃ s4, (if okb = true then if a < 2048 then (0, s3.put a x) else (2, s3.ends wrong) else (2, s3)) = (way, s4) ∧ L = L' ∧ v = v' ∧ s4 = s') := by
                cases okb with
                | false => simp [stepKind, hb] at hev; exact Lib.hid ⟨s3, by simp [hev.1], hev.2.1, hev.2.2.1, hev.2.2.2⟩
                | true =>
                  by_cases ha : a < 2048
                  · simp [stepKind, hb, ha] at hev; exact Lib.hid ⟨s3.put a x, by simp [ha, hev.1], hev.2.1, hev.2.2.1, hev.2.2.2⟩
                  · simp [stepKind, hb, ha] at hev; exact Lib.hid ⟨s3.ends wrong, by simp [ha, hev.1], hev.2.1, hev.2.2.1, hev.2.2.2⟩
              obtain ⟨s4, hst, rfl, rfl, rfl⟩ := HST.out
              have HWY : Hid (way < 3) := by
                refine Lib.hid ?_
                cases okb
                · simp at hst; omega
                · by_cases ha : a < 2048 <;> simp [ha] at hst <;> omega
              clear HST hev
              go_wp2_with (first
                | (go_at_call 73; (with_reducible refine HSP.out.mono ?_); rintro e y1 ⟨he, hr1, hk1⟩; obtain rfl : e = _ := he; have HM1 := Lib.hid (HM.out.turnR hr1 hk1 HQ.out.2.2); clear hr1 hk1 HSP; have HB1 := Lib.hid (HB.out.kept HM1.out.kp HQ.out.1); have HLA := Lib.hid HB1.out.loadA; have HV1 := Lib.hid (hV ao an ak L s.up a _ s2 hv y1 r f v VA HM1.out.run HM1.out.fr HM1.out.pr (HX.out.1.kept HM1.out.kp HQ.out.2.1) HX.out.2.1 HM1.out.d HQ.out.2.2))
                | ((with_reducible refine wpList_loadE (P := Tryz.prog) (w := y1) (ty := 30) (x := .tmp 22) (p := .pointer (some ⟨q, 2, none⟩)) (v := .agg #[.int .i64 ao, .int .u64 an, VA]) ?_ ?_ ?_ HLA.out ?_); (· exact rfl); (· exact rfl); (· exact rfl))
                | (go_at_call 74; (with_reducible refine HV1.out.mono ?_); rintro e y2 ⟨he, hx2, hr2, hk2⟩; obtain rfl : e = _ := he; have HX2 := Lib.hid hx2; have HM2 := Lib.hid (HM1.out.turnR hr2 hk2 HQ.out.2.2); clear hx2 hr2 hk2 HV1; have HB2 := Lib.hid (HB.out.kept HM2.out.kp HQ.out.1); have k0 := HB2.out.c0; have HLB := Lib.hid HB2.out.loadB; have HS2 := Lib.hid (store_walk rec.val hV bo bn bk L s2 x okb s3 hb y2 r f v a VB HM2.out.run HM2.out.fr HM2.out.pr (HX.out.2.2.1.kept HM2.out.kp HQ.out.2.1) HX.out.2.2.2.1 HM2.out.d HQ.out.2.2 HX2.out way s4 hst))
                | ((with_reducible refine wpList_loadE (P := Tryz.prog) (w := y2) (ty := 30) (x := .tmp 45) (p := .pointer (some ⟨q, 5, none⟩)) (v := .agg #[.int .i64 bo, .int .u64 bn, VB]) ?_ ?_ ?_ HLB.out ?_); (· exact rfl); (· exact rfl); (· exact rfl))
                | (go_at_call 75; (with_reducible refine HS2.out.mono ?_); rintro e y3 ⟨he, hr3, hk3⟩; obtain rfl : e = _ := he; have HM3 := Lib.hid (HM2.out.turnR hr3 hk3 HQ.out.2.2); clear hr3 hk3 HS2))
              exact bodyPost_ret (v := .int .i64 way) (by simp [results, Tryz.results66, go_sem]) rfl ⟨rfl, HWY.out, HM3.out.run, HM3.out.fr, Kept.after HK0.out HM3.out.kp⟩
          by_cases h3 : kind = 3
          · subst h3
            by_cases ha : a = 0
            · have hl : rec.lst els L v s2 = some (way, L', v', s') := by simpa [stepKind, ha] using hev
              have ta : ((a : Int) != 0) = false := by simp [ha]
              clear ha hev
              go_wp2_with (first
                | (go_at_call 73; (with_reducible refine HSP.out.mono ?_); rintro e y1 ⟨he, hr1, hk1⟩; obtain rfl : e = _ := he; have HM1 := Lib.hid (HM.out.turnR hr1 hk1 HQ.out.2.2); clear hr1 hk1 HSP; have HB1 := Lib.hid (HB.out.kept HM1.out.kp HQ.out.1); have HLA := Lib.hid HB1.out.loadA; have HV1 := Lib.hid (hV ao an ak L s.up a _ s2 hv y1 r f v VA HM1.out.run HM1.out.fr HM1.out.pr (HX.out.1.kept HM1.out.kp HQ.out.2.1) HX.out.2.1 HM1.out.d HQ.out.2.2))
                | ((with_reducible refine wpList_loadE (P := Tryz.prog) (w := y1) (ty := 30) (x := .tmp 22) (p := .pointer (some ⟨q, 2, none⟩)) (v := .agg #[.int .i64 ao, .int .u64 an, VA]) ?_ ?_ ?_ HLA.out ?_); (· exact rfl); (· exact rfl); (· exact rfl))
                | (go_at_call 74; (with_reducible refine HV1.out.mono ?_); rintro e y2 ⟨he, hx2, hr2, hk2⟩; obtain rfl : e = _ := he; have HX2 := Lib.hid hx2; have HM2 := Lib.hid (HM1.out.turnR hr2 hk2 HQ.out.2.2); clear hx2 hr2 hk2 HV1; have HB2 := Lib.hid (HB.out.kept HM2.out.kp HQ.out.1); have k0 := HB2.out.c0; have k8 := HB2.out.c9; have HL2 := Lib.hid (hL els L v s2 way L' v' s' hl y2 r f V9 HM2.out.run HM2.out.fr HM2.out.pr (HX.out.2.2.2.2.2.kept HM2.out.kp HQ.out.2.1) HM2.out.d HQ.out.2.2))
                | (go_at_call 54; (with_reducible refine HL2.out.mono ?_); rintro e y3 ⟨he, hw3, hr3, hf3, hk3⟩; obtain rfl : e = _ := he; have HM3 := Lib.hid (And.intro hw3 (HM2.out.turn hr3 hf3 hk3)); clear hw3 hr3 hf3 hk3 HL2))
              exact bodyPost_ret (v := .int .i64 way) (by simp [results, Tryz.results66, go_sem]) rfl ⟨rfl, HM3.out.1, HM3.out.2.run, HM3.out.2.fr, Kept.after HK0.out HM3.out.2.kp⟩
            · have hl : rec.lst body L v s2 = some (way, L', v', s') := by simpa [stepKind, ha] using hev
              have ta : ((a : Int) != 0) = true := by simp; omega
              clear ha hev
              go_wp2_with (first
                | (go_at_call 73; (with_reducible refine HSP.out.mono ?_); rintro e y1 ⟨he, hr1, hk1⟩; obtain rfl : e = _ := he; have HM1 := Lib.hid (HM.out.turnR hr1 hk1 HQ.out.2.2); clear hr1 hk1 HSP; have HB1 := Lib.hid (HB.out.kept HM1.out.kp HQ.out.1); have HLA := Lib.hid HB1.out.loadA; have HV1 := Lib.hid (hV ao an ak L s.up a _ s2 hv y1 r f v VA HM1.out.run HM1.out.fr HM1.out.pr (HX.out.1.kept HM1.out.kp HQ.out.2.1) HX.out.2.1 HM1.out.d HQ.out.2.2))
                | ((with_reducible refine wpList_loadE (P := Tryz.prog) (w := y1) (ty := 30) (x := .tmp 22) (p := .pointer (some ⟨q, 2, none⟩)) (v := .agg #[.int .i64 ao, .int .u64 an, VA]) ?_ ?_ ?_ HLA.out ?_); (· exact rfl); (· exact rfl); (· exact rfl))
                | (go_at_call 74; (with_reducible refine HV1.out.mono ?_); rintro e y2 ⟨he, hx2, hr2, hk2⟩; obtain rfl : e = _ := he; have HX2 := Lib.hid hx2; have HM2 := Lib.hid (HM1.out.turnR hr2 hk2 HQ.out.2.2); clear hx2 hr2 hk2 HV1; have HB2 := Lib.hid (HB.out.kept HM2.out.kp HQ.out.1); have k0 := HB2.out.c0; have k8 := HB2.out.c8; have HL2 := Lib.hid (hL body L v s2 way L' v' s' hl y2 r f V8 HM2.out.run HM2.out.fr HM2.out.pr (HX.out.2.2.2.2.1.kept HM2.out.kp HQ.out.2.1) HM2.out.d HQ.out.2.2))
                | (go_at_call 54; (with_reducible refine HL2.out.mono ?_); rintro e y3 ⟨he, hw3, hr3, hf3, hk3⟩; obtain rfl : e = _ := he; have HM3 := Lib.hid (And.intro hw3 (HM2.out.turn hr3 hf3 hk3)); clear hw3 hr3 hf3 hk3 HL2))
              exact bodyPost_ret (v := .int .i64 way) (by simp [results, Tryz.results66, go_sem]) rfl ⟨rfl, HM3.out.1, HM3.out.2.run, HM3.out.2.fr, Kept.after HK0.out HM3.out.2.kp⟩
          by_cases h5 : kind = 5
          · subst h5
            obtain ⟨rfl, rfl, rfl, rfl⟩ : 1 = way ∧ L = L' ∧ a = v' ∧ s2 = s' := by simpa [stepKind] using hev
            clear hev
            go_wp2_with (first
              | (go_at_call 73; (with_reducible refine HSP.out.mono ?_); rintro e y1 ⟨he, hr1, hk1⟩; obtain rfl : e = _ := he; have HM1 := Lib.hid (HM.out.turnR hr1 hk1 HQ.out.2.2); clear hr1 hk1 HSP; have HB1 := Lib.hid (HB.out.kept HM1.out.kp HQ.out.1); have HLA := Lib.hid HB1.out.loadA; have HV1 := Lib.hid (hV ao an ak L s.up a _ s2 hv y1 r f v VA HM1.out.run HM1.out.fr HM1.out.pr (HX.out.1.kept HM1.out.kp HQ.out.2.1) HX.out.2.1 HM1.out.d HQ.out.2.2))
              | ((with_reducible refine wpList_loadE (P := Tryz.prog) (w := y1) (ty := 30) (x := .tmp 22) (p := .pointer (some ⟨q, 2, none⟩)) (v := .agg #[.int .i64 ao, .int .u64 an, VA]) ?_ ?_ ?_ HLA.out ?_); (· exact rfl); (· exact rfl); (· exact rfl))
              | (go_at_call 74; (with_reducible refine HV1.out.mono ?_); rintro e y2 ⟨he, hx2, hr2, hk2⟩; obtain rfl : e = _ := he; have HX2 := Lib.hid hx2; have HM2 := Lib.hid (HM1.out.turnR hr2 hk2 HQ.out.2.2); clear hx2 hr2 hk2 HV1; have HB2 := Lib.hid (HB.out.kept HM2.out.kp HQ.out.1); have k0 := HB2.out.c0; have kv := HM2.out.fr.vl; have fv := HM2.out.fr.fz 24))
            have HS := Lib.hid (HM2.out.fr.setV (x := a) HX2.out)
            have HKS : Hid (Kept (fun k => k = r ∨ k = f) y0 (y2.setCell ⟨f, 24, none⟩ (.int .u64 a))) := Lib.hid (kept_one HM2.out.kp f 24 (.inl (.inr rfl)) _)
            have HRS := Lib.hid (HM2.out.run.kept (kept_one (S := fun k => k = f) (Kept.refl _ y2) f 24 (.inl rfl) (.int .u64 a)) HQ.out.2.2)
            exact bodyPost_ret (v := .int .i64 1) (by simp [results, Tryz.results66, go_sem]) rfl ⟨rfl, by decide, HRS.out, HS.out, Kept.after HK0.out HKS.out⟩
          by_cases h7 : kind = 7
          · subst h7
            obtain ⟨rfl, rfl, rfl, rfl⟩ : 2 = way ∧ L = L' ∧ v = v' ∧ s2.ends a = s' := by simpa [stepKind] using hev
            clear hev
            go_wp2_with (first
              | (go_at_call 73; (with_reducible refine HSP.out.mono ?_); rintro e y1 ⟨he, hr1, hk1⟩; obtain rfl : e = _ := he; have HM1 := Lib.hid (HM.out.turnR hr1 hk1 HQ.out.2.2); clear hr1 hk1 HSP; have HB1 := Lib.hid (HB.out.kept HM1.out.kp HQ.out.1); have HLA := Lib.hid HB1.out.loadA; have HV1 := Lib.hid (hV ao an ak L s.up a _ s2 hv y1 r f v VA HM1.out.run HM1.out.fr HM1.out.pr (HX.out.1.kept HM1.out.kp HQ.out.2.1) HX.out.2.1 HM1.out.d HQ.out.2.2))
              | ((with_reducible refine wpList_loadE (P := Tryz.prog) (w := y1) (ty := 30) (x := .tmp 22) (p := .pointer (some ⟨q, 2, none⟩)) (v := .agg #[.int .i64 ao, .int .u64 an, VA]) ?_ ?_ ?_ HLA.out ?_); (· exact rfl); (· exact rfl); (· exact rfl))
              | (go_at_call 74; (with_reducible refine HV1.out.mono ?_); rintro e y2 ⟨he, hx2, hr2, hk2⟩; obtain rfl : e = _ := he; have HX2 := Lib.hid hx2; have HM2 := Lib.hid (HM1.out.turnR hr2 hk2 HQ.out.2.2); clear hx2 hr2 hk2 HV1; have HB2 := Lib.hid (HB.out.kept HM2.out.kp HQ.out.1); have k0 := HB2.out.c0; have HE2 := Lib.hid (end_walk y2 r a pv sv s2 HM2.out.run HX2.out))
              | (go_at_call 76; (with_reducible refine HE2.out.mono ?_); rintro e y3 ⟨he, hr3, hk3⟩; obtain rfl : e = _ := he; have HM3 := Lib.hid (HM2.out.turnR hr3 hk3 HQ.out.2.2); clear hr3 hk3 HE2))
            exact bodyPost_ret (v := .int .i64 2) (by simp [results, Tryz.results66, go_sem]) rfl ⟨rfl, by decide, HM3.out.run, HM3.out.fr, Kept.after HK0.out HM3.out.kp⟩
          obtain ⟨rfl, rfl, rfl, rfl⟩ : 0 = way ∧ L = L' ∧ v = v' ∧ s2 = s' := by simpa [stepKind, h1, h2, h3, h5, h7] using hev
          have t1 : (kind == 1) = false := by simp; omega
          have t2 : (kind == 2) = false := by simp; omega
          have t3 : (kind == 3) = false := by simp; omega
          have t4 : (kind == 4) = false := by simp; omega
          have t5 : (kind == 5) = false := by simp; omega
          have t7 : (kind == 7) = false := by simp; omega
          clear h1 h2 h3 h4 h5 h7 hev
          go_wp2_with (first
            | (go_at_call 73; (with_reducible refine HSP.out.mono ?_); rintro e y1 ⟨he, hr1, hk1⟩; obtain rfl : e = _ := he; have HM1 := Lib.hid (HM.out.turnR hr1 hk1 HQ.out.2.2); clear hr1 hk1 HSP; have HB1 := Lib.hid (HB.out.kept HM1.out.kp HQ.out.1); have HLA := Lib.hid HB1.out.loadA; have HV1 := Lib.hid (hV ao an ak L s.up a _ s2 hv y1 r f v VA HM1.out.run HM1.out.fr HM1.out.pr (HX.out.1.kept HM1.out.kp HQ.out.2.1) HX.out.2.1 HM1.out.d HQ.out.2.2))
            | ((with_reducible refine wpList_loadE (P := Tryz.prog) (w := y1) (ty := 30) (x := .tmp 22) (p := .pointer (some ⟨q, 2, none⟩)) (v := .agg #[.int .i64 ao, .int .u64 an, VA]) ?_ ?_ ?_ HLA.out ?_); (· exact rfl); (· exact rfl); (· exact rfl))
            | (go_at_call 74; (with_reducible refine HV1.out.mono ?_); rintro e y2 ⟨he, hx2, hr2, hk2⟩; obtain rfl : e = _ := he; have HX2 := Lib.hid hx2; have HM2 := Lib.hid (HM1.out.turnR hr2 hk2 HQ.out.2.2); clear hx2 hr2 hk2 HV1; have HB2 := Lib.hid (HB.out.kept HM2.out.kp HQ.out.1); have k0 := HB2.out.c0))
          exact bodyPost_ret (v := .int .i64 0) (by simp [results, Tryz.results66, go_sem]) rfl ⟨rfl, by decide, HM2.out.run, HM2.out.fr, Kept.after HK0.out HM2.out.kp⟩
    · rw [if_neg hu] at hev
      obtain ⟨rfl, rfl, rfl, rfl⟩ : 2 = way ∧ L = L' ∧ v = v' ∧ s.dried = s' := by simpa using hev
      have HSP := Lib.hid (spend_no y0 r pv sv s HM.out.run hu)
      have t4 : (kind == 4) = false := by simp; omega
      clear hu hev h4
      go_wp2_with (go_at_call 73; (with_reducible refine HSP.out.mono ?_); rintro e y1 ⟨he, hr1, hk1⟩; obtain rfl : e = _ := he; have HM1 := Lib.hid (HM.out.turnR hr1 hk1 HQ.out.2.2); clear hr1 hk1 HSP)
      exact bodyPost_ret (v := .int .i64 2) (by simp [results, Tryz.results66, go_sem]) rfl ⟨rfl, by decide, HM1.out.run, HM1.out.fr, Kept.after HK0.out HM1.out.kp⟩
end
end Ir
end Go.Proofs.YtcgpdijpppcbiaaGreatDoor
namespace Go.Proofs.YtcgpdijpppcbiaaGreatDoor
open Go.RowKit Go.Extern.Stop Go.Stop Go.Extern
namespace Err

section
variable {P : Program} (w : World)
theorem run_equalIn_num (d : Nat) {ti tn : TypeId} {ms : Array (String × TypeId)} {i : TypeInfo} {k : IntKind} (a b : Int)
    (hi : P.underlying ti = some (.interface ms)) (hn : P.underlying tn = some (.int k)) (hinfo : P.info? tn = some i) (hcomp : i.comparable = true) :
    (Op.equalIn (d + 2) ti (.iface tn (.int k a)) (.iface tn (.int k b))).run P w = .ok (a == b) w := by
  simp [Op.equalIn, run_underlying hi, run_underlying hn, typeInfo, hinfo, hcomp]
theorem run_eql_num {ti tn : TypeId} {ms : Array (String × TypeId)} {i : TypeInfo} {k : IntKind} (a b : Int)
    (hi : P.underlying ti = some (.interface ms)) (hn : P.underlying tn = some (.int k)) (hinfo : P.info? tn = some i) (hcomp : i.comparable = true) :
    (binOp .eql ti (.iface tn (.int k a)) (.iface tn (.int k b))).run P w = .ok (.bool (a == b)) w := by
  simp only [binOp]
  simp [Op.equal, Op.maxDepth, run_equalIn_num w 9998 a b hi hn hinfo hcomp]
end

/-! closed facts: what 'reflectlite.TypeOf(target).Comparable()' gives at such a target -/
theorem isTypeOf (v : Value) (w : World) : (Extern.ReflectliteType.typeOf #[.iface 57 v]).run Tryz.prog w = .ok (.iface 125 (.agg #[.pointer (some ⟨3, 57, none⟩)])) w := by kernel_rfl
/-- The entry of (rtype).Comparable, under a name that the walk does not open. -/
noncomputable def cmpM : Array Value → Sem Value := Extern.ReflectliteType.method fun t => do Extern.Rtype.noPackHeld "Comparable" t; pure (.bool (← typeInfo t).comparable)
theorem isComparable (w : World) : (cmpM #[.agg #[.pointer (some ⟨3, 57, none⟩)]]).run Tryz.prog w = .ok (.bool true) w := by kernel_rfl
theorem isMethodComparable (v : Value) (w : World) : (Go.method 320 125 v "Comparable").run Tryz.prog w = .ok (124, v) w := by kernel_rfl
theorem isComp : (Tryz.prog.info? 57).map (·.comparable) = some true := by kernel_rfl
theorem noIs (v : Value) (xT : TypeId) (w : World) : (Instr.typeAssert (.iface 57 v) xT 127 true).run Tryz.prog w = .ok (.tuple #[.nilIface, .bool false]) w := run_typeAssert_lacksB Tryz.underlying127 (by kernel_rfl) (by kernel_rfl) v xT w
theorem noUnwrap (v : Value) (xT : TypeId) (w : World) : (Instr.typeAssert (.iface 57 v) xT 130 true).run Tryz.prog w = .ok (.tuple #[.nilIface, .bool false]) w := run_typeAssert_lacksB Tryz.underlying130 (by kernel_rfl) (by kernel_rfl) v xT w
theorem noUnwraps (v : Value) (xT : TypeId) (w : World) : (Instr.typeAssert (.iface 57 v) xT 132 true).run Tryz.prog w = .ok (.tuple #[.nilIface, .bool false]) w := run_typeAssert_lacksB Tryz.underlying132 (by kernel_rfl) (by kernel_rfl) v xT w

/-- errors.Is of two numbers. -/
theorem is_num (m n : Int) (w : World) :
    Calls Tryz.prog 17 #[.iface 57 (.int .i64 m), .iface 57 (.int .i64 n)] w fun e w' => e = .returned (.bool (m == n)) ∧ w = w' := by
  obtain ⟨i, hi, hcmp⟩ := Option.map_eq_some_iff.1 isComp
  have h8 := @run_callFunc_extern Tryz.prog 33 _ Extern.ReflectliteType.typeOf Tryz.func33 (by kernel_rfl) (by kernel_rfl) (by kernel_rfl) (by kernel_rfl)
  have h32 := @run_callFunc_extern Tryz.prog 124 _ cmpM Tryz.func124 (by kernel_rfl) (by kernel_rfl) (by kernel_rfl) (by kernel_rfl)
  have tT := isTypeOf
  have cT := isComparable
  have mR := isMethodComparable
  have nE := noIs
  have uE := noUnwrap
  have vE := noUnwraps
  have heq := run_eql_num (P := Tryz.prog) w m n Tryz.underlying43 Tryz.underlying57 hi hcmp
  by_cases hmn : (m == n) = true
  · rw [hmn] at heq ⊢
    go_enter Tryz.func17, Tryz.ntmps17
    go_wp2
    refine wp_loop_rounds 1 ?_
    rw [rounds_succ]
    go_wp2
    go_ret
    exact ⟨rfl, rfl⟩
  · have hmn' : (m == n) = false := by simpa using hmn
    clear hmn
    rw [hmn'] at heq ⊢
    go_enter Tryz.func17, Tryz.ntmps17
    go_wp2
    refine wp_loop_rounds 1 ?_
    rw [rounds_succ]
    go_wp2
    go_ret
    exact ⟨rfl, rfl⟩
end Err
end Go.Proofs.YtcgpdijpppcbiaaGreatDoor
namespace Go.Proofs.YtcgpdijpppcbiaaGreatDoor
namespace Bt
theorem or_add_and (x : Nat) : ∀ y, (x ||| y) + (x &&& y) = x + y := by
  induction x using Nat.strongRecOn with
  | _ x ih =>
    intro y
    by_cases hx : x = 0
    · subst hx; simp
    · have h := ih (x / 2) (by omega) (y / 2)
      have a1 := Nat.or_div_two (a := x) (b := y)
      have a2 := Nat.and_div_two (a := x) (b := y)
      have b1 : (x ||| y) % 2 = (x % 2 ||| y % 2) := Nat.or_mod_two_pow (n := 1)
      have b2 : (x &&& y) % 2 = (x % 2 &&& y % 2) := Nat.and_mod_two_pow (n := 1)
      have c : (x % 2 ||| y % 2) + (x % 2 &&& y % 2) = x % 2 + y % 2 := by
        rcases Nat.mod_two_eq_zero_or_one x with h1 | h1 <;> rcases Nat.mod_two_eq_zero_or_one y with h2 | h2 <;> rw [h1, h2] <;> rfl
      rw [← b1, ← b2] at c
      rw [← a1, ← a2] at h
      omega
theorem xor_add_and (x : Nat) : ∀ y, (x ^^^ y) + (x &&& y) = (x ||| y) := by
  induction x using Nat.strongRecOn with
  | _ x ih =>
    intro y
    by_cases hx : x = 0
    · subst hx; simp
    · have h := ih (x / 2) (by omega) (y / 2)
      have a0 := Nat.xor_div_two (a := x) (b := y)
      have a1 := Nat.or_div_two (a := x) (b := y)
      have a2 := Nat.and_div_two (a := x) (b := y)
      have b0 : (x ^^^ y) % 2 = (x % 2 ^^^ y % 2) := Nat.xor_mod_two_pow (n := 1)
      have b1 : (x ||| y) % 2 = (x % 2 ||| y % 2) := Nat.or_mod_two_pow (n := 1)
      have b2 : (x &&& y) % 2 = (x % 2 &&& y % 2) := Nat.and_mod_two_pow (n := 1)
      have c : (x % 2 ^^^ y % 2) + (x % 2 &&& y % 2) = (x % 2 ||| y % 2) := by
        rcases Nat.mod_two_eq_zero_or_one x with h1 | h1 <;> rcases Nat.mod_two_eq_zero_or_one y with h2 | h2 <;> rw [h1, h2] <;> rfl
      rw [← b0, ← b1, ← b2] at c
      rw [← a0, ← a1, ← a2] at h
      omega
theorem and_top_lo (x : Nat) (h : x < 9223372036854775808) : x &&& 9223372036854775808 = 0 := by
  have t : x.testBit 63 = false := Nat.testBit_lt_two_pow (by simpa using h)
  apply Nat.eq_of_testBit_eq
  intro i
  rw [Nat.testBit_and, show (9223372036854775808 : Nat) = 2 ^ 63 by rfl, Nat.testBit_two_pow, Nat.zero_testBit]
  by_cases hi : 63 = i
  · subst hi; simp [t]
  · simp [hi]
theorem xor_top (x : Nat) (h : x < 18446744073709551616) : x ^^^ 9223372036854775808 = if x < 9223372036854775808 then x + 9223372036854775808 else x - 9223372036854775808 := by
  split
  · rename_i hx
    have h1 := xor_add_and x 9223372036854775808
    have h2 := or_add_and x 9223372036854775808
    rw [and_top_lo x hx] at h1 h2
    omega
  · rename_i hx
    have e : x = (x - 9223372036854775808) ^^^ 9223372036854775808 := by
      have h1 := xor_add_and (x - 9223372036854775808) 9223372036854775808
      have h2 := or_add_and (x - 9223372036854775808) 9223372036854775808
      rw [and_top_lo _ (by omega)] at h1 h2
      omega
    generalize hz : x - 9223372036854775808 = z at *
    rw [e, Nat.xor_assoc, Nat.xor_self, Nat.xor_zero]
theorem xor_ones (x : Nat) (h : x < 18446744073709551616) : x ^^^ 18446744073709551615 = 18446744073709551615 - x := by
  apply Nat.eq_of_testBit_eq
  intro i
  rw [Nat.testBit_xor, show (18446744073709551615 : Nat) - x = 2 ^ 64 - (x + 1) by omega, Nat.testBit_two_pow_sub_succ (by simpa using h), show (18446744073709551615 : Nat) = 2 ^ 64 - 1 by rfl, Nat.testBit_two_pow_sub_one]
  by_cases hi : i < 64
  · simp [hi]
  · have : x.testBit i = false := Nat.testBit_lt_two_pow (Nat.lt_of_lt_of_le (by simpa using h : x < 2 ^ 64) (Nat.pow_le_pow_right (by decide) (by omega)))
    simp [hi, this]
end Bt
end Go.Proofs.YtcgpdijpppcbiaaGreatDoor
namespace Go.Proofs
open Go.Shelf
def Tryz.lays134_ren : Go.Shelf.Ren := ⟨fun | 134 => 101 | 129 => 102 | n => n, fun | 53 => 22 | 3 => 3 | 4 => 4 | 46 => 23 | 5 => 5 | 9 => 9 | n => n, fun | n => n⟩
theorem Tryz.lays134 : Go.Proofs.Lays.n134 Tryz.prog Tryz.lays134_ren := {
  mixed := by kernel_rfl
  f129 := Tryz.func102.trans (congrArg some (by kernel_rfl))
  f134 := Tryz.func101.trans (congrArg some (by kernel_rfl))
  t3 := Tryz.underlying3
  a3 := Tryz.isAgg3
  z3 := Tryz.sizeOf3
  v3 := Tryz.zeroValue3
  t4 := Tryz.underlying4
  a4 := Tryz.isAgg4
  z4 := Tryz.sizeOf4
  v4 := Tryz.zeroValue4
  t5 := Tryz.underlying5
  a5 := Tryz.isAgg5
  z5 := Tryz.sizeOf5
  v5 := Tryz.zeroValue5
  t9 := Tryz.underlying9
  a9 := Tryz.isAgg9
  z9 := Tryz.sizeOf9
  v9 := Tryz.zeroValue9
  t46 := Tryz.underlying23
  a46 := Tryz.isAgg23
  z46 := Tryz.sizeOf23
  v46 := Tryz.zeroValue23
  t53 := Tryz.underlying22
  a53 := Tryz.isAgg22
  z53 := Tryz.sizeOf22
  v53 := Tryz.zeroValue22 }
/-- bits.LeadingZeros64: "LeadingZeros64 returns the number of leading zero bits in x; the result is 64 for x == 0.": IT RETURNS '64 - Lib.bitLen x'; the world is as it was. ITS CALLEE bits.Len64 IS MET BY ITS OWN CONTRACT OFF THE SHELF (lay that first): entered in place it sends the kernel out of memory. (LAID: no walk: one application.) -/
theorem Tryz.bits_LeadingZeros64 (x : Int) (w : World) (h0 : 0 ≤ x) (h1 : x ≤ 18446744073709551615) :
    Calls Tryz.prog 101 #[.int .u64 x] w fun e w' => e = .returned (.int .i64 (64 - (Lib.bitLen x.toNat : Int))) ∧ w' = w := Any.bits_LeadingZeros64 Tryz.lays134 x w h0 h1
def Tryz.lays264_ren : Go.Shelf.Ren := ⟨fun | 264 => 96 | n => n, fun | 53 => 22 | 46 => 23 | n => n, fun | n => n⟩
theorem Tryz.lays264 : Go.Proofs.Lays.n264 Tryz.prog Tryz.lays264_ren := {
  mixed := by kernel_rfl
  f264 := Tryz.func96.trans (congrArg some (by kernel_rfl))
  t46 := Tryz.underlying23
  a46 := Tryz.isAgg23
  z46 := Tryz.sizeOf23
  v46 := Tryz.zeroValue23
  t53 := Tryz.underlying22
  a53 := Tryz.isAgg22
  z53 := Tryz.sizeOf22
  v53 := Tryz.zeroValue22 }
open Go.RowKit Go.Lib in
theorem Tryz.bits_Mul64 (x y : Nat) (hx : x < 18446744073709551616) (hy : y < 18446744073709551616) (w : World) :
    Calls Tryz.prog 96 #[.int .u64 x, .int .u64 y] w fun e w' => e = .returned (.tuple #[.int .u64 ((x * y / 18446744073709551616 : Nat) : Int), .int .u64 ((x * y % 18446744073709551616 : Nat) : Int)]) ∧ w' = w := Any.bits_Mul64 Tryz.lays264 x y hx hy w
end Go.Proofs
