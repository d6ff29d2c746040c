/- Merged of Evr Evj. Own work. -/
import Derived.Test.YtcgpdijpppcbiaaGreatDoorQ14
import Derived.Test.YtcgpdijpppcbiaaGreatDoorQ15
import Derived.Test.YtcgpdijpppcbiaaGreatDoorQ12
namespace Go.Proofs.YtcgpdijpppcbiaaGreatDoor
open Go.RowKit
set_option linter.unusedVariables false
set_option linter.unusedSimpArgs false
namespace Ir
open Kc
theorem deepS_all : ∀ (x : Sf) (d : Nat), d < 900 → fitS x (d + 1) = true → AllS (QD d) x
  | .nil, _, _, _ => trivial
  | .cons kind n ao an ak bo bn bk body els rest, d, hd, h => by
    have ihb := fun k hk hf => deepS_all body k hk hf
    have ihe := fun k hk hf => deepS_all els k hk hf
    have ihr := fun hf => deepS_all rest d hd hf
    have one : ∀ l : Sf, (∀ k, k < 900 → fitS l (k + 1) = true → AllS (QD k) l) → fitS l d = true → DS d l := fun l hl hf => by
      cases l with
      | nil => exact deepNil d
      | cons a1 a2 a3 a4 a5 a6 a7 a8 a9 a10 a11 =>
        obtain ⟨k, rfl⟩ : ∃ k, d = k + 1 := ⟨d - 1, by unfold fitS at hf; simp only [Bool.and_eq_true, decide_eq_true_eq] at hf; omega⟩
        exact deepS_walk k _ (by omega) (fun e => by cases e) (hl k (by omega) hf)
    unfold fitS at h
    simp only [Bool.and_eq_true, decide_eq_true_eq, Nat.add_sub_cancel] at h
    obtain ⟨⟨⟨⟨h1, h2⟩, h3⟩, h4⟩, h5⟩ := h
    refine ⟨⟨h2, deepX_all _ 8 (by decide) h3, fun l hl => ?_⟩, ihr h5⟩
    unfold lists at hl
    by_cases e3 : kind = 3
    · rw [if_pos e3] at hl h4
      simp only [Bool.and_eq_true] at h4
      rcases List.mem_cons.1 hl with rfl | hl
      · exact one _ ihb h4.1
      · rcases List.mem_cons.1 hl with rfl | hl
        · exact one _ ihe h4.2
        · cases hl
    · rw [if_neg e3] at hl h4
      by_cases e4 : kind = 4
      · rw [if_pos e4] at hl h4
        rcases List.mem_cons.1 hl with rfl | hl
        · exact one _ ihb h4
        · cases hl
      · rw [if_neg e4] at hl
        cases hl
theorem countS_all (prog : List Fn) (at_ : Nat) : ∀ (x : Sf), rightS prog at_ x = true → AllS QC x
  | .nil, _ => trivial
  | .cons kind n ao an ak bo bn bk body els rest, h => by
    have ihb := countS_all prog at_ body
    have ihe := countS_all prog at_ els
    have ihr := countS_all prog at_ rest
    unfold rightS at h
    simp only [Bool.and_eq_true, decide_eq_true_eq] at h
    obtain ⟨⟨⟨⟨h1, h2⟩, h3⟩, h4⟩, h5⟩ := h
    refine ⟨⟨h1, countX_all _, fun l hl => ?_⟩, ihr h5⟩
    unfold lists at hl
    by_cases e3 : kind = 3
    · rw [if_pos e3] at hl h4
      simp only [Bool.and_eq_true] at h4
      rcases List.mem_cons.1 hl with rfl | hl
      · exact countS_walk _ (ihb h4.1)
      · rcases List.mem_cons.1 hl with rfl | hl
        · exact countS_walk _ (ihe h4.2)
        · cases hl
    · rw [if_neg e3] at hl h4
      by_cases e4 : kind = 4
      · rw [if_pos e4] at hl h4
        rcases List.mem_cons.1 hl with rfl | hl
        · exact countS_walk _ (ihb h4)
        · cases hl
      · rw [if_neg e4] at hl
        cases hl
theorem rightS_all (prog : List Fn) (hloc : Loc prog) (at_ : Nat) : ∀ (x : Sf), rightS prog at_ x = true → AllS (QR prog at_) x
  | .nil, _ => trivial
  | .cons kind n ao an ak bo bn bk body els rest, h => by
    have ihb := rightS_all prog hloc at_ body
    have ihe := rightS_all prog hloc at_ els
    have ihr := rightS_all prog hloc at_ rest
    unfold rightS at h
    simp only [Bool.and_eq_true, decide_eq_true_eq] at h
    obtain ⟨⟨⟨⟨h1, h2⟩, h3⟩, h4⟩, h5⟩ := h
    refine ⟨⟨h1, rightX_all prog hloc at_ _ h3, fun l hl => ?_, fun e1 => ?_⟩, ihr h5⟩
    · unfold lists at hl
      by_cases e3 : kind = 3
      · rw [if_pos e3] at hl h4
        simp only [Bool.and_eq_true] at h4
        rcases List.mem_cons.1 hl with rfl | hl
        · exact rightS_walk prog at_ _ (ihb h4.1)
        · rcases List.mem_cons.1 hl with rfl | hl
          · exact rightS_walk prog at_ _ (ihe h4.2)
          · cases hl
      · rw [if_neg e3] at hl h4
        by_cases e4 : kind = 4
        · rw [if_pos e4] at hl h4
          rcases List.mem_cons.1 hl with rfl | hl
          · exact rightS_walk prog at_ _ (ihb h4)
          · cases hl
        · rw [if_neg e4] at hl
          cases hl
    · subst e1
      cases hf : prog[at_]? with
      | none => rw [hf] at h2; simp at h2
      | some fn =>
        rw [hf] at h2
        simp at h2
        exact ⟨h2.1, fn, rfl, h2.2⟩
theorem undF : Tryz.prog.underlying 37 = some (.struct (Tryz.prog.fieldsOf 37)) := by kernel_rfl
theorem infF : (Tryz.prog.info? 37).map (·.size) = some 3 := by kernel_rfl
theorem loadF {w : World} {b o : Nat} {l0 l1 l2 : Value} (h0 : w.cell? ⟨b, o, none⟩ = some l0) (h1 : w.cell? ⟨b, o + 1, none⟩ = some l1) (h2 : w.cell? ⟨b, o + 2, none⟩ = some l2) : (Instr.loadAt 37 (.pointer (some ⟨b, o, none⟩))).run Tryz.prog w = .ok (.agg #[l0, l1, l2]) w := by
  refine run_loadAt_mid w b o _ [l0, l1, l2] _ (fun i v hv => ?_) undF rfl (by rw [infF]; rfl)
  match i, hv with
  | 0, hv => cases hv; exact h0
  | 1, hv => cases hv; exact h1
  | 2, hv => cases hv; exact h2
  | i + 3, hv => simp at hv
abbrev zF : Array Value := #[.int .i64 0, .int .i64 0, .slice none 0 0]
theorem cntF_drop (l : List Fn) (k : Nat) (x : Fn) (h : l[k]? = some x) : cntF (l.drop k) = cntS x.body + cntF (l.drop (k + 1)) := by
  obtain ⟨hk, rfl⟩ := List.getElem?_eq_some_iff.1 h
  rw [List.drop_eq_getElem_cons hk, cntF]
theorem ds16 {x : Sf} (h : DS 16 x) (w : World) (D : Nat → Prop) (V : Value) (hV : SlS w D V x) : Calls Tryz.prog 37 #[V, .int .i64 16] w fun e w' => e = .returned (.bool false) ∧ Kept (fun _ => False) w w' := h w D V hV
theorem right_fs (prog : List Fn) : ∀ (l : List Fn) (k : Nat), rightFs prog k l = true → ∀ i fn, l[i]? = some fn → (0 ≤ fn.params ∧ fn.params ≤ fn.locals ∧ fn.locals ≤ 24) ∧ rightS prog (k + i) fn.body = true
  | [], _, _, i, fn, h => by simp at h
  | f :: r, k, hr, i, fn, h => by
    unfold rightFs at hr
    simp only [Bool.and_eq_true, decide_eq_true_eq] at hr
    cases i with
    | zero => simp at h; subst h; exact ⟨hr.1.1, hr.1.2⟩
    | succ i =>
      have := right_fs prog r (k + 1) hr.2 i fn (by simpa using h)
      rw [show k + (i + 1) = k + 1 + i from by omega]
      exact this
set_option maxHeartbeats 8000000 in
set_option maxRecDepth 100000 in
theorem check_walk (prog : List Fn) (hr : right prog = true) (w : World) (D : Nat → Prop) (pv : Value) (hp : SlP w D pv prog) : Calls Tryz.prog 23 #[pv] w fun e w' => e = .returned .nilIface ∧ Kept (fun _ => False) w w' := by
  unfold right at hr
  simp only [Bool.and_eq_true, decide_eq_true_eq] at hr
  obtain ⟨⟨⟨⟨r1, r2⟩, r3⟩, r4⟩, r5⟩ := hr
  have rf := right_fs prog prog 0 r5
  have hloc : Loc prog := fun fn hfn => by
    obtain ⟨i, hi⟩ := List.mem_iff_getElem?.1 hfn
    exact (rf i fn hi).1
  have HDS : Hid (∀ i (fn : Fn), prog[i]? = some fn → DS 16 fn.body) := Lib.hid fun i fn hi => by
    have h := List.all_eq_true.1 r1 fn (List.mem_of_getElem? hi)
    by_cases e : fn.body = .nil
    · rw [e]; exact deepNil 16
    · exact deepS_walk 15 _ (by decide) e (deepS_all _ 15 (by decide) h)
  have HCS : Hid (∀ i (fn : Fn), prog[i]? = some fn → CS fn.body) := Lib.hid fun i fn hi => countS_walk _ (countS_all prog (0 + i) _ (rf i fn hi).2)
  have HR : Hid (∀ i (fn : Fn), prog[i]? = some fn → RS prog i fn.body) := Lib.hid fun i fn hi => rightS_walk prog i _ (rightS_all prog hloc i _ (by have := (rf i fn hi).2; rwa [Nat.zero_add] at this))
  have HLC := Lib.hid hloc
  have HF0 : Hid (∃ fn, prog[0]? = some fn ∧ fn.params = 0) := Lib.hid (by
    cases hf : prog[0]? with
    | none => rw [hf] at r4; simp at r4
    | some fn => rw [hf] at r4; exact ⟨fn, rfl, by simpa using r4⟩)
  obtain ⟨K, hK⟩ : ∃ K, cntF prog = K := ⟨_, rfl⟩
  have HKK : Hid (0 + cntF prog = K ∧ K ≤ 6000) := Lib.hid ⟨by omega, by omega⟩
  obtain ⟨pa, pc, rfl, hpl, hpp⟩ := hp
  have HPV := Lib.hid (show SlP w D (.slice pa prog.length pc) prog from ⟨pa, pc, rfl, hpl, hpp⟩)
  obtain ⟨np, hnp⟩ : ∃ m, prog.length = m := ⟨_, rfl⟩
  rw [hnp] at HPV hpl r3 ⊢
  have HN := Lib.hid (And.intro hpl hnp)
  have HN2 := Lib.hid r3
  clear hpl hpp r1 r2 r3 r4 r5 rf hloc hK
  clear hnp
  go_enter Tryz.func23, Tryz.ntmps23
  go_upto_region 3 with (fail)
  go_loopw [12] (fun t wr => ∃ i : Nat, t = .int .i64 i ∧ Hid (i ≤ np ∧ Kept (fun _ => False) w wr)) (fun t _ => np - (intOf t).toNat)
  case atStart => exact ⟨0, rfl, Lib.hid ⟨Nat.zero_le _, Kept.refl _ _⟩⟩
  case round =>
    obtain ⟨i, rfl, hp⟩ := hrel
    have HP := Lib.hid hp.out
    clear hp
    by_cases hin : i < np
    · have t1 : decide (i < np) = true := by simp; omega
      have hi0 : (i : Int) < (np : Int) := by omega
      obtain ⟨fn, hfn⟩ : ∃ fn, prog[i]? = some fn := ⟨_, List.getElem?_eq_getElem (by have := HN.out.2; omega)⟩
      obtain ⟨b, o, hpa, hF⟩ : ∃ b o, pa = some ⟨b, o, none⟩ ∧ FnAt wr D fn b (o + 3 * i) := by
        obtain ⟨pa', pc', e, _, hpp⟩ := HPV.out.kept HP.out.2 fun _ _ => id
        injection e with e1 e2 e3
        subst e1
        rcases hpp with e | ⟨b, o, e, hF⟩
        · rw [e] at hfn; simp at hfn
        · exact ⟨b, o, e, hF i fn hfn⟩
      rw [Nat.mul_comm] at hF
      subst hpa
      obtain ⟨f1, f2, f3, VB, f4, f5⟩ := hF
      obtain ⟨ab, cb, rfl, lb, hb⟩ := f5
      have HW : Hid (i < np ∧ wrap64 ((i : Int) + 1) = ((i + 1 : Nat) : Int)) := Lib.hid ⟨hin, wrap_i (by have := HN.out.1; omega)⟩
      have hk1 := kept_alloc9 wr (.cells #[.int .i64 fn.params, .int .i64 fn.locals, .slice ab fn.body.len cb] 37)
      have HL := Lib.hid (loadF f2 f3 f4)
      have HB := Lib.hid (Bx.new wr (.int .i64 fn.params) (.int .i64 fn.locals) (.slice ab fn.body.len cb) 37)
      have HSB := SlS.kept hk1 (fun _ _ => id) (show SlS wr D (.slice ab fn.body.len cb) fn.body from ⟨ab, cb, rfl, lb, hb⟩)
      have HK1 := Lib.hid (HP.out.2.trans hk1 fun _ _ h => h)
      have HI9 : Hid ((Tryz.prog.info? 37).map (·.size) = some (#[.int .i64 fn.params, .int .i64 fn.locals, .slice ab fn.body.len cb] : Array Value).size ∧ zF.size = (#[.int .i64 fn.params, .int .i64 fn.locals, .slice ab fn.body.len cb] : Array Value).size ∧ (#[.int .i64 fn.params, .int .i64 fn.locals, .slice ab fn.body.len cb] : Array Value).all (·.oneCell') = true) := Lib.hid ⟨infF, rfl, by simp [Value.oneCell']⟩
      have HC := Lib.hid (ds16 (HDS.out i fn hfn) _ D _ HSB)
      clear f1 f2 f3 f4 lb hb hk1 HSB hfn hin
      generalize (#[.int .i64 fn.params, .int .i64 fn.locals, .slice ab fn.body.len cb] : Array Value) = ag at *
      go_upto_region 5 with (first
        | ((with_reducible refine wpList_loadE (P := Tryz.prog) (w := wr) (ty := 37) (x := .tmp 14) (p := .pointer (some ⟨b, o + i * 3, none⟩)) (v := .agg ag) ?_ ?_ ?_ HL.out ?_); (· exact rfl); (· exact rfl); (· exact rfl))
        | ((with_reducible refine wpList_store_row (P := Tryz.prog) (w := wr.alloc (.cells zF 37)) ?_ 37 (.tmp 5) (.tmp 15) ?_ wr.heap.size ag ?_ ?_ 37 zF (heap_alloc_last wr _) HI9.out.1 HI9.out.2.1 HI9.out.2.2 ?_); (· exact rfl); (· exact rfl); (· exact rfl); (· exact rfl); rw [World.setRow_alloc_new]; simp only [Act.put]))
      clear HL HI9
      generalize wr.alloc (.cells ag 37) = y1 at *
      generalize wr.heap.size = qa at *
      have kb := HB.out.c2
      have kp := HB.out.c0
      have kl := HB.out.c1
      have hw1 := HW.out.2
      go_wp2_with (go_at_call 37; (with_reducible refine HC.out.mono ?_); rintro e y2 ⟨he, hk2⟩; obtain rfl : e = _ := he; have HK2 := Lib.hid (HK1.out.trans hk2 fun _ _ h => h); clear hk2 HC)
      go_roundw
      case rel => exact ⟨i + 1, by go_num, Lib.hid ⟨HW.out.1, HK2.out⟩⟩
      case measure => first | exact meas9 HW.out.1 HW.out.2 | exact meas9b HW.out.1
    · obtain rfl : i = np := by have := HP.out.1; omega
      have t1 : decide (i < i) = false := by simp
      clear hin
      have HKS1 := Lib.hid HP.out.2
      clear HP
      generalize i = np at *
      go_upto_region 9 with (fail)
      go_loopw [23, 3] (fun t nv wr => ∃ i : Nat, t = .int .i64 i ∧ ∃ jj : Nat, nv = .int .i64 jj ∧ Hid (i ≤ np ∧ Kept (fun _ => False) w wr ∧ jj + cntF (prog.drop i) = K)) (fun t _ _ => np - (intOf t).toNat)
      case atStart => exact ⟨0, rfl, 0, rfl, Lib.hid ⟨Nat.zero_le _, HKS1.out, by rw [List.drop_zero]; exact HKK.out.1⟩⟩
      case round =>
        obtain ⟨i, rfl, jj, rfl, hp⟩ := hrel
        have HP := Lib.hid hp.out
        clear hp
        by_cases hin : i < np
        · have t1 : decide (i < np) = true := by simp; omega
          have hi0 : (i : Int) < (np : Int) := by omega
          obtain ⟨fn, hfn⟩ : ∃ fn, prog[i]? = some fn := ⟨_, List.getElem?_eq_getElem (by have := HN.out.2; omega)⟩
          obtain ⟨b, o, hpa, hF⟩ : ∃ b o, pa = some ⟨b, o, none⟩ ∧ FnAt wr D fn b (o + 3 * i) := by
            obtain ⟨pa', pc', e, _, hpp⟩ := HPV.out.kept HP.out.2.1 fun _ _ => id
            injection e with e1 e2 e3
            subst e1
            rcases hpp with e | ⟨b, o, e, hF⟩
            · rw [e] at hfn; simp at hfn
            · exact ⟨b, o, e, hF i fn hfn⟩
          rw [Nat.mul_comm] at hF
          subst hpa
          obtain ⟨f1, f2, f3, VB, f4, f5⟩ := hF
          obtain ⟨ab, cb, rfl, lb, hb⟩ := f5
          have HW : Hid (i < np ∧ wrap64 ((i : Int) + 1) = ((i + 1 : Nat) : Int)) := Lib.hid ⟨hin, wrap_i (by have := HN.out.1; omega)⟩
          have hk1 := kept_alloc9 wr (.cells #[.int .i64 fn.params, .int .i64 fn.locals, .slice ab fn.body.len cb] 37)
          have HL := Lib.hid (loadF f2 f3 f4)
          have HB := Lib.hid (Bx.new wr (.int .i64 fn.params) (.int .i64 fn.locals) (.slice ab fn.body.len cb) 37)
          have HSB := SlS.kept hk1 (fun _ _ => id) (show SlS wr D (.slice ab fn.body.len cb) fn.body from ⟨ab, cb, rfl, lb, hb⟩)
          have HK1 := Lib.hid (HP.out.2.1.trans hk1 fun _ _ h => h)
          have HI9 : Hid ((Tryz.prog.info? 37).map (·.size) = some (#[.int .i64 fn.params, .int .i64 fn.locals, .slice ab fn.body.len cb] : Array Value).size ∧ zF.size = (#[.int .i64 fn.params, .int .i64 fn.locals, .slice ab fn.body.len cb] : Array Value).size ∧ (#[.int .i64 fn.params, .int .i64 fn.locals, .slice ab fn.body.len cb] : Array Value).all (·.oneCell') = true) := Lib.hid ⟨infF, rfl, by simp [Value.oneCell']⟩
          have hdr := cntF_drop _ _ _ hfn
          obtain ⟨j2, hj2⟩ : ∃ m, jj + cntS fn.body = m := ⟨_, rfl⟩
          have HJ : Hid (j2 + cntF (prog.drop (i + 1)) = K) := Lib.hid (by have := HP.out.2.2; omega)
          have HC := Lib.hid (HCS.out i fn hfn _ D _ jj j2 HSB hj2 (by have := HJ.out; have := HKK.out.2; omega))
          clear hdr hj2
          clear f1 f2 f3 f4 lb hb hk1 HSB hfn hin
          generalize (#[.int .i64 fn.params, .int .i64 fn.locals, .slice ab fn.body.len cb] : Array Value) = ag at *
          go_upto_region 11 with (first
            | ((with_reducible refine wpList_loadE (P := Tryz.prog) (w := wr) (ty := 37) (x := .tmp 25) (p := .pointer (some ⟨b, o + i * 3, none⟩)) (v := .agg ag) ?_ ?_ ?_ HL.out ?_); (· exact rfl); (· exact rfl); (· exact rfl))
            | ((with_reducible refine wpList_store_row (P := Tryz.prog) (w := wr.alloc (.cells zF 37)) ?_ 37 (.tmp 7) (.tmp 26) ?_ wr.heap.size ag ?_ ?_ 37 zF (heap_alloc_last wr _) HI9.out.1 HI9.out.2.1 HI9.out.2.2 ?_); (· exact rfl); (· exact rfl); (· exact rfl); (· exact rfl); rw [World.setRow_alloc_new]; simp only [Act.put]))
          clear HL HI9
          generalize wr.alloc (.cells ag 37) = y1 at *
          generalize wr.heap.size = qa at *
          have kb := HB.out.c2
          have kp := HB.out.c0
          have kl := HB.out.c1
          have hw1 := HW.out.2
          go_wp2_with (go_at_call 38; (with_reducible refine HC.out.mono ?_); rintro e y2 ⟨he, hk2⟩; obtain rfl : e = _ := he; have HK2 := Lib.hid (HK1.out.trans hk2 fun _ _ h => h); clear hk2 HC)
          go_roundw
          case rel => exact ⟨i + 1, by go_num, j2, rfl, Lib.hid ⟨HW.out.1, HK2.out, HJ.out⟩⟩
          case measure => first | exact meas9 HW.out.1 HW.out.2 | exact meas9b HW.out.1
        · obtain rfl : i = np := by have := HP.out.1; omega
          have t1 : decide (i < i) = false := by simp
          clear hin
          have hjk : jj = K := by have h1 := HP.out.2.2; have h2 := HN.out.2; rw [← h2, List.drop_length] at h1; simpa [cntF] using h1
          have HKS := Lib.hid HP.out.2.1
          have ta : decide (6000 < (jj : Int)) = false := by have := HKK.out.2; simp; omega
          have tb : decide (64 < (i : Int)) = false := by have := HN2.out.2; simp; omega
          have tc : ((i : Int) == 0) = false := by have := HN2.out.1; simp; omega
          obtain ⟨fn0, hfn0, hfp0⟩ := HF0.out
          obtain ⟨b0, o0, hpa0, hF0⟩ : ∃ b o, pa = some ⟨b, o, none⟩ ∧ FnAt wr D fn0 b (o + 3 * 0) := by
            obtain ⟨pa', pc', e, _, hpp⟩ := HPV.out.kept HKS.out fun _ _ => id
            injection e with e1 e2 e3
            subst e1
            rcases hpp with e | ⟨b, o, e, hF⟩
            · rw [e] at hfn0; simp at hfn0
            · exact ⟨b, o, e, hF 0 fn0 hfn0⟩
          subst hpa0
          have kp0 : wr.cell? ⟨b0, o0, none⟩ = some (.int .i64 0) := by have := hF0.2.1; rw [hfp0] at this; simpa using this
          have h0n : (0 : Int) < (i : Int) := by have := HN2.out.1; omega
          clear hF0 hfn0 hfp0 hjk HP
          generalize i = np at *
          go_upto_region 18 with (fail)
          clear kp0 h0n ta tb tc
          go_loopw [53] (fun t wr => ∃ i : Nat, t = .int .i64 i ∧ Hid (i ≤ np ∧ Kept (fun _ => False) w wr)) (fun t _ => np - (intOf t).toNat)
          case atStart => exact ⟨0, rfl, Lib.hid ⟨Nat.zero_le _, HKS.out⟩⟩
          case round =>
            obtain ⟨i, rfl, hp⟩ := hrel
            have HP := Lib.hid hp.out
            clear hp
            by_cases hin : i < np
            · have t1 : decide (i < np) = true := by simp; omega
              have hi0 : (i : Int) < (np : Int) := by omega
              obtain ⟨fn, hfn⟩ : ∃ fn, prog[i]? = some fn := ⟨_, List.getElem?_eq_getElem (by have := HN.out.2; omega)⟩
              obtain ⟨b, o, hpa, hF⟩ : ∃ b o, (some ⟨b0, o0, none⟩ : Option Addr) = some ⟨b, o, none⟩ ∧ FnAt wr D fn b (o + 3 * i) := by
                obtain ⟨pa', pc', e, _, hpp⟩ := HPV.out.kept HP.out.2 fun _ _ => id
                injection e with e1 e2 e3
                subst e1
                rcases hpp with e | ⟨b, o, e, hF⟩
                · rw [e] at hfn; simp at hfn
                · exact ⟨b, o, e, hF i fn hfn⟩
              rw [Nat.mul_comm] at hF
              obtain ⟨rfl, rfl⟩ : b = b0 ∧ o = o0 := by simpa [eq_comm] using hpa
              obtain ⟨f1, f2, f3, VB, f4, f5⟩ := hF
              obtain ⟨ab, cb, rfl, lb, hb⟩ := f5
              have HW : Hid (i < np ∧ wrap64 ((i : Int) + 1) = ((i + 1 : Nat) : Int)) := Lib.hid ⟨hin, wrap_i (by have := HN.out.1; omega)⟩
              have hk1 := kept_alloc9 wr (.cells #[.int .i64 fn.params, .int .i64 fn.locals, .slice ab fn.body.len cb] 37)
              have HL := Lib.hid (loadF f2 f3 f4)
              have HB := Lib.hid (Bx.new wr (.int .i64 fn.params) (.int .i64 fn.locals) (.slice ab fn.body.len cb) 37)
              have HSB := SlS.kept hk1 (fun _ _ => id) (show SlS wr D (.slice ab fn.body.len cb) fn.body from ⟨ab, cb, rfl, lb, hb⟩)
              have HK1 := Lib.hid (HP.out.2.trans hk1 fun _ _ h => h)
              have HI9 : Hid ((Tryz.prog.info? 37).map (·.size) = some (#[.int .i64 fn.params, .int .i64 fn.locals, .slice ab fn.body.len cb] : Array Value).size ∧ zF.size = (#[.int .i64 fn.params, .int .i64 fn.locals, .slice ab fn.body.len cb] : Array Value).size ∧ (#[.int .i64 fn.params, .int .i64 fn.locals, .slice ab fn.body.len cb] : Array Value).all (·.oneCell') = true) := Lib.hid ⟨infF, rfl, by simp [Value.oneCell']⟩
              have HC := Lib.hid (HR.out i fn hfn _ D _ _ (HPV.out.kept HK1.out fun _ _ => id) HSB)
              have hloc := HLC.out fn (List.mem_of_getElem? hfn)
              have ta : decide (fn.params < 0) = false := by simp; omega
              have tb : decide (fn.locals < fn.params) = false := by simp; omega
              have tc : decide (24 < fn.locals) = false := by simp; omega
              clear hloc
              clear f1 f2 f3 f4 lb hb hk1 HSB hfn hin
              generalize (#[.int .i64 fn.params, .int .i64 fn.locals, .slice ab fn.body.len cb] : Array Value) = ag at *
              go_upto_region 20 with (first
                | ((with_reducible refine wpList_loadE (P := Tryz.prog) (w := wr) (ty := 37) (x := .tmp 56) (p := .pointer (some ⟨b, o + i * 3, none⟩)) (v := .agg ag) ?_ ?_ ?_ HL.out ?_); (· exact rfl); (· exact rfl); (· exact rfl))
                | ((with_reducible refine wpList_store_row (P := Tryz.prog) (w := wr.alloc (.cells zF 37)) ?_ 37 (.tmp 9) (.tmp 57) ?_ wr.heap.size ag ?_ ?_ 37 zF (heap_alloc_last wr _) HI9.out.1 HI9.out.2.1 HI9.out.2.2 ?_); (· exact rfl); (· exact rfl); (· exact rfl); (· exact rfl); rw [World.setRow_alloc_new]; simp only [Act.put]))
              clear HL HI9
              generalize wr.alloc (.cells ag 37) = y1 at *
              generalize wr.heap.size = qa at *
              have kb := HB.out.c2
              have kp := HB.out.c0
              have kl := HB.out.c1
              have hw1 := HW.out.2
              go_wp2_with (go_at_call 39; (with_reducible refine HC.out.mono ?_); rintro e y2 ⟨he, hk2⟩; obtain rfl : e = _ := he; have HK2 := Lib.hid (HK1.out.trans hk2 fun _ _ h => h); clear hk2 HC)
              go_roundw
              case rel => exact ⟨i + 1, by go_num, Lib.hid ⟨HW.out.1, HK2.out⟩⟩
              case measure => first | exact meas9 HW.out.1 HW.out.2 | exact meas9b HW.out.1
            · obtain rfl : i = np := by have := HP.out.1; omega
              have t1 : decide (i < i) = false := by simp
              clear hin
              go_wp2_with (fail)
              exact bodyPost_ret (v := .nilIface) (by simp [results, Tryz.results23, go_sem]) rfl ⟨rfl, HP.out.2⟩
end Ir
end Go.Proofs.YtcgpdijpppcbiaaGreatDoor
namespace Go.Proofs.YtcgpdijpppcbiaaGreatDoor
open Go.RowKit
set_option linter.unusedVariables false
namespace Ir
theorem sem_good {pv sv : Value} {prog : List Fn} {D : Nat → Prop} (ap : Nat → Nat → Nat → Nat → Nat) (hap : ∀ k a b c, 1 ≤ k → k ≤ 25 → a < 18446744073709551616 → b < 18446744073709551616 → c < 18446744073709551616 → W1.App k a b c (ap k a b c)) (g : Nat) :
    ∀ d, ValC pv sv prog D (sem prog ap g d).val ∧ LstC pv sv prog D (sem prog ap g d).lst
  | 0 => by
    constructor
    · intro op n kids L s v ok s' h
      cases h
    · intro x L v s way L' v' s' h
      cases h
  | d + 1 => by
    have h := sem_good (pv := pv) (sv := sv) (prog := prog) (D := D) ap hap g d
    exact ⟨value_walk ap hap _ h.1 h.2, list_walk _ g (stmt_walk _ h.1 h.2 g)⟩
end Ir
end Go.Proofs.YtcgpdijpppcbiaaGreatDoor
