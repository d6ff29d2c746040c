/- Merged of Evr Lwa Lwb. Own work. -/
import Derived.Test.YtbenjgncbpafbaaGreatDoorP11
import Derived.Test.YtbenjgncbpafbaaGreatDoorP12
import Derived.Test.YtbenjgncbpafbaaGreatDoorP09
import Derived.Test.YtbenjgncbpafbaaGreatDoorP08
namespace Go.Proofs.YtbenjgncbpafbaaGreatDoor
open Go.RowKit
set_option linter.unusedVariables false
set_option linter.unusedSimpArgs false
namespace Ir
open Kc
theorem deepS_all : ∀ (x : Sf) (d : Nat), d < 900 → fitS x (d + 1) = true → AllS (QD d) x
  | .nil, _, _, _ => trivial
  | .cons kind n ao an ak bo bn bk body els rest, d, hd, h => by
    have ihb := fun k hk hf => deepS_all body k hk hf
    have ihe := fun k hk hf => deepS_all els k hk hf
    have ihr := fun hf => deepS_all rest d hd hf
    have one : ∀ l : Sf, (∀ k, k < 900 → fitS l (k + 1) = true → AllS (QD k) l) → fitS l d = true → DS d l := fun l hl hf => by
      cases l with
      | nil => exact deepNil d
      | cons a1 a2 a3 a4 a5 a6 a7 a8 a9 a10 a11 =>
        obtain ⟨k, rfl⟩ : ∃ k, d = k + 1 := ⟨d - 1, by unfold fitS at hf; simp only [Bool.and_eq_true, decide_eq_true_eq] at hf; omega⟩
        exact deepS_walk k _ (by omega) (fun e => by cases e) (hl k (by omega) hf)
    unfold fitS at h
    simp only [Bool.and_eq_true, decide_eq_true_eq, Nat.add_sub_cancel] at h
    obtain ⟨⟨⟨⟨h1, h2⟩, h3⟩, h4⟩, h5⟩ := h
    refine ⟨⟨h2, deepX_all _ 8 (by decide) h3, fun l hl => ?_⟩, ihr h5⟩
    unfold lists at hl
    by_cases e3 : kind = 3
    · rw [if_pos e3] at hl h4
      simp only [Bool.and_eq_true] at h4
      rcases List.mem_cons.1 hl with rfl | hl
      · exact one _ ihb h4.1
      · rcases List.mem_cons.1 hl with rfl | hl
        · exact one _ ihe h4.2
        · cases hl
    · rw [if_neg e3] at hl h4
      by_cases e4 : kind = 4
      · rw [if_pos e4] at hl h4
        rcases List.mem_cons.1 hl with rfl | hl
        · exact one _ ihb h4
        · cases hl
      · rw [if_neg e4] at hl
        cases hl
theorem countS_all (prog : List Fn) (at_ : Nat) : ∀ (x : Sf), rightS prog at_ x = true → AllS QC x
  | .nil, _ => trivial
  | .cons kind n ao an ak bo bn bk body els rest, h => by
    have ihb := countS_all prog at_ body
    have ihe := countS_all prog at_ els
    have ihr := countS_all prog at_ rest
    unfold rightS at h
    simp only [Bool.and_eq_true, decide_eq_true_eq] at h
    obtain ⟨⟨⟨⟨h1, h2⟩, h3⟩, h4⟩, h5⟩ := h
    refine ⟨⟨h1, countX_all _, fun l hl => ?_⟩, ihr h5⟩
    unfold lists at hl
    by_cases e3 : kind = 3
    · rw [if_pos e3] at hl h4
      simp only [Bool.and_eq_true] at h4
      rcases List.mem_cons.1 hl with rfl | hl
      · exact countS_walk _ (ihb h4.1)
      · rcases List.mem_cons.1 hl with rfl | hl
        · exact countS_walk _ (ihe h4.2)
        · cases hl
    · rw [if_neg e3] at hl h4
      by_cases e4 : kind = 4
      · rw [if_pos e4] at hl h4
        rcases List.mem_cons.1 hl with rfl | hl
        · exact countS_walk _ (ihb h4)
        · cases hl
      · rw [if_neg e4] at hl
        cases hl
theorem rightS_all (prog : List Fn) (hloc : Loc prog) (at_ : Nat) : ∀ (x : Sf), rightS prog at_ x = true → AllS (QR prog at_) x
  | .nil, _ => trivial
  | .cons kind n ao an ak bo bn bk body els rest, h => by
    have ihb := rightS_all prog hloc at_ body
    have ihe := rightS_all prog hloc at_ els
    have ihr := rightS_all prog hloc at_ rest
    unfold rightS at h
    simp only [Bool.and_eq_true, decide_eq_true_eq] at h
    obtain ⟨⟨⟨⟨h1, h2⟩, h3⟩, h4⟩, h5⟩ := h
    refine ⟨⟨h1, rightX_all prog hloc at_ _ h3, fun l hl => ?_, fun e1 => ?_⟩, ihr h5⟩
    · unfold lists at hl
      by_cases e3 : kind = 3
      · rw [if_pos e3] at hl h4
        simp only [Bool.and_eq_true] at h4
        rcases List.mem_cons.1 hl with rfl | hl
        · exact rightS_walk prog at_ _ (ihb h4.1)
        · rcases List.mem_cons.1 hl with rfl | hl
          · exact rightS_walk prog at_ _ (ihe h4.2)
          · cases hl
      · rw [if_neg e3] at hl h4
        by_cases e4 : kind = 4
        · rw [if_pos e4] at hl h4
          rcases List.mem_cons.1 hl with rfl | hl
          · exact rightS_walk prog at_ _ (ihb h4)
          · cases hl
        · rw [if_neg e4] at hl
          cases hl
    · subst e1
      cases hf : prog[at_]? with
      | none => rw [hf] at h2; simp at h2
      | some fn =>
        rw [hf] at h2
        simp at h2
        exact ⟨h2.1, fn, rfl, h2.2⟩
theorem undF : Tryz.prog.underlying 52 = some (.struct (Tryz.prog.fieldsOf 52)) := by kernel_rfl
theorem infF : (Tryz.prog.info? 52).map (·.size) = some 3 := by kernel_rfl
theorem loadF {w : World} {b o : Nat} {l0 l1 l2 : Value} (h0 : w.cell? ⟨b, o, none⟩ = some l0) (h1 : w.cell? ⟨b, o + 1, none⟩ = some l1) (h2 : w.cell? ⟨b, o + 2, none⟩ = some l2) : (Instr.loadAt 52 (.pointer (some ⟨b, o, none⟩))).run Tryz.prog w = .ok (.agg #[l0, l1, l2]) w := by
  refine run_loadAt_mid w b o _ [l0, l1, l2] _ (fun i v hv => ?_) undF rfl (by rw [infF]; rfl)
  match i, hv with
  | 0, hv => cases hv; exact h0
  | 1, hv => cases hv; exact h1
  | 2, hv => cases hv; exact h2
  | i + 3, hv => simp at hv
abbrev zF : Array Value := #[.int .i64 0, .int .i64 0, .slice none 0 0]
theorem cntF_drop (l : List Fn) (k : Nat) (x : Fn) (h : l[k]? = some x) : cntF (l.drop k) = cntS x.body + cntF (l.drop (k + 1)) := by
  obtain ⟨hk, rfl⟩ := List.getElem?_eq_some_iff.1 h
  rw [List.drop_eq_getElem_cons hk, cntF]
theorem ds16 {x : Sf} (h : DS 16 x) (w : World) (D : Nat → Prop) (V : Value) (hV : SlS w D V x) : Calls Tryz.prog 23 #[V, .int .i64 16] w fun e w' => e = .returned (.bool false) ∧ Kept (fun _ => False) w w' := h w D V hV
theorem right_fs (prog : List Fn) : ∀ (l : List Fn) (k : Nat), rightFs prog k l = true → ∀ i fn, l[i]? = some fn → (0 ≤ fn.params ∧ fn.params ≤ fn.locals ∧ fn.locals ≤ 24) ∧ rightS prog (k + i) fn.body = true
  | [], _, _, i, fn, h => by simp at h
  | f :: r, k, hr, i, fn, h => by
    unfold rightFs at hr
    simp only [Bool.and_eq_true, decide_eq_true_eq] at hr
    cases i with
    | zero => simp at h; subst h; exact ⟨hr.1.1, hr.1.2⟩
    | succ i =>
      have := right_fs prog r (k + 1) hr.2 i fn (by simpa using h)
      rw [show k + (i + 1) = k + 1 + i from by omega]
      exact this
set_option maxHeartbeats 8000000 in
set_option maxRecDepth 100000 in
theorem check_walk (prog : List Fn) (hr : right prog = true) (w : World) (D : Nat → Prop) (pv : Value) (hp : SlP w D pv prog) : Calls Tryz.prog 15 #[pv] w fun e w' => e = .returned .nilIface ∧ Kept (fun _ => False) w w' := by
  unfold right at hr
  simp only [Bool.and_eq_true, decide_eq_true_eq] at hr
  obtain ⟨⟨⟨⟨r1, r2⟩, r3⟩, r4⟩, r5⟩ := hr
  have rf := right_fs prog prog 0 r5
  have hloc : Loc prog := fun fn hfn => by
    obtain ⟨i, hi⟩ := List.mem_iff_getElem?.1 hfn
    exact (rf i fn hi).1
  have HDS : Hid (∀ i (fn : Fn), prog[i]? = some fn → DS 16 fn.body) := Lib.hid fun i fn hi => by
    have h := List.all_eq_true.1 r1 fn (List.mem_of_getElem? hi)
    by_cases e : fn.body = .nil
    · rw [e]; exact deepNil 16
    · exact deepS_walk 15 _ (by decide) e (deepS_all _ 15 (by decide) h)
  have HCS : Hid (∀ i (fn : Fn), prog[i]? = some fn → CS fn.body) := Lib.hid fun i fn hi => countS_walk _ (countS_all prog (0 + i) _ (rf i fn hi).2)
  have HR : Hid (∀ i (fn : Fn), prog[i]? = some fn → RS prog i fn.body) := Lib.hid fun i fn hi => rightS_walk prog i _ (rightS_all prog hloc i _ (by have := (rf i fn hi).2; rwa [Nat.zero_add] at this))
  have HLC := Lib.hid hloc
  have HF0 : Hid (∃ fn, prog[0]? = some fn ∧ fn.params = 0) := Lib.hid (by
    cases hf : prog[0]? with
    | none => rw [hf] at r4; simp at r4
    | some fn => rw [hf] at r4; exact ⟨fn, rfl, by simpa using r4⟩)
  obtain ⟨K, hK⟩ : ∃ K, cntF prog = K := ⟨_, rfl⟩
  have HKK : Hid (0 + cntF prog = K ∧ K ≤ 6000) := Lib.hid ⟨by omega, by omega⟩
  obtain ⟨pa, pc, rfl, hpl, hpp⟩ := hp
  have HPV := Lib.hid (show SlP w D (.slice pa prog.length pc) prog from ⟨pa, pc, rfl, hpl, hpp⟩)
  obtain ⟨np, hnp⟩ : ∃ m, prog.length = m := ⟨_, rfl⟩
  rw [hnp] at HPV hpl r3 ⊢
  have HN := Lib.hid (And.intro hpl hnp)
  have HN2 := Lib.hid r3
  clear hpl hpp r1 r2 r3 r4 r5 rf hloc hK
  clear hnp
  go_enter Tryz.func15, Tryz.ntmps15
  go_upto_region 3 with (fail)
  go_loopw [12] (fun t wr => ∃ i : Nat, t = .int .i64 i ∧ Hid (i ≤ np ∧ Kept (fun _ => False) w wr)) (fun t _ => np - (intOf t).toNat)
  case atStart => exact ⟨0, rfl, Lib.hid ⟨Nat.zero_le _, Kept.refl _ _⟩⟩
  case round =>
    obtain ⟨i, rfl, hp⟩ := hrel
    have HP := Lib.hid hp.out
    clear hp
    by_cases hin : i < np
    · have t1 : decide (i < np) = true := by simp; omega
      have hi0 : (i : Int) < (np : Int) := by omega
      obtain ⟨fn, hfn⟩ : ∃ fn, prog[i]? = some fn := ⟨_, List.getElem?_eq_getElem (by have := HN.out.2; omega)⟩
      obtain ⟨b, o, hpa, hF⟩ : ∃ b o, pa = some ⟨b, o, none⟩ ∧ FnAt wr D fn b (o + 3 * i) := by
        obtain ⟨pa', pc', e, _, hpp⟩ := HPV.out.kept HP.out.2 fun _ _ => id
        injection e with e1 e2 e3
        subst e1
        rcases hpp with e | ⟨b, o, e, hF⟩
        · rw [e] at hfn; simp at hfn
        · exact ⟨b, o, e, hF i fn hfn⟩
      rw [Nat.mul_comm] at hF
      subst hpa
      obtain ⟨f1, f2, f3, VB, f4, f5⟩ := hF
      obtain ⟨ab, cb, rfl, lb, hb⟩ := f5
      have HW : Hid (i < np ∧ wrap64 ((i : Int) + 1) = ((i + 1 : Nat) : Int)) := Lib.hid ⟨hin, wrap_i (by have := HN.out.1; omega)⟩
      have hk1 := kept_alloc9 wr (.cells #[.int .i64 fn.params, .int .i64 fn.locals, .slice ab fn.body.len cb] 52)
      have HL := Lib.hid (loadF f2 f3 f4)
      have HB := Lib.hid (Bx.new wr (.int .i64 fn.params) (.int .i64 fn.locals) (.slice ab fn.body.len cb) 52)
      have HSB := SlS.kept hk1 (fun _ _ => id) (show SlS wr D (.slice ab fn.body.len cb) fn.body from ⟨ab, cb, rfl, lb, hb⟩)
      have HK1 := Lib.hid (HP.out.2.trans hk1 fun _ _ h => h)
      have HI9 : Hid ((Tryz.prog.info? 52).map (·.size) = some (#[.int .i64 fn.params, .int .i64 fn.locals, .slice ab fn.body.len cb] : Array Value).size ∧ zF.size = (#[.int .i64 fn.params, .int .i64 fn.locals, .slice ab fn.body.len cb] : Array Value).size ∧ (#[.int .i64 fn.params, .int .i64 fn.locals, .slice ab fn.body.len cb] : Array Value).all (·.oneCell') = true) := Lib.hid ⟨infF, rfl, by simp [Value.oneCell']⟩
      have HC := Lib.hid (ds16 (HDS.out i fn hfn) _ D _ HSB)
      clear f1 f2 f3 f4 lb hb hk1 HSB hfn hin
      generalize (#[.int .i64 fn.params, .int .i64 fn.locals, .slice ab fn.body.len cb] : Array Value) = ag at *
      go_upto_region 5 with (first
        | ((with_reducible refine wpList_loadE (P := Tryz.prog) (w := wr) (ty := 52) (x := .tmp 14) (p := .pointer (some ⟨b, o + i * 3, none⟩)) (v := .agg ag) ?_ ?_ ?_ HL.out ?_); (· exact rfl); (· exact rfl); (· exact rfl))
        | ((with_reducible refine wpList_store_row (P := Tryz.prog) (w := wr.alloc (.cells zF 52)) ?_ 52 (.tmp 5) (.tmp 15) ?_ wr.heap.size ag ?_ ?_ 52 zF (heap_alloc_last wr _) HI9.out.1 HI9.out.2.1 HI9.out.2.2 ?_); (· exact rfl); (· exact rfl); (· exact rfl); (· exact rfl); rw [World.setRow_alloc_new]; simp only [Act.put]))
      clear HL HI9
      generalize wr.alloc (.cells ag 52) = y1 at *
      generalize wr.heap.size = qa at *
      have kb := HB.out.c2
      have kp := HB.out.c0
      have kl := HB.out.c1
      have hw1 := HW.out.2
      go_wp2_with (go_at_call 23; (with_reducible refine HC.out.mono ?_); rintro e y2 ⟨he, hk2⟩; obtain rfl : e = _ := he; have HK2 := Lib.hid (HK1.out.trans hk2 fun _ _ h => h); clear hk2 HC)
      go_roundw
      case rel => exact ⟨i + 1, by go_num, Lib.hid ⟨HW.out.1, HK2.out⟩⟩
      case measure => first | exact meas9 HW.out.1 HW.out.2 | exact meas9b HW.out.1
    · obtain rfl : i = np := by have := HP.out.1; omega
      have t1 : decide (i < i) = false := by simp
      clear hin
      have HKS1 := Lib.hid HP.out.2
      clear HP
      generalize i = np at *
      go_upto_region 9 with (fail)
      go_loopw [23, 3] (fun t nv wr => ∃ i : Nat, t = .int .i64 i ∧ ∃ jj : Nat, nv = .int .i64 jj ∧ Hid (i ≤ np ∧ Kept (fun _ => False) w wr ∧ jj + cntF (prog.drop i) = K)) (fun t _ _ => np - (intOf t).toNat)
      case atStart => exact ⟨0, rfl, 0, rfl, Lib.hid ⟨Nat.zero_le _, HKS1.out, by rw [List.drop_zero]; exact HKK.out.1⟩⟩
      case round =>
        obtain ⟨i, rfl, jj, rfl, hp⟩ := hrel
        have HP := Lib.hid hp.out
        clear hp
        by_cases hin : i < np
        · have t1 : decide (i < np) = true := by simp; omega
          have hi0 : (i : Int) < (np : Int) := by omega
          obtain ⟨fn, hfn⟩ : ∃ fn, prog[i]? = some fn := ⟨_, List.getElem?_eq_getElem (by have := HN.out.2; omega)⟩
          obtain ⟨b, o, hpa, hF⟩ : ∃ b o, pa = some ⟨b, o, none⟩ ∧ FnAt wr D fn b (o + 3 * i) := by
            obtain ⟨pa', pc', e, _, hpp⟩ := HPV.out.kept HP.out.2.1 fun _ _ => id
            injection e with e1 e2 e3
            subst e1
            rcases hpp with e | ⟨b, o, e, hF⟩
            · rw [e] at hfn; simp at hfn
            · exact ⟨b, o, e, hF i fn hfn⟩
          rw [Nat.mul_comm] at hF
          subst hpa
          obtain ⟨f1, f2, f3, VB, f4, f5⟩ := hF
          obtain ⟨ab, cb, rfl, lb, hb⟩ := f5
          have HW : Hid (i < np ∧ wrap64 ((i : Int) + 1) = ((i + 1 : Nat) : Int)) := Lib.hid ⟨hin, wrap_i (by have := HN.out.1; omega)⟩
          have hk1 := kept_alloc9 wr (.cells #[.int .i64 fn.params, .int .i64 fn.locals, .slice ab fn.body.len cb] 52)
          have HL := Lib.hid (loadF f2 f3 f4)
          have HB := Lib.hid (Bx.new wr (.int .i64 fn.params) (.int .i64 fn.locals) (.slice ab fn.body.len cb) 52)
          have HSB := SlS.kept hk1 (fun _ _ => id) (show SlS wr D (.slice ab fn.body.len cb) fn.body from ⟨ab, cb, rfl, lb, hb⟩)
          have HK1 := Lib.hid (HP.out.2.1.trans hk1 fun _ _ h => h)
          have HI9 : Hid ((Tryz.prog.info? 52).map (·.size) = some (#[.int .i64 fn.params, .int .i64 fn.locals, .slice ab fn.body.len cb] : Array Value).size ∧ zF.size = (#[.int .i64 fn.params, .int .i64 fn.locals, .slice ab fn.body.len cb] : Array Value).size ∧ (#[.int .i64 fn.params, .int .i64 fn.locals, .slice ab fn.body.len cb] : Array Value).all (·.oneCell') = true) := Lib.hid ⟨infF, rfl, by simp [Value.oneCell']⟩
          have hdr := cntF_drop _ _ _ hfn
          obtain ⟨j2, hj2⟩ : ∃ m, jj + cntS fn.body = m := ⟨_, rfl⟩
          have HJ : Hid (j2 + cntF (prog.drop (i + 1)) = K) := Lib.hid (by have := HP.out.2.2; omega)
          have HC := Lib.hid (HCS.out i fn hfn _ D _ jj j2 HSB hj2 (by have := HJ.out; have := HKK.out.2; omega))
          clear hdr hj2
          clear f1 f2 f3 f4 lb hb hk1 HSB hfn hin
          generalize (#[.int .i64 fn.params, .int .i64 fn.locals, .slice ab fn.body.len cb] : Array Value) = ag at *
          go_upto_region 11 with (first
            | ((with_reducible refine wpList_loadE (P := Tryz.prog) (w := wr) (ty := 52) (x := .tmp 25) (p := .pointer (some ⟨b, o + i * 3, none⟩)) (v := .agg ag) ?_ ?_ ?_ HL.out ?_); (· exact rfl); (· exact rfl); (· exact rfl))
            | ((with_reducible refine wpList_store_row (P := Tryz.prog) (w := wr.alloc (.cells zF 52)) ?_ 52 (.tmp 7) (.tmp 26) ?_ wr.heap.size ag ?_ ?_ 52 zF (heap_alloc_last wr _) HI9.out.1 HI9.out.2.1 HI9.out.2.2 ?_); (· exact rfl); (· exact rfl); (· exact rfl); (· exact rfl); rw [World.setRow_alloc_new]; simp only [Act.put]))
          clear HL HI9
          generalize wr.alloc (.cells ag 52) = y1 at *
          generalize wr.heap.size = qa at *
          have kb := HB.out.c2
          have kp := HB.out.c0
          have kl := HB.out.c1
          have hw1 := HW.out.2
          go_wp2_with (go_at_call 24; (with_reducible refine HC.out.mono ?_); rintro e y2 ⟨he, hk2⟩; obtain rfl : e = _ := he; have HK2 := Lib.hid (HK1.out.trans hk2 fun _ _ h => h); clear hk2 HC)
          go_roundw
          case rel => exact ⟨i + 1, by go_num, j2, rfl, Lib.hid ⟨HW.out.1, HK2.out, HJ.out⟩⟩
          case measure => first | exact meas9 HW.out.1 HW.out.2 | exact meas9b HW.out.1
        · obtain rfl : i = np := by have := HP.out.1; omega
          have t1 : decide (i < i) = false := by simp
          clear hin
          have hjk : jj = K := by have h1 := HP.out.2.2; have h2 := HN.out.2; rw [← h2, List.drop_length] at h1; simpa [cntF] using h1
          have HKS := Lib.hid HP.out.2.1
          have ta : decide (6000 < (jj : Int)) = false := by have := HKK.out.2; simp; omega
          have tb : decide (64 < (i : Int)) = false := by have := HN2.out.2; simp; omega
          have tc : ((i : Int) == 0) = false := by have := HN2.out.1; simp; omega
          obtain ⟨fn0, hfn0, hfp0⟩ := HF0.out
          obtain ⟨b0, o0, hpa0, hF0⟩ : ∃ b o, pa = some ⟨b, o, none⟩ ∧ FnAt wr D fn0 b (o + 3 * 0) := by
            obtain ⟨pa', pc', e, _, hpp⟩ := HPV.out.kept HKS.out fun _ _ => id
            injection e with e1 e2 e3
            subst e1
            rcases hpp with e | ⟨b, o, e, hF⟩
            · rw [e] at hfn0; simp at hfn0
            · exact ⟨b, o, e, hF 0 fn0 hfn0⟩
          subst hpa0
          have kp0 : wr.cell? ⟨b0, o0, none⟩ = some (.int .i64 0) := by have := hF0.2.1; rw [hfp0] at this; simpa using this
          have h0n : (0 : Int) < (i : Int) := by have := HN2.out.1; omega
          clear hF0 hfn0 hfp0 hjk HP
          generalize i = np at *
          go_upto_region 18 with (fail)
          clear kp0 h0n ta tb tc
          go_loopw [53] (fun t wr => ∃ i : Nat, t = .int .i64 i ∧ Hid (i ≤ np ∧ Kept (fun _ => False) w wr)) (fun t _ => np - (intOf t).toNat)
          case atStart => exact ⟨0, rfl, Lib.hid ⟨Nat.zero_le _, HKS.out⟩⟩
          case round =>
            obtain ⟨i, rfl, hp⟩ := hrel
            have HP := Lib.hid hp.out
            clear hp
            by_cases hin : i < np
            · have t1 : decide (i < np) = true := by simp; omega
              have hi0 : (i : Int) < (np : Int) := by omega
              obtain ⟨fn, hfn⟩ : ∃ fn, prog[i]? = some fn := ⟨_, List.getElem?_eq_getElem (by have := HN.out.2; omega)⟩
              obtain ⟨b, o, hpa, hF⟩ : ∃ b o, (some ⟨b0, o0, none⟩ : Option Addr) = some ⟨b, o, none⟩ ∧ FnAt wr D fn b (o + 3 * i) := by
                obtain ⟨pa', pc', e, _, hpp⟩ := HPV.out.kept HP.out.2 fun _ _ => id
                injection e with e1 e2 e3
                subst e1
                rcases hpp with e | ⟨b, o, e, hF⟩
                · rw [e] at hfn; simp at hfn
                · exact ⟨b, o, e, hF i fn hfn⟩
              rw [Nat.mul_comm] at hF
              obtain ⟨rfl, rfl⟩ : b = b0 ∧ o = o0 := by simpa [eq_comm] using hpa
              obtain ⟨f1, f2, f3, VB, f4, f5⟩ := hF
              obtain ⟨ab, cb, rfl, lb, hb⟩ := f5
              have HW : Hid (i < np ∧ wrap64 ((i : Int) + 1) = ((i + 1 : Nat) : Int)) := Lib.hid ⟨hin, wrap_i (by have := HN.out.1; omega)⟩
              have hk1 := kept_alloc9 wr (.cells #[.int .i64 fn.params, .int .i64 fn.locals, .slice ab fn.body.len cb] 52)
              have HL := Lib.hid (loadF f2 f3 f4)
              have HB := Lib.hid (Bx.new wr (.int .i64 fn.params) (.int .i64 fn.locals) (.slice ab fn.body.len cb) 52)
              have HSB := SlS.kept hk1 (fun _ _ => id) (show SlS wr D (.slice ab fn.body.len cb) fn.body from ⟨ab, cb, rfl, lb, hb⟩)
              have HK1 := Lib.hid (HP.out.2.trans hk1 fun _ _ h => h)
              have HI9 : Hid ((Tryz.prog.info? 52).map (·.size) = some (#[.int .i64 fn.params, .int .i64 fn.locals, .slice ab fn.body.len cb] : Array Value).size ∧ zF.size = (#[.int .i64 fn.params, .int .i64 fn.locals, .slice ab fn.body.len cb] : Array Value).size ∧ (#[.int .i64 fn.params, .int .i64 fn.locals, .slice ab fn.body.len cb] : Array Value).all (·.oneCell') = true) := Lib.hid ⟨infF, rfl, by simp [Value.oneCell']⟩
              have HC := Lib.hid (HR.out i fn hfn _ D _ _ (HPV.out.kept HK1.out fun _ _ => id) HSB)
              have hloc := HLC.out fn (List.mem_of_getElem? hfn)
              have ta : decide (fn.params < 0) = false := by simp; omega
              have tb : decide (fn.locals < fn.params) = false := by simp; omega
              have tc : decide (24 < fn.locals) = false := by simp; omega
              clear hloc
              clear f1 f2 f3 f4 lb hb hk1 HSB hfn hin
              generalize (#[.int .i64 fn.params, .int .i64 fn.locals, .slice ab fn.body.len cb] : Array Value) = ag at *
              go_upto_region 20 with (first
                | ((with_reducible refine wpList_loadE (P := Tryz.prog) (w := wr) (ty := 52) (x := .tmp 56) (p := .pointer (some ⟨b, o + i * 3, none⟩)) (v := .agg ag) ?_ ?_ ?_ HL.out ?_); (· exact rfl); (· exact rfl); (· exact rfl))
                | ((with_reducible refine wpList_store_row (P := Tryz.prog) (w := wr.alloc (.cells zF 52)) ?_ 52 (.tmp 9) (.tmp 57) ?_ wr.heap.size ag ?_ ?_ 52 zF (heap_alloc_last wr _) HI9.out.1 HI9.out.2.1 HI9.out.2.2 ?_); (· exact rfl); (· exact rfl); (· exact rfl); (· exact rfl); rw [World.setRow_alloc_new]; simp only [Act.put]))
              clear HL HI9
              generalize wr.alloc (.cells ag 52) = y1 at *
              generalize wr.heap.size = qa at *
              have kb := HB.out.c2
              have kp := HB.out.c0
              have kl := HB.out.c1
              have hw1 := HW.out.2
              go_wp2_with (go_at_call 25; (with_reducible refine HC.out.mono ?_); rintro e y2 ⟨he, hk2⟩; obtain rfl : e = _ := he; have HK2 := Lib.hid (HK1.out.trans hk2 fun _ _ h => h); clear hk2 HC)
              go_roundw
              case rel => exact ⟨i + 1, by go_num, Lib.hid ⟨HW.out.1, HK2.out⟩⟩
              case measure => first | exact meas9 HW.out.1 HW.out.2 | exact meas9b HW.out.1
            · obtain rfl : i = np := by have := HP.out.1; omega
              have t1 : decide (i < i) = false := by simp
              clear hin
              go_wp2_with (fail)
              exact bodyPost_ret (v := .nilIface) (by simp [results, Tryz.results15, go_sem]) rfl ⟨rfl, HP.out.2⟩
end Ir
end Go.Proofs.YtbenjgncbpafbaaGreatDoor
namespace Go.Proofs.YtbenjgncbpafbaaGreatDoor
open Go.RowKit
set_option linter.unusedVariables false
set_option linter.unusedSimpArgs false
section
variable {P : Program}
theorem wp_build1l {op : Oper} {a : Act} {w : World} {K : Act → World → Prop} {Q : Exit → Act → World → Prop} (t : TypeId) (x : Operand) (ho : op.op = .buildSlice t 1 #[(0, x)]) (p v : Value) (hx : a.eval x = p) (w' : World) (hl : (Instr.buildSlice t 1 #[(0, p)]).run P w = .ok v w')
    (h : K (a.put op.dst v) w') : op.wp P a w K Q := by
  unfold Oper.wp execOp
  simp only [ho, List.map_toArray, List.map_cons, List.map_nil, hx]
  simp [hl]
  exact h
end
namespace Lo
open Kc Vm
theorem infoW : ∃ i, Tryz.prog.info? 36 = some i ∧ i.zero = some (.int .u64 0) ∧ i.size = 1 ∧ i.bytes = 8 := by
  refine ⟨(Tryz.prog.info? 36).get (by kernel_rfl), by kernel_rfl, by kernel_rfl, by kernel_rfl, by kernel_rfl⟩
theorem infoI : ∃ i, Tryz.prog.info? 3 = some i ∧ i.zero = some (.int .i64 0) ∧ i.size = 1 ∧ i.bytes = 8 := by
  refine ⟨(Tryz.prog.info? 3).get (by kernel_rfl), by kernel_rfl, by kernel_rfl, by kernel_rfl, by kernel_rfl⟩
theorem undWs : Tryz.prog.underlying 22 = some (.slice 36) := by kernel_rfl
theorem undIs : Tryz.prog.underlying 65 = some (.slice 3) := by kernel_rfl
theorem buildW (x : Int) (w : World) : (Instr.buildSlice 22 1 #[(0, .int .u64 x)]).run Tryz.prog w = .ok (.slice (some ⟨w.heap.size, 0, none⟩) 1 1) (w.alloc (.cells #[.int .u64 x] 36)) := by kernel_rfl
theorem buildI (x : Int) (w : World) : (Instr.buildSlice 65 1 #[(0, .int .i64 x)]).run Tryz.prog w = .ok (.slice (some ⟨w.heap.size, 0, none⟩) 1 1) (w.alloc (.cells #[.int .i64 x] 3)) := by kernel_rfl
theorem kept_d (w : World) : Kept (fun _ => False) w w.drew := (Kept.refl _ w).drew
theorem tab_kept {w w' : World} {q T n : Nat} {g : Nat → Value} {S : Nat → Prop} (h : IsTab w q T n g) (hk : Kept S w w') (hn : ¬ S q) : IsTab w' q T n g := (hk.block _ h.lt hn).trans h
theorem row_slice {w : World} {base size n : Nat} {e : TypeId} {v : Value} {xs : List Value} (h : w.ownsRow base e size v n xs) : ∃ a c, v = .slice a n c := by
  rcases ownsRow_forms h with ⟨rfl, rfl⟩ | ⟨g, c, rfl, _⟩
  · exact ⟨_, _, rfl⟩
  · exact ⟨_, _, rfl⟩
theorem instr_walk (y : World) (op d a b c k : Int) (x : Int) (hx : codeV op d a b c k = .tuple #[.int .u64 x, .nilIface]) :
    Calls Tryz.prog 31 #[.int .i64 op, .int .i64 d, .int .i64 a, .int .i64 b, .int .i64 c, .int .i64 k] y fun e w' => e = .returned (.int .u64 x) ∧ y = w' := by
  have HC := Lib.hid (code_walk y op d a b c k)
  rw [hx] at HC
  clear hx
  go_enter Tryz.func31, Tryz.ntmps31
  go_wp2_with (go_at_call 50; (with_reducible refine HC.out.mono ?_); rintro e w1 ⟨he, rfl⟩; obtain rfl : e = _ := he; clear HC)
  exact bodyPost_ret (v := .int .u64 x) (by simp [results, Tryz.results31, go_sem]) rfl ⟨rfl, rfl⟩
set_option maxHeartbeats 4000000 in
set_option maxRecDepth 100000 in
theorem emit_walk (w : World) (q : Nat) (f : Nat → Value) (V : Value) (n : Nat) (xs : List Value) (op d a b c k : Int) (x : Int) (hT : IsTab w q 72 13 f) (h4 : f 4 = V) (hr : w.ownsRow 0 36 1 V n xs) (hne : ¬ V.ownBlock = some q) (hn : n < 1000) (hc : codeV op d a b c k = .tuple #[.int .u64 x, .nilIface]) :
    Calls Tryz.prog 26 #[.pointer (some ⟨q, 0, none⟩), .int .i64 op, .int .i64 d, .int .i64 a, .int .i64 b, .int .i64 c, .int .i64 k] w fun e w' => e = .returned (.int .i64 n) ∧ ∃ V', IsTab w' q 72 13 (updv f 4 V') ∧ w'.ownsRow 0 36 1 V' (n + 1) (xs ++ [.int .u64 x]) ∧ Kept (fun k => k = q ∨ V.ownBlock = some k) w w' ∧ (∀ k, V'.ownBlock = some k → V.ownBlock = some k ∨ w.heap.size ≤ k) := by
  have k4 := hT.cell 4 (by decide)
  rw [h4] at k4
  have K4 : Hid (w.drew.cell? ⟨q, 4, none⟩ = some V) := Lib.hid ((kept_d w).cell id k4)
  have HT : Hid (IsTab w.drew q 72 13 f ∧ ¬ V.ownBlock = some q) := Lib.hid ⟨hT.drew, hne⟩
  have HR : Hid (w.drew.ownsRow 0 36 1 V n xs) := Lib.hid ((kept_d w).row hr fun _ _ h => h)
  have HD : Hid (Kept (fun _ => False) w w.drew ∧ w.drew.heap.size = w.heap.size) := Lib.hid ⟨kept_d w, rfl⟩
  have HN : Hid (n + 1 ≤ maxLen ∧ (n + 1) * 8 ≤ 140737488355328) := Lib.hid (by unfold maxLen; omega)
  have HI0 := Lib.hid (fun y => instr_walk y op d a b c k x hc)
  have HW : Hid (n < 1000) := Lib.hid hn
  obtain ⟨i0, hi0⟩ := infoW
  have HI := Lib.hid hi0
  clear hT h4 hr hne hn hc k4 hi0
  go_enter Tryz.func26, Tryz.ntmps26
  go_upto_region 1 with (fail)
  refine wp_region_oz (fun y : World => Kept (fun k => V.ownBlock = some k) w.drew y) 16 (.take 0 (.take 1 (.take 2 (.take 3 (.take 4 (.take 5 (.take 6 (.take 7 (.take 8 (.take 9 (.take 10 (.one 11 (.one 12 (.one 13 (.one 14 (.one 15 (.one 16 .done))))))))))))))))) (by kernel_rfl) (by kernel_rfl) (Kept.refl _ _) ?_
  generalize w.drew = y0 at *
  refine oz_tk (some 15) (.pointer (some ⟨q, 0, none⟩)) rfl rfl (by go_simp) (fun _ _ => by simp [execOp, go_sem]) ?_
  simp only [Act.put, pS]
  refine oz_tk (some 16) (.pointer (some ⟨q, 0, none⟩)) rfl rfl (by go_simp) (fun _ _ => by simp [execOp, go_sem]) ?_
  simp only [Act.put, pS]
  refine oz_tk (some 17) (.pointer (some ⟨q, 0, none⟩)) rfl rfl (by go_simp) (fun _ _ => by simp [execOp, go_sem]) ?_
  simp only [Act.put, pS]
  refine oz_tk (some 18) (.pointer (some ⟨q, 4, none⟩)) rfl rfl (by go_simp) (fun _ _ => by simp [execOp, go_sem]) ?_
  simp only [Act.put, pS]
  refine oz_ld (some 19) 22 (.tmp 18) (.pointer (some ⟨q, 4, none⟩)) (V) rfl rfl (by go_simp) rfl rfl (fun y hy => by have h := hy.cell HT.out.2 K4.out; simp [Instr.loadAt, go_sem, h, Tryz.underlying22]) ?_
  simp only [Act.put, pS]
  refine oz_tk (some 20) (.int .i64 op) rfl rfl (by go_simp) (fun _ _ => by simp [execOp, go_sem]) ?_
  simp only [Act.put, pS]
  refine oz_tk (some 21) (.int .i64 d) rfl rfl (by go_simp) (fun _ _ => by simp [execOp, go_sem]) ?_
  simp only [Act.put, pS]
  refine oz_tk (some 22) (.int .i64 a) rfl rfl (by go_simp) (fun _ _ => by simp [execOp, go_sem]) ?_
  simp only [Act.put, pS]
  refine oz_tk (some 23) (.int .i64 b) rfl rfl (by go_simp) (fun _ _ => by simp [execOp, go_sem]) ?_
  simp only [Act.put, pS]
  refine oz_tk (some 24) (.int .i64 c) rfl rfl (by go_simp) (fun _ _ => by simp [execOp, go_sem]) ?_
  simp only [Act.put, pS]
  refine oz_tk (some 25) (.int .i64 k) rfl rfl (by go_simp) (fun _ _ => by simp [execOp, go_sem]) ?_
  simp only [Act.put, pS]
  refine oz_f rfl (by go_simp) fun K hK => ?_
  go_simp
  refine (HI0.out _).mono ?_
  rintro e w1 ⟨he, rfl⟩
  obtain rfl : e = _ := he
  refine hK _ _ (Kept.refl _ _) ?_
  clear hK K
  refine oz_f rfl (by go_simp) fun K hK => ?_
  refine wp_build1l 22 (.tmp 26) rfl (.int .u64 x) (.slice (some ⟨y0.heap.size, 0, none⟩) 1 1) rfl (y0.alloc (.cells #[.int .u64 x] 36)) (buildW x y0) ?_
  have HA : Hid (Kept (fun k => V.ownBlock = some k) y0 (y0.alloc (.cells #[.int .u64 x] 36)) ∧ (y0.alloc (.cells #[.int .u64 x] 36)).heap.size = y0.heap.size + 1) := Lib.hid ⟨(Kept.refl _ _).alloc _, by simp⟩
  have HR6 : Hid ((y0.alloc (.cells #[.int .u64 x] 36)).ownsRow 0 36 1 V n xs) := Lib.hid (((Kept.refl (fun _ => False) y0).alloc _).row HR.out fun _ _ h => h)
  refine hK _ _ HA.out.1 ?_
  clear hK K
  simp only [Act.put, pS]
  refine oz_f rfl (by go_simp) fun K hK => ?_
  refine wp_append_any (.tmp 19) (.tmp 27) 22 rfl 0 36 i0 (.int .u64 0) 1 8 undWs HI.out (by simp [Value.cells]) (by decide) V n xs rfl HR6.out (some ⟨y0.heap.size, 0, none⟩) 1 1 [.int .u64 x] rfl (.inr ⟨_, rfl, rfl, one_at rfl _ _⟩) (by simp [Value.oneCell']) HN.out.1 HN.out.2 (Nat.zero_le _) ?_
  intro V7 y7 hown hgr hat
  obtain ⟨a7, c7, rfl⟩ := row_slice hown
  have HK7 : Hid (Kept (fun k => V.ownBlock = some k) y0 y7) := Lib.hid (HA.out.1.trans ⟨hgr.os, hgr.tape, hgr.output, hgr.size, fun k hk hn => hgr.block k hk (fun e => hn e.symm)⟩ fun _ _ h => h)
  have HT7 : Hid (IsTab y7 q 72 13 f) := Lib.hid (tab_kept HT.out.1 HK7.out HT.out.2)
  have HF : Hid (∀ k, (Value.slice a7 (n + 1) c7).ownBlock = some k → V.ownBlock = some k ∨ w.heap.size ≤ k) := Lib.hid (fun k e => (hat k e).imp id fun e => by have := HA.out.2; have := HD.out.2; omega)
  have HO7 := Lib.hid hown
  clear hown hgr hat
  refine hK _ _ HK7.out ?_
  clear hK K
  simp only [Act.put, pS]
  refine oz_f rfl (by go_simp) fun K hK => ?_
  go_simp
  refine hK _ _ HK7.out ?_
  clear hK K
  refine oz_f rfl (by go_simp) fun K hK => ?_
  go_simp
  refine hK _ _ HK7.out ?_
  clear hK K
  have kd := HT7.out.cell 4 (by decide)
  have fd := IsTab.fz HT7.out 4
  refine oz_z rfl (by go_simp) fun K hK => ?_
  go_simp
  refine hK _ _ ?_
  clear hK K kd fd
  refine oz_done (NoPanic.normal ?_)
  have hq : ¬ (Value.slice a7 (n + 1) c7).ownBlock = some q := fun e => by
    rcases HF.out q e with h | h
    · exact HT.out.2 h
    · have := HT.out.1.lt; have := HD.out.2; omega
  have hs : Kept (fun k => k = q) y7 (y7.setCell ⟨q, 4, none⟩ (.slice a7 (n + 1) c7)) := (Kept.refl (fun k => k = q) y7).setCell (p := ⟨q, 4, none⟩) (.inl rfl) _
  have H8 : Hid (IsTab (y7.setCell ⟨q, 4, none⟩ (.slice a7 (n + 1) c7)) q 72 13 (updv f 4 (.slice a7 (n + 1) c7)) ∧ (y7.setCell ⟨q, 4, none⟩ (.slice a7 (n + 1) c7)).ownsRow 0 36 1 (.slice a7 (n + 1) c7) (n + 1) (xs ++ [.int .u64 x]) ∧ Kept (fun k => k = q ∨ V.ownBlock = some k) w (y7.setCell ⟨q, 4, none⟩ (.slice a7 (n + 1) c7))) :=
    Lib.hid ⟨HT7.out.set 4 _, hs.row HO7.out fun k e hk => hq (by rw [← hk]; exact e), ((HD.out.1.mono (T := fun k => k = q ∨ V.ownBlock = some k) fun _ _ h => h.elim).trans HK7.out fun k _ h => .inr h).trans hs fun k _ h => .inl h⟩
  clear hq hs HT7 HO7 HA HR6
  generalize (y7.setCell ⟨q, 4, none⟩ (.slice a7 (n + 1) c7)) = y8 at *
  have k8 := H8.out.1.cell 4 (by decide)
  simp only [updv, if_true] at k8
  have hw : wrap64 (n : Int) = (n : Int) := by have := HW.out; unfold wrap64; omega
  go_wp2_with (fail)
  exact bodyPost_ret (v := .int .i64 n) (by simp [results, Tryz.results26, go_sem, hw]) rfl ⟨rfl, _, H8.out.1, H8.out.2.1, H8.out.2.2, HF.out⟩
end Lo
end Go.Proofs.YtbenjgncbpafbaaGreatDoor
namespace Go.Proofs.YtbenjgncbpafbaaGreatDoor
open Go.RowKit
set_option linter.unusedVariables false
set_option linter.unusedSimpArgs false
namespace Lo
open Kc Vm
/-- A compiler in memory: its cells, its words. -/
structure Cm (w : World) (q : Nat) (f : Nat → Value) (n : Nat) (xs : List Value) : Prop where
  t : IsTab w q 72 13 f
  r : w.ownsRow 0 36 1 (f 4) n xs
  ne : ¬ (f 4).ownBlock = some q
/-- More words, and nothing else. -/
structure Em (w w' : World) (q : Nat) (f : Nat → Value) (V' : Value) (n : Nat) (xs : List Value) : Prop where
  c : Cm w' q (updv f 4 V') n xs
  kp : Kept (fun k => k = q ∨ (f 4).ownBlock = some k) w w'
  nw : ∀ k, V'.ownBlock = some k → (f 4).ownBlock = some k ∨ w.heap.size ≤ k
section
variable {w w' w'' : World} {q : Nat} {f : Nat → Value} {n m : Nat} {xs ys : List Value} {V V' : Value}
theorem updv_same (f : Nat → Value) (i : Nat) (x : Value) : updv f i x i = x := by simp [updv]
theorem updv_two (f : Nat → Value) (i : Nat) (x y : Value) : updv (updv f i x) i y = updv f i y := by
  funext j; unfold updv; split <;> rfl
theorem Cm.kept {S : Nat → Prop} (h : Cm w q f n xs) (hk : Kept S w w') (hq : ¬ S q) (hv : ∀ k, (f 4).ownBlock = some k → ¬ S k) : Cm w' q f n xs := ⟨tab_kept h.t hk hq, hk.row h.r hv, h.ne⟩
theorem Cm.next (h : Cm w q f n xs) (hk : Kept (fun _ => False) w w') : Cm w' q f n xs := h.kept hk id fun _ _ => id
theorem Em.pre (hk : Kept (fun _ => False) w w') (h : Em w' w'' q f V n xs) : Em w w'' q f V n xs :=
  ⟨h.c, (hk.mono (T := fun k => k = q ∨ (f 4).ownBlock = some k) fun _ _ e => e.elim).trans h.kp fun _ _ e => e, fun k e => (h.nw k e).imp id fun e => Nat.le_trans hk.size e⟩
theorem Em.post (h : Em w w' q f V n xs) (hk : Kept (fun _ => False) w' w'') : Em w w'' q f V n xs :=
  ⟨h.c.next hk, h.kp.trans hk fun _ _ e => e.elim, h.nw⟩
theorem Em.trans (hq : q < w.heap.size) (h : Em w w' q f V n xs) (k : Em w' w'' q (updv f 4 V) V' m ys) : Em w w'' q f V' m ys := by
  have e4 := updv_same f 4 V
  refine ⟨by have := k.c; rwa [updv_two] at this, h.kp.trans k.kp fun i hi e => ?_, fun i e => ?_⟩
  · rcases e with e | e
    · exact .inl e
    · rw [e4] at e
      rcases h.nw i e with e | e
      · exact .inr e
      · omega
  · rcases k.nw i e with e | e
    · rw [e4] at e; exact h.nw i e
    · exact .inr (Nat.le_trans h.kp.size e)
end
theorem emit_em (w : World) (q : Nat) (f : Nat → Value) (n : Nat) (xs : List Value) (op d a b c k : Int) (x : Int) (h : Cm w q f n xs) (hn : n < 1000) (hc : codeV op d a b c k = .tuple #[.int .u64 x, .nilIface]) :
    Calls Tryz.prog 26 #[.pointer (some ⟨q, 0, none⟩), .int .i64 op, .int .i64 d, .int .i64 a, .int .i64 b, .int .i64 c, .int .i64 k] w fun e w' => e = .returned (.int .i64 n) ∧ ∃ V', Em w w' q f V' (n + 1) (xs ++ [.int .u64 x]) := by
  refine (emit_walk w q f _ n xs op d a b c k x h.t rfl h.r h.ne hn hc).mono ?_
  rintro e w' ⟨rfl, V', hT, hR, hK, hN⟩
  refine ⟨rfl, V', ⟨⟨hT, by rw [updv_same]; exact hR, ?_⟩, hK, hN⟩⟩
  rw [updv_same]
  intro e
  rcases hN q e with e | e
  · exact h.ne e
  · have := h.t.lt; omega
theorem cV0 : codeV 26 15 0 0 0 6144 = .tuple #[.int .u64 1941051439396689920, .nilIface] := by
  unfold codeV
  rw [if_pos (by decide)]
  rfl
theorem cV1 : codeV 26 1 0 0 0 (-1) = .tuple #[.int .u64 1878001048908464127, .nilIface] := by
  unfold codeV
  rw [if_pos (by decide)]
  rfl
theorem cV2 : codeV 0 0 1 0 0 0 = .tuple #[.int .u64 281474976710656, .nilIface] := by
  unfold codeV
  rw [if_pos (by decide)]
  rfl
set_option maxHeartbeats 1000000 in
set_option maxRecDepth 100000 in
theorem constant_walk (w : World) (q : Nat) (f : Nat → Value) (n : Nat) (xs : List Value) (h : Cm w q f n xs) (hn : n < 1000) :
    Calls Tryz.prog 90 #[.pointer (some ⟨q, 0, none⟩), .int .i64 1, .int .u64 18446744073709551615] w fun e w' => e = .returned (.tuple #[]) ∧ ∃ V', Em w w' q f V' (n + 1) (xs ++ [.int .u64 1878001048908464127]) := by
  have HE := Lib.hid (emit_em w q f n xs 26 1 0 0 0 (-1) _ h hn cV1)
  clear h hn
  have hw : wrap64 18446744073709551615 = -1 := by unfold wrap64; omega
  go_enter Tryz.func90, Tryz.ntmps90
  go_wp2_with (go_at_call 26; (with_reducible refine HE.out.mono ?_); rintro e w1 ⟨he, H1⟩; obtain rfl : e = _ := he; have H1 := Lib.hid H1; clear HE)
  exact bodyPost_ret (v := .tuple #[]) (by simp [results, Tryz.results90, go_sem]) rfl ⟨rfl, H1.out⟩
set_option maxHeartbeats 1000000 in
set_option maxRecDepth 100000 in
theorem value_walk (w : World) (q : Nat) (f : Nat → Value) (n : Nat) (xs : List Value) (a : Option Addr) (m c : Nat) (h : Cm w q f n xs) (hn : n < 1000) :
    Calls Tryz.prog 80 #[.pointer (some ⟨q, 0, none⟩), .agg #[.int .i64 26, .int .u64 18446744073709551615, .slice a m c], .int .i64 1] w fun e w' => e = .returned (.tuple #[]) ∧ ∃ V', Em w w' q f V' (n + 1) (xs ++ [.int .u64 1878001048908464127]) := by
  have HB := Lib.hid (Ir.Bx.new w (.int .i64 26) (.int .u64 18446744073709551615) (.slice a m c) 47)
  have HK := Lib.hid ((Kept.refl (fun _ => False) w).alloc (.cells #[.int .i64 26, .int .u64 18446744073709551615, .slice a m c] 47))
  have HC := Lib.hid (constant_walk _ q f n xs (h.next HK.out) hn)
  clear h hn
  go_enter Tryz.func80, Tryz.ntmps80
  go_upto_region 1 with (fail)
  generalize w.alloc (.cells #[.int .i64 26, .int .u64 18446744073709551615, .slice a m c] 47) = y at *
  generalize w.heap.size = p at *
  have k0 := HB.out.c0
  have k1 := HB.out.c1
  go_wp2_with (go_at_call 90; (with_reducible refine HC.out.mono ?_); rintro e w1 ⟨he, H1⟩; obtain rfl : e = _ := he; have H1 := Lib.hid H1; clear HC)
  exact bodyPost_end (v := .tuple #[]) (by simp [results, Tryz.results80, go_sem]) rfl ⟨rfl, H1.out.imp fun _ h => h.pre HK.out⟩
set_option maxHeartbeats 1000000 in
set_option maxRecDepth 100000 in
theorem operand_walk (w : World) (q : Nat) (f : Nat → Value) (n : Nat) (xs : List Value) (a : Option Addr) (m c : Nat) (h : Cm w q f n xs) (hn : n < 1000) :
    Calls Tryz.prog 63 #[.pointer (some ⟨q, 0, none⟩), .agg #[.int .i64 26, .int .u64 18446744073709551615, .slice a m c], .int .i64 1] w fun e w' => e = .returned (.int .i64 1) ∧ ∃ V', Em w w' q f V' (n + 1) (xs ++ [.int .u64 1878001048908464127]) := by
  have HB := Lib.hid (Ir.Bx.new w (.int .i64 26) (.int .u64 18446744073709551615) (.slice a m c) 47)
  have HK := Lib.hid ((Kept.refl (fun _ => False) w).alloc (.cells #[.int .i64 26, .int .u64 18446744073709551615, .slice a m c] 47))
  have HC := Lib.hid (value_walk _ q f n xs a m c (h.next HK.out) hn)
  clear h hn
  go_enter Tryz.func63, Tryz.ntmps63
  go_upto_region 1 with (fail)
  generalize w.alloc (.cells #[.int .i64 26, .int .u64 18446744073709551615, .slice a m c] 47) = y at *
  generalize w.heap.size = p at *
  have k0 := HB.out.c0
  have k1 := HB.out.c1
  have HL := Lib.hid HB.out.load
  go_wp2_with (first
    | ((with_reducible refine wpList_loadE (P := Tryz.prog) (w := y) (ty := 47) (x := .tmp 4) (p := .pointer (some ⟨p, 0, none⟩)) (v := .agg #[.int .i64 26, .int .u64 18446744073709551615, .slice a m c]) ?_ ?_ ?_ HL.out ?_); (· exact rfl); (· exact rfl); (· exact rfl))
    | (go_at_call 80; (with_reducible refine HC.out.mono ?_); rintro e w1 ⟨he, H1⟩; obtain rfl : e = _ := he; have H1 := Lib.hid H1; clear HC))
  exact bodyPost_ret (v := .int .i64 1) (by simp [results, Tryz.results63, go_sem]) rfl ⟨rfl, H1.out.imp fun _ h => h.pre HK.out⟩
end Lo
end Go.Proofs.YtbenjgncbpafbaaGreatDoor
