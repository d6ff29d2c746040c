/- Merged of Lwe Lwf. Own work. -/
import Derived.Test.YtbenjgncbpafbaaGreatDoorP14
import Derived.Maps.RangeRun
namespace Go.Proofs.YtbenjgncbpafbaaGreatDoor
open Go.RowKit
set_option linter.unusedVariables false
set_option linter.unusedSimpArgs false
namespace Lo
open Kc Vm Ir
section
variable {P : Program} {ops : Array Oper} {rest : List Oper} {o : Oper} {a : Act} {w w' : World} {Q : Exit → Act → World → Prop}
theorem wpList_rng (hg : o.guard = none) (t : TypeId) (m : Operand) (hop : o.op = .range t m) (v v' : Value) (hm : a.eval m = v) (hl : (Instr.range t v).run P w = .ok v' w') (h : wpList P ops Q rest (a.put o.dst v') w') : wpList P ops Q (o :: rest) a w :=
  wpList_plain hg fun K' hK' => by
    unfold Oper.wp
    simp [execOp, hop, hm, hl, Result.andThen]
    exact hK' _ _ h
theorem wpList_nxt (hg : o.guard = none) (it : Operand) (hop : o.op = .next it false) (v v' : Value) (hm : a.eval it = v) (hl : (Instr.next v false o.type).run P w = .ok v' w') (h : wpList P ops Q rest (a.put o.dst v') w') : wpList P ops Q (o :: rest) a w :=
  wpList_plain hg fun K' hK' => by
    unfold Oper.wp
    simp [execOp, hop, hm, hl, Result.andThen]
    exact hK' _ _ h
end
theorem undMp : Tryz.prog.underlying 69 = some (.map 3 3) := by kernel_rfl
/-- A pass is made: what plan and patch read of it. -/
structure Rd (y : World) (q z bm : Nat) (pv : Value) (a0 : Option Addr) (c0 : Nat) (wv : Value) (a4 : Option Addr) (c4 c9 : Nat) : Prop where
  t : ∃ g, IsTab y q 72 13 g
  e0 : pv = .slice a0 1 c0
  e4 : wv = .slice a4 3 c4
  k0 : y.cell? ⟨q, 0, none⟩ = some (.slice a0 1 c0)
  k4 : y.cell? ⟨q, 4, none⟩ = some (.slice a4 3 c4)
  k5 : y.cell? ⟨q, 5, none⟩ = some (.slice none 0 0)
  k7 : y.cell? ⟨q, 7, none⟩ = some (.map (some bm))
  k8 : y.cell? ⟨q, 8, none⟩ = some (.slice none 0 0)
  k9 : y.cell? ⟨q, 9, none⟩ = some (.slice (some ⟨z, 0, none⟩) 1 c9)
  kz : y.cell? ⟨z, 0, none⟩ = some (.int .i64 1)
  mp : y.heap[bm]? = some (.map #[] 0)
theorem Rd.kept {y y' : World} {q z bm : Nat} {pv wv : Value} {a0 a4 : Option Addr} {c0 c4 c9 : Nat} {S : Nat → Prop} (h : Rd y q z bm pv a0 c0 wv a4 c4 c9) (hk : Kept S y y') (hn : ∀ k, k < y.heap.size → ¬ S k) : Rd y' q z bm pv a0 c0 wv a4 c4 c9 := by
  obtain ⟨g, ht⟩ := h.t
  have hq := hn _ ht.lt
  exact ⟨⟨g, tab_kept ht hk hq⟩, h.e0, h.e4, hk.cell hq h.k0, hk.cell hq h.k4, hk.cell hq h.k5, hk.cell hq h.k7, hk.cell hq h.k8, hk.cell hq h.k9, hk.cell (hn _ (inHeap h.kz)) h.kz, map_kept h.mp hk (hn _ (Array.getElem?_eq_some_iff.1 h.mp).1)⟩
set_option maxHeartbeats 1000000 in
set_option maxRecDepth 100000 in
theorem patch_walk (w : World) (q z bm : Nat) (pv wv : Value) (a0 a4 : Option Addr) (c0 c4 c9 : Nat) (h : Rd w q z bm pv a0 c0 wv a4 c4 c9) :
    Calls Tryz.prog 18 #[.pointer (some ⟨q, 0, none⟩)] w fun e w' => e = .returned (.tuple #[]) ∧ Kept (fun _ => False) w w' := by
  have H := Lib.hid h
  have HR := Lib.hid (run_range_map w 69 3 3 bm #[] 0 undMp h.mp)
  have HK := Lib.hid ((Kept.refl (fun _ => False) w).alloc (.mapIter (some bm) 0 #[] 0))
  have HX : Hid (∀ ty, (Instr.next (.pointer (some ⟨w.heap.size, 0, none⟩)) false ty).run Tryz.prog (w.alloc (.mapIter (some bm) 0 #[] 0)) = .ok (.tuple #[.bool false]) (w.alloc (.mapIter (some bm) 0 #[] 0))) := Lib.hid (by
    intro ty
    rcases run_next_at (P := Tryz.prog) (w.alloc (.mapIter (some bm) 0 #[] 0)) ty w.heap.size bm 0 0 #[] #[] 0 (heap_alloc_last w _) (map_next h.mp HK.out) (by simp) (Nat.le_refl _) with ⟨_, hh⟩ | ⟨e, he, _⟩
    · exact hh
    · simp [leftOf] at he)
  have k7 := h.k7
  clear h
  go_enter Tryz.func18, Tryz.ntmps18
  go_upto_region 1 with ((with_reducible refine wpList_rng ?_ 69 (.tmp 7) ?_ (.map (some bm)) _ ?_ HR.out ?_); (· exact rfl); (· exact rfl); (· exact rfl); simp only [Act.put, pS])
  generalize hv : w.alloc (.mapIter (some bm) 0 #[] 0) = y at *
  clear k7
  go_loopw [] (fun wr => wr = y) (fun _ => 0)
  case atStart => rfl
  case round =>
    subst hrel
    go_wp2_with ((with_reducible refine wpList_nxt ?_ (.tmp 8) ?_ (.pointer (some ⟨w.heap.size, 0, none⟩)) (.tuple #[.bool false]) ?_ (HX.out _) ?_); (· exact rfl); (· exact rfl); (· exact rfl))
    exact bodyPost_end (v := .tuple #[]) (by simp [results, Tryz.results18, go_sem]) rfl ⟨rfl, HK.out⟩
/-- A layout. -/
def lf (a : Int) (g : Nat) (b : Int) : Nat → Value := fun i => if i = 0 then .int .i64 a else if i = 1 then .slice (some ⟨g, 0, none⟩) 1 1 else .int .i64 b
theorem mkI1 (w : World) : (Instr.makeSlice 65 (.int .i64 1) (.int .i64 1)).run Tryz.prog w = .ok (.slice (some ⟨w.heap.size, 0, none⟩) 1 1) (w.alloc (.cells (tab 1 fun _ => .int .i64 0) 3)) := by kernel_rfl
theorem ixI1 (g : Nat) (w : World) : (Instr.indexAt 65 (.slice (some ⟨g, 0, none⟩) 1 1) (.int .i64 0)).run Tryz.prog w = .ok (.pointer (some ⟨g, 0, none⟩)) w := by kernel_rfl
theorem wpList_mk {P : Program} {ops : Array Oper} {rest : List Oper} {o : Oper} {a : Act} {w w' : World} {Q : Exit → Act → World → Prop} (hg : o.guard = none) (t : TypeId) (x y : Operand) (hop : o.op = .makeSlice t x y) (p p' v' : Value) (hx : a.eval x = p) (hy : a.eval y = p') (hl : (Instr.makeSlice t p p').run P w = .ok v' w') (h : wpList P ops Q rest (a.put o.dst v') w') : wpList P ops Q (o :: rest) a w :=
  wpList_plain hg fun K' hK' => by
    unfold Oper.wp
    simp [execOp, hop, hx, hy, hl, Result.andThen]
    exact hK' _ _ h
set_option maxHeartbeats 4000000 in
set_option maxRecDepth 100000 in
theorem plan_walk (w : World) (q z bm : Nat) (pv wv : Value) (a0 a4 : Option Addr) (c0 c4 c9 : Nat) (h : Rd w q z bm pv a0 c0 wv a4 c4 c9) :
    Calls Tryz.prog 17 #[.pointer (some ⟨q, 0, none⟩)] w fun e w' => (∃ g, e = .returned (.agg #[.int .i64 3, .slice (some ⟨g, 0, none⟩) 1 1, .int .i64 4])) ∧ Kept (fun _ => False) w w' := by
  have H0 := Lib.hid h
  have HK1 := Lib.hid ((Kept.refl (fun _ => False) w).alloc (.cells #[.int .i64 0, .slice none 0 0, .int .i64 0] 67))
  have H1 := Lib.hid (H0.out.kept HK1.out fun _ _ => id)
  have HA := Lib.hid (heap_alloc_last w (.cells #[.int .i64 0, .slice none 0 0, .int .i64 0] 67))
  have hw3 : wrap64 3 = 3 := by unfold wrap64; omega
  clear h
  go_enter Tryz.func17, Tryz.ntmps17
  go_upto_region 1 with (fail)
  generalize w.alloc (.cells #[.int .i64 0, .slice none 0 0, .int .i64 0] 67) = y1 at *
  generalize hqa : w.heap.size = qa at *
  have HQA := Lib.hid hqa
  clear hqa
  have k0 := H1.out.k0
  have k4 := H1.out.k4
  have k5 := H1.out.k5
  go_upto_region 3 with (fail)
  clear k4 k5
  have HM := Lib.hid (mkI1 y1)
  go_upto_region 4 with (first
    | ((with_reducible refine wpList_mk ?_ 65 (.tmp 28) (.tmp 28) ?_ (.int .i64 1) (.int .i64 1) _ ?_ ?_ HM.out ?_); (· exact rfl); (· exact rfl); (· exact rfl); (· exact rfl)))
  have HK3 := Lib.hid (HK1.out.trans (((Kept.refl (fun _ => False) y1).alloc (.cells (tab 1 fun _ => .int .i64 0) 3)).alloc (.cells #[.int .i64 3, .slice (some ⟨y1.heap.size, 0, none⟩) 1 1, .int .i64 3] 67)) fun _ _ e => e)
  have HT3 : Hid (IsTab ((y1.alloc (.cells (tab 1 fun _ => .int .i64 0) 3)).alloc (.cells #[.int .i64 3, .slice (some ⟨y1.heap.size, 0, none⟩) 1 1, .int .i64 3] 67)) (y1.heap.size + 1) 67 3 (lf 3 y1.heap.size 3)) := Lib.hid (by
    have := IsTab.new (y1.alloc (.cells (tab 1 fun _ => .int .i64 0) 3)) 67 3 (lf 3 y1.heap.size 3)
    rwa [show (y1.alloc (.cells (tab 1 fun _ => .int .i64 0) 3)).heap.size = y1.heap.size + 1 from by simp] at this)
  have HG3 : Hid (IsTab ((y1.alloc (.cells (tab 1 fun _ => .int .i64 0) 3)).alloc (.cells #[.int .i64 3, .slice (some ⟨y1.heap.size, 0, none⟩) 1 1, .int .i64 3] 67)) y1.heap.size 3 1 (fun _ => .int .i64 0)) := Lib.hid (tab_kept (IsTab.new y1 3 1 _) ((Kept.refl (fun _ => False) _).alloc _) id)
  have HQ3 : Hid (qa < y1.heap.size ∧ y1.heap.size < y1.heap.size + 1) := Lib.hid ⟨(Array.getElem?_eq_some_iff.1 HA.out).1, by omega⟩
  have HA3 : Hid (((y1.alloc (.cells (tab 1 fun _ => .int .i64 0) 3)).alloc (.cells #[.int .i64 3, .slice (some ⟨y1.heap.size, 0, none⟩) 1 1, .int .i64 3] 67)).heap[qa]? = some (.cells #[.int .i64 0, .slice none 0 0, .int .i64 0] 67 (0, 0))) := Lib.hid (by
    have hk := ((Kept.refl (fun _ => False) y1).alloc (.cells (tab 1 fun _ => .int .i64 0) 3)).alloc (.cells #[.int .i64 3, .slice (some ⟨y1.heap.size, 0, none⟩) 1 1, .int .i64 3] 67)
    rw [hk.block qa HQ3.out.1 id]; exact HA.out)
  clear k0
  generalize ((y1.alloc (.cells (tab 1 fun _ => .int .i64 0) 3)).alloc (.cells #[.int .i64 3, .slice (some ⟨y1.heap.size, 0, none⟩) 1 1, .int .i64 3] 67)) = y3 at *
  generalize hpg : y1.heap.size + 1 = p at *
  generalize hgg : y1.heap.size = g at *
  clear HM HK1 H1 HA hpg hgg
  have H3 := Lib.hid (H0.out.kept HK3.out fun _ _ => id)
  have k1 : y3.cell? ⟨p, 1, none⟩ = some (.slice (some ⟨g, 0, none⟩) 1 1) := HT3.out.cell 1 (by decide)
  have kg := HG3.out.cell 0 (by decide)
  have fg := IsTab.fz HG3.out 0
  go_upto_region 5 with (fail)
  go_loopw [35] (fun t y => (t = .int .i64 0 ∧ y3 = y) ∨ (t = .int .i64 1 ∧ y3.setCell ⟨g, 0, none⟩ (.int .i64 3) = y)) (fun t _ => 1 - (intOf t).toNat)
  case atStart => first | exact .inl ⟨rfl, rfl⟩ | simp
  case round =>
    rcases hrel with ⟨rfl, rfl⟩ | ⟨rfl, rfl⟩
    · go_wp2_with (fail)
      go_roundw
      case rel => first | exact .inr ⟨rfl, rfl⟩ | simp
      case measure => simp [intOf, wrap64]
    · have HK4 : Hid (Kept (fun _ => False) w (y3.setCell ⟨g, 0, none⟩ (.int .i64 3))) := Lib.hid (HK3.out.setCell (p := ⟨g, 0, none⟩) (.inr (by have := HQA.out; have := HQ3.out; show w.heap.size ≤ g; omega)) _)
      have HT4 : Hid (IsTab (y3.setCell ⟨g, 0, none⟩ (.int .i64 3)) p 67 3 (lf 3 g 3)) := Lib.hid (IsTab.keep HT3.out (by have := HQ3.out; omega))
      have HG4 : Hid (IsTab (y3.setCell ⟨g, 0, none⟩ (.int .i64 3)) g 3 1 (fun _ => .int .i64 3)) := Lib.hid ((IsTab.set HG3.out 0 _).cong fun i hi => (by obtain rfl : i = 0 := (by omega); rfl))
      have HA4 : Hid ((y3.setCell ⟨g, 0, none⟩ (.int .i64 3)).heap[qa]? = some (.cells #[.int .i64 0, .slice none 0 0, .int .i64 0] 67 (0, 0))) := Lib.hid (by
        rw [((Kept.refl (fun k => k = g) y3).setCell (p := ⟨g, 0, none⟩) (.inl rfl) (.int .i64 3)).block qa (Array.getElem?_eq_some_iff.1 HA3.out).1 (by have := HQ3.out; omega)]; exact HA3.out)
      clear k1 kg fg
      generalize y3.setCell ⟨g, 0, none⟩ (.int .i64 3) = y4 at *
      have H4 := Lib.hid (H0.out.kept HK4.out fun _ _ => id)
      clear HK3 HT3 HG3 HA3 H3
      have k8 := H4.out.k8
      go_upto_region 10 with (fail)
      clear k8
      go_loopw [49] (fun t y => t = .int .i64 0 ∧ y4 = y) (fun _ _ => 0)
      case atStart => first | exact ⟨rfl, rfl⟩ | simp
      case round =>
        obtain ⟨rfl, rfl⟩ := hrel
        have k9 := H4.out.k9
        go_upto_region 15 with (fail)
        clear k9
        go_loopw [86] (fun t y => (t = .int .i64 0 ∧ y4 = y) ∨ (t = .int .i64 1 ∧ y4.drew.setCell ⟨p, 2, none⟩ (.int .i64 4) = y)) (fun t _ => 1 - (intOf t).toNat)
        case atStart => exact .inl ⟨rfl, rfl⟩
        case round =>
          rcases hrel with ⟨rfl, rfl⟩ | ⟨rfl, rfl⟩
          · have kz := H4.out.kz
            go_upto_region 17 with (fail)
            clear kz
            refine wp_region_oz (fun y : World => Kept (fun _ => False) y4.drew y) 11 (.take 0 (.take 1 (.take 2 (.take 3 (.take 4 (.take 5 (.take 6 (.take 7 (.take 8 (.take 9 (.one 10 (.one 11 .done)))))))))))) (by kernel_rfl) (by kernel_rfl) (Kept.refl _ _) ?_
            have KP0 : Hid (y4.drew.cell? ⟨p, 2, none⟩ = some (.int .i64 3)) := Lib.hid (HT4.out.drew.cell 2 (by decide))
            have KP1 : Hid (y4.drew.cell? ⟨p, 1, none⟩ = some (.slice (some ⟨g, 0, none⟩) 1 1)) := Lib.hid (HT4.out.drew.cell 1 (by decide))
            have KG0 : Hid (y4.drew.cell? ⟨g, 0, none⟩ = some (.int .i64 3)) := Lib.hid (HG4.out.drew.cell 0 (by decide))
            have FP0 : Hid (y4.drew.frozen? ⟨p, 2, none⟩ = false) := Lib.hid (IsTab.fz HT4.out.drew 2)
            have HW4 : Hid (IntKind.i64.wrap 4 = 4) := Lib.hid (by decide)
            generalize hy5 : y4.drew = y5 at *
            have hy5 := Lib.hid hy5
            refine oz_tk (some 91) (.pointer (some ⟨p, 2, none⟩)) rfl rfl (by go_simp) (fun _ _ => by simp [execOp, go_sem]) ?_
            simp only [Act.put, pS]
            refine oz_ld (some 92) 3 (.tmp 91) (.pointer (some ⟨p, 2, none⟩)) (.int .i64 3) rfl rfl (by go_simp) rfl rfl (fun y hy => by have h := hy.cell id KP0.out; simp [Instr.loadAt, go_sem, h, Tryz.underlying3]) ?_
            simp only [Act.put, pS]
            refine oz_tk (some 93) (.pointer (some ⟨p, 1, none⟩)) rfl rfl (by go_simp) (fun _ _ => by simp [execOp, go_sem]) ?_
            simp only [Act.put, pS]
            refine oz_ld (some 94) 65 (.tmp 93) (.pointer (some ⟨p, 1, none⟩)) (.slice (some ⟨g, 0, none⟩) 1 1) rfl rfl (by go_simp) rfl rfl (fun y hy => by have h := hy.cell id KP1.out; simp [Instr.loadAt, go_sem, h, Tryz.underlying65]) ?_
            simp only [Act.put, pS]
            refine oz_tk (some 95) (.int .i64 0) rfl rfl (by go_simp) (fun _ _ => by simp [execOp, go_sem]) ?_
            simp only [Act.put, pS]
            refine oz_tk (some 96) (.pointer (some ⟨g, 0, none⟩)) rfl rfl (by go_simp) (fun y hy => by have := ixI1 g y; simp [execOp, go_sem, this]) ?_
            simp only [Act.put, pS]
            refine oz_ld (some 97) 3 (.tmp 96) (.pointer (some ⟨g, 0, none⟩)) (.int .i64 3) rfl rfl (by go_simp) rfl rfl (fun y hy => by have h := hy.cell id KG0.out; simp [Instr.loadAt, go_sem, h, Tryz.underlying3]) ?_
            simp only [Act.put, pS]
            refine oz_tk (some 98) (.int .i64 1) rfl rfl (by go_simp) (fun _ _ => by simp [execOp, go_sem]) ?_
            simp only [Act.put, pS]
            refine oz_tk (some 99) (.int .i64 4) rfl rfl (by go_simp) (fun y hy => by have := HW4.out; simp [execOp, go_sem, this]) ?_
            simp only [Act.put, pS]
            refine oz_tk (some 100) (.int .i64 4) rfl rfl (by go_simp) (fun _ _ => by simp [execOp, go_sem]) ?_
            simp only [Act.put, pS]
            refine oz_f rfl (by go_simp) fun K hK => ?_
            go_simp
            refine hK _ _ (Kept.refl _ _) ?_
            clear hK K
            have kd := KP0.out
            have fd := FP0.out
            refine oz_z rfl (by go_simp) fun K hK => ?_
            go_simp
            refine hK _ _ ?_
            clear hK K kd fd KP0 KP1 KG0 FP0
            refine oz_done (NoPanic.normal ?_)
            go_wp2_with (fail)
            go_roundw
            case rel => exact .inr ⟨rfl, by rw [hy5.out]⟩
            case measure => simp [intOf, wrap64]
          · have HT5 : Hid (IsTab (y4.drew.setCell ⟨p, 2, none⟩ (.int .i64 4)) p 67 3 (lf 3 g 4)) := Lib.hid ((IsTab.set (HT4.out.drew) 2 _).cong fun i hi => (by
              match i, hi with
              | 0, _ => rfl
              | 1, _ => rfl
              | 2, _ => rfl))
            have HK5 : Hid (Kept (fun _ => False) w (y4.drew.setCell ⟨p, 2, none⟩ (.int .i64 4))) := Lib.hid (HK4.out.drew.setCell (p := ⟨p, 2, none⟩) (.inr (by have := HQA.out; have := HQ3.out; show w.heap.size ≤ p; omega)) _)
            have HA5 : Hid ((y4.drew.setCell ⟨p, 2, none⟩ (.int .i64 4)).heap[qa]? = some (.cells #[.int .i64 0, .slice none 0 0, .int .i64 0] 67 (0, 0))) := Lib.hid (by
              rw [((Kept.refl (fun k => k = p) y4.drew).setCell (p := ⟨p, 2, none⟩) (.inl rfl) (.int .i64 4)).block qa (Array.getElem?_eq_some_iff.1 HA4.out).1 (by have := HQ3.out; omega)]; exact HA4.out)
            generalize y4.drew.setCell ⟨p, 2, none⟩ (.int .i64 4) = y5 at *
            have HL : Hid ((Instr.loadAt 67 (.pointer (some ⟨p, 0, none⟩))).run Tryz.prog y5 = .ok (.agg #[.int .i64 3, .slice (some ⟨g, 0, none⟩) 1 1, .int .i64 4]) y5) := Lib.hid (loadY (o := 0) (HT5.out.cell 0 (by decide)) (HT5.out.cell 1 (by decide)) (HT5.out.cell 2 (by decide)))
            go_wp2_with (first
              | ((with_reducible refine wpList_loadE (P := Tryz.prog) (w := y5) (ty := 67) (x := .tmp 5) (p := .pointer (some ⟨p, 0, none⟩)) (v := .agg #[.int .i64 3, .slice (some ⟨g, 0, none⟩) 1 1, .int .i64 4]) ?_ ?_ ?_ HL.out ?_); (· exact rfl); (· exact rfl); (· exact rfl))
              | ((with_reducible refine wpList_store_row (P := Tryz.prog) (w := y5) ?_ 67 (.tmp 2) (.tmp 103) ?_ qa #[.int .i64 3, .slice (some ⟨g, 0, none⟩) 1 1, .int .i64 4] ?_ ?_ 67 #[.int .i64 0, .slice none 0 0, .int .i64 0] HA5.out infY3 rfl (by simp [Value.oneCell']) ?_); (· exact rfl); (· exact rfl); (· exact rfl); (· exact rfl)))
            have hrow := setRow_heap y5 qa #[.int .i64 0, .slice none 0 0, .int .i64 0] #[.int .i64 3, .slice (some ⟨g, 0, none⟩) 1 1, .int .i64 4] 67 (0, 0) HA5.out
            have hkr : Kept (fun k => k = qa) y5 (y5.setRow qa #[.int .i64 3, .slice (some ⟨g, 0, none⟩) 1 1, .int .i64 4]) := ⟨by simp, by simp, by simp, by simp, fun k hk hn => setRow_other y5 qa k _ hn⟩
            exact bodyPost_ret (results_cell_row rfl _ _ qa 67 _ (0, 0) _ rfl hrow undY rfl infY) rfl ⟨⟨g, rfl⟩, HK5.out.trans hkr fun k hk e => by have := HQA.out; omega⟩
end Lo
end Go.Proofs.YtbenjgncbpafbaaGreatDoor
namespace Go.Proofs.YtbenjgncbpafbaaGreatDoor
open Go.RowKit
set_option linter.unusedVariables false
set_option linter.unusedSimpArgs false
namespace Ir
open Kc
theorem slSn {w : World} {D : Nat → Prop} {a : Option Addr} {n c b o : Nat} {x : Sf} (h : SlS w D (.slice a n c) x) (hc : w.cell? ⟨b, o, none⟩ = some (.slice a n c)) : ∃ a c, w.cell? ⟨b, o, none⟩ = some (.slice a x.len c) ∧ x.len < 1099511627776 ∧ (x = .nil ∨ ∃ b' o', a = some ⟨b', o', none⟩ ∧ SfAt w D x b' o') := by
  obtain ⟨a', c', e, hl, h⟩ := h
  injection e with e1 e2 e3
  subst e1; subst e2; subst e3
  exact ⟨_, _, hc, hl, h⟩
theorem slEn {w : World} {D : Nat → Prop} : SlE w D (.slice none 0 0) .nil := ⟨none, 0, rfl, by decide, .inl rfl⟩
theorem slS0 {w : World} {D : Nat → Prop} : SlS w D (.slice none 0 0) .nil := ⟨none, 0, rfl, by decide, .inl rfl⟩
theorem sx1 {y : World} {D : Nat → Prop} {kind0 n0 ao0 bo0 : Int} {an0 bn0 nA0 cA0 nB0 cB0 nC0 cC0 nD0 cD0 : Nat} {aA0 aB0 aC0 aD0 : Option Addr} {ak0 bk0 : Ef} {body0 els0 : Sf} (hd : D y.heap.size) (hA0 : SlE y D (.slice aA0 nA0 cA0) ak0) (hB0 : SlE y D (.slice aB0 nB0 cB0) bk0) (hC0 : SlS y D (.slice aC0 nC0 cC0) body0) (hD0 : SlS y D (.slice aD0 nD0 cD0) els0) (han0 : an0 < 18446744073709551616) (hbn0 : bn0 < 18446744073709551616) :
    SlS (y.alloc (.cells #[.int .i64 kind0, .int .i64 n0, .int .i64 ao0, .int .u64 an0, .slice aA0 nA0 cA0, .int .i64 bo0, .int .u64 bn0, .slice aB0 nB0 cB0, .slice aC0 nC0 cC0, .slice aD0 nD0 cD0] 50)) D (.slice (some ⟨y.heap.size, 0, none⟩) 1 1) (.cons kind0 n0 ao0 an0 ak0 bo0 bn0 bk0 body0 els0 .nil) := by
  have hk := kept_alloc9 y (.cells #[.int .i64 kind0, .int .i64 n0, .int .i64 ao0, .int .u64 an0, .slice aA0 nA0 cA0, .int .i64 bo0, .int .u64 bn0, .slice aB0 nB0 cB0, .slice aC0 nC0 cC0, .slice aD0 nD0 cD0] 50)
  exact ⟨_, 1, rfl, by simp [Sf.len], .inr ⟨y.heap.size, 0, rfl, ⟨hd, han0, hbn0, xc 0 _ rfl, xc 1 _ rfl, xc 2 _ rfl, xc 3 _ rfl, ⟨_, xc 4 _ rfl, hA0.kept hk fun _ _ => id⟩, xc 5 _ rfl, xc 6 _ rfl, ⟨_, xc 7 _ rfl, hB0.kept hk fun _ _ => id⟩, slSn (hC0.kept hk fun _ _ => id) (xc 8 _ rfl), slSn (hD0.kept hk fun _ _ => id) (xc 9 _ rfl), trivial⟩⟩⟩
theorem buildS1 (l0_0 l0_1 l0_2 l0_3 l0_4 l0_5 l0_6 l0_7 l0_8 l0_9 : Value) (w : World) : (Instr.buildSlice 48 1 #[(0, .agg #[l0_0, l0_1, l0_2, l0_3, l0_4, l0_5, l0_6, l0_7, l0_8, l0_9])]).run Tryz.prog w = .ok (.slice (some ⟨w.heap.size, 0, none⟩) 1 1) (w.alloc (.cells #[l0_0, l0_1, l0_2, l0_3, l0_4, l0_5, l0_6, l0_7, l0_8, l0_9] 50)) := by kernel_rfl
theorem buildF1 (l0 l1 l2 : Value) (w : World) : (Instr.buildSlice 53 1 #[(0, .agg #[l0, l1, l2])]).run Tryz.prog w = .ok (.slice (some ⟨w.heap.size, 0, none⟩) 1 1) (w.alloc (.cells #[l0, l1, l2] 52)) := by kernel_rfl
theorem fx1 {y : World} {p l : Int} {a : Option Addr} {n c : Nat} {x : Sf} (h : SlS y (fun _ => True) (.slice a n c) x) : SlP (y.alloc (.cells #[.int .i64 p, .int .i64 l, .slice a n c] 52)) (fun _ => True) (.slice (some ⟨y.heap.size, 0, none⟩) 1 1) [⟨p, l, x⟩] := by
  have hk := kept_alloc9 y (.cells #[.int .i64 p, .int .i64 l, .slice a n c] 52)
  refine ⟨_, 1, rfl, by simp, .inr ⟨y.heap.size, 0, rfl, fun i fn hi => ?_⟩⟩
  match i, hi with
  | 0, hi => cases hi; exact ⟨trivial, xc 0 _ rfl, xc 1 _ rfl, _, xc 2 _ rfl, h.kept hk fun _ _ => id⟩
  | i + 1, hi => simp at hi
/-- Blocks that are read are there. -/
theorem EfAt.lt {w : World} : ∀ (x : Ef) (b o : Nat), EfAt w (fun _ => True) x b o → EfAt w (fun k => k < w.heap.size) x b o
  | .nil, _, _, _ => trivial
  | .cons op n kids rest, b, o, h => by
    obtain ⟨h1, h2, h3, h4, ⟨a, c, h5, hl, h6⟩, h7⟩ := h
    refine ⟨inHeap h3, h2, h3, h4, ⟨a, c, h5, hl, ?_⟩, EfAt.lt rest b (o + 3) h7⟩
    rcases h6 with h6 | ⟨b', o', e, h6⟩
    · exact .inl h6
    · exact .inr ⟨b', o', e, EfAt.lt kids b' o' h6⟩
theorem SlE.lt {w : World} {V : Value} {x : Ef} (h : SlE w (fun _ => True) V x) : SlE w (fun k => k < w.heap.size) V x := by
  obtain ⟨a, c, rfl, hl, h⟩ := h
  refine ⟨a, c, rfl, hl, ?_⟩
  rcases h with h | ⟨b, o, e, h⟩
  · exact .inl h
  · exact .inr ⟨b, o, e, EfAt.lt x b o h⟩
theorem SfAt.lt {w : World} : ∀ (x : Sf) (b o : Nat), SfAt w (fun _ => True) x b o → SfAt w (fun k => k < w.heap.size) x b o
  | .nil, _, _, _ => trivial
  | .cons kind n ao an ak bo bn bk body els rest, b, o, h => by
    obtain ⟨h1, h2, h3, h4, h5, h6, h7, ⟨V, h8, h9⟩, h10, h11, ⟨U, h12, h13⟩, ⟨a, c, h14, hl, h15⟩, ⟨a', c', h16, hl', h17⟩, h18⟩ := h
    refine ⟨inHeap h4, h2, h3, h4, h5, h6, h7, ⟨V, h8, h9.lt⟩, h10, h11, ⟨U, h12, h13.lt⟩, ⟨a, c, h14, hl, ?_⟩, ⟨a', c', h16, hl', ?_⟩, SfAt.lt rest b (o + 10) h18⟩
    · rcases h15 with h | ⟨b', o', e, h⟩
      · exact .inl h
      · exact .inr ⟨b', o', e, SfAt.lt body b' o' h⟩
    · rcases h17 with h | ⟨b', o', e, h⟩
      · exact .inl h
      · exact .inr ⟨b', o', e, SfAt.lt els b' o' h⟩
theorem SlP.lt {w : World} {V : Value} {p : List Fn} (h : SlP w (fun _ => True) V p) : SlP w (fun k => k < w.heap.size) V p := by
  obtain ⟨a, c, rfl, hl, h⟩ := h
  refine ⟨a, c, rfl, hl, ?_⟩
  rcases h with h | ⟨b, o, e, h⟩
  · exact .inl h
  · refine .inr ⟨b, o, e, fun i fn hi => ?_⟩
    obtain ⟨h1, h2, h3, U, h4, a', c', e', hl', h5⟩ := h i fn hi
    refine ⟨inHeap h2, h2, h3, U, h4, a', c', e', hl', ?_⟩
    rcases h5 with h | ⟨b', o', e, h⟩
    · exact .inl h
    · exact .inr ⟨b', o', e, SfAt.lt _ b' o' h⟩
end Ir
namespace Lo
open Kc Vm Ir
theorem row_one {w : World} {e : Nat} {V x : Value} (h : w.ownsRow 0 e 1 V 1 [x]) : ∃ g c, V = .slice (some ⟨g, 0, none⟩) 1 c ∧ w.cell? ⟨g, 0, none⟩ = some x := by
  rcases h.2 with ⟨_, h0⟩ | ⟨g, cap, cur, rfl, hb, hg, hn, hc⟩
  · cases h0
  · refine ⟨g, cap, rfl, ?_⟩
    have := World.ownsRow.cells h (g := g) rfl 0 x rfl
    simpa [Addr.add] using this
theorem row_three {w : World} {e : Nat} {V x y z : Value} (h : w.ownsRow 0 e 1 V 3 [x, y, z]) : ∃ g c, V = .slice (some ⟨g, 0, none⟩) 3 c ∧ w.cell? ⟨g, 0, none⟩ = some x ∧ w.cell? ⟨g, 1, none⟩ = some y ∧ w.cell? ⟨g, 2, none⟩ = some z := by
  rcases h.2 with ⟨_, h0⟩ | ⟨g, cap, cur, rfl, hb, hg, hn, hc⟩
  · cases h0
  · refine ⟨g, cap, rfl, ?_, ?_, ?_⟩
    · have := World.ownsRow.cells h (g := g) rfl 0 x rfl
      simpa [Addr.add] using this
    · have := World.ownsRow.cells h (g := g) rfl 1 y rfl
      simpa [Addr.add] using this
    · have := World.ownsRow.cells h (g := g) rfl 2 z rfl
      simpa [Addr.add] using this
theorem rd_of {W y : World} {q bm b o pc fn fc : Nat} {l0 l2 : Int} {fa : Option Addr} {V S Z : Value} {ws : List Value} (h : Cb W y q (updv (updv (updv (cf (.slice (some ⟨b, o, none⟩) 1 pc) (.int .i64 l0) (.slice fa fn fc) (.int .i64 l2) bm) 4 V) 6 S) 9 Z) 3 ws) (hz : y.ownsRow 0 3 1 Z 1 [.int .i64 1]) (hm : y.heap[bm]? = some (.map #[] 0)) :
    ∃ z a4 c4 c9, V = .slice a4 3 c4 ∧ Rd y q z bm (.slice (some ⟨b, o, none⟩) 1 pc) (some ⟨b, o, none⟩) pc V a4 c4 c9 := by
  obtain ⟨z, c9, rfl, kz⟩ := row_one hz
  obtain ⟨a4, c4, rfl⟩ : ∃ a c, V = .slice a 3 c := row_slice h.c.r
  exact ⟨z, a4, c4, c9, rfl, ⟨_, h.c.t⟩, rfl, rfl, h.c.t.cell 0 (by decide), h.c.t.cell 4 (by decide), h.c.t.cell 5 (by decide), h.c.t.cell 7 (by decide), h.c.t.cell 8 (by decide), h.c.t.cell 9 (by decide), kz, hm⟩
theorem right7 : right [⟨0, 0, T7⟩] = true := by decide +kernel
theorem buildIm (a : Option Addr) (n c : Nat) (k : Int) (w : World) : (Instr.build 24 #[(0, .slice a n c), (1, .int .i64 k)]).run Tryz.prog w = .ok (.agg #[.slice a n c, .int .i64 k]) w := by kernel_rfl
theorem undIm : Tryz.prog.underlying 24 = some (.struct (Tryz.prog.fieldsOf 24)) := by kernel_rfl
theorem infIm : (Tryz.prog.info? 24).map (·.size) = some 2 := by kernel_rfl
theorem infIm2 {a b : Value} : (Tryz.prog.info? 24).map (·.size) = some (#[a, b] : Array Value).size := by kernel_rfl
set_option maxHeartbeats 4000000 in
set_option maxRecDepth 100000 in
theorem compile_walk (w : World) (b o pc : Nat) (hp : SlP w (fun _ => True) (.slice (some ⟨b, o, none⟩) 1 pc) [⟨0, 0, T7⟩]) :
    Calls Tryz.prog 10 #[(.slice (some ⟨b, o, none⟩) 1 pc)] w fun e w' => ∃ g c, e = .returned (.tuple #[.agg #[.slice (some ⟨g, 0, none⟩) 3 c, .int .i64 6144], .nilIface]) ∧ w'.cell? ⟨g, 0, none⟩ = some (.int .u64 1941051439396689920) ∧ w'.cell? ⟨g, 1, none⟩ = some (.int .u64 1878001048908464127) ∧ w'.cell? ⟨g, 2, none⟩ = some (.int .u64 281474976710656) ∧ Kept (fun _ => False) w w' := by
  have HK1 := Lib.hid (kept_alloc9 w (.cells #[.slice none 0 0, .int .i64 0] 24))
  have HA1 := Lib.hid (heap_alloc_last w (.cells #[.slice none 0 0, .int .i64 0] 24))
  have HP1 := Lib.hid (hp.kept HK1.out fun _ _ => id)
  clear hp
  go_enter Tryz.func10, Tryz.ntmps10
  go_upto_region 1 with (fail)
  generalize w.alloc (.cells #[.slice none 0 0, .int .i64 0] 24) = y1 at *
  generalize hti : w.heap.size = ti at *
  have HTI := Lib.hid hti
  clear hti
  have HC := Lib.hid (check_walk [⟨0, 0, T7⟩] right7 y1 _ _ HP1.out)
  go_upto_region 4 with (go_at_call 15; (with_reducible refine HC.out.mono ?_); rintro e y2 ⟨he, hk⟩; obtain rfl : e = _ := he; have HK2 := Lib.hid (HK1.out.trans hk fun _ _ e => e); have HP2 := Lib.hid (HP1.out.kept hk fun _ _ => id); have HKA := Lib.hid hk; clear hk HC)
  have HM := Lib.hid (mkI1 y2)
  have hk3 := kept_alloc9 y2 (.cells (tab 1 fun _ => .int .i64 0) 3)
  have HP3 := Lib.hid (HP2.out.kept hk3 fun _ _ => id)
  have HK3 := Lib.hid hk3
  clear hk3
  have HBL : Hid (∀ (g : Nat) (w : World), (Instr.build 67 #[(1, .slice (some ⟨g, 0, none⟩) 1 1)]).run Tryz.prog w = .ok (.agg #[.int .i64 0, .slice (some ⟨g, 0, none⟩) 1 1, .int .i64 0]) w) := Lib.hid (fun g w => by kernel_rfl)
  generalize hy3 : y2.alloc (.cells (tab 1 fun _ => .int .i64 0) 3) = y3 at *
  generalize hg3 : y2.heap.size = g3 at *
  clear hy3 hg3
  have HC := Lib.hid (pass_walk y3 b o pc HP3.out.lt 0 0 (some ⟨g3, 0, none⟩) 1 1)
  go_upto_region 5 with (first
    | ((with_reducible refine wpList_mk ?_ 65 (.tmp 16) (.tmp 16) ?_ (.int .i64 1) (.int .i64 1) _ ?_ ?_ HM.out ?_); (· exact rfl); (· exact rfl); (· exact rfl); (· exact rfl))
    | (go_at_call 16; (with_reducible refine HC.out.mono ?_); rintro e y4 ⟨q, V, S, Z, bm, he, hcb, hz, hm, _⟩; obtain rfl : e = _ := he; have HC4 := Lib.hid hcb.kp; obtain ⟨z, a4, c4, c9, hv, hrd⟩ := rd_of hcb hz hm; have HRD := Lib.hid hrd; have HP4 := Lib.hid (HP3.out.kept hcb.kp fun _ _ => id); clear hcb hz hm hv hrd HC))
  have HC := Lib.hid (plan_walk y4 _ _ _ _ _ _ _ _ _ _ HRD.out)
  go_upto_region 6 with (first
    | (go_at_call 17; (with_reducible refine HC.out.mono ?_); rintro e y5 ⟨⟨g5, he⟩, hk⟩; obtain rfl : e = _ := he; have HK5 := Lib.hid hk; have HP5 := Lib.hid (HP4.out.kept hk fun _ _ => id); clear hk HC)
    | ((with_reducible refine wpList_store_row (P := Tryz.prog) ?_ 67 (.tmp 6) (.tmp 21) ?_ _ #[.int .i64 3, .slice (some ⟨g5, 0, none⟩) 1 1, .int .i64 4] ?_ ?_ 67 #[.int .i64 0, .slice none 0 0, .int .i64 0] (heap_alloc_last y5 _) infY3 rfl (by simp [Value.oneCell']) ?_); (· exact rfl); (· exact rfl); (· exact rfl); (· exact rfl); rw [World.setRow_alloc_new]; simp only [Act.put]))
  have hk6 := kept_alloc9 y5 (.cells #[.int .i64 3, .slice (some ⟨g5, 0, none⟩) 1 1, .int .i64 4] 67)
  have HB6 := Lib.hid (Bx.new y5 (.int .i64 3) (.slice (some ⟨g5, 0, none⟩) 1 1) (.int .i64 4) 67)
  have HP6 := Lib.hid (HP5.out.kept hk6 fun _ _ => id)
  have HK6 := Lib.hid ((((HK2.out.trans HK3.out fun _ _ e => e).trans HC4.out fun _ _ e => e).trans HK5.out fun _ _ e => e).trans hk6 fun _ _ e => e)
  have HKB := Lib.hid ((((HKA.out.trans HK3.out fun _ _ e => e).trans HC4.out fun _ _ e => e).trans HK5.out fun _ _ e => e).trans hk6 fun _ _ e => e)
  clear hk6 HK2 HK3 HC4 HK5 HP5 HP4 HP3 HP2 HKA HM HBL HRD
  generalize y5.alloc (.cells #[.int .i64 3, .slice (some ⟨g5, 0, none⟩) 1 1, .int .i64 4] 67) = y6 at *
  generalize y5.heap.size = g6 at *
  have k2 := HB6.out.c2
  have HL : Hid ((Instr.loadAt 67 (.pointer (some ⟨g6, 0, none⟩))).run Tryz.prog y6 = .ok (.agg #[.int .i64 3, .slice (some ⟨g5, 0, none⟩) 1 1, .int .i64 4]) y6) := Lib.hid (loadY (o := 0) HB6.out.c0 HB6.out.c1 HB6.out.c2)
  go_upto_region 8 with (fail)
  clear k2
  have HC := Lib.hid (pass_walk y6 b o pc HP6.out.lt 3 4 (some ⟨g5, 0, none⟩) 1 1)
  go_upto_region 9 with (first
    | ((with_reducible refine wpList_loadE (P := Tryz.prog) (w := y6) (ty := 67) (x := .tmp 6) (p := .pointer (some ⟨g6, 0, none⟩)) (v := .agg #[.int .i64 3, .slice (some ⟨g5, 0, none⟩) 1 1, .int .i64 4]) ?_ ?_ ?_ HL.out ?_); (· exact rfl); (· exact rfl); (· exact rfl))
    | (go_at_call 16; (with_reducible refine HC.out.mono ?_); rintro e y7 ⟨q7, V7, S7, Z7, bm7, he, hcb, hz, hm, _⟩; obtain rfl : e = _ := he; have HC7 := Lib.hid hcb; obtain ⟨z7, a7, c7, d7, hv, hrd⟩ := rd_of hcb hz hm; subst hv; have HRD := Lib.hid hrd; clear hcb hz hm hrd HC))
  clear HL HB6
  have HC := Lib.hid (patch_walk y7 _ _ _ _ _ _ _ _ _ _ HRD.out)
  go_upto_region 10 with (go_at_call 18; (with_reducible refine HC.out.mono ?_); rintro e y8 ⟨he, hk⟩; obtain rfl : e = _ := he; have HC8 := Lib.hid (HC7.out.next hk); have HKC := Lib.hid (HC7.out.kp.trans hk fun _ _ e => e); clear hk HC HC7 HRD)
  have HC9 := Lib.hid (HC8.out.next (kept_d y8))
  have K4 : Hid (y8.drew.cell? ⟨q7, 4, none⟩ = some (.slice a7 3 c7)) := Lib.hid (HC9.out.c.t.cell 4 (by decide))
  have K5 : Hid (y8.drew.cell? ⟨q7, 5, none⟩ = some (.slice none 0 0)) := Lib.hid (HC9.out.c.t.cell 5 (by decide))
  have HA9 : Hid (y8.drew.heap[ti]? = some (.cells #[.slice none 0 0, .int .i64 0] 24 (0, 0))) := Lib.hid (by
    have hk := (HKB.out.trans HKC.out fun _ _ e => e).trans (kept_d y8) fun _ _ e => e
    rw [hk.block ti (Array.getElem?_eq_some_iff.1 HA1.out).1 id]; exact HA1.out)
  have HK9 := Lib.hid ((HK6.out.trans HKC.out fun _ _ e => e).trans (kept_d y8) fun _ _ e => e)
  have HR9 : Hid (y8.drew.ownsRow 0 36 1 (.slice a7 3 c7) 3 [.int .u64 1941051439396689920, .int .u64 1878001048908464127, .int .u64 281474976710656]) := Lib.hid HC9.out.c.r
  have HNE : Hid (¬ (Value.slice a7 3 c7).ownBlock = some q7) := Lib.hid HC9.out.c.ne
  have HOW : Hid (∀ k, (Value.slice a7 3 c7).ownBlock = some k → y6.heap.size ≤ k) := Lib.hid HC9.out.o0
  have HSZ := Lib.hid HK6.out.size
  obtain ⟨i0, hi0⟩ := infoW
  have HI := Lib.hid hi0
  clear hi0 HC8 HKC HKB HK6 HA1 HC9
  have HNQ : Hid (¬ (Value.slice a7 3 c7).ownBlock = some q7) := Lib.hid HNE.out
  refine wp_region_oz (fun y : World => Kept (fun k => (Value.slice a7 3 c7).ownBlock = some k) y8.drew y) 10 (.take 0 (.take 1 (.take 2 (.take 3 (.take 4 (.take 5 (.take 6 (.take 7 (.one 8 (.take 9 (.one 10 (.free 11 .done)))))))))))) (by kernel_rfl) (by kernel_rfl) (Kept.refl _ _) ?_
  generalize y8.drew = y9 at *
  refine oz_tk (some 32) (.pointer (some ⟨q7, 0, none⟩)) rfl rfl (by go_simp) (fun _ _ => by simp [execOp, go_sem]) ?_
  simp only [Act.put, pS]
  refine oz_tk (some 33) (.pointer (some ⟨q7, 0, none⟩)) rfl rfl (by go_simp) (fun _ _ => by simp [execOp, go_sem]) ?_
  simp only [Act.put, pS]
  refine oz_tk (some 34) (.pointer (some ⟨q7, 4, none⟩)) rfl rfl (by go_simp) (fun _ _ => by simp [execOp, go_sem]) ?_
  simp only [Act.put, pS]
  refine oz_ld (some 35) 22 (.tmp 34) (.pointer (some ⟨q7, 4, none⟩)) (.slice a7 3 c7) rfl rfl (by go_simp) rfl rfl (fun y hy => by have h := hy.cell HNQ.out K4.out; simp [Instr.loadAt, go_sem, h, Tryz.underlying22]) ?_
  simp only [Act.put, pS]
  refine oz_tk (some 36) (.pointer (some ⟨q7, 0, none⟩)) rfl rfl (by go_simp) (fun _ _ => by simp [execOp, go_sem]) ?_
  simp only [Act.put, pS]
  refine oz_tk (some 37) (.pointer (some ⟨q7, 0, none⟩)) rfl rfl (by go_simp) (fun _ _ => by simp [execOp, go_sem]) ?_
  simp only [Act.put, pS]
  refine oz_tk (some 38) (.pointer (some ⟨q7, 5, none⟩)) rfl rfl (by go_simp) (fun _ _ => by simp [execOp, go_sem]) ?_
  simp only [Act.put, pS]
  refine oz_ld (some 39) 22 (.tmp 38) (.pointer (some ⟨q7, 5, none⟩)) (.slice none 0 0) rfl rfl (by go_simp) rfl rfl (fun y hy => by have h := hy.cell HNQ.out K5.out; simp [Instr.loadAt, go_sem, h, Tryz.underlying22]) ?_
  simp only [Act.put, pS]
  refine oz_f rfl (by go_simp) fun K hK => ?_
  refine wp_append_any (.tmp 35) (.tmp 39) 22 rfl 0 36 i0 (.int .u64 0) 1 8 undWs HI.out (by simp [Value.cells]) (by decide) (.slice a7 3 c7) 3 [.int .u64 1941051439396689920, .int .u64 1878001048908464127, .int .u64 281474976710656] rfl HR9.out none 0 0 [] rfl (.inl ⟨rfl, rfl, rfl, rfl⟩) (by simp) (by decide) (by decide) (Nat.zero_le _) ?_
  intro V9 y10 hown hgr hat
  obtain ⟨a9, c9, rfl⟩ : ∃ a c, V9 = .slice a 3 c := row_slice hown
  have hk : Kept (fun k => (Value.slice a7 3 c7).ownBlock = some k) y9 y10 := ⟨hgr.os, hgr.tape, hgr.output, hgr.size, fun k hk hn => hgr.block k hk (fun e => hn e.symm)⟩
  have HK10 := Lib.hid hk
  have HR10 : Hid (y10.ownsRow 0 36 1 (.slice a9 3 c9) 3 [.int .u64 1941051439396689920, .int .u64 1878001048908464127, .int .u64 281474976710656]) := Lib.hid (by simpa using hown)
  have HA10 : Hid (y10.heap[ti]? = some (.cells #[.slice none 0 0, .int .i64 0] 24 (0, 0))) := Lib.hid (by
    rw [hk.block ti (Array.getElem?_eq_some_iff.1 HA9.out).1 (fun e => by
      have := HR9.out.2
      rcases this with ⟨h, _⟩ | ⟨g, cap, cur, h, hb, hg, _⟩
      · rw [h] at e; cases e
      · rw [h] at e; cases e
        rw [HA9.out] at hg; injection hg with hg; injection hg with _ h1 _; exact absurd h1 (by decide))]; exact HA9.out)
  have HO9 : Hid (∀ k, (Value.slice a9 3 c9).ownBlock = some k → (Value.slice a7 3 c7).ownBlock = some k ∨ k = y9.heap.size) := Lib.hid hat
  clear hown hgr hat hk
  refine hK _ _ HK10.out ?_
  clear hK K
  simp only [Act.put, pS]
  refine oz_tk (some 41) (.agg #[.slice a9 3 c9, .int .i64 6144]) rfl rfl (by go_simp) (fun y hy => by have := buildIm a9 3 c9 6144 y; simp [execOp, go_sem, this]) ?_
  simp only [Act.put, pS]
  refine oz_z rfl (by go_simp) fun K hK => ?_
  refine wp_store_row 24 (.tmp 2) (.tmp 41) rfl ti #[.slice a9 3 c9, .int .i64 6144] rfl rfl 24 #[.slice none 0 0, .int .i64 0] HA10.out infIm2 rfl (by simp [Value.oneCell']) ?_
  refine hK _ _ ?_
  clear hK K
  simp only [Act.put, pS]
  refine oz_fr (some 3) .nilIface rfl rfl (by go_simp) (fun _ => by simp [execOp, go_sem]) ?_
  simp only [Act.put, pS]
  refine oz_done (NoPanic.normal ?_)
  go_wp2_with (fail)
  have hrow := setRow_heap y10 ti #[.slice none 0 0, .int .i64 0] #[.slice a9 3 c9, .int .i64 6144] 24 (0, 0) HA10.out
  have hkr : Kept (fun k => k = ti) y10 (y10.setRow ti #[.slice a9 3 c9, .int .i64 6144]) := ⟨by simp, by simp, by simp, by simp, fun k hk hn => setRow_other y10 ti k _ hn⟩
  have hown := HR10.out
  obtain ⟨g, c, e9, w0, w1, w2⟩ := row_three hown
  have hgt : ¬ g = ti := fun e => by
    subst e
    have hh := HA10.out
    rcases hown.2 with ⟨h, _⟩ | ⟨g', cap, cur, h, hb, hg, _⟩
    · rw [h] at e9; cases e9
    · rw [h] at e9; injection e9 with e9 _ _; injection e9 with e9; injection e9 with e9 _
      rw [e9, hh] at hg; injection hg with hg; injection hg with _ h1 _; exact absurd h1 (by decide)
  rw [e9] at hrow hkr ⊢
  exact bodyPost_ret (Kc.results_cell_tmp rfl _ _ ti 24 _ (0, 0) _ rfl hrow undIm rfl infIm2 .nilIface rfl) rfl ⟨g, ⟨c, rfl⟩, hkr.cell hgt w0, hkr.cell hgt w1, hkr.cell hgt w2, ((HK9.out.trans HK10.out fun k hk e => by have := HOW.out k e; have := HSZ.out; omega).trans hkr fun k hk e => by have := HTI.out; omega)⟩
end Lo
end Go.Proofs.YtbenjgncbpafbaaGreatDoor
