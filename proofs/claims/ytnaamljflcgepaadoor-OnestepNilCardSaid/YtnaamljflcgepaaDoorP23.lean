/- Merged of Cg Fj. Own work. -/
import Derived.Test.YtnaamljflcgepaaDoorP19
import Derived.Test.YtnaamljflcgepaaDoorP21
import Derived.Test.YtnaamljflcgepaaDoorP22
import Derived.Test.YtnaamljflcgepaaDoorP15
namespace Go.Proofs.YtnaamljflcgepaaDoor
open Go.RowKit
set_option linter.unusedVariables false
set_option linter.unusedSimpArgs false
namespace Co
open Kc Mk Vm
end Co
end Go.Proofs.YtnaamljflcgepaaDoor
namespace Go.Proofs.YtnaamljflcgepaaDoor
open Go.RowKit
set_option linter.unusedVariables false
set_option linter.unusedSimpArgs false
namespace Os
open Kc Mk Co
open Vm (Mac IsMac OkM pOk pOp pA pA_lt loaded stopM Pre load_zero step_halt Step_walk lowB_le')
open Wt (New_walk nw)
/-- The empty machine. -/
def Me : Mac := loaded 0 fun _ => 0
/-- The empty machine behind its halt. -/
def Mh : Mac := stopH { Me with pc := Me.pc + 1 } (Me.reg (pA (Me.mem Me.pc)))
theorem ok_Me : OkM Me := ⟨fun i => by show (if i < 0 then 0 else 0) < _; split <;> decide, fun i => by show (0 : Nat) < _; decide, by show (0 : Nat) < _; decide, by show (0 : Nat) < _; decide⟩
theorem ok_Mh : OkM Mh := ⟨ok_Me.mem, ok_Me.reg, by show (1 : Nat) < _; decide, by show (0 : Nat) < _; decide⟩
theorem mem_Me (i : Nat) : Me.mem i = 0 := by show (if i < 0 then 0 else 0) = 0; split <;> rfl
theorem fX_zero : fX (sel 0 0 0 0) = zero 0 := by
  funext i
  unfold fX
  have e : ∀ k, sel 0 0 0 0 k = 0 := fun k => by unfold sel; split <;> rfl
  by_cases h : i < 32
  · rw [if_pos h, e, wb_zero]; rfl
  · rw [if_neg h]; rfl
theorem fX_one : fX (sel 1 1 0 0) = x1G := by
  funext i
  by_cases h : i < 32
  · have := List.all_eq_true.1 (show ((List.range 32).all fun i => fX (sel 1 1 0 0) i == x1G i) = true by decide +kernel) i (List.mem_range.2 h)
    simpa using this
  · unfold fX x1G
    rw [if_neg h, if_neg (by omega)]
theorem root4_zero : rootOf 2 4 (lf4 fun _ => 0) = zero 2 := by
  rw [← rootOf4]
  have e : ext 4 (lf4 fun _ => 0) = fun _ => zero 0 := by
    funext k
    have e2 : lf4 (fun _ => 0) k = zero 0 := by
      unfold lf4
      rw [← fX_zero]
      funext i
      unfold fX
      by_cases h : i < 32
      · rw [if_pos h, if_pos h]
        have e3 : sel 0 0 0 0 (i / 8) = 0 := by unfold sel; split <;> rfl
        rw [e3]
      · rw [if_neg h, if_neg h]
    unfold ext
    split
    · exact e2
    · rfl
  rw [e, und_noughts]
theorem of_Me : ofX Me = pr (zero 13) (pr (zero 2) (zero 0)) := by
  unfold ofX
  rw [root_m0 Me fun i _ => mem_Me i]
  have e : hdX Me = pr (zero 2) (zero 0) := by
    unfold hdX
    rw [show Me.reg = fun _ => 0 from rfl, root4_zero, show Me.pc = 0 from rfl, show Me.exit = 0 from rfl, show Me.halted = false from rfl]
    rw [← fX_zero]
    rfl
  rw [e]
theorem of_Mh : ofX Mh = pr (zero 13) (pr (zero 2) x1G) := by
  unfold ofX
  rw [root_m0 Mh fun i _ => mem_Me i]
  have e : hdX Mh = pr (zero 2) x1G := by
    unfold hdX
    rw [show Mh.reg = fun _ => 0 from rfl, root4_zero, show Mh.pc = 1 from rfl, show Mh.exit = 0 from rfl, show Mh.halted = true from rfl]
    rw [← fX_one]
    rfl
  rw [e]
theorem halts_not : same32 (ofX Mh) (ofX Me) = false := by rw [of_Me, of_Mh]; exact halts_same
theorem loadSt {w : World} {q : Nat} {R : Hx} {M : Mac} {V : Value} {pre : Nat → Bt} (h : IsSt w q R M V pre) : (Instr.loadAt 40 (.pointer (some ⟨q, 0, none⟩))).run Tryd.prog w = .ok (.agg (tab 116 (stv R M V pre))) w := by
  refine run_loadAt_mid w q 0 _ ((List.range 116).map (stv R M V pre)) _ (fun j v hv => ?_) undSt rfl (by rw [List.length_map, List.length_range]; exact (infSt (fun _ => .nilIface)).trans (by rw [tab_size]))
  obtain ⟨hj, rfl⟩ := List.getElem?_eq_some_iff.1 hv
  simp only [List.length_map, List.length_range] at hj
  have := IsTab.cell h j hj
  simpa using this
theorem wpList_neqB {ops : Array Oper} {rest : List Oper} {op : Oper} {a : Act} {w : World} {Q : Exit → Act → World → Prop} (hw : Region.wanted op (yielded ops a.tmps) = true) (x y : Operand) (yt : TypeId) (z1 z2 : Hx) (ho : op.op = .binOp .neq 31 x y yt) (hx : a.eval x = dv z1) (hy : a.eval y = dv z2)
    (h : wpList Tryd.prog ops Q rest (a.put op.dst (.bool (!same32 z1 z2))) w) : wpList Tryd.prog ops Q (op :: rest) a w :=
  wpList_step fun K hK => by
    rw [if_pos hw]
    unfold Oper.wp execOp
    simp only [ho, hx, hy]
    have e : (binOp .neq 31 (dv z1) (dv z2)).run Tryd.prog w = .ok (.bool (!same32 z1 z2)) w := neq32 z1 z2 w
    simp [guardN, e]
    exact hK _ _ h
set_option maxHeartbeats 8000000 in
set_option maxRecDepth 100000 in
theorem fixed15_walk (w : World) (ht : Laid.KTab w) :
    Calls Tryd.prog 6 #[] w fun e w' => e = .returned (.bool true) ∧ Below w.heap.size w w' := by
  have HT := Lib.hid ht
  have HL := Lib.hid (load_zero w none 0 fun _ => 0)
  clear ht
  have z81 := zeroSt
  have hzs : (tab 116 (stv (fun _ => 0#8) Vm.m0 (.slice none 0 0) fun _ => 0#8)).size = 116 := tab_size _ _
  generalize hz : tab 116 (stv (fun _ => 0#8) Vm.m0 (.slice none 0 0) fun _ => 0#8) = zs at *
  have HZS := Lib.hid hzs
  clear hz hzs
  have z2 := zeroHash
  have HBH := Lib.hid (fun u : World => buildH0 u)
  generalize hz : (tab 32 fun _ => bv 0#8) = zh at *
  have HZ := Lib.hid hz
  clear hz
  have HZI : Hid ((Tryd.prog.info? 31).map (·.size) = some zh.size ∧ zh.all (·.oneCell') = true ∧ zh.size = 32) := Lib.hid ⟨by rw [← HZ.out]; exact infH _, by rw [← HZ.out]; exact one_bv _ _, by rw [← HZ.out, tab_size]⟩
  go_enter Tryd.func6, Tryd.ntmps6
  go_upto_region 2 with (go_at_call 4; (with_reducible refine HL.out.mono ?_); rintro e y1 ⟨he, hm, hb⟩; obtain rfl : e = _ := he; have H1 : Hid (IsMac y1 w.heap.size Me ∧ Below w.heap.size w y1) := Lib.hid ⟨hm, hb⟩; clear hm hb HL)
  obtain ⟨b, hb0⟩ : ∃ b, w.heap.size = b := ⟨_, rfl⟩
  have HB0 := Lib.hid hb0
  have H1 : Hid (IsMac y1 b Me ∧ Below w.heap.size w y1) := Lib.hid (hb0 ▸ H1.out)
  rw [hb0]
  clear hb0
  have hT1 := ktab_below HT.out H1.out.2
  have HN1 := Lib.hid (New_walk y1 hT1 (lowB_le' hT1))
  clear hT1
  go_upto_region 5 with (go_at_call 5; (with_reducible refine HN1.out.mono ?_); rintro e y2 ⟨s, T1, k1, f1, he, hst, hb, hF, hTl, hkt⟩; obtain rfl : e = _ := he; have H2 : Hid (IsMac y2 b Me ∧ Below w.heap.size w y2) := Lib.hid ⟨H1.out.1.below hb, bl H1.out.2 hb⟩; clear hst hb hF hTl hkt HN1)
  have HPR := Lib.hid (prove_halt y2 b s Me H2.out.1 ok_Me (ktab_below HT.out H2.out.2) rfl (by show (0 : Nat) < 8192; decide) (by rw [mem_Me]; decide) (by rw [mem_Me]; decide))
  go_upto_region 6 with (first
    | (go_at_call 7; (with_reducible refine HPR.out.mono ?_); rintro e y3 ⟨a, c, he, ⟨B, T, hpf⟩, hb⟩; obtain rfl : e = _ := he; have H3 : Hid (IsMac y3 b Me ∧ Below w.heap.size w y3 ∧ Pf1 y3 (.slice (some ⟨a, 0, none⟩) 1 c) (Me.mem Me.pc) (sib (mg Me) Me.pc) B T) := Lib.hid ⟨H2.out.1.below hb, bl H2.out.2 hb, hpf⟩; clear hpf hb HPR)
    | ((with_reducible refine wpList_store_row (P := Tryd.prog) (w := y3.alloc (.cells zs 40)) ?_ 40 (.tmp 4) (.tmp 30) ?_ y3.heap.size (tab 116 (stv (mroot Me) Me (.slice (some ⟨a, 0, none⟩) 1 c) (fun _ => 0#8))) ?_ ?_ 40 zs (heap_alloc_last y3 _) (infSt _) ?_ (oneSt _ _ _ _ _ _) ?_); (· exact rfl); (· exact rfl); (· exact rfl); (· exact rfl); (· rw [HZS.out, tab_size]); rw [World.setRow_alloc_new]; simp only [Act.put]))
  have H4 : Hid (IsMac (y3.alloc (.cells (tab 116 (stv (mroot Me) Me (.slice (some ⟨a, 0, none⟩) 1 c) (fun _ => 0#8))) 40)) b Me ∧ Below w.heap.size w (y3.alloc (.cells (tab 116 (stv (mroot Me) Me (.slice (some ⟨a, 0, none⟩) 1 c) (fun _ => 0#8))) 40)) ∧ Pf1 (y3.alloc (.cells (tab 116 (stv (mroot Me) Me (.slice (some ⟨a, 0, none⟩) 1 c) (fun _ => 0#8))) 40)) (.slice (some ⟨a, 0, none⟩) 1 c) (Me.mem Me.pc) (sib (mg Me) Me.pc) B T ∧ IsSt (y3.alloc (.cells (tab 116 (stv (mroot Me) Me (.slice (some ⟨a, 0, none⟩) 1 c) (fun _ => 0#8))) 40)) y3.heap.size (mroot Me) Me (.slice (some ⟨a, 0, none⟩) 1 c) (fun _ => 0#8) ∧ b < y3.heap.size) := Lib.hid ⟨H3.out.1.below (ba _ _), bl H3.out.2.1 (ba _ _), H3.out.2.2.kept (S := fun _ => False) (Kept.ofBelow (ba _ _)) (fun k e => e.elim), IsTab.new y3 40 116 _, H3.out.1.lt⟩
  clear H1 H2 H3
  generalize (y3.alloc (.cells (tab 116 (stv (mroot Me) Me (.slice (some ⟨a, 0, none⟩) 1 c) (fun _ => 0#8))) 40)) = y4 at *
  generalize y3.heap.size = q4 at *
  have HOF := Lib.hid (of_ok y4 b Me H4.out.1 ok_Me.mem ⟨ok_Me.reg, ok_Me.pc, ok_Me.exit⟩ (ktab_below HT.out H4.out.2.1))
  go_upto_region 7 with (first
    | (go_at_call 8; (with_reducible refine HOF.out.mono ?_); rintro e y5 ⟨he, hb⟩; obtain rfl : e = _ := he; have HB5 := Lib.hid hb; clear hb HOF)
    | ((with_reducible refine wpList_store_row (P := Tryd.prog) (w := y5.alloc (.cells zh 31)) ?_ 31 (.tmp 5) (.tmp 35) ?_ y5.heap.size (tab 32 fun i => bv (ofX Me i)) ?_ ?_ 31 zh (heap_alloc_last y5 _) (infH _) ?_ (one_bv _ _) ?_); (· exact rfl); (· exact rfl); (· exact rfl); (· exact rfl); (· rw [HZI.out.2.2, tab_size]); rw [World.setRow_alloc_new]; simp only [Act.put]))
  have H6 : Hid (IsMac (y5.alloc (.cells (tab 32 fun i => bv (ofX Me i)) 31)) b Me ∧ Below w.heap.size w (y5.alloc (.cells (tab 32 fun i => bv (ofX Me i)) 31)) ∧ Pf1 (y5.alloc (.cells (tab 32 fun i => bv (ofX Me i)) 31)) (.slice (some ⟨a, 0, none⟩) 1 c) (Me.mem Me.pc) (sib (mg Me) Me.pc) B T ∧ IsSt (y5.alloc (.cells (tab 32 fun i => bv (ofX Me i)) 31)) q4 (mroot Me) Me (.slice (some ⟨a, 0, none⟩) 1 c) (fun _ => 0#8) ∧ (IsTab (y5.alloc (.cells (tab 32 fun i => bv (ofX Me i)) 31)) y5.heap.size 31 32 fun i => bv (ofX Me i)) ∧ b < q4 ∧ b < y5.heap.size) := Lib.hid (by
    have hb : Below y4.heap.size y4 (y5.alloc (.cells (tab 32 fun i => bv (ofX Me i)) 31)) := bl HB5.out (ba _ _)
    exact ⟨H4.out.1.below hb, bl H4.out.2.1 hb, H4.out.2.2.1.kept (S := fun _ => False) (Kept.ofBelow hb) (fun k e => e.elim), IsTab.below H4.out.2.2.2.1 hb, IsTab.new y5 _ 32 _, H4.out.2.2.2.2, by have := H4.out.1.lt; have := HB5.out.size; omega⟩)
  clear H4 HB5
  generalize (y5.alloc (.cells (tab 32 fun i => bv (ofX Me i)) 31)) = y6 at *
  generalize y5.heap.size = q5 at *
  have HL5 := Lib.hid (load32h H6.out.2.2.2.2.1)
  have HL4 := Lib.hid (loadSt H6.out.2.2.2.1)
  have HV := Lib.hid (verify_halt y6 a c B T Me (fun _ => 0#8) ok_Me (ktab_below HT.out H6.out.2.1) rfl (by show (0 : Nat) < 8192; decide) (by rw [mem_Me]; decide) (by rw [mem_Me]; decide) H6.out.2.2.1)
  rw [show stopH { Me with pc := Me.pc + 1 } (Me.reg (pA (Me.mem Me.pc))) = Mh from rfl] at HV
  obtain ⟨sv, hsv⟩ : ∃ sv, (tab 116 (stv (mroot Me) Me (.slice (some ⟨a, 0, none⟩) 1 c) (fun _ => 0#8))) = sv := ⟨_, rfl⟩
  rw [hsv] at HL4 HV
  clear hsv
  go_upto_region 8 with (first
    | ((with_reducible refine wpList_loadE (P := Tryd.prog) (w := y6) (ty := 31) (x := .tmp 5) (p := .pointer (some ⟨q5, 0, none⟩)) (v := dv (ofX Me)) ?_ ?_ ?_ HL5.out ?_); (· exact rfl); (· exact rfl); (· exact rfl))
    | ((with_reducible refine wpList_loadE (P := Tryd.prog) (w := y6) (ty := 40) (x := .tmp 4) (p := .pointer (some ⟨q4, 0, none⟩)) (v := .agg sv) ?_ ?_ ?_ HL4.out ?_); (· exact rfl); (· exact rfl); (· exact rfl))
    | (go_at_call 9; (with_reducible refine HV.out.mono ?_); rintro e y7 ⟨he, hb⟩; obtain rfl : e = _ := he; have HB7 := Lib.hid hb; clear hb HV)
    | ((with_reducible refine wpList_store_row (P := Tryd.prog) (w := y7.alloc (.cells zh 31)) ?_ 31 (.tmp 7) (.tmp 41) ?_ y7.heap.size (tab 32 fun i => bv (ofX Mh i)) ?_ ?_ 31 zh (heap_alloc_last y7 _) (infH _) ?_ (one_bv _ _) ?_); (· exact rfl); (· exact rfl); (· exact rfl); (· exact rfl); (· rw [HZI.out.2.2, tab_size]); rw [World.setRow_alloc_new]; simp only [Act.put]))
  have H8 : Hid (IsMac (y7.alloc (.cells (tab 32 fun i => bv (ofX Mh i)) 31)) b Me ∧ Below w.heap.size w (y7.alloc (.cells (tab 32 fun i => bv (ofX Mh i)) 31)) ∧ IsSt (y7.alloc (.cells (tab 32 fun i => bv (ofX Mh i)) 31)) q4 (mroot Me) Me (.slice (some ⟨a, 0, none⟩) 1 c) (fun _ => 0#8) ∧ (IsTab (y7.alloc (.cells (tab 32 fun i => bv (ofX Mh i)) 31)) q5 31 32 fun i => bv (ofX Me i)) ∧ (IsTab (y7.alloc (.cells (tab 32 fun i => bv (ofX Mh i)) 31)) y7.heap.size 31 32 fun i => bv (ofX Mh i)) ∧ b < q4 ∧ b < q5 ∧ b < y7.heap.size) := Lib.hid (by
    have hb : Below y6.heap.size y6 (y7.alloc (.cells (tab 32 fun i => bv (ofX Mh i)) 31)) := bl HB7.out (ba _ _)
    exact ⟨H6.out.1.below hb, bl H6.out.2.1 hb, IsTab.below H6.out.2.2.2.1 hb, H6.out.2.2.2.2.1.below hb, IsTab.new y7 _ 32 _, H6.out.2.2.2.2.2.1, H6.out.2.2.2.2.2.2, by have := H6.out.1.lt; have := HB7.out.size; omega⟩)
  clear H6 HB7 HL5 HL4
  generalize (y7.alloc (.cells (tab 32 fun i => bv (ofX Mh i)) 31)) = y8 at *
  generalize y7.heap.size = q7 at *
  have HSH : Hid (Calls Tryd.prog 25 #[.pointer (some ⟨b, 0, none⟩), .pointer (some ⟨s, 0, none⟩)] y8 fun e w' => e = .returned (.tuple #[]) ∧ (IsMac w' b Mh ∧ Kept (fun k => k = b) y8 w')) := Lib.hid (step_halt y8 b s Me 0 ⟨H8.out.1, ok_Me, rfl, by show (0 : Nat) < 8192; decide, mem_Me _, by decide⟩ (by decide))
  have HST := Lib.hid (Step_walk y8 b s (fun w' => IsMac w' b Mh ∧ Kept (fun k => k = b) y8 w') HSH.out)
  go_upto_region 9 with (go_at_call 14; (with_reducible refine HST.out.mono ?_); rintro e y9 ⟨he, hm, hk⟩; obtain rfl : e = _ := he; have H9 := Lib.hid (And.intro hm hk); clear hm hk HST HSH)
  have H10 : Hid (IsMac y9 b Mh ∧ Below w.heap.size w y9 ∧ IsSt y9 q4 (mroot Me) Me (.slice (some ⟨a, 0, none⟩) 1 c) (fun _ => 0#8) ∧ (IsTab y9 q5 31 32 fun i => bv (ofX Me i)) ∧ (IsTab y9 q7 31 32 fun i => bv (ofX Mh i))) := Lib.hid (by
    have g := H8.out
    have hk := H9.out.2
    refine ⟨H9.out.1, Wt.below_of g.2.1 hk (fun j _ hj => by have := HB0.out; omega), (hk.block _ (IsTab.lt g.2.2.1) ?_).trans g.2.2.1, (hk.block _ (IsTab.lt g.2.2.2.1) ?_).trans g.2.2.2.1, (hk.block _ (IsTab.lt g.2.2.2.2.1) ?_).trans g.2.2.2.2.1⟩
    · have := g.2.2.2.2.2.1; omega
    · have := g.2.2.2.2.2.2.1; omega
    · have := g.2.2.2.2.2.2.2; omega)
  clear H8 H9
  have HOF := Lib.hid (of_ok y9 b Mh H10.out.1 ok_Mh.mem ⟨ok_Mh.reg, ok_Mh.pc, ok_Mh.exit⟩ (ktab_below HT.out H10.out.2.1))
  go_upto_region 10 with (first
    | (go_at_call 8; (with_reducible refine HOF.out.mono ?_); rintro e y10 ⟨he, hb⟩; obtain rfl : e = _ := he; have HB10 := Lib.hid hb; clear hb HOF)
    | ((with_reducible refine wpList_store_row (P := Tryd.prog) (w := y10.alloc (.cells zh 31)) ?_ 31 (.tmp 9) (.tmp 49) ?_ y10.heap.size (tab 32 fun i => bv (ofX Mh i)) ?_ ?_ 31 zh (heap_alloc_last y10 _) (infH _) ?_ (one_bv _ _) ?_); (· exact rfl); (· exact rfl); (· exact rfl); (· exact rfl); (· rw [HZI.out.2.2, tab_size]); rw [World.setRow_alloc_new]; simp only [Act.put]))
  have H11 : Hid (Below w.heap.size w (y10.alloc (.cells (tab 32 fun i => bv (ofX Mh i)) 31)) ∧ IsSt (y10.alloc (.cells (tab 32 fun i => bv (ofX Mh i)) 31)) q4 (mroot Me) Me (.slice (some ⟨a, 0, none⟩) 1 c) (fun _ => 0#8) ∧ (IsTab (y10.alloc (.cells (tab 32 fun i => bv (ofX Mh i)) 31)) q5 31 32 fun i => bv (ofX Me i)) ∧ (IsTab (y10.alloc (.cells (tab 32 fun i => bv (ofX Mh i)) 31)) q7 31 32 fun i => bv (ofX Mh i)) ∧ (IsTab (y10.alloc (.cells (tab 32 fun i => bv (ofX Mh i)) 31)) y10.heap.size 31 32 fun i => bv (ofX Mh i))) := Lib.hid (by
    have hb : Below y9.heap.size y9 (y10.alloc (.cells (tab 32 fun i => bv (ofX Mh i)) 31)) := bl HB10.out (ba _ _)
    exact ⟨bl H10.out.2.1 hb, IsTab.below H10.out.2.2.1 hb, H10.out.2.2.2.1.below hb, H10.out.2.2.2.2.below hb, IsTab.new y10 _ 32 _⟩)
  clear H10 HB10
  generalize (y10.alloc (.cells (tab 32 fun i => bv (ofX Mh i)) 31)) = y11 at *
  generalize y10.heap.size = q9 at *
  have HNS := Lib.hid halts_not
  have HL5 := Lib.hid (load32h H11.out.2.2.1)
  have HL7 := Lib.hid (load32h H11.out.2.2.2.1)
  have HL9 := Lib.hid (load32h H11.out.2.2.2.2)
  have k51 := IsSt.k51 H11.out.2.1
  generalize ofX Mh = E at *
  generalize ofX Me = D at *
  go_wp2_with (first
    | ((with_reducible refine wpList_loadG (P := Tryd.prog) (w := y11) (ty := 31) (x := .tmp 7) (p := .pointer (some ⟨q7, 0, none⟩)) (v := dv E) ?_ ?_ ?_ HL7.out ?_); rotate_left; (· exact rfl); (· exact rfl); rotate_left; (· go_simp))
    | ((with_reducible refine wpList_loadG (P := Tryd.prog) (w := y11) (ty := 31) (x := .tmp 9) (p := .pointer (some ⟨q9, 0, none⟩)) (v := dv E) ?_ ?_ ?_ HL9.out ?_); rotate_left; (· exact rfl); (· exact rfl); rotate_left; (· go_simp))
    | ((with_reducible refine wpList_loadG (P := Tryd.prog) (w := y11) (ty := 31) (x := .tmp 5) (p := .pointer (some ⟨q5, 0, none⟩)) (v := dv D) ?_ ?_ ?_ HL5.out ?_); rotate_left; (· exact rfl); (· exact rfl); rotate_left; (· go_simp))
    | (refine wpList_eqG (by go_simp) (.tmp 72) (.tmp 73) 31 E E rfl rfl rfl ?_; rw [same_refl])
    | (refine wpList_neqB (by go_simp) (.tmp 77) (.tmp 78) 31 E D rfl rfl rfl ?_; rw [HNS.out]))
  exact bodyPost_ret (v := .bool true) (by simp [results, Tryd.results6, go_sem]) rfl ⟨rfl, H11.out.1⟩
end Os
end Go.Proofs.YtnaamljflcgepaaDoor
