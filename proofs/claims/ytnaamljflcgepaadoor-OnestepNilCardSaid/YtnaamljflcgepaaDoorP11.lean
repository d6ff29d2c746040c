/- Merged of Cb Cc Cd Ce Cu Da Db Dc Dd. Own work. -/
import Derived.Test.YtnaamljflcgepaaDoorP10
import Derived.Test.YtnaamljflcgepaaDoorP07
import Derived.Test.YtnaamljflcgepaaDoorP09
namespace Go.Proofs.YtnaamljflcgepaaDoor
open Go.RowKit
set_option linter.unusedVariables false
set_option linter.unusedSimpArgs false
namespace Co
open Kc Mk Vm
/-- A block of two cells. -/
def v2 (a b : Value) : Nat → Value
  | 0 => a
  | _ => b
def Box2 (w : World) (q T : Nat) (a b : Value) : Prop := IsTab w q T 2 (v2 a b)
section
variable {w w' : World} {q T : Nat} {a b : Value}
theorem Box2.k0 (h : Box2 w q T a b) : w.cell? ⟨q, 0, none⟩ = some a := IsTab.cell h 0 (by decide)
theorem Box2.k1 (h : Box2 w q T a b) : w.cell? ⟨q, 1, none⟩ = some b := IsTab.cell h 1 (by decide)
theorem Box2.f (h : Box2 w q T a b) (i : Nat) : w.frozen? ⟨q, i, none⟩ = false := IsTab.fz h i
theorem Box2.new (w : World) (T : Nat) (a b : Value) : Box2 (w.alloc (.cells #[a, b] T)) w.heap.size T a b := IsTab.new w T 2 (v2 a b)
theorem Box2.below (h : Box2 w q T a b) (hb : Below w.heap.size w w') : Box2 w' q T a b := IsTab.below h hb
theorem Box2.lt (h : Box2 w q T a b) : q < w.heap.size := IsTab.lt h
theorem Box2.p0 (h : Box2 w q T a b) (x : Value) : Box2 (w.setCell ⟨q, 0, none⟩ x) q T x b := IsTab.cong (IsTab.set h 0 x) fun i hi => by
  have : i = 0 ∨ i = 1 := by omega
  rcases this with rfl | rfl <;> rfl
theorem Box2.p1 (h : Box2 w q T a b) (x : Value) : Box2 (w.setCell ⟨q, 1, none⟩ x) q T a x := IsTab.cong (IsTab.set h 1 x) fun i hi => by
  have : i = 0 ∨ i = 1 := by omega
  rcases this with rfl | rfl <;> rfl
end
theorem ixMemU (b i : Nat) (hi : i < 8192) (w : World) : (Instr.indexAt 43 (.pointer (some ⟨b, 0, none⟩)) (.int .u64 i)).run Tryd.prog w = .ok (.pointer (some ⟨b, i, none⟩)) w := by
  have h1 : (i : Int) < 8192 := by omega
  simp [go_sem, h1, Tryd.underlying43]
/-- A head, as a value. -/
def hv (M : Mac) : Nat → Value := fun i => if i < 16 then .int .u64 (M.reg i) else if i = 16 then .int .u64 M.pc else if i = 17 then .bool M.halted else .int .u64 M.exit
theorem oneHd (M : Mac) : (tab 19 (hv M)).all (·.oneCell') = true := tab_one fun i => by
  unfold hv
  repeat' split
  all_goals rfl
set_option maxRecDepth 100000 in
theorem zeroHd (w : World) : (zeroValue 35).run Tryd.prog w = .ok (.agg (tab 19 (hv m0))) w := by kernel_rfl
theorem infHd' : (Tryd.prog.info? 35).map (·.size) = some 19 := by kernel_rfl
theorem infHd (M : Mac) : (Tryd.prog.info? 35).map (·.size) = some (tab 19 (hv M)).size := by rw [tab_size]; exact infHd'
theorem undHd : Tryd.prog.underlying 35 = some (.struct (Tryd.prog.fieldsOf 35)) := by kernel_rfl
theorem undPt : Tryd.prog.underlying 176 = some (.struct (Tryd.prog.fieldsOf 176)) := by kernel_rfl
theorem infPt : (Tryd.prog.info? 176).map (·.size) = some 2 := by kernel_rfl
set_option maxHeartbeats 2000000 in
set_option maxRecDepth 100000 in
theorem Prove_ok (w : World) (b i : Nat) (M : Mac) (hm : IsMac w b M) (hok : ∀ i, M.mem i < 18446744073709551616) (hi : i < 8192) (ht : Laid.KTab w) :
    Calls Tryd.prog 92 #[.pointer (some ⟨b, 0, none⟩), .int .u64 i] w fun e w' => ∃ a c, e = .returned (.tuple #[.agg #[.int .u64 (M.mem i), .slice a 13 c], .nilIface]) ∧ 13 ≤ c ∧ c ≤ maxLen ∧ a ≠ none ∧ w'.ownsRow w.heap.size 31 32 (.slice a 13 c) 13 (flat 13 (sib (mg M) i)) ∧ Below w.heap.size w w' := by
  have HM := Lib.hid (And.intro hm (And.intro hok (And.intro hi ht)))
  have t1 : decide (8192 ≤ (i : Int)) = false := by simp; omega
  have e1 : wrap64 (i : Int) = (i : Int) := by unfold wrap64; omega
  have HE1 := Lib.hid e1
  clear hm hok hi ht e1
  have HB0 := Lib.hid (Box2.new w 176 (.int .u64 0) (.slice none 0 0))
  have HB1 : Hid (Below w.heap.size w (w.alloc (.cells #[.int .u64 0, .slice none 0 0] 176)) ∧ (w.alloc (.cells #[.int .u64 0, .slice none 0 0] 176)).heap.size = w.heap.size + 1) := Lib.hid ⟨ba _ _, by simp⟩
  go_enter Tryd.func92, Tryd.ntmps92
  go_upto_region 5 with (fail)
  clear t1
  generalize w.alloc (.cells #[.int .u64 0, .slice none 0 0] 176) = y0 at *
  generalize hq : w.heap.size = q0 at *
  have HQ := Lib.hid hq
  clear hq
  have HL := Lib.hid (leaves_walk y0 b M (HM.out.1.below (HQ.out ▸ HB1.out.1)) HM.out.2.1)
  have he1 := HE1.out
  go_upto_region 6 with (first
    | (go_at_call 27; (with_reducible refine HL.out.mono ?_); rintro e y1 ⟨q, he, hs, hge, hb⟩; obtain rfl : e = _ := he; have H1 : Hid (Box2 y1 q0 176 (.int .u64 0) (.slice none 0 0) ∧ Below q0 w y1 ∧ q0 < y1.heap.size) := Lib.hid ⟨HB0.out.below hb, HB1.out.1.trans (hb.mono (by have := HB1.out.2; omega)), by have := hb.size; have := HB1.out.2; omega⟩; have hpa := path_any 13 (some ⟨q, 0, none⟩) 8192 8192 (mlf M) (i : Int) y1 hs (fun h => by cases h) (Nat.le_refl _) (by decide) (ktab_below HM.out.2.2.2 (HQ.out ▸ H1.out.2.1)); rw [wrongP_mem 8192 (Nat.le_refl _) i HM.out.2.2.1, pathLen_mem 8192 (Nat.le_refl _) i HM.out.2.2.1, Int.toNat_natCast, err0] at hpa; have HP := Lib.hid hpa; clear hs hge hb HL hpa)
    | (go_at_call 94; refine HP.out.mono ?_; rintro e y2 ⟨V, he, hrow, hb⟩; obtain rfl : e = _ := he; obtain ⟨a, c, rfl, hsa, hna, hnc, hcm, hal⟩ := hs_of hrow; have H2 : Hid (Box2 y2 q0 176 (.int .u64 0) (.slice none 0 0) ∧ Below q0 w y2 ∧ q0 < y1.heap.size ∧ y2.ownsRow y1.heap.size 31 32 (.slice a 13 c) 13 (flat 13 (sib (mg M) i)) ∧ 13 ≤ c ∧ c ≤ maxLen ∧ a ≠ none ∧ y1.heap.size ≤ y2.heap.size) := Lib.hid ⟨H1.out.1.below hb, H1.out.2.1.trans (hb.mono (by have := H1.out.2.2; omega)), H1.out.2.2, hrow, hnc, hcm, (fun h => by have := (hna h).1; omega), hb.size⟩; clear hrow hb hsa hna hnc hcm hal HP H1))
  clear he1 HB0 HB1
  have kc := (HM.out.1.below (HQ.out ▸ H2.out.2.1)).mem HM.out.2.2.1
  have ix := fun u => ixMemU b i HM.out.2.2.1 u
  have k0 := H2.out.1.k0
  have f0 := H2.out.1.f 0
  have k1 := (H2.out.1.p0 (.int .u64 (M.mem i))).k1
  have f1 := (H2.out.1.p0 (.int .u64 (M.mem i))).f 1
  have H3 : Hid (Box2 ((y2.setCell ⟨q0, 0, none⟩ (.int .u64 (M.mem i))).setCell ⟨q0, 1, none⟩ (.slice a 13 c)) q0 176 (.int .u64 (M.mem i)) (.slice a 13 c) ∧ Below q0 w ((y2.setCell ⟨q0, 0, none⟩ (.int .u64 (M.mem i))).setCell ⟨q0, 1, none⟩ (.slice a 13 c)) ∧ ((y2.setCell ⟨q0, 0, none⟩ (.int .u64 (M.mem i))).setCell ⟨q0, 1, none⟩ (.slice a 13 c)).ownsRow q0 31 32 (.slice a 13 c) 13 (flat 13 (sib (mg M) i))) := Lib.hid (by
    refine ⟨(H2.out.1.p0 _).p1 _, (H2.out.2.1.setCell (Nat.le_refl _) _).setCell (Nat.le_refl _) _, ?_⟩
    have hk : Kept (fun k => k = q0) y2 ((y2.setCell ⟨q0, 0, none⟩ (.int .u64 (M.mem i))).setCell ⟨q0, 1, none⟩ (.slice a 13 c)) := ((Kept.refl (fun k => k = q0) y2).setCell (p := ⟨q0, 0, none⟩) (.inl rfl) _).setCell (p := ⟨q0, 1, none⟩) (.inl rfl) _
    have hn : ∀ k, (Value.slice a 13 c).ownBlock = some k → y1.heap.size ≤ k := fun k hk => by
      rcases ownsRow_forms H2.out.2.2.2.1 with ⟨h, _⟩ | ⟨g, cap, h, hg, _⟩
      · rw [h] at hk; cases hk
      · rw [h] at hk; cases hk; exact hg
    exact ownsRow_base (hk.row H2.out.2.2.2.1 fun k hk e => by have := hn k hk; have := H2.out.2.2.1; omega) (Nat.le_of_lt H2.out.2.2.1))
  go_wp2_with (fail)
  generalize (y2.setCell ⟨q0, 0, none⟩ (.int .u64 (M.mem i))).setCell ⟨q0, 1, none⟩ (.slice a 13 c) = y3 at *
  exact bodyPost_ret (Kc.results_cell_tmp rfl _ _ q0 176 _ (0, 0) _ rfl H3.out.1 undPt rfl infPt .nilIface rfl) rfl ⟨a, c, rfl, H2.out.2.2.2.2.1, H2.out.2.2.2.2.2.1, H2.out.2.2.2.2.2.2.1, by rw [HQ.out]; exact H3.out.2.2, by rw [HQ.out]; exact H3.out.2.1⟩
end Co
end Go.Proofs.YtnaamljflcgepaaDoor
namespace Go.Proofs.YtnaamljflcgepaaDoor
open Go.RowKit
set_option linter.unusedVariables false
set_option linter.unusedSimpArgs false
namespace Co
open Kc Mk Vm
set_option maxHeartbeats 2000000 in
set_option maxRecDepth 100000 in
theorem Holds_ok (w : World) (r : Hx) (i v c : Nat) (a : Option Addr) (p : Nat → Hx) (hs : IsHs w a 13 p) (hc : 13 ≤ c) (hi : i < 8192) (hv : v < 18446744073709551616) (ht : Laid.KTab w) :
    Calls Tryd.prog 101 #[.agg (tab 32 fun i => bv (r i)), .int .u64 i, .agg #[.int .u64 v, .slice a 13 c]] w fun e w' => e = .returned (.tuple #[.bool (same32 (fold i (lfX v) p 13) r), .nilIface]) ∧ Below w.heap.size w w' := by
  have t1 : decide (8192 ≤ (i : Int)) = false := by simp; omega
  have HE1 : Hid (IntKind.i64.wrap (i : Int) = (i : Int)) := Lib.hid (by simp [IntKind.wrap, IntKind.bits, IntKind.signed, IntKind.min, IntKind.max]; omega)
  have HV0 := Lib.hid (And.intro hs (And.intro hv (And.intro hc (And.intro hi ht))))
  clear hs hv hc hi ht
  have HW : Hid (IsTab ((w.alloc (.cells (tab 32 fun i => bv (r i)) 31)).alloc (.cells #[.int .u64 v, .slice a 13 c] 176)) w.heap.size 31 32 (fun i => bv (r i)) ∧ Box2 ((w.alloc (.cells (tab 32 fun i => bv (r i)) 31)).alloc (.cells #[.int .u64 v, .slice a 13 c] 176)) (w.heap.size + 1) 176 (.int .u64 v) (.slice a 13 c) ∧ Below w.heap.size w ((w.alloc (.cells (tab 32 fun i => bv (r i)) 31)).alloc (.cells #[.int .u64 v, .slice a 13 c] 176))) := Lib.hid (by
    have e1 : (w.alloc (.cells (tab 32 fun i => bv (r i)) 31)).heap.size = w.heap.size + 1 := by simp
    refine ⟨(IsTab.new w 31 32 _).alloc _, ?_, (ba _ _).alloc (by simp) _⟩
    have h := Box2.new (w.alloc (.cells (tab 32 fun i => bv (r i)) 31)) 176 (.int .u64 v) (.slice a 13 c)
    rw [e1] at h; exact h)
  have z2 := zeroHash
  generalize hz : (tab 32 fun _ => bv 0#8) = zh at *
  have HZ := Lib.hid hz
  clear hz
  go_enter Tryd.func101, Tryd.ntmps101
  go_upto_region 1 with (fail)
  generalize (w.alloc (.cells (tab 32 fun i => bv (r i)) 31)).alloc (.cells #[.int .u64 v, .slice a 13 c] 176) = y0 at *
  have HB3 := Lib.hid HW.out.1
  have HB5 := Lib.hid HW.out.2.1
  have HB0 : Hid (Below w.heap.size w y0 ∧ Below y0.heap.size y0 y0) := Lib.hid ⟨HW.out.2.2, Below.refl _ _⟩
  have HV : Hid (IsHs y0 a 13 p ∧ v < 18446744073709551616 ∧ 13 ≤ c ∧ i < 8192 ∧ Laid.KTab w) := Lib.hid ⟨HV0.out.1.below HW.out.2.2, HV0.out.2.1, HV0.out.2.2.1, HV0.out.2.2.2.1, HV0.out.2.2.2.2⟩
  clear HW HV0
  generalize w.heap.size + 1 = q5 at *
  generalize hq : w.heap.size = q3 at *
  have HQ := Lib.hid hq
  clear hq
  have k1 := HB5.out.k1
  go_upto_region 5 with (fail)
  clear k1 t1
  refine wp_region_og (fun z : World => Below y0.heap.size y0 z) (.take 0 (.take 1 (.take 2 (.take 3 (.take 5 (.take 6 (.two 4 (.two 7 (.take 8 (.take 9 (.take 10 (.one 11 (.one 12 (.take 13 .done)))))) 11 (.one 7 (.take 8 (.take 9 (.take 10 (.one 12 (.take 13 .done))))))) 11 (.one 4 (.one 7 (.take 8 (.take 9 (.take 10 (.one 12 (.take 13 .done)))))))))))))) (by kernel_rfl) (by kernel_rfl) (Below.refl _ _).drew ?_
  have HY : Hid (Below y0.heap.size y0 y0.drew ∧ True) := Lib.hid ⟨(Below.refl _ _).drew, trivial⟩
  generalize y0.drew = y1 at *
  refine og_tk (some 19) (.int .u64 i) rfl rfl (by go_simp) (fun _ _ => by simp [execOp, go_sem]) ?_
  simp only [Act.put, pS]
  refine og_tk (some 20) (.int .i64 i) rfl rfl (by go_simp) (fun _ _ => by simp [execOp, go_sem, HE1.out]) ?_
  simp only [Act.put, pS]
  refine og_tk (some 21) (.pointer (some ⟨q5, 0, none⟩)) rfl rfl (by go_simp) (fun _ _ => by simp [execOp, go_sem]) ?_
  simp only [Act.put, pS]
  refine og_ld (some 22) 32 (.tmp 21) (.pointer (some ⟨q5, 0, none⟩)) (.int .u64 v) rfl rfl (by go_simp) rfl rfl (fun y hy => by have h := keep1 hy HB5.out.k0; simp [Instr.loadAt, go_sem, h, Tryd.underlying32]) ?_
  simp only [Act.put, pS]
  refine og_tk (some 24) (.pointer (some ⟨q5, 1, none⟩)) rfl rfl (by go_simp) (fun _ _ => by simp [execOp, go_sem]) ?_
  simp only [Act.put, pS]
  refine og_ld (some 25) 54 (.tmp 24) (.pointer (some ⟨q5, 1, none⟩)) (.slice a 13 c) rfl rfl (by go_simp) rfl rfl (fun y hy => by have h := keep1 hy HB5.out.k1; simp [Instr.loadAt, go_sem, h, Tryd.underlying54]) ?_
  simp only [Act.put, pS]
  refine og_two (og_of rfl (by go_simp) fun K hK => ?_) (og_of rfl (by go_simp) fun K hK => ?_)
  · have HLF := Lib.hid (leaf_walk y1 v HV.out.2.1)
    go_simp
    refine HLF.out.mono ?_
    rintro e y2 ⟨he, hb⟩
    obtain rfl : e = _ := he
    have HY : Hid (Below y0.heap.size y0 y2 ∧ True) := Lib.hid ⟨bl HY.out.1 hb, trivial⟩
    clear hb
    try clear HLF
    try clear HFO
    refine hK _ _ HY.out.1 ?_
    clear hK K
    try simp only [List.getElem_toArray, List.getElem_cons_succ, List.getElem_cons_zero, Act.put, pS]
    refine og_two (og_of rfl (by go_simp) fun K hK => ?_) (og_of rfl (by go_simp) fun K hK => ?_)
    · have HFO := Lib.hid (fold_ok i (lfX v) a 13 c p y2 (HV.out.1.below (bl HB0.out.2 HY.out.1)) HV.out.2.2.1 (by decide) HV.out.2.2.2.1 (ktab_below HV.out.2.2.2.2 (HQ.out ▸ HB0.out.1.trans (HY.out.1.mono (by have := HB0.out.1.size; have := HQ.out; omega)))))
      go_simp
      refine HFO.out.mono ?_
      rintro e y3 ⟨he, hb⟩
      obtain rfl : e = _ := he
      have HY : Hid (Below y0.heap.size y0 y3 ∧ True) := Lib.hid ⟨bl HY.out.1 hb, trivial⟩
      clear hb
      try clear HLF
      try clear HFO
      refine hK _ _ HY.out.1 ?_
      clear hK K
      try simp only [List.getElem_toArray, List.getElem_cons_succ, List.getElem_cons_zero, Act.put, pS]
      refine og_tk (some 18) (.tuple #[dv (fold i (lfX v) p 13), .nilIface]) rfl rfl (by go_simp) (fun _ _ => by simp [execOp, go_sem]) ?_
      simp only [Act.put, pS]
      refine og_tk (some 27) (dv (fold i (lfX v) p 13)) rfl rfl (by go_simp) (fun _ _ => by simp [execOp, go_sem]) ?_
      simp only [Act.put, pS]
      refine og_tk (some 28) (.nilIface) rfl rfl (by go_simp) (fun _ _ => by simp [execOp, go_sem]) ?_
      simp only [Act.put, pS]
      refine og_f rfl (by go_simp) fun K hK => ?_
      go_simp
      have HY : Hid (Below y0.heap.size y0 (y3.alloc (.cells zh 31)) ∧ IsTab (y3.alloc (.cells zh 31)) y3.heap.size 31 32 (fun _ => bv 0#8) ∧ y0.heap.size ≤ y3.heap.size) := Lib.hid ⟨HY.out.1.alloc HY.out.1.size _, put_new y3 (fun _ => 0#8) zh HZ.out, HY.out.1.size⟩
      refine hK _ _ HY.out.1 ?_
      clear hK K
      generalize y3.alloc (.cells zh 31) = y4 at *
      generalize y3.heap.size = q8 at *
      try simp only [List.getElem_toArray, List.getElem_cons_succ, List.getElem_cons_zero, Act.put, pS]
      refine og_f rfl (by go_simp) fun K hK => ?_
      refine wp_store_row 31 (.tmp 8) (.tmp 27) rfl q8 (tab 32 fun j => bv ((fold i (lfX v) p 13) j)) rfl rfl 31 _ (HY.out.2.1) (infH _) (by simp only [tab_size]) (one_bv _ _) ?_
      have HE : Hid (IsTab (y4.setRow q8 (tab 32 fun j => bv ((fold i (lfX v) p 13) j))) q8 31 32 (fun j => bv ((fold i (lfX v) p 13) j)) ∧ IsTab (y4.setRow q8 (tab 32 fun j => bv ((fold i (lfX v) p 13) j))) q3 31 32 (fun j => bv (r j)) ∧ Below q3 w (y4.setRow q8 (tab 32 fun j => bv ((fold i (lfX v) p 13) j)))) := Lib.hid (by
        have hq8 := HY.out.2.2
        have hq3 := HB0.out.2
        have hlt := HB3.out.lt
        refine ⟨HY.out.2.1.row, (HB3.out.below (HY.out.1.mono (Nat.le_refl _))).rowOther (by omega), below_setRow (HB0.out.1.trans (HY.out.1.mono (by have := HB0.out.1.size; have := HQ.out; omega))) (by omega) _⟩)
      refine hK _ _ (below_setRow HY.out.1 HY.out.2.2 _) ?_
      clear hK K
      try simp only [List.getElem_toArray, List.getElem_cons_succ, List.getElem_cons_zero, Act.put, pS]
      generalize y4.setRow q8 (tab 32 fun j => bv ((fold i (lfX v) p 13) j)) = y9 at *
      refine og_tk (some 9) (.nilIface) rfl rfl (by go_simp) (fun _ _ => by simp [execOp, go_sem]) ?_
      simp only [Act.put, pS]
      refine og_done (NoPanic.normal ?_)
      have D8 := Lib.hid (load32h HE.out.1)
      have D3 := Lib.hid (load32h HE.out.2.1)
      go_wp2_with (first
        | ((with_reducible refine wpList_loadG (P := Tryd.prog) (w := y9) (ty := 31) (x := .tmp 8) (p := .pointer (some ⟨q8, 0, none⟩)) (v := dv (fold i (lfX v) p 13)) ?_ ?_ ?_ D8.out ?_); rotate_left; (· exact rfl); (· exact rfl); rotate_left; (· go_simp))
        | ((with_reducible refine wpList_loadG (P := Tryd.prog) (w := y9) (ty := 31) (x := .tmp 3) (p := .pointer (some ⟨q3, 0, none⟩)) (v := dv r) ?_ ?_ ?_ D3.out ?_); rotate_left; (· exact rfl); (· exact rfl); rotate_left; (· go_simp))
        | (refine wpList_eqG (by go_simp) (.tmp 32) (.tmp 33) 31 (fold i (lfX v) p 13) r rfl rfl rfl ?_))
      exact bodyPost_ret (v := .tuple #[.bool (same32 (fold i (lfX v) p 13) r), .nilIface]) (by simp [results, Tryd.results101, go_sem]) rfl ⟨rfl, by rw [HQ.out]; exact HE.out.2.2⟩
    · go_simp
      have HY : Hid (Below y0.heap.size y0 (y2.alloc (.cells zh 31)) ∧ IsTab (y2.alloc (.cells zh 31)) y2.heap.size 31 32 (fun _ => bv 0#8) ∧ y0.heap.size ≤ y2.heap.size) := Lib.hid ⟨HY.out.1.alloc HY.out.1.size _, put_new y2 (fun _ => 0#8) zh HZ.out, HY.out.1.size⟩
      refine hK _ _ HY.out.1 ?_
      clear hK K
      generalize y2.alloc (.cells zh 31) = y3 at *
      generalize y2.heap.size = q8 at *
      try simp only [List.getElem_toArray, List.getElem_cons_succ, List.getElem_cons_zero, Act.put, pS]
      refine og_f rfl (by go_simp) fun K hK => ?_
      have HFO := Lib.hid (fold_ok i (lfX v) a 13 c p y3 (HV.out.1.below (bl HB0.out.2 HY.out.1)) HV.out.2.2.1 (by decide) HV.out.2.2.2.1 (ktab_below HV.out.2.2.2.2 (HQ.out ▸ HB0.out.1.trans (HY.out.1.mono (by have := HB0.out.1.size; have := HQ.out; omega)))))
      go_simp
      refine HFO.out.mono ?_
      rintro e y4 ⟨he, hb⟩
      obtain rfl : e = _ := he
      have HY : Hid (Below y0.heap.size y0 y4 ∧ IsTab y4 q8 31 32 (fun _ => bv 0#8) ∧ y0.heap.size ≤ q8) := Lib.hid ⟨bl HY.out.1 hb, HY.out.2.1.below hb, HY.out.2.2⟩
      clear hb
      try clear HLF
      try clear HFO
      refine hK _ _ HY.out.1 ?_
      clear hK K
      try simp only [List.getElem_toArray, List.getElem_cons_succ, List.getElem_cons_zero, Act.put, pS]
      refine og_tk (some 18) (.tuple #[dv (fold i (lfX v) p 13), .nilIface]) rfl rfl (by go_simp) (fun _ _ => by simp [execOp, go_sem]) ?_
      simp only [Act.put, pS]
      refine og_tk (some 27) (dv (fold i (lfX v) p 13)) rfl rfl (by go_simp) (fun _ _ => by simp [execOp, go_sem]) ?_
      simp only [Act.put, pS]
      refine og_tk (some 28) (.nilIface) rfl rfl (by go_simp) (fun _ _ => by simp [execOp, go_sem]) ?_
      simp only [Act.put, pS]
      refine og_f rfl (by go_simp) fun K hK => ?_
      refine wp_store_row 31 (.tmp 8) (.tmp 27) rfl q8 (tab 32 fun j => bv ((fold i (lfX v) p 13) j)) rfl rfl 31 _ (HY.out.2.1) (infH _) (by simp only [tab_size]) (one_bv _ _) ?_
      have HE : Hid (IsTab (y4.setRow q8 (tab 32 fun j => bv ((fold i (lfX v) p 13) j))) q8 31 32 (fun j => bv ((fold i (lfX v) p 13) j)) ∧ IsTab (y4.setRow q8 (tab 32 fun j => bv ((fold i (lfX v) p 13) j))) q3 31 32 (fun j => bv (r j)) ∧ Below q3 w (y4.setRow q8 (tab 32 fun j => bv ((fold i (lfX v) p 13) j)))) := Lib.hid (by
        have hq8 := HY.out.2.2
        have hq3 := HB0.out.2
        have hlt := HB3.out.lt
        refine ⟨HY.out.2.1.row, (HB3.out.below (HY.out.1.mono (Nat.le_refl _))).rowOther (by omega), below_setRow (HB0.out.1.trans (HY.out.1.mono (by have := HB0.out.1.size; have := HQ.out; omega))) (by omega) _⟩)
      refine hK _ _ (below_setRow HY.out.1 HY.out.2.2 _) ?_
      clear hK K
      try simp only [List.getElem_toArray, List.getElem_cons_succ, List.getElem_cons_zero, Act.put, pS]
      generalize y4.setRow q8 (tab 32 fun j => bv ((fold i (lfX v) p 13) j)) = y9 at *
      refine og_tk (some 9) (.nilIface) rfl rfl (by go_simp) (fun _ _ => by simp [execOp, go_sem]) ?_
      simp only [Act.put, pS]
      refine og_done (NoPanic.normal ?_)
      have D8 := Lib.hid (load32h HE.out.1)
      have D3 := Lib.hid (load32h HE.out.2.1)
      go_wp2_with (first
        | ((with_reducible refine wpList_loadG (P := Tryd.prog) (w := y9) (ty := 31) (x := .tmp 8) (p := .pointer (some ⟨q8, 0, none⟩)) (v := dv (fold i (lfX v) p 13)) ?_ ?_ ?_ D8.out ?_); rotate_left; (· exact rfl); (· exact rfl); rotate_left; (· go_simp))
        | ((with_reducible refine wpList_loadG (P := Tryd.prog) (w := y9) (ty := 31) (x := .tmp 3) (p := .pointer (some ⟨q3, 0, none⟩)) (v := dv r) ?_ ?_ ?_ D3.out ?_); rotate_left; (· exact rfl); (· exact rfl); rotate_left; (· go_simp))
        | (refine wpList_eqG (by go_simp) (.tmp 32) (.tmp 33) 31 (fold i (lfX v) p 13) r rfl rfl rfl ?_))
      exact bodyPost_ret (v := .tuple #[.bool (same32 (fold i (lfX v) p 13) r), .nilIface]) (by simp [results, Tryd.results101, go_sem]) rfl ⟨rfl, by rw [HQ.out]; exact HE.out.2.2⟩
  · go_simp
    have HY : Hid (Below y0.heap.size y0 (y1.alloc (.cells zh 31)) ∧ IsTab (y1.alloc (.cells zh 31)) y1.heap.size 31 32 (fun _ => bv 0#8) ∧ y0.heap.size ≤ y1.heap.size) := Lib.hid ⟨HY.out.1.alloc HY.out.1.size _, put_new y1 (fun _ => 0#8) zh HZ.out, HY.out.1.size⟩
    refine hK _ _ HY.out.1 ?_
    clear hK K
    generalize y1.alloc (.cells zh 31) = y2 at *
    generalize y1.heap.size = q8 at *
    try simp only [List.getElem_toArray, List.getElem_cons_succ, List.getElem_cons_zero, Act.put, pS]
    refine og_f rfl (by go_simp) fun K hK => ?_
    have HLF := Lib.hid (leaf_walk y2 v HV.out.2.1)
    go_simp
    refine HLF.out.mono ?_
    rintro e y3 ⟨he, hb⟩
    obtain rfl : e = _ := he
    have HY : Hid (Below y0.heap.size y0 y3 ∧ IsTab y3 q8 31 32 (fun _ => bv 0#8) ∧ y0.heap.size ≤ q8) := Lib.hid ⟨bl HY.out.1 hb, HY.out.2.1.below hb, HY.out.2.2⟩
    clear hb
    try clear HLF
    try clear HFO
    refine hK _ _ HY.out.1 ?_
    clear hK K
    try simp only [List.getElem_toArray, List.getElem_cons_succ, List.getElem_cons_zero, Act.put, pS]
    refine og_f rfl (by go_simp) fun K hK => ?_
    have HFO := Lib.hid (fold_ok i (lfX v) a 13 c p y3 (HV.out.1.below (bl HB0.out.2 HY.out.1)) HV.out.2.2.1 (by decide) HV.out.2.2.2.1 (ktab_below HV.out.2.2.2.2 (HQ.out ▸ HB0.out.1.trans (HY.out.1.mono (by have := HB0.out.1.size; have := HQ.out; omega)))))
    go_simp
    refine HFO.out.mono ?_
    rintro e y4 ⟨he, hb⟩
    obtain rfl : e = _ := he
    have HY : Hid (Below y0.heap.size y0 y4 ∧ IsTab y4 q8 31 32 (fun _ => bv 0#8) ∧ y0.heap.size ≤ q8) := Lib.hid ⟨bl HY.out.1 hb, HY.out.2.1.below hb, HY.out.2.2⟩
    clear hb
    try clear HLF
    try clear HFO
    refine hK _ _ HY.out.1 ?_
    clear hK K
    try simp only [List.getElem_toArray, List.getElem_cons_succ, List.getElem_cons_zero, Act.put, pS]
    refine og_tk (some 18) (.tuple #[dv (fold i (lfX v) p 13), .nilIface]) rfl rfl (by go_simp) (fun _ _ => by simp [execOp, go_sem]) ?_
    simp only [Act.put, pS]
    refine og_tk (some 27) (dv (fold i (lfX v) p 13)) rfl rfl (by go_simp) (fun _ _ => by simp [execOp, go_sem]) ?_
    simp only [Act.put, pS]
    refine og_tk (some 28) (.nilIface) rfl rfl (by go_simp) (fun _ _ => by simp [execOp, go_sem]) ?_
    simp only [Act.put, pS]
    refine og_f rfl (by go_simp) fun K hK => ?_
    refine wp_store_row 31 (.tmp 8) (.tmp 27) rfl q8 (tab 32 fun j => bv ((fold i (lfX v) p 13) j)) rfl rfl 31 _ (HY.out.2.1) (infH _) (by simp only [tab_size]) (one_bv _ _) ?_
    have HE : Hid (IsTab (y4.setRow q8 (tab 32 fun j => bv ((fold i (lfX v) p 13) j))) q8 31 32 (fun j => bv ((fold i (lfX v) p 13) j)) ∧ IsTab (y4.setRow q8 (tab 32 fun j => bv ((fold i (lfX v) p 13) j))) q3 31 32 (fun j => bv (r j)) ∧ Below q3 w (y4.setRow q8 (tab 32 fun j => bv ((fold i (lfX v) p 13) j)))) := Lib.hid (by
      have hq8 := HY.out.2.2
      have hq3 := HB0.out.2
      have hlt := HB3.out.lt
      refine ⟨HY.out.2.1.row, (HB3.out.below (HY.out.1.mono (Nat.le_refl _))).rowOther (by omega), below_setRow (HB0.out.1.trans (HY.out.1.mono (by have := HB0.out.1.size; have := HQ.out; omega))) (by omega) _⟩)
    refine hK _ _ (below_setRow HY.out.1 HY.out.2.2 _) ?_
    clear hK K
    try simp only [List.getElem_toArray, List.getElem_cons_succ, List.getElem_cons_zero, Act.put, pS]
    generalize y4.setRow q8 (tab 32 fun j => bv ((fold i (lfX v) p 13) j)) = y9 at *
    refine og_tk (some 9) (.nilIface) rfl rfl (by go_simp) (fun _ _ => by simp [execOp, go_sem]) ?_
    simp only [Act.put, pS]
    refine og_done (NoPanic.normal ?_)
    have D8 := Lib.hid (load32h HE.out.1)
    have D3 := Lib.hid (load32h HE.out.2.1)
    go_wp2_with (first
      | ((with_reducible refine wpList_loadG (P := Tryd.prog) (w := y9) (ty := 31) (x := .tmp 8) (p := .pointer (some ⟨q8, 0, none⟩)) (v := dv (fold i (lfX v) p 13)) ?_ ?_ ?_ D8.out ?_); rotate_left; (· exact rfl); (· exact rfl); rotate_left; (· go_simp))
      | ((with_reducible refine wpList_loadG (P := Tryd.prog) (w := y9) (ty := 31) (x := .tmp 3) (p := .pointer (some ⟨q3, 0, none⟩)) (v := dv r) ?_ ?_ ?_ D3.out ?_); rotate_left; (· exact rfl); (· exact rfl); rotate_left; (· go_simp))
      | (refine wpList_eqG (by go_simp) (.tmp 32) (.tmp 33) 31 (fold i (lfX v) p 13) r rfl rfl rfl ?_))
    exact bodyPost_ret (v := .tuple #[.bool (same32 (fold i (lfX v) p 13) r), .nilIface]) (by simp [results, Tryd.results101, go_sem]) rfl ⟨rfl, by rw [HQ.out]; exact HE.out.2.2⟩
end Co
end Go.Proofs.YtnaamljflcgepaaDoor
namespace Go.Proofs.YtnaamljflcgepaaDoor
open Go.RowKit
set_option linter.unusedVariables false
set_option linter.unusedSimpArgs false
namespace Co
open Kc Mk Vm
def uv (f : Nat → Nat) : Nat → Value := fun i => .int .u64 (f i)
/-- A block of five cells. -/
def v5 (a b c d e : Value) : Nat → Value
  | 0 => a
  | 1 => b
  | 2 => c
  | 3 => d
  | _ => e
def Box5 (w : World) (q T : Nat) (a b c d e : Value) : Prop := IsTab w q T 5 (v5 a b c d e)
section
variable {w w' : World} {q T : Nat} {a b c d e : Value}
theorem Box5.k0 (h : Box5 w q T a b c d e) : w.cell? ⟨q, 0, none⟩ = some a := IsTab.cell h 0 (by decide)
theorem Box5.k1 (h : Box5 w q T a b c d e) : w.cell? ⟨q, 1, none⟩ = some b := IsTab.cell h 1 (by decide)
theorem Box5.k2 (h : Box5 w q T a b c d e) : w.cell? ⟨q, 2, none⟩ = some c := IsTab.cell h 2 (by decide)
theorem Box5.k3 (h : Box5 w q T a b c d e) : w.cell? ⟨q, 3, none⟩ = some d := IsTab.cell h 3 (by decide)
theorem Box5.k4 (h : Box5 w q T a b c d e) : w.cell? ⟨q, 4, none⟩ = some e := IsTab.cell h 4 (by decide)
theorem Box5.f (h : Box5 w q T a b c d e) (i : Nat) : w.frozen? ⟨q, i, none⟩ = false := IsTab.fz h i
theorem Box5.new (w : World) (T : Nat) (a b c d e : Value) : Box5 (w.alloc (.cells #[a, b, c, d, e] T)) w.heap.size T a b c d e := IsTab.new w T 5 (v5 a b c d e)
theorem c5 {i : Nat} (hi : i < 5) : i = 0 ∨ i = 1 ∨ i = 2 ∨ i = 3 ∨ i = 4 := by omega
theorem Box5.p2 (h : Box5 w q T a b c d e) (x : Value) : Box5 (w.setCell ⟨q, 2, none⟩ x) q T a b x d e := IsTab.cong (IsTab.set h 2 x) fun i hi => by
  rcases c5 hi with rfl | rfl | rfl | rfl | rfl <;> rfl
theorem Box5.p3 (h : Box5 w q T a b c d e) (x : Value) : Box5 (w.setCell ⟨q, 3, none⟩ x) q T a b c x e := IsTab.cong (IsTab.set h 3 x) fun i hi => by
  rcases c5 hi with rfl | rfl | rfl | rfl | rfl <;> rfl
theorem Box5.p4 (h : Box5 w q T a b c d e) (x : Value) : Box5 (w.setCell ⟨q, 4, none⟩ x) q T a b c d x := IsTab.cong (IsTab.set h 4 x) fun i hi => by
  rcases c5 hi with rfl | rfl | rfl | rfl | rfl <;> rfl
end
end Co
end Go.Proofs.YtnaamljflcgepaaDoor
namespace Go.Proofs.YtnaamljflcgepaaDoor
open Go.RowKit
set_option linter.unusedVariables false
set_option linter.unusedSimpArgs false
namespace Co
open Kc Mk Vm
/-- Cells that come in. -/
def IsCl (w : World) (a : Option Addr) (n : Nat) (f : Nat → Nat × Nat) : Prop := n = 0 ∨ ∃ b o, a = some ⟨b, o, none⟩ ∧ ∀ j, j < n → w.cell? ⟨b, o + j * 2, none⟩ = some (.int .u64 (f j).1) ∧ w.cell? ⟨b, o + j * 2 + 1, none⟩ = some (.int .u64 (f j).2)
theorem IsCl.below {w w' : World} {a : Option Addr} {n : Nat} {f : Nat → Nat × Nat} (h : IsCl w a n f) (hb : Below w.heap.size w w') : IsCl w' a n f := by
  rcases h with h | ⟨b, o, e, h⟩
  · exact .inl h
  · exact .inr ⟨b, o, e, fun j hj => ⟨keep1 hb (h j hj).1, keep1 hb (h j hj).2⟩⟩
/-- Words that come in. -/
def IsUs (w : World) (a : Option Addr) (n : Nat) (g : Nat → Nat) : Prop := n = 0 ∨ ∃ b o, a = some ⟨b, o, none⟩ ∧ ∀ j, j < n → w.cell? ⟨b, o + j, none⟩ = some (.int .u64 (g j))
theorem IsUs.below {w w' : World} {a : Option Addr} {n : Nat} {g : Nat → Nat} (h : IsUs w a n g) (hb : Below w.heap.size w w') : IsUs w' a n g := by
  rcases h with h | ⟨b, o, e, h⟩
  · exact .inl h
  · exact .inr ⟨b, o, e, fun j hj => keep1 hb (h j hj)⟩
end Co
end Go.Proofs.YtnaamljflcgepaaDoor
namespace Go.Proofs.YtnaamljflcgepaaDoor
open Go.RowKit
set_option linter.unusedVariables false
set_option linter.unusedSimpArgs false
namespace Co
open Kc Mk Vm
end Co
end Go.Proofs.YtnaamljflcgepaaDoor
namespace Go.Proofs.YtnaamljflcgepaaDoor
open Go.RowKit
set_option linter.unusedVariables false
set_option linter.unusedSimpArgs false
namespace Co
open Kc Mk Vm
/-- Words side by side as a digest. -/
def fX (g : Nat → Nat) : Hx := fun i => if i < 32 then wb (g (i / 8)) (i % 8) else 0#8
/-- The same while its first m bytes are laid. -/
def fP (g : Nat → Nat) (m : Nat) : Nat → Value := fun i => if i < m then Rl.ub (Rl.byteOf (g (i / 8)) (i % 8)) else bv 0#8
theorem fP_zero (g : Nat → Nat) : fP g 0 = fun _ => bv 0#8 := by funext i; unfold fP; rw [if_neg (by omega)]
def sel (a b c d : Nat) : Nat → Nat
  | 0 => a
  | 1 => b
  | 2 => c
  | _ => d
end Co
end Go.Proofs.YtnaamljflcgepaaDoor
namespace Go.Proofs.YtnaamljflcgepaaDoor
open Go.RowKit
set_option linter.unusedVariables false
set_option linter.unusedSimpArgs false
namespace Co
open Kc Mk Vm Rl
set_option maxHeartbeats 2000000 in
set_option maxRecDepth 100000 in
theorem put_at (w : World) (q T N L c o P : Nat) (g : Nat → Value) (p v : Nat) (h : IsTab w q T N g) (ho : o = 8 * P) (hp : 8 * p + 8 ≤ L) (hL : o + L ≤ N) (hN : L ≤ 64) (hv : v < 18446744073709551616) :
    Calls Tryd.prog 50 #[.slice (some ⟨q, o, none⟩) L c, .int .i64 p, .int .u64 v] w fun e w' => e = .returned (.tuple #[]) ∧ Rl.Put w q T N (putv g (P + p) v 8) w' := by
  have HP : Hid (Rl.Put w q T N (putv g (P + p) v 0) w) := Lib.hid ⟨by rw [putv_zero]; exact h, Kept.refl _ _⟩
  have HN := Lib.hid (And.intro hp (And.intro hN (And.intro ho hL)))
  have HV := Lib.hid hv
  have e1 : wrap64 (8 * (p : Int)) = ((8 * p : Nat) : Int) := by unfold wrap64; omega
  have HE := Lib.hid e1
  clear h hp hN hv ho hL
  go_enter Tryd.func50, Tryd.ntmps50
  go_wp2_with (fail)
  go_loopw [7] (fun i y => ∃ j : Nat, i = .int .i64 j ∧ Hid (j ≤ 8 ∧ Rl.Put w q T N (putv g (P + p) v j) y)) (fun i _ => 8 - (intOf i).toNat)
  case atStart => exact ⟨0, rfl, Lib.hid ⟨Nat.zero_le _, HP.out⟩⟩
  case round =>
    obtain ⟨j, rfl, hp⟩ := hrel
    have HR := Lib.hid hp.out
    clear hp HP e1
    by_cases hlt : (j : Int) < 8
    · have e1 := HE.out
      have x1 := HR.out.2.row.cell (8 * (P + p) + j) (by have := HN.out; omega)
      have x2 := HR.out.2.row.fz (8 * (P + p) + j)
      have HJ := Lib.hid (And.intro (show j < 8 by omega) (show wrap64 ((j : Int) + 1) = ((j + 1 : Nat) : Int) by unfold wrap64; omega))
      obtain ⟨R, hR⟩ : ∃ R, 8 * p = R := ⟨_, rfl⟩
      obtain ⟨J, hJ⟩ : ∃ J, R + j = J := ⟨_, rfl⟩
      have HJJ : Hid (8 * (P + p) + j = o + J) := Lib.hid (by have := HN.out; omega)
      rw [hR] at e1
      rw [HJJ.out] at x1 x2
      have e2 : wrap64 ((R : Int) + j) = (J : Int) := by have := HN.out; unfold wrap64; omega
      have e3 : wrap64 (8 * (j : Int)) = ((8 * j : Nat) : Int) := by unfold wrap64; omega
      have e4 : wrap64 (56 - ((8 * j : Nat) : Int)) = ((56 - 8 * j : Nat) : Int) := by unfold wrap64; omega
      have e5 : (J : Int) < L := by have := HN.out; omega
      clear hR hJ
      go_wp2_with (fail)
      refine ⟨⟨j + 1, by simp, Lib.hid ⟨HJ.out.1, ?_⟩⟩, by simp [intOf]; omega⟩
      have h9 := HR.out.2.set (8 * (P + p) + j) (Rl.ub (Rl.byteOf v j))
      rw [putv_next, HJJ.out] at h9
      have e9 : Rl.ub (Rl.byteOf v j) = .int .u8 ((v : Int) / 2 ^ (56 - 8 * j) % 256) := by unfold Rl.ub Rl.byteOf; push_cast; rfl
      rw [← e9]; exact h9
    · obtain rfl : j = 8 := by have := HR.out.1; omega
      go_wp2_with (fail)
      exact bodyPost_end (v := .tuple #[]) (by simp [results, Tryd.results50, go_sem]) rfl ⟨rfl, HR.out.2⟩
end Co
end Go.Proofs.YtnaamljflcgepaaDoor
namespace Go.Proofs.YtnaamljflcgepaaDoor
open Go.RowKit
set_option linter.unusedVariables false
set_option linter.unusedSimpArgs false
namespace Co
open Kc Mk Vm
theorem exec_buildE {P : Program} {o : Oper} {ev : Operand → Value} {w : World} (t : TypeId) (parts : Array (Nat × Operand)) (ho : o.op = .build t parts)
    (vs : Array (Nat × Value)) (hx : (parts.map fun (i, x) => (i, ev x)) = vs) (v : Value) (hl : (Instr.build t vs).run P w = .ok v w) : (execOp ev o).run P w = .ok (.value v) w := by
  unfold execOp
  simp only [ho]
  rw [hx]
  simp [hl, Result.andThen]
theorem infRg : (Tryd.prog.info? 33).map (·.size) = some 16 := by kernel_rfl
theorem undRg : Tryd.prog.underlying 33 = some (.array 16 32) := by kernel_rfl
theorem loadRg {w : World} {b : Nat} {M : Mac} (h : IsMac w b M) : (Instr.loadAt 33 (.pointer (some ⟨b, 8192, none⟩))).run Tryd.prog w = .ok (.agg (tab 16 (uv M.reg))) w := by
  refine run_loadAt_mid w b 8192 _ ((List.range 16).map (uv M.reg)) _ (fun j v hv => ?_) undRg rfl (by rw [List.length_map, List.length_range]; exact infRg)
  obtain ⟨hj, rfl⟩ := List.getElem?_eq_some_iff.1 hv
  simp only [List.length_map, List.length_range] at hj
  have := IsMac.reg h hj
  simpa [uv] using this
theorem buildHd (M : Mac) (w : World) : (Instr.build 35 #[(0, .agg (tab 16 (uv M.reg))), (1, .int .u64 M.pc), (2, .bool M.halted), (3, .int .u64 M.exit)]).run Tryd.prog w = .ok (.agg (tab 19 (hv M))) w := by kernel_rfl
set_option maxHeartbeats 8000000 in
set_option maxRecDepth 100000 in
theorem HeadOf_ok (w : World) (b : Nat) (M : Mac) (hm : IsMac w b M) :
    Calls Tryd.prog 16 #[.pointer (some ⟨b, 0, none⟩)] w fun e w' => e = .returned (.tuple #[.agg (tab 19 (hv M)), .nilIface]) ∧ Below w.heap.size w w' := by
  have z2 := zeroHd
  have HM := Lib.hid hm
  clear hm
  have hzs : (tab 19 (hv m0)).size = 19 := tab_size _ _
  generalize hz : (tab 19 (hv m0)) = zd at *
  have HZS := Lib.hid hzs
  clear hzs hz
  go_enter Tryd.func16, Tryd.ntmps16
  go_upto_region 3 with (fail)
  have H0 : Hid (IsMac (w.alloc (.cells zd 35)) b M ∧ Below w.heap.size w (w.alloc (.cells zd 35)) ∧ (w.alloc (.cells zd 35)).heap[w.heap.size]? = some (.cells zd 35 (0, 0)) ∧ b ≠ w.heap.size) := Lib.hid ⟨HM.out.below (ba _ _), ba _ _, heap_alloc_last w _, by have := HM.out.lt; omega⟩
  generalize w.alloc (.cells zd 35) = y0 at *
  generalize hq : w.heap.size = q2 at *
  have HQ := Lib.hid hq
  clear hq
  have HS : Hid ((fun z : World => IsMac z b M) y0.drew) := Lib.hid H0.out.1
  have HR : Hid (y0.drew.heap[q2]? = some (.cells zd 35 (0, 0))) := Lib.hid H0.out.2.2.1
  have HB : Hid (Below q2 w y0.drew) := Lib.hid H0.out.2.1.drew
  have HNE := Lib.hid H0.out.2.2.2
  clear H0
  refine wp_region_og (fun z : World => IsMac z b M) (.take 0 (.take 1 (.take 2 (.take 3 (.take 4 (.take 5 (.take 6 (.take 7 (.take 8 (.take 9 (.take 10 (.take 11 (.take 12 (.take 13 (.take 14 (.take 15 (.take 16 (.one 17 (.take 18 .done))))))))))))))))))) (by kernel_rfl) (by kernel_rfl) (HS.out) ?_
  generalize y0.drew = y1 at *
  refine og_tk (some 8) (.pointer (some ⟨b, 0, none⟩)) rfl rfl (by go_simp) (fun _ _ => by simp [execOp, go_sem]) ?_
  simp only [Act.put, pS]
  refine og_tk (some 9) (.pointer (some ⟨b, 0, none⟩)) rfl rfl (by go_simp) (fun _ _ => by simp [execOp, go_sem]) ?_
  simp only [Act.put, pS]
  refine og_tk (some 10) (.pointer (some ⟨b, 8192, none⟩)) rfl rfl (by go_simp) (fun _ _ => by simp [execOp, go_sem]) ?_
  simp only [Act.put, pS]
  refine og_ld (some 11) 33 (.tmp 10) (.pointer (some ⟨b, 8192, none⟩)) (.agg (tab 16 (uv M.reg))) rfl rfl (by go_simp) rfl rfl (fun y hy => loadRg hy) ?_
  simp only [Act.put, pS]
  refine og_tk (some 12) (.pointer (some ⟨b, 0, none⟩)) rfl rfl (by go_simp) (fun _ _ => by simp [execOp, go_sem]) ?_
  simp only [Act.put, pS]
  refine og_tk (some 13) (.pointer (some ⟨b, 0, none⟩)) rfl rfl (by go_simp) (fun _ _ => by simp [execOp, go_sem]) ?_
  simp only [Act.put, pS]
  refine og_tk (some 14) (.pointer (some ⟨b, 8208, none⟩)) rfl rfl (by go_simp) (fun _ _ => by simp [execOp, go_sem]) ?_
  simp only [Act.put, pS]
  refine og_ld (some 15) 32 (.tmp 14) (.pointer (some ⟨b, 8208, none⟩)) (.int .u64 M.pc) rfl rfl (by go_simp) rfl rfl (fun y hy => by have h := hy.pc; simp [Instr.loadAt, go_sem, h, Tryd.underlying32]) ?_
  simp only [Act.put, pS]
  refine og_tk (some 16) (.pointer (some ⟨b, 0, none⟩)) rfl rfl (by go_simp) (fun _ _ => by simp [execOp, go_sem]) ?_
  simp only [Act.put, pS]
  refine og_tk (some 17) (.pointer (some ⟨b, 0, none⟩)) rfl rfl (by go_simp) (fun _ _ => by simp [execOp, go_sem]) ?_
  simp only [Act.put, pS]
  refine og_tk (some 18) (.pointer (some ⟨b, 8209, none⟩)) rfl rfl (by go_simp) (fun _ _ => by simp [execOp, go_sem]) ?_
  simp only [Act.put, pS]
  refine og_ld (some 19) 4 (.tmp 18) (.pointer (some ⟨b, 8209, none⟩)) (.bool M.halted) rfl rfl (by go_simp) rfl rfl (fun y hy => by have h := hy.halted; simp [Instr.loadAt, go_sem, h, Tryd.underlying4]) ?_
  simp only [Act.put, pS]
  refine og_tk (some 20) (.pointer (some ⟨b, 0, none⟩)) rfl rfl (by go_simp) (fun _ _ => by simp [execOp, go_sem]) ?_
  simp only [Act.put, pS]
  refine og_tk (some 21) (.pointer (some ⟨b, 0, none⟩)) rfl rfl (by go_simp) (fun _ _ => by simp [execOp, go_sem]) ?_
  simp only [Act.put, pS]
  refine og_tk (some 22) (.pointer (some ⟨b, 8210, none⟩)) rfl rfl (by go_simp) (fun _ _ => by simp [execOp, go_sem]) ?_
  simp only [Act.put, pS]
  refine og_ld (some 23) 32 (.tmp 22) (.pointer (some ⟨b, 8210, none⟩)) (.int .u64 M.exit) rfl rfl (by go_simp) rfl rfl (fun y hy => by have h := hy.exit; simp [Instr.loadAt, go_sem, h, Tryd.underlying32]) ?_
  simp only [Act.put, pS]
  refine og_tk (some 24) (.agg (tab 19 (hv M))) rfl rfl (by go_simp) (fun y hy => exec_buildE 35 #[(0, .tmp 11), (1, .tmp 15), (2, .tmp 19), (3, .tmp 23)] rfl #[(0, .agg (tab 16 (uv M.reg))), (1, .int .u64 M.pc), (2, .bool M.halted), (3, .int .u64 M.exit)] (by simp only [List.map_toArray, List.map_cons, List.map_nil]; rfl) _ (buildHd M y)) ?_
  simp only [Act.put, pS]
  refine og_f rfl (by go_simp) fun K hK => ?_
  refine wp_store_row 35 (.tmp 2) (.tmp 24) rfl q2 (tab 19 (hv M)) rfl rfl 35 zd HR.out (infHd M) (by rw [tab_size]; exact HZS.out) (oneHd M) ?_
  have H9 : Hid (IsMac (y1.setRow q2 (tab 19 (hv M))) b M ∧ Below q2 w (y1.setRow q2 (tab 19 (hv M))) ∧ IsTab (y1.setRow q2 (tab 19 (hv M))) q2 35 19 (hv M)) := Lib.hid ⟨IsTab.rowOther HS.out HNE.out, below_setRow HB.out (Nat.le_refl _) _, setRow_heap y1 q2 _ _ _ _ HR.out⟩
  refine hK _ _ H9.out.1 ?_
  clear hK K
  try simp only [List.getElem_toArray, List.getElem_cons_succ, List.getElem_cons_zero, Act.put, pS]
  refine og_tk (some 3) (.nilIface) rfl rfl (by go_simp) (fun _ _ => by simp [execOp, go_sem]) ?_
  simp only [Act.put, pS]
  refine og_done (NoPanic.normal ?_)
  generalize y1.setRow q2 (tab 19 (hv M)) = y2 at *
  clear HS HR HB
  go_wp2_with (fail)
  exact bodyPost_ret (Kc.results_cell_tmp rfl _ _ q2 35 _ (0, 0) _ rfl H9.out.2.2 undHd rfl (infHd M) .nilIface rfl) rfl ⟨rfl, by rw [HQ.out]; exact H9.out.2.1⟩
end Co
end Go.Proofs.YtnaamljflcgepaaDoor
namespace Go.Proofs.YtnaamljflcgepaaDoor
open Go.RowKit
set_option linter.unusedVariables false
set_option linter.unusedSimpArgs false
namespace Co
open Kc Mk Vm
theorem putv_fP (g : Nat → Nat) (i : Nat) : Rl.putv (fP g (8 * i)) i (g i) 8 = fP g (8 * (i + 1)) := by
  funext j
  unfold Rl.putv fP
  by_cases h : 8 * i ≤ j ∧ j < 8 * i + 8
  · rw [if_pos h, if_pos (by omega), show j / 8 = i from by omega, show j - 8 * i = j % 8 from by omega]
  · rw [if_neg h]
    by_cases h2 : j < 8 * i
    · rw [if_pos h2, if_pos (by omega)]
    · rw [if_neg h2, if_neg (by omega)]
/-- The four digests that sixteen words are. -/
def lf4 (g : Nat → Nat) : Nat → Hx := fun k => fX fun t => g (4 * k + t)
theorem fP_hs {w : World} {q T : Nat} {g : Nat → Nat} (h : IsTab w q T 128 (fP g 128)) : IsHs w (some ⟨q, 0, none⟩) 4 (lf4 g) := .inr ⟨q, 0, rfl, fun k j hk hj => by
  rw [show 0 + 32 * k + j = 32 * k + j from by omega, h.cell (32 * k + j) (by omega)]
  unfold fP lf4 fX
  rw [if_pos (by omega), if_pos hj, show (32 * k + j) / 8 = 4 * k + j / 8 from by omega, show (32 * k + j) % 8 = j % 8 from by omega]
  exact congrArg some (ub_wb _ _)⟩
theorem idxRg (f : Nat → Nat) (i : Nat) (h : i < 16) (w : World) : (Instr.index 33 (.agg (tab 16 (uv f))) (.int .i64 i)).run Tryd.prog w = .ok (.int .u64 (f i)) w := by
  have e : i = 0 ∨ i = 1 ∨ i = 2 ∨ i = 3 ∨ i = 4 ∨ i = 5 ∨ i = 6 ∨ i = 7 ∨ i = 8 ∨ i = 9 ∨ i = 10 ∨ i = 11 ∨ i = 12 ∨ i = 13 ∨ i = 14 ∨ i = 15 := by omega
  rcases e with rfl | rfl | rfl | rfl | rfl | rfl | rfl | rfl | rfl | rfl | rfl | rfl | rfl | rfl | rfl | rfl <;> (clear h; show _ = _; kernel_rfl)
theorem build4 (w : World) : (Instr.build 137 #[]).run Tryd.prog w = .ok (.agg (tab 128 fun _ => bv 0#8)) w := by kernel_rfl
theorem zero4 (w : World) : (zeroValue 137).run Tryd.prog w = .ok (.agg (tab 128 fun _ => bv 0#8)) w := by kernel_rfl
theorem inf4' : (Tryd.prog.info? 137).map (·.size) = some 128 := by kernel_rfl
theorem inf4 (g : Nat → Value) : (Tryd.prog.info? 137).map (·.size) = some (tab 128 g).size := by rw [tab_size]; exact inf4'
theorem loadRgBox {w : World} {q : Nat} {M : Mac} (h : IsTab w q 35 19 (hv M)) : (Instr.loadAt 33 (.pointer (some ⟨q, 0, none⟩))).run Tryd.prog w = .ok (.agg (tab 16 (uv M.reg))) w := by
  refine run_loadAt_mid w q 0 _ ((List.range 16).map (uv M.reg)) _ (fun j v hv => ?_) undRg rfl (by rw [List.length_map, List.length_range]; exact infRg)
  obtain ⟨hj, rfl⟩ := List.getElem?_eq_some_iff.1 hv
  simp only [List.length_map, List.length_range] at hj
  have h1 := IsTab.cell h j (by omega)
  have e : Co.hv M j = .int .u64 (M.reg j) := by unfold Co.hv; rw [if_pos hj]
  rw [e] at h1
  simpa [uv] using h1
end Co
end Go.Proofs.YtnaamljflcgepaaDoor
