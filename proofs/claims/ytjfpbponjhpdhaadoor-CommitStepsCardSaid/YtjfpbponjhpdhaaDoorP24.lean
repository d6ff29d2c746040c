/- Merged of Cb Cc Cd. Own work. -/
import Derived.Test.YtjfpbponjhpdhaaDoorP23
import Derived.Test.YtjfpbponjhpdhaaDoorP07
namespace Go.Proofs.YtjfpbponjhpdhaaDoor
open Go.RowKit
set_option linter.unusedVariables false
set_option linter.unusedSimpArgs false
namespace Co
open Kc Mk Vm
/-- A block of two cells. -/
def v2 (a b : Value) : Nat → Value
  | 0 => a
  | _ => b
def Box2 (w : World) (q T : Nat) (a b : Value) : Prop := IsTab w q T 2 (v2 a b)
section
variable {w w' : World} {q T : Nat} {a b : Value}
theorem Box2.k0 (h : Box2 w q T a b) : w.cell? ⟨q, 0, none⟩ = some a := IsTab.cell h 0 (by decide)
theorem Box2.k1 (h : Box2 w q T a b) : w.cell? ⟨q, 1, none⟩ = some b := IsTab.cell h 1 (by decide)
theorem Box2.f (h : Box2 w q T a b) (i : Nat) : w.frozen? ⟨q, i, none⟩ = false := IsTab.fz h i
theorem Box2.new (w : World) (T : Nat) (a b : Value) : Box2 (w.alloc (.cells #[a, b] T)) w.heap.size T a b := IsTab.new w T 2 (v2 a b)
theorem Box2.below (h : Box2 w q T a b) (hb : Below w.heap.size w w') : Box2 w' q T a b := IsTab.below h hb
theorem Box2.lt (h : Box2 w q T a b) : q < w.heap.size := IsTab.lt h
theorem Box2.p0 (h : Box2 w q T a b) (x : Value) : Box2 (w.setCell ⟨q, 0, none⟩ x) q T x b := IsTab.cong (IsTab.set h 0 x) fun i hi => by
  have : i = 0 ∨ i = 1 := by omega
  rcases this with rfl | rfl <;> rfl
theorem Box2.p1 (h : Box2 w q T a b) (x : Value) : Box2 (w.setCell ⟨q, 1, none⟩ x) q T a x := IsTab.cong (IsTab.set h 1 x) fun i hi => by
  have : i = 0 ∨ i = 1 := by omega
  rcases this with rfl | rfl <;> rfl
end
theorem ixMemU (b i : Nat) (hi : i < 8192) (w : World) : (Instr.indexAt 34 (.pointer (some ⟨b, 0, none⟩)) (.int .u64 i)).run Tryd.prog w = .ok (.pointer (some ⟨b, i, none⟩)) w := by
  have h1 : (i : Int) < 8192 := by omega
  simp [go_sem, h1, Tryd.underlying34]
/-- A head, as a value. -/
def hv (M : Mac) : Nat → Value := fun i => if i < 16 then .int .u64 (M.reg i) else if i = 16 then .int .u64 M.pc else if i = 17 then .bool M.halted else .int .u64 M.exit
theorem oneHd (M : Mac) : (tab 19 (hv M)).all (·.oneCell') = true := tab_one fun i => by
  unfold hv
  repeat' split
  all_goals rfl
set_option maxRecDepth 100000 in
theorem zeroHd (w : World) : (zeroValue 48).run Tryd.prog w = .ok (.agg (tab 19 (hv m0))) w := by kernel_rfl
theorem infHd' : (Tryd.prog.info? 48).map (·.size) = some 19 := by kernel_rfl
theorem infHd (M : Mac) : (Tryd.prog.info? 48).map (·.size) = some (tab 19 (hv M)).size := by rw [tab_size]; exact infHd'
theorem undHd : Tryd.prog.underlying 48 = some (.struct (Tryd.prog.fieldsOf 48)) := by kernel_rfl
theorem undPt : Tryd.prog.underlying 54 = some (.struct (Tryd.prog.fieldsOf 54)) := by kernel_rfl
theorem infPt : (Tryd.prog.info? 54).map (·.size) = some 2 := by kernel_rfl
set_option maxHeartbeats 2000000 in
set_option maxRecDepth 100000 in
theorem Prove_ok (w : World) (b i : Nat) (M : Mac) (hm : IsMac w b M) (hok : ∀ i, M.mem i < 18446744073709551616) (hi : i < 8192) (ht : Laid.KTab w) :
    Calls Tryd.prog 18 #[.pointer (some ⟨b, 0, none⟩), .int .u64 i] w fun e w' => ∃ a c, e = .returned (.tuple #[.agg #[.int .u64 (M.mem i), .slice a 13 c], .nilIface]) ∧ 13 ≤ c ∧ c ≤ maxLen ∧ a ≠ none ∧ w'.ownsRow w.heap.size 42 32 (.slice a 13 c) 13 (flat 13 (sib (mg M) i)) ∧ Below w.heap.size w w' := by
  have HM := Lib.hid (And.intro hm (And.intro hok (And.intro hi ht)))
  have t1 : decide (8192 ≤ (i : Int)) = false := by simp; omega
  have e1 : wrap64 (i : Int) = (i : Int) := by unfold wrap64; omega
  have HE1 := Lib.hid e1
  clear hm hok hi ht e1
  have HB0 := Lib.hid (Box2.new w 54 (.int .u64 0) (.slice none 0 0))
  have HB1 : Hid (Below w.heap.size w (w.alloc (.cells #[.int .u64 0, .slice none 0 0] 54)) ∧ (w.alloc (.cells #[.int .u64 0, .slice none 0 0] 54)).heap.size = w.heap.size + 1) := Lib.hid ⟨ba _ _, by simp⟩
  go_enter Tryd.func18, Tryd.ntmps18
  go_upto_region 5 with (fail)
  clear t1
  generalize w.alloc (.cells #[.int .u64 0, .slice none 0 0] 54) = y0 at *
  generalize hq : w.heap.size = q0 at *
  have HQ := Lib.hid hq
  clear hq
  have HL := Lib.hid (leaves_walk y0 b M (HM.out.1.below (HQ.out ▸ HB1.out.1)) HM.out.2.1)
  have he1 := HE1.out
  go_upto_region 6 with (first
    | (go_at_call 38; (with_reducible refine HL.out.mono ?_); rintro e y1 ⟨q, he, hs, hge, hb⟩; obtain rfl : e = _ := he; have H1 : Hid (Box2 y1 q0 54 (.int .u64 0) (.slice none 0 0) ∧ Below q0 w y1 ∧ q0 < y1.heap.size) := Lib.hid ⟨HB0.out.below hb, HB1.out.1.trans (hb.mono (by have := HB1.out.2; omega)), by have := hb.size; have := HB1.out.2; omega⟩; have hpa := path_any 13 (some ⟨q, 0, none⟩) 8192 8192 (mlf M) (i : Int) y1 hs (fun h => by cases h) (Nat.le_refl _) (by decide) (ktab_below HM.out.2.2.2 (HQ.out ▸ H1.out.2.1)); rw [wrongP_mem 8192 (Nat.le_refl _) i HM.out.2.2.1, pathLen_mem 8192 (Nat.le_refl _) i HM.out.2.2.1, Int.toNat_natCast, err0] at hpa; have HP := Lib.hid hpa; clear hs hge hb HL hpa)
    | (go_at_call 40; refine HP.out.mono ?_; rintro e y2 ⟨V, he, hrow, hb⟩; obtain rfl : e = _ := he; obtain ⟨a, c, rfl, hsa, hna, hnc, hcm, hal⟩ := hs_of hrow; have H2 : Hid (Box2 y2 q0 54 (.int .u64 0) (.slice none 0 0) ∧ Below q0 w y2 ∧ q0 < y1.heap.size ∧ y2.ownsRow y1.heap.size 42 32 (.slice a 13 c) 13 (flat 13 (sib (mg M) i)) ∧ 13 ≤ c ∧ c ≤ maxLen ∧ a ≠ none ∧ y1.heap.size ≤ y2.heap.size) := Lib.hid ⟨H1.out.1.below hb, H1.out.2.1.trans (hb.mono (by have := H1.out.2.2; omega)), H1.out.2.2, hrow, hnc, hcm, (fun h => by have := (hna h).1; omega), hb.size⟩; clear hrow hb hsa hna hnc hcm hal HP H1))
  clear he1 HB0 HB1
  have kc := (HM.out.1.below (HQ.out ▸ H2.out.2.1)).mem HM.out.2.2.1
  have ix := fun u => ixMemU b i HM.out.2.2.1 u
  have k0 := H2.out.1.k0
  have f0 := H2.out.1.f 0
  have k1 := (H2.out.1.p0 (.int .u64 (M.mem i))).k1
  have f1 := (H2.out.1.p0 (.int .u64 (M.mem i))).f 1
  have H3 : Hid (Box2 ((y2.setCell ⟨q0, 0, none⟩ (.int .u64 (M.mem i))).setCell ⟨q0, 1, none⟩ (.slice a 13 c)) q0 54 (.int .u64 (M.mem i)) (.slice a 13 c) ∧ Below q0 w ((y2.setCell ⟨q0, 0, none⟩ (.int .u64 (M.mem i))).setCell ⟨q0, 1, none⟩ (.slice a 13 c)) ∧ ((y2.setCell ⟨q0, 0, none⟩ (.int .u64 (M.mem i))).setCell ⟨q0, 1, none⟩ (.slice a 13 c)).ownsRow q0 42 32 (.slice a 13 c) 13 (flat 13 (sib (mg M) i))) := Lib.hid (by
    refine ⟨(H2.out.1.p0 _).p1 _, (H2.out.2.1.setCell (Nat.le_refl _) _).setCell (Nat.le_refl _) _, ?_⟩
    have hk : Kept (fun k => k = q0) y2 ((y2.setCell ⟨q0, 0, none⟩ (.int .u64 (M.mem i))).setCell ⟨q0, 1, none⟩ (.slice a 13 c)) := ((Kept.refl (fun k => k = q0) y2).setCell (p := ⟨q0, 0, none⟩) (.inl rfl) _).setCell (p := ⟨q0, 1, none⟩) (.inl rfl) _
    have hn : ∀ k, (Value.slice a 13 c).ownBlock = some k → y1.heap.size ≤ k := fun k hk => by
      rcases ownsRow_forms H2.out.2.2.2.1 with ⟨h, _⟩ | ⟨g, cap, h, hg, _⟩
      · rw [h] at hk; cases hk
      · rw [h] at hk; cases hk; exact hg
    exact ownsRow_base (hk.row H2.out.2.2.2.1 fun k hk e => by have := hn k hk; have := H2.out.2.2.1; omega) (Nat.le_of_lt H2.out.2.2.1))
  go_wp2_with (fail)
  generalize (y2.setCell ⟨q0, 0, none⟩ (.int .u64 (M.mem i))).setCell ⟨q0, 1, none⟩ (.slice a 13 c) = y3 at *
  exact bodyPost_ret (Kc.results_cell_tmp rfl _ _ q0 54 _ (0, 0) _ rfl H3.out.1 undPt rfl infPt .nilIface rfl) rfl ⟨a, c, rfl, H2.out.2.2.2.2.1, H2.out.2.2.2.2.2.1, H2.out.2.2.2.2.2.2.1, by rw [HQ.out]; exact H3.out.2.2, by rw [HQ.out]; exact H3.out.2.1⟩
end Co
end Go.Proofs.YtjfpbponjhpdhaaDoor
namespace Go.Proofs.YtjfpbponjhpdhaaDoor
open Go.RowKit
set_option linter.unusedVariables false
set_option linter.unusedSimpArgs false
namespace Co
open Kc Mk Vm
set_option maxHeartbeats 2000000 in
set_option maxRecDepth 100000 in
theorem Holds_ok (w : World) (r : Hx) (i v c : Nat) (a : Option Addr) (p : Nat → Hx) (hs : IsHs w a 13 p) (hc : 13 ≤ c) (hi : i < 8192) (hv : v < 18446744073709551616) (ht : Laid.KTab w) :
    Calls Tryd.prog 35 #[.agg (tab 32 fun i => bv (r i)), .int .u64 i, .agg #[.int .u64 v, .slice a 13 c]] w fun e w' => e = .returned (.tuple #[.bool (same32 (fold i (lfX v) p 13) r), .nilIface]) ∧ Below w.heap.size w w' := by
  have t1 : decide (8192 ≤ (i : Int)) = false := by simp; omega
  have HE1 : Hid (IntKind.i64.wrap (i : Int) = (i : Int)) := Lib.hid (by simp [IntKind.wrap, IntKind.bits, IntKind.signed, IntKind.min, IntKind.max]; omega)
  have HV0 := Lib.hid (And.intro hs (And.intro hv (And.intro hc (And.intro hi ht))))
  clear hs hv hc hi ht
  have HW : Hid (IsTab ((w.alloc (.cells (tab 32 fun i => bv (r i)) 42)).alloc (.cells #[.int .u64 v, .slice a 13 c] 54)) w.heap.size 42 32 (fun i => bv (r i)) ∧ Box2 ((w.alloc (.cells (tab 32 fun i => bv (r i)) 42)).alloc (.cells #[.int .u64 v, .slice a 13 c] 54)) (w.heap.size + 1) 54 (.int .u64 v) (.slice a 13 c) ∧ Below w.heap.size w ((w.alloc (.cells (tab 32 fun i => bv (r i)) 42)).alloc (.cells #[.int .u64 v, .slice a 13 c] 54))) := Lib.hid (by
    have e1 : (w.alloc (.cells (tab 32 fun i => bv (r i)) 42)).heap.size = w.heap.size + 1 := by simp
    refine ⟨(IsTab.new w 42 32 _).alloc _, ?_, (ba _ _).alloc (by simp) _⟩
    have h := Box2.new (w.alloc (.cells (tab 32 fun i => bv (r i)) 42)) 54 (.int .u64 v) (.slice a 13 c)
    rw [e1] at h; exact h)
  have z2 := zeroHash
  generalize hz : (tab 32 fun _ => bv 0#8) = zh at *
  have HZ := Lib.hid hz
  clear hz
  go_enter Tryd.func35, Tryd.ntmps35
  go_upto_region 1 with (fail)
  generalize (w.alloc (.cells (tab 32 fun i => bv (r i)) 42)).alloc (.cells #[.int .u64 v, .slice a 13 c] 54) = y0 at *
  have HB3 := Lib.hid HW.out.1
  have HB5 := Lib.hid HW.out.2.1
  have HB0 : Hid (Below w.heap.size w y0 ∧ Below y0.heap.size y0 y0) := Lib.hid ⟨HW.out.2.2, Below.refl _ _⟩
  have HV : Hid (IsHs y0 a 13 p ∧ v < 18446744073709551616 ∧ 13 ≤ c ∧ i < 8192 ∧ Laid.KTab w) := Lib.hid ⟨HV0.out.1.below HW.out.2.2, HV0.out.2.1, HV0.out.2.2.1, HV0.out.2.2.2.1, HV0.out.2.2.2.2⟩
  clear HW HV0
  generalize w.heap.size + 1 = q5 at *
  generalize hq : w.heap.size = q3 at *
  have HQ := Lib.hid hq
  clear hq
  have k1 := HB5.out.k1
  go_upto_region 5 with (fail)
  clear k1 t1
  refine wp_region_og (fun z : World => Below y0.heap.size y0 z) (.take 0 (.take 1 (.take 2 (.take 3 (.take 5 (.take 6 (.two 4 (.two 7 (.take 8 (.take 9 (.take 10 (.one 11 (.one 12 (.take 13 .done)))))) 11 (.one 7 (.take 8 (.take 9 (.take 10 (.one 12 (.take 13 .done))))))) 11 (.one 4 (.one 7 (.take 8 (.take 9 (.take 10 (.one 12 (.take 13 .done)))))))))))))) (by kernel_rfl) (by kernel_rfl) (Below.refl _ _).drew ?_
  have HY : Hid (Below y0.heap.size y0 y0.drew ∧ True) := Lib.hid ⟨(Below.refl _ _).drew, trivial⟩
  generalize y0.drew = y1 at *
  refine og_tk (some 19) (.int .u64 i) rfl rfl (by go_simp) (fun _ _ => by simp [execOp, go_sem]) ?_
  simp only [Act.put, pS]
  refine og_tk (some 20) (.int .i64 i) rfl rfl (by go_simp) (fun _ _ => by simp [execOp, go_sem, HE1.out]) ?_
  simp only [Act.put, pS]
  refine og_tk (some 21) (.pointer (some ⟨q5, 0, none⟩)) rfl rfl (by go_simp) (fun _ _ => by simp [execOp, go_sem]) ?_
  simp only [Act.put, pS]
  refine og_ld (some 22) 33 (.tmp 21) (.pointer (some ⟨q5, 0, none⟩)) (.int .u64 v) rfl rfl (by go_simp) rfl rfl (fun y hy => by have h := keep1 hy HB5.out.k0; simp [Instr.loadAt, go_sem, h, Tryd.underlying33]) ?_
  simp only [Act.put, pS]
  refine og_tk (some 24) (.pointer (some ⟨q5, 1, none⟩)) rfl rfl (by go_simp) (fun _ _ => by simp [execOp, go_sem]) ?_
  simp only [Act.put, pS]
  refine og_ld (some 25) 52 (.tmp 24) (.pointer (some ⟨q5, 1, none⟩)) (.slice a 13 c) rfl rfl (by go_simp) rfl rfl (fun y hy => by have h := keep1 hy HB5.out.k1; simp [Instr.loadAt, go_sem, h, Tryd.underlying52]) ?_
  simp only [Act.put, pS]
  refine og_two (og_of rfl (by go_simp) fun K hK => ?_) (og_of rfl (by go_simp) fun K hK => ?_)
  · have HLF := Lib.hid (leaf_walk y1 v HV.out.2.1)
    go_simp
    refine HLF.out.mono ?_
    rintro e y2 ⟨he, hb⟩
    obtain rfl : e = _ := he
    have HY : Hid (Below y0.heap.size y0 y2 ∧ True) := Lib.hid ⟨bl HY.out.1 hb, trivial⟩
    clear hb
    try clear HLF
    try clear HFO
    refine hK _ _ HY.out.1 ?_
    clear hK K
    try simp only [List.getElem_toArray, List.getElem_cons_succ, List.getElem_cons_zero, Act.put, pS]
    refine og_two (og_of rfl (by go_simp) fun K hK => ?_) (og_of rfl (by go_simp) fun K hK => ?_)
    · have HFO := Lib.hid (fold_ok i (lfX v) a 13 c p y2 (HV.out.1.below (bl HB0.out.2 HY.out.1)) HV.out.2.2.1 (by decide) HV.out.2.2.2.1 (ktab_below HV.out.2.2.2.2 (HQ.out ▸ HB0.out.1.trans (HY.out.1.mono (by have := HB0.out.1.size; have := HQ.out; omega)))))
      go_simp
      refine HFO.out.mono ?_
      rintro e y3 ⟨he, hb⟩
      obtain rfl : e = _ := he
      have HY : Hid (Below y0.heap.size y0 y3 ∧ True) := Lib.hid ⟨bl HY.out.1 hb, trivial⟩
      clear hb
      try clear HLF
      try clear HFO
      refine hK _ _ HY.out.1 ?_
      clear hK K
      try simp only [List.getElem_toArray, List.getElem_cons_succ, List.getElem_cons_zero, Act.put, pS]
      refine og_tk (some 18) (.tuple #[dv (fold i (lfX v) p 13), .nilIface]) rfl rfl (by go_simp) (fun _ _ => by simp [execOp, go_sem]) ?_
      simp only [Act.put, pS]
      refine og_tk (some 27) (dv (fold i (lfX v) p 13)) rfl rfl (by go_simp) (fun _ _ => by simp [execOp, go_sem]) ?_
      simp only [Act.put, pS]
      refine og_tk (some 28) (.nilIface) rfl rfl (by go_simp) (fun _ _ => by simp [execOp, go_sem]) ?_
      simp only [Act.put, pS]
      refine og_f rfl (by go_simp) fun K hK => ?_
      go_simp
      have HY : Hid (Below y0.heap.size y0 (y3.alloc (.cells zh 42)) ∧ IsTab (y3.alloc (.cells zh 42)) y3.heap.size 42 32 (fun _ => bv 0#8) ∧ y0.heap.size ≤ y3.heap.size) := Lib.hid ⟨HY.out.1.alloc HY.out.1.size _, put_new y3 (fun _ => 0#8) zh HZ.out, HY.out.1.size⟩
      refine hK _ _ HY.out.1 ?_
      clear hK K
      generalize y3.alloc (.cells zh 42) = y4 at *
      generalize y3.heap.size = q8 at *
      try simp only [List.getElem_toArray, List.getElem_cons_succ, List.getElem_cons_zero, Act.put, pS]
      refine og_f rfl (by go_simp) fun K hK => ?_
      refine wp_store_row 42 (.tmp 8) (.tmp 27) rfl q8 (tab 32 fun j => bv ((fold i (lfX v) p 13) j)) rfl rfl 42 _ (HY.out.2.1) (infH _) (by simp only [tab_size]) (one_bv _ _) ?_
      have HE : Hid (IsTab (y4.setRow q8 (tab 32 fun j => bv ((fold i (lfX v) p 13) j))) q8 42 32 (fun j => bv ((fold i (lfX v) p 13) j)) ∧ IsTab (y4.setRow q8 (tab 32 fun j => bv ((fold i (lfX v) p 13) j))) q3 42 32 (fun j => bv (r j)) ∧ Below q3 w (y4.setRow q8 (tab 32 fun j => bv ((fold i (lfX v) p 13) j)))) := Lib.hid (by
        have hq8 := HY.out.2.2
        have hq3 := HB0.out.2
        have hlt := HB3.out.lt
        refine ⟨HY.out.2.1.row, (HB3.out.below (HY.out.1.mono (Nat.le_refl _))).rowOther (by omega), below_setRow (HB0.out.1.trans (HY.out.1.mono (by have := HB0.out.1.size; have := HQ.out; omega))) (by omega) _⟩)
      refine hK _ _ (below_setRow HY.out.1 HY.out.2.2 _) ?_
      clear hK K
      try simp only [List.getElem_toArray, List.getElem_cons_succ, List.getElem_cons_zero, Act.put, pS]
      generalize y4.setRow q8 (tab 32 fun j => bv ((fold i (lfX v) p 13) j)) = y9 at *
      refine og_tk (some 9) (.nilIface) rfl rfl (by go_simp) (fun _ _ => by simp [execOp, go_sem]) ?_
      simp only [Act.put, pS]
      refine og_done (NoPanic.normal ?_)
      have D8 := Lib.hid (load32h HE.out.1)
      have D3 := Lib.hid (load32h HE.out.2.1)
      go_wp2_with (first
        | ((with_reducible refine wpList_loadG (P := Tryd.prog) (w := y9) (ty := 42) (x := .tmp 8) (p := .pointer (some ⟨q8, 0, none⟩)) (v := dv (fold i (lfX v) p 13)) ?_ ?_ ?_ D8.out ?_); rotate_left; (· exact rfl); (· exact rfl); rotate_left; (· go_simp))
        | ((with_reducible refine wpList_loadG (P := Tryd.prog) (w := y9) (ty := 42) (x := .tmp 3) (p := .pointer (some ⟨q3, 0, none⟩)) (v := dv r) ?_ ?_ ?_ D3.out ?_); rotate_left; (· exact rfl); (· exact rfl); rotate_left; (· go_simp))
        | (refine wpList_eqG (by go_simp) (.tmp 32) (.tmp 33) 42 (fold i (lfX v) p 13) r rfl rfl rfl ?_))
      exact bodyPost_ret (v := .tuple #[.bool (same32 (fold i (lfX v) p 13) r), .nilIface]) (by simp [results, Tryd.results35, go_sem]) rfl ⟨rfl, by rw [HQ.out]; exact HE.out.2.2⟩
    · go_simp
      have HY : Hid (Below y0.heap.size y0 (y2.alloc (.cells zh 42)) ∧ IsTab (y2.alloc (.cells zh 42)) y2.heap.size 42 32 (fun _ => bv 0#8) ∧ y0.heap.size ≤ y2.heap.size) := Lib.hid ⟨HY.out.1.alloc HY.out.1.size _, put_new y2 (fun _ => 0#8) zh HZ.out, HY.out.1.size⟩
      refine hK _ _ HY.out.1 ?_
      clear hK K
      generalize y2.alloc (.cells zh 42) = y3 at *
      generalize y2.heap.size = q8 at *
      try simp only [List.getElem_toArray, List.getElem_cons_succ, List.getElem_cons_zero, Act.put, pS]
      refine og_f rfl (by go_simp) fun K hK => ?_
      have HFO := Lib.hid (fold_ok i (lfX v) a 13 c p y3 (HV.out.1.below (bl HB0.out.2 HY.out.1)) HV.out.2.2.1 (by decide) HV.out.2.2.2.1 (ktab_below HV.out.2.2.2.2 (HQ.out ▸ HB0.out.1.trans (HY.out.1.mono (by have := HB0.out.1.size; have := HQ.out; omega)))))
      go_simp
      refine HFO.out.mono ?_
      rintro e y4 ⟨he, hb⟩
      obtain rfl : e = _ := he
      have HY : Hid (Below y0.heap.size y0 y4 ∧ IsTab y4 q8 42 32 (fun _ => bv 0#8) ∧ y0.heap.size ≤ q8) := Lib.hid ⟨bl HY.out.1 hb, HY.out.2.1.below hb, HY.out.2.2⟩
      clear hb
      try clear HLF
      try clear HFO
      refine hK _ _ HY.out.1 ?_
      clear hK K
      try simp only [List.getElem_toArray, List.getElem_cons_succ, List.getElem_cons_zero, Act.put, pS]
      refine og_tk (some 18) (.tuple #[dv (fold i (lfX v) p 13), .nilIface]) rfl rfl (by go_simp) (fun _ _ => by simp [execOp, go_sem]) ?_
      simp only [Act.put, pS]
      refine og_tk (some 27) (dv (fold i (lfX v) p 13)) rfl rfl (by go_simp) (fun _ _ => by simp [execOp, go_sem]) ?_
      simp only [Act.put, pS]
      refine og_tk (some 28) (.nilIface) rfl rfl (by go_simp) (fun _ _ => by simp [execOp, go_sem]) ?_
      simp only [Act.put, pS]
      refine og_f rfl (by go_simp) fun K hK => ?_
      refine wp_store_row 42 (.tmp 8) (.tmp 27) rfl q8 (tab 32 fun j => bv ((fold i (lfX v) p 13) j)) rfl rfl 42 _ (HY.out.2.1) (infH _) (by simp only [tab_size]) (one_bv _ _) ?_
      have HE : Hid (IsTab (y4.setRow q8 (tab 32 fun j => bv ((fold i (lfX v) p 13) j))) q8 42 32 (fun j => bv ((fold i (lfX v) p 13) j)) ∧ IsTab (y4.setRow q8 (tab 32 fun j => bv ((fold i (lfX v) p 13) j))) q3 42 32 (fun j => bv (r j)) ∧ Below q3 w (y4.setRow q8 (tab 32 fun j => bv ((fold i (lfX v) p 13) j)))) := Lib.hid (by
        have hq8 := HY.out.2.2
        have hq3 := HB0.out.2
        have hlt := HB3.out.lt
        refine ⟨HY.out.2.1.row, (HB3.out.below (HY.out.1.mono (Nat.le_refl _))).rowOther (by omega), below_setRow (HB0.out.1.trans (HY.out.1.mono (by have := HB0.out.1.size; have := HQ.out; omega))) (by omega) _⟩)
      refine hK _ _ (below_setRow HY.out.1 HY.out.2.2 _) ?_
      clear hK K
      try simp only [List.getElem_toArray, List.getElem_cons_succ, List.getElem_cons_zero, Act.put, pS]
      generalize y4.setRow q8 (tab 32 fun j => bv ((fold i (lfX v) p 13) j)) = y9 at *
      refine og_tk (some 9) (.nilIface) rfl rfl (by go_simp) (fun _ _ => by simp [execOp, go_sem]) ?_
      simp only [Act.put, pS]
      refine og_done (NoPanic.normal ?_)
      have D8 := Lib.hid (load32h HE.out.1)
      have D3 := Lib.hid (load32h HE.out.2.1)
      go_wp2_with (first
        | ((with_reducible refine wpList_loadG (P := Tryd.prog) (w := y9) (ty := 42) (x := .tmp 8) (p := .pointer (some ⟨q8, 0, none⟩)) (v := dv (fold i (lfX v) p 13)) ?_ ?_ ?_ D8.out ?_); rotate_left; (· exact rfl); (· exact rfl); rotate_left; (· go_simp))
        | ((with_reducible refine wpList_loadG (P := Tryd.prog) (w := y9) (ty := 42) (x := .tmp 3) (p := .pointer (some ⟨q3, 0, none⟩)) (v := dv r) ?_ ?_ ?_ D3.out ?_); rotate_left; (· exact rfl); (· exact rfl); rotate_left; (· go_simp))
        | (refine wpList_eqG (by go_simp) (.tmp 32) (.tmp 33) 42 (fold i (lfX v) p 13) r rfl rfl rfl ?_))
      exact bodyPost_ret (v := .tuple #[.bool (same32 (fold i (lfX v) p 13) r), .nilIface]) (by simp [results, Tryd.results35, go_sem]) rfl ⟨rfl, by rw [HQ.out]; exact HE.out.2.2⟩
  · go_simp
    have HY : Hid (Below y0.heap.size y0 (y1.alloc (.cells zh 42)) ∧ IsTab (y1.alloc (.cells zh 42)) y1.heap.size 42 32 (fun _ => bv 0#8) ∧ y0.heap.size ≤ y1.heap.size) := Lib.hid ⟨HY.out.1.alloc HY.out.1.size _, put_new y1 (fun _ => 0#8) zh HZ.out, HY.out.1.size⟩
    refine hK _ _ HY.out.1 ?_
    clear hK K
    generalize y1.alloc (.cells zh 42) = y2 at *
    generalize y1.heap.size = q8 at *
    try simp only [List.getElem_toArray, List.getElem_cons_succ, List.getElem_cons_zero, Act.put, pS]
    refine og_f rfl (by go_simp) fun K hK => ?_
    have HLF := Lib.hid (leaf_walk y2 v HV.out.2.1)
    go_simp
    refine HLF.out.mono ?_
    rintro e y3 ⟨he, hb⟩
    obtain rfl : e = _ := he
    have HY : Hid (Below y0.heap.size y0 y3 ∧ IsTab y3 q8 42 32 (fun _ => bv 0#8) ∧ y0.heap.size ≤ q8) := Lib.hid ⟨bl HY.out.1 hb, HY.out.2.1.below hb, HY.out.2.2⟩
    clear hb
    try clear HLF
    try clear HFO
    refine hK _ _ HY.out.1 ?_
    clear hK K
    try simp only [List.getElem_toArray, List.getElem_cons_succ, List.getElem_cons_zero, Act.put, pS]
    refine og_f rfl (by go_simp) fun K hK => ?_
    have HFO := Lib.hid (fold_ok i (lfX v) a 13 c p y3 (HV.out.1.below (bl HB0.out.2 HY.out.1)) HV.out.2.2.1 (by decide) HV.out.2.2.2.1 (ktab_below HV.out.2.2.2.2 (HQ.out ▸ HB0.out.1.trans (HY.out.1.mono (by have := HB0.out.1.size; have := HQ.out; omega)))))
    go_simp
    refine HFO.out.mono ?_
    rintro e y4 ⟨he, hb⟩
    obtain rfl : e = _ := he
    have HY : Hid (Below y0.heap.size y0 y4 ∧ IsTab y4 q8 42 32 (fun _ => bv 0#8) ∧ y0.heap.size ≤ q8) := Lib.hid ⟨bl HY.out.1 hb, HY.out.2.1.below hb, HY.out.2.2⟩
    clear hb
    try clear HLF
    try clear HFO
    refine hK _ _ HY.out.1 ?_
    clear hK K
    try simp only [List.getElem_toArray, List.getElem_cons_succ, List.getElem_cons_zero, Act.put, pS]
    refine og_tk (some 18) (.tuple #[dv (fold i (lfX v) p 13), .nilIface]) rfl rfl (by go_simp) (fun _ _ => by simp [execOp, go_sem]) ?_
    simp only [Act.put, pS]
    refine og_tk (some 27) (dv (fold i (lfX v) p 13)) rfl rfl (by go_simp) (fun _ _ => by simp [execOp, go_sem]) ?_
    simp only [Act.put, pS]
    refine og_tk (some 28) (.nilIface) rfl rfl (by go_simp) (fun _ _ => by simp [execOp, go_sem]) ?_
    simp only [Act.put, pS]
    refine og_f rfl (by go_simp) fun K hK => ?_
    refine wp_store_row 42 (.tmp 8) (.tmp 27) rfl q8 (tab 32 fun j => bv ((fold i (lfX v) p 13) j)) rfl rfl 42 _ (HY.out.2.1) (infH _) (by simp only [tab_size]) (one_bv _ _) ?_
    have HE : Hid (IsTab (y4.setRow q8 (tab 32 fun j => bv ((fold i (lfX v) p 13) j))) q8 42 32 (fun j => bv ((fold i (lfX v) p 13) j)) ∧ IsTab (y4.setRow q8 (tab 32 fun j => bv ((fold i (lfX v) p 13) j))) q3 42 32 (fun j => bv (r j)) ∧ Below q3 w (y4.setRow q8 (tab 32 fun j => bv ((fold i (lfX v) p 13) j)))) := Lib.hid (by
      have hq8 := HY.out.2.2
      have hq3 := HB0.out.2
      have hlt := HB3.out.lt
      refine ⟨HY.out.2.1.row, (HB3.out.below (HY.out.1.mono (Nat.le_refl _))).rowOther (by omega), below_setRow (HB0.out.1.trans (HY.out.1.mono (by have := HB0.out.1.size; have := HQ.out; omega))) (by omega) _⟩)
    refine hK _ _ (below_setRow HY.out.1 HY.out.2.2 _) ?_
    clear hK K
    try simp only [List.getElem_toArray, List.getElem_cons_succ, List.getElem_cons_zero, Act.put, pS]
    generalize y4.setRow q8 (tab 32 fun j => bv ((fold i (lfX v) p 13) j)) = y9 at *
    refine og_tk (some 9) (.nilIface) rfl rfl (by go_simp) (fun _ _ => by simp [execOp, go_sem]) ?_
    simp only [Act.put, pS]
    refine og_done (NoPanic.normal ?_)
    have D8 := Lib.hid (load32h HE.out.1)
    have D3 := Lib.hid (load32h HE.out.2.1)
    go_wp2_with (first
      | ((with_reducible refine wpList_loadG (P := Tryd.prog) (w := y9) (ty := 42) (x := .tmp 8) (p := .pointer (some ⟨q8, 0, none⟩)) (v := dv (fold i (lfX v) p 13)) ?_ ?_ ?_ D8.out ?_); rotate_left; (· exact rfl); (· exact rfl); rotate_left; (· go_simp))
      | ((with_reducible refine wpList_loadG (P := Tryd.prog) (w := y9) (ty := 42) (x := .tmp 3) (p := .pointer (some ⟨q3, 0, none⟩)) (v := dv r) ?_ ?_ ?_ D3.out ?_); rotate_left; (· exact rfl); (· exact rfl); rotate_left; (· go_simp))
      | (refine wpList_eqG (by go_simp) (.tmp 32) (.tmp 33) 42 (fold i (lfX v) p 13) r rfl rfl rfl ?_))
    exact bodyPost_ret (v := .tuple #[.bool (same32 (fold i (lfX v) p 13) r), .nilIface]) (by simp [results, Tryd.results35, go_sem]) rfl ⟨rfl, by rw [HQ.out]; exact HE.out.2.2⟩
end Co
end Go.Proofs.YtjfpbponjhpdhaaDoor
namespace Go.Proofs.YtjfpbponjhpdhaaDoor
open Go.RowKit
set_option linter.unusedVariables false
set_option linter.unusedSimpArgs false
namespace Co
open Kc Mk Vm
theorem run_minC {P : Program} {ts : Array TypeId} {t : TypeId} {k : IntKind} (a b : Int) (w : World) : (Builtin.min_ ts t #[.int k a, .int k b]).run P w = .ok (.int k (min a b)) w := by
  have e : (if b < a then b else a) = min a b := by split <;> omega
  simp [Builtin.min_, Builtin.min2, e]
def uv (f : Nat → Nat) : Nat → Value := fun i => .int .u64 (f i)
theorem infoU : ∃ i, Tryd.prog.info? 33 = some i ∧ i.zero = some (.int .u64 0) ∧ i.size = 1 ∧ i.bytes = 8 := by
  have h : (Tryd.prog.info? 33).map (fun i => (i.zero, i.size, i.bytes)) = some (some (.int .u64 0), 1, 8) := by kernel_rfl
  obtain ⟨i, h1, h2⟩ := Option.map_eq_some_iff.1 h
  simp only [Prod.mk.injEq] at h2
  exact ⟨i, h1, h2.1, h2.2.1, h2.2.2⟩
theorem madeU (n : Nat) : madeCells #[Value.int .u64 0] n = tab n (uv fun _ => 0) := by
  apply Array.toList_inj.1
  rw [toList_madeCells_one]
  unfold tab uv
  exact (by simp [List.map_const'] : List.replicate n (Value.int .u64 0) = List.map (fun _ => Value.int .u64 0) (List.range n))
theorem mkU (n : Nat) (hn : n ≤ 8192) (w : World) : (Instr.makeSlice 23 (.int .i64 (n : Int)) (.int .i64 (n : Int))).run Tryd.prog w = .ok (.slice (some ⟨w.heap.size, 0, none⟩) n n) (w.alloc (.cells (tab n (uv fun _ => 0)) 33)) := by
  obtain ⟨i, h1, h2, h3, h4⟩ := infoU
  have hr := run_make (P := Tryd.prog) w 23 33 i (.int .u64 0) undW h1 h2 .i64 .i64 n n (by omega) (Int.le_refl _) (by rw [h4]; omega) (by omega)
  simp only [Int.toNat_natCast, h3, Nat.mul_one] at hr
  have e : (Value.int .u64 0).cells = #[Value.int .u64 0] := rfl
  rw [e, madeU] at hr
  exact hr
/-- A block of five cells. -/
def v5 (a b c d e : Value) : Nat → Value
  | 0 => a
  | 1 => b
  | 2 => c
  | 3 => d
  | _ => e
def Box5 (w : World) (q T : Nat) (a b c d e : Value) : Prop := IsTab w q T 5 (v5 a b c d e)
section
variable {w w' : World} {q T : Nat} {a b c d e : Value}
theorem Box5.k0 (h : Box5 w q T a b c d e) : w.cell? ⟨q, 0, none⟩ = some a := IsTab.cell h 0 (by decide)
theorem Box5.k1 (h : Box5 w q T a b c d e) : w.cell? ⟨q, 1, none⟩ = some b := IsTab.cell h 1 (by decide)
theorem Box5.k2 (h : Box5 w q T a b c d e) : w.cell? ⟨q, 2, none⟩ = some c := IsTab.cell h 2 (by decide)
theorem Box5.k3 (h : Box5 w q T a b c d e) : w.cell? ⟨q, 3, none⟩ = some d := IsTab.cell h 3 (by decide)
theorem Box5.k4 (h : Box5 w q T a b c d e) : w.cell? ⟨q, 4, none⟩ = some e := IsTab.cell h 4 (by decide)
theorem Box5.f (h : Box5 w q T a b c d e) (i : Nat) : w.frozen? ⟨q, i, none⟩ = false := IsTab.fz h i
theorem Box5.new (w : World) (T : Nat) (a b c d e : Value) : Box5 (w.alloc (.cells #[a, b, c, d, e] T)) w.heap.size T a b c d e := IsTab.new w T 5 (v5 a b c d e)
theorem c5 {i : Nat} (hi : i < 5) : i = 0 ∨ i = 1 ∨ i = 2 ∨ i = 3 ∨ i = 4 := by omega
theorem Box5.p2 (h : Box5 w q T a b c d e) (x : Value) : Box5 (w.setCell ⟨q, 2, none⟩ x) q T a b x d e := IsTab.cong (IsTab.set h 2 x) fun i hi => by
  rcases c5 hi with rfl | rfl | rfl | rfl | rfl <;> rfl
theorem Box5.p3 (h : Box5 w q T a b c d e) (x : Value) : Box5 (w.setCell ⟨q, 3, none⟩ x) q T a b c x e := IsTab.cong (IsTab.set h 3 x) fun i hi => by
  rcases c5 hi with rfl | rfl | rfl | rfl | rfl <;> rfl
theorem Box5.p4 (h : Box5 w q T a b c d e) (x : Value) : Box5 (w.setCell ⟨q, 4, none⟩ x) q T a b c d x := IsTab.cong (IsTab.set h 4 x) fun i hi => by
  rcases c5 hi with rfl | rfl | rfl | rfl | rfl <;> rfl
end
/-- The document's machine: its box, its memory, its registers. -/
structure IsRm (w : World) (r qm qr : Nat) (M : Mac) : Prop where
  box : Box5 w r 68 (.slice (some ⟨qm, 0, none⟩) 8192 8192) (.slice (some ⟨qr, 0, none⟩) 16 16) (.int .u64 M.pc) (.bool M.halted) (.int .u64 M.exit)
  mem : IsTab w qm 33 8192 (uv M.mem)
  reg : IsTab w qr 33 16 (uv M.reg)
  ne : qm ≠ qr ∧ qm ≠ r ∧ qr ≠ r
theorem IsRm.below {w w' : World} {r qm qr : Nat} {M : Mac} (h : IsRm w r qm qr M) (hb : Below w.heap.size w w') : IsRm w' r qm qr M := ⟨IsTab.below h.box hb, h.mem.below hb, h.reg.below hb, h.ne⟩
set_option maxHeartbeats 2000000 in
set_option maxRecDepth 100000 in
theorem rLoad_nil (w : World) :
    Calls Tryd.prog 43 #[.slice none 0 0] w fun e w' => ∃ r qm qr, e = .returned (.pointer (some ⟨r, 0, none⟩)) ∧ IsRm w' r qm qr m0 ∧ Below w.heap.size w w' ∧ w.heap.size ≤ r ∧ w.heap.size ≤ qm ∧ w.heap.size ≤ qr := by
  have hm8 := mkU 8192 (Nat.le_refl _)
  have hm16 := mkU 16 (by decide)
  rw [show ((8192 : Nat) : Int) = 8192 from rfl] at hm8
  rw [show ((16 : Nat) : Int) = 16 from rfl] at hm16
  generalize hz1 : tab 8192 (uv fun _ => 0) = zm at *
  generalize hz2 : tab 16 (uv fun _ => 0) = zr at *
  have HZ := Lib.hid (And.intro hz1 hz2)
  clear hz1 hz2
  go_enter Tryd.func43, Tryd.ntmps43
  go_upto_region 1 with (fail)
  refine wp_region_og (fun z : World => True) (.two 0 (.one 1 (.take 2 (.one 3 (.take 4 .done)))) 1 (.one 0 (.take 2 (.one 3 (.take 4 .done))))) (by kernel_rfl) (by kernel_rfl) trivial ?_
  have HY : Hid (Below w.heap.size w w.drew) := Lib.hid (Below.refl _ _).drew
  generalize w.drew = y1 at *
  refine og_two (og_of rfl (by go_simp) fun K hK => ?_) (og_of rfl (by go_simp) fun K hK => ?_)
  · go_simp
    have HY : Hid (IsTab (y1.alloc (.cells zm 33)) y1.heap.size 33 8192 (uv fun _ => 0) ∧ Below w.heap.size w (y1.alloc (.cells zm 33)) ∧ w.heap.size ≤ y1.heap.size) := Lib.hid ⟨by rw [← HZ.out.1]; exact IsTab.new y1 33 8192 _, HY.out.alloc HY.out.size _, HY.out.size⟩
    refine hK _ _ trivial ?_
    clear hK K
    try simp only [List.getElem_toArray, List.getElem_cons_succ, List.getElem_cons_zero, Act.put, pS]
    generalize y1.alloc (.cells zm 33) = y2 at *
    generalize y1.heap.size = qm at *
    refine og_f rfl (by go_simp) fun K hK => ?_
    go_simp
    have HY : Hid (IsTab (y2.alloc (.cells zr 33)) qm 33 8192 (uv fun _ => 0) ∧ IsTab (y2.alloc (.cells zr 33)) y2.heap.size 33 16 (uv fun _ => 0) ∧ Below w.heap.size w (y2.alloc (.cells zr 33)) ∧ w.heap.size ≤ qm ∧ w.heap.size ≤ y2.heap.size ∧ qm ≠ y2.heap.size) := Lib.hid ⟨HY.out.1.alloc _, by rw [← HZ.out.2]; exact IsTab.new y2 33 16 _, HY.out.2.1.alloc HY.out.2.1.size _, HY.out.2.2, HY.out.2.1.size, by have := HY.out.1.lt; omega⟩
    refine hK _ _ trivial ?_
    clear hK K
    try simp only [List.getElem_toArray, List.getElem_cons_succ, List.getElem_cons_zero, Act.put, pS]
    generalize y2.alloc (.cells zr 33) = y3 at *
    generalize y2.heap.size = qr at *
    refine og_tk (some 6) (.agg #[.slice (some ⟨qm, 0, none⟩) 8192 8192, .slice (some ⟨qr, 0, none⟩) 16 16, .int .u64 0, .bool false, .int .u64 0]) rfl rfl (by go_simp) (fun _ _ => by simp [execOp, go_sem]) ?_
    simp only [Act.put, pS]
    refine og_f rfl (by go_simp) fun K hK => ?_
    go_simp
    have HX : Hid (IsRm (y3.alloc (.cells #[.slice (some ⟨qm, 0, none⟩) 8192 8192, .slice (some ⟨qr, 0, none⟩) 16 16, .int .u64 0, .bool false, .int .u64 0] 68)) y3.heap.size qm qr m0 ∧ Below w.heap.size w (y3.alloc (.cells #[.slice (some ⟨qm, 0, none⟩) 8192 8192, .slice (some ⟨qr, 0, none⟩) 16 16, .int .u64 0, .bool false, .int .u64 0] 68)) ∧ w.heap.size ≤ y3.heap.size ∧ w.heap.size ≤ qm ∧ w.heap.size ≤ qr) := Lib.hid ⟨⟨Box5.new y3 68 _ _ _ _ _, HY.out.1.alloc _, HY.out.2.1.alloc _, HY.out.2.2.2.2.2, by have := HY.out.1.lt; omega, by have := HY.out.2.1.lt; omega⟩, HY.out.2.2.1.alloc HY.out.2.2.1.size _, HY.out.2.2.1.size, HY.out.2.2.2.1, HY.out.2.2.2.2.1⟩
    refine hK _ _ trivial ?_
    clear hK K HY
    try simp only [List.getElem_toArray, List.getElem_cons_succ, List.getElem_cons_zero, Act.put, pS]
    generalize y3.alloc (.cells #[.slice (some ⟨qm, 0, none⟩) 8192 8192, .slice (some ⟨qr, 0, none⟩) 16 16, .int .u64 0, .bool false, .int .u64 0] 68) = y4 at *
    generalize y3.heap.size = r at *
    refine og_tk (some 3) (.pointer (some ⟨r, 0, none⟩)) rfl rfl (by go_simp) (fun _ _ => by simp [execOp, go_sem]) ?_
    simp only [Act.put, pS]
    refine og_done (NoPanic.normal ?_)
    have k0 := HX.out.1.box.k0
    go_wp2_with (refine wpList_copy_nothing rfl (.tmp 11) (.tmp 12) 23 23 rfl 33 undW sizeW (some ⟨qm, 0, none⟩) none 8192 8192 0 0 rfl rfl rfl ?_)
    exact bodyPost_ret (v := .pointer (some ⟨r, 0, none⟩)) (by simp [results, Tryd.results43, go_sem]) rfl ⟨r, rfl, qm, qr, HX.out⟩
  · go_simp
    have HY : Hid (IsTab (y1.alloc (.cells zr 33)) y1.heap.size 33 16 (uv fun _ => 0) ∧ Below w.heap.size w (y1.alloc (.cells zr 33)) ∧ w.heap.size ≤ y1.heap.size) := Lib.hid ⟨by rw [← HZ.out.2]; exact IsTab.new y1 33 16 _, HY.out.alloc HY.out.size _, HY.out.size⟩
    refine hK _ _ trivial ?_
    clear hK K
    try simp only [List.getElem_toArray, List.getElem_cons_succ, List.getElem_cons_zero, Act.put, pS]
    generalize y1.alloc (.cells zr 33) = y2 at *
    generalize y1.heap.size = qr at *
    refine og_f rfl (by go_simp) fun K hK => ?_
    go_simp
    have HY : Hid (IsTab (y2.alloc (.cells zm 33)) y2.heap.size 33 8192 (uv fun _ => 0) ∧ IsTab (y2.alloc (.cells zm 33)) qr 33 16 (uv fun _ => 0) ∧ Below w.heap.size w (y2.alloc (.cells zm 33)) ∧ w.heap.size ≤ y2.heap.size ∧ w.heap.size ≤ qr ∧ y2.heap.size ≠ qr) := Lib.hid ⟨by rw [← HZ.out.1]; exact IsTab.new y2 33 8192 _, HY.out.1.alloc _, HY.out.2.1.alloc HY.out.2.1.size _, HY.out.2.1.size, HY.out.2.2, by have := HY.out.1.lt; omega⟩
    refine hK _ _ trivial ?_
    clear hK K
    try simp only [List.getElem_toArray, List.getElem_cons_succ, List.getElem_cons_zero, Act.put, pS]
    generalize y2.alloc (.cells zm 33) = y3 at *
    generalize y2.heap.size = qm at *
    refine og_tk (some 6) (.agg #[.slice (some ⟨qm, 0, none⟩) 8192 8192, .slice (some ⟨qr, 0, none⟩) 16 16, .int .u64 0, .bool false, .int .u64 0]) rfl rfl (by go_simp) (fun _ _ => by simp [execOp, go_sem]) ?_
    simp only [Act.put, pS]
    refine og_f rfl (by go_simp) fun K hK => ?_
    go_simp
    have HX : Hid (IsRm (y3.alloc (.cells #[.slice (some ⟨qm, 0, none⟩) 8192 8192, .slice (some ⟨qr, 0, none⟩) 16 16, .int .u64 0, .bool false, .int .u64 0] 68)) y3.heap.size qm qr m0 ∧ Below w.heap.size w (y3.alloc (.cells #[.slice (some ⟨qm, 0, none⟩) 8192 8192, .slice (some ⟨qr, 0, none⟩) 16 16, .int .u64 0, .bool false, .int .u64 0] 68)) ∧ w.heap.size ≤ y3.heap.size ∧ w.heap.size ≤ qm ∧ w.heap.size ≤ qr) := Lib.hid ⟨⟨Box5.new y3 68 _ _ _ _ _, HY.out.1.alloc _, HY.out.2.1.alloc _, HY.out.2.2.2.2.2, by have := HY.out.1.lt; omega, by have := HY.out.2.1.lt; omega⟩, HY.out.2.2.1.alloc HY.out.2.2.1.size _, HY.out.2.2.1.size, HY.out.2.2.2.1, HY.out.2.2.2.2.1⟩
    refine hK _ _ trivial ?_
    clear hK K HY
    try simp only [List.getElem_toArray, List.getElem_cons_succ, List.getElem_cons_zero, Act.put, pS]
    generalize y3.alloc (.cells #[.slice (some ⟨qm, 0, none⟩) 8192 8192, .slice (some ⟨qr, 0, none⟩) 16 16, .int .u64 0, .bool false, .int .u64 0] 68) = y4 at *
    generalize y3.heap.size = r at *
    refine og_tk (some 3) (.pointer (some ⟨r, 0, none⟩)) rfl rfl (by go_simp) (fun _ _ => by simp [execOp, go_sem]) ?_
    simp only [Act.put, pS]
    refine og_done (NoPanic.normal ?_)
    have k0 := HX.out.1.box.k0
    go_wp2_with (refine wpList_copy_nothing rfl (.tmp 11) (.tmp 12) 23 23 rfl 33 undW sizeW (some ⟨qm, 0, none⟩) none 8192 8192 0 0 rfl rfl rfl ?_)
    exact bodyPost_ret (v := .pointer (some ⟨r, 0, none⟩)) (by simp [results, Tryd.results43, go_sem]) rfl ⟨r, rfl, qm, qr, HX.out⟩
end Co
end Go.Proofs.YtjfpbponjhpdhaaDoor
