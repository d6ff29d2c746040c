/-
  Layer 11: Prove, Holds, Write; what is nil. Written by genCb.py. Own work.
-/
import Derived.Test.YtjfpbponjhpdhaaDoorCa
import Derived.Test.YtjfpbponjhpdhaaDoorMp
import Derived.Test.YtjfpbponjhpdhaaDoorOt
namespace Go.Proofs.YtjfpbponjhpdhaaDoor
open Go.RowKit
set_option linter.unusedVariables false
set_option linter.unusedSimpArgs false
namespace Co
open Kc Mk Vm
/-- A block of two cells. -/
def v2 (a b : Value) : Nat → Value
  | 0 => a
  | _ => b
def Box2 (w : World) (q T : Nat) (a b : Value) : Prop := IsTab w q T 2 (v2 a b)
section
variable {w w' : World} {q T : Nat} {a b : Value}
theorem Box2.k0 (h : Box2 w q T a b) : w.cell? ⟨q, 0, none⟩ = some a := IsTab.cell h 0 (by decide)
theorem Box2.k1 (h : Box2 w q T a b) : w.cell? ⟨q, 1, none⟩ = some b := IsTab.cell h 1 (by decide)
theorem Box2.f (h : Box2 w q T a b) (i : Nat) : w.frozen? ⟨q, i, none⟩ = false := IsTab.fz h i
theorem Box2.new (w : World) (T : Nat) (a b : Value) : Box2 (w.alloc (.cells #[a, b] T)) w.heap.size T a b := IsTab.new w T 2 (v2 a b)
theorem Box2.below (h : Box2 w q T a b) (hb : Below w.heap.size w w') : Box2 w' q T a b := IsTab.below h hb
theorem Box2.lt (h : Box2 w q T a b) : q < w.heap.size := IsTab.lt h
theorem Box2.p0 (h : Box2 w q T a b) (x : Value) : Box2 (w.setCell ⟨q, 0, none⟩ x) q T x b := IsTab.cong (IsTab.set h 0 x) fun i hi => by
  have : i = 0 ∨ i = 1 := by omega
  rcases this with rfl | rfl <;> rfl
theorem Box2.p1 (h : Box2 w q T a b) (x : Value) : Box2 (w.setCell ⟨q, 1, none⟩ x) q T a x := IsTab.cong (IsTab.set h 1 x) fun i hi => by
  have : i = 0 ∨ i = 1 := by omega
  rcases this with rfl | rfl <;> rfl
end
theorem ixMemU (b i : Nat) (hi : i < 8192) (w : World) : (Instr.indexAt 34 (.pointer (some ⟨b, 0, none⟩)) (.int .u64 i)).run Tryd.prog w = .ok (.pointer (some ⟨b, i, none⟩)) w := by
  have h1 : (i : Int) < 8192 := by omega
  simp [go_sem, h1, Tryd.underlying34]
set_option maxHeartbeats 2000000 in
set_option maxRecDepth 100000 in
theorem Root_nil (w : World) :
    Calls Tryd.prog 12 #[.pointer none] w fun e w' => e = .returned (.tuple #[dv (Mk.zero 0), .iface 85 (.int .i64 1)]) ∧ Below w.heap.size w w' := by
  have z2 := zeroHash
  have HBH := Lib.hid (fun u : World => buildH0 u)
  generalize hz : (tab 32 fun _ => bv 0#8) = zh at *
  have HZ := Lib.hid hz
  clear hz
  have HZI : Hid ((Tryd.prog.info? 42).map (·.size) = some zh.size ∧ zh.all (·.oneCell') = true ∧ zh.size = 32) := Lib.hid ⟨by rw [← HZ.out]; exact infH _, by rw [← HZ.out]; exact one_bv _ _, by rw [← HZ.out, tab_size]⟩
  go_enter Tryd.func12, Tryd.ntmps12
  go_wp2_with (first
    | ((with_reducible refine wpList_buildM (P := Tryd.prog) (w := w.alloc (.cells zh 42)) ?_ 42 ?_ (.agg zh) (HBH.out _) ?_); (· exact rfl); (· exact rfl))
    | ((with_reducible refine wpList_store_row (P := Tryd.prog) (w := w.alloc (.cells zh 42)) ?_ 42 (.tmp 2) (.tmp 6) ?_ w.heap.size zh ?_ ?_ 42 zh (heap_alloc_last w _) HZI.out.1 ?_ HZI.out.2.1 ?_); (· exact rfl); (· exact rfl); (· exact rfl); (· exact rfl); (· exact rfl); rw [World.setRow_alloc_new]; simp only [Act.put]))
  have hr : IsTab (w.alloc (.cells zh 42)) w.heap.size 42 32 fun j => bv (Mk.zero 0 j) := put_new w (fun _ => 0#8) zh HZ.out
  exact bodyPost_ret (Kc.results_cell_tmp rfl _ _ w.heap.size 42 _ (0, 0) _ rfl hr undH rfl (infH _) (.iface 85 (.int .i64 1)) rfl) rfl ⟨rfl, ba _ _⟩
set_option maxHeartbeats 2000000 in
set_option maxRecDepth 100000 in
theorem Of_nil (w : World) :
    Calls Tryd.prog 16 #[.pointer none] w fun e w' => e = .returned (.tuple #[dv (Mk.zero 0), .iface 85 (.int .i64 1)]) ∧ Below w.heap.size w w' := by
  have z2 := zeroHash
  have HBH := Lib.hid (fun u : World => buildH0 u)
  generalize hz : (tab 32 fun _ => bv 0#8) = zh at *
  have HZ := Lib.hid hz
  clear hz
  have HZI : Hid ((Tryd.prog.info? 42).map (·.size) = some zh.size ∧ zh.all (·.oneCell') = true ∧ zh.size = 32) := Lib.hid ⟨by rw [← HZ.out]; exact infH _, by rw [← HZ.out]; exact one_bv _ _, by rw [← HZ.out, tab_size]⟩
  have HR := Lib.hid (Root_nil (w.alloc (.cells zh 42)))
  go_enter Tryd.func16, Tryd.ntmps16
  go_upto_region 1 with (fail)
  have H0 : Hid (IsTab (w.alloc (.cells zh 42)) w.heap.size 42 32 (fun _ => bv 0#8) ∧ Below w.heap.size w (w.alloc (.cells zh 42)) ∧ w.heap.size < (w.alloc (.cells zh 42)).heap.size) := Lib.hid ⟨put_new w (fun _ => 0#8) zh HZ.out, ba _ _, by simp⟩
  generalize w.alloc (.cells zh 42) = y0 at *
  generalize hq : w.heap.size = q0 at *
  have HQ := Lib.hid hq
  clear hq
  go_upto_region 2 with (first
    | (go_at_call 12; (with_reducible refine HR.out.mono ?_); rintro e y1 ⟨he, hb⟩; obtain rfl : e = _ := he; have H1 : Hid (IsTab y1 q0 42 32 (fun _ => bv 0#8) ∧ Below q0 w y1 ∧ q0 < y1.heap.size) := Lib.hid ⟨H0.out.1.below hb, H0.out.2.1.trans (hb.mono (by have := H0.out.2.2; omega)), by have := hb.size; have := H0.out.2.2; omega⟩; clear hb HR)
    | ((with_reducible refine wpList_store_row (P := Tryd.prog) (w := y1.alloc (.cells zh 42)) ?_ 42 (.tmp 4) (.tmp 10) ?_ y1.heap.size (tab 32 fun i => bv (Mk.zero 0 i)) ?_ ?_ 42 zh (heap_alloc_last y1 _) (infH _) ?_ (one_bv _ _) ?_); (· exact rfl); (· exact rfl); (· exact rfl); (· exact rfl); (· rw [HZI.out.2.2, tab_size]); rw [World.setRow_alloc_new]; simp only [Act.put]))
  have H2 : Hid (IsTab (y1.alloc (.cells (tab 32 fun i => bv (Mk.zero 0 i)) 42)) q0 42 32 (fun _ => bv 0#8) ∧ Below q0 w (y1.alloc (.cells (tab 32 fun i => bv (Mk.zero 0 i)) 42))) := Lib.hid ⟨H1.out.1.alloc _, H1.out.2.1.alloc (by have := H1.out.2.2; omega) _⟩
  clear H0 H1
  generalize y1.alloc (.cells (tab 32 fun i => bv (Mk.zero 0 i)) 42) = y2 at *
  go_wp2_with (first
    | ((with_reducible refine wpList_buildM (P := Tryd.prog) (w := y2) ?_ 42 ?_ (.agg zh) (HBH.out _) ?_); (· exact rfl); (· exact rfl))
    | ((with_reducible refine wpList_store_row (P := Tryd.prog) (w := y2) ?_ 42 (.tmp 2) (.tmp 14) ?_ q0 zh ?_ ?_ 42 (tab 32 fun _ => bv 0#8) ?_ HZI.out.1 ?_ HZI.out.2.1 ?_); (· exact rfl); (· exact rfl); (· exact rfl); (· exact rfl); (· exact H2.out.1); (· rw [HZI.out.2.2, tab_size])))
  have hr : IsTab (World.setRow y2 q0 zh) q0 42 32 fun j => bv (Mk.zero 0 j) := by
    have h := IsTab.row (g := fun _ => bv 0#8) H2.out.1
    rw [HZ.out] at h
    exact h
  exact bodyPost_ret (Kc.results_cell_tmp rfl _ _ q0 42 _ (0, 0) _ rfl hr undH rfl (infH _) (.iface 85 (.int .i64 1)) rfl) rfl ⟨rfl, by rw [HQ.out]; exact below_setRow H2.out.2 (Nat.le_refl _) _⟩
/-- A head, as a value. -/
def hv (M : Mac) : Nat → Value := fun i => if i < 16 then .int .u64 (M.reg i) else if i = 16 then .int .u64 M.pc else if i = 17 then .bool M.halted else .int .u64 M.exit
theorem oneHd (M : Mac) : (tab 19 (hv M)).all (·.oneCell') = true := tab_one fun i => by
  unfold hv
  repeat' split
  all_goals rfl
set_option maxRecDepth 100000 in
theorem zeroHd (w : World) : (zeroValue 48).run Tryd.prog w = .ok (.agg (tab 19 (hv m0))) w := by kernel_rfl
set_option maxRecDepth 100000 in
theorem buildHd0 (w : World) : (Instr.build 48 #[]).run Tryd.prog w = .ok (.agg (tab 19 (hv m0))) w := by kernel_rfl
theorem infHd' : (Tryd.prog.info? 48).map (·.size) = some 19 := by kernel_rfl
theorem infHd (M : Mac) : (Tryd.prog.info? 48).map (·.size) = some (tab 19 (hv M)).size := by rw [tab_size]; exact infHd'
theorem undHd : Tryd.prog.underlying 48 = some (.struct (Tryd.prog.fieldsOf 48)) := by kernel_rfl
theorem undPt : Tryd.prog.underlying 54 = some (.struct (Tryd.prog.fieldsOf 54)) := by kernel_rfl
theorem infPt : (Tryd.prog.info? 54).map (·.size) = some 2 := by kernel_rfl
set_option maxHeartbeats 2000000 in
set_option maxRecDepth 100000 in
theorem HeadOf_nil (w : World) :
    Calls Tryd.prog 15 #[.pointer none] w fun e w' => e = .returned (.tuple #[.agg (tab 19 (hv m0)), .iface 85 (.int .i64 1)]) ∧ Below w.heap.size w w' := by
  have z2 := zeroHd
  have HBH := Lib.hid (fun u : World => buildHd0 u)
  have HIN := Lib.hid (infHd m0)
  have HON := Lib.hid (oneHd m0)
  generalize hz : (tab 19 (hv m0)) = zd at *
  go_enter Tryd.func15, Tryd.ntmps15
  go_wp2_with (first
    | ((with_reducible refine wpList_buildM (P := Tryd.prog) (w := w.alloc (.cells zd 48)) ?_ 48 ?_ (.agg zd) (HBH.out _) ?_); (· exact rfl); (· exact rfl))
    | ((with_reducible refine wpList_store_row (P := Tryd.prog) (w := w.alloc (.cells zd 48)) ?_ 48 (.tmp 2) (.tmp 6) ?_ w.heap.size zd ?_ ?_ 48 zd (heap_alloc_last w _) HIN.out ?_ HON.out ?_); (· exact rfl); (· exact rfl); (· exact rfl); (· exact rfl); (· exact rfl); rw [World.setRow_alloc_new]; simp only [Act.put]))
  exact bodyPost_ret (Kc.results_cell_tmp rfl _ _ w.heap.size 48 _ (0, 0) _ rfl (heap_alloc_new w _) undHd rfl HIN.out (.iface 85 (.int .i64 1)) rfl) rfl ⟨rfl, ba _ _⟩
set_option maxHeartbeats 2000000 in
set_option maxRecDepth 100000 in
theorem Prove_nil (w : World) (i : Int) :
    Calls Tryd.prog 18 #[.pointer none, .int .u64 i] w fun e w' => e = .returned (.tuple #[.agg #[.int .u64 0, .slice none 0 0], .iface 85 (.int .i64 1)]) ∧ Below w.heap.size w w' := by
  go_enter Tryd.func18, Tryd.ntmps18
  go_wp2_with (fail)
  exact bodyPost_ret (v := .tuple #[.agg #[.int .u64 0, .slice none 0 0], .iface 85 (.int .i64 1)]) (by simp [results, Tryd.results18, go_sem]) rfl ⟨rfl, ba _ _⟩
set_option maxHeartbeats 2000000 in
set_option maxRecDepth 100000 in
theorem Prove_far (w : World) (b : Nat) (i : Int) (h : 8192 ≤ i) :
    Calls Tryd.prog 18 #[.pointer (some ⟨b, 0, none⟩), .int .u64 i] w fun e w' => e = .returned (.tuple #[.agg #[.int .u64 0, .slice none 0 0], .iface 85 (.int .i64 2)]) ∧ Below w.heap.size w w' := by
  have t1 : decide (8192 ≤ i) = true := decide_eq_true h
  clear h
  go_enter Tryd.func18, Tryd.ntmps18
  go_wp2_with (fail)
  exact bodyPost_ret (v := .tuple #[.agg #[.int .u64 0, .slice none 0 0], .iface 85 (.int .i64 2)]) (by simp [results, Tryd.results18, go_sem]) rfl ⟨rfl, ba _ _⟩
set_option maxHeartbeats 2000000 in
set_option maxRecDepth 100000 in
theorem Prove_ok (w : World) (b i : Nat) (M : Mac) (hm : IsMac w b M) (hok : ∀ i, M.mem i < 18446744073709551616) (hi : i < 8192) (ht : Laid.KTab w) :
    Calls Tryd.prog 18 #[.pointer (some ⟨b, 0, none⟩), .int .u64 i] w fun e w' => ∃ a c, e = .returned (.tuple #[.agg #[.int .u64 (M.mem i), .slice a 13 c], .nilIface]) ∧ 13 ≤ c ∧ c ≤ maxLen ∧ a ≠ none ∧ w'.ownsRow w.heap.size 42 32 (.slice a 13 c) 13 (flat 13 (sib (mg M) i)) ∧ Below w.heap.size w w' := by
  have HM := Lib.hid (And.intro hm (And.intro hok (And.intro hi ht)))
  have t1 : decide (8192 ≤ (i : Int)) = false := by simp; omega
  have e1 : wrap64 (i : Int) = (i : Int) := by unfold wrap64; omega
  have HE1 := Lib.hid e1
  clear hm hok hi ht e1
  have HB0 := Lib.hid (Box2.new w 54 (.int .u64 0) (.slice none 0 0))
  have HB1 : Hid (Below w.heap.size w (w.alloc (.cells #[.int .u64 0, .slice none 0 0] 54)) ∧ (w.alloc (.cells #[.int .u64 0, .slice none 0 0] 54)).heap.size = w.heap.size + 1) := Lib.hid ⟨ba _ _, by simp⟩
  go_enter Tryd.func18, Tryd.ntmps18
  go_upto_region 5 with (fail)
  clear t1
  generalize w.alloc (.cells #[.int .u64 0, .slice none 0 0] 54) = y0 at *
  generalize hq : w.heap.size = q0 at *
  have HQ := Lib.hid hq
  clear hq
  have HL := Lib.hid (leaves_walk y0 b M (HM.out.1.below (HQ.out ▸ HB1.out.1)) HM.out.2.1)
  have he1 := HE1.out
  go_upto_region 6 with (first
    | (go_at_call 38; (with_reducible refine HL.out.mono ?_); rintro e y1 ⟨q, he, hs, hge, hb⟩; obtain rfl : e = _ := he; have H1 : Hid (Box2 y1 q0 54 (.int .u64 0) (.slice none 0 0) ∧ Below q0 w y1 ∧ q0 < y1.heap.size) := Lib.hid ⟨HB0.out.below hb, HB1.out.1.trans (hb.mono (by have := HB1.out.2; omega)), by have := hb.size; have := HB1.out.2; omega⟩; have hpa := path_any 13 (some ⟨q, 0, none⟩) 8192 8192 (mlf M) (i : Int) y1 hs (fun h => by cases h) (Nat.le_refl _) (by decide) (ktab_below HM.out.2.2.2 (HQ.out ▸ H1.out.2.1)); rw [wrongP_mem 8192 (Nat.le_refl _) i HM.out.2.2.1, pathLen_mem 8192 (Nat.le_refl _) i HM.out.2.2.1, Int.toNat_natCast, err0] at hpa; have HP := Lib.hid hpa; clear hs hge hb HL hpa)
    | (go_at_call 40; refine HP.out.mono ?_; rintro e y2 ⟨V, he, hrow, hb⟩; obtain rfl : e = _ := he; obtain ⟨a, c, rfl, hsa, hna, hnc, hcm, hal⟩ := hs_of hrow; have H2 : Hid (Box2 y2 q0 54 (.int .u64 0) (.slice none 0 0) ∧ Below q0 w y2 ∧ q0 < y1.heap.size ∧ y2.ownsRow y1.heap.size 42 32 (.slice a 13 c) 13 (flat 13 (sib (mg M) i)) ∧ 13 ≤ c ∧ c ≤ maxLen ∧ a ≠ none ∧ y1.heap.size ≤ y2.heap.size) := Lib.hid ⟨H1.out.1.below hb, H1.out.2.1.trans (hb.mono (by have := H1.out.2.2; omega)), H1.out.2.2, hrow, hnc, hcm, (fun h => by have := (hna h).1; omega), hb.size⟩; clear hrow hb hsa hna hnc hcm hal HP H1))
  clear he1 HB0 HB1
  have kc := (HM.out.1.below (HQ.out ▸ H2.out.2.1)).mem HM.out.2.2.1
  have ix := fun u => ixMemU b i HM.out.2.2.1 u
  have k0 := H2.out.1.k0
  have f0 := H2.out.1.f 0
  have k1 := (H2.out.1.p0 (.int .u64 (M.mem i))).k1
  have f1 := (H2.out.1.p0 (.int .u64 (M.mem i))).f 1
  have H3 : Hid (Box2 ((y2.setCell ⟨q0, 0, none⟩ (.int .u64 (M.mem i))).setCell ⟨q0, 1, none⟩ (.slice a 13 c)) q0 54 (.int .u64 (M.mem i)) (.slice a 13 c) ∧ Below q0 w ((y2.setCell ⟨q0, 0, none⟩ (.int .u64 (M.mem i))).setCell ⟨q0, 1, none⟩ (.slice a 13 c)) ∧ ((y2.setCell ⟨q0, 0, none⟩ (.int .u64 (M.mem i))).setCell ⟨q0, 1, none⟩ (.slice a 13 c)).ownsRow q0 42 32 (.slice a 13 c) 13 (flat 13 (sib (mg M) i))) := Lib.hid (by
    refine ⟨(H2.out.1.p0 _).p1 _, (H2.out.2.1.setCell (Nat.le_refl _) _).setCell (Nat.le_refl _) _, ?_⟩
    have hk : Kept (fun k => k = q0) y2 ((y2.setCell ⟨q0, 0, none⟩ (.int .u64 (M.mem i))).setCell ⟨q0, 1, none⟩ (.slice a 13 c)) := ((Kept.refl (fun k => k = q0) y2).setCell (p := ⟨q0, 0, none⟩) (.inl rfl) _).setCell (p := ⟨q0, 1, none⟩) (.inl rfl) _
    have hn : ∀ k, (Value.slice a 13 c).ownBlock = some k → y1.heap.size ≤ k := fun k hk => by
      rcases ownsRow_forms H2.out.2.2.2.1 with ⟨h, _⟩ | ⟨g, cap, h, hg, _⟩
      · rw [h] at hk; cases hk
      · rw [h] at hk; cases hk; exact hg
    exact ownsRow_base (hk.row H2.out.2.2.2.1 fun k hk e => by have := hn k hk; have := H2.out.2.2.1; omega) (Nat.le_of_lt H2.out.2.2.1))
  go_wp2_with (fail)
  generalize (y2.setCell ⟨q0, 0, none⟩ (.int .u64 (M.mem i))).setCell ⟨q0, 1, none⟩ (.slice a 13 c) = y3 at *
  exact bodyPost_ret (Kc.results_cell_tmp rfl _ _ q0 54 _ (0, 0) _ rfl H3.out.1 undPt rfl infPt .nilIface rfl) rfl ⟨a, c, rfl, H2.out.2.2.2.2.1, H2.out.2.2.2.2.2.1, H2.out.2.2.2.2.2.2.1, by rw [HQ.out]; exact H3.out.2.2, by rw [HQ.out]; exact H3.out.2.1⟩
end Co
end Go.Proofs.YtjfpbponjhpdhaaDoor
