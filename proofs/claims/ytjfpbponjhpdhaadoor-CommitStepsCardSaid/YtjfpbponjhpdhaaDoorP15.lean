/- Merged of Ys. Own work. -/
import Derived.Test.YtjfpbponjhpdhaaDoorP14
import Derived.Test.YtjfpbponjhpdhaaDoorP12
namespace Go.Proofs.YtjfpbponjhpdhaaDoor
open Go.RowKit
set_option linter.unusedVariables false
set_option linter.unusedSimpArgs false
namespace Vm
open Kc Mk Wt
theorem ba (w : World) (o : Obj) : Below w.heap.size w (w.alloc o) := (Below.refl _ _).alloc (Nat.le_refl _) _
/-- A word's byte. -/
def wb (v j : Nat) : Bt := BitVec.ofNat 8 (Rl.byteOf v j)
theorem wb_nat (v j : Nat) : (wb v j).toNat = Rl.byteOf v j := by
  unfold wb Rl.byteOf
  rw [BitVec.toNat_ofNat]
  omega
theorem bv_nat (x : Bt) : bv x = .int .u8 ((x.toNat : Nat) : Int) := rfl
/-- Words laid down, noughts behind them. -/
def pxW (n : Nat) (f : Nat → Nat) : Px := fun j => if j < 8 * n then wb (f (j / 8)) (j % 8) else 0#8
/-- A word of bytes. -/
def wd (g : Nat → Bt) (i : Nat) : Nat := Rl.gv (fun j => (g (8 * i + j)).toNat) 8
theorem wd_lt (g : Nat → Bt) (i : Nat) : wd g i < 18446744073709551616 := by
  have := Rl.gv_lt (f := fun j => (g (8 * i + j)).toNat) (fun j => (g (8 * i + j)).isLt) 8
  exact this
theorem put_pxW (i : Nat) (f : Nat → Nat) (j : Nat) : Rl.putv (fun j => bv (pxW i f j)) i (f i) 8 j = bv (pxW (i + 1) f j) := by
  unfold Rl.putv pxW
  by_cases h1 : 8 * i ≤ j ∧ j < 8 * i + 8
  · rw [if_pos h1, if_pos (by omega), bv_nat, wb_nat, show j / 8 = i from by omega, show j % 8 = j - 8 * i from by omega]
    rfl
  · rw [if_neg h1]
    show bv (if j < 8 * i then _ else _) = _
    by_cases h2 : j < 8 * i
    · rw [if_pos h2, if_pos (by omega)]
    · rw [if_neg h2, if_neg (by omega)]
theorem pxW_zero (f : Nat → Nat) : pxW 0 f = fun _ => 0#8 := by
  funext j; unfold pxW; rw [if_neg (by omega)]
/-- A digest, noughts behind it. -/
def ht (h : Hx) : Px := fun j => if j < 32 then h j else 0#8
theorem eqErr (b : Bool) (w : World) : (binOp .eql 26 (missV b) .nilIface).run Tryd.prog w = .ok (.bool b) w := by
  cases b
  · exact run_eql_held_nil (P := Tryd.prog) w 26 85 (.int .i64 14) (by kernel_rfl)
  · exact run_eql_nil_nil (P := Tryd.prog) w 26 (by kernel_rfl)
theorem grdErr (b : Bool) (n : Tmp) (w : World) : (eqGuard .eql 26 (.tmp n) (.const .nilIface) (missV b) .nilIface).run Tryd.prog w = .ok () w := by
  cases b <;> rfl
set_option maxHeartbeats 4000000 in
set_option maxRecDepth 100000 in
theorem exd_get (T : Nat → Prop) (s kb fb : Nat) (S : Sto) (p : Px) (w : World) (hs : IsSt w T s kb fb S) (hT : ∀ k, T k → k < w.heap.size) (hn : S.asked.length < 1073741824) :
    Calls Tryd.prog 78 #[.pointer (some ⟨s, 0, none⟩), .int .i64 35, pv p] w fun e w' => e = .returned (.tuple #[pv ((Wt.look S.pres p).getD zp), .bool (Wt.has S.pres p)]) ∧ ∃ T' : Nat → Prop, IsSt w' T' s kb fb ⟨S.pres, askL S.asked p⟩ ∧ (∀ j, T' j → (T j ∨ w.heap.size ≤ j) ∧ j < w'.heap.size) ∧ Kept T w w' := by
  have HST := Lib.hid (And.intro hs (And.intro hT hn))
  generalize hr : (Wt.look S.pres p).getD zp = r at *
  have HR := Lib.hid hr
  generalize hb : Wt.has S.pres p = b at *
  have HBB := Lib.hid hb
  clear hr hb hs hT hn
  have z1 := zeroPre
  generalize hz : (tab 64 fun _ => bv 0#8) = zq at *
  have HZQ := Lib.hid hz
  clear hz
  have z2 := zeroHash
  generalize hz : (tab 32 fun _ => bv 0#8) = zh at *
  have HZH := Lib.hid hz
  clear hz
  have HA : Hid (IsTab ((w.alloc (.cells (tab 64 fun i => bv (p i)) 79)).alloc (.cells zq 79)) w.heap.size 79 64 (fun i => bv (p i)) ∧ IsTab ((w.alloc (.cells (tab 64 fun i => bv (p i)) 79)).alloc (.cells zq 79)) (w.heap.size + 1) 79 64 (fun _ => bv 0#8) ∧ Below w.heap.size w ((w.alloc (.cells (tab 64 fun i => bv (p i)) 79)).alloc (.cells zq 79)) ∧ ((w.alloc (.cells (tab 64 fun i => bv (p i)) 79)).alloc (.cells zq 79)).heap.size = w.heap.size + 2) := by
    refine Lib.hid ⟨(IsTab.new w _ 64 _).alloc _, ?_, ((Below.refl _ _).alloc (Nat.le_refl _) _).alloc (by simp) _, by simp⟩
    rw [← HZQ.out]
    have := IsTab.new (w.alloc (.cells (tab 64 fun i => bv (p i)) 79)) 79 64 fun _ => bv 0#8
    simpa using this
  unfold pv
  go_enter Tryd.func78, Tryd.ntmps78
  go_upto_region 1 with (fail)
  generalize ((w.alloc (.cells (tab 64 fun i => bv (p i)) 79)).alloc (.cells zq 79)) = y0 at *
  have HZ1 : Hid ((Tryd.prog.info? 42).map (·.size) = some zh.size ∧ zh.all (·.oneCell') = true) := Lib.hid ⟨by rw [← HZH.out]; exact infH _, by rw [← HZH.out]; exact one_bv _ _⟩
  go_upto_region 3 with ((with_reducible refine wpList_store_row (P := Tryd.prog) (w := y0.alloc (.cells zh 42)) ?_ 42 (.tmp 8) (.tmp 16) ?_ y0.heap.size zh ?_ ?_ 42 zh (heap_alloc_last y0 _) HZ1.out.1 rfl HZ1.out.2 ?_); (· exact rfl); (· exact rfl); (· exact rfl); (· exact rfl); rw [World.setRow_alloc_new]; simp only [Act.put])
  have H1 : Hid (IsTab (y0.alloc (.cells zh 42)) y0.heap.size 42 32 (fun _ => bv 0#8) ∧ IsTab (y0.alloc (.cells zh 42)) w.heap.size 79 64 (fun i => bv (p i)) ∧ IsTab (y0.alloc (.cells zh 42)) (w.heap.size + 1) 79 64 (fun _ => bv 0#8) ∧ Below w.heap.size w (y0.alloc (.cells zh 42))) := Lib.hid ⟨by rw [← HZH.out]; exact IsTab.new y0 _ 32 _, HA.out.1.alloc _, HA.out.2.1.alloc _, HA.out.2.2.1.alloc HA.out.2.2.1.size _⟩
  have HQS : Hid (w.heap.size + 1 < y0.heap.size) := Lib.hid (by have := HA.out.2.2.2; omega)
  clear HA
  generalize y0.alloc (.cells zh 42) = y1 at *
  generalize y0.heap.size = q8 at *
  have s1 := slHA q8
  have s2 := slPreA w.heap.size
  go_still_tail 2, (by kernel_rfl)
  change wpList _ _ _ _ _ y1.drew
  refine wpList_copy_tab rfl (.tmp 17) (.tmp 18) 120 120 rfl 5 und22 size8 q8 0 32 32 ⟨w.heap.size, 0, none⟩ 64 64 rfl rfl 42 32 (fun _ => bv 0#8) H1.out.1.drew 32 rfl (fun j => bv (p j)) (fun j hj => by rw [add_at, Nat.zero_add]; exact H1.out.2.1.drew.cell j (by omega)) (by decide) (fun _ => rfl) ?_
  have H2 : Hid (IsTab (y1.drew.setRow q8 (tab 32 (splv (fun _ => bv 0#8) 0 32 fun j => bv (p j)))) q8 42 32 (fun i => bv (p i)) ∧ IsTab (y1.drew.setRow q8 (tab 32 (splv (fun _ => bv 0#8) 0 32 fun j => bv (p j)))) (w.heap.size + 1) 79 64 (fun _ => bv 0#8) ∧ Below w.heap.size w (y1.drew.setRow q8 (tab 32 (splv (fun _ => bv 0#8) 0 32 fun j => bv (p j))))) := Lib.hid ⟨(IsTab.row (f := fun _ => bv 0#8) H1.out.1.drew).cong fun i hi => by unfold splv; rw [if_pos ⟨Nat.zero_le _, by omega⟩, Nat.sub_zero], H1.out.2.2.1.drew.rowOther (by have := HQS.out; omega), below_setRow H1.out.2.2.2.drew (by have := HQS.out; omega) _⟩
  clear H1 s1 s2
  generalize y1.drew.setRow q8 (tab 32 (splv (fun _ => bv 0#8) 0 32 fun j => bv (p j))) = y2 at *
  have hg := get_walk T s kb fb S p y2 (HST.out.1.below H2.out.2.2) (fun k hk => Nat.lt_of_lt_of_le (HST.out.2.1 k hk) H2.out.2.2.size) HST.out.2.2
  rw [HR.out, HBB.out] at hg
  unfold dv pv at hg
  have HG := Lib.hid hg
  have HLH := Lib.hid (loadHb H2.out.1)
  clear hg
  go_upto_region 5 with (first
    | ((with_reducible refine wpList_loadE (P := Tryd.prog) (w := y2) (ty := 42) (x := .tmp 8) (p := .pointer (some ⟨q8, 0, none⟩)) (v := .agg (tab 32 fun i => bv (p i))) ?_ ?_ ?_ HLH.out ?_); (· exact rfl); (· exact rfl); (· exact rfl))
    | (go_at_call 93; (with_reducible refine HG.out.mono ?_); rintro e y3 ⟨he, hst, hk⟩; obtain rfl : e = _ := he; have HS3 := Lib.hid (And.intro hst hk); clear hst hk HG)
    | ((with_reducible refine wpList_store_row (P := Tryd.prog) (w := y3.alloc (.cells zq 79)) ?_ 79 (.tmp 9) (.tmp 24) ?_ y3.heap.size (tab 64 fun i => bv (r i)) ?_ ?_ 79 zq (heap_alloc_last y3 _) (infPre _) ?_ (one_bv _ _) ?_); (· exact rfl); (· exact rfl); (· exact rfl); (· exact rfl); (· rw [← HZQ.out] <;> rw [tab_size, tab_size]); rw [World.setRow_alloc_new]; simp only [Act.put]))
  have H4 : Hid (IsTab (y3.alloc (.cells (tab 64 fun i => bv (r i)) 79)) y3.heap.size 79 64 (fun i => bv (r i)) ∧ IsTab (y3.alloc (.cells (tab 64 fun i => bv (r i)) 79)) (w.heap.size + 1) 79 64 (fun _ => bv 0#8) ∧ w.heap.size + 1 < y3.heap.size ∧ IsSt (y3.alloc (.cells (tab 64 fun i => bv (r i)) 79)) (Grow T y2 y3) s kb fb ⟨S.pres, askL S.asked p⟩ ∧ Kept T w (y3.alloc (.cells (tab 64 fun i => bv (r i)) 79)) ∧ ∀ k, Grow T y2 y3 k → (T k ∨ w.heap.size + 2 ≤ k) ∧ k < y3.heap.size) := by
    have h9 : IsTab y3 (w.heap.size + 1) 79 64 (fun _ => bv 0#8) := Wt.IsTab.kept H2.out.2.1 HS3.out.2 fun e => by have := HST.out.2.1 _ e; omega
    have hq8 := H2.out.1.lt
    have hqs := HQS.out
    refine Lib.hid ⟨IsTab.new y3 _ 64 _, h9.alloc _, by have := h9.lt; have := HS3.out.2.size; omega, HS3.out.1.below (ba _ _), ((Kept.ofBelow H2.out.2.2).trans HS3.out.2 fun _ _ h => h).alloc _, fun k hk => ?_⟩
    have hz := HS3.out.2.size
    rcases hk with hk | hk
    · have := HST.out.2.1 k hk
      exact ⟨.inl hk, by omega⟩
    · exact ⟨.inr (by omega), hk.2⟩
  clear H2 HS3 HLH
  generalize y3.alloc (.cells (tab 64 fun i => bv (r i)) 79) = y4 at *
  generalize Grow T y2 y3 = T2 at *
  generalize y3.heap.size = q9 at *
  have HEQ := Lib.hid (fun y : World => eqErr b y)
  refine wp_region_og (fun z : World => IsTab z q9 79 64 (fun i => bv (r i))) (.take 0 (.take 1 (.take 2 (.one 3 (.one 4 .done))))) (by kernel_rfl) (by kernel_rfl) H4.out.1.drew ?_
  have H5 := Lib.hid (H4.out.2.1.drew)
  have HN9 : Hid (¬ q9 = w.heap.size + 1) := Lib.hid (by have := H4.out.2.2.1; omega)
  have H6 : Hid (IsTab y4.drew q9 79 64 (fun i => bv (r i))) := Lib.hid H4.out.1.drew
  have HYD : Hid (y4.drew.heap = y4.heap ∧ Kept (fun _ => False) y4 y4.drew) := Lib.hid ⟨rfl, Wt.kept_drew y4⟩
  generalize y4.drew = y5 at *
  refine og_ld (some 26) 79 (.tmp 9) (.pointer (some ⟨q9, 0, none⟩)) (.agg (tab 64 fun i => bv (r i))) rfl rfl (by go_simp) rfl rfl (fun y hy => loadPb hy) ?_
  simp only [Act.put, pS]
  refine og_tk (some 27) (missV b) rfl rfl (by go_simp) (fun _ _ => by simp [execOp, go_sem]) ?_
  simp only [Act.put, pS]
  refine og_tk (some 28) (.bool b) rfl rfl (by go_simp) (fun y hy => by have h := HEQ.out y; have h2 := grdErr b 27 y; simp [execOp, go_sem, h, h2, Result.andThen]) ?_
  simp only [Act.put, pS]
  refine og_f rfl (by go_simp) fun K hK => ?_
  refine wp_store_row 79 (.tmp 6) (.tmp 26) rfl (w.heap.size + 1) (tab 64 fun i => bv (r i)) rfl rfl 79 _ H5.out (infPre _) (by rw [tab_size, tab_size]) (one_bv _ _) ?_
  refine hK _ _ (H6.out.rowOther HN9.out) ?_
  clear hK K
  simp only [Act.put, pS]
  have H7 : Hid (IsTab (y5.setRow (w.heap.size + 1) (tab 64 fun i => bv (r i))) (w.heap.size + 1) 79 64 (fun i => bv (r i)) ∧ Kept (fun k => k = w.heap.size + 1) y5 (y5.setRow (w.heap.size + 1) (tab 64 fun i => bv (r i))) ∧ IsTab (y5.setRow (w.heap.size + 1) (tab 64 fun i => bv (r i))) q9 79 64 (fun i => bv (r i))) := Lib.hid ⟨H5.out.row, ⟨by simp, by simp, by simp, by simp, fun k _ hk => setRow_other _ _ _ _ hk⟩, H6.out.rowOther HN9.out⟩
  generalize y5.setRow (w.heap.size + 1) (tab 64 fun i => bv (r i)) = y6 at *
  refine og_f rfl (by go_simp) fun K hK => ?_
  go_simp
  refine hK _ _ H7.out.2.2 ?_
  clear hK K
  refine og_done (NoPanic.normal ?_)
  go_wp2_with (fail)
  refine bodyPost_ret (Kc.results_cell_tmp rfl _ _ (w.heap.size + 1) 79 _ (0, 0) _ rfl H7.out.1 undPre rfl (infPre _) (.bool b) rfl) rfl ⟨rfl, T2, ?_, fun j hj => ?_, ?_⟩
  · have hl := HST.out.1.kin.lt
    exact (H4.out.2.2.2.1.kept HYD.out.2 (fun _ _ h => h) id id).kept H7.out.2.1 (fun k hk e => by have h1 := (H4.out.2.2.2.2.2 k hk).1; have h2 := HST.out.2.1 k; rcases h1 with h1 | h1 <;> first | (have := h2 h1; omega) | omega) (by omega) (by omega)
  · have h1 := H4.out.2.2.2.2.2 j hj
    have h2 := H4.out.1.lt
    have h3 := HYD.out.2.size
    have h4 := H7.out.2.1.size
    exact ⟨h1.1.imp id fun h => by omega, by omega⟩
  · exact (H4.out.2.2.2.2.1.trans HYD.out.2 fun _ _ h => h.elim).trans H7.out.2.1 fun k hlt e => by omega
set_option maxHeartbeats 4000000 in
set_option maxRecDepth 100000 in
theorem exd_add (T : Nat → Prop) (s kb fb : Nat) (S : Sto) (p : Px) (w : World) (hg : Laid.KTab w) (hs : IsSt w T s kb fb S) (hT : ∀ k, T k → k < w.heap.size) :
    Calls Tryd.prog 78 #[.pointer (some ⟨s, 0, none⟩), .int .i64 34, pv p] w fun e w' => e = .returned (.tuple #[pv (ht (Wt.hs p)), .bool true]) ∧ IsSt w' T s kb fb ⟨putM S.pres (Wt.hs p) p, S.asked⟩ ∧ Kept (Foot T kb fb) w w' := by
  have HST := Lib.hid (And.intro hs (And.intro hT hg))
  clear hs hT hg
  obtain ⟨h, hh⟩ : ∃ h, Wt.hs p = h := ⟨_, rfl⟩
  rw [hh]
  have HHH := Lib.hid hh
  clear hh
  have z1 := zeroPre
  generalize hz : (tab 64 fun _ => bv 0#8) = zq at *
  have HZQ := Lib.hid hz
  clear hz
  have z2 := zeroHash
  generalize hz : (tab 32 fun _ => bv 0#8) = zh at *
  have HZH := Lib.hid hz
  clear hz
  have HA : Hid (IsTab ((w.alloc (.cells (tab 64 fun i => bv (p i)) 79)).alloc (.cells zq 79)) w.heap.size 79 64 (fun i => bv (p i)) ∧ IsTab ((w.alloc (.cells (tab 64 fun i => bv (p i)) 79)).alloc (.cells zq 79)) (w.heap.size + 1) 79 64 (fun _ => bv 0#8) ∧ Below w.heap.size w ((w.alloc (.cells (tab 64 fun i => bv (p i)) 79)).alloc (.cells zq 79)) ∧ ((w.alloc (.cells (tab 64 fun i => bv (p i)) 79)).alloc (.cells zq 79)).heap.size = w.heap.size + 2) := by
    refine Lib.hid ⟨(IsTab.new w _ 64 _).alloc _, ?_, ((Below.refl _ _).alloc (Nat.le_refl _) _).alloc (by simp) _, by simp⟩
    rw [← HZQ.out]
    have := IsTab.new (w.alloc (.cells (tab 64 fun i => bv (p i)) 79)) 79 64 fun _ => bv 0#8
    simpa using this
  unfold pv
  go_enter Tryd.func78, Tryd.ntmps78
  go_upto_region 1 with (fail)
  generalize ((w.alloc (.cells (tab 64 fun i => bv (p i)) 79)).alloc (.cells zq 79)) = y0 at *
  have HZ1 : Hid ((Tryd.prog.info? 79).map (·.size) = some zq.size ∧ zq.all (·.oneCell') = true) := Lib.hid ⟨by rw [← HZQ.out]; exact infPre _, by rw [← HZQ.out]; exact one_bv _ _⟩
  have HBZ := Lib.hid (fun u : World => (show (Instr.build 79 #[]).run Tryd.prog u = .ok (.agg zq) u by rw [← HZQ.out]; exact buildZ u))
  go_upto_region 7 with (first
    | ((with_reducible refine Wt.wpList_buildM (P := Tryd.prog) (w := y0) ?_ 79 ?_ (.agg zq) (HBZ.out y0) ?_); (· exact rfl); (· exact rfl))
    | ((with_reducible refine wpList_store_row (P := Tryd.prog) (w := y0.alloc (.cells zq 79)) ?_ 79 (.tmp 11) (.tmp 29) ?_ y0.heap.size zq ?_ ?_ 79 zq (heap_alloc_last y0 _) HZ1.out.1 rfl HZ1.out.2 ?_); (· exact rfl); (· exact rfl); (· exact rfl); (· exact rfl); rw [World.setRow_alloc_new]; simp only [Act.put]))
  have H1 : Hid (IsTab (y0.alloc (.cells zq 79)) y0.heap.size 79 64 (fun _ => bv 0#8) ∧ IsTab (y0.alloc (.cells zq 79)) w.heap.size 79 64 (fun i => bv (p i)) ∧ IsTab (y0.alloc (.cells zq 79)) (w.heap.size + 1) 79 64 (fun _ => bv 0#8) ∧ Below w.heap.size w (y0.alloc (.cells zq 79))) := Lib.hid ⟨by rw [← HZQ.out]; exact IsTab.new y0 _ 64 _, HA.out.1.alloc _, HA.out.2.1.alloc _, HA.out.2.2.1.alloc HA.out.2.2.1.size _⟩
  have HQS : Hid (w.heap.size + 1 < y0.heap.size) := Lib.hid (by have := HA.out.2.2.2; omega)
  clear HA
  generalize y0.alloc (.cells zq 79) = y1 at *
  generalize y0.heap.size = q11 at *
  have hg := add_walk T s kb fb S p y1 (ktab_below HST.out.2.2 H1.out.2.2.2) (HST.out.1.below H1.out.2.2.2) (fun k hk => Nat.lt_of_lt_of_le (HST.out.2.1 k hk) H1.out.2.2.2.size)
  rw [HHH.out] at hg
  unfold dv pv at hg
  have HG := Lib.hid hg
  have HLP := Lib.hid (loadPb H1.out.2.1)
  clear hg
  go_upto_region 8 with (first
    | ((with_reducible refine wpList_loadE (P := Tryd.prog) (w := y1) (ty := 79) (x := .tmp 5) (p := .pointer (some ⟨w.heap.size, 0, none⟩)) (v := .agg (tab 64 fun i => bv (p i))) ?_ ?_ ?_ HLP.out ?_); (· exact rfl); (· exact rfl); (· exact rfl))
    | (go_at_call 33; (with_reducible refine HG.out.mono ?_); rintro e y3 ⟨he, hst, hk⟩; obtain rfl : e = _ := he; have HS3 := Lib.hid (And.intro hst hk); clear hst hk HG)
    | ((with_reducible refine wpList_store_row (P := Tryd.prog) (w := y3.alloc (.cells zh 42)) ?_ 42 (.tmp 12) (.tmp 34) ?_ y3.heap.size (tab 32 fun i => bv (h i)) ?_ ?_ 42 zh (heap_alloc_last y3 _) (infH _) ?_ (one_bv _ _) ?_); (· exact rfl); (· exact rfl); (· exact rfl); (· exact rfl); (· rw [← HZH.out] <;> rw [tab_size, tab_size]); rw [World.setRow_alloc_new]; simp only [Act.put]))
  have HFT : Hid (∀ k, Foot T kb fb k → k < w.heap.size) := Lib.hid fun k hk => by
    have hl := HST.out.1.kin.lt
    rcases hk with hk | hk | hk
    · exact HST.out.2.1 k hk
    · omega
    · omega
  have H2 : Hid (IsTab (y3.alloc (.cells (tab 32 fun i => bv (h i)) 42)) y3.heap.size 42 32 (fun i => bv (h i)) ∧ IsTab (y3.alloc (.cells (tab 32 fun i => bv (h i)) 42)) (w.heap.size + 1) 79 64 (fun _ => bv 0#8) ∧ IsTab (y3.alloc (.cells (tab 32 fun i => bv (h i)) 42)) q11 79 64 (fun _ => bv 0#8) ∧ q11 < y3.heap.size ∧ IsSt (y3.alloc (.cells (tab 32 fun i => bv (h i)) 42)) T s kb fb ⟨putM S.pres h p, S.asked⟩ ∧ Kept (Foot T kb fb) w (y3.alloc (.cells (tab 32 fun i => bv (h i)) 42))) := by
    have hqs := HQS.out
    have h8 : IsTab y3 (w.heap.size + 1) 79 64 (fun _ => bv 0#8) := Wt.IsTab.kept H1.out.2.2.1 HS3.out.2 fun e => by have := HFT.out _ e; omega
    have h9 : IsTab y3 q11 79 64 (fun _ => bv 0#8) := Wt.IsTab.kept H1.out.1 HS3.out.2 fun e => by have := HFT.out _ e; omega
    exact Lib.hid ⟨IsTab.new y3 _ 32 _, h8.alloc _, h9.alloc _, h9.lt, HS3.out.1.below (ba _ _), ((Kept.ofBelow H1.out.2.2.2).trans HS3.out.2 fun _ _ h => h).alloc _⟩
  clear H1 HS3 HLP
  generalize y3.alloc (.cells (tab 32 fun i => bv (h i)) 42) = y2 at *
  generalize y3.heap.size = q12 at *
  have s1 := slPreA q11
  have s2 := slHA q12
  go_still_tail 2, (by kernel_rfl)
  change wpList _ _ _ _ _ y2.drew
  refine wpList_copy_tab rfl (.tmp 36) (.tmp 37) 120 120 rfl 5 und22 size8 q11 0 64 64 ⟨q12, 0, none⟩ 32 32 rfl rfl 79 64 (fun _ => bv 0#8) H2.out.2.2.1.drew 32 rfl (fun j => bv (h j)) (fun j hj => by rw [add_at, Nat.zero_add]; exact H2.out.1.drew.cell j (by omega)) (by decide) (fun _ => rfl) ?_
  have H4 : Hid (IsTab (y2.drew.setRow q11 (tab 64 (splv (fun _ => bv 0#8) 0 32 fun j => bv (h j)))) q11 79 64 (fun i => bv (ht h i)) ∧ IsTab (y2.drew.setRow q11 (tab 64 (splv (fun _ => bv 0#8) 0 32 fun j => bv (h j)))) (w.heap.size + 1) 79 64 (fun _ => bv 0#8) ∧ w.heap.size + 1 < q11 ∧ Kept (fun k => k = q11) y2 (y2.drew.setRow q11 (tab 64 (splv (fun _ => bv 0#8) 0 32 fun j => bv (h j))))) := Lib.hid ⟨(IsTab.row (f := fun _ => bv 0#8) H2.out.2.2.1.drew).cong fun i hi => by
      unfold splv ht
      by_cases h3 : i < 32
      · rw [if_pos ⟨Nat.zero_le _, by omega⟩, if_pos h3, Nat.sub_zero]
      · rw [if_neg (by omega), if_neg h3], H2.out.2.1.drew.rowOther (by have := HQS.out; omega), HQS.out, ((Kept.refl (fun k => k = q11) y2).drew).trans ⟨by simp, by simp, by simp, by simp, fun k _ hk => setRow_other _ _ _ _ hk⟩ fun _ _ h => h⟩
  have H9 := Lib.hid (And.intro H2.out.2.2.2.2.1 H2.out.2.2.2.2.2)
  clear H2 s1 s2
  go_upto_region 9 with (fail)
  generalize y2.drew.setRow q11 (tab 64 (splv (fun _ => bv 0#8) 0 32 fun j => bv (h j))) = y4 at *
  have HEQ := Lib.hid (fun y : World => eqErr true y)
  have hm : missV true = .nilIface := rfl
  rw [hm] at HEQ
  refine wp_region_og (fun z : World => IsTab z q11 79 64 (fun i => bv (ht h i))) (.take 0 (.take 1 (.take 2 (.one 3 (.one 4 .done))))) (by kernel_rfl) (by kernel_rfl) H4.out.1.drew ?_
  have H5 := Lib.hid (H4.out.2.1.drew)
  have HN9 : Hid (¬ q11 = w.heap.size + 1) := Lib.hid (by have := H4.out.2.2.1; omega)
  have H6 : Hid (IsTab y4.drew q11 79 64 (fun i => bv (ht h i))) := Lib.hid H4.out.1.drew
  have HYD : Hid (y4.drew.heap = y4.heap ∧ Kept (fun _ => False) y4 y4.drew) := Lib.hid ⟨rfl, Wt.kept_drew y4⟩
  generalize y4.drew = y5 at *
  refine og_ld (some 39) 79 (.tmp 11) (.pointer (some ⟨q11, 0, none⟩)) (.agg (tab 64 fun i => bv (ht h i))) rfl rfl (by go_simp) rfl rfl (fun y hy => loadPb hy) ?_
  simp only [Act.put, pS]
  refine og_tk (some 40) (.nilIface) rfl rfl (by go_simp) (fun _ _ => by simp [execOp, go_sem]) ?_
  simp only [Act.put, pS]
  refine og_tk (some 41) (.bool true) rfl rfl (by go_simp) (fun y hy => by have h := HEQ.out y; have h2 := grdErr true 40 y; simp [execOp, go_sem, h, h2, Result.andThen]) ?_
  simp only [Act.put, pS]
  refine og_f rfl (by go_simp) fun K hK => ?_
  refine wp_store_row 79 (.tmp 6) (.tmp 39) rfl (w.heap.size + 1) (tab 64 fun i => bv (ht h i)) rfl rfl 79 _ H5.out (infPre _) (by rw [tab_size, tab_size]) (one_bv _ _) ?_
  refine hK _ _ (H6.out.rowOther HN9.out) ?_
  clear hK K
  simp only [Act.put, pS]
  have H7 : Hid (IsTab (y5.setRow (w.heap.size + 1) (tab 64 fun i => bv (ht h i))) (w.heap.size + 1) 79 64 (fun i => bv (ht h i)) ∧ Kept (fun k => k = w.heap.size + 1) y5 (y5.setRow (w.heap.size + 1) (tab 64 fun i => bv (ht h i))) ∧ IsTab (y5.setRow (w.heap.size + 1) (tab 64 fun i => bv (ht h i))) q11 79 64 (fun i => bv (ht h i))) := Lib.hid ⟨H5.out.row, ⟨by simp, by simp, by simp, by simp, fun k _ hk => setRow_other _ _ _ _ hk⟩, H6.out.rowOther HN9.out⟩
  generalize y5.setRow (w.heap.size + 1) (tab 64 fun i => bv (ht h i)) = y6 at *
  refine og_f rfl (by go_simp) fun K hK => ?_
  go_simp
  refine hK _ _ H7.out.2.2 ?_
  clear hK K
  refine og_done (NoPanic.normal ?_)
  go_wp2_with (fail)
  refine bodyPost_ret (Kc.results_cell_tmp rfl _ _ (w.heap.size + 1) 79 _ (0, 0) _ rfl H7.out.1 undPre rfl (infPre _) (.bool true) rfl) rfl ⟨rfl, ?_, ?_⟩
  · have hl := HST.out.1.kin.lt
    have hqs := HQS.out
    exact ((H9.out.1.kept H4.out.2.2.2 (fun k hk e => by have := HST.out.2.1 k hk; omega) (by omega) (by omega)).kept HYD.out.2 (fun _ _ h => h) id id).kept H7.out.2.1 (fun k hk e => by have := HST.out.2.1 k hk; omega) (by omega) (by omega)
  · have hqs := HQS.out
    exact ((H9.out.2.trans H4.out.2.2.2 fun k hlt e => by omega).trans HYD.out.2 fun _ _ h => h.elim).trans H7.out.2.1 fun k hlt e => by omega
end Vm
end Go.Proofs.YtjfpbponjhpdhaaDoor
