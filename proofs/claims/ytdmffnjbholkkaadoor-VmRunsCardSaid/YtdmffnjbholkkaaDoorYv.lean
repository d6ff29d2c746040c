/- Merged. Own work. -/
import Derived.Test.YtdmffnjbholkkaaDoorYr
import Derived.Test.YtdmffnjbholkkaaDoorZv
import Derived.Test.YtdmffnjbholkkaaDoorYo
namespace Go.Proofs.YtdmffnjbholkkaaDoor
open Go.RowKit
set_option linter.unusedVariables false
set_option linter.unusedSimpArgs false
namespace Vm
open Kc Mk Wt
/-- A word's byte. -/
def wb (v j : Nat) : Bt := BitVec.ofNat 8 (Rl.byteOf v j)
theorem wb_nat (v j : Nat) : (wb v j).toNat = Rl.byteOf v j := by
  unfold wb Rl.byteOf
  rw [BitVec.toNat_ofNat]
  omega
theorem bv_nat (x : Bt) : bv x = .int .u8 ((x.toNat : Nat) : Int) := rfl
/-- Words laid down, noughts behind them. -/
def pxW (n : Nat) (f : Nat → Nat) : Px := fun j => if j < 8 * n then wb (f (j / 8)) (j % 8) else 0#8
/-- A word of bytes. -/
def wd (g : Nat → Bt) (i : Nat) : Nat := Rl.gv (fun j => (g (8 * i + j)).toNat) 8
theorem wd_lt (g : Nat → Bt) (i : Nat) : wd g i < 18446744073709551616 := by
  have := Rl.gv_lt (f := fun j => (g (8 * i + j)).toNat) (fun j => (g (8 * i + j)).isLt) 8
  exact this
theorem wd_pxW (n : Nat) (f : Nat → Nat) (i : Nat) (hi : i < n) (hf : f i < 18446744073709551616) : wd (pxW n f) i = f i := by
  have h : ∀ j, j < 8 → (pxW n f (8 * i + j)).toNat = Rl.byteOf (f i) j := fun j hj => by
    unfold pxW
    rw [if_pos (by omega), wb_nat, show (8 * i + j) / 8 = i from by omega, show (8 * i + j) % 8 = j from by omega]
  unfold wd
  simp only [Rl.gv]
  rw [h 0 (by decide), h 1 (by decide), h 2 (by decide), h 3 (by decide), h 4 (by decide), h 5 (by decide), h 6 (by decide), h 7 (by decide)]
  unfold Rl.byteOf
  omega
theorem byte_wd (g : Nat → Bt) (i j : Nat) (hj : j < 8) : Rl.byteOf (wd g i) j = (g (8 * i + j)).toNat := by
  have h0 := (g (8 * i + 0)).isLt
  have h1 := (g (8 * i + 1)).isLt
  have h2 := (g (8 * i + 2)).isLt
  have h3 := (g (8 * i + 3)).isLt
  have h4 := (g (8 * i + 4)).isLt
  have h5 := (g (8 * i + 5)).isLt
  have h6 := (g (8 * i + 6)).isLt
  have h7 := (g (8 * i + 7)).isLt
  rcases (show j = 0 ∨ j = 1 ∨ j = 2 ∨ j = 3 ∨ j = 4 ∨ j = 5 ∨ j = 6 ∨ j = 7 by omega) with rfl | rfl | rfl | rfl | rfl | rfl | rfl | rfl
  all_goals (unfold wd; simp only [Rl.gv]; unfold Rl.byteOf; omega)
theorem pxW_wd (g : Nat → Bt) (n j : Nat) (hj : j < 8 * n) : pxW n (wd g) j = g j := by
  unfold pxW
  rw [if_pos hj]
  apply BitVec.eq_of_toNat_eq
  rw [wb_nat, byte_wd g (j / 8) (j % 8) (by omega), show 8 * (j / 8) + j % 8 = j from by omega]
theorem put_pxW (i : Nat) (f : Nat → Nat) (j : Nat) : Rl.putv (fun j => bv (pxW i f j)) i (f i) 8 j = bv (pxW (i + 1) f j) := by
  unfold Rl.putv pxW
  by_cases h1 : 8 * i ≤ j ∧ j < 8 * i + 8
  · rw [if_pos h1, if_pos (by omega), bv_nat, wb_nat, show j / 8 = i from by omega, show j % 8 = j - 8 * i from by omega]
    rfl
  · rw [if_neg h1]
    show bv (if j < 8 * i then _ else _) = _
    by_cases h2 : j < 8 * i
    · rw [if_pos h2, if_pos (by omega)]
    · rw [if_neg h2, if_neg (by omega)]
theorem pxW_zero (f : Nat → Nat) : pxW 0 f = fun _ => 0#8 := by
  funext j; unfold pxW; rw [if_neg (by omega)]
theorem pxW_cong {n : Nat} {f g : Nat → Nat} (h : ∀ i, i < n → f i = g i) : pxW n f = pxW n g := by
  funext j
  unfold pxW
  split
  · rw [h (j / 8) (by omega)]
  · rfl
/-- A digest, noughts behind it. -/
def ht (h : Hx) : Px := fun j => if j < 32 then h j else 0#8
theorem eqErr (b : Bool) (w : World) : (binOp .eql 41 (missV b) .nilIface).run Tryd.prog w = .ok (.bool b) w := by
  cases b
  · exact run_eql_held_nil (P := Tryd.prog) w 41 62 (.int .i64 14) (by kernel_rfl)
  · exact run_eql_nil_nil (P := Tryd.prog) w 41 (by kernel_rfl)
theorem grdErr (b : Bool) (n : Tmp) (w : World) : (eqGuard .eql 41 (.tmp n) (.const .nilIface) (missV b) .nilIface).run Tryd.prog w = .ok () w := by
  cases b <;> rfl
set_option maxHeartbeats 4000000 in
set_option maxRecDepth 100000 in
theorem exd_get (T : Nat → Prop) (s kb fb : Nat) (S : Sto) (p : Px) (w : World) (hs : IsSt w T s kb fb S) (hT : ∀ k, T k → k < w.heap.size) (hn : S.asked.length < 1073741824) :
    Calls Tryd.prog 95 #[.pointer (some ⟨s, 0, none⟩), .int .i64 35, pv p] w fun e w' => e = .returned (.tuple #[pv ((Wt.look S.pres p).getD zp), .bool (Wt.has S.pres p)]) ∧ ∃ T' : Nat → Prop, IsSt w' T' s kb fb ⟨S.pres, askL S.asked p⟩ ∧ (∀ j, T' j → (T j ∨ w.heap.size ≤ j) ∧ j < w'.heap.size) ∧ Kept T w w' := by
  have HST := Lib.hid (And.intro hs (And.intro hT hn))
  generalize hr : (Wt.look S.pres p).getD zp = r at *
  have HR := Lib.hid hr
  generalize hb : Wt.has S.pres p = b at *
  have HBB := Lib.hid hb
  clear hr hb hs hT hn
  have z1 := zeroPre
  generalize hz : (tab 64 fun _ => bv 0#8) = zq at *
  have HZQ := Lib.hid hz
  clear hz
  have z2 := zeroHash
  generalize hz : (tab 32 fun _ => bv 0#8) = zh at *
  have HZH := Lib.hid hz
  clear hz
  have HA : Hid (IsTab ((w.alloc (.cells (tab 64 fun i => bv (p i)) 37)).alloc (.cells zq 37)) w.heap.size 37 64 (fun i => bv (p i)) ∧ IsTab ((w.alloc (.cells (tab 64 fun i => bv (p i)) 37)).alloc (.cells zq 37)) (w.heap.size + 1) 37 64 (fun _ => bv 0#8) ∧ Below w.heap.size w ((w.alloc (.cells (tab 64 fun i => bv (p i)) 37)).alloc (.cells zq 37)) ∧ ((w.alloc (.cells (tab 64 fun i => bv (p i)) 37)).alloc (.cells zq 37)).heap.size = w.heap.size + 2) := by
    refine Lib.hid ⟨(IsTab.new w _ 64 _).alloc _, ?_, ((Below.refl _ _).alloc (Nat.le_refl _) _).alloc (by simp) _, by simp⟩
    rw [← HZQ.out]
    have := IsTab.new (w.alloc (.cells (tab 64 fun i => bv (p i)) 37)) 37 64 fun _ => bv 0#8
    simpa using this
  unfold pv
  go_enter Tryd.func95, Tryd.ntmps95
  go_upto_region 1 with (fail)
  generalize ((w.alloc (.cells (tab 64 fun i => bv (p i)) 37)).alloc (.cells zq 37)) = y0 at *
  have HZ1 : Hid ((Tryd.prog.info? 39).map (·.size) = some zh.size ∧ zh.all (·.oneCell') = true) := Lib.hid ⟨by rw [← HZH.out]; exact infH _, by rw [← HZH.out]; exact one_bv _ _⟩
  go_upto_region 3 with ((with_reducible refine wpList_store_row (P := Tryd.prog) (w := y0.alloc (.cells zh 39)) ?_ 39 (.tmp 8) (.tmp 16) ?_ y0.heap.size zh ?_ ?_ 39 zh (heap_alloc_last y0 _) HZ1.out.1 rfl HZ1.out.2 ?_); (· exact rfl); (· exact rfl); (· exact rfl); (· exact rfl); rw [World.setRow_alloc_new]; simp only [Act.put])
  have H1 : Hid (IsTab (y0.alloc (.cells zh 39)) y0.heap.size 39 32 (fun _ => bv 0#8) ∧ IsTab (y0.alloc (.cells zh 39)) w.heap.size 37 64 (fun i => bv (p i)) ∧ IsTab (y0.alloc (.cells zh 39)) (w.heap.size + 1) 37 64 (fun _ => bv 0#8) ∧ Below w.heap.size w (y0.alloc (.cells zh 39))) := Lib.hid ⟨by rw [← HZH.out]; exact IsTab.new y0 _ 32 _, HA.out.1.alloc _, HA.out.2.1.alloc _, HA.out.2.2.1.alloc HA.out.2.2.1.size _⟩
  have HQS : Hid (w.heap.size + 1 < y0.heap.size) := Lib.hid (by have := HA.out.2.2.2; omega)
  clear HA
  generalize y0.alloc (.cells zh 39) = y1 at *
  generalize y0.heap.size = q8 at *
  have s1 := slHA q8
  have s2 := slPreA w.heap.size
  go_still_tail 2, (by kernel_rfl)
  change wpList _ _ _ _ _ y1.drew
  refine wpList_copy_tab rfl (.tmp 17) (.tmp 18) 127 127 rfl 5 und22 size8 q8 0 32 32 ⟨w.heap.size, 0, none⟩ 64 64 rfl rfl 39 32 (fun _ => bv 0#8) H1.out.1.drew 32 rfl (fun j => bv (p j)) (fun j hj => by rw [add_at, Nat.zero_add]; exact H1.out.2.1.drew.cell j (by omega)) (by decide) (fun _ => rfl) ?_
  have H2 : Hid (IsTab (y1.drew.setRow q8 (tab 32 (splv (fun _ => bv 0#8) 0 32 fun j => bv (p j)))) q8 39 32 (fun i => bv (p i)) ∧ IsTab (y1.drew.setRow q8 (tab 32 (splv (fun _ => bv 0#8) 0 32 fun j => bv (p j)))) (w.heap.size + 1) 37 64 (fun _ => bv 0#8) ∧ Below w.heap.size w (y1.drew.setRow q8 (tab 32 (splv (fun _ => bv 0#8) 0 32 fun j => bv (p j))))) := Lib.hid ⟨(IsTab.row (f := fun _ => bv 0#8) H1.out.1.drew).cong fun i hi => by unfold splv; rw [if_pos ⟨Nat.zero_le _, by omega⟩, Nat.sub_zero], H1.out.2.2.1.drew.rowOther (by have := HQS.out; omega), below_setRow H1.out.2.2.2.drew (by have := HQS.out; omega) _⟩
  clear H1 s1 s2
  generalize y1.drew.setRow q8 (tab 32 (splv (fun _ => bv 0#8) 0 32 fun j => bv (p j))) = y2 at *
  have hg := get_walk T s kb fb S p y2 (HST.out.1.below H2.out.2.2) (fun k hk => Nat.lt_of_lt_of_le (HST.out.2.1 k hk) H2.out.2.2.size) HST.out.2.2
  rw [HR.out, HBB.out] at hg
  unfold dv pv at hg
  have HG := Lib.hid hg
  have HLH := Lib.hid (loadHb H2.out.1)
  clear hg
  go_upto_region 5 with (first
    | ((with_reducible refine wpList_loadE (P := Tryd.prog) (w := y2) (ty := 39) (x := .tmp 8) (p := .pointer (some ⟨q8, 0, none⟩)) (v := .agg (tab 32 fun i => bv (p i))) ?_ ?_ ?_ HLH.out ?_); (· exact rfl); (· exact rfl); (· exact rfl))
    | (go_at_call 19; (with_reducible refine HG.out.mono ?_); rintro e y3 ⟨he, hst, hk⟩; obtain rfl : e = _ := he; have HS3 := Lib.hid (And.intro hst hk); clear hst hk HG)
    | ((with_reducible refine wpList_store_row (P := Tryd.prog) (w := y3.alloc (.cells zq 37)) ?_ 37 (.tmp 9) (.tmp 24) ?_ y3.heap.size (tab 64 fun i => bv (r i)) ?_ ?_ 37 zq (heap_alloc_last y3 _) (infPre _) ?_ (one_bv _ _) ?_); (· exact rfl); (· exact rfl); (· exact rfl); (· exact rfl); (· rw [← HZQ.out] <;> rw [tab_size, tab_size]); rw [World.setRow_alloc_new]; simp only [Act.put]))
  have H4 : Hid (IsTab (y3.alloc (.cells (tab 64 fun i => bv (r i)) 37)) y3.heap.size 37 64 (fun i => bv (r i)) ∧ IsTab (y3.alloc (.cells (tab 64 fun i => bv (r i)) 37)) (w.heap.size + 1) 37 64 (fun _ => bv 0#8) ∧ w.heap.size + 1 < y3.heap.size ∧ IsSt (y3.alloc (.cells (tab 64 fun i => bv (r i)) 37)) (Grow T y2 y3) s kb fb ⟨S.pres, askL S.asked p⟩ ∧ Kept T w (y3.alloc (.cells (tab 64 fun i => bv (r i)) 37)) ∧ ∀ k, Grow T y2 y3 k → (T k ∨ w.heap.size + 2 ≤ k) ∧ k < y3.heap.size) := by
    have h9 : IsTab y3 (w.heap.size + 1) 37 64 (fun _ => bv 0#8) := Wt.IsTab.kept H2.out.2.1 HS3.out.2 fun e => by have := HST.out.2.1 _ e; omega
    have hq8 := H2.out.1.lt
    have hqs := HQS.out
    refine Lib.hid ⟨IsTab.new y3 _ 64 _, h9.alloc _, by have := h9.lt; have := HS3.out.2.size; omega, HS3.out.1.below (ba _ _), ((Kept.ofBelow H2.out.2.2).trans HS3.out.2 fun _ _ h => h).alloc _, fun k hk => ?_⟩
    have hz := HS3.out.2.size
    rcases hk with hk | hk
    · have := HST.out.2.1 k hk
      exact ⟨.inl hk, by omega⟩
    · exact ⟨.inr (by omega), hk.2⟩
  clear H2 HS3 HLH
  generalize y3.alloc (.cells (tab 64 fun i => bv (r i)) 37) = y4 at *
  generalize Grow T y2 y3 = T2 at *
  generalize y3.heap.size = q9 at *
  have HEQ := Lib.hid (fun y : World => eqErr b y)
  refine wp_region_og (fun z : World => IsTab z q9 37 64 (fun i => bv (r i))) (.take 0 (.take 1 (.take 2 (.one 3 (.one 4 .done))))) (by kernel_rfl) (by kernel_rfl) H4.out.1.drew ?_
  have H5 := Lib.hid (H4.out.2.1.drew)
  have HN9 : Hid (¬ q9 = w.heap.size + 1) := Lib.hid (by have := H4.out.2.2.1; omega)
  have H6 : Hid (IsTab y4.drew q9 37 64 (fun i => bv (r i))) := Lib.hid H4.out.1.drew
  have HYD : Hid (y4.drew.heap = y4.heap ∧ Kept (fun _ => False) y4 y4.drew) := Lib.hid ⟨rfl, Wt.kept_drew y4⟩
  generalize y4.drew = y5 at *
  refine og_ld (some 26) 37 (.tmp 9) (.pointer (some ⟨q9, 0, none⟩)) (.agg (tab 64 fun i => bv (r i))) rfl rfl (by go_simp) rfl rfl (fun y hy => loadPb hy) ?_
  simp only [Act.put, pS]
  refine og_tk (some 27) (missV b) rfl rfl (by go_simp) (fun _ _ => by simp [execOp, go_sem]) ?_
  simp only [Act.put, pS]
  refine og_tk (some 28) (.bool b) rfl rfl (by go_simp) (fun y hy => by have h := HEQ.out y; have h2 := grdErr b 27 y; simp [execOp, go_sem, h, h2, Result.andThen]) ?_
  simp only [Act.put, pS]
  refine og_f rfl (by go_simp) fun K hK => ?_
  refine wp_store_row 37 (.tmp 6) (.tmp 26) rfl (w.heap.size + 1) (tab 64 fun i => bv (r i)) rfl rfl 37 _ H5.out (infPre _) (by rw [tab_size, tab_size]) (one_bv _ _) ?_
  refine hK _ _ (H6.out.rowOther HN9.out) ?_
  clear hK K
  simp only [Act.put, pS]
  have H7 : Hid (IsTab (y5.setRow (w.heap.size + 1) (tab 64 fun i => bv (r i))) (w.heap.size + 1) 37 64 (fun i => bv (r i)) ∧ Kept (fun k => k = w.heap.size + 1) y5 (y5.setRow (w.heap.size + 1) (tab 64 fun i => bv (r i))) ∧ IsTab (y5.setRow (w.heap.size + 1) (tab 64 fun i => bv (r i))) q9 37 64 (fun i => bv (r i))) := Lib.hid ⟨H5.out.row, ⟨by simp, by simp, by simp, by simp, fun k _ hk => setRow_other _ _ _ _ hk⟩, H6.out.rowOther HN9.out⟩
  generalize y5.setRow (w.heap.size + 1) (tab 64 fun i => bv (r i)) = y6 at *
  refine og_f rfl (by go_simp) fun K hK => ?_
  go_simp
  refine hK _ _ H7.out.2.2 ?_
  clear hK K
  refine og_done (NoPanic.normal ?_)
  go_wp2_with (fail)
  refine bodyPost_ret (Kc.results_cell_tmp rfl _ _ (w.heap.size + 1) 37 _ (0, 0) _ rfl H7.out.1 undPre rfl (infPre _) (.bool b) rfl) rfl ⟨rfl, T2, ?_, fun j hj => ?_, ?_⟩
  · have hl := HST.out.1.kin.lt
    exact (H4.out.2.2.2.1.kept HYD.out.2 (fun _ _ h => h) id id).kept H7.out.2.1 (fun k hk e => by have h1 := (H4.out.2.2.2.2.2 k hk).1; have h2 := HST.out.2.1 k; rcases h1 with h1 | h1 <;> first | (have := h2 h1; omega) | omega) (by omega) (by omega)
  · have h1 := H4.out.2.2.2.2.2 j hj
    have h2 := H4.out.1.lt
    have h3 := HYD.out.2.size
    have h4 := H7.out.2.1.size
    exact ⟨h1.1.imp id fun h => by omega, by omega⟩
  · exact (H4.out.2.2.2.2.1.trans HYD.out.2 fun _ _ h => h.elim).trans H7.out.2.1 fun k hlt e => by omega
set_option maxHeartbeats 4000000 in
set_option maxRecDepth 100000 in
theorem exd_add (T : Nat → Prop) (s kb fb : Nat) (S : Sto) (p : Px) (w : World) (hg : Laid.KTab w) (hs : IsSt w T s kb fb S) (hT : ∀ k, T k → k < w.heap.size) :
    Calls Tryd.prog 95 #[.pointer (some ⟨s, 0, none⟩), .int .i64 34, pv p] w fun e w' => e = .returned (.tuple #[pv (ht (Wt.hs p)), .bool true]) ∧ IsSt w' T s kb fb ⟨putM S.pres (Wt.hs p) p, S.asked⟩ ∧ Kept (Foot T kb fb) w w' := by
  have HST := Lib.hid (And.intro hs (And.intro hT hg))
  clear hs hT hg
  obtain ⟨h, hh⟩ : ∃ h, Wt.hs p = h := ⟨_, rfl⟩
  rw [hh]
  have HHH := Lib.hid hh
  clear hh
  have z1 := zeroPre
  generalize hz : (tab 64 fun _ => bv 0#8) = zq at *
  have HZQ := Lib.hid hz
  clear hz
  have z2 := zeroHash
  generalize hz : (tab 32 fun _ => bv 0#8) = zh at *
  have HZH := Lib.hid hz
  clear hz
  have HA : Hid (IsTab ((w.alloc (.cells (tab 64 fun i => bv (p i)) 37)).alloc (.cells zq 37)) w.heap.size 37 64 (fun i => bv (p i)) ∧ IsTab ((w.alloc (.cells (tab 64 fun i => bv (p i)) 37)).alloc (.cells zq 37)) (w.heap.size + 1) 37 64 (fun _ => bv 0#8) ∧ Below w.heap.size w ((w.alloc (.cells (tab 64 fun i => bv (p i)) 37)).alloc (.cells zq 37)) ∧ ((w.alloc (.cells (tab 64 fun i => bv (p i)) 37)).alloc (.cells zq 37)).heap.size = w.heap.size + 2) := by
    refine Lib.hid ⟨(IsTab.new w _ 64 _).alloc _, ?_, ((Below.refl _ _).alloc (Nat.le_refl _) _).alloc (by simp) _, by simp⟩
    rw [← HZQ.out]
    have := IsTab.new (w.alloc (.cells (tab 64 fun i => bv (p i)) 37)) 37 64 fun _ => bv 0#8
    simpa using this
  unfold pv
  go_enter Tryd.func95, Tryd.ntmps95
  go_upto_region 1 with (fail)
  generalize ((w.alloc (.cells (tab 64 fun i => bv (p i)) 37)).alloc (.cells zq 37)) = y0 at *
  have HZ1 : Hid ((Tryd.prog.info? 37).map (·.size) = some zq.size ∧ zq.all (·.oneCell') = true) := Lib.hid ⟨by rw [← HZQ.out]; exact infPre _, by rw [← HZQ.out]; exact one_bv _ _⟩
  have HBZ := Lib.hid (fun u : World => (show (Instr.build 37 #[]).run Tryd.prog u = .ok (.agg zq) u by rw [← HZQ.out]; exact buildZ u))
  go_upto_region 7 with (first
    | ((with_reducible refine Wt.wpList_buildM (P := Tryd.prog) (w := y0) ?_ 37 ?_ (.agg zq) (HBZ.out y0) ?_); (· exact rfl); (· exact rfl))
    | ((with_reducible refine wpList_store_row (P := Tryd.prog) (w := y0.alloc (.cells zq 37)) ?_ 37 (.tmp 11) (.tmp 29) ?_ y0.heap.size zq ?_ ?_ 37 zq (heap_alloc_last y0 _) HZ1.out.1 rfl HZ1.out.2 ?_); (· exact rfl); (· exact rfl); (· exact rfl); (· exact rfl); rw [World.setRow_alloc_new]; simp only [Act.put]))
  have H1 : Hid (IsTab (y0.alloc (.cells zq 37)) y0.heap.size 37 64 (fun _ => bv 0#8) ∧ IsTab (y0.alloc (.cells zq 37)) w.heap.size 37 64 (fun i => bv (p i)) ∧ IsTab (y0.alloc (.cells zq 37)) (w.heap.size + 1) 37 64 (fun _ => bv 0#8) ∧ Below w.heap.size w (y0.alloc (.cells zq 37))) := Lib.hid ⟨by rw [← HZQ.out]; exact IsTab.new y0 _ 64 _, HA.out.1.alloc _, HA.out.2.1.alloc _, HA.out.2.2.1.alloc HA.out.2.2.1.size _⟩
  have HQS : Hid (w.heap.size + 1 < y0.heap.size) := Lib.hid (by have := HA.out.2.2.2; omega)
  clear HA
  generalize y0.alloc (.cells zq 37) = y1 at *
  generalize y0.heap.size = q11 at *
  have hg := add_walk T s kb fb S p y1 (ktab_below HST.out.2.2 H1.out.2.2.2) (HST.out.1.below H1.out.2.2.2) (fun k hk => Nat.lt_of_lt_of_le (HST.out.2.1 k hk) H1.out.2.2.2.size)
  rw [HHH.out] at hg
  unfold dv pv at hg
  have HG := Lib.hid hg
  have HLP := Lib.hid (loadPb H1.out.2.1)
  clear hg
  go_upto_region 8 with (first
    | ((with_reducible refine wpList_loadE (P := Tryd.prog) (w := y1) (ty := 37) (x := .tmp 5) (p := .pointer (some ⟨w.heap.size, 0, none⟩)) (v := .agg (tab 64 fun i => bv (p i))) ?_ ?_ ?_ HLP.out ?_); (· exact rfl); (· exact rfl); (· exact rfl))
    | (go_at_call 17; (with_reducible refine HG.out.mono ?_); rintro e y3 ⟨he, hst, hk⟩; obtain rfl : e = _ := he; have HS3 := Lib.hid (And.intro hst hk); clear hst hk HG)
    | ((with_reducible refine wpList_store_row (P := Tryd.prog) (w := y3.alloc (.cells zh 39)) ?_ 39 (.tmp 12) (.tmp 34) ?_ y3.heap.size (tab 32 fun i => bv (h i)) ?_ ?_ 39 zh (heap_alloc_last y3 _) (infH _) ?_ (one_bv _ _) ?_); (· exact rfl); (· exact rfl); (· exact rfl); (· exact rfl); (· rw [← HZH.out] <;> rw [tab_size, tab_size]); rw [World.setRow_alloc_new]; simp only [Act.put]))
  have HFT : Hid (∀ k, Foot T kb fb k → k < w.heap.size) := Lib.hid fun k hk => by
    have hl := HST.out.1.kin.lt
    rcases hk with hk | hk | hk
    · exact HST.out.2.1 k hk
    · omega
    · omega
  have H2 : Hid (IsTab (y3.alloc (.cells (tab 32 fun i => bv (h i)) 39)) y3.heap.size 39 32 (fun i => bv (h i)) ∧ IsTab (y3.alloc (.cells (tab 32 fun i => bv (h i)) 39)) (w.heap.size + 1) 37 64 (fun _ => bv 0#8) ∧ IsTab (y3.alloc (.cells (tab 32 fun i => bv (h i)) 39)) q11 37 64 (fun _ => bv 0#8) ∧ q11 < y3.heap.size ∧ IsSt (y3.alloc (.cells (tab 32 fun i => bv (h i)) 39)) T s kb fb ⟨putM S.pres h p, S.asked⟩ ∧ Kept (Foot T kb fb) w (y3.alloc (.cells (tab 32 fun i => bv (h i)) 39))) := by
    have hqs := HQS.out
    have h8 : IsTab y3 (w.heap.size + 1) 37 64 (fun _ => bv 0#8) := Wt.IsTab.kept H1.out.2.2.1 HS3.out.2 fun e => by have := HFT.out _ e; omega
    have h9 : IsTab y3 q11 37 64 (fun _ => bv 0#8) := Wt.IsTab.kept H1.out.1 HS3.out.2 fun e => by have := HFT.out _ e; omega
    exact Lib.hid ⟨IsTab.new y3 _ 32 _, h8.alloc _, h9.alloc _, h9.lt, HS3.out.1.below (ba _ _), ((Kept.ofBelow H1.out.2.2.2).trans HS3.out.2 fun _ _ h => h).alloc _⟩
  clear H1 HS3 HLP
  generalize y3.alloc (.cells (tab 32 fun i => bv (h i)) 39) = y2 at *
  generalize y3.heap.size = q12 at *
  have s1 := slPreA q11
  have s2 := slHA q12
  go_still_tail 2, (by kernel_rfl)
  change wpList _ _ _ _ _ y2.drew
  refine wpList_copy_tab rfl (.tmp 36) (.tmp 37) 127 127 rfl 5 und22 size8 q11 0 64 64 ⟨q12, 0, none⟩ 32 32 rfl rfl 37 64 (fun _ => bv 0#8) H2.out.2.2.1.drew 32 rfl (fun j => bv (h j)) (fun j hj => by rw [add_at, Nat.zero_add]; exact H2.out.1.drew.cell j (by omega)) (by decide) (fun _ => rfl) ?_
  have H4 : Hid (IsTab (y2.drew.setRow q11 (tab 64 (splv (fun _ => bv 0#8) 0 32 fun j => bv (h j)))) q11 37 64 (fun i => bv (ht h i)) ∧ IsTab (y2.drew.setRow q11 (tab 64 (splv (fun _ => bv 0#8) 0 32 fun j => bv (h j)))) (w.heap.size + 1) 37 64 (fun _ => bv 0#8) ∧ w.heap.size + 1 < q11 ∧ Kept (fun k => k = q11) y2 (y2.drew.setRow q11 (tab 64 (splv (fun _ => bv 0#8) 0 32 fun j => bv (h j))))) := Lib.hid ⟨(IsTab.row (f := fun _ => bv 0#8) H2.out.2.2.1.drew).cong fun i hi => by
      unfold splv ht
      by_cases h3 : i < 32
      · rw [if_pos ⟨Nat.zero_le _, by omega⟩, if_pos h3, Nat.sub_zero]
      · rw [if_neg (by omega), if_neg h3], H2.out.2.1.drew.rowOther (by have := HQS.out; omega), HQS.out, ((Kept.refl (fun k => k = q11) y2).drew).trans ⟨by simp, by simp, by simp, by simp, fun k _ hk => setRow_other _ _ _ _ hk⟩ fun _ _ h => h⟩
  have H9 := Lib.hid (And.intro H2.out.2.2.2.2.1 H2.out.2.2.2.2.2)
  clear H2 s1 s2
  go_upto_region 9 with (fail)
  generalize y2.drew.setRow q11 (tab 64 (splv (fun _ => bv 0#8) 0 32 fun j => bv (h j))) = y4 at *
  have HEQ := Lib.hid (fun y : World => eqErr true y)
  have hm : missV true = .nilIface := rfl
  rw [hm] at HEQ
  refine wp_region_og (fun z : World => IsTab z q11 37 64 (fun i => bv (ht h i))) (.take 0 (.take 1 (.take 2 (.one 3 (.one 4 .done))))) (by kernel_rfl) (by kernel_rfl) H4.out.1.drew ?_
  have H5 := Lib.hid (H4.out.2.1.drew)
  have HN9 : Hid (¬ q11 = w.heap.size + 1) := Lib.hid (by have := H4.out.2.2.1; omega)
  have H6 : Hid (IsTab y4.drew q11 37 64 (fun i => bv (ht h i))) := Lib.hid H4.out.1.drew
  have HYD : Hid (y4.drew.heap = y4.heap ∧ Kept (fun _ => False) y4 y4.drew) := Lib.hid ⟨rfl, Wt.kept_drew y4⟩
  generalize y4.drew = y5 at *
  refine og_ld (some 39) 37 (.tmp 11) (.pointer (some ⟨q11, 0, none⟩)) (.agg (tab 64 fun i => bv (ht h i))) rfl rfl (by go_simp) rfl rfl (fun y hy => loadPb hy) ?_
  simp only [Act.put, pS]
  refine og_tk (some 40) (.nilIface) rfl rfl (by go_simp) (fun _ _ => by simp [execOp, go_sem]) ?_
  simp only [Act.put, pS]
  refine og_tk (some 41) (.bool true) rfl rfl (by go_simp) (fun y hy => by have h := HEQ.out y; have h2 := grdErr true 40 y; simp [execOp, go_sem, h, h2, Result.andThen]) ?_
  simp only [Act.put, pS]
  refine og_f rfl (by go_simp) fun K hK => ?_
  refine wp_store_row 37 (.tmp 6) (.tmp 39) rfl (w.heap.size + 1) (tab 64 fun i => bv (ht h i)) rfl rfl 37 _ H5.out (infPre _) (by rw [tab_size, tab_size]) (one_bv _ _) ?_
  refine hK _ _ (H6.out.rowOther HN9.out) ?_
  clear hK K
  simp only [Act.put, pS]
  have H7 : Hid (IsTab (y5.setRow (w.heap.size + 1) (tab 64 fun i => bv (ht h i))) (w.heap.size + 1) 37 64 (fun i => bv (ht h i)) ∧ Kept (fun k => k = w.heap.size + 1) y5 (y5.setRow (w.heap.size + 1) (tab 64 fun i => bv (ht h i))) ∧ IsTab (y5.setRow (w.heap.size + 1) (tab 64 fun i => bv (ht h i))) q11 37 64 (fun i => bv (ht h i))) := Lib.hid ⟨H5.out.row, ⟨by simp, by simp, by simp, by simp, fun k _ hk => setRow_other _ _ _ _ hk⟩, H6.out.rowOther HN9.out⟩
  generalize y5.setRow (w.heap.size + 1) (tab 64 fun i => bv (ht h i)) = y6 at *
  refine og_f rfl (by go_simp) fun K hK => ?_
  go_simp
  refine hK _ _ H7.out.2.2 ?_
  clear hK K
  refine og_done (NoPanic.normal ?_)
  go_wp2_with (fail)
  refine bodyPost_ret (Kc.results_cell_tmp rfl _ _ (w.heap.size + 1) 37 _ (0, 0) _ rfl H7.out.1 undPre rfl (infPre _) (.bool true) rfl) rfl ⟨rfl, ?_, ?_⟩
  · have hl := HST.out.1.kin.lt
    have hqs := HQS.out
    exact ((H9.out.1.kept H4.out.2.2.2 (fun k hk e => by have := HST.out.2.1 k hk; omega) (by omega) (by omega)).kept HYD.out.2 (fun _ _ h => h) id id).kept H7.out.2.1 (fun k hk e => by have := HST.out.2.1 k hk; omega) (by omega) (by omega)
  · have hqs := HQS.out
    exact ((H9.out.2.trans H4.out.2.2.2 fun k hlt e => by omega).trans HYD.out.2 fun _ _ h => h.elim).trans H7.out.2.1 fun k hlt e => by omega
end Vm
end Go.Proofs.YtdmffnjbholkkaaDoor
namespace Go.Proofs.YtdmffnjbholkkaaDoor
open Go.RowKit
set_option linter.unusedVariables false
set_option linter.unusedSimpArgs false
namespace Vm
open Kc Mk Wt
/-- Words laid into the memory. -/
def exL (M : Mac) (to n : Nat) (g : Nat → Nat) : Mac := { M with mem := fun p => if to ≤ p ∧ p < to + n then g (p - to) else M.mem p }
theorem exL_zero (M : Mac) (to : Nat) (g : Nat → Nat) : exL M to 0 g = M := by
  unfold exL
  have : (fun p => if to ≤ p ∧ p < to + 0 then g (p - to) else M.mem p) = M.mem := by funext p; rw [if_neg (by omega)]
  rw [this]
theorem exL_step (M : Mac) (to i : Nat) (g : Nat → Nat) : setM (exL M to i g) (to + i) (g i) = exL M to (i + 1) g := by
  unfold setM exL
  congr 1
  funext p
  by_cases h : p = to + i
  · rw [if_pos h, if_pos (by omega), show p - to = i from by omega]
  · rw [if_neg h]
    show (if to ≤ p ∧ p < to + i then g (p - to) else M.mem p) = _
    by_cases h2 : to ≤ p ∧ p < to + i
    · rw [if_pos h2, if_pos (by omega)]
    · rw [if_neg h2, if_neg (by omega)]
structure Ex1 (W : World) (f : Nat → Nat) (i : Nat) (y : World) : Prop where
  row : IsTab y W.heap.size 37 64 fun j => bv (pxW i f j)
  below : Below W.heap.size W y
structure Ex2 (Z : World) (b to i q : Nat) (M : Mac) (G : Px) (y : World) : Prop where
  mac : IsMac y b (exL M to i (wd G))
  row : IsTab y q 37 64 fun j => bv (G j)
  kept : Kept (fun k => k = b) Z y
  ne : q ≠ b
set_option maxHeartbeats 4000000 in
set_option maxRecDepth 100000 in
theorem exch34_true (b s fr to : Nat) (M : Mac) (G : Px) (w : World) (U : Nat → Prop) (Rr : World → World → Prop) (hm : IsMac w b M) (hM : ∀ i, M.mem i < 18446744073709551616) (hf : fr + 8 ≤ 8192) (ht : to + 4 ≤ 8192) (hpc : M.pc < 8192) (hU : ¬ U b)
    (hX : ∀ y, Below w.heap.size w y → Calls Tryd.prog 95 #[.pointer (some ⟨s, 0, none⟩), .int .i64 34, pv (pxW 8 fun i => M.mem (fr + i))] y fun e w' => e = .returned (.tuple #[pv G, .bool true]) ∧ Rr y w')
    (hR : ∀ y z, Below w.heap.size w y → Rr y z → Kept U y z) :
    Calls Tryd.prog 82 #[.pointer (some ⟨b, 0, none⟩), .pointer (some ⟨s, 0, none⟩), .int .i64 34, .int .u64 fr, .int .u64 to] w fun e w' => e = .returned (.tuple #[]) ∧ ∃ y, Below w.heap.size w y ∧ ∃ z, Rr y z ∧ Kept (fun k => k = b) z w' ∧ IsMac w' b ({ exL M to 4 (wd G) with pc := M.pc + 1 }) := by
  have t1 : decide ((8184 : Int) < (fr : Int)) = false := by simp; omega
  have t2 : decide ((8188 : Int) < (to : Int)) = false := by simp; omega
  have HH := Lib.hid (And.intro hm (And.intro hM (And.intro hf (And.intro ht (And.intro hpc hU)))))
  have HX := Lib.hid (And.intro hX hR)
  clear hm hM hf ht hpc hU hX hR
  obtain ⟨f, hf⟩ : ∃ f : Nat → Nat, (fun i => M.mem (fr + i)) = f := ⟨_, rfl⟩
  rw [hf] at HX
  have HF : Hid (∀ i, M.mem (fr + i) = f i) := Lib.hid fun i => congrFun hf i
  clear hf
  have z1 := zeroPre
  have HBZ := Lib.hid (fun u : World => buildZ u)
  generalize hz : (tab 64 fun _ => bv 0#8) = zq at *
  have HZQ := Lib.hid hz
  clear hz
  have HZ1 : Hid ((Tryd.prog.info? 37).map (·.size) = some zq.size ∧ zq.all (·.oneCell') = true) := Lib.hid ⟨by rw [← HZQ.out]; exact infPre _, by rw [← HZQ.out]; exact one_bv _ _⟩
  have H0 : Hid (Ex1 w f 0 (w.alloc (.cells zq 37))) := Lib.hid ⟨by rw [pxW_zero, ← HZQ.out]; exact IsTab.new w _ 64 _, ba _ _⟩
  go_enter Tryd.func82, Tryd.ntmps82
  go_wp2_with (first
    | ((with_reducible refine Wt.wpList_buildM (P := Tryd.prog) (w := w) ?_ 37 ?_ (.agg zq) (HBZ.out w) ?_); (· exact rfl); (· exact rfl))
    | ((with_reducible refine wpList_store_row (P := Tryd.prog) (w := w.alloc (.cells zq 37)) ?_ 37 (.tmp 12) (.tmp 33) ?_ w.heap.size zq ?_ ?_ 37 zq (heap_alloc_last w _) HZ1.out.1 rfl HZ1.out.2 ?_); (· exact rfl); (· exact rfl); (· exact rfl); (· exact rfl); rw [World.setRow_alloc_new]; simp only [Act.put]))
  clear t1 t2
  generalize w.alloc (.cells zq 37) = y0 at *
  generalize hq : w.heap.size = q at *
  have HQ := Lib.hid hq
  clear hq
  go_loopw [36] (fun ti y => ∃ i : Nat, i ≤ 8 ∧ ti = .int .i64 i ∧ Hid (Ex1 w f i y)) (fun ti _ => 8 - (intOf ti).toNat)
  case atStart => exact ⟨0, Nat.zero_le _, rfl, H0⟩
  case round =>
    obtain ⟨i, hi, rfl, hp⟩ := hrel
    have HP := Lib.hid hp.out
    clear hp H0
    by_cases hlt : (i : Int) < 8
    · obtain ⟨a, ha⟩ : ∃ a : Nat, fr + i = a := ⟨_, rfl⟩
      have HFA : Hid (M.mem a = f i) := Lib.hid (by rw [← ha]; exact HF.out i)
      have HI : Hid (i < 8 ∧ wrap64 ((i : Int) + 1) = ((i + 1 : Nat) : Int) ∧ IntKind.u64.wrap (i : Int) = (i : Int) ∧ IntKind.u64.wrap ((fr : Int) + (i : Int)) = (a : Int) ∧ a < 8192) := Lib.hid (by
        have h := HH.out
        refine ⟨by omega, by unfold wrap64; omega, IntWalk.u64_in _ (by omega), ?_, by omega⟩
        rw [IntWalk.u64_in _ (by omega)]; omega)
      clear ha
      go_upto_region 9 with (fail)
      have HMR : Hid (IsMac wr.drew b M ∧ IsTab wr.drew q 37 64 (fun j => bv (pxW i f j)) ∧ Below q w wr.drew) := Lib.hid ⟨(HH.out.1.below HP.out.below).kept (Wt.kept_drew _) id, HQ.out ▸ HP.out.row.drew, HQ.out ▸ HP.out.below.drew⟩
      clear HP
      refine wp_region_og (fun z : World => IsMac z b M) (.take 0 (.take 1 (.take 2 (.take 3 (.take 4 (.take 5 (.take 6 (.take 7 (.take 8 (.take 9 (.take 10 (.one 11 .done)))))))))))) (by kernel_rfl) (by kernel_rfl) HMR.out.1 ?_
      generalize wr.drew = y1 at *
      refine og_tk (some 39) (.slice (some ⟨q, 0, none⟩) 64 64) rfl rfl (by go_simp) (fun y hy => by have h := slPreA q y; simp [execOp, go_sem, h, Result.andThen]) ?_
      simp only [Act.put, pS]
      refine og_tk (some 40) (.int .i64 i) rfl rfl (by go_simp) (fun _ _ => by simp [execOp, go_sem]) ?_
      simp only [Act.put, pS]
      refine og_tk (some 41) (.pointer (some ⟨b, 0, none⟩)) rfl rfl (by go_simp) (fun _ _ => by simp [execOp, go_sem]) ?_
      simp only [Act.put, pS]
      refine og_tk (some 42) (.int .u64 fr) rfl rfl (by go_simp) (fun _ _ => by simp [execOp, go_sem]) ?_
      simp only [Act.put, pS]
      refine og_tk (some 43) (.int .i64 i) rfl rfl (by go_simp) (fun _ _ => by simp [execOp, go_sem]) ?_
      simp only [Act.put, pS]
      refine og_tk (some 44) (.int .u64 (i : Int)) rfl rfl (by go_simp) (fun y hy => by have h := HI.out.2.2.1; simp [execOp, go_sem, h, Result.andThen]) ?_
      simp only [Act.put, pS]
      refine og_tk (some 45) (.int .u64 (a : Int)) rfl rfl (by go_simp) (fun y hy => by have h := HI.out.2.2.2.1; simp [execOp, go_sem, h, Result.andThen]) ?_
      simp only [Act.put, pS]
      refine og_tk (some 46) (.pointer (some ⟨b, 0, none⟩)) rfl rfl (by go_simp) (fun _ _ => by simp [execOp, go_sem]) ?_
      simp only [Act.put, pS]
      refine og_tk (some 47) (.pointer (some ⟨b, 0, none⟩)) rfl rfl (by go_simp) (fun _ _ => by simp [execOp, go_sem]) ?_
      simp only [Act.put, pS]
      refine og_tk (some 48) (.pointer (some ⟨b, a, none⟩)) rfl rfl (by go_simp) (fun y hy => by have h := ixMem b a HI.out.2.2.2.2 y; simp [execOp, go_sem, h, Result.andThen]) ?_
      simp only [Act.put, pS]
      refine og_ld (some 49) 78 (.tmp 48) (.pointer (some ⟨b, a, none⟩)) (.int .u64 (f i : Int)) rfl rfl (by go_simp) rfl rfl (fun y hy => by have h := HFA.out ▸ hy.mem HI.out.2.2.2.2; simp [Instr.loadAt, go_sem, h, Tryd.underlying78]) ?_
      simp only [Act.put, pS]
      have HPW := Lib.hid (Rl.put_walk y1 q 37 64 64 (fun j => bv (pxW i f j)) i (f i) HMR.out.2.1 (by have := HI.out.1; omega) (by decide) (by rw [← HF.out]; exact HH.out.2.1 _))
      refine og_f rfl (by go_simp) fun K hK => ?_
      go_simp
      refine HPW.out.mono ?_
      rintro e y2 ⟨he, hpt⟩
      obtain rfl : e = _ := he
      have HP2 : Hid (Ex1 w f (i + 1) y2) := Lib.hid ⟨HQ.out ▸ (hpt.row.cong fun j _ => put_pxW i f j), Wt.below_of (HQ.out ▸ HMR.out.2.2) hpt.kept fun j _ hj => by rw [hj]; exact Nat.le_of_eq HQ.out⟩
      refine hK _ _ (HH.out.1.below HP2.out.below) ?_
      clear hK K hpt HPW
      try simp only [Act.put, pS]
      refine og_done (NoPanic.normal ?_)
      have hw1 := HI.out.2.1
      go_wp2_with (fail)
      go_roundw
      case rel => exact ⟨i + 1, HI.out.1, by go_num, HP2⟩
      case measure => have := HI.out.1; simp [intOf]; omega
    · obtain rfl : i = 8 := by omega
      have hx := HX.out.1 wr (HQ.out ▸ HP.out.below)
      unfold pv at hx
      have HXC := Lib.hid hx
      have HLP := Lib.hid (loadPb (HQ.out ▸ HP.out.row : IsTab wr q 37 64 fun j => bv (pxW 8 f j)))
      clear hx
      go_upto_region 12 with (first
        | ((with_reducible refine wpList_loadE (P := Tryd.prog) (w := wr) (ty := 37) (x := .tmp 12) (p := .pointer (some ⟨q, 0, none⟩)) (v := .agg (tab 64 fun i => bv (pxW 8 f i))) ?_ ?_ ?_ HLP.out ?_); (· exact rfl); (· exact rfl); (· exact rfl))
        | (go_at_call 95; (with_reducible refine HXC.out.mono ?_); rintro e y2 ⟨he, hrr⟩; obtain rfl : e = _ := he; have HRR := Lib.hid hrr; clear hrr HXC)
        | ((with_reducible refine wpList_store_row (P := Tryd.prog) (w := y2.alloc (.cells zq 37)) ?_ 37 (.tmp 14) (.tmp 57) ?_ y2.heap.size (tab 64 fun i => bv (G i)) ?_ ?_ 37 zq (heap_alloc_last y2 _) (infPre _) ?_ (one_bv _ _) ?_); (· exact rfl); (· exact rfl); (· exact rfl); (· exact rfl); (· rw [← HZQ.out] <;> rw [tab_size, tab_size]); rw [World.setRow_alloc_new]; simp only [Act.put]))
      have HK := Lib.hid (HX.out.2 wr y2 (HQ.out ▸ HP.out.below) HRR.out)
      have HM2 : Hid (IsMac y2 b M) := Lib.hid ((HH.out.1.below HP.out.below).kept HK.out HH.out.2.2.2.2.2)
      have H2 : Hid (Ex2 y2 b to 0 y2.heap.size M G (y2.alloc (.cells (tab 64 fun i => bv (G i)) 37))) := Lib.hid ⟨by rw [exL_zero]; exact HM2.out.below (ba _ _), IsTab.new y2 _ 64 _, Kept.ofBelow (ba _ _), by have := HM2.out.lt; omega⟩
      generalize y2.alloc (.cells (tab 64 fun i => bv (G i)) 37) = y3 at *
      have HQ14 : Hid (y2.heap.size = y2.heap.size) := Lib.hid rfl
      generalize y2.heap.size = q14 at *
      clear HM2 HLP
      generalize wr = yA at *
      go_wp2_with (fail)
      go_loopw [64] (fun ti y => ∃ i : Nat, i ≤ 4 ∧ ti = .int .u64 i ∧ Hid (Ex2 y2 b to i q14 M G y)) (fun ti _ => 4 - (intOf ti).toNat)
      case atStart => exact ⟨0, Nat.zero_le _, rfl, H2⟩
      case round =>
        obtain ⟨j, hj, rfl, hp⟩ := hrel
        have HP2 := Lib.hid hp.out
        clear hp H2
        by_cases hlt2 : (j : Int) < 4
        · obtain ⟨c, hc⟩ : ∃ c : Nat, to + j = c := ⟨_, rfl⟩
          have HI : Hid (j < 4 ∧ IntKind.u64.wrap ((j : Int) + 1) = ((j + 1 : Nat) : Int) ∧ IntKind.i64.wrap (j : Int) = (j : Int) ∧ IntKind.u64.wrap ((to : Int) + (j : Int)) = (c : Int) ∧ c < 8192 ∧ to + j = c) := Lib.hid (by
            have h := HH.out
            refine ⟨by omega, ?_, IntWalk.i64_in _ (by omega), ?_, by omega, hc⟩
            · rw [IntWalk.u64_in _ (by omega)]; omega
            · rw [IntWalk.u64_in _ (by omega)]; omega)
          clear hc
          go_upto_region 17 with (fail)
          have HE : Hid (Ex2 y2 b to j q14 M G wr.drew) := Lib.hid ⟨HP2.out.mac.kept (Wt.kept_drew _) id, HP2.out.row.drew, HP2.out.kept.drew, HP2.out.ne⟩
          clear HP2
          refine wp_region_og (fun _ : World => True) (.take 0 (.take 1 (.take 2 (.take 3 (.take 4 (.take 5 (.take 6 (.take 8 (.take 9 (.one 7 (.one 10 (.one 11 .done)))))))))))) (by kernel_rfl) (by kernel_rfl) trivial ?_
          generalize wr.drew = y4 at *
          refine og_tk (some 67) (.pointer (some ⟨b, 0, none⟩)) rfl rfl (by go_simp) (fun _ _ => by simp [execOp, go_sem]) ?_
          simp only [Act.put, pS]
          refine og_tk (some 68) (.int .u64 to) rfl rfl (by go_simp) (fun _ _ => by simp [execOp, go_sem]) ?_
          simp only [Act.put, pS]
          refine og_tk (some 69) (.int .u64 j) rfl rfl (by go_simp) (fun _ _ => by simp [execOp, go_sem]) ?_
          simp only [Act.put, pS]
          refine og_tk (some 70) (.int .u64 (c : Int)) rfl rfl (by go_simp) (fun y hy => by have h := HI.out.2.2.2.1; simp [execOp, go_sem, h, Result.andThen]) ?_
          simp only [Act.put, pS]
          refine og_tk (some 71) (.slice (some ⟨q14, 0, none⟩) 64 64) rfl rfl (by go_simp) (fun y hy => by have h := slPreA q14 y; simp [execOp, go_sem, h, Result.andThen]) ?_
          simp only [Act.put, pS]
          refine og_tk (some 72) (.int .u64 j) rfl rfl (by go_simp) (fun _ _ => by simp [execOp, go_sem]) ?_
          simp only [Act.put, pS]
          refine og_tk (some 73) (.int .i64 (j : Int)) rfl rfl (by go_simp) (fun y hy => by have h := HI.out.2.2.1; simp [execOp, go_sem, h, Result.andThen]) ?_
          simp only [Act.put, pS]
          refine og_tk (some 75) (.pointer (some ⟨b, 0, none⟩)) rfl rfl (by go_simp) (fun _ _ => by simp [execOp, go_sem]) ?_
          simp only [Act.put, pS]
          refine og_tk (some 76) (.pointer (some ⟨b, 0, none⟩)) rfl rfl (by go_simp) (fun _ _ => by simp [execOp, go_sem]) ?_
          simp only [Act.put, pS]
          have hgw := Rl.getw_walk y4 q14 64 64 (fun k => (G k).toNat) j (fun k hk => HE.out.row.cell k hk) (fun k => (G k).isLt) (by have := HI.out.1; omega) (by decide)
          rw [show Rl.gv (fun k => (fun k => (G k).toNat) (8 * j + k)) 8 = wd G j from rfl] at hgw
          have HGW := Lib.hid hgw
          clear hgw
          refine og_f rfl (by go_simp) fun K hK => ?_
          go_simp
          refine HGW.out.mono ?_
          rintro e y5 ⟨he, hw⟩
          obtain rfl : e = _ := he
          subst hw
          refine hK _ _ trivial ?_
          clear hK K HGW
          try simp only [Act.put, pS]
          have hix := ixMem b c HI.out.2.2.2.2.1
          refine og_f rfl (by go_simp) fun K hK => ?_
          go_simp
          refine hK _ _ trivial ?_
          clear hK K hix
          have kd := HE.out.mac.mem HI.out.2.2.2.2.1
          have fd := HE.out.mac.fz c
          have H5 : Hid (Ex2 y2 b to (j + 1) q14 M G (y4.setCell ⟨b, c, none⟩ (.int .u64 (wd G j : Int)))) := Lib.hid ⟨by rw [← exL_step, HI.out.2.2.2.2.2]; exact HE.out.mac.setMem HI.out.2.2.2.2.1 _, Wt.IsTab.kept HE.out.row (kept_set (S := fun k => k = b) (Kept.refl _ y4) b _ rfl _) HE.out.ne, kept_set HE.out.kept b _ rfl _, HE.out.ne⟩
          refine og_f rfl (by go_simp) fun K hK => ?_
          go_simp
          refine hK _ _ trivial ?_
          clear hK K kd fd
          refine og_done (NoPanic.normal ?_)
          generalize y4.setCell ⟨b, c, none⟩ (.int .u64 (wd G j : Int)) = y6 at *
          have hw1 := HI.out.2.1
          go_wp2_with (fail)
          go_roundw
          case rel => exact ⟨j + 1, HI.out.1, by go_num, H5⟩
          case measure => have := HI.out.1; simp [intOf]; omega
        · obtain rfl : j = 4 := by omega
          have HMC := Lib.hid HP2.out.mac
          have kp : wr.cell? ⟨b, 8208, none⟩ = some (.int .u64 (M.pc : Int)) := HMC.out.pc
          have fp := HMC.out.fz 8208
          have HW : Hid (IntKind.u64.wrap ((M.pc : Int) + 1) = ((M.pc + 1 : Nat) : Int)) := Lib.hid (wrap_pc HH.out.2.2.2.2.1)
          have H9 : Hid (IsMac (wr.setCell ⟨b, 8208, none⟩ (.int .u64 (IntKind.u64.wrap ((M.pc : Int) + 1)))) b { exL M to 4 (wd G) with pc := M.pc + 1 }) := Lib.hid (by rw [HW.out]; exact HMC.out.setPc (M.pc + 1))
          have K9 := Lib.hid (kept_set (S := fun k => k = b) HP2.out.kept b 8208 rfl (.int .u64 (IntKind.u64.wrap ((M.pc : Int) + 1))))
          clear hlt hlt2
          generalize hpc : (M.pc : Int) = PC at *
          go_wp2_with (fail)
          subst hpc
          exact bodyPost_end (v := .tuple #[]) (by simp [results, Tryd.results82, go_sem]) rfl ⟨rfl, yA, HQ.out ▸ HP.out.below, y2, HRR.out, K9.out, H9.out⟩
set_option maxHeartbeats 4000000 in
set_option maxRecDepth 100000 in
theorem exch35_true (b s fr to : Nat) (M : Mac) (G : Px) (w : World) (U : Nat → Prop) (Rr : World → World → Prop) (hm : IsMac w b M) (hM : ∀ i, M.mem i < 18446744073709551616) (hf : fr + 4 ≤ 8192) (ht : to + 8 ≤ 8192) (hpc : M.pc < 8192) (hU : ¬ U b)
    (hX : ∀ y, Below w.heap.size w y → Calls Tryd.prog 95 #[.pointer (some ⟨s, 0, none⟩), .int .i64 35, pv (pxW 4 fun i => M.mem (fr + i))] y fun e w' => e = .returned (.tuple #[pv G, .bool true]) ∧ Rr y w')
    (hR : ∀ y z, Below w.heap.size w y → Rr y z → Kept U y z) :
    Calls Tryd.prog 82 #[.pointer (some ⟨b, 0, none⟩), .pointer (some ⟨s, 0, none⟩), .int .i64 35, .int .u64 fr, .int .u64 to] w fun e w' => e = .returned (.tuple #[]) ∧ ∃ y, Below w.heap.size w y ∧ ∃ z, Rr y z ∧ Kept (fun k => k = b) z w' ∧ IsMac w' b ({ exL M to 8 (wd G) with pc := M.pc + 1 }) := by
  have t1 : decide ((8188 : Int) < (fr : Int)) = false := by simp; omega
  have t2 : decide ((8184 : Int) < (to : Int)) = false := by simp; omega
  have HH := Lib.hid (And.intro hm (And.intro hM (And.intro hf (And.intro ht (And.intro hpc hU)))))
  have HX := Lib.hid (And.intro hX hR)
  clear hm hM hf ht hpc hU hX hR
  obtain ⟨f, hf⟩ : ∃ f : Nat → Nat, (fun i => M.mem (fr + i)) = f := ⟨_, rfl⟩
  rw [hf] at HX
  have HF : Hid (∀ i, M.mem (fr + i) = f i) := Lib.hid fun i => congrFun hf i
  clear hf
  have z1 := zeroPre
  have HBZ := Lib.hid (fun u : World => buildZ u)
  generalize hz : (tab 64 fun _ => bv 0#8) = zq at *
  have HZQ := Lib.hid hz
  clear hz
  have HZ1 : Hid ((Tryd.prog.info? 37).map (·.size) = some zq.size ∧ zq.all (·.oneCell') = true) := Lib.hid ⟨by rw [← HZQ.out]; exact infPre _, by rw [← HZQ.out]; exact one_bv _ _⟩
  have H0 : Hid (Ex1 w f 0 (w.alloc (.cells zq 37))) := Lib.hid ⟨by rw [pxW_zero, ← HZQ.out]; exact IsTab.new w _ 64 _, ba _ _⟩
  go_enter Tryd.func82, Tryd.ntmps82
  go_wp2_with (first
    | ((with_reducible refine Wt.wpList_buildM (P := Tryd.prog) (w := w) ?_ 37 ?_ (.agg zq) (HBZ.out w) ?_); (· exact rfl); (· exact rfl))
    | ((with_reducible refine wpList_store_row (P := Tryd.prog) (w := w.alloc (.cells zq 37)) ?_ 37 (.tmp 12) (.tmp 33) ?_ w.heap.size zq ?_ ?_ 37 zq (heap_alloc_last w _) HZ1.out.1 rfl HZ1.out.2 ?_); (· exact rfl); (· exact rfl); (· exact rfl); (· exact rfl); rw [World.setRow_alloc_new]; simp only [Act.put]))
  clear t1 t2
  generalize w.alloc (.cells zq 37) = y0 at *
  generalize hq : w.heap.size = q at *
  have HQ := Lib.hid hq
  clear hq
  go_loopw [36] (fun ti y => ∃ i : Nat, i ≤ 4 ∧ ti = .int .i64 i ∧ Hid (Ex1 w f i y)) (fun ti _ => 4 - (intOf ti).toNat)
  case atStart => exact ⟨0, Nat.zero_le _, rfl, H0⟩
  case round =>
    obtain ⟨i, hi, rfl, hp⟩ := hrel
    have HP := Lib.hid hp.out
    clear hp H0
    by_cases hlt : (i : Int) < 4
    · obtain ⟨a, ha⟩ : ∃ a : Nat, fr + i = a := ⟨_, rfl⟩
      have HFA : Hid (M.mem a = f i) := Lib.hid (by rw [← ha]; exact HF.out i)
      have HI : Hid (i < 4 ∧ wrap64 ((i : Int) + 1) = ((i + 1 : Nat) : Int) ∧ IntKind.u64.wrap (i : Int) = (i : Int) ∧ IntKind.u64.wrap ((fr : Int) + (i : Int)) = (a : Int) ∧ a < 8192) := Lib.hid (by
        have h := HH.out
        refine ⟨by omega, by unfold wrap64; omega, IntWalk.u64_in _ (by omega), ?_, by omega⟩
        rw [IntWalk.u64_in _ (by omega)]; omega)
      clear ha
      go_upto_region 9 with (fail)
      have HMR : Hid (IsMac wr.drew b M ∧ IsTab wr.drew q 37 64 (fun j => bv (pxW i f j)) ∧ Below q w wr.drew) := Lib.hid ⟨(HH.out.1.below HP.out.below).kept (Wt.kept_drew _) id, HQ.out ▸ HP.out.row.drew, HQ.out ▸ HP.out.below.drew⟩
      clear HP
      refine wp_region_og (fun z : World => IsMac z b M) (.take 0 (.take 1 (.take 2 (.take 3 (.take 4 (.take 5 (.take 6 (.take 7 (.take 8 (.take 9 (.take 10 (.one 11 .done)))))))))))) (by kernel_rfl) (by kernel_rfl) HMR.out.1 ?_
      generalize wr.drew = y1 at *
      refine og_tk (some 39) (.slice (some ⟨q, 0, none⟩) 64 64) rfl rfl (by go_simp) (fun y hy => by have h := slPreA q y; simp [execOp, go_sem, h, Result.andThen]) ?_
      simp only [Act.put, pS]
      refine og_tk (some 40) (.int .i64 i) rfl rfl (by go_simp) (fun _ _ => by simp [execOp, go_sem]) ?_
      simp only [Act.put, pS]
      refine og_tk (some 41) (.pointer (some ⟨b, 0, none⟩)) rfl rfl (by go_simp) (fun _ _ => by simp [execOp, go_sem]) ?_
      simp only [Act.put, pS]
      refine og_tk (some 42) (.int .u64 fr) rfl rfl (by go_simp) (fun _ _ => by simp [execOp, go_sem]) ?_
      simp only [Act.put, pS]
      refine og_tk (some 43) (.int .i64 i) rfl rfl (by go_simp) (fun _ _ => by simp [execOp, go_sem]) ?_
      simp only [Act.put, pS]
      refine og_tk (some 44) (.int .u64 (i : Int)) rfl rfl (by go_simp) (fun y hy => by have h := HI.out.2.2.1; simp [execOp, go_sem, h, Result.andThen]) ?_
      simp only [Act.put, pS]
      refine og_tk (some 45) (.int .u64 (a : Int)) rfl rfl (by go_simp) (fun y hy => by have h := HI.out.2.2.2.1; simp [execOp, go_sem, h, Result.andThen]) ?_
      simp only [Act.put, pS]
      refine og_tk (some 46) (.pointer (some ⟨b, 0, none⟩)) rfl rfl (by go_simp) (fun _ _ => by simp [execOp, go_sem]) ?_
      simp only [Act.put, pS]
      refine og_tk (some 47) (.pointer (some ⟨b, 0, none⟩)) rfl rfl (by go_simp) (fun _ _ => by simp [execOp, go_sem]) ?_
      simp only [Act.put, pS]
      refine og_tk (some 48) (.pointer (some ⟨b, a, none⟩)) rfl rfl (by go_simp) (fun y hy => by have h := ixMem b a HI.out.2.2.2.2 y; simp [execOp, go_sem, h, Result.andThen]) ?_
      simp only [Act.put, pS]
      refine og_ld (some 49) 78 (.tmp 48) (.pointer (some ⟨b, a, none⟩)) (.int .u64 (f i : Int)) rfl rfl (by go_simp) rfl rfl (fun y hy => by have h := HFA.out ▸ hy.mem HI.out.2.2.2.2; simp [Instr.loadAt, go_sem, h, Tryd.underlying78]) ?_
      simp only [Act.put, pS]
      have HPW := Lib.hid (Rl.put_walk y1 q 37 64 64 (fun j => bv (pxW i f j)) i (f i) HMR.out.2.1 (by have := HI.out.1; omega) (by decide) (by rw [← HF.out]; exact HH.out.2.1 _))
      refine og_f rfl (by go_simp) fun K hK => ?_
      go_simp
      refine HPW.out.mono ?_
      rintro e y2 ⟨he, hpt⟩
      obtain rfl : e = _ := he
      have HP2 : Hid (Ex1 w f (i + 1) y2) := Lib.hid ⟨HQ.out ▸ (hpt.row.cong fun j _ => put_pxW i f j), Wt.below_of (HQ.out ▸ HMR.out.2.2) hpt.kept fun j _ hj => by rw [hj]; exact Nat.le_of_eq HQ.out⟩
      refine hK _ _ (HH.out.1.below HP2.out.below) ?_
      clear hK K hpt HPW
      try simp only [Act.put, pS]
      refine og_done (NoPanic.normal ?_)
      have hw1 := HI.out.2.1
      go_wp2_with (fail)
      go_roundw
      case rel => exact ⟨i + 1, HI.out.1, by go_num, HP2⟩
      case measure => have := HI.out.1; simp [intOf]; omega
    · obtain rfl : i = 4 := by omega
      have hx := HX.out.1 wr (HQ.out ▸ HP.out.below)
      unfold pv at hx
      have HXC := Lib.hid hx
      have HLP := Lib.hid (loadPb (HQ.out ▸ HP.out.row : IsTab wr q 37 64 fun j => bv (pxW 4 f j)))
      clear hx
      go_upto_region 12 with (first
        | ((with_reducible refine wpList_loadE (P := Tryd.prog) (w := wr) (ty := 37) (x := .tmp 12) (p := .pointer (some ⟨q, 0, none⟩)) (v := .agg (tab 64 fun i => bv (pxW 4 f i))) ?_ ?_ ?_ HLP.out ?_); (· exact rfl); (· exact rfl); (· exact rfl))
        | (go_at_call 95; (with_reducible refine HXC.out.mono ?_); rintro e y2 ⟨he, hrr⟩; obtain rfl : e = _ := he; have HRR := Lib.hid hrr; clear hrr HXC)
        | ((with_reducible refine wpList_store_row (P := Tryd.prog) (w := y2.alloc (.cells zq 37)) ?_ 37 (.tmp 14) (.tmp 57) ?_ y2.heap.size (tab 64 fun i => bv (G i)) ?_ ?_ 37 zq (heap_alloc_last y2 _) (infPre _) ?_ (one_bv _ _) ?_); (· exact rfl); (· exact rfl); (· exact rfl); (· exact rfl); (· rw [← HZQ.out] <;> rw [tab_size, tab_size]); rw [World.setRow_alloc_new]; simp only [Act.put]))
      have HK := Lib.hid (HX.out.2 wr y2 (HQ.out ▸ HP.out.below) HRR.out)
      have HM2 : Hid (IsMac y2 b M) := Lib.hid ((HH.out.1.below HP.out.below).kept HK.out HH.out.2.2.2.2.2)
      have H2 : Hid (Ex2 y2 b to 0 y2.heap.size M G (y2.alloc (.cells (tab 64 fun i => bv (G i)) 37))) := Lib.hid ⟨by rw [exL_zero]; exact HM2.out.below (ba _ _), IsTab.new y2 _ 64 _, Kept.ofBelow (ba _ _), by have := HM2.out.lt; omega⟩
      generalize y2.alloc (.cells (tab 64 fun i => bv (G i)) 37) = y3 at *
      have HQ14 : Hid (y2.heap.size = y2.heap.size) := Lib.hid rfl
      generalize y2.heap.size = q14 at *
      clear HM2 HLP
      generalize wr = yA at *
      go_wp2_with (fail)
      go_loopw [64] (fun ti y => ∃ i : Nat, i ≤ 8 ∧ ti = .int .u64 i ∧ Hid (Ex2 y2 b to i q14 M G y)) (fun ti _ => 8 - (intOf ti).toNat)
      case atStart => exact ⟨0, Nat.zero_le _, rfl, H2⟩
      case round =>
        obtain ⟨j, hj, rfl, hp⟩ := hrel
        have HP2 := Lib.hid hp.out
        clear hp H2
        by_cases hlt2 : (j : Int) < 8
        · obtain ⟨c, hc⟩ : ∃ c : Nat, to + j = c := ⟨_, rfl⟩
          have HI : Hid (j < 8 ∧ IntKind.u64.wrap ((j : Int) + 1) = ((j + 1 : Nat) : Int) ∧ IntKind.i64.wrap (j : Int) = (j : Int) ∧ IntKind.u64.wrap ((to : Int) + (j : Int)) = (c : Int) ∧ c < 8192 ∧ to + j = c) := Lib.hid (by
            have h := HH.out
            refine ⟨by omega, ?_, IntWalk.i64_in _ (by omega), ?_, by omega, hc⟩
            · rw [IntWalk.u64_in _ (by omega)]; omega
            · rw [IntWalk.u64_in _ (by omega)]; omega)
          clear hc
          go_upto_region 17 with (fail)
          have HE : Hid (Ex2 y2 b to j q14 M G wr.drew) := Lib.hid ⟨HP2.out.mac.kept (Wt.kept_drew _) id, HP2.out.row.drew, HP2.out.kept.drew, HP2.out.ne⟩
          clear HP2
          refine wp_region_og (fun _ : World => True) (.take 0 (.take 1 (.take 2 (.take 3 (.take 4 (.take 5 (.take 6 (.take 8 (.take 9 (.one 7 (.one 10 (.one 11 .done)))))))))))) (by kernel_rfl) (by kernel_rfl) trivial ?_
          generalize wr.drew = y4 at *
          refine og_tk (some 67) (.pointer (some ⟨b, 0, none⟩)) rfl rfl (by go_simp) (fun _ _ => by simp [execOp, go_sem]) ?_
          simp only [Act.put, pS]
          refine og_tk (some 68) (.int .u64 to) rfl rfl (by go_simp) (fun _ _ => by simp [execOp, go_sem]) ?_
          simp only [Act.put, pS]
          refine og_tk (some 69) (.int .u64 j) rfl rfl (by go_simp) (fun _ _ => by simp [execOp, go_sem]) ?_
          simp only [Act.put, pS]
          refine og_tk (some 70) (.int .u64 (c : Int)) rfl rfl (by go_simp) (fun y hy => by have h := HI.out.2.2.2.1; simp [execOp, go_sem, h, Result.andThen]) ?_
          simp only [Act.put, pS]
          refine og_tk (some 71) (.slice (some ⟨q14, 0, none⟩) 64 64) rfl rfl (by go_simp) (fun y hy => by have h := slPreA q14 y; simp [execOp, go_sem, h, Result.andThen]) ?_
          simp only [Act.put, pS]
          refine og_tk (some 72) (.int .u64 j) rfl rfl (by go_simp) (fun _ _ => by simp [execOp, go_sem]) ?_
          simp only [Act.put, pS]
          refine og_tk (some 73) (.int .i64 (j : Int)) rfl rfl (by go_simp) (fun y hy => by have h := HI.out.2.2.1; simp [execOp, go_sem, h, Result.andThen]) ?_
          simp only [Act.put, pS]
          refine og_tk (some 75) (.pointer (some ⟨b, 0, none⟩)) rfl rfl (by go_simp) (fun _ _ => by simp [execOp, go_sem]) ?_
          simp only [Act.put, pS]
          refine og_tk (some 76) (.pointer (some ⟨b, 0, none⟩)) rfl rfl (by go_simp) (fun _ _ => by simp [execOp, go_sem]) ?_
          simp only [Act.put, pS]
          have hgw := Rl.getw_walk y4 q14 64 64 (fun k => (G k).toNat) j (fun k hk => HE.out.row.cell k hk) (fun k => (G k).isLt) (by have := HI.out.1; omega) (by decide)
          rw [show Rl.gv (fun k => (fun k => (G k).toNat) (8 * j + k)) 8 = wd G j from rfl] at hgw
          have HGW := Lib.hid hgw
          clear hgw
          refine og_f rfl (by go_simp) fun K hK => ?_
          go_simp
          refine HGW.out.mono ?_
          rintro e y5 ⟨he, hw⟩
          obtain rfl : e = _ := he
          subst hw
          refine hK _ _ trivial ?_
          clear hK K HGW
          try simp only [Act.put, pS]
          have hix := ixMem b c HI.out.2.2.2.2.1
          refine og_f rfl (by go_simp) fun K hK => ?_
          go_simp
          refine hK _ _ trivial ?_
          clear hK K hix
          have kd := HE.out.mac.mem HI.out.2.2.2.2.1
          have fd := HE.out.mac.fz c
          have H5 : Hid (Ex2 y2 b to (j + 1) q14 M G (y4.setCell ⟨b, c, none⟩ (.int .u64 (wd G j : Int)))) := Lib.hid ⟨by rw [← exL_step, HI.out.2.2.2.2.2]; exact HE.out.mac.setMem HI.out.2.2.2.2.1 _, Wt.IsTab.kept HE.out.row (kept_set (S := fun k => k = b) (Kept.refl _ y4) b _ rfl _) HE.out.ne, kept_set HE.out.kept b _ rfl _, HE.out.ne⟩
          refine og_f rfl (by go_simp) fun K hK => ?_
          go_simp
          refine hK _ _ trivial ?_
          clear hK K kd fd
          refine og_done (NoPanic.normal ?_)
          generalize y4.setCell ⟨b, c, none⟩ (.int .u64 (wd G j : Int)) = y6 at *
          have hw1 := HI.out.2.1
          go_wp2_with (fail)
          go_roundw
          case rel => exact ⟨j + 1, HI.out.1, by go_num, H5⟩
          case measure => have := HI.out.1; simp [intOf]; omega
        · obtain rfl : j = 8 := by omega
          have HMC := Lib.hid HP2.out.mac
          have kp : wr.cell? ⟨b, 8208, none⟩ = some (.int .u64 (M.pc : Int)) := HMC.out.pc
          have fp := HMC.out.fz 8208
          have HW : Hid (IntKind.u64.wrap ((M.pc : Int) + 1) = ((M.pc + 1 : Nat) : Int)) := Lib.hid (wrap_pc HH.out.2.2.2.2.1)
          have H9 : Hid (IsMac (wr.setCell ⟨b, 8208, none⟩ (.int .u64 (IntKind.u64.wrap ((M.pc : Int) + 1)))) b { exL M to 8 (wd G) with pc := M.pc + 1 }) := Lib.hid (by rw [HW.out]; exact HMC.out.setPc (M.pc + 1))
          have K9 := Lib.hid (kept_set (S := fun k => k = b) HP2.out.kept b 8208 rfl (.int .u64 (IntKind.u64.wrap ((M.pc : Int) + 1))))
          clear hlt hlt2
          generalize hpc : (M.pc : Int) = PC at *
          go_wp2_with (fail)
          subst hpc
          exact bodyPost_end (v := .tuple #[]) (by simp [results, Tryd.results82, go_sem]) rfl ⟨rfl, yA, HQ.out ▸ HP.out.below, y2, HRR.out, K9.out, H9.out⟩
set_option maxHeartbeats 4000000 in
set_option maxRecDepth 100000 in
theorem exch35_false (b s fr to : Nat) (M : Mac) (G : Px) (w : World) (U : Nat → Prop) (Rr : World → World → Prop) (hm : IsMac w b M) (hM : ∀ i, M.mem i < 18446744073709551616) (hf : fr + 4 ≤ 8192) (ht : to + 8 ≤ 8192) (hpc : M.pc < 8192) (hU : ¬ U b)
    (hX : ∀ y, Below w.heap.size w y → Calls Tryd.prog 95 #[.pointer (some ⟨s, 0, none⟩), .int .i64 35, pv (pxW 4 fun i => M.mem (fr + i))] y fun e w' => e = .returned (.tuple #[pv G, .bool false]) ∧ Rr y w')
    (hR : ∀ y z, Below w.heap.size w y → Rr y z → Kept U y z) :
    Calls Tryd.prog 82 #[.pointer (some ⟨b, 0, none⟩), .pointer (some ⟨s, 0, none⟩), .int .i64 35, .int .u64 fr, .int .u64 to] w fun e w' => e = .returned (.tuple #[]) ∧ ∃ y, Below w.heap.size w y ∧ ∃ z, Rr y z ∧ Kept (fun k => k = b) z w' ∧ IsMac w' b (stopM M 18446744073709551615) := by
  have t1 : decide ((8188 : Int) < (fr : Int)) = false := by simp; omega
  have t2 : decide ((8184 : Int) < (to : Int)) = false := by simp; omega
  have HH := Lib.hid (And.intro hm (And.intro hM (And.intro hf (And.intro ht (And.intro hpc hU)))))
  have HX := Lib.hid (And.intro hX hR)
  clear hm hM hf ht hpc hU hX hR
  obtain ⟨f, hf⟩ : ∃ f : Nat → Nat, (fun i => M.mem (fr + i)) = f := ⟨_, rfl⟩
  rw [hf] at HX
  have HF : Hid (∀ i, M.mem (fr + i) = f i) := Lib.hid fun i => congrFun hf i
  clear hf
  have z1 := zeroPre
  have HBZ := Lib.hid (fun u : World => buildZ u)
  generalize hz : (tab 64 fun _ => bv 0#8) = zq at *
  have HZQ := Lib.hid hz
  clear hz
  have HZ1 : Hid ((Tryd.prog.info? 37).map (·.size) = some zq.size ∧ zq.all (·.oneCell') = true) := Lib.hid ⟨by rw [← HZQ.out]; exact infPre _, by rw [← HZQ.out]; exact one_bv _ _⟩
  have H0 : Hid (Ex1 w f 0 (w.alloc (.cells zq 37))) := Lib.hid ⟨by rw [pxW_zero, ← HZQ.out]; exact IsTab.new w _ 64 _, ba _ _⟩
  go_enter Tryd.func82, Tryd.ntmps82
  go_wp2_with (first
    | ((with_reducible refine Wt.wpList_buildM (P := Tryd.prog) (w := w) ?_ 37 ?_ (.agg zq) (HBZ.out w) ?_); (· exact rfl); (· exact rfl))
    | ((with_reducible refine wpList_store_row (P := Tryd.prog) (w := w.alloc (.cells zq 37)) ?_ 37 (.tmp 12) (.tmp 33) ?_ w.heap.size zq ?_ ?_ 37 zq (heap_alloc_last w _) HZ1.out.1 rfl HZ1.out.2 ?_); (· exact rfl); (· exact rfl); (· exact rfl); (· exact rfl); rw [World.setRow_alloc_new]; simp only [Act.put]))
  clear t1 t2
  generalize w.alloc (.cells zq 37) = y0 at *
  generalize hq : w.heap.size = q at *
  have HQ := Lib.hid hq
  clear hq
  go_loopw [36] (fun ti y => ∃ i : Nat, i ≤ 4 ∧ ti = .int .i64 i ∧ Hid (Ex1 w f i y)) (fun ti _ => 4 - (intOf ti).toNat)
  case atStart => exact ⟨0, Nat.zero_le _, rfl, H0⟩
  case round =>
    obtain ⟨i, hi, rfl, hp⟩ := hrel
    have HP := Lib.hid hp.out
    clear hp H0
    by_cases hlt : (i : Int) < 4
    · obtain ⟨a, ha⟩ : ∃ a : Nat, fr + i = a := ⟨_, rfl⟩
      have HFA : Hid (M.mem a = f i) := Lib.hid (by rw [← ha]; exact HF.out i)
      have HI : Hid (i < 4 ∧ wrap64 ((i : Int) + 1) = ((i + 1 : Nat) : Int) ∧ IntKind.u64.wrap (i : Int) = (i : Int) ∧ IntKind.u64.wrap ((fr : Int) + (i : Int)) = (a : Int) ∧ a < 8192) := Lib.hid (by
        have h := HH.out
        refine ⟨by omega, by unfold wrap64; omega, IntWalk.u64_in _ (by omega), ?_, by omega⟩
        rw [IntWalk.u64_in _ (by omega)]; omega)
      clear ha
      go_upto_region 9 with (fail)
      have HMR : Hid (IsMac wr.drew b M ∧ IsTab wr.drew q 37 64 (fun j => bv (pxW i f j)) ∧ Below q w wr.drew) := Lib.hid ⟨(HH.out.1.below HP.out.below).kept (Wt.kept_drew _) id, HQ.out ▸ HP.out.row.drew, HQ.out ▸ HP.out.below.drew⟩
      clear HP
      refine wp_region_og (fun z : World => IsMac z b M) (.take 0 (.take 1 (.take 2 (.take 3 (.take 4 (.take 5 (.take 6 (.take 7 (.take 8 (.take 9 (.take 10 (.one 11 .done)))))))))))) (by kernel_rfl) (by kernel_rfl) HMR.out.1 ?_
      generalize wr.drew = y1 at *
      refine og_tk (some 39) (.slice (some ⟨q, 0, none⟩) 64 64) rfl rfl (by go_simp) (fun y hy => by have h := slPreA q y; simp [execOp, go_sem, h, Result.andThen]) ?_
      simp only [Act.put, pS]
      refine og_tk (some 40) (.int .i64 i) rfl rfl (by go_simp) (fun _ _ => by simp [execOp, go_sem]) ?_
      simp only [Act.put, pS]
      refine og_tk (some 41) (.pointer (some ⟨b, 0, none⟩)) rfl rfl (by go_simp) (fun _ _ => by simp [execOp, go_sem]) ?_
      simp only [Act.put, pS]
      refine og_tk (some 42) (.int .u64 fr) rfl rfl (by go_simp) (fun _ _ => by simp [execOp, go_sem]) ?_
      simp only [Act.put, pS]
      refine og_tk (some 43) (.int .i64 i) rfl rfl (by go_simp) (fun _ _ => by simp [execOp, go_sem]) ?_
      simp only [Act.put, pS]
      refine og_tk (some 44) (.int .u64 (i : Int)) rfl rfl (by go_simp) (fun y hy => by have h := HI.out.2.2.1; simp [execOp, go_sem, h, Result.andThen]) ?_
      simp only [Act.put, pS]
      refine og_tk (some 45) (.int .u64 (a : Int)) rfl rfl (by go_simp) (fun y hy => by have h := HI.out.2.2.2.1; simp [execOp, go_sem, h, Result.andThen]) ?_
      simp only [Act.put, pS]
      refine og_tk (some 46) (.pointer (some ⟨b, 0, none⟩)) rfl rfl (by go_simp) (fun _ _ => by simp [execOp, go_sem]) ?_
      simp only [Act.put, pS]
      refine og_tk (some 47) (.pointer (some ⟨b, 0, none⟩)) rfl rfl (by go_simp) (fun _ _ => by simp [execOp, go_sem]) ?_
      simp only [Act.put, pS]
      refine og_tk (some 48) (.pointer (some ⟨b, a, none⟩)) rfl rfl (by go_simp) (fun y hy => by have h := ixMem b a HI.out.2.2.2.2 y; simp [execOp, go_sem, h, Result.andThen]) ?_
      simp only [Act.put, pS]
      refine og_ld (some 49) 78 (.tmp 48) (.pointer (some ⟨b, a, none⟩)) (.int .u64 (f i : Int)) rfl rfl (by go_simp) rfl rfl (fun y hy => by have h := HFA.out ▸ hy.mem HI.out.2.2.2.2; simp [Instr.loadAt, go_sem, h, Tryd.underlying78]) ?_
      simp only [Act.put, pS]
      have HPW := Lib.hid (Rl.put_walk y1 q 37 64 64 (fun j => bv (pxW i f j)) i (f i) HMR.out.2.1 (by have := HI.out.1; omega) (by decide) (by rw [← HF.out]; exact HH.out.2.1 _))
      refine og_f rfl (by go_simp) fun K hK => ?_
      go_simp
      refine HPW.out.mono ?_
      rintro e y2 ⟨he, hpt⟩
      obtain rfl : e = _ := he
      have HP2 : Hid (Ex1 w f (i + 1) y2) := Lib.hid ⟨HQ.out ▸ (hpt.row.cong fun j _ => put_pxW i f j), Wt.below_of (HQ.out ▸ HMR.out.2.2) hpt.kept fun j _ hj => by rw [hj]; exact Nat.le_of_eq HQ.out⟩
      refine hK _ _ (HH.out.1.below HP2.out.below) ?_
      clear hK K hpt HPW
      try simp only [Act.put, pS]
      refine og_done (NoPanic.normal ?_)
      have hw1 := HI.out.2.1
      go_wp2_with (fail)
      go_roundw
      case rel => exact ⟨i + 1, HI.out.1, by go_num, HP2⟩
      case measure => have := HI.out.1; simp [intOf]; omega
    · obtain rfl : i = 4 := by omega
      have hx := HX.out.1 wr (HQ.out ▸ HP.out.below)
      unfold pv at hx
      have HXC := Lib.hid hx
      have HLP := Lib.hid (loadPb (HQ.out ▸ HP.out.row : IsTab wr q 37 64 fun j => bv (pxW 4 f j)))
      clear hx
      go_upto_region 12 with (first
        | ((with_reducible refine wpList_loadE (P := Tryd.prog) (w := wr) (ty := 37) (x := .tmp 12) (p := .pointer (some ⟨q, 0, none⟩)) (v := .agg (tab 64 fun i => bv (pxW 4 f i))) ?_ ?_ ?_ HLP.out ?_); (· exact rfl); (· exact rfl); (· exact rfl))
        | (go_at_call 95; (with_reducible refine HXC.out.mono ?_); rintro e y2 ⟨he, hrr⟩; obtain rfl : e = _ := he; have HRR := Lib.hid hrr; clear hrr HXC)
        | ((with_reducible refine wpList_store_row (P := Tryd.prog) (w := y2.alloc (.cells zq 37)) ?_ 37 (.tmp 14) (.tmp 57) ?_ y2.heap.size (tab 64 fun i => bv (G i)) ?_ ?_ 37 zq (heap_alloc_last y2 _) (infPre _) ?_ (one_bv _ _) ?_); (· exact rfl); (· exact rfl); (· exact rfl); (· exact rfl); (· rw [← HZQ.out] <;> rw [tab_size, tab_size]); rw [World.setRow_alloc_new]; simp only [Act.put]))
      have HK := Lib.hid (HX.out.2 wr y2 (HQ.out ▸ HP.out.below) HRR.out)
      have HM2 : Hid (IsMac y2 b M) := Lib.hid ((HH.out.1.below HP.out.below).kept HK.out HH.out.2.2.2.2.2)
      have H2 := Lib.hid (HM2.out.below (ba y2 (.cells (tab 64 fun i => bv (G i)) 37)))
      have HB2 := Lib.hid (ba y2 (.cells (tab 64 fun i => bv (G i)) 37))
      generalize y2.alloc (.cells (tab 64 fun i => bv (G i)) 37) = y3 at *
      have hsw := stop_walk y3 b 18446744073709551615 M H2.out
      rw [show ((18446744073709551615 : Nat) : Int) = 18446744073709551615 from rfl] at hsw
      have HS := Lib.hid hsw
      clear hsw
      go_wp2_with (go_at_call 78; (with_reducible refine HS.out.mono ?_); rintro e y4 ⟨he, hm, hk⟩; obtain rfl : e = _ := he; have HM4 := Lib.hid (And.intro hm hk); clear hm hk HS)
      exact bodyPost_ret (v := .tuple #[]) (by simp [results, Tryd.results82, go_sem]) rfl ⟨rfl, wr, HQ.out ▸ HP.out.below, y2, HRR.out, (Kept.ofBelow HB2.out).trans HM4.out.2 fun _ _ h => h, HM4.out.1⟩
end Vm
end Go.Proofs.YtdmffnjbholkkaaDoor
namespace Go.Proofs.YtdmffnjbholkkaaDoor
open Go.RowKit
set_option linter.unusedVariables false
set_option linter.unusedSimpArgs false
namespace Vm
open Kc
set_option maxHeartbeats 2000000 in
set_option maxRecDepth 100000 in
theorem step_exch (w : World) (b s : Nat) (M : Mac) (x : Nat) (h : Pre w b M x) (hop : pOp x = 34 ∨ pOp x = 35) (Rx : World → World → Prop)
    (hE : ∀ y, Below w.heap.size w y → Calls Tryd.prog 82 #[.pointer (some ⟨b, 0, none⟩), .pointer (some ⟨s, 0, none⟩), .int .i64 (pOp x), .int .u64 (M.reg (pA x)), .int .u64 (M.reg (pB x))] y fun e w' => e = .returned (.tuple #[]) ∧ Rx y w') :
    Calls Tryd.prog 65 #[.pointer (some ⟨b, 0, none⟩), .pointer (some ⟨s, 0, none⟩)] w fun e w' => e = .returned (.tuple #[]) ∧ ∃ y, Below w.heap.size w y ∧ Rx y w' := by
  have k3 : w.cell? ⟨b, 8209, none⟩ = some (.bool false) := h.hh ▸ h.mac.halted
  have k2 := h.mac.pc
  have tpc : decide (8192 ≤ (M.pc : Int)) = false := by have := h.pc; simp; omega
  have HP := Lib.hid h
  have hxb : x < 18446744073709551616 := h.hx ▸ h.ok.mem _
  have HXB := Lib.hid hxb
  clear hxb
  have to0 : ((pOp x : Int) == 0) = false := by simp; omega
  have to1 : decide ((pOp x : Int) < 26) = false := by simp; omega
  have to2 : ((pOp x : Int) == 26) = false := by simp; omega
  have to3 : decide ((pOp x : Int) ≤ 28) = false := by simp; omega
  have to4 : decide ((pOp x : Int) ≤ 33) = false := by simp; omega
  have HE := Lib.hid hE
  clear hop hE
  clear h
  go_enter Tryd.func65, Tryd.ntmps65
  go_upto_region 3 with (fail)
  have NE : Nonempty (Wd (fun z => Below w.heap.size w z)) := ⟨⟨w.drew, (Below.refl _ _).drew⟩⟩
  have kpc : ∀ z : Wd (fun z => Below w.heap.size w z), z.val.cell? ⟨b, 8208, none⟩ = some (.int .u64 (M.pc : Int)) := fun z => keep1 z.ok HP.out.mac.pc
  have km : ∀ z : Wd (fun z => Below w.heap.size w z), z.val.cell? ⟨b, M.pc, none⟩ = some (.int .u64 (x : Int)) := fun z => keep1 z.ok (HP.out.hx ▸ HP.out.mac.mem HP.out.pc)
  have hlt : (M.pc : Int) < 8192 := by have := HP.out.pc; omega
  have hpv : Hid (partsV x = .tuple #[.int .i64 (pOp x), .int .i64 (pD x), .int .i64 (pA x), .int .i64 (pB x), .int .i64 (pC x), .int .i64 (pN x), .bool true]) := Lib.hid (if_pos HP.out.pok)
  have Q1 := Lib.hid (fun z : Wd (fun z => Below w.heap.size w z) => in_of_below z (fun y hb => bl z.ok hb) (hpv.out ▸ parts_walk z.val x HXB.out))
  clear k2 k3 tpc
  refine wp_region_in (fun z => Below w.heap.size w z) (by kernel_rfl) (by kernel_rfl) (Below.refl _ _).drew ?_
  repeat (go_big_quiet_step (with_reducible exact Q1.out _))
  refine wpQuiet_nil ?_
  rintro y0 ⟨z, rfl⟩
  have HZ := Lib.hid (HP.out.mac.below z.ok)
  have HB := Lib.hid z.ok
  clear Q1 kpc km NE hlt
  generalize z.val = y at *
  have KA := Lib.hid (HZ.out.reg (pA_lt x))
  have KB := Lib.hid (HZ.out.reg (pB_lt x))
  have HZD := Lib.hid (HZ.out.kept (Wt.kept_drew y) id)
  have HBD := Lib.hid HB.out.drew
  go_upto_region 7 with (fail)
  refine wp_region_oz (fun z : World => y.drew = z) 13 (.take 0 (.take 1 (.take 2 (.free 3 (.free 4 (.free 5 (.free 6 (.take 7 (.free 8 (.free 9 (.free 10 (.free 11 (.take 12 (.one 13 .done)))))))))))))) (by kernel_rfl) (by kernel_rfl) rfl ?_
  generalize y.drew = y1 at *
  refine oz_tk (some 48) (.pointer (some ⟨b, 0, none⟩)) rfl rfl (by go_simp) (fun _ _ => by simp [execOp, go_sem]) ?_
  simp only [Act.put, pS]
  refine oz_tk (some 49) (.pointer (some ⟨s, 0, none⟩)) rfl rfl (by go_simp) (fun _ _ => by simp [execOp, go_sem]) ?_
  simp only [Act.put, pS]
  refine oz_tk (some 50) (.int .i64 (pOp x)) rfl rfl (by go_simp) (fun _ _ => by simp [execOp, go_sem]) ?_
  simp only [Act.put, pS]
  refine oz_fr (some 51) (.pointer (some ⟨b, 8192, none⟩)) rfl rfl (by go_simp) (fun _ => by simp [execOp, go_sem]) ?_
  simp only [Act.put, pS]
  refine oz_fr (some 52) (.int .i64 (pA x)) rfl rfl (by go_simp) (fun _ => by simp [execOp, go_sem]) ?_
  simp only [Act.put, pS]
  refine oz_fr (some 53) (.pointer (some ⟨b, 8192, none⟩)) rfl rfl (by go_simp) (fun _ => by simp [execOp, go_sem]) ?_
  simp only [Act.put, pS]
  refine oz_fr (some 54) (.pointer (some ⟨b, 8192 + pA x, none⟩)) rfl rfl (by go_simp) (fun y => by have h := ix16 b (pA x) (pA_lt x) y; simp [execOp, go_sem, h, Result.andThen]) ?_
  simp only [Act.put, pS]
  refine oz_ld (some 55) 78 (.tmp 54) (.pointer (some ⟨b, 8192 + pA x, none⟩)) (.int .u64 (M.reg (pA x) : Int)) rfl rfl (by go_simp) rfl rfl (fun y hy => by have h := hy ▸ HZD.out.reg (pA_lt x); simp [Instr.loadAt, go_sem, h, Tryd.underlying78]) ?_
  simp only [Act.put, pS]
  refine oz_fr (some 56) (.pointer (some ⟨b, 8192, none⟩)) rfl rfl (by go_simp) (fun _ => by simp [execOp, go_sem]) ?_
  simp only [Act.put, pS]
  refine oz_fr (some 57) (.int .i64 (pB x)) rfl rfl (by go_simp) (fun _ => by simp [execOp, go_sem]) ?_
  simp only [Act.put, pS]
  refine oz_fr (some 58) (.pointer (some ⟨b, 8192, none⟩)) rfl rfl (by go_simp) (fun _ => by simp [execOp, go_sem]) ?_
  simp only [Act.put, pS]
  refine oz_fr (some 59) (.pointer (some ⟨b, 8192 + pB x, none⟩)) rfl rfl (by go_simp) (fun y => by have h := ix16 b (pB x) (pB_lt x) y; simp [execOp, go_sem, h, Result.andThen]) ?_
  simp only [Act.put, pS]
  refine oz_ld (some 60) 78 (.tmp 59) (.pointer (some ⟨b, 8192 + pB x, none⟩)) (.int .u64 (M.reg (pB x) : Int)) rfl rfl (by go_simp) rfl rfl (fun y hy => by have h := hy ▸ HZD.out.reg (pB_lt x); simp [Instr.loadAt, go_sem, h, Tryd.underlying78]) ?_
  simp only [Act.put, pS]
  have HC := Lib.hid (HE.out y1 HBD.out)
  refine oz_z rfl (by go_simp) fun K hK => ?_
  go_simp
  refine HC.out.mono ?_
  rintro e y2 ⟨he, hr⟩
  obtain rfl : e = _ := he
  have HR := Lib.hid hr
  refine hK _ _ ?_
  clear hK K hr HC
  refine oz_done (NoPanic.normal ?_)
  go_wp2_with (fail)
  exact bodyPost_end (v := .tuple #[]) (by simp [results, Tryd.results65, go_sem]) rfl ⟨rfl, y1, HBD.out, HR.out⟩
end Vm
end Go.Proofs.YtdmffnjbholkkaaDoor
namespace Go.Proofs.YtdmffnjbholkkaaDoor
open Go.RowKit
set_option linter.unusedVariables false
set_option linter.unusedSimpArgs false
namespace Vm
open Kc Mk Wt
/-- A machine and a store, both new since W. -/
structure Or (W : World) (b s kb fb : Nat) (M : Mac) (S : Sto) (y : World) : Prop where
  mac : IsMac y b M
  st : ∃ T' : Nat → Prop, IsSt y T' s kb fb S ∧ ∀ j, T' j → W.heap.size ≤ j ∧ j < y.heap.size ∧ j ≠ b
  below : Below W.heap.size W y
  kt : Laid.KTab W
  hb : W.heap.size ≤ b ∧ b ≠ kb ∧ b ≠ fb ∧ W.heap.size ≤ kb ∧ W.heap.size ≤ fb
theorem or34 (W y : World) (b s kb fb : Nat) (M : Mac) (S : Sto) (x : Nat) (h : Or W b s kb fb M S y) (hok : OkM M) (hh : M.halted = false) (hpc : M.pc < 8192) (hx : M.mem M.pc = x) (hpok : pOk x = true) (hop : pOp x = 34) (hr : M.reg (pA x) + 8 ≤ 8192) (hw : M.reg (pB x) + 4 ≤ 8192)
    (t : Px) (ht' : pxW 8 (fun i => M.mem (M.reg (pA x) + i)) = t) :
    Calls Tryd.prog 65 #[.pointer (some ⟨b, 0, none⟩), .pointer (some ⟨s, 0, none⟩)] y fun e w' => e = .returned (.tuple #[]) ∧ Or W b s kb fb { exL M (M.reg (pB x)) 4 (wd (ht (hs t))) with pc := M.pc + 1 } ⟨putM S.pres (hs t) t, S.asked⟩ w' := by
  obtain ⟨T, hst, hT⟩ := h.st
  have hl := hst.kin.lt
  have hF : ∀ j, Foot T kb fb j → W.heap.size ≤ j ∧ j ≠ b := fun j hj => by
    rcases hj with hj | hj | hj
    · exact ⟨(hT j hj).1, (hT j hj).2.2⟩
    · rw [hj]; exact ⟨h.hb.2.2.2.1, Ne.symm h.hb.2.1⟩
    · rw [hj]; exact ⟨h.hb.2.2.2.2, Ne.symm h.hb.2.2.1⟩
  refine (step_exch y b s M x ⟨h.mac, hok, hh, hpc, hx, hpok⟩ (.inl hop) (fun y1 w' => Or W b s kb fb { exL M (M.reg (pB x)) 4 (wd (ht (hs t))) with pc := M.pc + 1 } ⟨putM S.pres (hs t) t, S.asked⟩ w') (fun y1 hb1 => ?_)).mono ?_
  · rw [hop, show ((34 : Nat) : Int) = 34 from rfl]
    refine (exch34_true b s (M.reg (pA x)) (M.reg (pB x)) M (ht (hs t)) y1 (Foot T kb fb) (fun ya z => IsSt z T s kb fb ⟨putM S.pres (hs t) t, S.asked⟩ ∧ Kept (Foot T kb fb) ya z) (h.mac.below hb1) hok.mem hr hw hpc (fun e => (hF b e).2 rfl) (fun ya hba => ?_) (fun ya z _ hr => hr.2)).mono ?_
    · rw [ht']
      refine (exd_add T s kb fb S t ya (ktab_below h.kt (bl (bl h.below hb1) hba)) (hst.below (bl hb1 hba)) (fun k hk => ?_)).mono ?_
      · have h1 := (bl hb1 hba).size
        have h2 := (hT k hk).2.1
        omega
      · rintro e w' ⟨he, h1, h2⟩
        exact ⟨he, h1, h2⟩
    · rintro e w' ⟨he, ya, hba, z, ⟨h1, h2⟩, hk, hm⟩
      have z1 := (bl hb1 hba).size
      have z2 := h2.size
      have z3 := hk.size
      refine ⟨he, hm, ⟨T, h1.kept hk (fun j hj e => (hT j hj).2.2 e) (Ne.symm h.hb.2.1) (Ne.symm h.hb.2.2.1), fun j hj => ⟨(hT j hj).1, by have := (hT j hj).2.1; omega, (hT j hj).2.2⟩⟩,
        below_of (below_of (bl (bl h.below hb1) hba) h2 fun j _ hj => (hF j hj).1) hk fun j _ hj => by rw [hj]; exact h.hb.1, h.kt, h.hb⟩
  · rintro e w' ⟨he, _, _, h⟩
    exact ⟨he, h⟩
theorem or35 (W y : World) (b s kb fb : Nat) (M : Mac) (S : Sto) (x : Nat) (h : Or W b s kb fb M S y) (hok : OkM M) (hh : M.halted = false) (hpc : M.pc < 8192) (hx : M.mem M.pc = x) (hpok : pOk x = true) (hop : pOp x = 35) (hr : M.reg (pA x) + 4 ≤ 8192) (hw : M.reg (pB x) + 8 ≤ 8192) (hn : S.asked.length < 1073741824)
    (t : Px) (ht' : pxW 4 (fun i => M.mem (M.reg (pA x) + i)) = t) (G : Px) (hG : Wt.look S.pres t = some G) :
    Calls Tryd.prog 65 #[.pointer (some ⟨b, 0, none⟩), .pointer (some ⟨s, 0, none⟩)] y fun e w' => e = .returned (.tuple #[]) ∧ Or W b s kb fb { exL M (M.reg (pB x)) 8 (wd G) with pc := M.pc + 1 } ⟨S.pres, askL S.asked t⟩ w' := by
  obtain ⟨T, hst, hT⟩ := h.st
  have hl := hst.kin.lt
  refine (step_exch y b s M x ⟨h.mac, hok, hh, hpc, hx, hpok⟩ (.inr hop) (fun y1 w' => Or W b s kb fb { exL M (M.reg (pB x)) 8 (wd G) with pc := M.pc + 1 } ⟨S.pres, askL S.asked t⟩ w') (fun y1 hb1 => ?_)).mono ?_
  · rw [hop, show ((35 : Nat) : Int) = 35 from rfl]
    refine (exch35_true b s (M.reg (pA x)) (M.reg (pB x)) M G y1 T (fun ya z => ∃ T' : Nat → Prop, IsSt z T' s kb fb ⟨S.pres, askL S.asked t⟩ ∧ (∀ j, T' j → (T j ∨ ya.heap.size ≤ j) ∧ j < z.heap.size) ∧ Kept T ya z) (h.mac.below hb1) hok.mem hr hw hpc (fun e => (hT b e).2.2 rfl) (fun ya hba => ?_) (fun ya z _ ⟨_, _, _, hr⟩ => hr)).mono ?_
    · rw [ht']
      refine (exd_get T s kb fb S t ya (hst.below (bl hb1 hba)) (fun k hk => ?_) hn).mono ?_
      · have h1 := (bl hb1 hba).size
        have h2 := (hT k hk).2.1
        omega
      · rintro e w' ⟨he, h1⟩
        rw [hG, show Wt.has S.pres t = true by rw [← look_has, hG]; rfl] at he
        exact ⟨he, h1⟩
    · rintro e w' ⟨he, ya, hba, z, ⟨T', h1, h2, h3⟩, hk, hm⟩
      have z0 := h.mac.lt
      have z1 := (bl hb1 hba).size
      have z2 := h3.size
      have z3 := hk.size
      have z4 := h.below.size
      have hT' : ∀ j, T' j → W.heap.size ≤ j ∧ j < z.heap.size ∧ j ≠ b := fun j hj => by
        have hj2 := (h2 j hj).2
        rcases (h2 j hj).1 with h9 | h9
        · exact ⟨(hT j h9).1, hj2, (hT j h9).2.2⟩
        · exact ⟨by omega, hj2, by omega⟩
      refine ⟨he, hm, ⟨T', h1.kept hk (fun j hj e => (hT' j hj).2.2 e) (Ne.symm h.hb.2.1) (Ne.symm h.hb.2.2.1), fun j hj => ⟨(hT' j hj).1, by have := (hT' j hj).2.1; omega, (hT' j hj).2.2⟩⟩,
        below_of (below_of (bl (bl h.below hb1) hba) h3 fun j _ hj => (hT j hj).1) hk fun j _ hj => by rw [hj]; exact h.hb.1, h.kt, h.hb⟩
  · rintro e w' ⟨he, _, _, h⟩
    exact ⟨he, h⟩
theorem orHalt (W y : World) (b s kb fb : Nat) (M : Mac) (S : Sto) (x : Nat) (h : Or W b s kb fb M S y) (hok : OkM M) (hh : M.halted = false) (hpc : M.pc < 8192) (hx : M.mem M.pc = x) (hpok : pOk x = true) (hop : pOp x = 0) :
    Calls Tryd.prog 65 #[.pointer (some ⟨b, 0, none⟩), .pointer (some ⟨s, 0, none⟩)] y fun e w' => e = .returned (.tuple #[]) ∧ Or W b s kb fb (stopM { M with pc := M.pc + 1 } (M.reg (pA x))) S w' := by
  obtain ⟨T, hst, hT⟩ := h.st
  refine (step_halt y b s M x ⟨h.mac, hok, hh, hpc, hx, hpok⟩ hop).mono ?_
  rintro e w' ⟨he, hm, hk⟩
  have z3 := hk.size
  exact ⟨he, hm, ⟨T, hst.kept hk (fun j hj e => (hT j hj).2.2 e) (Ne.symm h.hb.2.1) (Ne.symm h.hb.2.2.1), fun j hj => ⟨(hT j hj).1, by have := (hT j hj).2.1; omega, (hT j hj).2.2⟩⟩,
    below_of h.below hk fun j _ hj => by rw [hj]; exact h.hb.1, h.kt, h.hb⟩
/-- What was put is found. -/
theorem look_put {β : Type} {M : List (Hx × β)} (hA : Apart M) {h h' : Hx} (v : β) (hk : key h = key h') : Wt.look (putM M h v) h' = some v := by
  have hap := apart_put hA h v
  cases hb : Wt.has M h with
  | true =>
    obtain ⟨p, hp, he⟩ := List.any_eq_true.1 hb
    obtain ⟨j, hj⟩ := List.mem_iff_getElem?.1 hp
    have he' : key p.1 = key h := by simpa using he
    have e : putM M h v = M.set j (p.1, v) := by
      unfold putM
      rw [if_pos hb, map_at hA v hj he']
    have hjl := (List.getElem?_eq_some_iff.1 hj).1
    have h3 : (putM M h v)[j]? = some (p.1, v) := by rw [e]; simp [hjl]
    exact look_at hap h3 (he'.trans hk)
  | false =>
    have e : putM M h v = M ++ [(h, v)] := by unfold putM; rw [if_neg (by rw [hb]; decide)]
    have h3 : (putM M h v)[M.length]? = some (h, v) := by rw [e]; simp
    exact look_at hap h3 hk
theorem put_len {β : Type} (M : List (Hx × β)) (h : Hx) (v : β) : (putM M h v).length ≤ M.length + 1 := by
  unfold putM
  split <;> simp
theorem ok_exL {M : Mac} (h : OkM M) (to n : Nat) (g : Nat → Nat) (hg : ∀ i, g i < 18446744073709551616) : OkM (exL M to n g) := by
  refine ⟨fun i => ?_, h.reg, h.pc, h.exit⟩
  unfold exL
  simp only
  split
  · exact hg _
  · exact h.mem i
/-- The machine that the oracle begins with. -/
def oA (X f : Nat → Nat) (F D B : Nat) : Mac := setR (setR (setR (exL (loaded 3 X) F 8 f) 1 F) 2 D) 3 B
def oB (X f : Nat → Nat) (F D B : Nat) : Mac := { exL (oA X f F D B) D 4 (wd (ht (hs (pxW 8 f)))) with pc := 1 }
def oC (X f : Nat → Nat) (F D B : Nat) : Mac := { exL (oB X f F D B) B 8 (wd (pxW 8 f)) with pc := 2 }
def oD (X f : Nat → Nat) (F D B : Nat) : Mac := stopM { oC X f F D B with pc := 3 } 0
def oM (X f : Nat → Nat) (F D B : Nat) : Nat → Mac
  | 0 => oA X f F D B
  | 1 => oB X f F D B
  | 2 => oC X f F D B
  | _ => oD X f F D B
def oT (f : Nat → Nat) : Px := pxW 4 (wd (ht (hs (pxW 8 f))))
def oS (S0 : Sto) (f : Nat → Nat) : Nat → Sto
  | 0 => S0
  | 1 => ⟨putM S0.pres (hs (pxW 8 f)) (pxW 8 f), S0.asked⟩
  | _ => ⟨putM S0.pres (hs (pxW 8 f)) (pxW 8 f), askL S0.asked (oT f)⟩
theorem oT_key (f : Nat → Nat) : key (hs (pxW 8 f)) = key (oT f) := key_of fun i hi => by
  unfold oT
  rw [pxW_wd _ _ _ (by omega)]
  unfold ht
  rw [if_pos hi]
section
variable {X f : Nat → Nat} {F D B : Nat}
theorem oA_mem (p : Nat) : (oA X f F D B).mem p = if F ≤ p ∧ p < F + 8 then f (p - F) else if p < 3 then X p else 0 := rfl
theorem oB_mem (p : Nat) : (oB X f F D B).mem p = if D ≤ p ∧ p < D + 4 then wd (ht (hs (pxW 8 f))) (p - D) else (oA X f F D B).mem p := rfl
theorem oC_mem (p : Nat) : (oC X f F D B).mem p = if B ≤ p ∧ p < B + 8 then wd (pxW 8 f) (p - B) else (oB X f F D B).mem p := rfl
end
theorem oracle_run (W y : World) (b s kb fb : Nat) (S0 : Sto) (hA0 : Apart S0.pres) (hq0 : S0.asked.length < 1073741824) (X f : Nat → Nat) (F D B : Nat) (hf : ∀ i, f i < 18446744073709551616) (hX : ∀ i, X i < 18446744073709551616) (hF : 10 ≤ F ∧ F + 8 ≤ 8192) (hD : 10 ≤ D ∧ D + 4 ≤ 8192) (hB : 10 ≤ B ∧ B + 8 ≤ 8192)
    (hap : D + 4 ≤ F ∨ F + 8 ≤ D) (w0 : WordIs (X 0) 34 0 1 2 0 0) (w1 : WordIs (X 1) 35 0 2 3 0 0) (w2 : WordIs (X 2) 0 0 0 0 0 0) (h : Or W b s kb fb (oA X f F D B) S0 y) :
    Calls Tryd.prog 37 #[.pointer (some ⟨b, 0, none⟩), .pointer (some ⟨s, 0, none⟩), .int .i64 9] y fun e w' => e = .returned (.tuple #[.int .i64 3, .nilIface]) ∧ Or W b s kb fb (oD X f F D B) (oS S0 f 3) w' := by
  have okA : OkM (oA X f F D B) := ok_setR (ok_setR (ok_setR (ok_exL (ok_loaded 3 X hX) F 8 f hf) 1 F (by omega)) 2 D (by omega)) 3 B (by omega)
  have okB : OkM (oB X f F D B) := ok_pc (ok_exL okA D 4 _ (wd_lt _)) 1 (by decide)
  have okC : OkM (oC X f F D B) := ok_pc (ok_exL okB B 8 _ (wd_lt _)) 2 (by decide)
  refine run_walk b s 9 3 (oM X f F D B) (fun i y => Or W b s kb fb (oM X f F D B i) (oS S0 f i) y) (fun i y h => h.mac) (fun i y hi h => ?_) (by decide) (fun i hi => ?_) (.inr rfl) (by decide) y h
  · have ei : i = 0 ∨ i = 1 ∨ i = 2 := by omega
    rcases ei with rfl | rfl | rfl
    · have hm0 : (oA X f F D B).mem 0 = X 0 := by rw [oA_mem, if_neg (by omega), if_pos (by omega)]
      have h1 := or34 W y b s kb fb (oA X f F D B) S0 (X 0) h okA rfl (show 0 < 8192 by decide) hm0 w0.ok w0.op (by rw [w0.a]; exact hF.2) (by rw [w0.b]; exact hD.2) (pxW 8 f) (pxW_cong fun i hi => by
        rw [w0.a]
        show (oA X f F D B).mem (F + i) = f i
        rw [oA_mem, if_pos (by omega), Nat.add_sub_cancel_left])
      rw [w0.b] at h1
      exact h1
    · have hm1 : (oB X f F D B).mem 1 = X 1 := by rw [oB_mem, if_neg (by omega), oA_mem, if_neg (by omega), if_pos (by omega)]
      have h1 := or35 W y b s kb fb (oB X f F D B) (oS S0 f 1) (X 1) h okB rfl (show 1 < 8192 by decide) hm1 w1.ok w1.op (by rw [w1.a]; exact hD.2) (by rw [w1.b]; exact hB.2) hq0 (oT f) (pxW_cong fun i hi => by
        rw [w1.a]
        show (oB X f F D B).mem (D + i) = _
        rw [oB_mem, if_pos (by omega), Nat.add_sub_cancel_left]) (pxW 8 f) (look_put hA0 _ (oT_key f))
      rw [w1.b] at h1
      exact h1
    · have hm2 : (oC X f F D B).mem 2 = X 2 := by rw [oC_mem, if_neg (by omega), oB_mem, if_neg (by omega), oA_mem, if_neg (by omega), if_pos (by omega)]
      have h1 := orHalt W y b s kb fb (oC X f F D B) (oS S0 f 2) (X 2) h okC rfl (show 2 < 8192 by decide) hm2 w2.ok w2.op
      rw [w2.a] at h1
      exact h1
  · have ei : i = 0 ∨ i = 1 ∨ i = 2 := by omega
    rcases ei with rfl | rfl | rfl <;> rfl
theorem oD_mem (X f : Nat → Nat) (F D B i : Nat) (hi : i < 8) (hf : ∀ i, f i < 18446744073709551616) : (oD X f F D B).mem (B + i) = f i := by
  show (oC X f F D B).mem (B + i) = f i
  rw [oC_mem, if_pos (by omega), Nat.add_sub_cancel_left, wd_pxW 8 f i hi (hf i)]
theorem oS_len (S0 : Sto) (f : Nat → Nat) (h0 : S0.pres.length = 16) : (oS S0 f 3).pres.length ≤ 17 := by
  have h := put_len S0.pres (hs (pxW 8 f)) (pxW 8 f)
  rw [h0] at h
  exact h
end Vm
end Go.Proofs.YtdmffnjbholkkaaDoor
