/- Merged of Db Dc Dd De. Own work. -/
import Derived.Test.YtjfpbponjhpdhaaDoorP25
namespace Go.Proofs.YtjfpbponjhpdhaaDoor
open Go.RowKit
set_option linter.unusedVariables false
set_option linter.unusedSimpArgs false
namespace Co
open Kc Mk Vm Rl
set_option maxHeartbeats 2000000 in
set_option maxRecDepth 100000 in
theorem put_at (w : World) (q T N L c o P : Nat) (g : Nat → Value) (p v : Nat) (h : IsTab w q T N g) (ho : o = 8 * P) (hp : 8 * p + 8 ≤ L) (hL : o + L ≤ N) (hN : L ≤ 64) (hv : v < 18446744073709551616) :
    Calls Tryd.prog 49 #[.slice (some ⟨q, o, none⟩) L c, .int .i64 p, .int .u64 v] w fun e w' => e = .returned (.tuple #[]) ∧ Rl.Put w q T N (putv g (P + p) v 8) w' := by
  have HP : Hid (Rl.Put w q T N (putv g (P + p) v 0) w) := Lib.hid ⟨by rw [putv_zero]; exact h, Kept.refl _ _⟩
  have HN := Lib.hid (And.intro hp (And.intro hN (And.intro ho hL)))
  have HV := Lib.hid hv
  have e1 : wrap64 (8 * (p : Int)) = ((8 * p : Nat) : Int) := by unfold wrap64; omega
  have HE := Lib.hid e1
  clear h hp hN hv ho hL
  go_enter Tryd.func49, Tryd.ntmps49
  go_wp2_with (fail)
  go_loopw [7] (fun i y => ∃ j : Nat, i = .int .i64 j ∧ Hid (j ≤ 8 ∧ Rl.Put w q T N (putv g (P + p) v j) y)) (fun i _ => 8 - (intOf i).toNat)
  case atStart => exact ⟨0, rfl, Lib.hid ⟨Nat.zero_le _, HP.out⟩⟩
  case round =>
    obtain ⟨j, rfl, hp⟩ := hrel
    have HR := Lib.hid hp.out
    clear hp HP e1
    by_cases hlt : (j : Int) < 8
    · have e1 := HE.out
      have x1 := HR.out.2.row.cell (8 * (P + p) + j) (by have := HN.out; omega)
      have x2 := HR.out.2.row.fz (8 * (P + p) + j)
      have HJ := Lib.hid (And.intro (show j < 8 by omega) (show wrap64 ((j : Int) + 1) = ((j + 1 : Nat) : Int) by unfold wrap64; omega))
      obtain ⟨R, hR⟩ : ∃ R, 8 * p = R := ⟨_, rfl⟩
      obtain ⟨J, hJ⟩ : ∃ J, R + j = J := ⟨_, rfl⟩
      have HJJ : Hid (8 * (P + p) + j = o + J) := Lib.hid (by have := HN.out; omega)
      rw [hR] at e1
      rw [HJJ.out] at x1 x2
      have e2 : wrap64 ((R : Int) + j) = (J : Int) := by have := HN.out; unfold wrap64; omega
      have e3 : wrap64 (8 * (j : Int)) = ((8 * j : Nat) : Int) := by unfold wrap64; omega
      have e4 : wrap64 (56 - ((8 * j : Nat) : Int)) = ((56 - 8 * j : Nat) : Int) := by unfold wrap64; omega
      have e5 : (J : Int) < L := by have := HN.out; omega
      clear hR hJ
      go_wp2_with (fail)
      refine ⟨⟨j + 1, by simp, Lib.hid ⟨HJ.out.1, ?_⟩⟩, by simp [intOf]; omega⟩
      have h9 := HR.out.2.set (8 * (P + p) + j) (Rl.ub (Rl.byteOf v j))
      rw [putv_next, HJJ.out] at h9
      have e9 : Rl.ub (Rl.byteOf v j) = .int .u8 ((v : Int) / 2 ^ (56 - 8 * j) % 256) := by unfold Rl.ub Rl.byteOf; push_cast; rfl
      rw [← e9]; exact h9
    · obtain rfl : j = 8 := by have := HR.out.1; omega
      go_wp2_with (fail)
      exact bodyPost_end (v := .tuple #[]) (by simp [results, Tryd.results49, go_sem]) rfl ⟨rfl, HR.out.2⟩
end Co
end Go.Proofs.YtjfpbponjhpdhaaDoor
namespace Go.Proofs.YtjfpbponjhpdhaaDoor
open Go.RowKit
set_option linter.unusedVariables false
set_option linter.unusedSimpArgs false
namespace Co
open Kc Mk Vm
theorem exec_buildE {P : Program} {o : Oper} {ev : Operand → Value} {w : World} (t : TypeId) (parts : Array (Nat × Operand)) (ho : o.op = .build t parts)
    (vs : Array (Nat × Value)) (hx : (parts.map fun (i, x) => (i, ev x)) = vs) (v : Value) (hl : (Instr.build t vs).run P w = .ok v w) : (execOp ev o).run P w = .ok (.value v) w := by
  unfold execOp
  simp only [ho]
  rw [hx]
  simp [hl, Result.andThen]
theorem infRg : (Tryd.prog.info? 35).map (·.size) = some 16 := by kernel_rfl
theorem undRg : Tryd.prog.underlying 35 = some (.array 16 33) := by kernel_rfl
theorem loadRg {w : World} {b : Nat} {M : Mac} (h : IsMac w b M) : (Instr.loadAt 35 (.pointer (some ⟨b, 8192, none⟩))).run Tryd.prog w = .ok (.agg (tab 16 (uv M.reg))) w := by
  refine run_loadAt_mid w b 8192 _ ((List.range 16).map (uv M.reg)) _ (fun j v hv => ?_) undRg rfl (by rw [List.length_map, List.length_range]; exact infRg)
  obtain ⟨hj, rfl⟩ := List.getElem?_eq_some_iff.1 hv
  simp only [List.length_map, List.length_range] at hj
  have := IsMac.reg h hj
  simpa [uv] using this
theorem buildHd (M : Mac) (w : World) : (Instr.build 48 #[(0, .agg (tab 16 (uv M.reg))), (1, .int .u64 M.pc), (2, .bool M.halted), (3, .int .u64 M.exit)]).run Tryd.prog w = .ok (.agg (tab 19 (hv M))) w := by kernel_rfl
set_option maxHeartbeats 8000000 in
set_option maxRecDepth 100000 in
theorem HeadOf_ok (w : World) (b : Nat) (M : Mac) (hm : IsMac w b M) :
    Calls Tryd.prog 15 #[.pointer (some ⟨b, 0, none⟩)] w fun e w' => e = .returned (.tuple #[.agg (tab 19 (hv M)), .nilIface]) ∧ Below w.heap.size w w' := by
  have z2 := zeroHd
  have HM := Lib.hid hm
  clear hm
  have hzs : (tab 19 (hv m0)).size = 19 := tab_size _ _
  generalize hz : (tab 19 (hv m0)) = zd at *
  have HZS := Lib.hid hzs
  clear hzs hz
  go_enter Tryd.func15, Tryd.ntmps15
  go_upto_region 3 with (fail)
  have H0 : Hid (IsMac (w.alloc (.cells zd 48)) b M ∧ Below w.heap.size w (w.alloc (.cells zd 48)) ∧ (w.alloc (.cells zd 48)).heap[w.heap.size]? = some (.cells zd 48 (0, 0)) ∧ b ≠ w.heap.size) := Lib.hid ⟨HM.out.below (ba _ _), ba _ _, heap_alloc_last w _, by have := HM.out.lt; omega⟩
  generalize w.alloc (.cells zd 48) = y0 at *
  generalize hq : w.heap.size = q2 at *
  have HQ := Lib.hid hq
  clear hq
  have HS : Hid ((fun z : World => IsMac z b M) y0.drew) := Lib.hid H0.out.1
  have HR : Hid (y0.drew.heap[q2]? = some (.cells zd 48 (0, 0))) := Lib.hid H0.out.2.2.1
  have HB : Hid (Below q2 w y0.drew) := Lib.hid H0.out.2.1.drew
  have HNE := Lib.hid H0.out.2.2.2
  clear H0
  refine wp_region_og (fun z : World => IsMac z b M) (.take 0 (.take 1 (.take 2 (.take 3 (.take 4 (.take 5 (.take 6 (.take 7 (.take 8 (.take 9 (.take 10 (.take 11 (.take 12 (.take 13 (.take 14 (.take 15 (.take 16 (.one 17 (.take 18 .done))))))))))))))))))) (by kernel_rfl) (by kernel_rfl) (HS.out) ?_
  generalize y0.drew = y1 at *
  refine og_tk (some 8) (.pointer (some ⟨b, 0, none⟩)) rfl rfl (by go_simp) (fun _ _ => by simp [execOp, go_sem]) ?_
  simp only [Act.put, pS]
  refine og_tk (some 9) (.pointer (some ⟨b, 0, none⟩)) rfl rfl (by go_simp) (fun _ _ => by simp [execOp, go_sem]) ?_
  simp only [Act.put, pS]
  refine og_tk (some 10) (.pointer (some ⟨b, 8192, none⟩)) rfl rfl (by go_simp) (fun _ _ => by simp [execOp, go_sem]) ?_
  simp only [Act.put, pS]
  refine og_ld (some 11) 35 (.tmp 10) (.pointer (some ⟨b, 8192, none⟩)) (.agg (tab 16 (uv M.reg))) rfl rfl (by go_simp) rfl rfl (fun y hy => loadRg hy) ?_
  simp only [Act.put, pS]
  refine og_tk (some 12) (.pointer (some ⟨b, 0, none⟩)) rfl rfl (by go_simp) (fun _ _ => by simp [execOp, go_sem]) ?_
  simp only [Act.put, pS]
  refine og_tk (some 13) (.pointer (some ⟨b, 0, none⟩)) rfl rfl (by go_simp) (fun _ _ => by simp [execOp, go_sem]) ?_
  simp only [Act.put, pS]
  refine og_tk (some 14) (.pointer (some ⟨b, 8208, none⟩)) rfl rfl (by go_simp) (fun _ _ => by simp [execOp, go_sem]) ?_
  simp only [Act.put, pS]
  refine og_ld (some 15) 33 (.tmp 14) (.pointer (some ⟨b, 8208, none⟩)) (.int .u64 M.pc) rfl rfl (by go_simp) rfl rfl (fun y hy => by have h := hy.pc; simp [Instr.loadAt, go_sem, h, Tryd.underlying33]) ?_
  simp only [Act.put, pS]
  refine og_tk (some 16) (.pointer (some ⟨b, 0, none⟩)) rfl rfl (by go_simp) (fun _ _ => by simp [execOp, go_sem]) ?_
  simp only [Act.put, pS]
  refine og_tk (some 17) (.pointer (some ⟨b, 0, none⟩)) rfl rfl (by go_simp) (fun _ _ => by simp [execOp, go_sem]) ?_
  simp only [Act.put, pS]
  refine og_tk (some 18) (.pointer (some ⟨b, 8209, none⟩)) rfl rfl (by go_simp) (fun _ _ => by simp [execOp, go_sem]) ?_
  simp only [Act.put, pS]
  refine og_ld (some 19) 4 (.tmp 18) (.pointer (some ⟨b, 8209, none⟩)) (.bool M.halted) rfl rfl (by go_simp) rfl rfl (fun y hy => by have h := hy.halted; simp [Instr.loadAt, go_sem, h, Tryd.underlying4]) ?_
  simp only [Act.put, pS]
  refine og_tk (some 20) (.pointer (some ⟨b, 0, none⟩)) rfl rfl (by go_simp) (fun _ _ => by simp [execOp, go_sem]) ?_
  simp only [Act.put, pS]
  refine og_tk (some 21) (.pointer (some ⟨b, 0, none⟩)) rfl rfl (by go_simp) (fun _ _ => by simp [execOp, go_sem]) ?_
  simp only [Act.put, pS]
  refine og_tk (some 22) (.pointer (some ⟨b, 8210, none⟩)) rfl rfl (by go_simp) (fun _ _ => by simp [execOp, go_sem]) ?_
  simp only [Act.put, pS]
  refine og_ld (some 23) 33 (.tmp 22) (.pointer (some ⟨b, 8210, none⟩)) (.int .u64 M.exit) rfl rfl (by go_simp) rfl rfl (fun y hy => by have h := hy.exit; simp [Instr.loadAt, go_sem, h, Tryd.underlying33]) ?_
  simp only [Act.put, pS]
  refine og_tk (some 24) (.agg (tab 19 (hv M))) rfl rfl (by go_simp) (fun y hy => exec_buildE 48 #[(0, .tmp 11), (1, .tmp 15), (2, .tmp 19), (3, .tmp 23)] rfl #[(0, .agg (tab 16 (uv M.reg))), (1, .int .u64 M.pc), (2, .bool M.halted), (3, .int .u64 M.exit)] (by simp only [List.map_toArray, List.map_cons, List.map_nil]; rfl) _ (buildHd M y)) ?_
  simp only [Act.put, pS]
  refine og_f rfl (by go_simp) fun K hK => ?_
  refine wp_store_row 48 (.tmp 2) (.tmp 24) rfl q2 (tab 19 (hv M)) rfl rfl 48 zd HR.out (infHd M) (by rw [tab_size]; exact HZS.out) (oneHd M) ?_
  have H9 : Hid (IsMac (y1.setRow q2 (tab 19 (hv M))) b M ∧ Below q2 w (y1.setRow q2 (tab 19 (hv M))) ∧ IsTab (y1.setRow q2 (tab 19 (hv M))) q2 48 19 (hv M)) := Lib.hid ⟨IsTab.rowOther HS.out HNE.out, below_setRow HB.out (Nat.le_refl _) _, setRow_heap y1 q2 _ _ _ _ HR.out⟩
  refine hK _ _ H9.out.1 ?_
  clear hK K
  try simp only [List.getElem_toArray, List.getElem_cons_succ, List.getElem_cons_zero, Act.put, pS]
  refine og_tk (some 3) (.nilIface) rfl rfl (by go_simp) (fun _ _ => by simp [execOp, go_sem]) ?_
  simp only [Act.put, pS]
  refine og_done (NoPanic.normal ?_)
  generalize y1.setRow q2 (tab 19 (hv M)) = y2 at *
  clear HS HR HB
  go_wp2_with (fail)
  exact bodyPost_ret (Kc.results_cell_tmp rfl _ _ q2 48 _ (0, 0) _ rfl H9.out.2.2 undHd rfl (infHd M) .nilIface rfl) rfl ⟨rfl, by rw [HQ.out]; exact H9.out.2.1⟩
end Co
end Go.Proofs.YtjfpbponjhpdhaaDoor
namespace Go.Proofs.YtjfpbponjhpdhaaDoor
open Go.RowKit
set_option linter.unusedVariables false
set_option linter.unusedSimpArgs false
namespace Co
open Kc Mk Vm
theorem putv_fP (g : Nat → Nat) (i : Nat) : Rl.putv (fP g (8 * i)) i (g i) 8 = fP g (8 * (i + 1)) := by
  funext j
  unfold Rl.putv fP
  by_cases h : 8 * i ≤ j ∧ j < 8 * i + 8
  · rw [if_pos h, if_pos (by omega), show j / 8 = i from by omega, show j - 8 * i = j % 8 from by omega]
  · rw [if_neg h]
    by_cases h2 : j < 8 * i
    · rw [if_pos h2, if_pos (by omega)]
    · rw [if_neg h2, if_neg (by omega)]
/-- The four digests that sixteen words are. -/
def lf4 (g : Nat → Nat) : Nat → Hx := fun k => fX fun t => g (4 * k + t)
theorem fP_hs {w : World} {q T : Nat} {g : Nat → Nat} (h : IsTab w q T 128 (fP g 128)) : IsHs w (some ⟨q, 0, none⟩) 4 (lf4 g) := .inr ⟨q, 0, rfl, fun k j hk hj => by
  rw [show 0 + 32 * k + j = 32 * k + j from by omega, h.cell (32 * k + j) (by omega)]
  unfold fP lf4 fX
  rw [if_pos (by omega), if_pos hj, show (32 * k + j) / 8 = 4 * k + j / 8 from by omega, show (32 * k + j) % 8 = j % 8 from by omega]
  exact congrArg some (ub_wb _ _)⟩
theorem idxRg (f : Nat → Nat) (i : Nat) (h : i < 16) (w : World) : (Instr.index 35 (.agg (tab 16 (uv f))) (.int .i64 i)).run Tryd.prog w = .ok (.int .u64 (f i)) w := by
  have e : i = 0 ∨ i = 1 ∨ i = 2 ∨ i = 3 ∨ i = 4 ∨ i = 5 ∨ i = 6 ∨ i = 7 ∨ i = 8 ∨ i = 9 ∨ i = 10 ∨ i = 11 ∨ i = 12 ∨ i = 13 ∨ i = 14 ∨ i = 15 := by omega
  rcases e with rfl | rfl | rfl | rfl | rfl | rfl | rfl | rfl | rfl | rfl | rfl | rfl | rfl | rfl | rfl | rfl <;> (clear h; show _ = _; kernel_rfl)
theorem build4 (w : World) : (Instr.build 118 #[]).run Tryd.prog w = .ok (.agg (tab 128 fun _ => bv 0#8)) w := by kernel_rfl
theorem zero4 (w : World) : (zeroValue 118).run Tryd.prog w = .ok (.agg (tab 128 fun _ => bv 0#8)) w := by kernel_rfl
theorem inf4' : (Tryd.prog.info? 118).map (·.size) = some 128 := by kernel_rfl
theorem inf4 (g : Nat → Value) : (Tryd.prog.info? 118).map (·.size) = some (tab 128 g).size := by rw [tab_size]; exact inf4'
theorem loadRgBox {w : World} {q : Nat} {M : Mac} (h : IsTab w q 48 19 (hv M)) : (Instr.loadAt 35 (.pointer (some ⟨q, 0, none⟩))).run Tryd.prog w = .ok (.agg (tab 16 (uv M.reg))) w := by
  refine run_loadAt_mid w q 0 _ ((List.range 16).map (uv M.reg)) _ (fun j v hv => ?_) undRg rfl (by rw [List.length_map, List.length_range]; exact infRg)
  obtain ⟨hj, rfl⟩ := List.getElem?_eq_some_iff.1 hv
  simp only [List.length_map, List.length_range] at hj
  have h1 := IsTab.cell h j (by omega)
  have e : Co.hv M j = .int .u64 (M.reg j) := by unfold Co.hv; rw [if_pos hj]
  rw [e] at h1
  simpa [uv] using h1
end Co
end Go.Proofs.YtjfpbponjhpdhaaDoor
namespace Go.Proofs.YtjfpbponjhpdhaaDoor
open Go.RowKit
set_option linter.unusedVariables false
set_option linter.unusedSimpArgs false
namespace Co
open Kc Mk Vm
theorem slHO (q o : Nat) (w : World) : (Instr.sliceAt 42 (.pointer (some ⟨q, o, none⟩)) none none none).run Tryd.prog w = .ok (.slice (some ⟨q, o, none⟩) 32 32) w := by
  rw [run_sliceAt_array_all w _ ⟨q, o, none⟩ undH', sizeH]
  simp [slicedAt, lenH, Addr.add]
def hdX (M : Mac) : Hx := pr (rootOf 2 4 (lf4 M.reg)) (fX (sel M.pc (if M.halted then 1 else 0) M.exit 0))
theorem put3 (a b c j : Nat) (hj : j < 32) : Rl.putv (Rl.putv (Rl.putv (fun _ => bv 0#8) 0 a 8) 1 b 8) 2 c 8 j = bv (fX (sel a b c 0) j) := by
  unfold Rl.putv fX
  rw [if_pos hj]
  by_cases h2 : 16 ≤ j ∧ j < 24
  · rw [if_pos (by omega), show j / 8 = 2 from by omega, show j % 8 = j - 8 * 2 from by omega]; exact ub_wb _ _
  rw [if_neg (by omega)]
  by_cases h1 : 8 ≤ j ∧ j < 16
  · rw [if_pos (by omega), show j / 8 = 1 from by omega, show j % 8 = j - 8 * 1 from by omega]; exact ub_wb _ _
  rw [if_neg (by omega)]
  by_cases h0 : j < 8
  · rw [if_pos (by omega), show j / 8 = 0 from by omega, show j % 8 = j - 8 * 0 from by omega]; exact ub_wb _ _
  rw [if_neg (by omega), show j / 8 = 3 from by omega]
  show bv 0#8 = bv (wb 0 _)
  rw [wb_zero]
theorem put2 (a c j : Nat) (hj : j < 32) : Rl.putv (Rl.putv (fun _ => bv 0#8) 0 a 8) 2 c 8 j = bv (fX (sel a 0 c 0) j) := by
  unfold Rl.putv fX
  rw [if_pos hj]
  by_cases h2 : 16 ≤ j ∧ j < 24
  · rw [if_pos (by omega), show j / 8 = 2 from by omega, show j % 8 = j - 8 * 2 from by omega]; exact ub_wb _ _
  rw [if_neg (by omega)]
  by_cases h0 : j < 8
  · rw [if_pos (by omega), show j / 8 = 0 from by omega, show j % 8 = j - 8 * 0 from by omega]; exact ub_wb _ _
  rw [if_neg (by omega)]
  have e : sel a 0 c 0 (j / 8) = 0 := by
    have e : j / 8 = 1 ∨ j / 8 = 3 := by omega
    rcases e with e | e <;> rw [e] <;> rfl
  rw [e, wb_zero]
/-- What the rest keeps. -/
structure Dr (W : World) (q1 q2 q6 q8 : Nat) (M : Mac) (R : Hx) (g : Nat → Value) (y : World) : Prop where
  box : IsTab y q1 48 19 (hv M)
  res : IsTab y q2 42 32 (fun _ => bv 0#8)
  s6 : IsTab y q6 42 32 fun i => bv (R i)
  s8 : IsTab y q8 42 32 g
  below : Below W.heap.size W y
  ge : W.heap.size ≤ q1 ∧ q1 < q2 ∧ q2 < q6 ∧ q6 < q8
theorem Dr.drew {W y : World} {q1 q2 q6 q8 : Nat} {M : Mac} {R : Hx} {g : Nat → Value} (h : Dr W q1 q2 q6 q8 M R g y) : Dr W q1 q2 q6 q8 M R g y.drew := ⟨h.box, h.res, h.s6, h.s8, h.below.drew, h.ge⟩
theorem Dr.put {W y y' : World} {q1 q2 q6 q8 : Nat} {M : Mac} {R : Hx} {g g' : Nat → Value} (h : Dr W q1 q2 q6 q8 M R g y) (hp : Rl.Put y q8 42 32 g' y') : Dr W q1 q2 q6 q8 M R g' y' := by
  have n := h.ge
  exact ⟨(hp.kept.block q1 h.box.lt (by omega)).trans h.box, (hp.kept.block q2 h.res.lt (by omega)).trans h.res, (hp.kept.block q6 h.s6.lt (by omega)).trans h.s6, hp.row, h.below.trans (hp.kept.below (by have := h.below.size; exact this) fun k _ hk => by rw [hk]; omega), n⟩
theorem slL4 (q : Nat) (w : World) : (Instr.sliceAt 118 (.pointer (some ⟨q, 0, none⟩)) none none none).run Tryd.prog w = .ok (.slice (some ⟨q, 0, none⟩) 4 4) w := by kernel_rfl
structure Dr0 (W : World) (q1 q2 q6 : Nat) (M : Mac) (R : Hx) (y : World) : Prop where
  box : IsTab y q1 48 19 (hv M)
  res : IsTab y q2 42 32 (fun _ => bv 0#8)
  s6 : IsTab y q6 42 32 fun i => bv (R i)
  below : Below W.heap.size W y
  ge : W.heap.size ≤ q1 ∧ q1 < q2 ∧ q2 < q6
/-- What Digest's loop keeps. -/
structure Dg (W : World) (q1 q2 q3 : Nat) (M : Mac) (m : Nat) (y : World) : Prop where
  box : IsTab y q1 48 19 (hv M)
  res : IsTab y q2 42 32 (fun _ => bv 0#8)
  lv : IsTab y q3 118 128 (fP M.reg m)
  below : Below W.heap.size W y
  ge : W.heap.size ≤ q1 ∧ q1 < q2 ∧ q2 < q3
theorem Dg.put {W y y' : World} {q1 q2 q3 m i : Nat} {M : Mac} (h : Dg W q1 q2 q3 M m y) (hm : m = 8 * i) (hp : Rl.Put y q3 118 128 (Rl.putv (fP M.reg m) i (M.reg i) 8) y') : Dg W q1 q2 q3 M (8 * (i + 1)) y' := by
  subst hm
  have g := h.ge
  have l1 := h.box.lt
  have l2 := h.res.lt
  have hr := hp.row
  rw [putv_fP] at hr
  exact ⟨(hp.kept.block q1 l1 (by omega)).trans h.box, (hp.kept.block q2 l2 (by omega)).trans h.res, hr, h.below.trans (hp.kept.below (by have := h.below.size; exact this) fun k _ hk => by rw [hk]; omega), g⟩
set_option maxHeartbeats 8000000 in
set_option maxRecDepth 100000 in
theorem digest_walk (w : World) (M : Mac) (hr : ∀ i, M.reg i < 18446744073709551616) (hpc : M.pc < 18446744073709551616) (hex : M.exit < 18446744073709551616) (ht : Laid.KTab w) :
    Calls Tryd.prog 24 #[.agg (tab 19 (hv M))] w fun e w' => e = .returned (dv (hdX M)) ∧ Below w.heap.size w w' := by
  have HOK := Lib.hid (And.intro hr (And.intro hpc (And.intro hex ht)))
  clear hr hpc hex ht
  have z4 := zero4
  have HB4 := Lib.hid (fun u : World => build4 u)
  generalize hz4 : (tab 128 fun _ => bv 0#8) = z4h at *
  have HZ4 := Lib.hid hz4
  clear hz4
  have HI4 : Hid ((Tryd.prog.info? 118).map (·.size) = some z4h.size ∧ z4h.all (·.oneCell') = true ∧ z4h.size = 128) := Lib.hid ⟨by rw [← HZ4.out]; exact inf4 _, by rw [← HZ4.out]; exact one_bv _ _, by rw [← HZ4.out, tab_size]⟩
  have z2 := zeroHash
  have HBH := Lib.hid (fun u : World => buildH0 u)
  generalize hz : (tab 32 fun _ => bv 0#8) = zh at *
  have HZ := Lib.hid hz
  clear hz
  have HZI : Hid ((Tryd.prog.info? 42).map (·.size) = some zh.size ∧ zh.all (·.oneCell') = true ∧ zh.size = 32) := Lib.hid ⟨by rw [← HZ.out]; exact infH _, by rw [← HZ.out]; exact one_bv _ _, by rw [← HZ.out, tab_size]⟩
  obtain ⟨hd, hhd⟩ : ∃ hd, tab 19 (hv M) = hd := ⟨_, rfl⟩
  have HHD := Lib.hid hhd
  rw [hhd]
  clear hhd
  go_enter Tryd.func24, Tryd.ntmps24
  go_upto_region 1 with (fail)
  have H0 : Hid (IsTab ((w.alloc (.cells hd 48)).alloc (.cells zh 42)) w.heap.size 48 19 (hv M) ∧ IsTab ((w.alloc (.cells hd 48)).alloc (.cells zh 42)) (w.heap.size + 1) 42 32 (fun _ => bv 0#8) ∧ Below w.heap.size w ((w.alloc (.cells hd 48)).alloc (.cells zh 42))) := Lib.hid (by
    have e1 : (w.alloc (.cells hd 48)).heap.size = w.heap.size + 1 := by simp
    have t6 := put_new (w.alloc (.cells hd 48)) (fun _ => 0#8) zh HZ.out
    rw [e1] at t6
    refine ⟨IsTab.alloc ?_ _, t6, ((Below.refl _ _).alloc (Nat.le_refl _) _).alloc (by simp) _⟩
    rw [← HHD.out]; exact IsTab.new w 48 19 (hv M))
  generalize (w.alloc (.cells hd 48)).alloc (.cells zh 42) = y0 at *
  generalize hq2 : w.heap.size + 1 = q2 at *
  generalize hq : w.heap.size = q1 at *
  have HQ := Lib.hid (And.intro hq hq2)
  clear hq hq2
  go_upto_region 2 with (first
    | ((with_reducible refine wpList_buildM (P := Tryd.prog) (w := y0) ?_ 118 ?_ (.agg z4h) (HB4.out y0) ?_); (· exact rfl); (· exact rfl))
    | ((with_reducible refine wpList_store_row (P := Tryd.prog) (w := y0.alloc (.cells z4h 118)) ?_ 118 (.tmp 3) (.tmp 9) ?_ y0.heap.size z4h ?_ ?_ 118 z4h (heap_alloc_last y0 _) HI4.out.1 ?_ HI4.out.2.1 ?_); (· exact rfl); (· exact rfl); (· exact rfl); (· exact rfl); (· exact rfl); rw [World.setRow_alloc_new]; simp only [Act.put]))
  have H1 : Hid (Dg w q1 q2 y0.heap.size M 0 (y0.alloc (.cells z4h 118))) := Lib.hid ⟨H0.out.1.alloc _, H0.out.2.1.alloc _, by rw [fP_zero, ← HZ4.out]; exact IsTab.new y0 118 128 _, by rw [HQ.out.1]; exact H0.out.2.2.alloc (by have := H0.out.2.1.lt; have := HQ.out; omega) _, by have := HQ.out; omega, by have := HQ.out; omega, H0.out.2.1.lt⟩
  clear H0
  generalize y0.alloc (.cells z4h 118) = y1 at *
  generalize y0.heap.size = q3 at *
  have HLR := Lib.hid (loadRgBox H1.out.box)
  go_upto_region 3 with (first
    | ((with_reducible refine wpList_loadE (P := Tryd.prog) (w := y1) (ty := 35) (x := .tmp 10) (p := .pointer (some ⟨q1, 0, none⟩)) (v := .agg (tab 16 (uv M.reg))) ?_ ?_ ?_ HLR.out ?_); (· exact rfl); (· exact rfl); (· exact rfl)))
  clear HLR
  obtain ⟨rg, hrg⟩ : ∃ rg, tab 16 (uv M.reg) = rg := ⟨_, rfl⟩
  have HRG := Lib.hid hrg
  rw [hrg]
  clear hrg
  go_loopw [12] (fun t y => ∃ i : Nat, t = .int .i64 i ∧ Hid (i ≤ 16 ∧ Dg w q1 q2 q3 M (8 * i) y)) (fun t _ => 16 - (intOf t).toNat)
  case atStart => exact ⟨0, rfl, Lib.hid ⟨Nat.zero_le _, H1.out⟩⟩
  case round =>
    obtain ⟨i, rfl, hp⟩ := hrel
    have HP := Lib.hid hp.out
    clear hp H1
    by_cases hlt : (i : Int) < 16
    · have hix := fun u : World => idxRg M.reg i (by omega) u
      rw [HRG.out] at hix
      have HJ : Hid (i + 1 ≤ 16 ∧ wrap64 ((i : Int) + 1) = ((i + 1 : Nat) : Int)) := Lib.hid ⟨by omega, by unfold wrap64; omega⟩
      obtain ⟨D, hD⟩ : ∃ D, i / 4 = D := ⟨_, rfl⟩
      obtain ⟨m, hm⟩ : ∃ m, i % 4 = m := ⟨_, rfl⟩
      have e1 : (i : Int).tdiv 4 = (D : Int) := by rw [Int.tdiv_eq_ediv_of_nonneg (by omega)]; omega
      have e2 : (i : Int).tmod 4 = (m : Int) := by rw [Int.tmod_eq_emod_of_nonneg (by omega)]; omega
      have e0 : (D : Int) < 4 := by omega
      have s1 := slHO q3 (D * 32)
      have hpa := put_at wr q3 118 128 32 32 (D * 32) (4 * D) (fP M.reg (8 * i)) m (M.reg i) HP.out.2.lv (by omega) (by omega) (by omega) (by decide) (HOK.out.1 i)
      rw [show 4 * D + m = i from by omega] at hpa
      have HPA := Lib.hid hpa
      clear hpa hD hm
      generalize hv2 : M.reg i = v at *
      have HVV := Lib.hid hv2
      clear hv2
      go_upto_region 6 with (go_at_call 49; (with_reducible refine HPA.out.mono ?_); rintro e y2 ⟨he, hp⟩; obtain rfl : e = _ := he; have HP2 := Lib.hid hp; clear hp HPA)
      have HN : Hid (Dg w q1 q2 q3 M (8 * (i + 1)) y2) := Lib.hid (HP.out.2.put rfl (by have h := HP2.out; rw [← HVV.out] at h; exact h))
      have hw1 := HJ.out.2
      clear e1 e2 e0 s1 hix HP HP2
      go_wp2_with (fail)
      go_roundw
      case rel => exact ⟨i + 1, by go_num, Lib.hid ⟨HJ.out.1, HN.out⟩⟩
      case measure => simp [intOf]; omega
    · obtain rfl : i = 16 := by have := HP.out.1; omega
      clear hlt
      have H2 : Hid (Dg w q1 q2 q3 M 128 wr) := Lib.hid HP.out.2
      clear HP
      generalize wr = y3 at *
      have s4 := slL4 q3
      have hra := root_any 2 (some ⟨q3, 0, none⟩) 4 4 (lf4 M.reg) y3 (fP_hs H2.out.lv) (fun h => by cases h) (Nat.le_refl _) (by decide) (ktab_below HOK.out.2.2.2 H2.out.below)
      have HRA := Lib.hid hra
      clear hra
      obtain ⟨R, hR⟩ : ∃ R, rootOf 2 4 (lf4 M.reg) = R := ⟨_, rfl⟩
      have HRR := Lib.hid hR
      have HRA : Hid (Calls Tryd.prog 37 #[.int .i64 2, .slice (some ⟨q3, 0, none⟩) 4 4] y3 fun e w' => e = .returned (.tuple #[dv R, errV (wrong 2 4)]) ∧ Below y3.heap.size y3 w') := Lib.hid (by have h := HRA.out; rw [HRR.out] at h; exact h)
      clear hR
      go_upto_region 8 with (first
        | (go_at_call 37; (with_reducible refine HRA.out.mono ?_); rintro e y4 ⟨he, hb⟩; obtain rfl : e = _ := he; have HB4 := Lib.hid hb; clear hb HRA)
        | ((with_reducible refine wpList_store_row (P := Tryd.prog) (w := y4.alloc (.cells zh 42)) ?_ 42 (.tmp 6) (.tmp 28) ?_ y4.heap.size (tab 32 fun i => bv (R i)) ?_ ?_ 42 zh (heap_alloc_last y4 _) (infH _) ?_ (one_bv _ _) ?_); (· exact rfl); (· exact rfl); (· exact rfl); (· exact rfl); (· rw [HZI.out.2.2, tab_size]); rw [World.setRow_alloc_new]; simp only [Act.put]))
      clear s4
      have H5 : Hid (Dr0 w q1 q2 y4.heap.size M R (y4.alloc (.cells (tab 32 fun i => bv (R i)) 42))) := Lib.hid ⟨(H2.out.box.below HB4.out).alloc _, (H2.out.res.below HB4.out).alloc _, IsTab.new y4 _ 32 _, (bl H2.out.below HB4.out).alloc (by have := (bl H2.out.below HB4.out).size; exact this) _, H2.out.ge.1, H2.out.ge.2.1, by have := H2.out.res.lt; have := HB4.out.size; omega⟩
      clear H2 HB4
      generalize y4.alloc (.cells (tab 32 fun i => bv (R i)) 42) = y5 at *
      generalize y4.heap.size = q6 at *
      go_upto_region 9 with (first
        | ((with_reducible refine wpList_buildM (P := Tryd.prog) (w := y5) ?_ 42 ?_ (.agg zh) (HBH.out y5) ?_); (· exact rfl); (· exact rfl))
        | ((with_reducible refine wpList_store_row (P := Tryd.prog) (w := y5.alloc (.cells zh 42)) ?_ 42 (.tmp 8) (.tmp 30) ?_ y5.heap.size zh ?_ ?_ 42 zh (heap_alloc_last y5 _) HZI.out.1 ?_ HZI.out.2.1 ?_); (· exact rfl); (· exact rfl); (· exact rfl); (· exact rfl); (· exact rfl); rw [World.setRow_alloc_new]; simp only [Act.put]))
      have H6 : Hid (Dr w q1 q2 q6 y5.heap.size M R (fun _ => bv 0#8) (y5.alloc (.cells zh 42))) := Lib.hid ⟨H5.out.box.alloc _, H5.out.res.alloc _, H5.out.s6.alloc _, put_new y5 (fun _ => 0#8) zh HZ.out, H5.out.below.alloc (by have := H5.out.below.size; exact this) _, H5.out.ge.1, H5.out.ge.2.1, H5.out.ge.2.2, H5.out.s6.lt⟩
      clear H5
      generalize y5.alloc (.cells zh 42) = y6 at *
      generalize y5.heap.size = q8 at *
      have HS9 : Hid (Dr w q1 q2 q6 q8 M R (fun _ => bv 0#8) y6.drew) := Lib.hid H6.out.drew
      clear H6
      refine wp_region_og (fun z : World => IsTab z q1 48 19 (hv M)) (.take 0 (.take 1 (.take 2 (.one 3 .done)))) (by kernel_rfl) (by kernel_rfl) (HS9.out.box) ?_
      generalize y6.drew = y7 at *
      have hc := Rl.put_walk y7 q8 42 32 32 (fun _ => bv 0#8) 0 M.pc HS9.out.s8 (by decide) (by decide) HOK.out.2.1
      rw [show ((0 : Nat) : Int) = 0 from rfl] at hc
      have HC := Lib.hid hc
      clear hc
      refine og_tk (some 31) (.slice (some ⟨q8, 0, none⟩) 32 32) rfl rfl (by go_simp) (fun y hy => by have h := slHA q8 y; simp [execOp, go_sem, h, Result.andThen]) ?_
      simp only [Act.put, pS]
      refine og_tk (some 32) (.pointer (some ⟨q1, 16, none⟩)) rfl rfl (by go_simp) (fun _ _ => by simp [execOp, go_sem]) ?_
      simp only [Act.put, pS]
      refine og_ld (some 33) 33 (.tmp 32) (.pointer (some ⟨q1, 16, none⟩)) (.int .u64 M.pc) rfl rfl (by go_simp) rfl rfl (fun y hy => by have h := (show y.cell? ⟨q1, 16, none⟩ = some (.int .u64 M.pc) from IsTab.cell hy 16 (by decide)); simp [Instr.loadAt, go_sem, h, Tryd.underlying33]) ?_
      simp only [Act.put, pS]
      refine og_f rfl (by go_simp) fun K hK => ?_
      go_simp
      refine HC.out.mono ?_
      rintro e y8 ⟨he, hp⟩
      obtain rfl : e = _ := he
      have H8 : Hid (Dr w q1 q2 q6 q8 M R (Rl.putv (fun _ => bv 0#8) 0 M.pc 8) y8) := Lib.hid (HS9.out.put hp)
      refine hK _ _ H8.out.box ?_
      clear hK K hp
      try simp only [List.getElem_toArray, List.getElem_cons_succ, List.getElem_cons_zero, Act.put, pS]
      refine og_done (NoPanic.normal ?_)
      clear HS9 HC
      cases hh : M.halted
      · have k17 : y8.cell? ⟨q1, 17, none⟩ = some (.bool false) := by rw [← hh]; exact IsTab.cell H8.out.box 17 (by decide)
        go_upto_region 12 with (fail)
        have H9 : Hid (Dr w q1 q2 q6 q8 M R (Rl.putv (fun _ => bv 0#8) 0 M.pc 8) y8) := Lib.hid H8.out
        clear k17 H8
        generalize y8 = y9 at *
        have HS12 : Hid (Dr w q1 q2 q6 q8 M R (Rl.putv (fun _ => bv 0#8) 0 M.pc 8) y9.drew) := Lib.hid H9.out.drew
        clear H9
        refine wp_region_og (fun z : World => IsTab z q1 48 19 (hv M)) (.take 0 (.take 1 (.take 2 (.one 3 .done)))) (by kernel_rfl) (by kernel_rfl) (HS12.out.box) ?_
        generalize y9.drew = y10 at *
        have hc := Rl.put_walk y10 q8 42 32 32 (Rl.putv (fun _ => bv 0#8) 0 M.pc 8) 2 M.exit HS12.out.s8 (by decide) (by decide) HOK.out.2.2.1
        rw [show ((2 : Nat) : Int) = 2 from rfl] at hc
        have HC := Lib.hid hc
        clear hc
        refine og_tk (some 39) (.slice (some ⟨q8, 0, none⟩) 32 32) rfl rfl (by go_simp) (fun y hy => by have h := slHA q8 y; simp [execOp, go_sem, h, Result.andThen]) ?_
        simp only [Act.put, pS]
        refine og_tk (some 40) (.pointer (some ⟨q1, 18, none⟩)) rfl rfl (by go_simp) (fun _ _ => by simp [execOp, go_sem]) ?_
        simp only [Act.put, pS]
        refine og_ld (some 41) 33 (.tmp 40) (.pointer (some ⟨q1, 18, none⟩)) (.int .u64 M.exit) rfl rfl (by go_simp) rfl rfl (fun y hy => by have h := (show y.cell? ⟨q1, 18, none⟩ = some (.int .u64 M.exit) from IsTab.cell hy 18 (by decide)); simp [Instr.loadAt, go_sem, h, Tryd.underlying33]) ?_
        simp only [Act.put, pS]
        refine og_f rfl (by go_simp) fun K hK => ?_
        go_simp
        refine HC.out.mono ?_
        rintro e y11 ⟨he, hp⟩
        obtain rfl : e = _ := he
        have H11 : Hid (Dr w q1 q2 q6 q8 M R (Rl.putv (Rl.putv (fun _ => bv 0#8) 0 M.pc 8) 2 M.exit 8) y11) := Lib.hid (HS12.out.put hp)
        refine hK _ _ H11.out.box ?_
        clear hK K hp
        try simp only [List.getElem_toArray, List.getElem_cons_succ, List.getElem_cons_zero, Act.put, pS]
        refine og_done (NoPanic.normal ?_)
        clear HS12 HC
        obtain ⟨X, hX⟩ : ∃ X, fX (sel M.pc 0 M.exit 0) = X := ⟨_, rfl⟩
        have H12 : Hid (IsTab y11 q8 42 32 fun i => bv (X i)) := Lib.hid (by rw [← hX]; exact H11.out.s8.cong fun j hj => put2 M.pc M.exit j hj)
        have HX : Hid (hdX M = pr R X) := Lib.hid (by unfold hdX; rw [HRR.out, hh, ← hX]; rfl)
        clear hX hh
        have HL6 := Lib.hid (load32h H11.out.s6)
        have HL8 := Lib.hid (load32h H12.out)
        have HPR := Lib.hid (pair_dv R X y11 (ktab_below HOK.out.2.2.2 H11.out.below))
        go_wp2_with (first
          | ((with_reducible refine wpList_loadE (P := Tryd.prog) (w := y11) (ty := 42) (x := .tmp 6) (p := .pointer (some ⟨q6, 0, none⟩)) (v := dv R) ?_ ?_ ?_ HL6.out ?_); (· exact rfl); (· exact rfl); (· exact rfl))
          | ((with_reducible refine wpList_loadE (P := Tryd.prog) (w := y11) (ty := 42) (x := .tmp 8) (p := .pointer (some ⟨q8, 0, none⟩)) (v := dv X) ?_ ?_ ?_ HL8.out ?_); (· exact rfl); (· exact rfl); (· exact rfl))
          | (go_at_call 39; (with_reducible refine HPR.out.mono ?_); rintro e y13 ⟨he, hb⟩; obtain rfl : e = _ := he; have H13 : Hid (IsTab y13 q2 42 32 (fun _ => bv 0#8) ∧ Below w.heap.size w y13 ∧ w.heap.size ≤ q2) := Lib.hid ⟨H11.out.res.below hb, bl H11.out.below hb, by have := H11.out.ge; omega⟩; clear hb HPR)
          | ((with_reducible refine wpList_store_row (P := Tryd.prog) (w := y13) ?_ 42 (.tmp 2) (.tmp 45) ?_ q2 (tab 32 fun i => bv (pr R X i)) ?_ ?_ 42 (tab 32 fun _ => bv 0#8) ?_ (infH _) ?_ (one_bv _ _) ?_); (· exact rfl); (· exact rfl); (· exact rfl); (· exact rfl); (· exact H13.out.1); (· rw [tab_size, tab_size])))
        have hr : IsTab (World.setRow y13 q2 (tab 32 fun j => bv (pr R X j))) q2 42 32 fun j => bv (pr R X j) := H13.out.1.row
        exact bodyPost_ret (results_cell_row rfl _ _ q2 42 _ (0, 0) _ rfl hr undH rfl (infH _)) rfl ⟨by rw [HX.out]; rfl, below_setRow H13.out.2.1 H13.out.2.2 _⟩
      · have k17 : y8.cell? ⟨q1, 17, none⟩ = some (.bool true) := by rw [← hh]; exact IsTab.cell H8.out.box 17 (by decide)
        have s8 := slHA q8
        have hc := Rl.put_walk y8 q8 42 32 32 (Rl.putv (fun _ => bv 0#8) 0 M.pc 8) 1 1 H8.out.s8 (by decide) (by decide) (by decide)
        rw [show ((1 : Nat) : Int) = 1 from rfl] at hc
        have HC := Lib.hid hc
        clear hc
        go_upto_region 12 with (go_at_call 49; (with_reducible refine HC.out.mono ?_); rintro e y9 ⟨he, hp⟩; obtain rfl : e = _ := he; have H9 : Hid (Dr w q1 q2 q6 q8 M R (Rl.putv (Rl.putv (fun _ => bv 0#8) 0 M.pc 8) 1 1 8) y9) := Lib.hid (H8.out.put hp); clear hp)
        clear s8 k17 H8 HC
        have HS12 : Hid (Dr w q1 q2 q6 q8 M R (Rl.putv (Rl.putv (fun _ => bv 0#8) 0 M.pc 8) 1 1 8) y9.drew) := Lib.hid H9.out.drew
        clear H9
        refine wp_region_og (fun z : World => IsTab z q1 48 19 (hv M)) (.take 0 (.take 1 (.take 2 (.one 3 .done)))) (by kernel_rfl) (by kernel_rfl) (HS12.out.box) ?_
        generalize y9.drew = y10 at *
        have hc := Rl.put_walk y10 q8 42 32 32 (Rl.putv (Rl.putv (fun _ => bv 0#8) 0 M.pc 8) 1 1 8) 2 M.exit HS12.out.s8 (by decide) (by decide) HOK.out.2.2.1
        rw [show ((2 : Nat) : Int) = 2 from rfl] at hc
        have HC := Lib.hid hc
        clear hc
        refine og_tk (some 39) (.slice (some ⟨q8, 0, none⟩) 32 32) rfl rfl (by go_simp) (fun y hy => by have h := slHA q8 y; simp [execOp, go_sem, h, Result.andThen]) ?_
        simp only [Act.put, pS]
        refine og_tk (some 40) (.pointer (some ⟨q1, 18, none⟩)) rfl rfl (by go_simp) (fun _ _ => by simp [execOp, go_sem]) ?_
        simp only [Act.put, pS]
        refine og_ld (some 41) 33 (.tmp 40) (.pointer (some ⟨q1, 18, none⟩)) (.int .u64 M.exit) rfl rfl (by go_simp) rfl rfl (fun y hy => by have h := (show y.cell? ⟨q1, 18, none⟩ = some (.int .u64 M.exit) from IsTab.cell hy 18 (by decide)); simp [Instr.loadAt, go_sem, h, Tryd.underlying33]) ?_
        simp only [Act.put, pS]
        refine og_f rfl (by go_simp) fun K hK => ?_
        go_simp
        refine HC.out.mono ?_
        rintro e y11 ⟨he, hp⟩
        obtain rfl : e = _ := he
        have H11 : Hid (Dr w q1 q2 q6 q8 M R (Rl.putv (Rl.putv (Rl.putv (fun _ => bv 0#8) 0 M.pc 8) 1 1 8) 2 M.exit 8) y11) := Lib.hid (HS12.out.put hp)
        refine hK _ _ H11.out.box ?_
        clear hK K hp
        try simp only [List.getElem_toArray, List.getElem_cons_succ, List.getElem_cons_zero, Act.put, pS]
        refine og_done (NoPanic.normal ?_)
        clear HS12 HC
        obtain ⟨X, hX⟩ : ∃ X, fX (sel M.pc 1 M.exit 0) = X := ⟨_, rfl⟩
        have H12 : Hid (IsTab y11 q8 42 32 fun i => bv (X i)) := Lib.hid (by rw [← hX]; exact H11.out.s8.cong fun j hj => put3 M.pc 1 M.exit j hj)
        have HX : Hid (hdX M = pr R X) := Lib.hid (by unfold hdX; rw [HRR.out, hh, ← hX]; rfl)
        clear hX hh
        have HL6 := Lib.hid (load32h H11.out.s6)
        have HL8 := Lib.hid (load32h H12.out)
        have HPR := Lib.hid (pair_dv R X y11 (ktab_below HOK.out.2.2.2 H11.out.below))
        go_wp2_with (first
          | ((with_reducible refine wpList_loadE (P := Tryd.prog) (w := y11) (ty := 42) (x := .tmp 6) (p := .pointer (some ⟨q6, 0, none⟩)) (v := dv R) ?_ ?_ ?_ HL6.out ?_); (· exact rfl); (· exact rfl); (· exact rfl))
          | ((with_reducible refine wpList_loadE (P := Tryd.prog) (w := y11) (ty := 42) (x := .tmp 8) (p := .pointer (some ⟨q8, 0, none⟩)) (v := dv X) ?_ ?_ ?_ HL8.out ?_); (· exact rfl); (· exact rfl); (· exact rfl))
          | (go_at_call 39; (with_reducible refine HPR.out.mono ?_); rintro e y13 ⟨he, hb⟩; obtain rfl : e = _ := he; have H13 : Hid (IsTab y13 q2 42 32 (fun _ => bv 0#8) ∧ Below w.heap.size w y13 ∧ w.heap.size ≤ q2) := Lib.hid ⟨H11.out.res.below hb, bl H11.out.below hb, by have := H11.out.ge; omega⟩; clear hb HPR)
          | ((with_reducible refine wpList_store_row (P := Tryd.prog) (w := y13) ?_ 42 (.tmp 2) (.tmp 45) ?_ q2 (tab 32 fun i => bv (pr R X i)) ?_ ?_ 42 (tab 32 fun _ => bv 0#8) ?_ (infH _) ?_ (one_bv _ _) ?_); (· exact rfl); (· exact rfl); (· exact rfl); (· exact rfl); (· exact H13.out.1); (· rw [tab_size, tab_size])))
        have hr : IsTab (World.setRow y13 q2 (tab 32 fun j => bv (pr R X j))) q2 42 32 fun j => bv (pr R X j) := H13.out.1.row
        exact bodyPost_ret (results_cell_row rfl _ _ q2 42 _ (0, 0) _ rfl hr undH rfl (infH _)) rfl ⟨by rw [HX.out]; rfl, below_setRow H13.out.2.1 H13.out.2.2 _⟩
end Co
end Go.Proofs.YtjfpbponjhpdhaaDoor
