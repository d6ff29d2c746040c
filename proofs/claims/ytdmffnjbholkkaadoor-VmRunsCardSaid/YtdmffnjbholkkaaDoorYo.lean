/- Merged. Own work. -/
import Derived.Test.YtdmffnjbholkkaaDoorYh
namespace Go.Proofs.YtdmffnjbholkkaaDoor
open Go.RowKit
set_option linter.unusedVariables false
set_option linter.unusedSimpArgs false
namespace Vm
open Kc
/-- An instruction as the statements hand it on. -/
structure Ins where
  op : Int
  d : Int
  a : Int
  b : Int
  c : Int
  n : Int
  raw : Nat
def insV (x : Ins) : List Value := [.int .i64 x.op, .int .i64 x.d, .int .i64 x.a, .int .i64 x.b, .int .i64 x.c, .int .i64 x.n, .int .u64 x.raw]
def IsIns (w : World) (b o n : Nat) (f : Nat → Ins) : Prop := ∀ j i v, j < n → (insV (f j))[i]? = some v → w.cell? ⟨b, o + j * 7 + i, none⟩ = some v
theorem IsIns.below {w w' : World} {b o n : Nat} {f : Nat → Ins} (h : IsIns w b o n f) (hb : Below w.heap.size w w') : IsIns w' b o n f := fun j i v h1 h2 => keep1 hb (h j i v h1 h2)
def m16 (z : Int) : Int := wrap64 ((IntKind.u64.wrap z).tmod 16)
def wordOf (x : Ins) : Nat := if codeOk x.op (m16 x.d) (m16 x.a) (m16 x.b) (m16 x.c) x.n then (codeW x.op (m16 x.d) (m16 x.a) (m16 x.b) (m16 x.c) x.n).toNat else x.raw
theorem codeW_nn {op d a b c n : Int} (h : codeOk op d a b c n) : ((codeW op d a b c n).toNat : Int) = codeW op d a b c n := by
  unfold codeOk gd at h
  unfold codeW
  omega
theorem undIns : Tryd.prog.underlying 82 = some (.struct (Tryd.prog.fieldsOf 82)) := by kernel_rfl
theorem infIns : (Tryd.prog.info? 82).map (·.size) = some 7 := by kernel_rfl
theorem loadIns {w : World} {b o n : Nat} {f : Nat → Ins} (h : IsIns w b o n f) {j : Nat} (hj : j < n) : (Instr.loadAt 82 (.pointer (some ⟨b, o + j * 7, none⟩))).run Tryd.prog w = .ok (.agg (insV (f j)).toArray) w := by
  refine run_loadAt_mid w b (o + j * 7) _ (insV (f j)) _ (fun i v hv => h j i v hj hv) undIns rfl (by rw [infIns]; rfl)
/-- What the loop keeps: the words so far. -/
structure Wl (W : World) (b o n : Nat) (f : Nat → Ins) (j : Nat) (V : Value) (y : World) : Prop where
  ins : IsIns y b o n f
  row : y.ownsRow W.heap.size 78 1 V j ((List.range j).map fun i => wv' (wordOf (f i)))
  below : Below W.heap.size W y
  lt : b < W.heap.size
theorem Wl.below' {W y y' : World} {b o n j : Nat} {f : Nat → Ins} {V : Value} (h : Wl W b o n f j V y) (hb : Below y.heap.size y y') : Wl W b o n f j V y' :=
  ⟨h.ins.below hb, (Kept.ofBelow (S := fun _ => False) hb).row h.row (fun _ _ h => h), bl h.below hb, h.lt⟩
theorem Wl.grown {W y y' : World} {b o n j : Nat} {f : Nat → Ins} {V V' : Value} (h : Wl W b o n f j V y) (x : Int) (hx : x = (wordOf (f j) : Int))
    (hr : y'.ownsRow W.heap.size 78 1 V' (j + 1) ((List.range j).map (fun i => wv' (wordOf (f i))) ++ [.int .u64 x])) (hg : y.grownBy y' V.ownBlock) : Wl W b o n f (j + 1) V' y' := by
  have hne : ∀ k, V.ownBlock = some k → W.heap.size ≤ k := fun k hk => owns_base h.row hk
  have hb := below_grown (Nat.le_refl _) h.below hg hne
  refine ⟨fun k i v h1 h2 => ?_, ?_, hb, h.lt⟩
  · have := h.ins k i v h1 h2
    rw [World.cell?_of_block (w := y) (hg.block b (inHeap this) (fun e => by have := hne b e.symm; have := h.lt; omega))]
    exact this
  · rw [List.range_succ, List.map_append, List.map_singleton]
    rw [hx] at hr
    exact hr
set_option maxHeartbeats 2000000 in
set_option maxRecDepth 100000 in
theorem words_walk (w : World) (b o n c : Nat) (f : Nat → Ins) (h : IsIns w b o n f) (hlt : b < w.heap.size) (hn : n ≤ 8192) :
    Calls Tryd.prog 40 #[.slice (some ⟨b, o, none⟩) n c] w fun e w' => ∃ V, e = .returned V ∧ Wl w b o n f n V w' := by
  obtain ⟨i0, hi0⟩ := infoW
  have HI := Lib.hid hi0
  have H0 : Hid (Wl w b o n f 0 (.slice none 0 0) w) := Lib.hid ⟨h, World.ownsRow_nil _ _ _ _, Below.refl _ _, hlt⟩
  have HN := Lib.hid hn
  clear h hlt hi0 hn
  go_enter Tryd.func40, Tryd.ntmps40
  go_upto_region 3 with (fail)
  go_loopw [10, 3] (fun t V y => ∃ j : Nat, t = .int .i64 j ∧ Hid (j ≤ n ∧ Wl w b o n f j V y)) (fun t _ _ => n - (intOf t).toNat)
  case atStart => exact ⟨0, rfl, Lib.hid ⟨Nat.zero_le _, H0.out⟩⟩
  case round =>
    obtain ⟨j, rfl, hp⟩ := hrel
    have HP := Lib.hid hp.out
    clear hp H0
    by_cases hlt : j < n
    · have t1 : decide (j < n) = true := by simp; omega
      have t2 : decide (8192 ≤ (j : Int)) = false := by have := HN.out; simp; omega
      have hj0 : (j : Int) < (n : Int) := by omega
      have HJ : Hid (j < n ∧ wrap64 ((j : Int) + 1) = ((j + 1 : Nat) : Int)) := Lib.hid ⟨hlt, wrap_up j (by have := HN.out; omega)⟩
      have HL := Lib.hid (loadIns HP.out.2.ins hlt)
      generalize hx : f j = x at *
      have HX := Lib.hid hx
      clear hlt hx
      unfold insV at HL
      go_upto_region 5 with ((with_reducible refine wpList_loadE (P := Tryd.prog) (w := wr) (ty := 82) (x := .tmp 13) (p := .pointer (some ⟨b, o + j * 7, none⟩)) (v := .agg #[.int .i64 x.op, .int .i64 x.d, .int .i64 x.a, .int .i64 x.b, .int .i64 x.c, .int .i64 x.n, .int .u64 x.raw]) ?_ ?_ ?_ HL.out ?_); (· exact rfl); (· exact rfl); (· exact rfl))
      have HP1 := Lib.hid (HP.out.2.below' ((Below.refl wr.heap.size wr).alloc (Nat.le_refl _) (.cells #[.int .i64 x.op, .int .i64 x.d, .int .i64 x.a, .int .i64 x.b, .int .i64 x.c, .int .i64 x.n, .int .u64 x.raw] 82)))
      have HD : Hid (∀ i v, (insV x)[i]? = some v → (wr.alloc (.cells #[.int .i64 x.op, .int .i64 x.d, .int .i64 x.a, .int .i64 x.b, .int .i64 x.c, .int .i64 x.n, .int .u64 x.raw] 82)).cell? ⟨wr.heap.size, i, none⟩ = some v) := Lib.hid (fun i v hv => by
        rw [cell_of_row _ _ i _ _ _ (heap_alloc_new wr _)]
        simpa [insV] using hv)
      clear HP HL
      generalize wr.alloc (.cells #[.int .i64 x.op, .int .i64 x.d, .int .i64 x.a, .int .i64 x.b, .int .i64 x.c, .int .i64 x.n, .int .u64 x.raw] 82) = y1 at *
      generalize wr.heap.size = qa at *
      have c0 : y1.cell? ⟨qa, 0, none⟩ = some (.int .i64 x.op) := HD.out 0 _ rfl
      have c1 : y1.cell? ⟨qa, 1, none⟩ = some (.int .i64 x.d) := HD.out 1 _ rfl
      have c2 : y1.cell? ⟨qa, 2, none⟩ = some (.int .i64 x.a) := HD.out 2 _ rfl
      have c3 : y1.cell? ⟨qa, 3, none⟩ = some (.int .i64 x.b) := HD.out 3 _ rfl
      have c4 : y1.cell? ⟨qa, 4, none⟩ = some (.int .i64 x.c) := HD.out 4 _ rfl
      have c5 : y1.cell? ⟨qa, 5, none⟩ = some (.int .i64 x.n) := HD.out 5 _ rfl
      have c6 : y1.cell? ⟨qa, 6, none⟩ = some (.int .u64 x.raw) := HD.out 6 _ rfl
      by_cases hc : codeOk x.op (m16 x.d) (m16 x.a) (m16 x.b) (m16 x.c) x.n
      · have HC : Hid (Calls Tryd.prog 43 #[.int .i64 x.op, .int .i64 (wrap64 ((IntKind.u64.wrap x.d).tmod 16)), .int .i64 (wrap64 ((IntKind.u64.wrap x.a).tmod 16)), .int .i64 (wrap64 ((IntKind.u64.wrap x.b).tmod 16)), .int .i64 (wrap64 ((IntKind.u64.wrap x.c).tmod 16)), .int .i64 x.n] y1 fun e w' => e = .returned (.tuple #[.int .u64 (codeW x.op (m16 x.d) (m16 x.a) (m16 x.b) (m16 x.c) x.n), .int .i64 0]) ∧ Below y1.heap.size y1 w') :=
          Lib.hid ((show codeR x.op (m16 x.d) (m16 x.a) (m16 x.b) (m16 x.c) x.n = _ from if_pos hc) ▸ rcode_walk y1 x.op (m16 x.d) (m16 x.a) (m16 x.b) (m16 x.c) x.n)
        have HW : Hid (codeW x.op (m16 x.d) (m16 x.a) (m16 x.b) (m16 x.c) x.n = (wordOf (f j) : Int)) := Lib.hid (by rw [HX.out]; unfold wordOf; rw [if_pos hc]; exact (codeW_nn hc).symm)
        clear hc
        go_upto_region 7 with (go_at_call 43; (with_reducible refine HC.out.mono ?_); rintro e y2 ⟨he, hy⟩; obtain rfl : e = _ := he; have k6 := keep1 hy c6; have HP2 := Lib.hid (HP1.out.below' hy); clear hy)
        clear c0 c1 c2 c3 c4 c5 c6 HC
        generalize hX : codeW x.op (m16 x.d) (m16 x.a) (m16 x.b) (m16 x.c) x.n = X at *
        clear hX
        have HP3 := Lib.hid (HP2.out.below' ((Below.refl y2.heap.size y2).alloc (Nat.le_refl _) (.cells #[.int .u64 X] 78)))
        have HQ : Hid (w.heap.size ≤ (y2.alloc (.cells #[.int .u64 X] 78)).heap.size) := Lib.hid HP3.out.below.size
        have HBD : Hid (j + 1 ≤ maxLen ∧ (j + 1) * 8 ≤ 140737488355328) := Lib.hid ⟨by have := HJ.out.1; have := HN.out; unfold maxLen; omega, by have := HJ.out.1; have := HN.out; omega⟩
        have hw1 := HJ.out.2
        go_wp2_with (refine wpList_append_at _ rfl (.tmp 49) (.tmp 51) 93 rfl w.heap.size 78 i0 (.int .u64 0) 1 8 undW HI.out rfl (by decide) u3 j ((List.range j).map fun i => wv' (wordOf (f i))) rfl HP3.out.row ⟨y2.heap.size, 0, none⟩ 1 1 [.int .u64 X] rfl rfl (one_at rfl _ _) (by intro u hu; simp at hu; subst hu; rfl) HBD.out.1 HBD.out.2 HQ.out ?_; intro V3 y3 hown3 hgr3 hat3; have HF3 := Lib.hid (HP3.out.grown X HW.out hown3 hgr3); clear hown3 hgr3 hat3)
        go_roundw
        case rel => exact ⟨j + 1, by go_num, Lib.hid ⟨HJ.out.1, HF3.out⟩⟩
        case measure => exact meas_loop HJ.out.1 HJ.out.2
      · have HC : Hid (Calls Tryd.prog 43 #[.int .i64 x.op, .int .i64 (wrap64 ((IntKind.u64.wrap x.d).tmod 16)), .int .i64 (wrap64 ((IntKind.u64.wrap x.a).tmod 16)), .int .i64 (wrap64 ((IntKind.u64.wrap x.b).tmod 16)), .int .i64 (wrap64 ((IntKind.u64.wrap x.c).tmod 16)), .int .i64 x.n] y1 fun e w' => e = .returned (.tuple #[.int .u64 0, .int .i64 2]) ∧ Below y1.heap.size y1 w') :=
          Lib.hid ((show codeR x.op (m16 x.d) (m16 x.a) (m16 x.b) (m16 x.c) x.n = _ from if_neg hc) ▸ rcode_walk y1 x.op (m16 x.d) (m16 x.a) (m16 x.b) (m16 x.c) x.n)
        have HW : Hid ((x.raw : Int) = (wordOf (f j) : Int)) := Lib.hid (by rw [HX.out]; unfold wordOf; rw [if_neg hc])
        clear hc
        go_upto_region 7 with (go_at_call 43; (with_reducible refine HC.out.mono ?_); rintro e y2 ⟨he, hy⟩; obtain rfl : e = _ := he; have k6 := keep1 hy c6; have HP2 := Lib.hid (HP1.out.below' hy); clear hy)
        clear c0 c1 c2 c3 c4 c5 c6 HC
        generalize hX : (x.raw : Int) = X at *
        clear hX
        have HP3 := Lib.hid (HP2.out.below' ((Below.refl y2.heap.size y2).alloc (Nat.le_refl _) (.cells #[.int .u64 X] 78)))
        have HQ : Hid (w.heap.size ≤ (y2.alloc (.cells #[.int .u64 X] 78)).heap.size) := Lib.hid HP3.out.below.size
        have HBD : Hid (j + 1 ≤ maxLen ∧ (j + 1) * 8 ≤ 140737488355328) := Lib.hid ⟨by have := HJ.out.1; have := HN.out; unfold maxLen; omega, by have := HJ.out.1; have := HN.out; omega⟩
        have hw1 := HJ.out.2
        go_wp2_with (refine wpList_append_at _ rfl (.tmp 49) (.tmp 51) 93 rfl w.heap.size 78 i0 (.int .u64 0) 1 8 undW HI.out rfl (by decide) u3 j ((List.range j).map fun i => wv' (wordOf (f i))) rfl HP3.out.row ⟨y2.heap.size, 0, none⟩ 1 1 [.int .u64 X] rfl rfl (one_at rfl _ _) (by intro u hu; simp at hu; subst hu; rfl) HBD.out.1 HBD.out.2 HQ.out ?_; intro V3 y3 hown3 hgr3 hat3; have HF3 := Lib.hid (HP3.out.grown X HW.out hown3 hgr3); clear hown3 hgr3 hat3)
        go_roundw
        case rel => exact ⟨j + 1, by go_num, Lib.hid ⟨HJ.out.1, HF3.out⟩⟩
        case measure => exact meas_loop HJ.out.1 HJ.out.2
    · obtain rfl : j = n := by have := HP.out.1; omega
      have t1 : decide (j < j) = false := by simp
      clear hlt
      go_wp2_with (fail)
      exact bodyPost_ret (v := u3) (by simp [results, Tryd.results40, go_sem]) rfl ⟨u3, rfl, HP.out.2⟩
end Vm
end Go.Proofs.YtdmffnjbholkkaaDoor
namespace Go.Proofs.YtdmffnjbholkkaaDoor
open Go.RowKit
set_option linter.unusedVariables false
set_option linter.unusedSimpArgs false
namespace Vm
open Kc
theorem loaded_cong {n : Nat} {f g : Nat → Nat} (h : ∀ j, j < n → f j = g j) : loaded n f = loaded n g := by
  unfold loaded
  congr 1
  funext i
  split
  · rename_i hi; exact h i hi
  · rfl
theorem loadedOf_walk (w : World) (qb o n c : Nat) (f : Nat → Ins) (h : IsIns w qb o n f) (hlt : qb < w.heap.size) (h0 : 0 < n) (hn : n ≤ 8192) :
    Calls Tryd.prog 34 #[.slice (some ⟨qb, o, none⟩) n c] w fun e w' => ∃ b, e = .returned (.pointer (some ⟨b, 0, none⟩)) ∧ IsMac w' b (loaded n fun j => wordOf (f j)) ∧ w.heap.size ≤ b ∧ Below w.heap.size w w' := by
  have HC := Lib.hid (words_walk w qb o n c f h hlt hn)
  have HN := Lib.hid (And.intro h0 hn)
  clear h hlt h0 hn
  go_enter Tryd.func34, Tryd.ntmps34
  go_wp2_with (first
    | (go_at_call 40; (with_reducible refine HC.out.mono ?_); rintro e y ⟨V, he, hw⟩; obtain rfl : e = _ := he; obtain ⟨g, cap, rfl, hs⟩ := ws_of (n := n) ((List.range n).map fun i => wordOf (f i)) (by simp) (by rw [List.map_map]; exact hw.row) HN.out.1; have HB := Lib.hid hw.below; have HL := Lib.hid (load_walk y g 0 n cap _ hs HN.out.2); clear hw hs HC)
    | (go_at_call 39; (with_reducible refine HL.out.mono ?_); rintro e y2 ⟨he, hm, hb⟩; obtain rfl : e = _ := he; have HM := Lib.hid hm; have HB2 := Lib.hid hb; clear hm hb HL))
  refine bodyPost_ret (v := .pointer (some ⟨y.heap.size, 0, none⟩)) (by simp [results, Tryd.results34, go_sem]) rfl ⟨y.heap.size, rfl, ?_, HB.out.size, bl HB.out HB2.out⟩
  have e : loaded n (fun j => wordOf (f j)) = loaded n fun j => ((List.range n).map fun i => wordOf (f i)).getD j 0 := loaded_cong fun j hj => by simp [hj]
  rw [e]
  exact HM.out
theorem stop_wrong (w : World) (b : Nat) (M : Mac) (h : IsMac w b M) :
    Calls Tryd.prog 78 #[.pointer (some ⟨b, 0, none⟩), .int .u64 18446744073709551614] w fun e w' => e = .returned (.tuple #[]) ∧ IsMac w' b (stopM M 18446744073709551614) ∧ Kept (fun k => k = b) w w' := stop_walk w b 18446744073709551614 M h
/-- A jump, plain. -/
def jumpM (M : Mac) (op d a to : Nat) : Mac :=
  if (op = 30 ∧ M.reg a ≠ 0) ∨ (op = 31 ∧ M.reg a = 0) then { M with pc := M.pc + 1 }
  else if 8192 ≤ (if op = 33 then M.reg a else to) then stopM M 18446744073709551614
  else { (if op = 32 then setR M d (M.pc + 1) else M) with pc := (if op = 33 then M.reg a else to) }
set_option maxHeartbeats 1000000 in
set_option maxRecDepth 100000 in
theorem jump29_far (w : World) (b d a to : Nat) (M : Mac) (h : IsMac w b M) (hd : d < 16) (ha : a < 16) (hpc : M.pc < 8192) (hto : 8192 ≤ to) :
    Calls Tryd.prog 81 #[.pointer (some ⟨b, 0, none⟩), .int .i64 29, .int .i64 d, .int .i64 a, .int .u64 to] w fun e w' => e = .returned (.tuple #[]) ∧ IsMac w' b (stopM M 18446744073709551614) ∧ Kept (fun k => k = b) w w' := by
  have hai : (a : Int) < 16 := by omega
  have hdi : (d : Int) < 16 := by omega
  have ka := h.reg ha
  have t1 : decide (8192 ≤ (to : Int)) = true := by simp; omega
  clear hto ha hd
  have HC := Lib.hid (stop_wrong w b M h)
  clear h hpc
  go_enter Tryd.func81, Tryd.ntmps81
  go_wp2_with (go_at_call 78; (with_reducible refine HC.out.mono ?_); rintro e y2 ⟨he, hm, hk⟩; obtain rfl : e = _ := he; have HM2 := Lib.hid hm; have HK2 := Lib.hid hk; clear hm hk)
  exact bodyPost_ret (v := .tuple #[]) (by simp [results, Tryd.results81, go_sem]) rfl ⟨rfl, HM2.out, HK2.out⟩
set_option maxHeartbeats 1000000 in
set_option maxRecDepth 100000 in
theorem jump29 (w : World) (b d a to : Nat) (M : Mac) (h : IsMac w b M) (hd : d < 16) (ha : a < 16) (hpc : M.pc < 8192) (hto : to < 8192) :
    Calls Tryd.prog 81 #[.pointer (some ⟨b, 0, none⟩), .int .i64 29, .int .i64 d, .int .i64 a, .int .u64 to] w fun e w' => e = .returned (.tuple #[]) ∧ IsMac w' b ({ M with pc := to }) ∧ Kept (fun k => k = b) w w' := by
  have hai : (a : Int) < 16 := by omega
  have hdi : (d : Int) < 16 := by omega
  have ka := h.reg ha
  have t1 : decide (8192 ≤ (to : Int)) = false := by simp; omega
  clear hto ha hd
  have kp := h.pc
  have fp := h.fz 8208
  have H9 := Lib.hid (h.setPc (to))
  have K9 := Lib.hid (kept_set (S := fun k => k = b) (Kept.refl _ w) b 8208 rfl (.int .u64 ((to : Nat) : Int)))
  clear h hpc
  go_enter Tryd.func81, Tryd.ntmps81
  go_wp2_with (fail)
  exact bodyPost_end (v := .tuple #[]) (by simp [results, Tryd.results81, go_sem]) rfl ⟨rfl, H9.out, K9.out⟩
set_option maxHeartbeats 1000000 in
set_option maxRecDepth 100000 in
theorem jump30_no (w : World) (b d a to : Nat) (M : Mac) (h : IsMac w b M) (hd : d < 16) (ha : a < 16) (hpc : M.pc < 8192) (hv : M.reg a ≠ 0) :
    Calls Tryd.prog 81 #[.pointer (some ⟨b, 0, none⟩), .int .i64 30, .int .i64 d, .int .i64 a, .int .u64 to] w fun e w' => e = .returned (.tuple #[]) ∧ IsMac w' b ({ M with pc := M.pc + 1 }) ∧ Kept (fun k => k = b) w w' := by
  have hai : (a : Int) < 16 := by omega
  have hdi : (d : Int) < 16 := by omega
  have ka := h.reg ha
  have t2 : ((M.reg a : Int) == 0) = false := by simp; omega
  clear hv
  clear ha hd
  have kp := h.pc
  have fp := h.fz 8208
  have HW : Hid (IntKind.u64.wrap ((M.pc : Int) + 1) = ((M.pc + 1 : Nat) : Int)) := Lib.hid (wrap_pc hpc)
  have H9 : Hid (IsMac (w.setCell ⟨b, 8208, none⟩ (.int .u64 (IntKind.u64.wrap ((M.pc : Int) + 1)))) b { M with pc := M.pc + 1 }) := Lib.hid (by rw [HW.out]; exact h.setPc (M.pc + 1))
  have K9 := Lib.hid (kept_set (S := fun k => k = b) (Kept.refl _ w) b 8208 rfl (.int .u64 (IntKind.u64.wrap ((M.pc : Int) + 1))))
  clear h hpc
  generalize hp : (M.pc : Int) = PC at *
  go_enter Tryd.func81, Tryd.ntmps81
  go_wp2_with (fail)
  subst hp
  exact bodyPost_ret (v := .tuple #[]) (by simp [results, Tryd.results81, go_sem]) rfl ⟨rfl, H9.out, K9.out⟩
set_option maxHeartbeats 1000000 in
set_option maxRecDepth 100000 in
theorem jump30_far (w : World) (b d a to : Nat) (M : Mac) (h : IsMac w b M) (hd : d < 16) (ha : a < 16) (hpc : M.pc < 8192) (hv : M.reg a = 0) (hto : 8192 ≤ to) :
    Calls Tryd.prog 81 #[.pointer (some ⟨b, 0, none⟩), .int .i64 30, .int .i64 d, .int .i64 a, .int .u64 to] w fun e w' => e = .returned (.tuple #[]) ∧ IsMac w' b (stopM M 18446744073709551614) ∧ Kept (fun k => k = b) w w' := by
  have hai : (a : Int) < 16 := by omega
  have hdi : (d : Int) < 16 := by omega
  have ka := h.reg ha
  have t2 : ((M.reg a : Int) == 0) = true := by simp; omega
  clear hv
  have t1 : decide (8192 ≤ (to : Int)) = true := by simp; omega
  clear hto ha hd
  have HC := Lib.hid (stop_wrong w b M h)
  clear h hpc
  go_enter Tryd.func81, Tryd.ntmps81
  go_wp2_with (go_at_call 78; (with_reducible refine HC.out.mono ?_); rintro e y2 ⟨he, hm, hk⟩; obtain rfl : e = _ := he; have HM2 := Lib.hid hm; have HK2 := Lib.hid hk; clear hm hk)
  exact bodyPost_ret (v := .tuple #[]) (by simp [results, Tryd.results81, go_sem]) rfl ⟨rfl, HM2.out, HK2.out⟩
set_option maxHeartbeats 1000000 in
set_option maxRecDepth 100000 in
theorem jump30 (w : World) (b d a to : Nat) (M : Mac) (h : IsMac w b M) (hd : d < 16) (ha : a < 16) (hpc : M.pc < 8192) (hv : M.reg a = 0) (hto : to < 8192) :
    Calls Tryd.prog 81 #[.pointer (some ⟨b, 0, none⟩), .int .i64 30, .int .i64 d, .int .i64 a, .int .u64 to] w fun e w' => e = .returned (.tuple #[]) ∧ IsMac w' b ({ M with pc := to }) ∧ Kept (fun k => k = b) w w' := by
  have hai : (a : Int) < 16 := by omega
  have hdi : (d : Int) < 16 := by omega
  have ka := h.reg ha
  have t2 : ((M.reg a : Int) == 0) = true := by simp; omega
  clear hv
  have t1 : decide (8192 ≤ (to : Int)) = false := by simp; omega
  clear hto ha hd
  have kp := h.pc
  have fp := h.fz 8208
  have H9 := Lib.hid (h.setPc (to))
  have K9 := Lib.hid (kept_set (S := fun k => k = b) (Kept.refl _ w) b 8208 rfl (.int .u64 ((to : Nat) : Int)))
  clear h hpc
  go_enter Tryd.func81, Tryd.ntmps81
  go_wp2_with (fail)
  exact bodyPost_end (v := .tuple #[]) (by simp [results, Tryd.results81, go_sem]) rfl ⟨rfl, H9.out, K9.out⟩
set_option maxHeartbeats 1000000 in
set_option maxRecDepth 100000 in
theorem jump31_no (w : World) (b d a to : Nat) (M : Mac) (h : IsMac w b M) (hd : d < 16) (ha : a < 16) (hpc : M.pc < 8192) (hv : M.reg a = 0) :
    Calls Tryd.prog 81 #[.pointer (some ⟨b, 0, none⟩), .int .i64 31, .int .i64 d, .int .i64 a, .int .u64 to] w fun e w' => e = .returned (.tuple #[]) ∧ IsMac w' b ({ M with pc := M.pc + 1 }) ∧ Kept (fun k => k = b) w w' := by
  have hai : (a : Int) < 16 := by omega
  have hdi : (d : Int) < 16 := by omega
  have ka := h.reg ha
  have t2 : ((M.reg a : Int) == 0) = true := by simp; omega
  clear hv
  clear ha hd
  have kp := h.pc
  have fp := h.fz 8208
  have HW : Hid (IntKind.u64.wrap ((M.pc : Int) + 1) = ((M.pc + 1 : Nat) : Int)) := Lib.hid (wrap_pc hpc)
  have H9 : Hid (IsMac (w.setCell ⟨b, 8208, none⟩ (.int .u64 (IntKind.u64.wrap ((M.pc : Int) + 1)))) b { M with pc := M.pc + 1 }) := Lib.hid (by rw [HW.out]; exact h.setPc (M.pc + 1))
  have K9 := Lib.hid (kept_set (S := fun k => k = b) (Kept.refl _ w) b 8208 rfl (.int .u64 (IntKind.u64.wrap ((M.pc : Int) + 1))))
  clear h hpc
  generalize hp : (M.pc : Int) = PC at *
  go_enter Tryd.func81, Tryd.ntmps81
  go_wp2_with (fail)
  subst hp
  exact bodyPost_ret (v := .tuple #[]) (by simp [results, Tryd.results81, go_sem]) rfl ⟨rfl, H9.out, K9.out⟩
set_option maxHeartbeats 1000000 in
set_option maxRecDepth 100000 in
theorem jump31_far (w : World) (b d a to : Nat) (M : Mac) (h : IsMac w b M) (hd : d < 16) (ha : a < 16) (hpc : M.pc < 8192) (hv : M.reg a ≠ 0) (hto : 8192 ≤ to) :
    Calls Tryd.prog 81 #[.pointer (some ⟨b, 0, none⟩), .int .i64 31, .int .i64 d, .int .i64 a, .int .u64 to] w fun e w' => e = .returned (.tuple #[]) ∧ IsMac w' b (stopM M 18446744073709551614) ∧ Kept (fun k => k = b) w w' := by
  have hai : (a : Int) < 16 := by omega
  have hdi : (d : Int) < 16 := by omega
  have ka := h.reg ha
  have t2 : ((M.reg a : Int) == 0) = false := by simp; omega
  clear hv
  have t1 : decide (8192 ≤ (to : Int)) = true := by simp; omega
  clear hto ha hd
  have HC := Lib.hid (stop_wrong w b M h)
  clear h hpc
  go_enter Tryd.func81, Tryd.ntmps81
  go_wp2_with (go_at_call 78; (with_reducible refine HC.out.mono ?_); rintro e y2 ⟨he, hm, hk⟩; obtain rfl : e = _ := he; have HM2 := Lib.hid hm; have HK2 := Lib.hid hk; clear hm hk)
  exact bodyPost_ret (v := .tuple #[]) (by simp [results, Tryd.results81, go_sem]) rfl ⟨rfl, HM2.out, HK2.out⟩
set_option maxHeartbeats 1000000 in
set_option maxRecDepth 100000 in
theorem jump31 (w : World) (b d a to : Nat) (M : Mac) (h : IsMac w b M) (hd : d < 16) (ha : a < 16) (hpc : M.pc < 8192) (hv : M.reg a ≠ 0) (hto : to < 8192) :
    Calls Tryd.prog 81 #[.pointer (some ⟨b, 0, none⟩), .int .i64 31, .int .i64 d, .int .i64 a, .int .u64 to] w fun e w' => e = .returned (.tuple #[]) ∧ IsMac w' b ({ M with pc := to }) ∧ Kept (fun k => k = b) w w' := by
  have hai : (a : Int) < 16 := by omega
  have hdi : (d : Int) < 16 := by omega
  have ka := h.reg ha
  have t2 : ((M.reg a : Int) == 0) = false := by simp; omega
  clear hv
  have t1 : decide (8192 ≤ (to : Int)) = false := by simp; omega
  clear hto ha hd
  have kp := h.pc
  have fp := h.fz 8208
  have H9 := Lib.hid (h.setPc (to))
  have K9 := Lib.hid (kept_set (S := fun k => k = b) (Kept.refl _ w) b 8208 rfl (.int .u64 ((to : Nat) : Int)))
  clear h hpc
  go_enter Tryd.func81, Tryd.ntmps81
  go_wp2_with (fail)
  exact bodyPost_end (v := .tuple #[]) (by simp [results, Tryd.results81, go_sem]) rfl ⟨rfl, H9.out, K9.out⟩
set_option maxHeartbeats 1000000 in
set_option maxRecDepth 100000 in
theorem jump33_far (w : World) (b d a to : Nat) (M : Mac) (h : IsMac w b M) (hd : d < 16) (ha : a < 16) (hpc : M.pc < 8192) (hto : 8192 ≤ M.reg a) :
    Calls Tryd.prog 81 #[.pointer (some ⟨b, 0, none⟩), .int .i64 33, .int .i64 d, .int .i64 a, .int .u64 to] w fun e w' => e = .returned (.tuple #[]) ∧ IsMac w' b (stopM M 18446744073709551614) ∧ Kept (fun k => k = b) w w' := by
  have hai : (a : Int) < 16 := by omega
  have hdi : (d : Int) < 16 := by omega
  have ka := h.reg ha
  have t1 : decide (8192 ≤ (M.reg a : Int)) = true := by simp; omega
  clear hto ha hd
  have HC := Lib.hid (stop_wrong w b M h)
  clear h hpc
  go_enter Tryd.func81, Tryd.ntmps81
  go_wp2_with (go_at_call 78; (with_reducible refine HC.out.mono ?_); rintro e y2 ⟨he, hm, hk⟩; obtain rfl : e = _ := he; have HM2 := Lib.hid hm; have HK2 := Lib.hid hk; clear hm hk)
  exact bodyPost_ret (v := .tuple #[]) (by simp [results, Tryd.results81, go_sem]) rfl ⟨rfl, HM2.out, HK2.out⟩
set_option maxHeartbeats 1000000 in
set_option maxRecDepth 100000 in
theorem jump33 (w : World) (b d a to : Nat) (M : Mac) (h : IsMac w b M) (hd : d < 16) (ha : a < 16) (hpc : M.pc < 8192) (hto : M.reg a < 8192) :
    Calls Tryd.prog 81 #[.pointer (some ⟨b, 0, none⟩), .int .i64 33, .int .i64 d, .int .i64 a, .int .u64 to] w fun e w' => e = .returned (.tuple #[]) ∧ IsMac w' b ({ M with pc := M.reg a }) ∧ Kept (fun k => k = b) w w' := by
  have hai : (a : Int) < 16 := by omega
  have hdi : (d : Int) < 16 := by omega
  have ka := h.reg ha
  have t1 : decide (8192 ≤ (M.reg a : Int)) = false := by simp; omega
  clear hto ha hd
  have kp := h.pc
  have fp := h.fz 8208
  have H9 := Lib.hid (h.setPc (M.reg a))
  have K9 := Lib.hid (kept_set (S := fun k => k = b) (Kept.refl _ w) b 8208 rfl (.int .u64 ((M.reg a : Nat) : Int)))
  clear h hpc
  go_enter Tryd.func81, Tryd.ntmps81
  go_wp2_with (fail)
  exact bodyPost_end (v := .tuple #[]) (by simp [results, Tryd.results81, go_sem]) rfl ⟨rfl, H9.out, K9.out⟩
set_option maxHeartbeats 1000000 in
set_option maxRecDepth 100000 in
theorem jump32_far (w : World) (b d a to : Nat) (M : Mac) (h : IsMac w b M) (hd : d < 16) (ha : a < 16) (hpc : M.pc < 8192) (hto : 8192 ≤ to) :
    Calls Tryd.prog 81 #[.pointer (some ⟨b, 0, none⟩), .int .i64 32, .int .i64 d, .int .i64 a, .int .u64 to] w fun e w' => e = .returned (.tuple #[]) ∧ IsMac w' b (stopM M 18446744073709551614) ∧ Kept (fun k => k = b) w w' := by
  have hai : (a : Int) < 16 := by omega
  have hdi : (d : Int) < 16 := by omega
  have ka := h.reg ha
  have t1 : decide (8192 ≤ (to : Int)) = true := by simp; omega
  clear hto ha hd
  have HC := Lib.hid (stop_wrong w b M h)
  clear h hpc
  go_enter Tryd.func81, Tryd.ntmps81
  go_wp2_with (go_at_call 78; (with_reducible refine HC.out.mono ?_); rintro e y2 ⟨he, hm, hk⟩; obtain rfl : e = _ := he; have HM2 := Lib.hid hm; have HK2 := Lib.hid hk; clear hm hk)
  exact bodyPost_ret (v := .tuple #[]) (by simp [results, Tryd.results81, go_sem]) rfl ⟨rfl, HM2.out, HK2.out⟩
set_option maxHeartbeats 1000000 in
set_option maxRecDepth 100000 in
theorem jump32 (w : World) (b d a to : Nat) (M : Mac) (h : IsMac w b M) (hd : d < 16) (ha : a < 16) (hpc : M.pc < 8192) (hto : to < 8192) :
    Calls Tryd.prog 81 #[.pointer (some ⟨b, 0, none⟩), .int .i64 32, .int .i64 d, .int .i64 a, .int .u64 to] w fun e w' => e = .returned (.tuple #[]) ∧ IsMac w' b ({ setR M d (M.pc + 1) with pc := to }) ∧ Kept (fun k => k = b) w w' := by
  have hai : (a : Int) < 16 := by omega
  have hdi : (d : Int) < 16 := by omega
  have ka := h.reg ha
  have t1 : decide (8192 ≤ (to : Int)) = false := by simp; omega
  have HDI := Lib.hid hd
  clear hto ha hd hdi
  have HH := Lib.hid h
  have HPC := Lib.hid hpc
  have HW : Hid (IntKind.u64.wrap ((M.pc : Int) + 1) = ((M.pc + 1 : Nat) : Int)) := Lib.hid (wrap_pc hpc)
  clear h hpc
  go_enter Tryd.func81, Tryd.ntmps81
  go_upto_region 11 with (fail)
  have HZ := Lib.hid (HH.out.kept (Wt.kept_drew w) id)
  have HS : Hid (IsMac (w.drew.setCell ⟨b, 8192 + d, none⟩ (.int .u64 (IntKind.u64.wrap ((M.pc : Int) + 1)))) b (setR M d (M.pc + 1))) := Lib.hid (by rw [HW.out]; exact HZ.out.setReg HDI.out _)
  have HK : Hid (Kept (fun k => k = b) w (w.drew.setCell ⟨b, 8192 + d, none⟩ (.int .u64 (IntKind.u64.wrap ((M.pc : Int) + 1))))) := Lib.hid (kept_set (S := fun k => k = b) (Kept.drew (Kept.refl _ w)) b _ rfl _)
  refine wp_region_oz (fun z : World => w.drew = z) 10 (.take 0 (.take 1 (.take 2 (.take 3 (.take 4 (.take 5 (.take 6 (.free 7 (.free 8 (.free 9 (.one 10 .done))))))))))) (by kernel_rfl) (by kernel_rfl) rfl ?_
  generalize w.drew = y0 at *
  refine oz_tk (some 42) (.pointer (some ⟨b, 0, none⟩)) rfl rfl (by go_simp) (fun _ _ => by simp [execOp, go_sem]) ?_
  simp only [Act.put, pS]
  refine oz_tk (some 43) (.int .i64 d) rfl rfl (by go_simp) (fun _ _ => by simp [execOp, go_sem]) ?_
  simp only [Act.put, pS]
  refine oz_tk (some 44) (.pointer (some ⟨b, 0, none⟩)) rfl rfl (by go_simp) (fun _ _ => by simp [execOp, go_sem]) ?_
  simp only [Act.put, pS]
  refine oz_tk (some 45) (.pointer (some ⟨b, 0, none⟩)) rfl rfl (by go_simp) (fun _ _ => by simp [execOp, go_sem]) ?_
  simp only [Act.put, pS]
  refine oz_tk (some 46) (.pointer (some ⟨b, 8208, none⟩)) rfl rfl (by go_simp) (fun _ _ => by simp [execOp, go_sem]) ?_
  simp only [Act.put, pS]
  refine oz_ld (some 47) 78 (.tmp 46) (.pointer (some ⟨b, 8208, none⟩)) (.int .u64 (M.pc : Int)) rfl rfl (by go_simp) rfl rfl (fun y hy => by have h := hy ▸ HZ.out.pc; simp [Instr.loadAt, go_sem, h, Tryd.underlying78]) ?_
  simp only [Act.put, pS]
  refine oz_tk (some 48) (.int .u64 (IntKind.u64.wrap ((M.pc : Int) + 1))) rfl rfl (by go_simp) (fun _ _ => by simp [execOp, go_sem]) ?_
  simp only [Act.put, pS]
  refine oz_fr (some 49) (.pointer (some ⟨b, 0, none⟩)) rfl rfl (by go_simp) (fun _ => by simp [execOp, go_sem]) ?_
  simp only [Act.put, pS]
  refine oz_fr (some 50) (.pointer (some ⟨b, 8192, none⟩)) rfl rfl (by go_simp) (fun _ => by simp [execOp, go_sem]) ?_
  simp only [Act.put, pS]
  refine oz_fr (some 51) (.pointer (some ⟨b, (8192 + d), none⟩)) rfl rfl (by go_simp) (fun _ => by have h := ix16 b d HDI.out; simp [execOp, go_sem, h, Result.andThen]) ?_
  simp only [Act.put, pS]
  have kd := HZ.out.reg HDI.out
  have fd := HZ.out.fz (8192 + d)
  refine oz_z rfl (by go_simp) fun K hK => ?_
  go_simp
  refine hK _ _ ?_
  clear hK K kd fd
  refine oz_done (NoPanic.normal ?_)
  generalize y0.setCell ⟨b, 8192 + d, none⟩ (.int .u64 (IntKind.u64.wrap ((M.pc : Int) + 1))) = y1 at *
  have kp := HS.out.pc
  have fp := HS.out.fz 8208
  have H9 := Lib.hid (HS.out.setPc to)
  have K9 := Lib.hid (kept_set (S := fun k => k = b) HK.out b 8208 rfl (.int .u64 (to : Int)))
  go_wp2_with (fail)
  exact bodyPost_end (v := .tuple #[]) (by simp [results, Tryd.results81, go_sem]) rfl ⟨rfl, H9.out, K9.out⟩
theorem jump_walk (w : World) (b op d a to : Nat) (M : Mac) (h : IsMac w b M) (hop : 29 ≤ op ∧ op ≤ 33) (hd : d < 16) (ha : a < 16) (hpc : M.pc < 8192) :
    Calls Tryd.prog 81 #[.pointer (some ⟨b, 0, none⟩), .int .i64 op, .int .i64 d, .int .i64 a, .int .u64 to] w fun e w' => e = .returned (.tuple #[]) ∧ IsMac w' b (jumpM M op d a to) ∧ Kept (fun k => k = b) w w' := by
  have ho : op = 29 ∨ op = 30 ∨ op = 31 ∨ op = 32 ∨ op = 33 := by omega
  clear hop
  rcases ho with rfl | rfl | rfl | rfl | rfl
  · by_cases hto : to < 8192
    · have e : jumpM M 29 d a to = { M with pc := to } := by unfold jumpM; rw [if_neg (by omega), if_neg (by simp; omega)]; rfl
      rw [e]; exact jump29 w b d a to M h hd ha hpc hto
    · have e : jumpM M 29 d a to = stopM M 18446744073709551614 := by unfold jumpM; rw [if_neg (by omega), if_pos (by simp; omega)]
      rw [e]; exact jump29_far w b d a to M h hd ha hpc (by omega)
  · by_cases hv : M.reg a = 0
    · by_cases hto : to < 8192
      · have e : jumpM M 30 d a to = { M with pc := to } := by unfold jumpM; rw [if_neg (by omega), if_neg (by simp; omega)]; rfl
        rw [e]; exact jump30 w b d a to M h hd ha hpc hv hto
      · have e : jumpM M 30 d a to = stopM M 18446744073709551614 := by unfold jumpM; rw [if_neg (by omega), if_pos (by simp; omega)]
        rw [e]; exact jump30_far w b d a to M h hd ha hpc hv (by omega)
    · have e : jumpM M 30 d a to = { M with pc := M.pc + 1 } := by unfold jumpM; rw [if_pos (.inl ⟨rfl, hv⟩)]
      rw [e]; exact jump30_no w b d a to M h hd ha hpc hv
  · by_cases hv : M.reg a = 0
    · have e : jumpM M 31 d a to = { M with pc := M.pc + 1 } := by unfold jumpM; rw [if_pos (.inr ⟨rfl, hv⟩)]
      rw [e]; exact jump31_no w b d a to M h hd ha hpc hv
    · by_cases hto : to < 8192
      · have e : jumpM M 31 d a to = { M with pc := to } := by unfold jumpM; rw [if_neg (by omega), if_neg (by simp; omega)]; rfl
        rw [e]; exact jump31 w b d a to M h hd ha hpc hv hto
      · have e : jumpM M 31 d a to = stopM M 18446744073709551614 := by unfold jumpM; rw [if_neg (by omega), if_pos (by simp; omega)]
        rw [e]; exact jump31_far w b d a to M h hd ha hpc hv (by omega)
  · by_cases hto : to < 8192
    · have e : jumpM M 32 d a to = { setR M d (M.pc + 1) with pc := to } := by unfold jumpM; rw [if_neg (by omega), if_neg (by simp; omega)]; rfl
      rw [e]; exact jump32 w b d a to M h hd ha hpc hto
    · have e : jumpM M 32 d a to = stopM M 18446744073709551614 := by unfold jumpM; rw [if_neg (by omega), if_pos (by simp; omega)]
      rw [e]; exact jump32_far w b d a to M h hd ha hpc (by omega)
  · by_cases hto : M.reg a < 8192
    · have e : jumpM M 33 d a to = { M with pc := M.reg a } := by unfold jumpM; rw [if_neg (by omega), if_neg (by simp; omega)]; rfl
      rw [e]; exact jump33 w b d a to M h hd ha hpc hto
    · have e : jumpM M 33 d a to = stopM M 18446744073709551614 := by unfold jumpM; rw [if_neg (by omega), if_pos (by simp; omega)]
      rw [e]; exact jump33_far w b d a to M h hd ha hpc (by omega)
end Vm
end Go.Proofs.YtdmffnjbholkkaaDoor
namespace Go.Proofs.YtdmffnjbholkkaaDoor
open Go.RowKit
set_option linter.unusedVariables false
set_option linter.unusedSimpArgs false
namespace Vm
open Kc
theorem undMac : Tryd.prog.underlying 87 = some (.struct (Tryd.prog.fieldsOf 87)) := by kernel_rfl
theorem stoodMac : Tryd.prog.stoodInHeld 87 = false := by kernel_rfl
theorem fieldsMac : (Tryd.prog.fieldsOf 87).toList.map (fun f => (f.type, f.offset)) = [(84, 0), (85, 8192), (78, 8208), (4, 8209), (78, 8210)] := by kernel_rfl
theorem eqFields_refl {P : Program} (w : World) (d : Nat) (xs : Array Value) : ∀ fs : List Field, (∀ f ∈ fs, ∃ v, (part f.type xs f.offset).run P w = .ok v w ∧ (Op.equalIn d f.type v v).run P w = .ok true w) → (Op.eqFields d xs xs fs).run P w = .ok true w
  | [], _ => by simp [Op.eqFields]
  | f :: fs, h => by
    obtain ⟨v, h1, h2⟩ := h f (by simp)
    have ih := eqFields_refl (P := P) w d xs fs fun g hg => h g (by simp [hg])
    simp only [Op.eqFields]
    split
    · simp [h1, h2, ih, Result.andThen]
    · exact ih
theorem aggMem (w : World) : (isAgg 84).run Tryd.prog w = .ok true w := by kernel_rfl
theorem aggReg (w : World) : (isAgg 85).run Tryd.prog w = .ok true w := by kernel_rfl
theorem aggW (w : World) : (isAgg 78).run Tryd.prog w = .ok false w := by kernel_rfl
theorem aggB (w : World) : (isAgg 4).run Tryd.prog w = .ok false w := by kernel_rfl
theorem szMem (w : World) : (sizeOf 84).run Tryd.prog w = .ok 8192 w := by kernel_rfl
theorem szReg (w : World) : (sizeOf 85).run Tryd.prog w = .ok 16 w := by kernel_rfl
theorem all_refl (n : Nat) (f : Nat → Int) : ((List.range n).all fun i => f i == f i) = true := by simp
theorem eqM_run (M : Mac) (w : World) : (Op.equalIn 10000 87 (.agg (tab 8211 (mc M))) (.agg (tab 8211 (mc M)))).run Tryd.prog w = .ok true w := by
  rw [run_equalIn_struct w 9999 _ _ _ undMac stoodMac]
  refine eqFields_refl w 9999 _ _ fun f hf => ?_
  have hm : (f.type, f.offset) ∈ (Tryd.prog.fieldsOf 87).toList.map (fun f => (f.type, f.offset)) := List.mem_map.2 ⟨f, hf, rfl⟩
  rw [fieldsMac] at hm
  simp only [List.mem_cons, Prod.mk.injEq, List.not_mem_nil, or_false] at hm
  rcases hm with ⟨h1, h2⟩ | ⟨h1, h2⟩ | ⟨h1, h2⟩ | ⟨h1, h2⟩ | ⟨h1, h2⟩ <;> rw [h1, h2]
  · refine ⟨.agg (tab 8192 fun i => .int .u64 (M.mem i)), ?_, ?_⟩
    · have e : (tab 8211 (mc M)).extract 0 (0 + 8192) = tab 8192 fun i => .int .u64 (M.mem i) := by
        rw [Mk.tab_extract _ _ _ (by decide)]
        exact tab_cong fun i hi => by unfold mc; rw [Nat.zero_add, if_pos hi]
      simp [part, aggMem, szMem, Result.andThen] at e ⊢
      exact e
    · have := run_equal_tab (P := Tryd.prog) w 9997 84 78 8192 .u64 undMem undU64 sizeU64 (fun i => M.mem i) (fun i => M.mem i)
      rw [all_refl] at this
      exact this
  · refine ⟨.agg (tab 16 fun i => .int .u64 (M.reg i)), ?_, ?_⟩
    · have e : (tab 8211 (mc M)).extract 8192 (8192 + 16) = tab 16 fun i => .int .u64 (M.reg i) := by
        rw [Mk.tab_extract _ _ _ (by decide)]
        exact tab_cong fun i hi => by unfold mc; rw [if_neg (by omega), if_pos (by omega), show 8192 + i - 8192 = i from by omega]
      simp [part, aggReg, szReg, Result.andThen] at e ⊢
      exact e
    · have := run_equal_tab (P := Tryd.prog) w 9997 85 78 16 .u64 undReg undU64 sizeU64 (fun i => M.reg i) (fun i => M.reg i)
      rw [all_refl] at this
      exact this
  · refine ⟨.int .u64 M.pc, ?_, ?_⟩
    · have := tab_at (mc M) (show 8208 < 8211 by decide)
      simp [part, aggW, Result.andThen, this]
      rfl
    · rw [run_equalIn_int w 9998 _ .u64 .u64 _ _ undU64]; simp
  · refine ⟨.bool M.halted, ?_, ?_⟩
    · have := tab_at (mc M) (show 8209 < 8211 by decide)
      simp [part, aggB, Result.andThen, this]
      rfl
    · rw [run_equalIn_bool' w 9998 _ _ _ Tryd.underlying4]; simp
  · refine ⟨.int .u64 M.exit, ?_, ?_⟩
    · have := tab_at (mc M) (show 8210 < 8211 by decide)
      simp [part, aggW, Result.andThen, this]
      rfl
    · rw [run_equalIn_int w 9998 _ .u64 .u64 _ _ undU64]; simp
theorem eqlM (M : Mac) (w : World) : (binOp .eql 87 (.agg (tab 8211 (mc M))) (.agg (tab 8211 (mc M)))).run Tryd.prog w = .ok (.bool true) w := by
  rw [run_eql_struct, eqM_run]; rfl
theorem neqM (M : Mac) (w : World) : (binOp .neq 87 (.agg (tab 8211 (mc M))) (.agg (tab 8211 (mc M)))).run Tryd.prog w = .ok (.bool false) w := by
  rw [run_neq_struct, eqM_run]; rfl
/-- A machine, loaded whole. -/
theorem loadMac {w : World} {b : Nat} {M : Mac} (h : IsMac w b M) : (Instr.loadAt 87 (.pointer (some ⟨b, 0, none⟩))).run Tryd.prog w = .ok (.agg (tab 8211 (mc M))) w := by
  refine run_loadAt_mid w b 0 _ ((List.range 8211).map (mc M)) _ (fun j v hv => ?_) undMac rfl (by rw [List.length_map, List.length_range]; exact infM')
  obtain ⟨hj, rfl⟩ := List.getElem?_eq_some_iff.1 hv
  simp only [List.length_map, List.length_range] at hj
  have := IsTab.cell h j hj
  simpa using this
theorem Step_walk (w : World) (b s : Nat) (R : World → Prop) (hC : Calls Tryd.prog 65 #[.pointer (some ⟨b, 0, none⟩), .pointer (some ⟨s, 0, none⟩)] w fun e w' => e = .returned (.tuple #[]) ∧ R w') :
    Calls Tryd.prog 36 #[.pointer (some ⟨b, 0, none⟩), .pointer (some ⟨s, 0, none⟩)] w fun e w' => e = .returned .nilIface ∧ R w' := by
  have HC := Lib.hid hC
  clear hC
  go_enter Tryd.func36, Tryd.ntmps36
  go_wp2_with (go_at_call 65; (with_reducible refine HC.out.mono ?_); rintro e y ⟨he, hr⟩; obtain rfl : e = _ := he; have HR := Lib.hid hr; clear hr HC)
  exact bodyPost_ret (v := .nilIface) (by simp [results, Tryd.results36, go_sem]) rfl ⟨rfl, HR.out⟩
end Vm
end Go.Proofs.YtdmffnjbholkkaaDoor
namespace Go.Proofs.YtdmffnjbholkkaaDoor
open Go.RowKit
set_option linter.unusedVariables false
set_option linter.unusedSimpArgs false
namespace Vm
open Kc
set_option maxHeartbeats 2000000 in
set_option maxRecDepth 100000 in
theorem step_jump (w : World) (b s : Nat) (M : Mac) (x : Nat) (h : Pre w b M x) (hop : 29 ≤ pOp x ∧ pOp x ≤ 33) :
    Calls Tryd.prog 65 #[.pointer (some ⟨b, 0, none⟩), .pointer (some ⟨s, 0, none⟩)] w fun e w' => e = .returned (.tuple #[]) ∧ IsMac w' b (jumpM M (pOp x) (pD x) (pA x) (wN (pN x))) ∧ Kept (fun k => k = b) w w' := by
  have k3 : w.cell? ⟨b, 8209, none⟩ = some (.bool false) := h.hh ▸ h.mac.halted
  have k2 := h.mac.pc
  have tpc : decide (8192 ≤ (M.pc : Int)) = false := by have := h.pc; simp; omega
  have HP := Lib.hid h
  have hxb : x < 18446744073709551616 := h.hx ▸ h.ok.mem _
  have HXB := Lib.hid hxb
  clear hxb
  have to0 : ((pOp x : Int) == 0) = false := by simp; omega
  have to1 : decide ((pOp x : Int) < 26) = false := by simp; omega
  have to2 : ((pOp x : Int) == 26) = false := by simp; omega
  have to3 : decide ((pOp x : Int) ≤ 28) = false := by simp; omega
  have to4 : decide ((pOp x : Int) ≤ 33) = true := by simp; omega
  have HO := Lib.hid hop
  clear hop
  clear h
  go_enter Tryd.func65, Tryd.ntmps65
  go_upto_region 3 with (fail)
  have NE : Nonempty (Wd (fun z => Below w.heap.size w z)) := ⟨⟨w.drew, (Below.refl _ _).drew⟩⟩
  have kpc : ∀ z : Wd (fun z => Below w.heap.size w z), z.val.cell? ⟨b, 8208, none⟩ = some (.int .u64 (M.pc : Int)) := fun z => keep1 z.ok HP.out.mac.pc
  have km : ∀ z : Wd (fun z => Below w.heap.size w z), z.val.cell? ⟨b, M.pc, none⟩ = some (.int .u64 (x : Int)) := fun z => keep1 z.ok (HP.out.hx ▸ HP.out.mac.mem HP.out.pc)
  have hlt : (M.pc : Int) < 8192 := by have := HP.out.pc; omega
  have hpv : Hid (partsV x = .tuple #[.int .i64 (pOp x), .int .i64 (pD x), .int .i64 (pA x), .int .i64 (pB x), .int .i64 (pC x), .int .i64 (pN x), .bool true]) := Lib.hid (if_pos HP.out.pok)
  have Q1 := Lib.hid (fun z : Wd (fun z => Below w.heap.size w z) => in_of_below z (fun y hb => bl z.ok hb) (hpv.out ▸ parts_walk z.val x HXB.out))
  clear k2 k3 tpc
  refine wp_region_in (fun z => Below w.heap.size w z) (by kernel_rfl) (by kernel_rfl) (Below.refl _ _).drew ?_
  repeat (go_big_quiet_step (with_reducible exact Q1.out _))
  refine wpQuiet_nil ?_
  rintro y0 ⟨z, rfl⟩
  have HZ := Lib.hid (HP.out.mac.below z.ok)
  have HB := Lib.hid z.ok
  clear Q1 kpc km NE hlt
  generalize z.val = y at *
  have HJ : Hid (Calls Tryd.prog 81 #[.pointer (some ⟨b, 0, none⟩), .int .i64 (pOp x), .int .i64 (pD x), .int .i64 (pA x), .int .u64 (IntKind.u64.wrap (pN x))] y fun e w' => e = .returned (.tuple #[]) ∧ IsMac w' b (jumpM M (pOp x) (pD x) (pA x) (wN (pN x))) ∧ Kept (fun k => k = b) y w') := Lib.hid (by rw [wN_eq]; exact jump_walk y b (pOp x) (pD x) (pA x) (wN (pN x)) M HZ.out HO.out (pD_lt x) (pA_lt x) HP.out.pc)
  go_wp2_with (go_at_call 81; (with_reducible refine HJ.out.mono ?_); rintro e y2 ⟨he, hm, hk⟩; obtain rfl : e = _ := he; have HM2 := Lib.hid hm; have HK2 := Lib.hid hk; clear hm hk HJ)
  exact bodyPost_end (v := .tuple #[]) (by simp [results, Tryd.results65, go_sem]) rfl ⟨rfl, HM2.out, (Kept.ofBelow HB.out).trans HK2.out fun _ _ h => h⟩
theorem lowB_le' {w : World} (ht : Laid.KTab w) : Wt.lowB ≤ w.heap.size := by
  have := inHeap (ht 0 (by decide))
  unfold Wt.lowB
  omega
/-- The parts of an instruction's word are the instruction's. -/
theorem parts_code' (op d a b c n : Int) (h : codeOk op d a b c n) : ∃ x : Nat, (x : Int) = codeW op d a b c n ∧ x < 18446744073709551616 ∧ pOk x = true ∧ (pOp x : Int) = op ∧ (pD x : Int) = d ∧ (pA x : Int) = a ∧ (pB x : Int) = b ∧ (pC x : Int) = c ∧ pN x = n := by
  unfold codeOk gd at h
  have hw : codeW op d a b c n = op * 72057594037927936 + d * 4503599627370496 + a * 281474976710656 + b * 17592186044416 + c * 1099511627776 + n % 4294967296 := rfl
  obtain ⟨x, hx⟩ := Int.eq_ofNat_of_zero_le (show 0 ≤ codeW op d a b c n by omega)
  rw [hw] at hx
  have e1 : (pOp x : Int) = op := by unfold pOp; omega
  have e2 : (pN0 x : Int) = 0 := by unfold pN0; omega
  refine ⟨x, by omega, by omega, ?_, e1, by unfold pD; omega, by unfold pA; omega, by unfold pB; omega, by unfold pC; omega, by unfold pN; omega⟩
  unfold pOk
  rw [Bool.and_eq_true]
  exact ⟨decide_eq_true (by omega), decide_eq_true (by omega)⟩
/-- An instruction whose parts are in range, and its word. -/
def insOf (op d a b c : Nat) (n : Int) : Ins := ⟨op, d, a, b, c, n, 0⟩
theorem m16_nat (d : Nat) (h : d < 16) : m16 d = d := by
  unfold m16
  have : IntKind.u64.wrap (d : Int) = d := by rw [IntWalk.u64_in _ (by omega)]
  rw [this, Int.tmod_eq_emod_of_nonneg (by omega)]
  unfold wrap64
  omega
structure WordIs (x op d a b c : Nat) (n : Int) : Prop where
  lt : x < 18446744073709551616
  ok : pOk x = true
  op : pOp x = op
  d : pD x = d
  a : pA x = a
  b : pB x = b
  c : pC x = c
  n : pN x = n
theorem word_of (op d a b c : Nat) (n : Int) (hop : op ≤ 35) (hd : d < 16) (ha : a < 16) (hb : b < 16) (hc : c < 16) (hn : -2147483648 ≤ n ∧ n < 2147483648) : WordIs (wordOf (insOf op d a b c n)) op d a b c n := by
  have hok : codeOk op d a b c n := by
    unfold codeOk gd
    omega
  obtain ⟨x, hx, hl, ho, h1, h2, h3, h4, h5, h6⟩ := parts_code' op d a b c n hok
  have e : wordOf (insOf op d a b c n) = x := by
    unfold wordOf insOf
    rw [m16_nat d hd, m16_nat a ha, m16_nat b hb, m16_nat c hc, if_pos hok, ← hx]
    omega
  rw [e]
  exact ⟨hl, ho, by omega, by omega, by omega, by omega, by omega, h6⟩
end Vm
end Go.Proofs.YtdmffnjbholkkaaDoor
namespace Go.Proofs.YtdmffnjbholkkaaDoor
open Go.RowKit
set_option linter.unusedVariables false
set_option linter.unusedSimpArgs false
namespace Vm
open Kc
theorem ixMem (b i : Nat) (hi : i < 8192) (w : World) : (Instr.indexAt 84 (.pointer (some ⟨b, 0, none⟩)) (.int .u64 i)).run Tryd.prog w = .ok (.pointer (some ⟨b, i, none⟩)) w := by
  have h1 : (i : Int) < 8192 := by omega
  simp [go_sem, h1, Tryd.underlying84]
/-- A load or a store, plain. -/
def accM (M : Mac) (op d b p : Nat) : Mac :=
  if 8192 ≤ p then stopM M 18446744073709551614
  else { (if op = 27 then setR M d (M.mem p) else setM M p (M.reg b)) with pc := M.pc + 1 }
set_option maxHeartbeats 2000000 in
set_option maxRecDepth 100000 in
theorem acc_ld (w : World) (b d a p : Nat) (M : Mac) (h : IsMac w b M) (hd : d < 16) (ha : a < 16) (hpc : M.pc < 8192) (hp : p < 8192) :
    Calls Tryd.prog 80 #[.pointer (some ⟨b, 0, none⟩), .int .i64 27, .int .i64 d, .int .i64 a, .int .u64 p] w fun e w' => e = .returned (.tuple #[]) ∧ IsMac w' b ({ setR M d (M.mem p) with pc := M.pc + 1 }) ∧ Kept (fun k => k = b) w w' := by
  have t1 : decide (8192 ≤ (p : Int)) = false := by simp; omega
  have HI := Lib.hid (And.intro hd (And.intro ha hp))
  have HH := Lib.hid h
  have HPC := Lib.hid hpc
  clear h hpc hd ha hp
  go_enter Tryd.func80, Tryd.ntmps80
  go_upto_region 3 with (fail)
  have HZ := Lib.hid (HH.out.kept (Wt.kept_drew w) id)
  have HS : Hid (IsMac (w.drew.setCell ⟨b, 8192 + d, none⟩ (.int .u64 (M.mem p : Int))) b (setR M d (M.mem p))) := Lib.hid (HZ.out.setReg HI.out.1 _)
  have HK : Hid (Kept (fun k => k = b) w (w.drew.setCell ⟨b, 8192 + d, none⟩ (.int .u64 (M.mem p : Int)))) := Lib.hid (kept_set (S := fun k => k = b) (Kept.drew (Kept.refl _ w)) b _ rfl _)
  refine wp_region_oz (fun z : World => w.drew = z) 11 (.take 0 (.take 1 (.take 2 (.take 3 (.take 4 (.take 5 (.take 6 (.take 7 (.free 8 (.free 9 (.free 10 (.one 11 .done)))))))))))) (by kernel_rfl) (by kernel_rfl) rfl ?_
  generalize w.drew = y0 at *
  refine oz_tk (some 16) (.pointer (some ⟨b, 0, none⟩)) rfl rfl (by go_simp) (fun _ _ => by simp [execOp, go_sem]) ?_
  simp only [Act.put, pS]
  refine oz_tk (some 17) (.int .i64 d) rfl rfl (by go_simp) (fun _ _ => by simp [execOp, go_sem]) ?_
  simp only [Act.put, pS]
  refine oz_tk (some 18) (.pointer (some ⟨b, 0, none⟩)) rfl rfl (by go_simp) (fun _ _ => by simp [execOp, go_sem]) ?_
  simp only [Act.put, pS]
  refine oz_tk (some 19) (.int .u64 p) rfl rfl (by go_simp) (fun _ _ => by simp [execOp, go_sem]) ?_
  simp only [Act.put, pS]
  refine oz_tk (some 20) (.pointer (some ⟨b, 0, none⟩)) rfl rfl (by go_simp) (fun _ _ => by simp [execOp, go_sem]) ?_
  simp only [Act.put, pS]
  refine oz_tk (some 21) (.pointer (some ⟨b, 0, none⟩)) rfl rfl (by go_simp) (fun _ _ => by simp [execOp, go_sem]) ?_
  simp only [Act.put, pS]
  refine oz_tk (some 22) (.pointer (some ⟨b, p, none⟩)) rfl rfl (by go_simp) (fun _ _ => by have h := ixMem b p HI.out.2.2; simp [execOp, go_sem, h, Result.andThen]) ?_
  simp only [Act.put, pS]
  refine oz_ld (some 23) 78 (.tmp 22) (.pointer (some ⟨b, p, none⟩)) (.int .u64 (M.mem p : Int)) rfl rfl (by go_simp) rfl rfl (fun y hy => by have h := hy ▸ HZ.out.mem HI.out.2.2; simp [Instr.loadAt, go_sem, h, Tryd.underlying78]) ?_
  simp only [Act.put, pS]
  refine oz_fr (some 24) (.pointer (some ⟨b, 0, none⟩)) rfl rfl (by go_simp) (fun _ => by simp [execOp, go_sem]) ?_
  simp only [Act.put, pS]
  refine oz_fr (some 25) (.pointer (some ⟨b, 8192, none⟩)) rfl rfl (by go_simp) (fun _ => by simp [execOp, go_sem]) ?_
  simp only [Act.put, pS]
  refine oz_fr (some 26) (.pointer (some ⟨b, (8192 + d), none⟩)) rfl rfl (by go_simp) (fun _ => by have h := ix16 b d HI.out.1; simp [execOp, go_sem, h, Result.andThen]) ?_
  simp only [Act.put, pS]
  have kd := HZ.out.reg HI.out.1
  have fd := HZ.out.fz (8192 + d)
  refine oz_z rfl (by go_simp) fun K hK => ?_
  go_simp
  refine hK _ _ ?_
  clear hK K kd fd
  refine oz_done (NoPanic.normal ?_)
  generalize y0.setCell ⟨b, 8192 + d, none⟩ (.int .u64 (M.mem p : Int)) = y1 at *
  have kp := HS.out.pc
  have fp := HS.out.fz 8208
  have HW : Hid (IntKind.u64.wrap ((M.pc : Int) + 1) = ((M.pc + 1 : Nat) : Int)) := Lib.hid (wrap_pc HPC.out)
  have H9 : Hid (IsMac (y1.setCell ⟨b, 8208, none⟩ (.int .u64 (IntKind.u64.wrap ((M.pc : Int) + 1)))) b { setR M d (M.mem p) with pc := M.pc + 1 }) := Lib.hid (by rw [HW.out]; exact HS.out.setPc (M.pc + 1))
  have K9 := Lib.hid (kept_set (S := fun k => k = b) HK.out b 8208 rfl (.int .u64 (IntKind.u64.wrap ((M.pc : Int) + 1))))
  have kp : y1.cell? ⟨b, 8208, none⟩ = some (.int .u64 (M.pc : Int)) := kp
  generalize hpc : (M.pc : Int) = PC at *
  go_wp2_with (fail)
  subst hpc
  exact bodyPost_end (v := .tuple #[]) (by simp [results, Tryd.results80, go_sem]) rfl ⟨rfl, H9.out, K9.out⟩
set_option maxHeartbeats 2000000 in
set_option maxRecDepth 100000 in
theorem acc_st (w : World) (b d a p : Nat) (M : Mac) (h : IsMac w b M) (hd : d < 16) (ha : a < 16) (hpc : M.pc < 8192) (hp : p < 8192) :
    Calls Tryd.prog 80 #[.pointer (some ⟨b, 0, none⟩), .int .i64 28, .int .i64 d, .int .i64 a, .int .u64 p] w fun e w' => e = .returned (.tuple #[]) ∧ IsMac w' b ({ setM M p (M.reg a) with pc := M.pc + 1 }) ∧ Kept (fun k => k = b) w w' := by
  have t1 : decide (8192 ≤ (p : Int)) = false := by simp; omega
  have HI := Lib.hid (And.intro hd (And.intro ha hp))
  have HH := Lib.hid h
  have HPC := Lib.hid hpc
  clear h hpc hd ha hp
  go_enter Tryd.func80, Tryd.ntmps80
  go_upto_region 4 with (fail)
  have HZ := Lib.hid (HH.out.kept (Wt.kept_drew w) id)
  have HS : Hid (IsMac (w.drew.setCell ⟨b, p, none⟩ (.int .u64 (M.reg a : Int))) b (setM M p (M.reg a))) := Lib.hid (HZ.out.setMem HI.out.2.2 _)
  have HK : Hid (Kept (fun k => k = b) w (w.drew.setCell ⟨b, p, none⟩ (.int .u64 (M.reg a : Int)))) := Lib.hid (kept_set (S := fun k => k = b) (Kept.drew (Kept.refl _ w)) b _ rfl _)
  refine wp_region_oz (fun z : World => w.drew = z) 11 (.take 0 (.take 1 (.take 2 (.take 3 (.take 4 (.take 5 (.take 6 (.take 7 (.free 8 (.free 9 (.free 10 (.one 11 .done)))))))))))) (by kernel_rfl) (by kernel_rfl) rfl ?_
  generalize w.drew = y0 at *
  refine oz_tk (some 27) (.pointer (some ⟨b, 0, none⟩)) rfl rfl (by go_simp) (fun _ _ => by simp [execOp, go_sem]) ?_
  simp only [Act.put, pS]
  refine oz_tk (some 28) (.int .u64 p) rfl rfl (by go_simp) (fun _ _ => by simp [execOp, go_sem]) ?_
  simp only [Act.put, pS]
  refine oz_tk (some 29) (.pointer (some ⟨b, 0, none⟩)) rfl rfl (by go_simp) (fun _ _ => by simp [execOp, go_sem]) ?_
  simp only [Act.put, pS]
  refine oz_tk (some 30) (.int .i64 a) rfl rfl (by go_simp) (fun _ _ => by simp [execOp, go_sem]) ?_
  simp only [Act.put, pS]
  refine oz_tk (some 31) (.pointer (some ⟨b, 0, none⟩)) rfl rfl (by go_simp) (fun _ _ => by simp [execOp, go_sem]) ?_
  simp only [Act.put, pS]
  refine oz_tk (some 32) (.pointer (some ⟨b, 8192, none⟩)) rfl rfl (by go_simp) (fun _ _ => by simp [execOp, go_sem]) ?_
  simp only [Act.put, pS]
  refine oz_tk (some 33) (.pointer (some ⟨b, (8192 + a), none⟩)) rfl rfl (by go_simp) (fun _ _ => by have h := ix16 b a HI.out.2.1; simp [execOp, go_sem, h, Result.andThen]) ?_
  simp only [Act.put, pS]
  refine oz_ld (some 34) 78 (.tmp 33) (.pointer (some ⟨b, (8192 + a), none⟩)) (.int .u64 (M.reg a : Int)) rfl rfl (by go_simp) rfl rfl (fun y hy => by have h := hy ▸ HZ.out.reg HI.out.2.1; simp [Instr.loadAt, go_sem, h, Tryd.underlying78]) ?_
  simp only [Act.put, pS]
  refine oz_fr (some 35) (.pointer (some ⟨b, 0, none⟩)) rfl rfl (by go_simp) (fun _ => by simp [execOp, go_sem]) ?_
  simp only [Act.put, pS]
  refine oz_fr (some 36) (.pointer (some ⟨b, 0, none⟩)) rfl rfl (by go_simp) (fun _ => by simp [execOp, go_sem]) ?_
  simp only [Act.put, pS]
  refine oz_fr (some 37) (.pointer (some ⟨b, p, none⟩)) rfl rfl (by go_simp) (fun _ => by have h := ixMem b p HI.out.2.2; simp [execOp, go_sem, h, Result.andThen]) ?_
  simp only [Act.put, pS]
  have kd := HZ.out.mem HI.out.2.2
  have fd := HZ.out.fz p
  refine oz_z rfl (by go_simp) fun K hK => ?_
  go_simp
  refine hK _ _ ?_
  clear hK K kd fd
  refine oz_done (NoPanic.normal ?_)
  generalize y0.setCell ⟨b, p, none⟩ (.int .u64 (M.reg a : Int)) = y1 at *
  have kp := HS.out.pc
  have fp := HS.out.fz 8208
  have HW : Hid (IntKind.u64.wrap ((M.pc : Int) + 1) = ((M.pc + 1 : Nat) : Int)) := Lib.hid (wrap_pc HPC.out)
  have H9 : Hid (IsMac (y1.setCell ⟨b, 8208, none⟩ (.int .u64 (IntKind.u64.wrap ((M.pc : Int) + 1)))) b { setM M p (M.reg a) with pc := M.pc + 1 }) := Lib.hid (by rw [HW.out]; exact HS.out.setPc (M.pc + 1))
  have K9 := Lib.hid (kept_set (S := fun k => k = b) HK.out b 8208 rfl (.int .u64 (IntKind.u64.wrap ((M.pc : Int) + 1))))
  have kp : y1.cell? ⟨b, 8208, none⟩ = some (.int .u64 (M.pc : Int)) := kp
  generalize hpc : (M.pc : Int) = PC at *
  go_wp2_with (fail)
  subst hpc
  exact bodyPost_end (v := .tuple #[]) (by simp [results, Tryd.results80, go_sem]) rfl ⟨rfl, H9.out, K9.out⟩
set_option maxHeartbeats 2000000 in
set_option maxRecDepth 100000 in
theorem acc_ldf (w : World) (b d a p : Nat) (M : Mac) (h : IsMac w b M) (hd : d < 16) (ha : a < 16) (hpc : M.pc < 8192) (hp : 8192 ≤ p) :
    Calls Tryd.prog 80 #[.pointer (some ⟨b, 0, none⟩), .int .i64 27, .int .i64 d, .int .i64 a, .int .u64 p] w fun e w' => e = .returned (.tuple #[]) ∧ IsMac w' b (stopM M 18446744073709551614) ∧ Kept (fun k => k = b) w w' := by
  have t1 : decide (8192 ≤ (p : Int)) = true := by simp; omega
  have HC := Lib.hid (stop_wrong w b M h)
  clear h hpc hd ha hp
  go_enter Tryd.func80, Tryd.ntmps80
  go_wp2_with (go_at_call 78; (with_reducible refine HC.out.mono ?_); rintro e y2 ⟨he, hm, hk⟩; obtain rfl : e = _ := he; have HM2 := Lib.hid hm; have HK2 := Lib.hid hk; clear hm hk)
  exact bodyPost_ret (v := .tuple #[]) (by simp [results, Tryd.results80, go_sem]) rfl ⟨rfl, HM2.out, HK2.out⟩
set_option maxHeartbeats 2000000 in
set_option maxRecDepth 100000 in
theorem acc_stf (w : World) (b d a p : Nat) (M : Mac) (h : IsMac w b M) (hd : d < 16) (ha : a < 16) (hpc : M.pc < 8192) (hp : 8192 ≤ p) :
    Calls Tryd.prog 80 #[.pointer (some ⟨b, 0, none⟩), .int .i64 28, .int .i64 d, .int .i64 a, .int .u64 p] w fun e w' => e = .returned (.tuple #[]) ∧ IsMac w' b (stopM M 18446744073709551614) ∧ Kept (fun k => k = b) w w' := by
  have t1 : decide (8192 ≤ (p : Int)) = true := by simp; omega
  have HC := Lib.hid (stop_wrong w b M h)
  clear h hpc hd ha hp
  go_enter Tryd.func80, Tryd.ntmps80
  go_wp2_with (go_at_call 78; (with_reducible refine HC.out.mono ?_); rintro e y2 ⟨he, hm, hk⟩; obtain rfl : e = _ := he; have HM2 := Lib.hid hm; have HK2 := Lib.hid hk; clear hm hk)
  exact bodyPost_ret (v := .tuple #[]) (by simp [results, Tryd.results80, go_sem]) rfl ⟨rfl, HM2.out, HK2.out⟩
theorem access_walk (w : World) (b op d a p : Nat) (M : Mac) (h : IsMac w b M) (hop : op = 27 ∨ op = 28) (hd : d < 16) (ha : a < 16) (hpc : M.pc < 8192) :
    Calls Tryd.prog 80 #[.pointer (some ⟨b, 0, none⟩), .int .i64 op, .int .i64 d, .int .i64 a, .int .u64 p] w fun e w' => e = .returned (.tuple #[]) ∧ IsMac w' b (accM M op d a p) ∧ Kept (fun k => k = b) w w' := by
  rcases Nat.lt_or_ge p 8192 with hp | hp
  · rcases hop with rfl | rfl
    · have e : accM M 27 d a p = { setR M d (M.mem p) with pc := M.pc + 1 } := by unfold accM; rw [if_neg (by omega)]; rfl
      rw [e]; exact acc_ld w b d a p M h hd ha hpc hp
    · have e : accM M 28 d a p = { setM M p (M.reg a) with pc := M.pc + 1 } := by unfold accM; rw [if_neg (by omega)]; rfl
      rw [e]; exact acc_st w b d a p M h hd ha hpc hp
  · have e : accM M op d a p = stopM M 18446744073709551614 := by unfold accM; rw [if_pos hp]
    rw [e]
    rcases hop with rfl | rfl
    · exact acc_ldf w b d a p M h hd ha hpc hp
    · exact acc_stf w b d a p M h hd ha hpc hp
set_option maxHeartbeats 2000000 in
set_option maxRecDepth 100000 in
theorem step_acc (w : World) (b s : Nat) (M : Mac) (x : Nat) (h : Pre w b M x) (hop : pOp x = 27 ∨ pOp x = 28) (p : Nat) (hp : IntKind.u64.wrap ((M.reg (pA x) : Int) + IntKind.u64.wrap (pN x)) = p) :
    Calls Tryd.prog 65 #[.pointer (some ⟨b, 0, none⟩), .pointer (some ⟨s, 0, none⟩)] w fun e w' => e = .returned (.tuple #[]) ∧ IsMac w' b (accM M (pOp x) (pD x) (pB x) p) ∧ Kept (fun k => k = b) w w' := by
  have k3 : w.cell? ⟨b, 8209, none⟩ = some (.bool false) := h.hh ▸ h.mac.halted
  have k2 := h.mac.pc
  have tpc : decide (8192 ≤ (M.pc : Int)) = false := by have := h.pc; simp; omega
  have HP := Lib.hid h
  have hxb : x < 18446744073709551616 := h.hx ▸ h.ok.mem _
  have HXB := Lib.hid hxb
  clear hxb
  have to0 : ((pOp x : Int) == 0) = false := by simp; omega
  have to1 : decide ((pOp x : Int) < 26) = false := by simp; omega
  have to2 : ((pOp x : Int) == 26) = false := by simp; omega
  have to3 : decide ((pOp x : Int) ≤ 28) = true := by simp; omega
  have HO := Lib.hid hop
  have HWP := Lib.hid hp
  clear hop hp
  clear h
  go_enter Tryd.func65, Tryd.ntmps65
  go_upto_region 3 with (fail)
  have NE : Nonempty (Wd (fun z => Below w.heap.size w z)) := ⟨⟨w.drew, (Below.refl _ _).drew⟩⟩
  have kpc : ∀ z : Wd (fun z => Below w.heap.size w z), z.val.cell? ⟨b, 8208, none⟩ = some (.int .u64 (M.pc : Int)) := fun z => keep1 z.ok HP.out.mac.pc
  have km : ∀ z : Wd (fun z => Below w.heap.size w z), z.val.cell? ⟨b, M.pc, none⟩ = some (.int .u64 (x : Int)) := fun z => keep1 z.ok (HP.out.hx ▸ HP.out.mac.mem HP.out.pc)
  have hlt : (M.pc : Int) < 8192 := by have := HP.out.pc; omega
  have hpv : Hid (partsV x = .tuple #[.int .i64 (pOp x), .int .i64 (pD x), .int .i64 (pA x), .int .i64 (pB x), .int .i64 (pC x), .int .i64 (pN x), .bool true]) := Lib.hid (if_pos HP.out.pok)
  have Q1 := Lib.hid (fun z : Wd (fun z => Below w.heap.size w z) => in_of_below z (fun y hb => bl z.ok hb) (hpv.out ▸ parts_walk z.val x HXB.out))
  clear k2 k3 tpc
  refine wp_region_in (fun z => Below w.heap.size w z) (by kernel_rfl) (by kernel_rfl) (Below.refl _ _).drew ?_
  repeat (go_big_quiet_step (with_reducible exact Q1.out _))
  refine wpQuiet_nil ?_
  rintro y0 ⟨z, rfl⟩
  have HZ := Lib.hid (HP.out.mac.below z.ok)
  have HB := Lib.hid z.ok
  clear Q1 kpc km NE hlt
  generalize z.val = y at *
  have ha : (pA x : Int) < 16 := by have := pA_lt x; omega
  have ka := HZ.out.reg (pA_lt x)
  have HJ := Lib.hid (access_walk y b (pOp x) (pD x) (pB x) p M HZ.out HO.out (pD_lt x) (pB_lt x) HP.out.pc)
  rw [← HWP.out] at HJ
  go_wp2_with (go_at_call 80; (with_reducible refine HJ.out.mono ?_); rintro e y2 ⟨he, hm, hk⟩; obtain rfl : e = _ := he; have HM2 := Lib.hid hm; have HK2 := Lib.hid hk; clear hm hk HJ)
  exact bodyPost_end (v := .tuple #[]) (by simp [results, Tryd.results65, go_sem]) rfl ⟨rfl, HM2.out, (Kept.ofBelow HB.out).trans HK2.out fun _ _ h => h⟩
end Vm
end Go.Proofs.YtdmffnjbholkkaaDoor
