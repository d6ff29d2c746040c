/-
  mootlaw10.Words. Written by genYj.py. Own work.
-/
import Derived.Test.YtdmffnjbholkkaaDoorYh
namespace Go.Proofs.YtdmffnjbholkkaaDoor
open Go.RowKit
set_option linter.unusedVariables false
set_option linter.unusedSimpArgs false
namespace Vm
open Kc
/-- An instruction as the statements hand it on. -/
structure Ins where
  op : Int
  d : Int
  a : Int
  b : Int
  c : Int
  n : Int
  raw : Nat
def insV (x : Ins) : List Value := [.int .i64 x.op, .int .i64 x.d, .int .i64 x.a, .int .i64 x.b, .int .i64 x.c, .int .i64 x.n, .int .u64 x.raw]
def IsIns (w : World) (b o n : Nat) (f : Nat → Ins) : Prop := ∀ j i v, j < n → (insV (f j))[i]? = some v → w.cell? ⟨b, o + j * 7 + i, none⟩ = some v
theorem IsIns.below {w w' : World} {b o n : Nat} {f : Nat → Ins} (h : IsIns w b o n f) (hb : Below w.heap.size w w') : IsIns w' b o n f := fun j i v h1 h2 => keep1 hb (h j i v h1 h2)
def m16 (z : Int) : Int := wrap64 ((IntKind.u64.wrap z).tmod 16)
def wordOf (x : Ins) : Nat := if codeOk x.op (m16 x.d) (m16 x.a) (m16 x.b) (m16 x.c) x.n then (codeW x.op (m16 x.d) (m16 x.a) (m16 x.b) (m16 x.c) x.n).toNat else x.raw
theorem codeW_nn {op d a b c n : Int} (h : codeOk op d a b c n) : ((codeW op d a b c n).toNat : Int) = codeW op d a b c n := by
  unfold codeOk gd at h
  unfold codeW
  omega
theorem undIns : Tryd.prog.underlying 82 = some (.struct (Tryd.prog.fieldsOf 82)) := by kernel_rfl
theorem infIns : (Tryd.prog.info? 82).map (·.size) = some 7 := by kernel_rfl
theorem loadIns {w : World} {b o n : Nat} {f : Nat → Ins} (h : IsIns w b o n f) {j : Nat} (hj : j < n) : (Instr.loadAt 82 (.pointer (some ⟨b, o + j * 7, none⟩))).run Tryd.prog w = .ok (.agg (insV (f j)).toArray) w := by
  refine run_loadAt_mid w b (o + j * 7) _ (insV (f j)) _ (fun i v hv => h j i v hj hv) undIns rfl (by rw [infIns]; rfl)
/-- What the loop keeps: the words so far. -/
structure Wl (W : World) (b o n : Nat) (f : Nat → Ins) (j : Nat) (V : Value) (y : World) : Prop where
  ins : IsIns y b o n f
  row : y.ownsRow W.heap.size 78 1 V j ((List.range j).map fun i => wv' (wordOf (f i)))
  below : Below W.heap.size W y
  lt : b < W.heap.size
theorem Wl.below' {W y y' : World} {b o n j : Nat} {f : Nat → Ins} {V : Value} (h : Wl W b o n f j V y) (hb : Below y.heap.size y y') : Wl W b o n f j V y' :=
  ⟨h.ins.below hb, (Kept.ofBelow (S := fun _ => False) hb).row h.row (fun _ _ h => h), bl h.below hb, h.lt⟩
theorem Wl.grown {W y y' : World} {b o n j : Nat} {f : Nat → Ins} {V V' : Value} (h : Wl W b o n f j V y) (x : Int) (hx : x = (wordOf (f j) : Int))
    (hr : y'.ownsRow W.heap.size 78 1 V' (j + 1) ((List.range j).map (fun i => wv' (wordOf (f i))) ++ [.int .u64 x])) (hg : y.grownBy y' V.ownBlock) : Wl W b o n f (j + 1) V' y' := by
  have hne : ∀ k, V.ownBlock = some k → W.heap.size ≤ k := fun k hk => owns_base h.row hk
  have hb := below_grown (Nat.le_refl _) h.below hg hne
  refine ⟨fun k i v h1 h2 => ?_, ?_, hb, h.lt⟩
  · have := h.ins k i v h1 h2
    rw [World.cell?_of_block (w := y) (hg.block b (inHeap this) (fun e => by have := hne b e.symm; have := h.lt; omega))]
    exact this
  · rw [List.range_succ, List.map_append, List.map_singleton]
    rw [hx] at hr
    exact hr
set_option maxHeartbeats 2000000 in
set_option maxRecDepth 100000 in
theorem words_walk (w : World) (b o n c : Nat) (f : Nat → Ins) (h : IsIns w b o n f) (hlt : b < w.heap.size) (hn : n ≤ 8192) :
    Calls Tryd.prog 40 #[.slice (some ⟨b, o, none⟩) n c] w fun e w' => ∃ V, e = .returned V ∧ Wl w b o n f n V w' := by
  obtain ⟨i0, hi0⟩ := infoW
  have HI := Lib.hid hi0
  have H0 : Hid (Wl w b o n f 0 (.slice none 0 0) w) := Lib.hid ⟨h, World.ownsRow_nil _ _ _ _, Below.refl _ _, hlt⟩
  have HN := Lib.hid hn
  clear h hlt hi0 hn
  go_enter Tryd.func40, Tryd.ntmps40
  go_upto_region 3 with (fail)
  go_loopw [10, 3] (fun t V y => ∃ j : Nat, t = .int .i64 j ∧ Hid (j ≤ n ∧ Wl w b o n f j V y)) (fun t _ _ => n - (intOf t).toNat)
  case atStart => exact ⟨0, rfl, Lib.hid ⟨Nat.zero_le _, H0.out⟩⟩
  case round =>
    obtain ⟨j, rfl, hp⟩ := hrel
    have HP := Lib.hid hp.out
    clear hp H0
    by_cases hlt : j < n
    · have t1 : decide (j < n) = true := by simp; omega
      have t2 : decide (8192 ≤ (j : Int)) = false := by have := HN.out; simp; omega
      have hj0 : (j : Int) < (n : Int) := by omega
      have HJ : Hid (j < n ∧ wrap64 ((j : Int) + 1) = ((j + 1 : Nat) : Int)) := Lib.hid ⟨hlt, wrap_up j (by have := HN.out; omega)⟩
      have HL := Lib.hid (loadIns HP.out.2.ins hlt)
      generalize hx : f j = x at *
      have HX := Lib.hid hx
      clear hlt hx
      unfold insV at HL
      go_upto_region 5 with ((with_reducible refine wpList_loadE (P := Tryd.prog) (w := wr) (ty := 82) (x := .tmp 13) (p := .pointer (some ⟨b, o + j * 7, none⟩)) (v := .agg #[.int .i64 x.op, .int .i64 x.d, .int .i64 x.a, .int .i64 x.b, .int .i64 x.c, .int .i64 x.n, .int .u64 x.raw]) ?_ ?_ ?_ HL.out ?_); (· exact rfl); (· exact rfl); (· exact rfl))
      have HP1 := Lib.hid (HP.out.2.below' ((Below.refl wr.heap.size wr).alloc (Nat.le_refl _) (.cells #[.int .i64 x.op, .int .i64 x.d, .int .i64 x.a, .int .i64 x.b, .int .i64 x.c, .int .i64 x.n, .int .u64 x.raw] 82)))
      have HD : Hid (∀ i v, (insV x)[i]? = some v → (wr.alloc (.cells #[.int .i64 x.op, .int .i64 x.d, .int .i64 x.a, .int .i64 x.b, .int .i64 x.c, .int .i64 x.n, .int .u64 x.raw] 82)).cell? ⟨wr.heap.size, i, none⟩ = some v) := Lib.hid (fun i v hv => by
        rw [cell_of_row _ _ i _ _ _ (heap_alloc_new wr _)]
        simpa [insV] using hv)
      clear HP HL
      generalize wr.alloc (.cells #[.int .i64 x.op, .int .i64 x.d, .int .i64 x.a, .int .i64 x.b, .int .i64 x.c, .int .i64 x.n, .int .u64 x.raw] 82) = y1 at *
      generalize wr.heap.size = qa at *
      have c0 : y1.cell? ⟨qa, 0, none⟩ = some (.int .i64 x.op) := HD.out 0 _ rfl
      have c1 : y1.cell? ⟨qa, 1, none⟩ = some (.int .i64 x.d) := HD.out 1 _ rfl
      have c2 : y1.cell? ⟨qa, 2, none⟩ = some (.int .i64 x.a) := HD.out 2 _ rfl
      have c3 : y1.cell? ⟨qa, 3, none⟩ = some (.int .i64 x.b) := HD.out 3 _ rfl
      have c4 : y1.cell? ⟨qa, 4, none⟩ = some (.int .i64 x.c) := HD.out 4 _ rfl
      have c5 : y1.cell? ⟨qa, 5, none⟩ = some (.int .i64 x.n) := HD.out 5 _ rfl
      have c6 : y1.cell? ⟨qa, 6, none⟩ = some (.int .u64 x.raw) := HD.out 6 _ rfl
      by_cases hc : codeOk x.op (m16 x.d) (m16 x.a) (m16 x.b) (m16 x.c) x.n
      · have HC : Hid (Calls Tryd.prog 43 #[.int .i64 x.op, .int .i64 (wrap64 ((IntKind.u64.wrap x.d).tmod 16)), .int .i64 (wrap64 ((IntKind.u64.wrap x.a).tmod 16)), .int .i64 (wrap64 ((IntKind.u64.wrap x.b).tmod 16)), .int .i64 (wrap64 ((IntKind.u64.wrap x.c).tmod 16)), .int .i64 x.n] y1 fun e w' => e = .returned (.tuple #[.int .u64 (codeW x.op (m16 x.d) (m16 x.a) (m16 x.b) (m16 x.c) x.n), .int .i64 0]) ∧ Below y1.heap.size y1 w') :=
          Lib.hid ((show codeR x.op (m16 x.d) (m16 x.a) (m16 x.b) (m16 x.c) x.n = _ from if_pos hc) ▸ rcode_walk y1 x.op (m16 x.d) (m16 x.a) (m16 x.b) (m16 x.c) x.n)
        have HW : Hid (codeW x.op (m16 x.d) (m16 x.a) (m16 x.b) (m16 x.c) x.n = (wordOf (f j) : Int)) := Lib.hid (by rw [HX.out]; unfold wordOf; rw [if_pos hc]; exact (codeW_nn hc).symm)
        clear hc
        go_upto_region 7 with (go_at_call 43; (with_reducible refine HC.out.mono ?_); rintro e y2 ⟨he, hy⟩; obtain rfl : e = _ := he; have k6 := keep1 hy c6; have HP2 := Lib.hid (HP1.out.below' hy); clear hy)
        clear c0 c1 c2 c3 c4 c5 c6 HC
        generalize hX : codeW x.op (m16 x.d) (m16 x.a) (m16 x.b) (m16 x.c) x.n = X at *
        clear hX
        have HP3 := Lib.hid (HP2.out.below' ((Below.refl y2.heap.size y2).alloc (Nat.le_refl _) (.cells #[.int .u64 X] 78)))
        have HQ : Hid (w.heap.size ≤ (y2.alloc (.cells #[.int .u64 X] 78)).heap.size) := Lib.hid HP3.out.below.size
        have HBD : Hid (j + 1 ≤ maxLen ∧ (j + 1) * 8 ≤ 140737488355328) := Lib.hid ⟨by have := HJ.out.1; have := HN.out; unfold maxLen; omega, by have := HJ.out.1; have := HN.out; omega⟩
        have hw1 := HJ.out.2
        go_wp2_with (refine wpList_append_at _ rfl (.tmp 49) (.tmp 51) 93 rfl w.heap.size 78 i0 (.int .u64 0) 1 8 undW HI.out rfl (by decide) u3 j ((List.range j).map fun i => wv' (wordOf (f i))) rfl HP3.out.row ⟨y2.heap.size, 0, none⟩ 1 1 [.int .u64 X] rfl rfl (one_at rfl _ _) (by intro u hu; simp at hu; subst hu; rfl) HBD.out.1 HBD.out.2 HQ.out ?_; intro V3 y3 hown3 hgr3 hat3; have HF3 := Lib.hid (HP3.out.grown X HW.out hown3 hgr3); clear hown3 hgr3 hat3)
        go_roundw
        case rel => exact ⟨j + 1, by go_num, Lib.hid ⟨HJ.out.1, HF3.out⟩⟩
        case measure => exact meas_loop HJ.out.1 HJ.out.2
      · have HC : Hid (Calls Tryd.prog 43 #[.int .i64 x.op, .int .i64 (wrap64 ((IntKind.u64.wrap x.d).tmod 16)), .int .i64 (wrap64 ((IntKind.u64.wrap x.a).tmod 16)), .int .i64 (wrap64 ((IntKind.u64.wrap x.b).tmod 16)), .int .i64 (wrap64 ((IntKind.u64.wrap x.c).tmod 16)), .int .i64 x.n] y1 fun e w' => e = .returned (.tuple #[.int .u64 0, .int .i64 2]) ∧ Below y1.heap.size y1 w') :=
          Lib.hid ((show codeR x.op (m16 x.d) (m16 x.a) (m16 x.b) (m16 x.c) x.n = _ from if_neg hc) ▸ rcode_walk y1 x.op (m16 x.d) (m16 x.a) (m16 x.b) (m16 x.c) x.n)
        have HW : Hid ((x.raw : Int) = (wordOf (f j) : Int)) := Lib.hid (by rw [HX.out]; unfold wordOf; rw [if_neg hc])
        clear hc
        go_upto_region 7 with (go_at_call 43; (with_reducible refine HC.out.mono ?_); rintro e y2 ⟨he, hy⟩; obtain rfl : e = _ := he; have k6 := keep1 hy c6; have HP2 := Lib.hid (HP1.out.below' hy); clear hy)
        clear c0 c1 c2 c3 c4 c5 c6 HC
        generalize hX : (x.raw : Int) = X at *
        clear hX
        have HP3 := Lib.hid (HP2.out.below' ((Below.refl y2.heap.size y2).alloc (Nat.le_refl _) (.cells #[.int .u64 X] 78)))
        have HQ : Hid (w.heap.size ≤ (y2.alloc (.cells #[.int .u64 X] 78)).heap.size) := Lib.hid HP3.out.below.size
        have HBD : Hid (j + 1 ≤ maxLen ∧ (j + 1) * 8 ≤ 140737488355328) := Lib.hid ⟨by have := HJ.out.1; have := HN.out; unfold maxLen; omega, by have := HJ.out.1; have := HN.out; omega⟩
        have hw1 := HJ.out.2
        go_wp2_with (refine wpList_append_at _ rfl (.tmp 49) (.tmp 51) 93 rfl w.heap.size 78 i0 (.int .u64 0) 1 8 undW HI.out rfl (by decide) u3 j ((List.range j).map fun i => wv' (wordOf (f i))) rfl HP3.out.row ⟨y2.heap.size, 0, none⟩ 1 1 [.int .u64 X] rfl rfl (one_at rfl _ _) (by intro u hu; simp at hu; subst hu; rfl) HBD.out.1 HBD.out.2 HQ.out ?_; intro V3 y3 hown3 hgr3 hat3; have HF3 := Lib.hid (HP3.out.grown X HW.out hown3 hgr3); clear hown3 hgr3 hat3)
        go_roundw
        case rel => exact ⟨j + 1, by go_num, Lib.hid ⟨HJ.out.1, HF3.out⟩⟩
        case measure => exact meas_loop HJ.out.1 HJ.out.2
    · obtain rfl : j = n := by have := HP.out.1; omega
      have t1 : decide (j < j) = false := by simp
      clear hlt
      go_wp2_with (fail)
      exact bodyPost_ret (v := u3) (by simp [results, Tryd.results40, go_sem]) rfl ⟨u3, rfl, HP.out.2⟩
end Vm
end Go.Proofs.YtdmffnjbholkkaaDoor
