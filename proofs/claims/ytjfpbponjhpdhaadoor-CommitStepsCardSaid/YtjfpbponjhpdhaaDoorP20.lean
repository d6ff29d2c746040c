/- Merged of Ja. Own work. -/
import Derived.Test.YtjfpbponjhpdhaaDoorP19
import Derived.Laws.CopyOwn
namespace Go.Proofs.YtjfpbponjhpdhaaDoor
open Go.RowKit Go.ChangeShapes
set_option linter.unusedVariables false
set_option linter.unusedSimpArgs false
namespace Vm
open Kc Mk Wt
set_option maxHeartbeats 2000000 in
set_option maxRecDepth 100000 in
theorem words_any (w : World) (b o n c : Nat) (f : Nat → Ins) (h : IsIns w b o n f) (hlt : b < w.heap.size) (N : Nat) (hn : N ≤ 8192 ∧ N ≤ n ∧ (N = n ∨ N = 8192) ∧ n ≤ maxLen) :
    Calls Tryd.prog 8 #[.slice (some ⟨b, o, none⟩) n c] w fun e w' => ∃ V, e = .returned V ∧ Wl w b o n f N V w' := by
  obtain ⟨i0, hi0⟩ := infoW
  have HI := Lib.hid hi0
  have H0 : Hid (Wl w b o n f 0 (.slice none 0 0) w) := Lib.hid ⟨h, World.ownsRow_nil _ _ _ _, Below.refl _ _, hlt⟩
  have HN := Lib.hid hn
  clear h hlt hi0 hn
  go_enter Tryd.func8, Tryd.ntmps8
  go_upto_region 3 with (fail)
  go_loopw [10, 3] (fun t V y => ∃ j : Nat, t = .int .i64 j ∧ Hid (j ≤ N ∧ Wl w b o n f j V y)) (fun t _ _ => N - (intOf t).toNat)
  case atStart => exact ⟨0, rfl, Lib.hid ⟨Nat.zero_le _, H0.out⟩⟩
  case round =>
    obtain ⟨j, rfl, hp⟩ := hrel
    have HP := Lib.hid hp.out
    clear hp H0
    by_cases hlt : j < N
    · have hjn : j < n := by have := HN.out.2.1; omega
      have t1 : decide (j < n) = true := by simp; omega
      have t2 : decide (8192 ≤ (j : Int)) = false := by have := HN.out; simp; omega
      have hj0 : (j : Int) < (n : Int) := by omega
      have HJ : Hid (j < N ∧ wrap64 ((j : Int) + 1) = ((j + 1 : Nat) : Int)) := Lib.hid ⟨hlt, wrap_up j (by have := HN.out; omega)⟩
      have HL := Lib.hid (loadIns HP.out.2.ins hjn)
      generalize hx : f j = x at *
      have HX := Lib.hid hx
      clear hlt hx hjn
      unfold insV at HL
      go_upto_region 5 with ((with_reducible refine wpList_loadE (P := Tryd.prog) (w := wr) (ty := 89) (x := .tmp 13) (p := .pointer (some ⟨b, o + j * 7, none⟩)) (v := .agg #[.int .i64 x.op, .int .i64 x.d, .int .i64 x.a, .int .i64 x.b, .int .i64 x.c, .int .i64 x.n, .int .u64 x.raw]) ?_ ?_ ?_ HL.out ?_); (· exact rfl); (· exact rfl); (· exact rfl))
      have HP1 := Lib.hid (HP.out.2.below' ((Below.refl wr.heap.size wr).alloc (Nat.le_refl _) (.cells #[.int .i64 x.op, .int .i64 x.d, .int .i64 x.a, .int .i64 x.b, .int .i64 x.c, .int .i64 x.n, .int .u64 x.raw] 89)))
      have HD : Hid (∀ i v, (insV x)[i]? = some v → (wr.alloc (.cells #[.int .i64 x.op, .int .i64 x.d, .int .i64 x.a, .int .i64 x.b, .int .i64 x.c, .int .i64 x.n, .int .u64 x.raw] 89)).cell? ⟨wr.heap.size, i, none⟩ = some v) := Lib.hid (fun i v hv => by
        rw [cell_of_row _ _ i _ _ _ (heap_alloc_new wr _)]
        simpa [insV] using hv)
      clear HP HL
      generalize wr.alloc (.cells #[.int .i64 x.op, .int .i64 x.d, .int .i64 x.a, .int .i64 x.b, .int .i64 x.c, .int .i64 x.n, .int .u64 x.raw] 89) = y1 at *
      generalize wr.heap.size = qa at *
      have c0 : y1.cell? ⟨qa, 0, none⟩ = some (.int .i64 x.op) := HD.out 0 _ rfl
      have c1 : y1.cell? ⟨qa, 1, none⟩ = some (.int .i64 x.d) := HD.out 1 _ rfl
      have c2 : y1.cell? ⟨qa, 2, none⟩ = some (.int .i64 x.a) := HD.out 2 _ rfl
      have c3 : y1.cell? ⟨qa, 3, none⟩ = some (.int .i64 x.b) := HD.out 3 _ rfl
      have c4 : y1.cell? ⟨qa, 4, none⟩ = some (.int .i64 x.c) := HD.out 4 _ rfl
      have c5 : y1.cell? ⟨qa, 5, none⟩ = some (.int .i64 x.n) := HD.out 5 _ rfl
      have c6 : y1.cell? ⟨qa, 6, none⟩ = some (.int .u64 x.raw) := HD.out 6 _ rfl
      by_cases hc : codeOk x.op (m16 x.d) (m16 x.a) (m16 x.b) (m16 x.c) x.n
      · have HC : Hid (Calls Tryd.prog 31 #[.int .i64 x.op, .int .i64 (wrap64 ((IntKind.u64.wrap x.d).tmod 16)), .int .i64 (wrap64 ((IntKind.u64.wrap x.a).tmod 16)), .int .i64 (wrap64 ((IntKind.u64.wrap x.b).tmod 16)), .int .i64 (wrap64 ((IntKind.u64.wrap x.c).tmod 16)), .int .i64 x.n] y1 fun e w' => e = .returned (.tuple #[.int .u64 (codeW x.op (m16 x.d) (m16 x.a) (m16 x.b) (m16 x.c) x.n), .int .i64 0]) ∧ Below y1.heap.size y1 w') :=
          Lib.hid ((show codeR x.op (m16 x.d) (m16 x.a) (m16 x.b) (m16 x.c) x.n = _ from if_pos hc) ▸ rcode_walk y1 x.op (m16 x.d) (m16 x.a) (m16 x.b) (m16 x.c) x.n)
        have HW : Hid (codeW x.op (m16 x.d) (m16 x.a) (m16 x.b) (m16 x.c) x.n = (wordOf (f j) : Int)) := Lib.hid (by rw [HX.out]; unfold wordOf; rw [if_pos hc]; exact (codeW_nn hc).symm)
        clear hc
        go_upto_region 7 with (go_at_call 31; (with_reducible refine HC.out.mono ?_); rintro e y2 ⟨he, hy⟩; obtain rfl : e = _ := he; have k6 := keep1 hy c6; have HP2 := Lib.hid (HP1.out.below' hy); clear hy)
        clear c0 c1 c2 c3 c4 c5 c6 HC
        generalize hX : codeW x.op (m16 x.d) (m16 x.a) (m16 x.b) (m16 x.c) x.n = X at *
        clear hX
        have HP3 := Lib.hid (HP2.out.below' ((Below.refl y2.heap.size y2).alloc (Nat.le_refl _) (.cells #[.int .u64 X] 33)))
        have HQ : Hid (w.heap.size ≤ (y2.alloc (.cells #[.int .u64 X] 33)).heap.size) := Lib.hid HP3.out.below.size
        have HBD : Hid (j + 1 ≤ maxLen ∧ (j + 1) * 8 ≤ 140737488355328) := Lib.hid ⟨by have := HJ.out.1; have := HN.out; unfold maxLen; omega, by have := HJ.out.1; have := HN.out; omega⟩
        have hw1 := HJ.out.2
        go_wp2_with (refine wpList_append_at _ rfl (.tmp 49) (.tmp 51) 23 rfl w.heap.size 33 i0 (.int .u64 0) 1 8 undW HI.out rfl (by decide) u3 j ((List.range j).map fun i => wv' (wordOf (f i))) rfl HP3.out.row ⟨y2.heap.size, 0, none⟩ 1 1 [.int .u64 X] rfl rfl (one_at rfl _ _) (by intro u hu; simp at hu; subst hu; rfl) HBD.out.1 HBD.out.2 HQ.out ?_; intro V3 y3 hown3 hgr3 hat3; have HF3 := Lib.hid (HP3.out.grown X HW.out hown3 hgr3); clear hown3 hgr3 hat3)
        go_roundw
        case rel => exact ⟨j + 1, by go_num, Lib.hid ⟨HJ.out.1, HF3.out⟩⟩
        case measure => exact meas_loop HJ.out.1 HJ.out.2
      · have HC : Hid (Calls Tryd.prog 31 #[.int .i64 x.op, .int .i64 (wrap64 ((IntKind.u64.wrap x.d).tmod 16)), .int .i64 (wrap64 ((IntKind.u64.wrap x.a).tmod 16)), .int .i64 (wrap64 ((IntKind.u64.wrap x.b).tmod 16)), .int .i64 (wrap64 ((IntKind.u64.wrap x.c).tmod 16)), .int .i64 x.n] y1 fun e w' => e = .returned (.tuple #[.int .u64 0, .int .i64 2]) ∧ Below y1.heap.size y1 w') :=
          Lib.hid ((show codeR x.op (m16 x.d) (m16 x.a) (m16 x.b) (m16 x.c) x.n = _ from if_neg hc) ▸ rcode_walk y1 x.op (m16 x.d) (m16 x.a) (m16 x.b) (m16 x.c) x.n)
        have HW : Hid ((x.raw : Int) = (wordOf (f j) : Int)) := Lib.hid (by rw [HX.out]; unfold wordOf; rw [if_neg hc])
        clear hc
        go_upto_region 7 with (go_at_call 31; (with_reducible refine HC.out.mono ?_); rintro e y2 ⟨he, hy⟩; obtain rfl : e = _ := he; have k6 := keep1 hy c6; have HP2 := Lib.hid (HP1.out.below' hy); clear hy)
        clear c0 c1 c2 c3 c4 c5 c6 HC
        generalize hX : (x.raw : Int) = X at *
        clear hX
        have HP3 := Lib.hid (HP2.out.below' ((Below.refl y2.heap.size y2).alloc (Nat.le_refl _) (.cells #[.int .u64 X] 33)))
        have HQ : Hid (w.heap.size ≤ (y2.alloc (.cells #[.int .u64 X] 33)).heap.size) := Lib.hid HP3.out.below.size
        have HBD : Hid (j + 1 ≤ maxLen ∧ (j + 1) * 8 ≤ 140737488355328) := Lib.hid ⟨by have := HJ.out.1; have := HN.out; unfold maxLen; omega, by have := HJ.out.1; have := HN.out; omega⟩
        have hw1 := HJ.out.2
        go_wp2_with (refine wpList_append_at _ rfl (.tmp 49) (.tmp 51) 23 rfl w.heap.size 33 i0 (.int .u64 0) 1 8 undW HI.out rfl (by decide) u3 j ((List.range j).map fun i => wv' (wordOf (f i))) rfl HP3.out.row ⟨y2.heap.size, 0, none⟩ 1 1 [.int .u64 X] rfl rfl (one_at rfl _ _) (by intro u hu; simp at hu; subst hu; rfl) HBD.out.1 HBD.out.2 HQ.out ?_; intro V3 y3 hown3 hgr3 hat3; have HF3 := Lib.hid (HP3.out.grown X HW.out hown3 hgr3); clear hown3 hgr3 hat3)
        go_roundw
        case rel => exact ⟨j + 1, by go_num, Lib.hid ⟨HJ.out.1, HF3.out⟩⟩
        case measure => exact meas_loop HJ.out.1 HJ.out.2
    · obtain rfl : j = N := by have := HP.out.1; omega
      rcases Nat.lt_or_ge j n with hjn | hjn
      · have t1 : decide (j < n) = true := by simp; omega
        have e8 : j = 8192 := by rcases HN.out.2.2.1 with h | h <;> omega
        have t2 : decide (8192 ≤ (j : Int)) = true := by simp; omega
        have hj0 : (j : Int) < (n : Int) := by omega
        have HL := Lib.hid (loadIns HP.out.2.ins hjn)
        clear hlt hjn e8
        generalize hx : f j = x at *
        unfold insV at HL
        go_upto_region 5 with ((with_reducible refine wpList_loadE (P := Tryd.prog) (w := wr) (ty := 89) (x := .tmp 13) (p := .pointer (some ⟨b, o + j * 7, none⟩)) (v := .agg #[.int .i64 x.op, .int .i64 x.d, .int .i64 x.a, .int .i64 x.b, .int .i64 x.c, .int .i64 x.n, .int .u64 x.raw]) ?_ ?_ ?_ HL.out ?_); (· exact rfl); (· exact rfl); (· exact rfl))
        have HP1 := Lib.hid (HP.out.2.below' ((Below.refl wr.heap.size wr).alloc (Nat.le_refl _) (.cells #[.int .i64 x.op, .int .i64 x.d, .int .i64 x.a, .int .i64 x.b, .int .i64 x.c, .int .i64 x.n, .int .u64 x.raw] 89)))
        clear HP HL
        generalize wr.alloc (.cells #[.int .i64 x.op, .int .i64 x.d, .int .i64 x.a, .int .i64 x.b, .int .i64 x.c, .int .i64 x.n, .int .u64 x.raw] 89) = y1 at *
        go_wp2_with (fail)
        exact bodyPost_ret (v := u3) (by simp [results, Tryd.results8, go_sem]) rfl ⟨u3, rfl, HP1.out⟩
      · have t1 : decide (j < n) = false := by simp; omega
        clear hlt hjn
        go_wp2_with (fail)
        exact bodyPost_ret (v := u3) (by simp [results, Tryd.results8, go_sem]) rfl ⟨u3, rfl, HP.out.2⟩
set_option maxHeartbeats 1000000 in
set_option maxRecDepth 100000 in
theorem words_zero (w : World) (a0 : Option Addr) (c : Nat) :
    Calls Tryd.prog 8 #[.slice a0 0 c] w fun e w' => e = .returned (.slice none 0 0) ∧ w' = w := by
  go_enter Tryd.func8, Tryd.ntmps8
  go_upto_region 3 with (fail)
  go_loopw [10, 3] (fun t V y => t = .int .i64 0 ∧ V = .slice none 0 0 ∧ y = w) (fun _ _ _ => 0)
  case atStart => exact ⟨rfl, rfl, rfl⟩
  case round =>
    obtain ⟨rfl, rfl, rfl⟩ := hrel
    go_wp2_with (fail)
    exact bodyPost_ret (v := .slice none 0 0) (by simp [results, Tryd.results8, go_sem]) rfl ⟨rfl, rfl⟩
theorem load_any (w : World) (q : Nat) (V : Value) (n : Nat) (l : List Nat) (hl : n = l.length) (h : w.ownsRow q 33 1 V n (l.map wv')) (hn : n ≤ 8192) :
    Calls Tryd.prog 7 #[V] w fun e w' => e = .returned (.tuple #[.pointer (some ⟨w.heap.size, 0, none⟩), .nilIface]) ∧ IsMac w' w.heap.size (loaded n fun j => l.getD j 0) ∧ Below w.heap.size w w' := by
  rcases Nat.eq_zero_or_pos n with h0 | h0
  · rcases ownsRow_forms h with ⟨rfl, _⟩ | ⟨g, cap, rfl, _⟩
    · rw [h0]; exact load_zero w none 0 _
    · rw [h0]; exact load_zero w _ cap _
  · obtain ⟨g, cap, rfl, hs⟩ := ws_of l hl h h0
    exact load_walk w g 0 n cap _ hs hn
/-- The instructions that a slice of structs of integers holds. -/
theorem recs_ins {w : World} {a0 : Option Addr} {n c : Nat} (h : IsRecs [.i64, .i64, .i64, .i64, .i64, .i64, .u64] w a0 n c) : n ≤ maxLen ∧ (n = 0 ∨ ∃ b o f, a0 = some ⟨b, o, none⟩ ∧ b < w.heap.size ∧ IsIns w b o n f ∧ ∀ i, wordOf (f i) < 18446744073709551616) := by
  rcases h with ⟨rfl, rfl, rfl⟩ | ⟨h1, h2, h3⟩
  · exact ⟨by unfold maxLen; omega, .inl rfl⟩
  refine ⟨by omega, ?_⟩
  rcases Nat.eq_zero_or_pos n with h0 | h0
  · exact .inl h0
  right
  obtain ⟨b, o, rfl, _⟩ := h3 0 h0
  have hx : ∀ i, ∃ x : Ins, (i < n → ∀ (k : Nat) v, (insV x)[k]? = some v → w.cell? ⟨b, o + i * 7 + k, none⟩ = some v) ∧ x.raw < 18446744073709551616 := fun i => by
    by_cases hi : i < n
    · obtain ⟨c1, o1, e, hc⟩ := h3 i hi
      obtain ⟨rfl, rfl⟩ : c1 = b ∧ o1 = o := by simpa [eq_comm] using e
      obtain ⟨z0, e0, _⟩ := hc 0 .i64 rfl
      obtain ⟨z1, e1, _⟩ := hc 1 .i64 rfl
      obtain ⟨z2, e2, _⟩ := hc 2 .i64 rfl
      obtain ⟨z3, e3, _⟩ := hc 3 .i64 rfl
      obtain ⟨z4, e4, _⟩ := hc 4 .i64 rfl
      obtain ⟨z5, e5, _⟩ := hc 5 .i64 rfl
      obtain ⟨z6, e6, w6⟩ := hc 6 .u64 rfl
      have hb6 : 0 ≤ z6 ∧ z6 < 18446744073709551616 := by
        have p0 : 0 ≤ z6 := (of_decide_eq_true (Bool.and_eq_true_iff.1 w6).1)
        have p1 : z6 ≤ 18446744073709551615 := (of_decide_eq_true (Bool.and_eq_true_iff.1 w6).2)
        omega
      obtain ⟨r, rfl⟩ : ∃ r : Nat, z6 = r := ⟨z6.toNat, by omega⟩
      refine ⟨⟨z0, z1, z2, z3, z4, z5, r⟩, fun _ k v hv => ?_, by show r < _; omega⟩
      have hk : k < 7 := by
        obtain ⟨h, _⟩ := List.getElem?_eq_some_iff.1 hv
        simpa [insV] using h
      have ek : k = 0 ∨ k = 1 ∨ k = 2 ∨ k = 3 ∨ k = 4 ∨ k = 5 ∨ k = 6 := by omega
      rcases ek with rfl | rfl | rfl | rfl | rfl | rfl | rfl <;> (simp [insV] at hv; subst hv; assumption)
    · exact ⟨⟨0, 0, 0, 0, 0, 0, 0⟩, fun h => absurd h hi, by decide⟩
  obtain ⟨f, hf⟩ := Classical.axiomOfChoice hx
  refine ⟨b, o, f, rfl, ?_, fun i k v hi hv => (hf i).1 hi k v hv, fun i => ?_⟩
  · have := (hf 0).1 h0 0 _ rfl
    exact inHeap this
  · unfold wordOf
    split
    · next hc => have := hc; unfold codeOk gd m16 at this; unfold codeW m16; omega
    · exact (hf i).2
end Vm
end Go.Proofs.YtjfpbponjhpdhaaDoor
