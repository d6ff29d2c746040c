/-
  Layer 11: the document's machine in memory; laid, of nothing. Written by genCd.py. Own work.
-/
import Derived.Test.YtjfpbponjhpdhaaDoorCc
namespace Go.Proofs.YtjfpbponjhpdhaaDoor
open Go.RowKit
set_option linter.unusedVariables false
set_option linter.unusedSimpArgs false
namespace Co
open Kc Mk Vm
theorem run_minC {P : Program} {ts : Array TypeId} {t : TypeId} {k : IntKind} (a b : Int) (w : World) : (Builtin.min_ ts t #[.int k a, .int k b]).run P w = .ok (.int k (min a b)) w := by
  have e : (if b < a then b else a) = min a b := by split <;> omega
  simp [Builtin.min_, Builtin.min2, e]
def uv (f : Nat → Nat) : Nat → Value := fun i => .int .u64 (f i)
theorem infoU : ∃ i, Tryd.prog.info? 33 = some i ∧ i.zero = some (.int .u64 0) ∧ i.size = 1 ∧ i.bytes = 8 := by
  have h : (Tryd.prog.info? 33).map (fun i => (i.zero, i.size, i.bytes)) = some (some (.int .u64 0), 1, 8) := by kernel_rfl
  obtain ⟨i, h1, h2⟩ := Option.map_eq_some_iff.1 h
  simp only [Prod.mk.injEq] at h2
  exact ⟨i, h1, h2.1, h2.2.1, h2.2.2⟩
theorem madeU (n : Nat) : madeCells #[Value.int .u64 0] n = tab n (uv fun _ => 0) := by
  apply Array.toList_inj.1
  rw [toList_madeCells_one]
  unfold tab uv
  exact (by simp [List.map_const'] : List.replicate n (Value.int .u64 0) = List.map (fun _ => Value.int .u64 0) (List.range n))
theorem mkU (n : Nat) (hn : n ≤ 8192) (w : World) : (Instr.makeSlice 23 (.int .i64 (n : Int)) (.int .i64 (n : Int))).run Tryd.prog w = .ok (.slice (some ⟨w.heap.size, 0, none⟩) n n) (w.alloc (.cells (tab n (uv fun _ => 0)) 33)) := by
  obtain ⟨i, h1, h2, h3, h4⟩ := infoU
  have hr := run_make (P := Tryd.prog) w 23 33 i (.int .u64 0) undW h1 h2 .i64 .i64 n n (by omega) (Int.le_refl _) (by rw [h4]; omega) (by omega)
  simp only [Int.toNat_natCast, h3, Nat.mul_one] at hr
  have e : (Value.int .u64 0).cells = #[Value.int .u64 0] := rfl
  rw [e, madeU] at hr
  exact hr
/-- A block of five cells. -/
def v5 (a b c d e : Value) : Nat → Value
  | 0 => a
  | 1 => b
  | 2 => c
  | 3 => d
  | _ => e
def Box5 (w : World) (q T : Nat) (a b c d e : Value) : Prop := IsTab w q T 5 (v5 a b c d e)
section
variable {w w' : World} {q T : Nat} {a b c d e : Value}
theorem Box5.k0 (h : Box5 w q T a b c d e) : w.cell? ⟨q, 0, none⟩ = some a := IsTab.cell h 0 (by decide)
theorem Box5.k1 (h : Box5 w q T a b c d e) : w.cell? ⟨q, 1, none⟩ = some b := IsTab.cell h 1 (by decide)
theorem Box5.k2 (h : Box5 w q T a b c d e) : w.cell? ⟨q, 2, none⟩ = some c := IsTab.cell h 2 (by decide)
theorem Box5.k3 (h : Box5 w q T a b c d e) : w.cell? ⟨q, 3, none⟩ = some d := IsTab.cell h 3 (by decide)
theorem Box5.k4 (h : Box5 w q T a b c d e) : w.cell? ⟨q, 4, none⟩ = some e := IsTab.cell h 4 (by decide)
theorem Box5.f (h : Box5 w q T a b c d e) (i : Nat) : w.frozen? ⟨q, i, none⟩ = false := IsTab.fz h i
theorem Box5.new (w : World) (T : Nat) (a b c d e : Value) : Box5 (w.alloc (.cells #[a, b, c, d, e] T)) w.heap.size T a b c d e := IsTab.new w T 5 (v5 a b c d e)
theorem c5 {i : Nat} (hi : i < 5) : i = 0 ∨ i = 1 ∨ i = 2 ∨ i = 3 ∨ i = 4 := by omega
theorem Box5.p2 (h : Box5 w q T a b c d e) (x : Value) : Box5 (w.setCell ⟨q, 2, none⟩ x) q T a b x d e := IsTab.cong (IsTab.set h 2 x) fun i hi => by
  rcases c5 hi with rfl | rfl | rfl | rfl | rfl <;> rfl
theorem Box5.p3 (h : Box5 w q T a b c d e) (x : Value) : Box5 (w.setCell ⟨q, 3, none⟩ x) q T a b c x e := IsTab.cong (IsTab.set h 3 x) fun i hi => by
  rcases c5 hi with rfl | rfl | rfl | rfl | rfl <;> rfl
theorem Box5.p4 (h : Box5 w q T a b c d e) (x : Value) : Box5 (w.setCell ⟨q, 4, none⟩ x) q T a b c d x := IsTab.cong (IsTab.set h 4 x) fun i hi => by
  rcases c5 hi with rfl | rfl | rfl | rfl | rfl <;> rfl
end
/-- The document's machine: its box, its memory, its registers. -/
structure IsRm (w : World) (r qm qr : Nat) (M : Mac) : Prop where
  box : Box5 w r 68 (.slice (some ⟨qm, 0, none⟩) 8192 8192) (.slice (some ⟨qr, 0, none⟩) 16 16) (.int .u64 M.pc) (.bool M.halted) (.int .u64 M.exit)
  mem : IsTab w qm 33 8192 (uv M.mem)
  reg : IsTab w qr 33 16 (uv M.reg)
  ne : qm ≠ qr ∧ qm ≠ r ∧ qr ≠ r
theorem IsRm.below {w w' : World} {r qm qr : Nat} {M : Mac} (h : IsRm w r qm qr M) (hb : Below w.heap.size w w') : IsRm w' r qm qr M := ⟨IsTab.below h.box hb, h.mem.below hb, h.reg.below hb, h.ne⟩
set_option maxHeartbeats 2000000 in
set_option maxRecDepth 100000 in
theorem rLoad_nil (w : World) :
    Calls Tryd.prog 43 #[.slice none 0 0] w fun e w' => ∃ r qm qr, e = .returned (.pointer (some ⟨r, 0, none⟩)) ∧ IsRm w' r qm qr m0 ∧ Below w.heap.size w w' ∧ w.heap.size ≤ r ∧ w.heap.size ≤ qm ∧ w.heap.size ≤ qr := by
  have hm8 := mkU 8192 (Nat.le_refl _)
  have hm16 := mkU 16 (by decide)
  rw [show ((8192 : Nat) : Int) = 8192 from rfl] at hm8
  rw [show ((16 : Nat) : Int) = 16 from rfl] at hm16
  generalize hz1 : tab 8192 (uv fun _ => 0) = zm at *
  generalize hz2 : tab 16 (uv fun _ => 0) = zr at *
  have HZ := Lib.hid (And.intro hz1 hz2)
  clear hz1 hz2
  go_enter Tryd.func43, Tryd.ntmps43
  go_upto_region 1 with (fail)
  refine wp_region_og (fun z : World => True) (.two 0 (.one 1 (.take 2 (.one 3 (.take 4 .done)))) 1 (.one 0 (.take 2 (.one 3 (.take 4 .done))))) (by kernel_rfl) (by kernel_rfl) trivial ?_
  have HY : Hid (Below w.heap.size w w.drew) := Lib.hid (Below.refl _ _).drew
  generalize w.drew = y1 at *
  refine og_two (og_of rfl (by go_simp) fun K hK => ?_) (og_of rfl (by go_simp) fun K hK => ?_)
  · go_simp
    have HY : Hid (IsTab (y1.alloc (.cells zm 33)) y1.heap.size 33 8192 (uv fun _ => 0) ∧ Below w.heap.size w (y1.alloc (.cells zm 33)) ∧ w.heap.size ≤ y1.heap.size) := Lib.hid ⟨by rw [← HZ.out.1]; exact IsTab.new y1 33 8192 _, HY.out.alloc HY.out.size _, HY.out.size⟩
    refine hK _ _ trivial ?_
    clear hK K
    try simp only [List.getElem_toArray, List.getElem_cons_succ, List.getElem_cons_zero, Act.put, pS]
    generalize y1.alloc (.cells zm 33) = y2 at *
    generalize y1.heap.size = qm at *
    refine og_f rfl (by go_simp) fun K hK => ?_
    go_simp
    have HY : Hid (IsTab (y2.alloc (.cells zr 33)) qm 33 8192 (uv fun _ => 0) ∧ IsTab (y2.alloc (.cells zr 33)) y2.heap.size 33 16 (uv fun _ => 0) ∧ Below w.heap.size w (y2.alloc (.cells zr 33)) ∧ w.heap.size ≤ qm ∧ w.heap.size ≤ y2.heap.size ∧ qm ≠ y2.heap.size) := Lib.hid ⟨HY.out.1.alloc _, by rw [← HZ.out.2]; exact IsTab.new y2 33 16 _, HY.out.2.1.alloc HY.out.2.1.size _, HY.out.2.2, HY.out.2.1.size, by have := HY.out.1.lt; omega⟩
    refine hK _ _ trivial ?_
    clear hK K
    try simp only [List.getElem_toArray, List.getElem_cons_succ, List.getElem_cons_zero, Act.put, pS]
    generalize y2.alloc (.cells zr 33) = y3 at *
    generalize y2.heap.size = qr at *
    refine og_tk (some 6) (.agg #[.slice (some ⟨qm, 0, none⟩) 8192 8192, .slice (some ⟨qr, 0, none⟩) 16 16, .int .u64 0, .bool false, .int .u64 0]) rfl rfl (by go_simp) (fun _ _ => by simp [execOp, go_sem]) ?_
    simp only [Act.put, pS]
    refine og_f rfl (by go_simp) fun K hK => ?_
    go_simp
    have HX : Hid (IsRm (y3.alloc (.cells #[.slice (some ⟨qm, 0, none⟩) 8192 8192, .slice (some ⟨qr, 0, none⟩) 16 16, .int .u64 0, .bool false, .int .u64 0] 68)) y3.heap.size qm qr m0 ∧ Below w.heap.size w (y3.alloc (.cells #[.slice (some ⟨qm, 0, none⟩) 8192 8192, .slice (some ⟨qr, 0, none⟩) 16 16, .int .u64 0, .bool false, .int .u64 0] 68)) ∧ w.heap.size ≤ y3.heap.size ∧ w.heap.size ≤ qm ∧ w.heap.size ≤ qr) := Lib.hid ⟨⟨Box5.new y3 68 _ _ _ _ _, HY.out.1.alloc _, HY.out.2.1.alloc _, HY.out.2.2.2.2.2, by have := HY.out.1.lt; omega, by have := HY.out.2.1.lt; omega⟩, HY.out.2.2.1.alloc HY.out.2.2.1.size _, HY.out.2.2.1.size, HY.out.2.2.2.1, HY.out.2.2.2.2.1⟩
    refine hK _ _ trivial ?_
    clear hK K HY
    try simp only [List.getElem_toArray, List.getElem_cons_succ, List.getElem_cons_zero, Act.put, pS]
    generalize y3.alloc (.cells #[.slice (some ⟨qm, 0, none⟩) 8192 8192, .slice (some ⟨qr, 0, none⟩) 16 16, .int .u64 0, .bool false, .int .u64 0] 68) = y4 at *
    generalize y3.heap.size = r at *
    refine og_tk (some 3) (.pointer (some ⟨r, 0, none⟩)) rfl rfl (by go_simp) (fun _ _ => by simp [execOp, go_sem]) ?_
    simp only [Act.put, pS]
    refine og_done (NoPanic.normal ?_)
    have k0 := HX.out.1.box.k0
    go_wp2_with (refine wpList_copy_nothing rfl (.tmp 11) (.tmp 12) 23 23 rfl 33 undW sizeW (some ⟨qm, 0, none⟩) none 8192 8192 0 0 rfl rfl rfl ?_)
    exact bodyPost_ret (v := .pointer (some ⟨r, 0, none⟩)) (by simp [results, Tryd.results43, go_sem]) rfl ⟨r, rfl, qm, qr, HX.out⟩
  · go_simp
    have HY : Hid (IsTab (y1.alloc (.cells zr 33)) y1.heap.size 33 16 (uv fun _ => 0) ∧ Below w.heap.size w (y1.alloc (.cells zr 33)) ∧ w.heap.size ≤ y1.heap.size) := Lib.hid ⟨by rw [← HZ.out.2]; exact IsTab.new y1 33 16 _, HY.out.alloc HY.out.size _, HY.out.size⟩
    refine hK _ _ trivial ?_
    clear hK K
    try simp only [List.getElem_toArray, List.getElem_cons_succ, List.getElem_cons_zero, Act.put, pS]
    generalize y1.alloc (.cells zr 33) = y2 at *
    generalize y1.heap.size = qr at *
    refine og_f rfl (by go_simp) fun K hK => ?_
    go_simp
    have HY : Hid (IsTab (y2.alloc (.cells zm 33)) y2.heap.size 33 8192 (uv fun _ => 0) ∧ IsTab (y2.alloc (.cells zm 33)) qr 33 16 (uv fun _ => 0) ∧ Below w.heap.size w (y2.alloc (.cells zm 33)) ∧ w.heap.size ≤ y2.heap.size ∧ w.heap.size ≤ qr ∧ y2.heap.size ≠ qr) := Lib.hid ⟨by rw [← HZ.out.1]; exact IsTab.new y2 33 8192 _, HY.out.1.alloc _, HY.out.2.1.alloc HY.out.2.1.size _, HY.out.2.1.size, HY.out.2.2, by have := HY.out.1.lt; omega⟩
    refine hK _ _ trivial ?_
    clear hK K
    try simp only [List.getElem_toArray, List.getElem_cons_succ, List.getElem_cons_zero, Act.put, pS]
    generalize y2.alloc (.cells zm 33) = y3 at *
    generalize y2.heap.size = qm at *
    refine og_tk (some 6) (.agg #[.slice (some ⟨qm, 0, none⟩) 8192 8192, .slice (some ⟨qr, 0, none⟩) 16 16, .int .u64 0, .bool false, .int .u64 0]) rfl rfl (by go_simp) (fun _ _ => by simp [execOp, go_sem]) ?_
    simp only [Act.put, pS]
    refine og_f rfl (by go_simp) fun K hK => ?_
    go_simp
    have HX : Hid (IsRm (y3.alloc (.cells #[.slice (some ⟨qm, 0, none⟩) 8192 8192, .slice (some ⟨qr, 0, none⟩) 16 16, .int .u64 0, .bool false, .int .u64 0] 68)) y3.heap.size qm qr m0 ∧ Below w.heap.size w (y3.alloc (.cells #[.slice (some ⟨qm, 0, none⟩) 8192 8192, .slice (some ⟨qr, 0, none⟩) 16 16, .int .u64 0, .bool false, .int .u64 0] 68)) ∧ w.heap.size ≤ y3.heap.size ∧ w.heap.size ≤ qm ∧ w.heap.size ≤ qr) := Lib.hid ⟨⟨Box5.new y3 68 _ _ _ _ _, HY.out.1.alloc _, HY.out.2.1.alloc _, HY.out.2.2.2.2.2, by have := HY.out.1.lt; omega, by have := HY.out.2.1.lt; omega⟩, HY.out.2.2.1.alloc HY.out.2.2.1.size _, HY.out.2.2.1.size, HY.out.2.2.2.1, HY.out.2.2.2.2.1⟩
    refine hK _ _ trivial ?_
    clear hK K HY
    try simp only [List.getElem_toArray, List.getElem_cons_succ, List.getElem_cons_zero, Act.put, pS]
    generalize y3.alloc (.cells #[.slice (some ⟨qm, 0, none⟩) 8192 8192, .slice (some ⟨qr, 0, none⟩) 16 16, .int .u64 0, .bool false, .int .u64 0] 68) = y4 at *
    generalize y3.heap.size = r at *
    refine og_tk (some 3) (.pointer (some ⟨r, 0, none⟩)) rfl rfl (by go_simp) (fun _ _ => by simp [execOp, go_sem]) ?_
    simp only [Act.put, pS]
    refine og_done (NoPanic.normal ?_)
    have k0 := HX.out.1.box.k0
    go_wp2_with (refine wpList_copy_nothing rfl (.tmp 11) (.tmp 12) 23 23 rfl 33 undW sizeW (some ⟨qm, 0, none⟩) none 8192 8192 0 0 rfl rfl rfl ?_)
    exact bodyPost_ret (v := .pointer (some ⟨r, 0, none⟩)) (by simp [results, Tryd.results43, go_sem]) rfl ⟨r, rfl, qm, qr, HX.out⟩
end Co
end Go.Proofs.YtjfpbponjhpdhaaDoor
