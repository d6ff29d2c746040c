/-
  errors.As and errors.Is of a fault, which wraps a number; mootlaw03.Why of it. Own work, after the guide's worked example Toyas.
-/
import Derived.Test.YtdmffnjbholkkaaDoorWhy
namespace Go.Proofs.YtdmffnjbholkkaaDoor
open Go.RowKit Go.Extern.Stop Go.Stop Go.Extern
namespace As
theorem methodUnwrap (p : Value) (w : World) : (Go.method 353 156 p "Unwrap").run Tryd.prog w = .ok (130, p) w := by kernel_rfl
set_option maxRecDepth 100000 in
set_option maxHeartbeats 4000000 in
/-- errors.As of a fault, at a fault. -/
theorem as_fault_fault (e t : Addr) (old : Value) (w : World) (hg : w.cell? ⟨0, 0, none⟩ = some (.iface 173 (.agg #[.pointer (some ⟨4, 41, none⟩)]))) (ht0 : w.cell? t = some old) (hf0 : w.frozen? t = false) :
    Calls Tryd.prog 68 #[.iface 156 (.pointer (some e)), .iface 157 (.pointer (some t))] w fun ev w' => ev = .returned (.bool true) ∧ ∃ w1, w' = w1.setCell t (.pointer (some e)) ∧ Below w.heap.size w w1 := by
  have x_valueOfM := @run_callFunc_extern Tryd.prog 83 _ valueOfM Tryd.func83 (by kernel_rfl) (by kernel_rfl) (by kernel_rfl) (by kernel_rfl)
  have x_typeM := @run_callFunc_extern Tryd.prog 84 _ typeM Tryd.func84 (by kernel_rfl) (by kernel_rfl) (by kernel_rfl) (by kernel_rfl)
  have x_isNilM := @run_callFunc_extern Tryd.prog 85 _ isNilM Tryd.func85 (by kernel_rfl) (by kernel_rfl) (by kernel_rfl) (by kernel_rfl)
  have x_elemVM := @run_callFunc_extern Tryd.prog 97 _ elemVM Tryd.func97 (by kernel_rfl) (by kernel_rfl) (by kernel_rfl) (by kernel_rfl)
  have x_setM := @run_callFunc_extern Tryd.prog 98 _ setM Tryd.func98 (by kernel_rfl) (by kernel_rfl) (by kernel_rfl) (by kernel_rfl)
  have x_kindM := @run_callFunc_extern Tryd.prog 124 _ kindM Tryd.func124 (by kernel_rfl) (by kernel_rfl) (by kernel_rfl) (by kernel_rfl)
  have x_elemM := @run_callFunc_extern Tryd.prog 134 _ elemM Tryd.func134 (by kernel_rfl) (by kernel_rfl) (by kernel_rfl) (by kernel_rfl)
  have x_implM := @run_callFunc_extern Tryd.prog 135 _ implM Tryd.func135 (by kernel_rfl) (by kernel_rfl) (by kernel_rfl) (by kernel_rfl)
  have x_asgM := @run_callFunc_extern Tryd.prog 132 _ asgM Tryd.func132 (by kernel_rfl) (by kernel_rfl) (by kernel_rfl) (by kernel_rfl)
  have x_typeOfM := @run_callFunc_extern Tryd.prog 59 _ typeOfM Tryd.func59 (by kernel_rfl) (by kernel_rfl) (by kernel_rfl) (by kernel_rfl)
  have tO := typeOfE
  have tOF := typeOfPF
  have mA := methodAssignableTo
  have mK := methodKind
  have mE := methodElem
  have mI := methodImplements
  have y_valueOfPPF := valueOfPPF
  have y_typePPF := typePPF
  have y_kindPPF := kindPPF
  have y_kindE := kindPF
  have y_elemPPF := elemPPF
  have y_implE := implPF
  have y_asgEE := asgPFPF
  have y_valueOfE := valueOfPF
  have hlt : 0 < w.heap.size := by
    rcases Nat.lt_or_ge 0 w.heap.size with h1 | h1
    · exact h1
    · simp [World.cell?, Array.getElem?_eq_none h1] at hg
  have n8 := isNilPPF ⟨w.heap.size, 0, none⟩ t ((w.alloc (.cells #[.pointer (some t)] 157)).alloc (.cells #[.pointer (some ⟨4, 157, none⟩), .pointer (some ⟨w.heap.size, 0, none⟩), .int .u64 150] 193)) (by simp)
  have hg2 : ((w.alloc (.cells #[.pointer (some t)] 157)).alloc (.cells #[.pointer (some ⟨4, 157, none⟩), .pointer (some ⟨w.heap.size, 0, none⟩), .int .u64 150] 193)).cell? ⟨0, 0, none⟩ = some (.iface 173 (.agg #[.pointer (some ⟨4, 41, none⟩)])) := by
    rw [World.cell?_alloc_lt _ _ ⟨0, 0, none⟩ (by simp <;> omega), World.cell?_alloc_lt _ _ ⟨0, 0, none⟩ hlt]; exact hg
  have htl : t.block < w.heap.size := by
    rcases Nat.lt_or_ge t.block w.heap.size with h | h
    · exact h
    · simp [World.cell?, Array.getElem?_eq_none h] at ht0
  have el := elemVPPF ⟨w.heap.size, 0, none⟩ t (((w.alloc (.cells #[.pointer (some t)] 157)).alloc (.cells #[.pointer (some ⟨4, 157, none⟩), .pointer (some ⟨w.heap.size, 0, none⟩), .int .u64 150] 193)).alloc (.cells #[.pointer (some ⟨4, 157, none⟩), .pointer (some ⟨w.heap.size, 0, none⟩), .int .u64 150] 193)) (by rw [World.cell?_alloc_lt _ _ ⟨w.heap.size, 0, none⟩ (by simp; omega)]; simp)
  have st := setPF t ⟨w.heap.size + 1 + 1 + 1, 0, none⟩ e old ((((w.alloc (.cells #[.pointer (some t)] 157)).alloc (.cells #[.pointer (some ⟨4, 157, none⟩), .pointer (some ⟨w.heap.size, 0, none⟩), .int .u64 150] 193)).alloc (.cells #[.pointer (some ⟨4, 157, none⟩), .pointer (some ⟨w.heap.size, 0, none⟩), .int .u64 150] 193)).alloc (.cells #[.pointer (some e)] 156))
    (by rw [World.cell?_alloc_at _ _ _ _ (by simp)]; rfl)
    (by rw [World.cell?_alloc_lt _ _ t (by simp; omega), World.cell?_alloc_lt _ _ t (by simp; omega), World.cell?_alloc_lt _ _ t (by simp; omega), World.cell?_alloc_lt _ _ t htl]; exact ht0)
    (by rw [World.frozen?_alloc_old _ _ t (by simp; omega), World.frozen?_alloc_old _ _ t (by simp; omega), World.frozen?_alloc_old _ _ t (by simp; omega), World.frozen?_alloc_old _ _ t (Nat.ne_of_lt htl)]; exact hf0)
  go_enter Tryd.func68, Tryd.ntmps68
  go_wp2
  refine wp_loop_rounds 1 ?_
  rw [rounds_succ]
  go_wp2
  go_ret
  exact ⟨rfl, _, rfl, by repeat (first | exact Below.refl _ _ | refine Below.alloc ?_ (by simp; try omega) _)⟩
set_option maxRecDepth 100000 in
set_option maxHeartbeats 4000000 in
/-- errors.As of a fault, at a number. -/
theorem as_fault_num (q : Nat) (k : Int) (t : Addr) (old : Value) (w : World) (hg : w.cell? ⟨0, 0, none⟩ = some (.iface 173 (.agg #[.pointer (some ⟨4, 41, none⟩)]))) (ht0 : w.cell? t = some old) (hf0 : w.frozen? t = false) (hq : w.cell? ⟨q, 1, none⟩ = some (.iface 62 (.int .i64 k))) :
    Calls Tryd.prog 68 #[.iface 156 (.pointer (some ⟨q, 0, none⟩)), .iface 155 (.pointer (some t))] w fun ev w' => ev = .returned (.bool true) ∧ ∃ w1, w' = w1.setCell t (.int .i64 k) ∧ Below w.heap.size w w1 := by
  have x_valueOfM := @run_callFunc_extern Tryd.prog 83 _ valueOfM Tryd.func83 (by kernel_rfl) (by kernel_rfl) (by kernel_rfl) (by kernel_rfl)
  have x_typeM := @run_callFunc_extern Tryd.prog 84 _ typeM Tryd.func84 (by kernel_rfl) (by kernel_rfl) (by kernel_rfl) (by kernel_rfl)
  have x_isNilM := @run_callFunc_extern Tryd.prog 85 _ isNilM Tryd.func85 (by kernel_rfl) (by kernel_rfl) (by kernel_rfl) (by kernel_rfl)
  have x_elemVM := @run_callFunc_extern Tryd.prog 97 _ elemVM Tryd.func97 (by kernel_rfl) (by kernel_rfl) (by kernel_rfl) (by kernel_rfl)
  have x_setM := @run_callFunc_extern Tryd.prog 98 _ setM Tryd.func98 (by kernel_rfl) (by kernel_rfl) (by kernel_rfl) (by kernel_rfl)
  have x_kindM := @run_callFunc_extern Tryd.prog 124 _ kindM Tryd.func124 (by kernel_rfl) (by kernel_rfl) (by kernel_rfl) (by kernel_rfl)
  have x_elemM := @run_callFunc_extern Tryd.prog 134 _ elemM Tryd.func134 (by kernel_rfl) (by kernel_rfl) (by kernel_rfl) (by kernel_rfl)
  have x_implM := @run_callFunc_extern Tryd.prog 135 _ implM Tryd.func135 (by kernel_rfl) (by kernel_rfl) (by kernel_rfl) (by kernel_rfl)
  have x_asgM := @run_callFunc_extern Tryd.prog 132 _ asgM Tryd.func132 (by kernel_rfl) (by kernel_rfl) (by kernel_rfl) (by kernel_rfl)
  have x_typeOfM := @run_callFunc_extern Tryd.prog 59 _ typeOfM Tryd.func59 (by kernel_rfl) (by kernel_rfl) (by kernel_rfl) (by kernel_rfl)
  have tO := typeOfE
  have tOF := typeOfPF
  have mA := methodAssignableTo
  have mK := methodKind
  have mE := methodElem
  have mI := methodImplements
  have y_valueOfPE := valueOfPE
  have y_typePE := typePE
  have y_kindPE := kindPE
  have y_kindE := kindE
  have y_elemPE := elemPE
  have y_implE := implE
  have y_asgEE := asgEE
  have y_valueOfE := valueOfE
  have y_asgPFE := asgPFE
  have y_noAsF := noAsF
  have y_hasU := hasUnwrapF
  have y_mU := methodUnwrap
  have hlt : 0 < w.heap.size := by
    rcases Nat.lt_or_ge 0 w.heap.size with h1 | h1
    · exact h1
    · simp [World.cell?, Array.getElem?_eq_none h1] at hg
  have n8 := isNilPE ⟨w.heap.size, 0, none⟩ t ((w.alloc (.cells #[.pointer (some t)] 155)).alloc (.cells #[.pointer (some ⟨4, 155, none⟩), .pointer (some ⟨w.heap.size, 0, none⟩), .int .u64 150] 193)) (by simp)
  have hg2 : ((w.alloc (.cells #[.pointer (some t)] 155)).alloc (.cells #[.pointer (some ⟨4, 155, none⟩), .pointer (some ⟨w.heap.size, 0, none⟩), .int .u64 150] 193)).cell? ⟨0, 0, none⟩ = some (.iface 173 (.agg #[.pointer (some ⟨4, 41, none⟩)])) := by
    rw [World.cell?_alloc_lt _ _ ⟨0, 0, none⟩ (by simp <;> omega), World.cell?_alloc_lt _ _ ⟨0, 0, none⟩ hlt]; exact hg
  have htl : t.block < w.heap.size := by
    rcases Nat.lt_or_ge t.block w.heap.size with h | h
    · exact h
    · simp [World.cell?, Array.getElem?_eq_none h] at ht0
  have el := elemVPE ⟨w.heap.size, 0, none⟩ t (((w.alloc (.cells #[.pointer (some t)] 155)).alloc (.cells #[.pointer (some ⟨4, 155, none⟩), .pointer (some ⟨w.heap.size, 0, none⟩), .int .u64 150] 193)).alloc (.cells #[.pointer (some ⟨4, 155, none⟩), .pointer (some ⟨w.heap.size, 0, none⟩), .int .u64 150] 193)) (by rw [World.cell?_alloc_lt _ _ ⟨w.heap.size, 0, none⟩ (by simp; omega)]; simp)
  have st := setE t ⟨w.heap.size + 1 + 1 + 1, 0, none⟩ k old ((((w.alloc (.cells #[.pointer (some t)] 155)).alloc (.cells #[.pointer (some ⟨4, 155, none⟩), .pointer (some ⟨w.heap.size, 0, none⟩), .int .u64 150] 193)).alloc (.cells #[.pointer (some ⟨4, 155, none⟩), .pointer (some ⟨w.heap.size, 0, none⟩), .int .u64 150] 193)).alloc (.cells #[.int .i64 k] 62))
    (by rw [World.cell?_alloc_at _ _ _ _ (by simp)]; rfl)
    (by rw [World.cell?_alloc_lt _ _ t (by simp; omega), World.cell?_alloc_lt _ _ t (by simp; omega), World.cell?_alloc_lt _ _ t (by simp; omega), World.cell?_alloc_lt _ _ t htl]; exact ht0)
    (by rw [World.frozen?_alloc_old _ _ t (by simp; omega), World.frozen?_alloc_old _ _ t (by simp; omega), World.frozen?_alloc_old _ _ t (by simp; omega), World.frozen?_alloc_old _ _ t (Nat.ne_of_lt htl)]; exact hf0)
  have hql : q < w.heap.size := by
    rcases Nat.lt_or_ge q w.heap.size with h1 | h1
    · exact h1
    · simp [World.cell?, Array.getElem?_eq_none h1] at hq
  have hq3 : (((w.alloc (.cells #[.pointer (some t)] 155)).alloc (.cells #[.pointer (some ⟨4, 155, none⟩), .pointer (some ⟨w.heap.size, 0, none⟩), .int .u64 150] 193)).alloc (.cells #[.pointer (some ⟨4, 155, none⟩), .pointer (some ⟨w.heap.size, 0, none⟩), .int .u64 150] 193)).cell? ⟨q, 1, none⟩ = some (.iface 62 (.int .i64 k)) := by
    rw [World.cell?_alloc_lt _ _ ⟨q, 1, none⟩ (by simp; omega), World.cell?_alloc_lt _ _ ⟨q, 1, none⟩ (by simp; omega), World.cell?_alloc_lt _ _ ⟨q, 1, none⟩ hql]; exact hq
  clear hql hq
  go_enter Tryd.func68, Tryd.ntmps68
  go_wp2
  refine wp_loop_rounds 2 ?_
  rw [rounds_succ]
  go_wp2
  rw [rounds_succ]
  go_wp2
  go_ret
  exact ⟨rfl, _, rfl, by repeat (first | exact Below.refl _ _ | refine Below.alloc ?_ (by simp; try omega) _)⟩
end As
namespace Err
theorem noIsF (v : Value) (xT : TypeId) (w : World) : (Instr.typeAssert (.iface 156 v) xT 175 true).run Tryd.prog w = .ok (.tuple #[.nilIface, .bool false]) w := run_typeAssert_lacksB Tryd.underlying175 (by kernel_rfl) (by kernel_rfl) v xT w
theorem run_equalIn_ne {P : Program} {ti t1 t2 : TypeId} {ms : Array (String × TypeId)} (w : World) (d : Nat) (a b : Value) (hi : P.underlying ti = some (.interface ms)) (hn : t1 ≠ t2) :
    (Op.equalIn (d + 2) ti (.iface t1 a) (.iface t2 b)).run P w = .ok false w := by
  simp [Op.equalIn, run_underlying hi, hn]
theorem fltNe (e : Addr) (n : Int) (w : World) : (binOp .eql 41 (.iface 156 (.pointer (some e))) (.iface 62 (.int .i64 n))).run Tryd.prog w = .ok (.bool false) w := by
  simp only [binOp]
  simp [Op.equal, Op.maxDepth, run_equalIn_ne w 9998 (.pointer (some e)) (.int .i64 n) Tryd.underlying41 (show (156 : TypeId) ≠ 62 by decide)]
/-- errors.Is of a fault and a number. -/
theorem is_fault (q : Nat) (m n : Int) (w : World) (hq : w.cell? ⟨q, 1, none⟩ = some (.iface 62 (.int .i64 m))) :
    Calls Tryd.prog 30 #[.iface 156 (.pointer (some ⟨q, 0, none⟩)), .iface 62 (.int .i64 n)] w fun e w' => e = .returned (.bool (m == n)) ∧ w = w' := by
  obtain ⟨i, hi, hcmp⟩ := Option.map_eq_some_iff.1 isComp
  have h8 := @run_callFunc_extern Tryd.prog 59 _ Extern.ReflectliteType.typeOf Tryd.func59 (by kernel_rfl) (by kernel_rfl) (by kernel_rfl) (by kernel_rfl)
  have h32 := @run_callFunc_extern Tryd.prog 133 _ cmpM Tryd.func133 (by kernel_rfl) (by kernel_rfl) (by kernel_rfl) (by kernel_rfl)
  have tT := isTypeOf
  have cT := isComparable
  have mR := isMethodComparable
  have nE := noIs
  have nEF := noIsF
  have uF := As.hasUnwrapF
  have mU := As.methodUnwrap
  have hnq := fltNe
  have uE := noUnwrap
  have vE := noUnwraps
  have heq := run_eql_num (P := Tryd.prog) w m n Tryd.underlying41 Tryd.underlying62 hi hcmp
  by_cases hmn : (m == n) = true
  · rw [hmn] at heq ⊢
    go_enter Tryd.func30, Tryd.ntmps30
    go_wp2
    refine wp_loop_rounds 2 ?_
    rw [rounds_succ]
    go_wp2
    rw [rounds_succ]
    go_wp2
    go_ret
    exact ⟨rfl, rfl⟩
  · have hmn' : (m == n) = false := by simpa using hmn
    clear hmn
    rw [hmn'] at heq ⊢
    go_enter Tryd.func30, Tryd.ntmps30
    go_wp2
    refine wp_loop_rounds 2 ?_
    rw [rounds_succ]
    go_wp2
    rw [rounds_succ]
    go_wp2
    go_ret
    exact ⟨rfl, rfl⟩
end Err
end Go.Proofs.YtdmffnjbholkkaaDoor
