/-
  tx: fields, inRange; a transaction in plain words. Own work.
-/
import Derived.Test.YtkhdamjjbjmeaaaDoorJ4
import Derived.Test.YtkhdamjjbjmeaaaDoorOt
import Derived.Test.YtkhdamjjbjmeaaaDoorQin
namespace Go.Proofs.YtkhdamjjbjmeaaaDoor
open Go.ChangeShapes Go.WideShapes Go.Deep Go.RowKit
set_option linter.unusedVariables false
set_option linter.unusedSimpArgs false
namespace Rl
/-- May the field at a place be that number? -/
def inOk (p v : Nat) : Bool := if p = 0 ∨ p = 1 then decide (v < 64) else if p = 4 then decide (v ≤ 96) else true
set_option maxRecDepth 100000 in
theorem inRange_walk (w : World) (p v : Nat) : Calls Tryd.prog 30 #[.int .i64 p, .int .u64 v] w fun e w' => e = .returned (.bool (inOk p v)) ∧ w = w' := by
  by_cases h0 : p = 0
  · subst h0
    have e : inOk 0 v = decide (v < 64) := rfl
    rw [e]
    by_cases hv : v < 64
    · have h1 : (v : Int) < 64 := by omega
      rw [decide_eq_true hv]
      clear hv e
      go_enter Tryd.func30, Tryd.ntmps30
      go_wp2_with (fail)
      go_ret
      exact ⟨rfl, rfl⟩
    · have h1 : decide ((v : Int) < 64) = false := by simp; omega
      rw [decide_eq_false hv]
      clear hv e
      go_enter Tryd.func30, Tryd.ntmps30
      go_wp2_with (fail)
      go_ret
      exact ⟨rfl, rfl⟩
  · by_cases h1 : p = 1
    · subst h1
      have e : inOk 1 v = decide (v < 64) := rfl
      rw [e]
      by_cases hv : v < 64
      · have h1 : (v : Int) < 64 := by omega
        rw [decide_eq_true hv]
        clear hv e h0
        go_enter Tryd.func30, Tryd.ntmps30
        go_wp2_with (fail)
        go_ret
        exact ⟨rfl, rfl⟩
      · have h1 : decide ((v : Int) < 64) = false := by simp; omega
        rw [decide_eq_false hv]
        clear hv e h0
        go_enter Tryd.func30, Tryd.ntmps30
        go_wp2_with (fail)
        go_ret
        exact ⟨rfl, rfl⟩
    · have f0 : ((p : Int) == 0) = false := beq_eq_false_iff_ne.2 (by omega)
      have f1 : ((p : Int) == 1) = false := beq_eq_false_iff_ne.2 (by omega)
      by_cases h4 : p = 4
      · subst h4
        have e : inOk 4 v = decide (v ≤ 96) := rfl
        rw [e]
        by_cases hv : v ≤ 96
        · have h1 : (v : Int) ≤ 96 := by omega
          rw [decide_eq_true hv]
          clear hv e
          go_enter Tryd.func30, Tryd.ntmps30
          go_wp2_with (fail)
          go_ret
          exact ⟨rfl, rfl⟩
        · have h1 : decide ((v : Int) ≤ 96) = false := by simp; omega
          rw [decide_eq_false hv]
          clear hv e
          go_enter Tryd.func30, Tryd.ntmps30
          go_wp2_with (fail)
          go_ret
          exact ⟨rfl, rfl⟩
      · have f4 : ((p : Int) == 4) = false := beq_eq_false_iff_ne.2 (by omega)
        have e : inOk p v = true := by unfold inOk; rw [if_neg (by omega), if_neg h4]
        rw [e]
        clear e h0 h1 h4
        go_enter Tryd.func30, Tryd.ntmps30
        go_wp2_with (fail)
        go_ret
        exact ⟨rfl, rfl⟩
/-- The six places of a box. -/
abbrev six (q : Nat) : Value := .agg #[.pointer (some ⟨q, 0, none⟩), .pointer (some ⟨q, 1, none⟩), .pointer (some ⟨q, 2, none⟩), .pointer (some ⟨q, 3, none⟩), .pointer (some ⟨q, 4, none⟩), .pointer (some ⟨q, 5, none⟩)]
set_option maxHeartbeats 2000000 in
set_option maxRecDepth 100000 in
theorem fields_walk (w : World) (q : Nat) : Calls Tryd.prog 27 #[.pointer (some ⟨q, 0, none⟩)] w fun e w' => e = .returned (six q) ∧ Below w.heap.size w w' := by
  go_enter Tryd.func27, Tryd.ntmps27
  go_upto_region 1 with (fail)
  refine wp_region_og (fun _ => True) (.take 0 (.take 1 (.take 2 (.take 3 (.take 4 (.take 5 (.take 6 (.take 7 (.take 8 (.take 9 (.take 10 (.take 11 (.take 12 (.take 13 (.take 14 (.take 15 (.take 16 (.take 17 (.take 18 (.one 19 .done)))))))))))))))))))) (by kernel_rfl) (by kernel_rfl) trivial ?_
  refine og_tk (some 3) (.pointer (some ⟨q, 0, none⟩)) rfl rfl (by go_simp) (fun _ _ => by simp [execOp, go_sem]) ?_
  refine og_tk (some 4) (.pointer (some ⟨q, 0, none⟩)) rfl rfl (by go_simp) (fun _ _ => by simp [execOp, go_sem]) ?_
  refine og_tk (some 5) (.pointer (some ⟨q, 0, none⟩)) rfl rfl (by go_simp) (fun _ _ => by simp [execOp, go_sem]) ?_
  refine og_tk (some 6) (.pointer (some ⟨q, 0, none⟩)) rfl rfl (by go_simp) (fun _ _ => by simp [execOp, go_sem]) ?_
  refine og_tk (some 7) (.pointer (some ⟨q, 0, none⟩)) rfl rfl (by go_simp) (fun _ _ => by simp [execOp, go_sem]) ?_
  refine og_tk (some 8) (.pointer (some ⟨q, 1, none⟩)) rfl rfl (by go_simp) (fun _ _ => by simp [execOp, go_sem]) ?_
  refine og_tk (some 9) (.pointer (some ⟨q, 0, none⟩)) rfl rfl (by go_simp) (fun _ _ => by simp [execOp, go_sem]) ?_
  refine og_tk (some 10) (.pointer (some ⟨q, 0, none⟩)) rfl rfl (by go_simp) (fun _ _ => by simp [execOp, go_sem]) ?_
  refine og_tk (some 11) (.pointer (some ⟨q, 2, none⟩)) rfl rfl (by go_simp) (fun _ _ => by simp [execOp, go_sem]) ?_
  refine og_tk (some 12) (.pointer (some ⟨q, 0, none⟩)) rfl rfl (by go_simp) (fun _ _ => by simp [execOp, go_sem]) ?_
  refine og_tk (some 13) (.pointer (some ⟨q, 0, none⟩)) rfl rfl (by go_simp) (fun _ _ => by simp [execOp, go_sem]) ?_
  refine og_tk (some 14) (.pointer (some ⟨q, 3, none⟩)) rfl rfl (by go_simp) (fun _ _ => by simp [execOp, go_sem]) ?_
  refine og_tk (some 15) (.pointer (some ⟨q, 0, none⟩)) rfl rfl (by go_simp) (fun _ _ => by simp [execOp, go_sem]) ?_
  refine og_tk (some 16) (.pointer (some ⟨q, 0, none⟩)) rfl rfl (by go_simp) (fun _ _ => by simp [execOp, go_sem]) ?_
  refine og_tk (some 17) (.pointer (some ⟨q, 4, none⟩)) rfl rfl (by go_simp) (fun _ _ => by simp [execOp, go_sem]) ?_
  refine og_tk (some 18) (.pointer (some ⟨q, 0, none⟩)) rfl rfl (by go_simp) (fun _ _ => by simp [execOp, go_sem]) ?_
  refine og_tk (some 19) (.pointer (some ⟨q, 0, none⟩)) rfl rfl (by go_simp) (fun _ _ => by simp [execOp, go_sem]) ?_
  refine og_tk (some 20) (.pointer (some ⟨q, 5, none⟩)) rfl rfl (by go_simp) (fun _ _ => by simp [execOp, go_sem]) ?_
  refine og_tk (some 21) (six q) rfl rfl (by go_simp) (fun _ _ => by simp [execOp, go_sem]) ?_
  simp only [Act.put, List.setIfInBounds_toArray, List.set_cons_zero, List.set_cons_succ]
  refine og_f rfl (by go_simp) fun K hK => ?_
  go_simp
  refine hK _ _ trivial ?_
  clear hK K
  refine og_done (NoPanic.normal ?_)
  go_wp2_with (fail)
  refine bodyPost_ret (v := six q) (by simp [results, Tryd.results27, go_sem]) rfl ⟨rfl, ?_⟩
  first | exact ba _ _ | exact (ba _ _).drew | trace_state
theorem run_six (w : World) (q j : Nat) (hj : j < 6) : (Instr.index 68 (six q) (.int .i64 j)).run Tryd.prog w = .ok (.pointer (some ⟨q, j, none⟩)) w := by
  match j, hj with
  | 0, _ => simp [Instr.index, go_sem]
  | 1, _ => simp [Instr.index, go_sem]
  | 2, _ => simp [Instr.index, go_sem]
  | 3, _ => simp [Instr.index, go_sem]
  | 4, _ => simp [Instr.index, go_sem]
  | 5, _ => simp [Instr.index, go_sem]
/-- The place of a field, out of the six. -/
theorem wpList_six {w : World} {ops : Array Oper} {rest : List Oper} {o : Oper} {a : Act} {Q : Exit → Act → World → Prop} (hgd : o.guard = none) (x ix : Operand) (ho : o.op = .index 68 x ix) (q j : Nat) (hj : j < 6) (hx : a.eval x = six q) (hix : a.eval ix = .int .i64 (j : Int))
    (h : wpList Tryd.prog ops Q rest (a.put o.dst (.pointer (some ⟨q, j, none⟩))) w) : wpList Tryd.prog ops Q (o :: rest) a w :=
  wpList_plain hgd fun K hK => by
    have he : (execOp a.eval o).run Tryd.prog w = .ok (.value (.pointer (some ⟨q, j, none⟩))) w := by
      unfold execOp; simp only [ho, hx, hix]; simp [run_six w q j hj, Result.andThen]
    unfold Oper.wp
    rw [he]
    exact hK _ _ h
end Rl
end Go.Proofs.YtkhdamjjbjmeaaaDoor
