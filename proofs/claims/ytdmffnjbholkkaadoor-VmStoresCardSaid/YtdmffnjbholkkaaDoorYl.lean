/-
  vm: a machine is equal to itself; Step; a step that jumps. Own work.
-/
import Derived.Test.YtdmffnjbholkkaaDoorYk
namespace Go.Proofs.YtdmffnjbholkkaaDoor
open Go.RowKit
set_option linter.unusedVariables false
set_option linter.unusedSimpArgs false
namespace Vm
open Kc
theorem undMac : Tryd.prog.underlying 87 = some (.struct (Tryd.prog.fieldsOf 87)) := by kernel_rfl
theorem stoodMac : Tryd.prog.stoodInHeld 87 = false := by kernel_rfl
theorem fieldsMac : (Tryd.prog.fieldsOf 87).toList.map (fun f => (f.type, f.offset)) = [(84, 0), (85, 8192), (78, 8208), (4, 8209), (78, 8210)] := by kernel_rfl
theorem eqFields_refl {P : Program} (w : World) (d : Nat) (xs : Array Value) : ∀ fs : List Field, (∀ f ∈ fs, ∃ v, (part f.type xs f.offset).run P w = .ok v w ∧ (Op.equalIn d f.type v v).run P w = .ok true w) → (Op.eqFields d xs xs fs).run P w = .ok true w
  | [], _ => by simp [Op.eqFields]
  | f :: fs, h => by
    obtain ⟨v, h1, h2⟩ := h f (by simp)
    have ih := eqFields_refl (P := P) w d xs fs fun g hg => h g (by simp [hg])
    simp only [Op.eqFields]
    split
    · simp [h1, h2, ih, Result.andThen]
    · exact ih
theorem aggMem (w : World) : (isAgg 84).run Tryd.prog w = .ok true w := by kernel_rfl
theorem aggReg (w : World) : (isAgg 85).run Tryd.prog w = .ok true w := by kernel_rfl
theorem aggW (w : World) : (isAgg 78).run Tryd.prog w = .ok false w := by kernel_rfl
theorem aggB (w : World) : (isAgg 4).run Tryd.prog w = .ok false w := by kernel_rfl
theorem szMem (w : World) : (sizeOf 84).run Tryd.prog w = .ok 8192 w := by kernel_rfl
theorem szReg (w : World) : (sizeOf 85).run Tryd.prog w = .ok 16 w := by kernel_rfl
theorem all_refl (n : Nat) (f : Nat → Int) : ((List.range n).all fun i => f i == f i) = true := by simp
theorem eqM_run (M : Mac) (w : World) : (Op.equalIn 10000 87 (.agg (tab 8211 (mc M))) (.agg (tab 8211 (mc M)))).run Tryd.prog w = .ok true w := by
  rw [run_equalIn_struct w 9999 _ _ _ undMac stoodMac]
  refine eqFields_refl w 9999 _ _ fun f hf => ?_
  have hm : (f.type, f.offset) ∈ (Tryd.prog.fieldsOf 87).toList.map (fun f => (f.type, f.offset)) := List.mem_map.2 ⟨f, hf, rfl⟩
  rw [fieldsMac] at hm
  simp only [List.mem_cons, Prod.mk.injEq, List.not_mem_nil, or_false] at hm
  rcases hm with ⟨h1, h2⟩ | ⟨h1, h2⟩ | ⟨h1, h2⟩ | ⟨h1, h2⟩ | ⟨h1, h2⟩ <;> rw [h1, h2]
  · refine ⟨.agg (tab 8192 fun i => .int .u64 (M.mem i)), ?_, ?_⟩
    · have e : (tab 8211 (mc M)).extract 0 (0 + 8192) = tab 8192 fun i => .int .u64 (M.mem i) := by
        rw [Mk.tab_extract _ _ _ (by decide)]
        exact tab_cong fun i hi => by unfold mc; rw [Nat.zero_add, if_pos hi]
      simp [part, aggMem, szMem, Result.andThen] at e ⊢
      exact e
    · have := run_equal_tab (P := Tryd.prog) w 9997 84 78 8192 .u64 undMem undU64 sizeU64 (fun i => M.mem i) (fun i => M.mem i)
      rw [all_refl] at this
      exact this
  · refine ⟨.agg (tab 16 fun i => .int .u64 (M.reg i)), ?_, ?_⟩
    · have e : (tab 8211 (mc M)).extract 8192 (8192 + 16) = tab 16 fun i => .int .u64 (M.reg i) := by
        rw [Mk.tab_extract _ _ _ (by decide)]
        exact tab_cong fun i hi => by unfold mc; rw [if_neg (by omega), if_pos (by omega), show 8192 + i - 8192 = i from by omega]
      simp [part, aggReg, szReg, Result.andThen] at e ⊢
      exact e
    · have := run_equal_tab (P := Tryd.prog) w 9997 85 78 16 .u64 undReg undU64 sizeU64 (fun i => M.reg i) (fun i => M.reg i)
      rw [all_refl] at this
      exact this
  · refine ⟨.int .u64 M.pc, ?_, ?_⟩
    · have := tab_at (mc M) (show 8208 < 8211 by decide)
      simp [part, aggW, Result.andThen, this]
      rfl
    · rw [run_equalIn_int w 9998 _ .u64 .u64 _ _ undU64]; simp
  · refine ⟨.bool M.halted, ?_, ?_⟩
    · have := tab_at (mc M) (show 8209 < 8211 by decide)
      simp [part, aggB, Result.andThen, this]
      rfl
    · rw [run_equalIn_bool' w 9998 _ _ _ Tryd.underlying4]; simp
  · refine ⟨.int .u64 M.exit, ?_, ?_⟩
    · have := tab_at (mc M) (show 8210 < 8211 by decide)
      simp [part, aggW, Result.andThen, this]
      rfl
    · rw [run_equalIn_int w 9998 _ .u64 .u64 _ _ undU64]; simp
theorem eqlM (M : Mac) (w : World) : (binOp .eql 87 (.agg (tab 8211 (mc M))) (.agg (tab 8211 (mc M)))).run Tryd.prog w = .ok (.bool true) w := by
  rw [run_eql_struct, eqM_run]; rfl
theorem neqM (M : Mac) (w : World) : (binOp .neq 87 (.agg (tab 8211 (mc M))) (.agg (tab 8211 (mc M)))).run Tryd.prog w = .ok (.bool false) w := by
  rw [run_neq_struct, eqM_run]; rfl
/-- A machine, loaded whole. -/
theorem loadMac {w : World} {b : Nat} {M : Mac} (h : IsMac w b M) : (Instr.loadAt 87 (.pointer (some ⟨b, 0, none⟩))).run Tryd.prog w = .ok (.agg (tab 8211 (mc M))) w := by
  refine run_loadAt_mid w b 0 _ ((List.range 8211).map (mc M)) _ (fun j v hv => ?_) undMac rfl (by rw [List.length_map, List.length_range]; exact infM')
  obtain ⟨hj, rfl⟩ := List.getElem?_eq_some_iff.1 hv
  simp only [List.length_map, List.length_range] at hj
  have := IsTab.cell h j hj
  simpa using this
theorem Step_walk (w : World) (b s : Nat) (R : World → Prop) (hC : Calls Tryd.prog 65 #[.pointer (some ⟨b, 0, none⟩), .pointer (some ⟨s, 0, none⟩)] w fun e w' => e = .returned (.tuple #[]) ∧ R w') :
    Calls Tryd.prog 36 #[.pointer (some ⟨b, 0, none⟩), .pointer (some ⟨s, 0, none⟩)] w fun e w' => e = .returned .nilIface ∧ R w' := by
  have HC := Lib.hid hC
  clear hC
  go_enter Tryd.func36, Tryd.ntmps36
  go_wp2_with (go_at_call 65; (with_reducible refine HC.out.mono ?_); rintro e y ⟨he, hr⟩; obtain rfl : e = _ := he; have HR := Lib.hid hr; clear hr HC)
  exact bodyPost_ret (v := .nilIface) (by simp [results, Tryd.results36, go_sem]) rfl ⟨rfl, HR.out⟩
end Vm
end Go.Proofs.YtdmffnjbholkkaaDoor
