/-
  errors.As at targets *api.Errno and **api.Fault: Go's own text of errors.As and errors.as is walked. Own work, after the guide's worked example Toyas.
-/
import Derived.Test.YtdmffnjbholkkaaDoorRows
import Derived.Test.YtdmffnjbholkkaaDoorErr
import Derived.WalkKit
import Derived.LaidEql
import Derived.Stop.Asserts
import Derived.RowKitTokens
namespace Go.Proofs.YtdmffnjbholkkaaDoor
open Go.RowKit Go.Extern.Stop Go.Stop Go.Extern
namespace As
noncomputable def valueOfM : Array Value → Sem Value := fun args => ReflectliteValue.unpack (args.getD 0 (.tuple #[]))
noncomputable def typeM : Array Value → Sem Value := ReflectliteValue.methodAny (ReflectliteValue.valueError "reflectlite.Value.Type" 0) fun t _ _ _ => ReflectliteType.toType t
noncomputable def isNilM : Array Value → Sem Value := ReflectliteValue.method (ReflectliteValue.valueError "reflectlite.Value.IsNil" 0) ReflectliteValue.isNil
noncomputable def elemVM : Array Value → Sem Value := ReflectliteValue.method (ReflectliteValue.valueError "reflectlite.Value.Elem" 0) ReflectliteValue.elem
noncomputable def setM : Array Value → Sem Value := ReflectliteValue.set
noncomputable def kindM : Array Value → Sem Value := ReflectliteType.abiMethod fun t => do pure (.int .u8 (← Rtype.kind t))
noncomputable def elemM : Array Value → Sem Value := ReflectliteType.method ReflectliteType.elem
noncomputable def implM : Array Value → Sem Value := ReflectliteType.relation "Implements" ReflectliteType.implements_
noncomputable def asgM : Array Value → Sem Value := ReflectliteType.relation "AssignableTo" ReflectliteType.assignableTo
noncomputable def typeOfM : Array Value → Sem Value := ReflectliteType.typeOf

theorem valueOfPE (t : Addr) (w : World) : (valueOfM #[.iface 155 (.pointer (some t))]).run Tryd.prog w = .ok (.agg #[.pointer (some ⟨4, 155, none⟩), .pointer (some ⟨w.heap.size, 0, none⟩), .int .u64 150]) (w.alloc (.cells #[.pointer (some t)] 155)) := by kernel_rfl
theorem typePE (a : Addr) (w : World) : (typeM #[.agg #[.pointer (some ⟨4, 155, none⟩), .pointer (some a), .int .u64 150]]).run Tryd.prog w = .ok (.iface 173 (.agg #[.pointer (some ⟨4, 155, none⟩)])) w := by kernel_rfl
theorem kindPE (w : World) : (kindM #[.pointer (some ⟨4, 155, none⟩)]).run Tryd.prog w = .ok (.int .u8 22) w := by kernel_rfl
theorem valueOfPPF (t : Addr) (w : World) : (valueOfM #[.iface 157 (.pointer (some t))]).run Tryd.prog w = .ok (.agg #[.pointer (some ⟨4, 157, none⟩), .pointer (some ⟨w.heap.size, 0, none⟩), .int .u64 150]) (w.alloc (.cells #[.pointer (some t)] 157)) := by kernel_rfl
theorem typePPF (a : Addr) (w : World) : (typeM #[.agg #[.pointer (some ⟨4, 157, none⟩), .pointer (some a), .int .u64 150]]).run Tryd.prog w = .ok (.iface 173 (.agg #[.pointer (some ⟨4, 157, none⟩)])) w := by kernel_rfl
theorem kindPPF (w : World) : (kindM #[.pointer (some ⟨4, 157, none⟩)]).run Tryd.prog w = .ok (.int .u8 22) w := by kernel_rfl
theorem kindE (w : World) : (kindM #[.pointer (some ⟨4, 62, none⟩)]).run Tryd.prog w = .ok (.int .u8 2) w := by kernel_rfl
theorem kindPF (w : World) : (kindM #[.pointer (some ⟨4, 156, none⟩)]).run Tryd.prog w = .ok (.int .u8 22) w := by kernel_rfl
theorem methodKind (h : Value) (w : World) : (Go.method 353 173 (.agg #[h]) "Kind").run Tryd.prog w = .ok (124, h) w := by kernel_rfl
theorem methodElem (h : Value) (w : World) : (Go.method 353 173 (.agg #[h]) "Elem").run Tryd.prog w = .ok (134, .agg #[h]) w := by kernel_rfl
theorem methodImplements (h : Value) (w : World) : (Go.method 353 173 (.agg #[h]) "Implements").run Tryd.prog w = .ok (135, .agg #[h]) w := by kernel_rfl
theorem methodAssignableTo (h : Value) (w : World) : (Go.method 353 173 (.agg #[h]) "AssignableTo").run Tryd.prog w = .ok (132, .agg #[h]) w := by kernel_rfl
theorem rlm (z : Sem Value) (f : TypeId → Addr → Nat → Nat → Sem Value) (v : Value) :
    ReflectliteValue.method z f #[v] = (do match ← ReflectliteValue.parts v with | none => z | some (t, a, fl) => f t a fl (fl % 32)) := rfl
theorem partsPE (a : Addr) (w : World) : (ReflectliteValue.parts (.agg #[.pointer (some ⟨4, 155, none⟩), .pointer (some a), .int .u64 150])).run Tryd.prog w = .ok (some (155, a, 150)) w := by kernel_rfl
theorem isNilPE (a p : Addr) (W : World) (ha : W.cell? a = some (.pointer (some p))) : (isNilM #[.agg #[.pointer (some ⟨4, 155, none⟩), .pointer (some a), .int .u64 150]]).run Tryd.prog W = .ok (.bool false) W := by
  unfold isNilM
  rw [rlm]
  simp only [Sem.run_bind, partsPE, Result.andThen]
  simp [ReflectliteValue.isNil, loadVar, isAgg, underlying, Tryd.underlying155, ha, Result.andThen]
theorem elemPE (w : World) : (elemM #[.agg #[.pointer (some ⟨4, 155, none⟩)]]).run Tryd.prog w = .ok (.iface 173 (.agg #[.pointer (some ⟨4, 62, none⟩)])) w := by kernel_rfl
theorem implE (w : World) : (implM #[.agg #[.pointer (some ⟨4, 62, none⟩)], .iface 173 (.agg #[.pointer (some ⟨4, 41, none⟩)])]).run Tryd.prog w = .ok (.bool true) w := by kernel_rfl
theorem elemOfPE (w : World) : (Rtype.elem? 155).run Tryd.prog w = .ok (some 62) w := by kernel_rfl
theorem mkE (p : Addr) (w : World) : (ReflectliteValue.mk 62 p ReflectliteValue.flagAddr).run Tryd.prog w = .ok (.agg #[.pointer (some ⟨4, 62, none⟩), .pointer (some p), .int .u64 386]) w := by kernel_rfl
theorem elemVPE (a p : Addr) (W : World) (ha : W.cell? a = some (.pointer (some p))) : (elemVM #[.agg #[.pointer (some ⟨4, 155, none⟩), .pointer (some a), .int .u64 150]]).run Tryd.prog W = .ok (.agg #[.pointer (some ⟨4, 62, none⟩), .pointer (some p), .int .u64 386]) W := by
  unfold elemVM
  rw [rlm]
  simp only [Sem.run_bind, partsPE, Result.andThen]
  simp [ReflectliteValue.elem, loadVar, isAgg, underlying, Tryd.underlying155, ha, Result.andThen, elemOfPE, mkE]
theorem partsPPF (a : Addr) (w : World) : (ReflectliteValue.parts (.agg #[.pointer (some ⟨4, 157, none⟩), .pointer (some a), .int .u64 150])).run Tryd.prog w = .ok (some (157, a, 150)) w := by kernel_rfl
theorem isNilPPF (a p : Addr) (W : World) (ha : W.cell? a = some (.pointer (some p))) : (isNilM #[.agg #[.pointer (some ⟨4, 157, none⟩), .pointer (some a), .int .u64 150]]).run Tryd.prog W = .ok (.bool false) W := by
  unfold isNilM
  rw [rlm]
  simp only [Sem.run_bind, partsPPF, Result.andThen]
  simp [ReflectliteValue.isNil, loadVar, isAgg, underlying, Tryd.underlying157, ha, Result.andThen]
theorem elemPPF (w : World) : (elemM #[.agg #[.pointer (some ⟨4, 157, none⟩)]]).run Tryd.prog w = .ok (.iface 173 (.agg #[.pointer (some ⟨4, 156, none⟩)])) w := by kernel_rfl
theorem implPF (w : World) : (implM #[.agg #[.pointer (some ⟨4, 156, none⟩)], .iface 173 (.agg #[.pointer (some ⟨4, 41, none⟩)])]).run Tryd.prog w = .ok (.bool true) w := by kernel_rfl
theorem elemOfPPF (w : World) : (Rtype.elem? 157).run Tryd.prog w = .ok (some 156) w := by kernel_rfl
theorem mkPF (p : Addr) (w : World) : (ReflectliteValue.mk 156 p ReflectliteValue.flagAddr).run Tryd.prog w = .ok (.agg #[.pointer (some ⟨4, 156, none⟩), .pointer (some p), .int .u64 406]) w := by kernel_rfl
theorem elemVPPF (a p : Addr) (W : World) (ha : W.cell? a = some (.pointer (some p))) : (elemVM #[.agg #[.pointer (some ⟨4, 157, none⟩), .pointer (some a), .int .u64 150]]).run Tryd.prog W = .ok (.agg #[.pointer (some ⟨4, 156, none⟩), .pointer (some p), .int .u64 406]) W := by
  unfold elemVM
  rw [rlm]
  simp only [Sem.run_bind, partsPPF, Result.andThen]
  simp [ReflectliteValue.elem, loadVar, isAgg, underlying, Tryd.underlying157, ha, Result.andThen, elemOfPPF, mkPF]
theorem typeOfE (v : Value) (w : World) : (typeOfM #[.iface 62 v]).run Tryd.prog w = .ok (.iface 173 (.agg #[.pointer (some ⟨4, 62, none⟩)])) w := by kernel_rfl
theorem typeOfPF (v : Value) (w : World) : (typeOfM #[.iface 156 v]).run Tryd.prog w = .ok (.iface 173 (.agg #[.pointer (some ⟨4, 156, none⟩)])) w := by kernel_rfl
theorem asgEE (w : World) : (asgM #[.agg #[.pointer (some ⟨4, 62, none⟩)], .iface 173 (.agg #[.pointer (some ⟨4, 62, none⟩)])]).run Tryd.prog w = .ok (.bool true) w := by kernel_rfl
theorem asgPFE (w : World) : (asgM #[.agg #[.pointer (some ⟨4, 156, none⟩)], .iface 173 (.agg #[.pointer (some ⟨4, 62, none⟩)])]).run Tryd.prog w = .ok (.bool false) w := by kernel_rfl
theorem asgPFPF (w : World) : (asgM #[.agg #[.pointer (some ⟨4, 156, none⟩)], .iface 173 (.agg #[.pointer (some ⟨4, 156, none⟩)])]).run Tryd.prog w = .ok (.bool true) w := by kernel_rfl
theorem valueOfE (k : Int) (w : World) : (valueOfM #[.iface 62 (.int .i64 k)]).run Tryd.prog w = .ok (.agg #[.pointer (some ⟨4, 62, none⟩), .pointer (some ⟨w.heap.size, 0, none⟩), .int .u64 130]) (w.alloc (.cells #[.int .i64 k] 62)) := by kernel_rfl
theorem valueOfPF (e : Addr) (w : World) : (valueOfM #[.iface 156 (.pointer (some e))]).run Tryd.prog w = .ok (.agg #[.pointer (some ⟨4, 156, none⟩), .pointer (some ⟨w.heap.size, 0, none⟩), .int .u64 150]) (w.alloc (.cells #[.pointer (some e)] 156)) := by kernel_rfl
theorem rls (v x : Value) : ReflectliteValue.set #[v, x] = (do
    let (some (dst, a, fl), some (src, b, _)) := (← ReflectliteValue.parts v, ← ReflectliteValue.parts x)
      | unsupported (.noEntry "extern/(internal/reflectlite.Value).Set.zeroValue")
    if fl / ReflectliteValue.flagAddr % 2 == 0 then unsupported (.noEntry "extern/(internal/reflectlite.Value).Set.unaddressable")
    let val ← loadVar src b
    if ← Rtype.directlyAssignable dst src then storeVar dst a val
    else if ← Rtype.implements dst src then
      if (← Rtype.kind src) == 20 then
        match val with
        | .nilIface => unsupported (.noEntry "extern/reflectlite: a nil value of one interface type handed on as a value of another")
        | _ => storeVar dst a val
      else storeVar dst a (.iface src val)
    else panicString ("reflectlite.Set: value of type " ++ (← Rtype.spelt src) ++ " is not assignable to type " ++ (← Rtype.spelt dst))
    pure (.tuple #[])) := rfl
theorem partsEa (a : Addr) (w : World) : (ReflectliteValue.parts (.agg #[.pointer (some ⟨4, 62, none⟩), .pointer (some a), .int .u64 386])).run Tryd.prog w = .ok (some (62, a, 386)) w := by kernel_rfl
theorem partsE (a : Addr) (w : World) : (ReflectliteValue.parts (.agg #[.pointer (some ⟨4, 62, none⟩), .pointer (some a), .int .u64 130])).run Tryd.prog w = .ok (some (62, a, 130)) w := by kernel_rfl
theorem directE (w : World) : (Rtype.directlyAssignable 62 62).run Tryd.prog w = .ok true w := by kernel_rfl
theorem setE (ta b : Addr) (k : Int) (old : Value) (W : World) (hb : W.cell? b = some (.int .i64 k)) (ht : W.cell? ta = some old) (hf : W.frozen? ta = false) :
    (setM #[.agg #[.pointer (some ⟨4, 62, none⟩), .pointer (some ta), .int .u64 386], .agg #[.pointer (some ⟨4, 62, none⟩), .pointer (some b), .int .u64 130]]).run Tryd.prog W = .ok (.tuple #[]) (W.setCell ta (.int .i64 k)) := by
  unfold setM
  rw [rls]
  simp only [Sem.run_bind, partsEa, partsE, Result.andThen]
  simp [ReflectliteValue.flagAddr, loadVar, isAgg, underlying, Tryd.underlying62, hb, Result.andThen, directE, storeVar, Value.cells, storeCells, Addr.add]
  rw [run_store Tryd.prog W ta _ _ (by rfl)]
  simp [ht, hf]
theorem partsPFa (a : Addr) (w : World) : (ReflectliteValue.parts (.agg #[.pointer (some ⟨4, 156, none⟩), .pointer (some a), .int .u64 406])).run Tryd.prog w = .ok (some (156, a, 406)) w := by kernel_rfl
theorem partsPF (a : Addr) (w : World) : (ReflectliteValue.parts (.agg #[.pointer (some ⟨4, 156, none⟩), .pointer (some a), .int .u64 150])).run Tryd.prog w = .ok (some (156, a, 150)) w := by kernel_rfl
theorem directPF (w : World) : (Rtype.directlyAssignable 156 156).run Tryd.prog w = .ok true w := by kernel_rfl
theorem setPF (ta b : Addr) (e : Addr) (old : Value) (W : World) (hb : W.cell? b = some (.pointer (some e))) (ht : W.cell? ta = some old) (hf : W.frozen? ta = false) :
    (setM #[.agg #[.pointer (some ⟨4, 156, none⟩), .pointer (some ta), .int .u64 406], .agg #[.pointer (some ⟨4, 156, none⟩), .pointer (some b), .int .u64 150]]).run Tryd.prog W = .ok (.tuple #[]) (W.setCell ta (.pointer (some e))) := by
  unfold setM
  rw [rls]
  simp only [Sem.run_bind, partsPFa, partsPF, Result.andThen]
  simp [ReflectliteValue.flagAddr, loadVar, isAgg, underlying, Tryd.underlying156, hb, Result.andThen, directPF, storeVar, Value.cells, storeCells, Addr.add]
  rw [run_store Tryd.prog W ta _ _ (by rfl)]
  simp [ht, hf]
theorem noAsF (v : Value) (xT : TypeId) (w : World) : (Instr.typeAssert (.iface 156 v) xT 211 true).run Tryd.prog w = .ok (.tuple #[.nilIface, .bool false]) w := run_typeAssert_lacksB Tryd.underlying211 (by kernel_rfl) (by kernel_rfl) v xT w
theorem hasUnwrapF (v : Value) (xT : TypeId) (w : World) : (Instr.typeAssert (.iface 156 v) xT 178 true).run Tryd.prog w = .ok (.tuple #[.iface 156 v, .bool true]) w := run_typeAssert_hasB Tryd.underlying178 (by kernel_rfl) v xT w

end As
end Go.Proofs.YtdmffnjbholkkaaDoor
