/-
  vm, for layer 11: what a machine holds in memory; Load of nothing. Cut of XYe, XYg, XJa. Own work.
-/
import Derived.Test.YtjfpbponjhpdhaaDoorMn
import Derived.Test.YtjfpbponjhpdhaaDoorKept
import Derived.Test.YtjfpbponjhpdhaaDoorOt
import Derived.Laws.CopyOwn
import Derived.StillTailTactics
namespace Go.Proofs.YtjfpbponjhpdhaaDoor
open Go.RowKit
set_option linter.unusedVariables false
set_option linter.unusedSimpArgs false
namespace Wt
/-- A value of noughts alone, built. -/
theorem wpList_buildM {P : Program} {ops : Array Oper} {rest : List Oper} {o : Oper} {a : Act} {w : World} {Q : Exit → Act → World → Prop} (hg : o.guard = none) (t : TypeId) (ho : o.op = .build t #[])
    (v : Value) (hl : (Instr.build t #[]).run P w = .ok v w) (h : wpList P ops Q rest (a.put o.dst v) w) : wpList P ops Q (o :: rest) a w :=
  wpList_plain hg fun _ hK => by
    unfold Oper.wp execOp
    simp only [ho]
    simp [hl, Result.andThen]
    exact hK _ _ h
end Wt
namespace Vm
open Kc
/-- A machine, plain. -/
structure Mac where
  mem : Nat → Nat
  reg : Nat → Nat
  pc : Nat
  halted : Bool
  exit : Nat
def mc (M : Mac) : Nat → Value := fun i =>
  if i < 8192 then .int .u64 (M.mem i) else if i < 8208 then .int .u64 (M.reg (i - 8192)) else if i = 8208 then .int .u64 M.pc else if i = 8209 then .bool M.halted else .int .u64 M.exit
def m0 : Mac := ⟨fun _ => 0, fun _ => 0, 0, false, 0⟩
set_option maxRecDepth 100000 in
theorem buildM0 (w : World) : (Instr.build 37 #[]).run Tryd.prog w = .ok (.agg (tab 8211 (mc m0))) w := by kernel_rfl
theorem infM' : (Tryd.prog.info? 37).map (·.size) = some 8211 := by kernel_rfl
theorem infM (g : Nat → Value) : (Tryd.prog.info? 37).map (·.size) = some (tab 8211 g).size := by rw [tab_size]; exact infM'
/-- All its words are words. -/
structure OkM (M : Mac) : Prop where
  mem : ∀ i, M.mem i < 18446744073709551616
  reg : ∀ i, M.reg i < 18446744073709551616
  pc : M.pc < 18446744073709551616
  exit : M.exit < 18446744073709551616
/-- A block is a machine. -/
def IsMac (w : World) (b : Nat) (M : Mac) : Prop := IsTab w b 37 8211 (mc M)
section
variable {w w' : World} {b : Nat} {M M' : Mac}
theorem IsMac.mem (h : IsMac w b M) {p : Nat} (hp : p < 8192) : w.cell? ⟨b, p, none⟩ = some (.int .u64 (M.mem p)) := by
  have := h.cell p (by omega); rw [this]; unfold mc; rw [if_pos hp]
theorem IsMac.reg (h : IsMac w b M) {p : Nat} (hp : p < 16) : w.cell? ⟨b, 8192 + p, none⟩ = some (.int .u64 (M.reg p)) := by
  have := h.cell (8192 + p) (by omega); rw [this]; unfold mc; rw [if_neg (by omega), if_pos (by omega), show 8192 + p - 8192 = p from by omega]
theorem IsMac.pc (h : IsMac w b M) : w.cell? ⟨b, 8208, none⟩ = some (.int .u64 M.pc) := by
  have := h.cell 8208 (by omega); rw [this]; rfl
theorem IsMac.halted (h : IsMac w b M) : w.cell? ⟨b, 8209, none⟩ = some (.bool M.halted) := by
  have := h.cell 8209 (by omega); rw [this]; rfl
theorem IsMac.exit (h : IsMac w b M) : w.cell? ⟨b, 8210, none⟩ = some (.int .u64 M.exit) := by
  have := h.cell 8210 (by omega); rw [this]; rfl
theorem IsMac.fz (h : IsMac w b M) (i : Nat) : w.frozen? ⟨b, i, none⟩ = false := IsTab.fz h i
theorem IsMac.lt (h : IsMac w b M) : b < w.heap.size := IsTab.lt h
theorem IsMac.below (h : IsMac w b M) (hb : Below w.heap.size w w') : IsMac w' b M := IsTab.below h hb
theorem IsMac.kept {S : Nat → Prop} (h : IsMac w b M) (hk : Kept S w w') (hn : ¬ S b) : IsMac w' b M := (hk.block _ (IsTab.lt h) hn).trans h
theorem IsMac.set (h : IsMac w b M) (i : Nat) (v : Value) (he : ∀ j, j < 8211 → updv (mc M) i v j = mc M' j) : IsMac (w.setCell ⟨b, i, none⟩ v) b M' := IsTab.cong (IsTab.set h i v) he
theorem IsMac.setPc (h : IsMac w b M) (x : Nat) : IsMac (w.setCell ⟨b, 8208, none⟩ (.int .u64 (x : Int))) b { M with pc := x } := h.set 8208 _ fun j hj => by
  unfold updv mc
  by_cases e : j = 8208
  · subst e; rfl
  · rw [if_neg e]
    by_cases h1 : j < 8192
    · rw [if_pos h1, if_pos h1]
    · rw [if_neg h1, if_neg h1]
      by_cases h2 : j < 8208
      · rw [if_pos h2, if_pos h2]
      · rw [if_neg h2, if_neg h2, if_neg e, if_neg e]
theorem IsMac.setHalted (h : IsMac w b M) (x : Bool) : IsMac (w.setCell ⟨b, 8209, none⟩ (.bool x)) b { M with halted := x } := h.set 8209 _ fun j hj => by
  unfold updv mc
  by_cases e : j = 8209
  · subst e; rfl
  · rw [if_neg e]
    by_cases h1 : j < 8192
    · rw [if_pos h1, if_pos h1]
    · rw [if_neg h1, if_neg h1]
      by_cases h2 : j < 8208
      · rw [if_pos h2, if_pos h2]
      · rw [if_neg h2, if_neg h2]
        by_cases h3 : j = 8208
        · rw [if_pos h3, if_pos h3]
        · rw [if_neg h3, if_neg h3, if_neg e, if_neg e]
theorem IsMac.setExit (h : IsMac w b M) (x : Nat) : IsMac (w.setCell ⟨b, 8210, none⟩ (.int .u64 (x : Int))) b { M with exit := x } := h.set 8210 _ fun j hj => by
  unfold updv mc
  by_cases e : j = 8210
  · subst e; rfl
  · rw [if_neg e]
    by_cases h1 : j < 8192
    · rw [if_pos h1, if_pos h1]
    · rw [if_neg h1, if_neg h1]
      by_cases h2 : j < 8208
      · rw [if_pos h2, if_pos h2]
      · rw [if_neg h2, if_neg h2]
        by_cases h3 : j = 8208
        · rw [if_pos h3, if_pos h3]
        · rw [if_neg h3, if_neg h3, if_pos (by omega), if_pos (by omega)]
def setR (M : Mac) (d v : Nat) : Mac := { M with reg := fun i => if i = d then v else M.reg i }
def setM (M : Mac) (p v : Nat) : Mac := { M with mem := fun i => if i = p then v else M.mem i }
theorem IsMac.setReg (h : IsMac w b M) {d : Nat} (hd : d < 16) (v : Nat) : IsMac (w.setCell ⟨b, 8192 + d, none⟩ (.int .u64 (v : Int))) b (setR M d v) := h.set (8192 + d) _ fun j hj => by
  unfold updv mc setR
  by_cases e : j = 8192 + d
  · subst e; rw [if_pos rfl, if_neg (by omega), if_pos (by omega)]; simp
  · rw [if_neg e]
    by_cases h1 : j < 8192
    · rw [if_pos h1, if_pos h1]
    · rw [if_neg h1, if_neg h1]
      by_cases h2 : j < 8208
      · rw [if_pos h2, if_pos h2]
        simp only
        rw [if_neg (by omega)]
      · rw [if_neg h2, if_neg h2]
theorem IsMac.setMem (h : IsMac w b M) {p : Nat} (hp : p < 8192) (v : Nat) : IsMac (w.setCell ⟨b, p, none⟩ (.int .u64 (v : Int))) b (setM M p v) := h.set p _ fun j hj => by
  unfold updv mc setM
  by_cases e : j = p
  · subst e; rw [if_pos rfl, if_pos hp]; simp
  · rw [if_neg e]
    by_cases h1 : j < 8192
    · rw [if_pos h1, if_pos h1]
      simp only
      rw [if_neg e]
    · rw [if_neg h1, if_neg h1]
end
theorem kept_set {S : Nat → Prop} {a w : World} (h : Kept S a w) (q i : Nat) (hq : S q) (v : Value) : Kept S a (w.setCell ⟨q, i, none⟩ v) := h.setCell (.inl hq) v
/-- A slice of words. -/
def IsWs (w : World) (b o : Nat) (n : Nat) (g : Nat → Nat) : Prop := ∀ j, j < n → w.cell? ⟨b, o + j, none⟩ = some (.int .u64 (g j))
def loaded (n : Nat) (g : Nat → Nat) : Mac := ⟨fun i => if i < n then g i else 0, fun _ => 0, 0, false, 0⟩
theorem mc_loaded (n : Nat) (g : Nat → Nat) (hn : n ≤ 8192) (i : Nat) (hi : i < 8211) : splv (mc m0) 0 n (fun j => .int .u64 (g j)) i = mc (loaded n g) i := by
  unfold splv mc loaded m0
  by_cases h : i < n
  · rw [if_pos ⟨by omega, by omega⟩, if_pos (by omega)]
    simp [h]
  · rw [if_neg (by omega)]
    by_cases h1 : i < 8192
    · rw [if_pos h1, if_pos h1]; simp [h]
    · rw [if_neg h1, if_neg h1]
theorem slM (q : Nat) (w : World) : (Instr.sliceAt 34 (.pointer (some ⟨q, 0, none⟩)) none none none).run Tryd.prog w = .ok (.slice (some ⟨q, 0, none⟩) 8192 8192) w := by
  have hu : Tryd.prog.underlying 34 = some (.array (Tryd.prog.arrayLen 34) (Tryd.prog.elem 34)) := by kernel_rfl
  have hl : Tryd.prog.arrayLen 34 = 8192 := by kernel_rfl
  have hs : (sizeOf (Tryd.prog.elem 34)).run Tryd.prog w = .ok 1 w := by kernel_rfl
  rw [run_sliceAt_array_all w _ ⟨q, 0, none⟩ hu, hs]
  simp [slicedAt, hl, add_at]
theorem undW : Tryd.prog.underlying 23 = some (.slice 33) := by kernel_rfl
theorem sizeW : (Tryd.prog.info? 33).map (·.size) = some 1 := by kernel_rfl
theorem mc_zero (g : Nat → Nat) (i : Nat) (hi : i < 8211) : mc m0 i = mc (loaded 0 g) i := by
  unfold mc loaded m0
  simp
set_option maxHeartbeats 1000000 in
set_option maxRecDepth 100000 in
theorem load_zero (w : World) (a0 : Option Addr) (c : Nat) (g : Nat → Nat) :
    Calls Tryd.prog 7 #[.slice a0 0 c] w fun e w' => e = .returned (.tuple #[.pointer (some ⟨w.heap.size, 0, none⟩), .nilIface]) ∧ IsMac w' w.heap.size (loaded 0 g) ∧ Below w.heap.size w w' := by
  have HBM := Lib.hid (buildM0 w)
  have HT : Hid (IsTab (w.alloc (.cells (tab 8211 (mc m0)) 37)) w.heap.size 37 8211 (mc m0)) := Lib.hid (IsTab.new w _ 8211 _)
  have HB : Hid (Below w.heap.size w (w.alloc (.cells (tab 8211 (mc m0)) 37))) := Lib.hid ((Below.refl _ _).alloc (Nat.le_refl _) _)
  generalize hz : (tab 8211 (mc m0)) = ck at *
  have HZ := Lib.hid hz
  clear hz
  go_enter Tryd.func7, Tryd.ntmps7
  go_upto_region 4 with ((with_reducible refine Wt.wpList_buildM (P := Tryd.prog) (w := w) ?_ 37 ?_ (.agg ck) HBM.out ?_); (· exact rfl); (· exact rfl))
  generalize w.alloc (.cells ck 37) = y at *
  have s1 := slM w.heap.size
  generalize hq : w.heap.size = q at *
  go_upto_region 5 with (refine wpList_copy_nothing rfl (.tmp 14) (.tmp 15) 23 23 rfl 33 undW sizeW (some ⟨q, 0, none⟩) a0 8192 8192 0 c rfl rfl rfl ?_)
  have H9 : IsMac y q (loaded 0 g) := IsTab.cong HT.out fun i hi => mc_zero g i hi
  have HB9 : Below w.heap.size w y := by rw [hq]; exact HB.out
  have H9 := Lib.hid (And.intro H9 HB9)
  have HQ := Lib.hid hq
  clear hq s1
  go_wp2_with (fail)
  exact bodyPost_ret (v := .tuple #[.pointer (some ⟨q, 0, none⟩), .nilIface]) (by simp [results, Tryd.results7, go_sem]) rfl ⟨by rw [HQ.out], by rw [HQ.out]; exact H9.out.1, H9.out.2⟩
set_option maxRecDepth 1000000 in
theorem zeroMac' (w : World) : (zeroValue 37).run Tryd.prog w = .ok (.agg (tab 8211 (mc m0))) w := by kernel_rfl
theorem guardM' : Tryd.prog.eqGuardType Tryd.prog.depth 37 = false := by kernel_rfl
theorem oneCell_mc (M : Mac) (i : Nat) : (mc M i).oneCell' = true := by
  unfold mc
  repeat' split
  all_goals rfl
theorem one_mc' (M : Mac) : (tab 8211 (mc M)).all (·.oneCell') = true := by
  unfold tab
  simp [oneCell_mc]
end Vm
end Go.Proofs.YtjfpbponjhpdhaaDoor
