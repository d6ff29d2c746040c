/- Merged of Ot Cm Cp Za. Own work. -/
import Derived.Test.YtjfpbponjhpdhaaDoorP06
import Derived.Test.YtjfpbponjhpdhaaDoorP01
import Derived.Laws.CopyOwn
import Derived.StillTailTactics
import Derived.Deep.WholeRow
import Derived.Laws.Tables
import Derived.Laws.Rows
import Derived.Test.YtjfpbponjhpdhaaDoorP05
import Derived.DeepKeys4
import Derived.Maps.Keyed
import Derived.Carry
namespace Go.Proofs.YtjfpbponjhpdhaaDoor
open Go.RowKit
set_option linter.unusedVariables false
/-- A slot written, as a list. -/
theorem pS.{u} : (∀ {α : Type u} (l : List α) (i : Nat) (a : α), l.toArray.setIfInBounds i a = (l.set i a).toArray) ∧ (∀ {α : Type u} (a b : α) (l : List α), (a :: l).set 0 b = b :: l) ∧ (∀ {α : Type u} (a b : α) (l : List α) (i : Nat), (a :: l).set (i + 1) b = a :: l.set i b) :=
  ⟨fun l i a => List.setIfInBounds_toArray .., fun a b l => rfl, fun a b l i => rfl⟩
inductive OG where
  | done : OG
  | take : Nat → OG → OG
  | one : Nat → OG → OG
  | two : Nat → OG → Nat → OG → OG
def OG.size : OG → Nat
  | .done => 0
  | .take _ r => r.size + 1
  | .one _ r => r.size + 1
  | .two _ r _ _ => r.size + 1
section
variable {P : Program} {ops : Array Oper} {Q : Exit → Act → World → Prop} {S : World → Prop}
def wpOg (P : Program) (ops : Array Oper) (Q : Exit → Act → World → Prop) : OG → (World → Prop) → Act → World → Prop
  | .done, _, a, w => Q .normal a w
  | .take k r, S, a, w => ∃ o v, ops[k]? = some o ∧ YieldsIf P ops S o v a ∧ wpOg P ops Q r S (a.put o.dst v) w
  | .one k r, S, a, w => ∃ o, ops[k]? = some o ∧ Region.wanted o (yielded ops a.tmps) = true ∧ o.wp P a w (fun a' w' => ∃ S' : World → Prop, (∀ y, S' y → S y) ∧ S' w' ∧ wpOg P ops Q r S' a' w') Q
  | .two k r m t, S, a, w => (∃ o, ops[k]? = some o ∧ Region.wanted o (yielded ops a.tmps) = true ∧ o.wp P a w (fun a' w' => ∃ S' : World → Prop, (∀ y, S' y → S y) ∧ S' w' ∧ wpOg P ops Q r S' a' w') Q) ∧
      (∃ o, ops[m]? = some o ∧ Region.wanted o (yielded ops a.tmps) = true ∧ o.wp P a w (fun a' w' => ∃ S' : World → Prop, (∀ y, S' y → S y) ∧ S' w' ∧ wpOg P ops Q t S' a' w') Q)
theorem og_done {a : Act} {w : World} (h : Q .normal a w) : wpOg P ops Q .done S a w := h
theorem og_t {k : Nat} {r : OG} {o : Oper} {v : Value} {a : Act} {w : World} (ho : ops[k]? = some o) (hw : Region.wanted o (yielded ops a.tmps) = true)
    (hy : ∀ w, S w → (execOp a.eval o).run P w = .ok (.value v) w) (h : wpOg P ops Q r S (a.put o.dst v) w) : wpOg P ops Q (.take k r) S a w :=
  ⟨o, v, ho, .inl ⟨hw, hy⟩, h⟩
theorem og_tk {k : Nat} {r : OG} {o : Oper} {a : Act} {w : World} (d : Option Tmp) (v : Value) (ho : ops[k]? = some o) (hd : o.dst = d) (hw : Region.wanted o (yielded ops a.tmps) = true)
    (hy : ∀ w, S w → (execOp a.eval o).run P w = .ok (.value v) w) (h : wpOg P ops Q r S (a.put d v) w) : wpOg P ops Q (.take k r) S a w :=
  og_t ho hw hy (by rw [hd]; exact h)
theorem og_ld {k : Nat} {r : OG} {o : Oper} {a : Act} {w : World} (d : Option Tmp) (ty : TypeId) (x : Operand) (p v : Value) (ho : ops[k]? = some o) (hd : o.dst = d) (hw : Region.wanted o (yielded ops a.tmps) = true) (hop : o.op = .load ty x) (hx : a.eval x = p)
    (hl : ∀ w, S w → (Instr.loadAt ty p).run P w = .ok v w) (h : wpOg P ops Q r S (a.put d v) w) : wpOg P ops Q (.take k r) S a w :=
  og_tk d v ho hd hw (fun w hw => by unfold execOp; simp only [hop, hx]; simp [hl w hw, Result.andThen]) h
theorem og_of {k : Nat} {r : OG} {o : Oper} {a : Act} {w : World} (ho : ops[k]? = some o) (hw : Region.wanted o (yielded ops a.tmps) = true)
    (h : ∀ K : Act → World → Prop, (∀ a' w', S w' → wpOg P ops Q r S a' w' → K a' w') → o.wp P a w K Q) :
    ∃ o, ops[k]? = some o ∧ Region.wanted o (yielded ops a.tmps) = true ∧ o.wp P a w (fun a' w' => ∃ S' : World → Prop, (∀ y, S' y → S y) ∧ S' w' ∧ wpOg P ops Q r S' a' w') Q :=
  ⟨o, ho, hw, h _ fun _ _ h1 h2 => ⟨S, fun _ h => h, h1, h2⟩⟩
theorem og_f {k : Nat} {r : OG} {o : Oper} {a : Act} {w : World} (ho : ops[k]? = some o) (hw : Region.wanted o (yielded ops a.tmps) = true)
    (h : ∀ K : Act → World → Prop, (∀ a' w', S w' → wpOg P ops Q r S a' w' → K a' w') → o.wp P a w K Q) : wpOg P ops Q (.one k r) S a w := og_of ho hw h
theorem og_two {k m : Nat} {r t : OG} {a : Act} {w : World}
    (h1 : ∃ o, ops[k]? = some o ∧ Region.wanted o (yielded ops a.tmps) = true ∧ o.wp P a w (fun a' w' => ∃ S' : World → Prop, (∀ y, S' y → S y) ∧ S' w' ∧ wpOg P ops Q r S' a' w') Q)
    (h2 : ∃ o, ops[m]? = some o ∧ Region.wanted o (yielded ops a.tmps) = true ∧ o.wp P a w (fun a' w' => ∃ S' : World → Prop, (∀ y, S' y → S y) ∧ S' w' ∧ wpOg P ops Q t S' a' w') Q) : wpOg P ops Q (.two k r m t) S a w := ⟨h1, h2⟩
def ogB (ops : Array Oper) : OG → Array Bool → Bool
  | .done, l => (Region.ready .any ops l).isEmpty
  | .take k r, l => (Region.ready .any ops l).contains k && Region.free .any ops l k && ogB ops r (l.setIfInBounds k true)
  | .one k r, l => decide (Region.ready .any ops l = [k]) && ogB ops r (l.setIfInBounds k true)
  | .two k r m t, l => decide (Region.ready .any ops l = [k, m]) && decide (r.size = t.size) && ogB ops r (l.setIfInBounds k true) && ogB ops t (l.setIfInBounds m true)
theorem og_any (hs : Region.noSelect ops = true) (hQ : ∀ c a d v w, Q (.panic c) (a.put d v) w → Q (.panic c) a w) : ∀ (l : OG) (listed : Array Bool) (S : World → Prop) (a : Act) (w : World), S w →
    ogB ops l listed = true → wpOg P ops Q l S a w → wpAnyH P .any ops Q S l.size listed a w
  | .done, _, _, _, _, _, hB, h => ⟨by simpa [ogB] using hB, h⟩
  | .take k r, listed, S, a, w, hS, hB, ⟨o, v, h0, hy, h⟩ => by
    simp only [ogB, Bool.and_eq_true] at hB
    exact wpAnyH_take h0 hs hB.1.2 hB.1.1 (fun c a w => hQ c a _ _ w) hy hS (og_any hs hQ r _ _ _ _ hS hB.2 h)
  | .one k r, listed, S, a, w, hS, hB, ⟨o, h0, hw, h⟩ => by
    simp only [ogB, Bool.and_eq_true, decide_eq_true_eq] at hB
    refine wpAnyH_all hB.1 (by simp) fun i hi => ?_
    have hik : i = k := by simpa using hi
    subst hik
    unfold wpOp
    simp only [h0]
    rw [if_pos hw]
    exact .inl (Oper.wp_mono (fun a' w' ⟨S', h1, h2, h3⟩ => ⟨h1 _ h2, wpAnyH_weaken h1 _ _ _ _ (og_any hs hQ r _ S' _ _ h2 hB.2 h3)⟩) h)
  | .two k r m t, listed, S, a, w, hS, hB, ⟨⟨o, h0, hw, h⟩, ⟨o2, h02, hw2, h2⟩⟩ => by
    simp only [ogB, Bool.and_eq_true, decide_eq_true_eq] at hB
    refine wpAnyH_all hB.1.1.1 (by simp) fun i hi => ?_
    have hik : i = k ∨ i = m := by simpa using hi
    rcases hik with e | e
    · subst e
      unfold wpOp
      simp only [h0]
      rw [if_pos hw]
      exact .inl (Oper.wp_mono (fun a' w' ⟨S', g1, g2, g3⟩ => ⟨g1 _ g2, wpAnyH_weaken g1 _ _ _ _ (og_any hs hQ r _ S' _ _ g2 hB.1.2 g3)⟩) h)
    · subst e
      unfold wpOp
      simp only [h02]
      rw [if_pos hw2]
      exact .inl (Oper.wp_mono (fun a' w' ⟨S', g1, g2, g3⟩ => ⟨g1 _ g2, wpAnyH_weaken g1 _ _ _ _ (by have h3 := og_any hs hQ t _ S' _ _ g2 hB.2 g3; rw [← hB.1.1.2] at h3; exact h3)⟩) h2)
theorem wp_region_og {id : Nat} {a : Act} {w : World} {l : List Oper} (S : World → Prop) (t : OG) (hm : P.follows .mixedOrders = true) (hB : (decide (t.size = l.length) && Region.noSelect l.toArray && ogB l.toArray t (Array.replicate l.length false)) = true) (hS : S w.drew)
    (h : wpOg P l.toArray (NoPanic Q) t S a w.drew) : (Code.region id l.toArray true).wp P Q a w := by
  refine wp_region_noPanic ?_
  have hQ : ∀ c a d v w, NoPanic Q (.panic c) (a.put d v) w → NoPanic Q (.panic c) a w := fun _ _ _ _ _ h => h
  simp only [Bool.and_eq_true, decide_eq_true_eq] at hB
  refine wp_region_held (S := S) hm ?_
  have h1 := og_any (P := P) (Q := NoPanic Q) (ops := l.toArray) hB.1.2 hQ t (Array.replicate l.length false) S a w.drew hS hB.2 h
  rw [hB.1.1] at h1
  simpa using h1
end
end Go.Proofs.YtjfpbponjhpdhaaDoor
namespace Go.Proofs.YtjfpbponjhpdhaaDoor
open Go.RowKit
set_option linter.unusedVariables false
set_option linter.unusedSimpArgs false
namespace Wt
/-- A value of noughts alone, built. -/
theorem wpList_buildM {P : Program} {ops : Array Oper} {rest : List Oper} {o : Oper} {a : Act} {w : World} {Q : Exit → Act → World → Prop} (hg : o.guard = none) (t : TypeId) (ho : o.op = .build t #[])
    (v : Value) (hl : (Instr.build t #[]).run P w = .ok v w) (h : wpList P ops Q rest (a.put o.dst v) w) : wpList P ops Q (o :: rest) a w :=
  wpList_plain hg fun _ hK => by
    unfold Oper.wp execOp
    simp only [ho]
    simp [hl, Result.andThen]
    exact hK _ _ h
end Wt
namespace Vm
open Kc
/-- A machine, plain. -/
structure Mac where
  mem : Nat → Nat
  reg : Nat → Nat
  pc : Nat
  halted : Bool
  exit : Nat
def mc (M : Mac) : Nat → Value := fun i =>
  if i < 8192 then .int .u64 (M.mem i) else if i < 8208 then .int .u64 (M.reg (i - 8192)) else if i = 8208 then .int .u64 M.pc else if i = 8209 then .bool M.halted else .int .u64 M.exit
def m0 : Mac := ⟨fun _ => 0, fun _ => 0, 0, false, 0⟩
set_option maxRecDepth 100000 in
theorem buildM0 (w : World) : (Instr.build 37 #[]).run Tryd.prog w = .ok (.agg (tab 8211 (mc m0))) w := by kernel_rfl
theorem infM' : (Tryd.prog.info? 37).map (·.size) = some 8211 := by kernel_rfl
theorem infM (g : Nat → Value) : (Tryd.prog.info? 37).map (·.size) = some (tab 8211 g).size := by rw [tab_size]; exact infM'
/-- All its words are words. -/
structure OkM (M : Mac) : Prop where
  mem : ∀ i, M.mem i < 18446744073709551616
  reg : ∀ i, M.reg i < 18446744073709551616
  pc : M.pc < 18446744073709551616
  exit : M.exit < 18446744073709551616
/-- A block is a machine. -/
def IsMac (w : World) (b : Nat) (M : Mac) : Prop := IsTab w b 37 8211 (mc M)
section
variable {w w' : World} {b : Nat} {M M' : Mac}
theorem IsMac.mem (h : IsMac w b M) {p : Nat} (hp : p < 8192) : w.cell? ⟨b, p, none⟩ = some (.int .u64 (M.mem p)) := by
  have := h.cell p (by omega); rw [this]; unfold mc; rw [if_pos hp]
theorem IsMac.reg (h : IsMac w b M) {p : Nat} (hp : p < 16) : w.cell? ⟨b, 8192 + p, none⟩ = some (.int .u64 (M.reg p)) := by
  have := h.cell (8192 + p) (by omega); rw [this]; unfold mc; rw [if_neg (by omega), if_pos (by omega), show 8192 + p - 8192 = p from by omega]
theorem IsMac.pc (h : IsMac w b M) : w.cell? ⟨b, 8208, none⟩ = some (.int .u64 M.pc) := by
  have := h.cell 8208 (by omega); rw [this]; rfl
theorem IsMac.halted (h : IsMac w b M) : w.cell? ⟨b, 8209, none⟩ = some (.bool M.halted) := by
  have := h.cell 8209 (by omega); rw [this]; rfl
theorem IsMac.exit (h : IsMac w b M) : w.cell? ⟨b, 8210, none⟩ = some (.int .u64 M.exit) := by
  have := h.cell 8210 (by omega); rw [this]; rfl
theorem IsMac.fz (h : IsMac w b M) (i : Nat) : w.frozen? ⟨b, i, none⟩ = false := IsTab.fz h i
theorem IsMac.lt (h : IsMac w b M) : b < w.heap.size := IsTab.lt h
theorem IsMac.below (h : IsMac w b M) (hb : Below w.heap.size w w') : IsMac w' b M := IsTab.below h hb
theorem IsMac.kept {S : Nat → Prop} (h : IsMac w b M) (hk : Kept S w w') (hn : ¬ S b) : IsMac w' b M := (hk.block _ (IsTab.lt h) hn).trans h
theorem IsMac.set (h : IsMac w b M) (i : Nat) (v : Value) (he : ∀ j, j < 8211 → updv (mc M) i v j = mc M' j) : IsMac (w.setCell ⟨b, i, none⟩ v) b M' := IsTab.cong (IsTab.set h i v) he
theorem IsMac.setPc (h : IsMac w b M) (x : Nat) : IsMac (w.setCell ⟨b, 8208, none⟩ (.int .u64 (x : Int))) b { M with pc := x } := h.set 8208 _ fun j hj => by
  unfold updv mc
  by_cases e : j = 8208
  · subst e; rfl
  · rw [if_neg e]
    by_cases h1 : j < 8192
    · rw [if_pos h1, if_pos h1]
    · rw [if_neg h1, if_neg h1]
      by_cases h2 : j < 8208
      · rw [if_pos h2, if_pos h2]
      · rw [if_neg h2, if_neg h2, if_neg e, if_neg e]
theorem IsMac.setHalted (h : IsMac w b M) (x : Bool) : IsMac (w.setCell ⟨b, 8209, none⟩ (.bool x)) b { M with halted := x } := h.set 8209 _ fun j hj => by
  unfold updv mc
  by_cases e : j = 8209
  · subst e; rfl
  · rw [if_neg e]
    by_cases h1 : j < 8192
    · rw [if_pos h1, if_pos h1]
    · rw [if_neg h1, if_neg h1]
      by_cases h2 : j < 8208
      · rw [if_pos h2, if_pos h2]
      · rw [if_neg h2, if_neg h2]
        by_cases h3 : j = 8208
        · rw [if_pos h3, if_pos h3]
        · rw [if_neg h3, if_neg h3, if_neg e, if_neg e]
theorem IsMac.setExit (h : IsMac w b M) (x : Nat) : IsMac (w.setCell ⟨b, 8210, none⟩ (.int .u64 (x : Int))) b { M with exit := x } := h.set 8210 _ fun j hj => by
  unfold updv mc
  by_cases e : j = 8210
  · subst e; rfl
  · rw [if_neg e]
    by_cases h1 : j < 8192
    · rw [if_pos h1, if_pos h1]
    · rw [if_neg h1, if_neg h1]
      by_cases h2 : j < 8208
      · rw [if_pos h2, if_pos h2]
      · rw [if_neg h2, if_neg h2]
        by_cases h3 : j = 8208
        · rw [if_pos h3, if_pos h3]
        · rw [if_neg h3, if_neg h3, if_pos (by omega), if_pos (by omega)]
def setR (M : Mac) (d v : Nat) : Mac := { M with reg := fun i => if i = d then v else M.reg i }
def setM (M : Mac) (p v : Nat) : Mac := { M with mem := fun i => if i = p then v else M.mem i }
theorem IsMac.setReg (h : IsMac w b M) {d : Nat} (hd : d < 16) (v : Nat) : IsMac (w.setCell ⟨b, 8192 + d, none⟩ (.int .u64 (v : Int))) b (setR M d v) := h.set (8192 + d) _ fun j hj => by
  unfold updv mc setR
  by_cases e : j = 8192 + d
  · subst e; rw [if_pos rfl, if_neg (by omega), if_pos (by omega)]; simp
  · rw [if_neg e]
    by_cases h1 : j < 8192
    · rw [if_pos h1, if_pos h1]
    · rw [if_neg h1, if_neg h1]
      by_cases h2 : j < 8208
      · rw [if_pos h2, if_pos h2]
        simp only
        rw [if_neg (by omega)]
      · rw [if_neg h2, if_neg h2]
theorem IsMac.setMem (h : IsMac w b M) {p : Nat} (hp : p < 8192) (v : Nat) : IsMac (w.setCell ⟨b, p, none⟩ (.int .u64 (v : Int))) b (setM M p v) := h.set p _ fun j hj => by
  unfold updv mc setM
  by_cases e : j = p
  · subst e; rw [if_pos rfl, if_pos hp]; simp
  · rw [if_neg e]
    by_cases h1 : j < 8192
    · rw [if_pos h1, if_pos h1]
      simp only
      rw [if_neg e]
    · rw [if_neg h1, if_neg h1]
end
theorem kept_set {S : Nat → Prop} {a w : World} (h : Kept S a w) (q i : Nat) (hq : S q) (v : Value) : Kept S a (w.setCell ⟨q, i, none⟩ v) := h.setCell (.inl hq) v
/-- A slice of words. -/
def IsWs (w : World) (b o : Nat) (n : Nat) (g : Nat → Nat) : Prop := ∀ j, j < n → w.cell? ⟨b, o + j, none⟩ = some (.int .u64 (g j))
def loaded (n : Nat) (g : Nat → Nat) : Mac := ⟨fun i => if i < n then g i else 0, fun _ => 0, 0, false, 0⟩
theorem mc_loaded (n : Nat) (g : Nat → Nat) (hn : n ≤ 8192) (i : Nat) (hi : i < 8211) : splv (mc m0) 0 n (fun j => .int .u64 (g j)) i = mc (loaded n g) i := by
  unfold splv mc loaded m0
  by_cases h : i < n
  · rw [if_pos ⟨by omega, by omega⟩, if_pos (by omega)]
    simp [h]
  · rw [if_neg (by omega)]
    by_cases h1 : i < 8192
    · rw [if_pos h1, if_pos h1]; simp [h]
    · rw [if_neg h1, if_neg h1]
theorem slM (q : Nat) (w : World) : (Instr.sliceAt 34 (.pointer (some ⟨q, 0, none⟩)) none none none).run Tryd.prog w = .ok (.slice (some ⟨q, 0, none⟩) 8192 8192) w := by
  have hu : Tryd.prog.underlying 34 = some (.array (Tryd.prog.arrayLen 34) (Tryd.prog.elem 34)) := by kernel_rfl
  have hl : Tryd.prog.arrayLen 34 = 8192 := by kernel_rfl
  have hs : (sizeOf (Tryd.prog.elem 34)).run Tryd.prog w = .ok 1 w := by kernel_rfl
  rw [run_sliceAt_array_all w _ ⟨q, 0, none⟩ hu, hs]
  simp [slicedAt, hl, add_at]
theorem undW : Tryd.prog.underlying 23 = some (.slice 33) := by kernel_rfl
theorem sizeW : (Tryd.prog.info? 33).map (·.size) = some 1 := by kernel_rfl
theorem mc_zero (g : Nat → Nat) (i : Nat) (hi : i < 8211) : mc m0 i = mc (loaded 0 g) i := by
  unfold mc loaded m0
  simp
set_option maxHeartbeats 1000000 in
set_option maxRecDepth 100000 in
theorem load_zero (w : World) (a0 : Option Addr) (c : Nat) (g : Nat → Nat) :
    Calls Tryd.prog 7 #[.slice a0 0 c] w fun e w' => e = .returned (.tuple #[.pointer (some ⟨w.heap.size, 0, none⟩), .nilIface]) ∧ IsMac w' w.heap.size (loaded 0 g) ∧ Below w.heap.size w w' := by
  have HBM := Lib.hid (buildM0 w)
  have HT : Hid (IsTab (w.alloc (.cells (tab 8211 (mc m0)) 37)) w.heap.size 37 8211 (mc m0)) := Lib.hid (IsTab.new w _ 8211 _)
  have HB : Hid (Below w.heap.size w (w.alloc (.cells (tab 8211 (mc m0)) 37))) := Lib.hid ((Below.refl _ _).alloc (Nat.le_refl _) _)
  generalize hz : (tab 8211 (mc m0)) = ck at *
  have HZ := Lib.hid hz
  clear hz
  go_enter Tryd.func7, Tryd.ntmps7
  go_upto_region 4 with ((with_reducible refine Wt.wpList_buildM (P := Tryd.prog) (w := w) ?_ 37 ?_ (.agg ck) HBM.out ?_); (· exact rfl); (· exact rfl))
  generalize w.alloc (.cells ck 37) = y at *
  have s1 := slM w.heap.size
  generalize hq : w.heap.size = q at *
  go_upto_region 5 with (refine wpList_copy_nothing rfl (.tmp 14) (.tmp 15) 23 23 rfl 33 undW sizeW (some ⟨q, 0, none⟩) a0 8192 8192 0 c rfl rfl rfl ?_)
  have H9 : IsMac y q (loaded 0 g) := IsTab.cong HT.out fun i hi => mc_zero g i hi
  have HB9 : Below w.heap.size w y := by rw [hq]; exact HB.out
  have H9 := Lib.hid (And.intro H9 HB9)
  have HQ := Lib.hid hq
  clear hq s1
  go_wp2_with (fail)
  exact bodyPost_ret (v := .tuple #[.pointer (some ⟨q, 0, none⟩), .nilIface]) (by simp [results, Tryd.results7, go_sem]) rfl ⟨by rw [HQ.out], by rw [HQ.out]; exact H9.out.1, H9.out.2⟩
set_option maxRecDepth 1000000 in
theorem zeroMac' (w : World) : (zeroValue 37).run Tryd.prog w = .ok (.agg (tab 8211 (mc m0))) w := by kernel_rfl
theorem oneCell_mc (M : Mac) (i : Nat) : (mc M i).oneCell' = true := by
  unfold mc
  repeat' split
  all_goals rfl
theorem one_mc' (M : Mac) : (tab 8211 (mc M)).all (·.oneCell') = true := by
  unfold tab
  simp [oneCell_mc]
end Vm
end Go.Proofs.YtjfpbponjhpdhaaDoor
namespace Go.Proofs.YtjfpbponjhpdhaaDoor
open Go.RowKit
set_option linter.unusedVariables false
set_option linter.unusedSimpArgs false
namespace Rl
open Kc (tab IsTab)
/-- A word's byte. -/
def byteOf (v j : Nat) : Nat := v / 2 ^ (56 - 8 * j) % 256
def ub (z : Nat) : Value := .int .u8 z
/-- Words laid over a row of bytes. -/
def putv (g : Nat → Value) (p v m : Nat) : Nat → Value := fun j => if 8 * p ≤ j ∧ j < 8 * p + m then ub (byteOf v (j - 8 * p)) else g j
theorem putv_next (g : Nat → Value) (p v m : Nat) : Kc.updv (putv g p v m) (8 * p + m) (ub (byteOf v m)) = putv g p v (m + 1) := by
  funext j
  unfold Kc.updv putv
  by_cases h : j = 8 * p + m
  · subst h
    rw [if_pos rfl, if_pos ⟨by omega, by omega⟩, show 8 * p + m - 8 * p = m by omega]
  · rw [if_neg h]
    by_cases h2 : 8 * p ≤ j ∧ j < 8 * p + m
    · rw [if_pos h2, if_pos ⟨h2.1, by omega⟩]
    · rw [if_neg h2, if_neg (by omega)]
theorem putv_zero (g : Nat → Value) (p v : Nat) : putv g p v 0 = g := by
  funext j; unfold putv; rw [if_neg (by omega)]
/-- What Put's loop keeps. -/
structure Put (w : World) (q T n : Nat) (g : Nat → Value) (y : World) : Prop where
  row : IsTab y q T n g
  kept : Kept (fun b => b = q) w y
theorem Put.set {w y : World} {q T n : Nat} {g : Nat → Value} (h : Put w q T n g y) (i : Nat) (x : Value) : Put w q T n (Kc.updv g i x) (y.setCell ⟨q, i, none⟩ x) :=
  ⟨h.row.set i x, h.kept.setCell (.inl rfl) _⟩
set_option maxHeartbeats 2000000 in
set_option maxRecDepth 100000 in
theorem put_walk (w : World) (q T N c : Nat) (g : Nat → Value) (p v : Nat) (h : IsTab w q T N g) (hp : 8 * p + 8 ≤ N) (hN : N ≤ 64) (hv : v < 18446744073709551616) :
    Calls Tryd.prog 49 #[.slice (some ⟨q, 0, none⟩) N c, .int .i64 p, .int .u64 v] w fun e w' => e = .returned (.tuple #[]) ∧ Put w q T N (putv g p v 8) w' := by
  have HP : Hid (Put w q T N (putv g p v 0) w) := Lib.hid ⟨by rw [putv_zero]; exact h, Kept.refl _ _⟩
  have HN := Lib.hid (And.intro hp hN)
  have HV := Lib.hid hv
  have e1 : wrap64 (8 * (p : Int)) = ((8 * p : Nat) : Int) := by unfold wrap64; omega
  have HE := Lib.hid e1
  clear h hp hN hv
  go_enter Tryd.func49, Tryd.ntmps49
  go_wp2_with (fail)
  go_loopw [7] (fun i y => ∃ j : Nat, i = .int .i64 j ∧ Hid (j ≤ 8 ∧ Put w q T N (putv g p v j) y)) (fun i _ => 8 - (intOf i).toNat)
  case atStart => exact ⟨0, rfl, Lib.hid ⟨Nat.zero_le _, HP.out⟩⟩
  case round =>
    obtain ⟨j, rfl, hp⟩ := hrel
    have HR := Lib.hid hp.out
    clear hp HP e1
    by_cases hlt : (j : Int) < 8
    · have e1 := HE.out
      have x1 := HR.out.2.row.cell (8 * p + j) (by have := HN.out; omega)
      have x2 := HR.out.2.row.fz (8 * p + j)
      have HJ := Lib.hid (And.intro (show j < 8 by omega) (show wrap64 ((j : Int) + 1) = ((j + 1 : Nat) : Int) by unfold wrap64; omega))
      obtain ⟨P, hP⟩ : ∃ P, 8 * p = P := ⟨_, rfl⟩
      obtain ⟨J, hJ⟩ : ∃ J, P + j = J := ⟨_, rfl⟩
      rw [hP] at e1 x1 x2
      rw [hJ] at x1 x2
      have e2 : wrap64 ((P : Int) + j) = (J : Int) := by have := HN.out; unfold wrap64; omega
      have e3 : wrap64 (8 * (j : Int)) = ((8 * j : Nat) : Int) := by unfold wrap64; omega
      have e4 : wrap64 (56 - ((8 * j : Nat) : Int)) = ((56 - 8 * j : Nat) : Int) := by unfold wrap64; omega
      have e5 : (J : Int) < N := by have := HN.out; omega
      go_wp2_with (fail)
      refine ⟨⟨j + 1, by simp, Lib.hid ⟨HJ.out.1, ?_⟩⟩, by simp [intOf]; omega⟩
      have h9 := HR.out.2.set (8 * p + j) (ub (byteOf v j))
      rw [putv_next] at h9
      rw [hP, hJ] at h9
      have e9 : ub (byteOf v j) = .int .u8 ((v : Int) / 2 ^ (56 - 8 * j) % 256) := by unfold ub byteOf; push_cast; rfl
      rw [← e9]; exact h9
    · obtain rfl : j = 8 := by have := HR.out.1; omega
      go_wp2_with (fail)
      exact bodyPost_end (v := .tuple #[]) (by simp [results, Tryd.results49, go_sem]) rfl ⟨rfl, HR.out.2⟩
end Rl
end Go.Proofs.YtjfpbponjhpdhaaDoor
namespace Go.Proofs.YtjfpbponjhpdhaaDoor
open Go.RowKit
set_option linter.unusedVariables false
set_option linter.unusedSimpArgs false
namespace Wt
open Kc Mk
theorem laidOutP : laidOutB Tryd.prog = true := by kernel_rfl
theorem rowKH : (42 : TypeId) < Tryd.prog.types.size := of_decide_eq_true (by kernel_rfl)
theorem lawH : WideMaps.KeyLaw Tryd.prog 42 := deep_law_laid laidOutP (m := 2) (by omega) rowKH (by kernel_rfl) (by kernel_rfl)
theorem mapM_some {α β : Type} {f : α → Option β} {g : α → β} : ∀ (l : List α), (∀ a ∈ l, f a = some (g a)) → l.mapM f = some (l.map g)
  | [], _ => rfl
  | a :: l, h => by
    rw [List.mapM_cons, h a (by simp), mapM_some l (fun x hx => h x (by simp [hx]))]
    rfl
theorem wfB (x : Bt) : (Lit.int .u8 (Bv x)).wf = true := by
  have := Bv_bd x
  have h1 : IntKind.u8.min = 0 := rfl
  have h2 : IntKind.u8.max = 255 := rfl
  simp only [Lit.wf, h1, h2, Bool.and_eq_true, decide_eq_true_eq]
  omega
theorem typesSucc : ∃ m, Tryd.prog.types.size = m + 1 := ⟨Tryd.prog.types.size - 1, by have : 0 < Tryd.prog.types.size := of_decide_eq_true (by kernel_rfl); omega⟩
theorem cellsU8 : Tryd.prog.cellsOf 5 = 1 := by kernel_rfl
theorem cellsHh : Tryd.prog.cellsOf 42 = 32 := by kernel_rfl
theorem keyTypeH : Tryd.prog.keyType 42 = true := by kernel_rfl
theorem keyH (x : Hx) : keyOf Tryd.prog 42 (dv x) = some (.string (keyBytes (((List.range 32).map fun i => [Lit.int .u8 (Bv (x i))]).flatten))) := by
  obtain ⟨m, hm⟩ := typesSucc
  have hf : (dv x).formed Tryd.prog 42 = true := by simp [dv, Value.formed, undH, cellsHh, tab_size]
  have hl : Tryd.prog.keyLits (Tryd.prog.types.size + 1) 42 (dv x).cells.toList = some (((List.range 32).map fun i => [Lit.int .u8 (Bv (x i))]).flatten) := by
    unfold Program.keyLits
    simp only [undH]
    have hlen : (dv x).cells.toList.length = Tryd.prog.cellsOf 42 := by rw [cellsHh]; simp [dv, Value.cells, tab]
    rw [if_pos hlen, mapM_some (g := fun i => [Lit.int .u8 (Bv (x i))])]
    · rfl
    · intro i hi
      have hi' : i < 32 := by simpa using hi
      have e : ((dv x).cells.toList.drop (i * Tryd.prog.cellsOf 5)).take (Tryd.prog.cellsOf 5) = [bv (x i)] := by
        rw [cellsU8]
        simp only [dv, Value.cells, tab, Nat.mul_one]
        apply List.ext_getElem?
        intro j
        rcases j with _ | j
        · simp [hi']
        · simp [List.getElem?_take]
      rw [e, hm]
      unfold Program.keyLits
      simp only [undU8, bv]
      rw [if_pos ⟨trivial, wfB _⟩]
  unfold keyOf
  simp only [undH, keyTypeH, hf, hl]
  rfl
/-- A digest's bytes, as what tells two apart. -/
def key (x : Hx) : List Bt := (List.range 32).map x
theorem key_at {x y : Hx} (h : key x = key y) (i : Nat) (hi : i < 32) : x i = y i := by
  have := congrArg (fun l => l[i]?) h
  simpa [key, hi] using this
theorem key_of {x y : Hx} (h : ∀ i, i < 32 → x i = y i) : key x = key y := List.map_congr_left fun i hi => h i (by simpa using hi)
theorem dv_key {x y : Hx} : dv x = dv y ↔ key x = key y := by
  constructor
  · intro h
    refine key_of fun i hi => ?_
    have h' : tab 32 (fun i => bv (x i)) = tab 32 fun i => bv (y i) := by unfold dv at h; injection h
    have := tab_ext h' i hi
    unfold bv at this
    injection this with _ h2
    exact Bv_inj h2
  · intro h
    unfold dv
    rw [tab_cong fun i hi => by rw [key_at h i hi]]
theorem dv_of {x y : Hx} (h : key x = key y) : dv x = dv y := dv_key.2 h
section
variable {β : Type}
/-- What stands at a key. -/
def look (M : List (Hx × β)) (h : Hx) : Option β := (M.find? fun p => key p.1 == key h).map (·.2)
def has (M : List (Hx × β)) (h : Hx) : Bool := M.any fun p => key p.1 == key h
def putM (M : List (Hx × β)) (h : Hx) (v : β) : List (Hx × β) := if has M h then M.map (fun p => if key p.1 == key h then (p.1, v) else p) else M ++ [(h, v)]
def Apart (M : List (Hx × β)) : Prop := M.Pairwise fun p q => key p.1 ≠ key q.1
theorem look_has (M : List (Hx × β)) (h : Hx) : (look M h).isSome = has M h := by
  unfold look has
  induction M with
  | nil => rfl
  | cons p M ih =>
    rw [List.find?_cons, List.any_cons]
    cases e : key p.1 == key h
    · simpa using ih
    · rfl
theorem find_at {M : List (Hx × β)} (hA : Apart M) {j : Nat} {p : Hx × β} {h : Hx} (hj : M[j]? = some p) (hp : key p.1 = key h) : M.find? (fun p => key p.1 == key h) = some p := by
  induction M generalizing j with
  | nil => simp at hj
  | cons q M ih =>
    obtain ⟨h1, h2⟩ := List.pairwise_cons.1 hA
    cases j with
    | zero => simp at hj; subst hj; simp [List.find?_cons, hp]
    | succ j =>
      have hj' : M[j]? = some p := by simpa using hj
      have hne : key q.1 ≠ key h := by rw [← hp]; exact h1 p (List.mem_of_getElem? hj')
      rw [List.find?_cons, show (key q.1 == key h) = false from by simpa using hne]
      exact ih h2 hj'
theorem look_at {M : List (Hx × β)} (hA : Apart M) {j : Nat} {p : Hx × β} {h : Hx} (hj : M[j]? = some p) (hp : key p.1 = key h) : look M h = some p.2 := by
  unfold look; rw [find_at hA hj hp]; rfl
theorem look_none {M : List (Hx × β)} {h : Hx} (hn : ∀ p ∈ M, key p.1 ≠ key h) : look M h = none := by
  unfold look
  rw [List.find?_eq_none.2 (fun p hp => by simpa using hn p hp)]; rfl
theorem has_at {M : List (Hx × β)} {j : Nat} {p : Hx × β} {h : Hx} (hj : M[j]? = some p) (hp : key p.1 = key h) : has M h = true := by
  unfold has; exact List.any_eq_true.2 ⟨p, List.mem_of_getElem? hj, by simpa using hp⟩
theorem has_none {M : List (Hx × β)} {h : Hx} (hn : ∀ p ∈ M, key p.1 ≠ key h) : has M h = false := by
  unfold has; exact List.any_eq_false.2 fun p hp => by simpa using hn p hp
theorem map_at {M : List (Hx × β)} (hA : Apart M) {j : Nat} {p : Hx × β} {h : Hx} (v : β) (hj : M[j]? = some p) (hp : key p.1 = key h) :
    M.map (fun p => if key p.1 == key h then (p.1, v) else p) = M.set j (p.1, v) := by
  induction M generalizing j with
  | nil => simp at hj
  | cons q M ih =>
    obtain ⟨h1, h2⟩ := List.pairwise_cons.1 hA
    cases j with
    | zero =>
      simp at hj; subst hj
      simp only [List.map_cons, List.set_cons_zero, show (key q.1 == key h) = true from by simpa using hp, if_true]
      congr 1
      refine (List.map_congr_left fun r hr => ?_).trans (List.map_id' M)
      rw [show (key r.1 == key h) = false from by simpa using fun e => h1 r hr (hp.trans e.symm)]; rfl
    | succ j =>
      have hj' : M[j]? = some p := by simpa using hj
      have hne : key q.1 ≠ key h := by rw [← hp]; exact h1 p (List.mem_of_getElem? hj')
      simp only [List.map_cons, List.set_cons_succ, show (key q.1 == key h) = false from by simpa using hne]
      rw [ih h2 hj']; rfl
theorem apart_put {M : List (Hx × β)} (hA : Apart M) (h : Hx) (v : β) : Apart (putM M h v) := by
  unfold putM
  split
  · unfold Apart
    rw [List.pairwise_map]
    refine hA.imp fun {a b} hab => ?_
    split <;> split <;> exact hab
  · rename_i hn
    refine List.pairwise_append.2 ⟨hA, by simp, fun a ha b hb => ?_⟩
    simp only [List.mem_singleton] at hb
    subst hb
    intro e
    apply hn
    unfold has
    exact List.any_eq_true.2 ⟨a, ha, by simpa using e⟩
/-- A block is a map that holds these pairs. -/
def IsMp (V : β → Value) (w : World) (b : Nat) (M : List (Hx × β)) : Prop :=
  ∃ es clock, w.heap[b]? = some (.map es clock) ∧ es.toList.map (fun e => (e.key, e.val)) = M.map (fun p => (dv p.1, V p.2)) ∧ Apart M
variable {V : β → Value} {w w' : World} {b : Nat} {M : List (Hx × β)}
theorem IsMp.lt (h : IsMp V w b M) : b < w.heap.size := by obtain ⟨_, _, hb, _⟩ := h; exact (Array.getElem?_eq_some_iff.1 hb).1
theorem IsMp.same (h : IsMp V w b M) (hb : w'.heap[b]? = w.heap[b]?) : IsMp V w' b M := by obtain ⟨es, c, h1, h2⟩ := h; exact ⟨es, c, hb.trans h1, h2⟩
theorem IsMp.kept {S : Nat → Prop} (h : IsMp V w b M) (hk : Kept S w w') (hn : ¬ S b) : IsMp V w' b M := h.same (hk.block b h.lt hn)
theorem IsMp.below (h : IsMp V w b M) (hb : Below w.heap.size w w') : IsMp V w' b M := h.same (hb.block b h.lt)
theorem IsMp.new (V : β → Value) (w : World) : IsMp V (w.alloc (.map #[] 0)) w.heap.size [] := ⟨#[], 0, (MapKept.heap_alloc w _).1, rfl, by simp [Apart]⟩
theorem IsMp.alloc (h : IsMp V w b M) (o : Obj) : IsMp V (w.alloc o) b M := h.same (Below.heap_alloc w o b h.lt)
/-- How a key is found. -/
theorem find_run {es : Array MapEntry} (he : es.toList.map (fun e => (e.key, e.val)) = M.map (fun p => (dv p.1, V p.2))) (w : World) (h : Hx) :
    ((Instr.findKey 42 (dv h) es.toList).run Tryd.prog w = .ok none w ∧ ∀ p ∈ M, key p.1 ≠ key h) ∨
    ∃ j e p, (Instr.findKey 42 (dv h) es.toList).run Tryd.prog w = .ok (some (j, e.val)) w ∧ es.toList[j]? = some e ∧ M[j]? = some p ∧ e.key = dv p.1 ∧ e.val = V p.2 ∧ key p.1 = key h := by
  have hk : ∀ e ∈ es.toList, ∃ l, keyOf Tryd.prog 42 e.key = some l := fun e hm => by
    have : (e.key, e.val) ∈ M.map (fun p => (dv p.1, V p.2)) := by rw [← he]; exact List.mem_map.2 ⟨e, hm, rfl⟩
    obtain ⟨p, _, hp⟩ := List.mem_map.1 this
    injection hp with h1 h2
    exact ⟨_, by rw [← h1]; exact keyH p.1⟩
  rcases lawH.find w (keyH h) es.toList hk with ⟨h1, h2⟩ | ⟨j, e, h1, h2, h3⟩
  · refine .inl ⟨h1, fun p hp hkk => ?_⟩
    have : (dv p.1, V p.2) ∈ es.toList.map (fun e => (e.key, e.val)) := by rw [he]; exact List.mem_map.2 ⟨p, hp, rfl⟩
    obtain ⟨e, hm, hee⟩ := List.mem_map.1 this
    injection hee with h3 h4
    exact h2 e hm (h3.trans (dv_of hkk))
  · have : (es.toList.map (fun e => (e.key, e.val)))[j]? = some (e.key, e.val) := by rw [List.getElem?_map, h2]; rfl
    rw [he, List.getElem?_map] at this
    cases hM : M[j]? with
    | none => rw [hM] at this; cases this
    | some p =>
      rw [hM] at this
      simp only [Option.map_some, Option.some.injEq, Prod.mk.injEq] at this
      exact .inr ⟨j, e, p, h1, h2, hM, this.1.symm, this.2.symm, dv_key.1 (this.1.trans h3)⟩
/-- 'v, ok := m[k]'. -/
theorem IsMp.look_ok {t e : TypeId} {z : Value} (h : IsMp V w b M) (ht : Tryd.prog.underlying t = some (.map 42 e)) (hz : (zeroValue e).run Tryd.prog w = .ok z w) (k : Hx) :
    (Instr.lookup t (.map (some b)) (dv k) true).run Tryd.prog w = .ok (.tuple #[((look M k).map V).getD z, .bool (has M k)]) w := by
  obtain ⟨es, clock, hb, he, hA⟩ := h
  rcases find_run he w k with ⟨h1, h2⟩ | ⟨j, e0, p, h1, h2, h3, h4, h5, h6⟩
  · simp [Instr.lookup, run_underlying ht, MapKept.run_getObj_map hb, lawH.check w _ (keyH k), h1, hz, Result.andThen, look_none h2, has_none h2]
  · simp [Instr.lookup, run_underlying ht, MapKept.run_getObj_map hb, lawH.check w _ (keyH k), h1, Result.andThen, look_at hA h3 h6, has_at h3 h6, h5]
theorem nil_look {t e : TypeId} {z : Value} (w : World) (ht : Tryd.prog.underlying t = some (.map 42 e)) (hz : (zeroValue e).run Tryd.prog w = .ok z w) (k : Hx) :
    (Instr.lookup t (.map none) (dv k) true).run Tryd.prog w = .ok (.tuple #[z, .bool false]) w := by
  have h1 : (Instr.findKey 42 (dv k) []).run Tryd.prog w = .ok none w := by
    rcases lawH.find w (keyH k) [] (by simp) with ⟨h1, _⟩ | ⟨j, e, _, h2, _⟩
    · exact h1
    · simp at h2
  simp [Instr.lookup, run_underlying ht, lawH.check w _ (keyH k), h1, hz, Result.andThen]
/-- 'm[k] = v'. -/
theorem IsMp.store {t e : TypeId} (h : IsMp V w b M) (ht : Tryd.prog.underlying t = some (.map 42 e)) (k : Hx) (v : β) :
    ∃ w', (Instr.mapUpdate t (.map (some b)) (dv k) (V v)).run Tryd.prog w = .ok () w' ∧ IsMp V w' b (putM M k v) ∧ Kept (· = b) w w' ∧ w'.heap.size = w.heap.size := by
  obtain ⟨es, clock, hb, he, hA⟩ := h
  have hK : ∀ o, Kept (· = b) w (ChangeMaps.setBlock w b o) ∧ (ChangeMaps.setBlock w b o).heap.size = w.heap.size := fun o =>
    ⟨⟨rfl, rfl, rfl, by simp [ChangeMaps.setBlock], fun i _ hi => ChangeMaps.heap_setBlock_other hb _ hi⟩, by simp [ChangeMaps.setBlock]⟩
  rcases find_run he w k with ⟨h1, h2⟩ | ⟨j, e0, p, h1, h2, h3, h4, h5, h6⟩
  · refine ⟨ChangeMaps.setBlock w b (.map (es.push ⟨dv k, V v, clock⟩) (clock + 1)), ?_, ⟨_, _, ChangeMaps.heap_setBlock_same hb _, ?_, apart_put hA k v⟩, hK _⟩
    · simp [Instr.mapUpdate, run_underlying ht, MapKept.run_getObj_map hb, lawH.check w false (keyH k), h1, MapKept.run_setObj_map _ hb, Result.andThen, ChangeMaps.setBlock]
    · unfold putM
      rw [has_none h2]
      simp [he]
  · have hj : es[j]? = some e0 := by simpa using h2
    have hkk : e0.key = dv k := h4.trans (dv_of h6)
    refine ⟨ChangeMaps.setBlock w b (.map (es.modify j (fun e' => { e' with key := dv k, val := V v })) clock), ?_, ⟨_, _, ChangeMaps.heap_setBlock_same hb _, ?_, apart_put hA k v⟩, hK _⟩
    · simp [Instr.mapUpdate, run_underlying ht, MapKept.run_getObj_map hb, lawH.check w false (keyH k), h1, hj, hkk, lawH.stays w (keyH k), MapKept.run_setObj_map _ hb, Result.andThen, ChangeMaps.setBlock]
    · rw [Array.toList_modify, ChangeMaps.modify_eq_set _ _ _ _ h2, List.map_set, he]
      unfold putM
      rw [has_at h3 h6, if_pos rfl, map_at hA v h3 h6, List.map_set]
      simp only [dv_of h6]
/-- 'len(m)'. -/
theorem IsMp.len {t e ty : TypeId} (h : IsMp V w b M) (ht : Tryd.prog.underlying t = some (.map 42 e)) : (Builtin.len_ #[t] ty #[.map (some b)]).run Tryd.prog w = .ok (.int .i64 M.length) w := by
  obtain ⟨es, clock, hb, he, hA⟩ := h
  have hs : es.size = M.length := by have := congrArg List.length he; simpa using this
  simp [Builtin.len_, run_underlying ht, MapKept.run_getObj_map hb, Result.andThen, hs, goInt]
end
end Wt
end Go.Proofs.YtjfpbponjhpdhaaDoor
