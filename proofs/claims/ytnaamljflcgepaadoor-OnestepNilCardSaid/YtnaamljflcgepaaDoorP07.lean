/- Merged of Ot Cm Cp. Own work. -/
import Derived.Test.YtnaamljflcgepaaDoorP06
import Derived.Test.YtnaamljflcgepaaDoorP01
import Derived.Laws.CopyOwn
import Derived.StillTailTactics
import Derived.Deep.WholeRow
import Derived.Laws.Tables
import Derived.Laws.Rows
namespace Go.Proofs.YtnaamljflcgepaaDoor
open Go.RowKit
set_option linter.unusedVariables false
/-- A slot written, as a list. -/
theorem pS.{u} : (∀ {α : Type u} (l : List α) (i : Nat) (a : α), l.toArray.setIfInBounds i a = (l.set i a).toArray) ∧ (∀ {α : Type u} (a b : α) (l : List α), (a :: l).set 0 b = b :: l) ∧ (∀ {α : Type u} (a b : α) (l : List α) (i : Nat), (a :: l).set (i + 1) b = a :: l.set i b) :=
  ⟨fun l i a => List.setIfInBounds_toArray .., fun a b l => rfl, fun a b l i => rfl⟩
inductive OG where
  | done : OG
  | take : Nat → OG → OG
  | one : Nat → OG → OG
  | two : Nat → OG → Nat → OG → OG
def OG.size : OG → Nat
  | .done => 0
  | .take _ r => r.size + 1
  | .one _ r => r.size + 1
  | .two _ r _ _ => r.size + 1
section
variable {P : Program} {ops : Array Oper} {Q : Exit → Act → World → Prop} {S : World → Prop}
def wpOg (P : Program) (ops : Array Oper) (Q : Exit → Act → World → Prop) : OG → (World → Prop) → Act → World → Prop
  | .done, _, a, w => Q .normal a w
  | .take k r, S, a, w => ∃ o v, ops[k]? = some o ∧ YieldsIf P ops S o v a ∧ wpOg P ops Q r S (a.put o.dst v) w
  | .one k r, S, a, w => ∃ o, ops[k]? = some o ∧ Region.wanted o (yielded ops a.tmps) = true ∧ o.wp P a w (fun a' w' => ∃ S' : World → Prop, (∀ y, S' y → S y) ∧ S' w' ∧ wpOg P ops Q r S' a' w') Q
  | .two k r m t, S, a, w => (∃ o, ops[k]? = some o ∧ Region.wanted o (yielded ops a.tmps) = true ∧ o.wp P a w (fun a' w' => ∃ S' : World → Prop, (∀ y, S' y → S y) ∧ S' w' ∧ wpOg P ops Q r S' a' w') Q) ∧
      (∃ o, ops[m]? = some o ∧ Region.wanted o (yielded ops a.tmps) = true ∧ o.wp P a w (fun a' w' => ∃ S' : World → Prop, (∀ y, S' y → S y) ∧ S' w' ∧ wpOg P ops Q t S' a' w') Q)
theorem og_done {a : Act} {w : World} (h : Q .normal a w) : wpOg P ops Q .done S a w := h
theorem og_t {k : Nat} {r : OG} {o : Oper} {v : Value} {a : Act} {w : World} (ho : ops[k]? = some o) (hw : Region.wanted o (yielded ops a.tmps) = true)
    (hy : ∀ w, S w → (execOp a.eval o).run P w = .ok (.value v) w) (h : wpOg P ops Q r S (a.put o.dst v) w) : wpOg P ops Q (.take k r) S a w :=
  ⟨o, v, ho, .inl ⟨hw, hy⟩, h⟩
theorem og_tk {k : Nat} {r : OG} {o : Oper} {a : Act} {w : World} (d : Option Tmp) (v : Value) (ho : ops[k]? = some o) (hd : o.dst = d) (hw : Region.wanted o (yielded ops a.tmps) = true)
    (hy : ∀ w, S w → (execOp a.eval o).run P w = .ok (.value v) w) (h : wpOg P ops Q r S (a.put d v) w) : wpOg P ops Q (.take k r) S a w :=
  og_t ho hw hy (by rw [hd]; exact h)
theorem og_ld {k : Nat} {r : OG} {o : Oper} {a : Act} {w : World} (d : Option Tmp) (ty : TypeId) (x : Operand) (p v : Value) (ho : ops[k]? = some o) (hd : o.dst = d) (hw : Region.wanted o (yielded ops a.tmps) = true) (hop : o.op = .load ty x) (hx : a.eval x = p)
    (hl : ∀ w, S w → (Instr.loadAt ty p).run P w = .ok v w) (h : wpOg P ops Q r S (a.put d v) w) : wpOg P ops Q (.take k r) S a w :=
  og_tk d v ho hd hw (fun w hw => by unfold execOp; simp only [hop, hx]; simp [hl w hw, Result.andThen]) h
theorem og_of {k : Nat} {r : OG} {o : Oper} {a : Act} {w : World} (ho : ops[k]? = some o) (hw : Region.wanted o (yielded ops a.tmps) = true)
    (h : ∀ K : Act → World → Prop, (∀ a' w', S w' → wpOg P ops Q r S a' w' → K a' w') → o.wp P a w K Q) :
    ∃ o, ops[k]? = some o ∧ Region.wanted o (yielded ops a.tmps) = true ∧ o.wp P a w (fun a' w' => ∃ S' : World → Prop, (∀ y, S' y → S y) ∧ S' w' ∧ wpOg P ops Q r S' a' w') Q :=
  ⟨o, ho, hw, h _ fun _ _ h1 h2 => ⟨S, fun _ h => h, h1, h2⟩⟩
theorem og_f {k : Nat} {r : OG} {o : Oper} {a : Act} {w : World} (ho : ops[k]? = some o) (hw : Region.wanted o (yielded ops a.tmps) = true)
    (h : ∀ K : Act → World → Prop, (∀ a' w', S w' → wpOg P ops Q r S a' w' → K a' w') → o.wp P a w K Q) : wpOg P ops Q (.one k r) S a w := og_of ho hw h
theorem og_two {k m : Nat} {r t : OG} {a : Act} {w : World}
    (h1 : ∃ o, ops[k]? = some o ∧ Region.wanted o (yielded ops a.tmps) = true ∧ o.wp P a w (fun a' w' => ∃ S' : World → Prop, (∀ y, S' y → S y) ∧ S' w' ∧ wpOg P ops Q r S' a' w') Q)
    (h2 : ∃ o, ops[m]? = some o ∧ Region.wanted o (yielded ops a.tmps) = true ∧ o.wp P a w (fun a' w' => ∃ S' : World → Prop, (∀ y, S' y → S y) ∧ S' w' ∧ wpOg P ops Q t S' a' w') Q) : wpOg P ops Q (.two k r m t) S a w := ⟨h1, h2⟩
def ogB (ops : Array Oper) : OG → Array Bool → Bool
  | .done, l => (Region.ready .any ops l).isEmpty
  | .take k r, l => (Region.ready .any ops l).contains k && Region.free .any ops l k && ogB ops r (l.setIfInBounds k true)
  | .one k r, l => decide (Region.ready .any ops l = [k]) && ogB ops r (l.setIfInBounds k true)
  | .two k r m t, l => decide (Region.ready .any ops l = [k, m]) && decide (r.size = t.size) && ogB ops r (l.setIfInBounds k true) && ogB ops t (l.setIfInBounds m true)
theorem og_any (hs : Region.noSelect ops = true) (hQ : ∀ c a d v w, Q (.panic c) (a.put d v) w → Q (.panic c) a w) : ∀ (l : OG) (listed : Array Bool) (S : World → Prop) (a : Act) (w : World), S w →
    ogB ops l listed = true → wpOg P ops Q l S a w → wpAnyH P .any ops Q S l.size listed a w
  | .done, _, _, _, _, _, hB, h => ⟨by simpa [ogB] using hB, h⟩
  | .take k r, listed, S, a, w, hS, hB, ⟨o, v, h0, hy, h⟩ => by
    simp only [ogB, Bool.and_eq_true] at hB
    exact wpAnyH_take h0 hs hB.1.2 hB.1.1 (fun c a w => hQ c a _ _ w) hy hS (og_any hs hQ r _ _ _ _ hS hB.2 h)
  | .one k r, listed, S, a, w, hS, hB, ⟨o, h0, hw, h⟩ => by
    simp only [ogB, Bool.and_eq_true, decide_eq_true_eq] at hB
    refine wpAnyH_all hB.1 (by simp) fun i hi => ?_
    have hik : i = k := by simpa using hi
    subst hik
    unfold wpOp
    simp only [h0]
    rw [if_pos hw]
    exact .inl (Oper.wp_mono (fun a' w' ⟨S', h1, h2, h3⟩ => ⟨h1 _ h2, wpAnyH_weaken h1 _ _ _ _ (og_any hs hQ r _ S' _ _ h2 hB.2 h3)⟩) h)
  | .two k r m t, listed, S, a, w, hS, hB, ⟨⟨o, h0, hw, h⟩, ⟨o2, h02, hw2, h2⟩⟩ => by
    simp only [ogB, Bool.and_eq_true, decide_eq_true_eq] at hB
    refine wpAnyH_all hB.1.1.1 (by simp) fun i hi => ?_
    have hik : i = k ∨ i = m := by simpa using hi
    rcases hik with e | e
    · subst e
      unfold wpOp
      simp only [h0]
      rw [if_pos hw]
      exact .inl (Oper.wp_mono (fun a' w' ⟨S', g1, g2, g3⟩ => ⟨g1 _ g2, wpAnyH_weaken g1 _ _ _ _ (og_any hs hQ r _ S' _ _ g2 hB.1.2 g3)⟩) h)
    · subst e
      unfold wpOp
      simp only [h02]
      rw [if_pos hw2]
      exact .inl (Oper.wp_mono (fun a' w' ⟨S', g1, g2, g3⟩ => ⟨g1 _ g2, wpAnyH_weaken g1 _ _ _ _ (by have h3 := og_any hs hQ t _ S' _ _ g2 hB.2 g3; rw [← hB.1.1.2] at h3; exact h3)⟩) h2)
theorem wp_region_og {id : Nat} {a : Act} {w : World} {l : List Oper} (S : World → Prop) (t : OG) (hm : P.follows .mixedOrders = true) (hB : (decide (t.size = l.length) && Region.noSelect l.toArray && ogB l.toArray t (Array.replicate l.length false)) = true) (hS : S w.drew)
    (h : wpOg P l.toArray (NoPanic Q) t S a w.drew) : (Code.region id l.toArray true).wp P Q a w := by
  refine wp_region_noPanic ?_
  have hQ : ∀ c a d v w, NoPanic Q (.panic c) (a.put d v) w → NoPanic Q (.panic c) a w := fun _ _ _ _ _ h => h
  simp only [Bool.and_eq_true, decide_eq_true_eq] at hB
  refine wp_region_held (S := S) hm ?_
  have h1 := og_any (P := P) (Q := NoPanic Q) (ops := l.toArray) hB.1.2 hQ t (Array.replicate l.length false) S a w.drew hS hB.2 h
  rw [hB.1.1] at h1
  simpa using h1
end
end Go.Proofs.YtnaamljflcgepaaDoor
namespace Go.Proofs.YtnaamljflcgepaaDoor
open Go.RowKit
set_option linter.unusedVariables false
set_option linter.unusedSimpArgs false
namespace Wt
/-- A value of noughts alone, built. -/
theorem wpList_buildM {P : Program} {ops : Array Oper} {rest : List Oper} {o : Oper} {a : Act} {w : World} {Q : Exit → Act → World → Prop} (hg : o.guard = none) (t : TypeId) (ho : o.op = .build t #[])
    (v : Value) (hl : (Instr.build t #[]).run P w = .ok v w) (h : wpList P ops Q rest (a.put o.dst v) w) : wpList P ops Q (o :: rest) a w :=
  wpList_plain hg fun _ hK => by
    unfold Oper.wp execOp
    simp only [ho]
    simp [hl, Result.andThen]
    exact hK _ _ h
end Wt
namespace Vm
open Kc
/-- A machine, plain. -/
structure Mac where
  mem : Nat → Nat
  reg : Nat → Nat
  pc : Nat
  halted : Bool
  exit : Nat
def mc (M : Mac) : Nat → Value := fun i =>
  if i < 8192 then .int .u64 (M.mem i) else if i < 8208 then .int .u64 (M.reg (i - 8192)) else if i = 8208 then .int .u64 M.pc else if i = 8209 then .bool M.halted else .int .u64 M.exit
def m0 : Mac := ⟨fun _ => 0, fun _ => 0, 0, false, 0⟩
set_option maxRecDepth 100000 in
theorem buildM0 (w : World) : (Instr.build 45 #[]).run Tryd.prog w = .ok (.agg (tab 8211 (mc m0))) w := by kernel_rfl
theorem infM' : (Tryd.prog.info? 45).map (·.size) = some 8211 := by kernel_rfl
theorem infM (g : Nat → Value) : (Tryd.prog.info? 45).map (·.size) = some (tab 8211 g).size := by rw [tab_size]; exact infM'
/-- All its words are words. -/
structure OkM (M : Mac) : Prop where
  mem : ∀ i, M.mem i < 18446744073709551616
  reg : ∀ i, M.reg i < 18446744073709551616
  pc : M.pc < 18446744073709551616
  exit : M.exit < 18446744073709551616
/-- A block is a machine. -/
def IsMac (w : World) (b : Nat) (M : Mac) : Prop := IsTab w b 45 8211 (mc M)
section
variable {w w' : World} {b : Nat} {M M' : Mac}
theorem IsMac.mem (h : IsMac w b M) {p : Nat} (hp : p < 8192) : w.cell? ⟨b, p, none⟩ = some (.int .u64 (M.mem p)) := by
  have := h.cell p (by omega); rw [this]; unfold mc; rw [if_pos hp]
theorem IsMac.reg (h : IsMac w b M) {p : Nat} (hp : p < 16) : w.cell? ⟨b, 8192 + p, none⟩ = some (.int .u64 (M.reg p)) := by
  have := h.cell (8192 + p) (by omega); rw [this]; unfold mc; rw [if_neg (by omega), if_pos (by omega), show 8192 + p - 8192 = p from by omega]
theorem IsMac.pc (h : IsMac w b M) : w.cell? ⟨b, 8208, none⟩ = some (.int .u64 M.pc) := by
  have := h.cell 8208 (by omega); rw [this]; rfl
theorem IsMac.halted (h : IsMac w b M) : w.cell? ⟨b, 8209, none⟩ = some (.bool M.halted) := by
  have := h.cell 8209 (by omega); rw [this]; rfl
theorem IsMac.exit (h : IsMac w b M) : w.cell? ⟨b, 8210, none⟩ = some (.int .u64 M.exit) := by
  have := h.cell 8210 (by omega); rw [this]; rfl
theorem IsMac.fz (h : IsMac w b M) (i : Nat) : w.frozen? ⟨b, i, none⟩ = false := IsTab.fz h i
theorem IsMac.lt (h : IsMac w b M) : b < w.heap.size := IsTab.lt h
theorem IsMac.below (h : IsMac w b M) (hb : Below w.heap.size w w') : IsMac w' b M := IsTab.below h hb
theorem IsMac.kept {S : Nat → Prop} (h : IsMac w b M) (hk : Kept S w w') (hn : ¬ S b) : IsMac w' b M := (hk.block _ (IsTab.lt h) hn).trans h
theorem IsMac.set (h : IsMac w b M) (i : Nat) (v : Value) (he : ∀ j, j < 8211 → updv (mc M) i v j = mc M' j) : IsMac (w.setCell ⟨b, i, none⟩ v) b M' := IsTab.cong (IsTab.set h i v) he
theorem IsMac.setPc (h : IsMac w b M) (x : Nat) : IsMac (w.setCell ⟨b, 8208, none⟩ (.int .u64 (x : Int))) b { M with pc := x } := h.set 8208 _ fun j hj => by
  unfold updv mc
  by_cases e : j = 8208
  · subst e; rfl
  · rw [if_neg e]
    by_cases h1 : j < 8192
    · rw [if_pos h1, if_pos h1]
    · rw [if_neg h1, if_neg h1]
      by_cases h2 : j < 8208
      · rw [if_pos h2, if_pos h2]
      · rw [if_neg h2, if_neg h2, if_neg e, if_neg e]
theorem IsMac.setHalted (h : IsMac w b M) (x : Bool) : IsMac (w.setCell ⟨b, 8209, none⟩ (.bool x)) b { M with halted := x } := h.set 8209 _ fun j hj => by
  unfold updv mc
  by_cases e : j = 8209
  · subst e; rfl
  · rw [if_neg e]
    by_cases h1 : j < 8192
    · rw [if_pos h1, if_pos h1]
    · rw [if_neg h1, if_neg h1]
      by_cases h2 : j < 8208
      · rw [if_pos h2, if_pos h2]
      · rw [if_neg h2, if_neg h2]
        by_cases h3 : j = 8208
        · rw [if_pos h3, if_pos h3]
        · rw [if_neg h3, if_neg h3, if_neg e, if_neg e]
theorem IsMac.setExit (h : IsMac w b M) (x : Nat) : IsMac (w.setCell ⟨b, 8210, none⟩ (.int .u64 (x : Int))) b { M with exit := x } := h.set 8210 _ fun j hj => by
  unfold updv mc
  by_cases e : j = 8210
  · subst e; rfl
  · rw [if_neg e]
    by_cases h1 : j < 8192
    · rw [if_pos h1, if_pos h1]
    · rw [if_neg h1, if_neg h1]
      by_cases h2 : j < 8208
      · rw [if_pos h2, if_pos h2]
      · rw [if_neg h2, if_neg h2]
        by_cases h3 : j = 8208
        · rw [if_pos h3, if_pos h3]
        · rw [if_neg h3, if_neg h3, if_pos (by omega), if_pos (by omega)]
def setR (M : Mac) (d v : Nat) : Mac := { M with reg := fun i => if i = d then v else M.reg i }
end
theorem kept_set {S : Nat → Prop} {a w : World} (h : Kept S a w) (q i : Nat) (hq : S q) (v : Value) : Kept S a (w.setCell ⟨q, i, none⟩ v) := h.setCell (.inl hq) v
def loaded (n : Nat) (g : Nat → Nat) : Mac := ⟨fun i => if i < n then g i else 0, fun _ => 0, 0, false, 0⟩
theorem slM (q : Nat) (w : World) : (Instr.sliceAt 43 (.pointer (some ⟨q, 0, none⟩)) none none none).run Tryd.prog w = .ok (.slice (some ⟨q, 0, none⟩) 8192 8192) w := by
  have hu : Tryd.prog.underlying 43 = some (.array (Tryd.prog.arrayLen 43) (Tryd.prog.elem 43)) := by kernel_rfl
  have hl : Tryd.prog.arrayLen 43 = 8192 := by kernel_rfl
  have hs : (sizeOf (Tryd.prog.elem 43)).run Tryd.prog w = .ok 1 w := by kernel_rfl
  rw [run_sliceAt_array_all w _ ⟨q, 0, none⟩ hu, hs]
  simp [slicedAt, hl, add_at]
theorem undW : Tryd.prog.underlying 52 = some (.slice 32) := by kernel_rfl
theorem sizeW : (Tryd.prog.info? 32).map (·.size) = some 1 := by kernel_rfl
theorem mc_zero (g : Nat → Nat) (i : Nat) (hi : i < 8211) : mc m0 i = mc (loaded 0 g) i := by
  unfold mc loaded m0
  simp
set_option maxHeartbeats 1000000 in
set_option maxRecDepth 100000 in
theorem load_zero (w : World) (a0 : Option Addr) (c : Nat) (g : Nat → Nat) :
    Calls Tryd.prog 4 #[.slice a0 0 c] w fun e w' => e = .returned (.tuple #[.pointer (some ⟨w.heap.size, 0, none⟩), .nilIface]) ∧ IsMac w' w.heap.size (loaded 0 g) ∧ Below w.heap.size w w' := by
  have HBM := Lib.hid (buildM0 w)
  have HT : Hid (IsTab (w.alloc (.cells (tab 8211 (mc m0)) 45)) w.heap.size 45 8211 (mc m0)) := Lib.hid (IsTab.new w _ 8211 _)
  have HB : Hid (Below w.heap.size w (w.alloc (.cells (tab 8211 (mc m0)) 45))) := Lib.hid ((Below.refl _ _).alloc (Nat.le_refl _) _)
  generalize hz : (tab 8211 (mc m0)) = ck at *
  have HZ := Lib.hid hz
  clear hz
  go_enter Tryd.func4, Tryd.ntmps4
  go_upto_region 4 with ((with_reducible refine Wt.wpList_buildM (P := Tryd.prog) (w := w) ?_ 45 ?_ (.agg ck) HBM.out ?_); (· exact rfl); (· exact rfl))
  generalize w.alloc (.cells ck 45) = y at *
  have s1 := slM w.heap.size
  generalize hq : w.heap.size = q at *
  go_upto_region 5 with (refine wpList_copy_nothing rfl (.tmp 14) (.tmp 15) 52 52 rfl 32 undW sizeW (some ⟨q, 0, none⟩) a0 8192 8192 0 c rfl rfl rfl ?_)
  have H9 : IsMac y q (loaded 0 g) := IsTab.cong HT.out fun i hi => mc_zero g i hi
  have HB9 : Below w.heap.size w y := by rw [hq]; exact HB.out
  have H9 := Lib.hid (And.intro H9 HB9)
  have HQ := Lib.hid hq
  clear hq s1
  go_wp2_with (fail)
  exact bodyPost_ret (v := .tuple #[.pointer (some ⟨q, 0, none⟩), .nilIface]) (by simp [results, Tryd.results4, go_sem]) rfl ⟨by rw [HQ.out], by rw [HQ.out]; exact H9.out.1, H9.out.2⟩
set_option maxRecDepth 1000000 in
theorem zeroMac' (w : World) : (zeroValue 45).run Tryd.prog w = .ok (.agg (tab 8211 (mc m0))) w := by kernel_rfl
theorem oneCell_mc (M : Mac) (i : Nat) : (mc M i).oneCell' = true := by
  unfold mc
  repeat' split
  all_goals rfl
theorem one_mc' (M : Mac) : (tab 8211 (mc M)).all (·.oneCell') = true := by
  unfold tab
  simp [oneCell_mc]
end Vm
end Go.Proofs.YtnaamljflcgepaaDoor
namespace Go.Proofs.YtnaamljflcgepaaDoor
open Go.RowKit
set_option linter.unusedVariables false
set_option linter.unusedSimpArgs false
namespace Rl
open Kc (tab IsTab)
/-- A word's byte. -/
def byteOf (v j : Nat) : Nat := v / 2 ^ (56 - 8 * j) % 256
def ub (z : Nat) : Value := .int .u8 z
/-- Words laid over a row of bytes. -/
def putv (g : Nat → Value) (p v m : Nat) : Nat → Value := fun j => if 8 * p ≤ j ∧ j < 8 * p + m then ub (byteOf v (j - 8 * p)) else g j
theorem putv_next (g : Nat → Value) (p v m : Nat) : Kc.updv (putv g p v m) (8 * p + m) (ub (byteOf v m)) = putv g p v (m + 1) := by
  funext j
  unfold Kc.updv putv
  by_cases h : j = 8 * p + m
  · subst h
    rw [if_pos rfl, if_pos ⟨by omega, by omega⟩, show 8 * p + m - 8 * p = m by omega]
  · rw [if_neg h]
    by_cases h2 : 8 * p ≤ j ∧ j < 8 * p + m
    · rw [if_pos h2, if_pos ⟨h2.1, by omega⟩]
    · rw [if_neg h2, if_neg (by omega)]
theorem putv_zero (g : Nat → Value) (p v : Nat) : putv g p v 0 = g := by
  funext j; unfold putv; rw [if_neg (by omega)]
/-- What Put's loop keeps. -/
structure Put (w : World) (q T n : Nat) (g : Nat → Value) (y : World) : Prop where
  row : IsTab y q T n g
  kept : Kept (fun b => b = q) w y
theorem Put.set {w y : World} {q T n : Nat} {g : Nat → Value} (h : Put w q T n g y) (i : Nat) (x : Value) : Put w q T n (Kc.updv g i x) (y.setCell ⟨q, i, none⟩ x) :=
  ⟨h.row.set i x, h.kept.setCell (.inl rfl) _⟩
set_option maxHeartbeats 2000000 in
set_option maxRecDepth 100000 in
theorem put_walk (w : World) (q T N c : Nat) (g : Nat → Value) (p v : Nat) (h : IsTab w q T N g) (hp : 8 * p + 8 ≤ N) (hN : N ≤ 64) (hv : v < 18446744073709551616) :
    Calls Tryd.prog 50 #[.slice (some ⟨q, 0, none⟩) N c, .int .i64 p, .int .u64 v] w fun e w' => e = .returned (.tuple #[]) ∧ Put w q T N (putv g p v 8) w' := by
  have HP : Hid (Put w q T N (putv g p v 0) w) := Lib.hid ⟨by rw [putv_zero]; exact h, Kept.refl _ _⟩
  have HN := Lib.hid (And.intro hp hN)
  have HV := Lib.hid hv
  have e1 : wrap64 (8 * (p : Int)) = ((8 * p : Nat) : Int) := by unfold wrap64; omega
  have HE := Lib.hid e1
  clear h hp hN hv
  go_enter Tryd.func50, Tryd.ntmps50
  go_wp2_with (fail)
  go_loopw [7] (fun i y => ∃ j : Nat, i = .int .i64 j ∧ Hid (j ≤ 8 ∧ Put w q T N (putv g p v j) y)) (fun i _ => 8 - (intOf i).toNat)
  case atStart => exact ⟨0, rfl, Lib.hid ⟨Nat.zero_le _, HP.out⟩⟩
  case round =>
    obtain ⟨j, rfl, hp⟩ := hrel
    have HR := Lib.hid hp.out
    clear hp HP e1
    by_cases hlt : (j : Int) < 8
    · have e1 := HE.out
      have x1 := HR.out.2.row.cell (8 * p + j) (by have := HN.out; omega)
      have x2 := HR.out.2.row.fz (8 * p + j)
      have HJ := Lib.hid (And.intro (show j < 8 by omega) (show wrap64 ((j : Int) + 1) = ((j + 1 : Nat) : Int) by unfold wrap64; omega))
      obtain ⟨P, hP⟩ : ∃ P, 8 * p = P := ⟨_, rfl⟩
      obtain ⟨J, hJ⟩ : ∃ J, P + j = J := ⟨_, rfl⟩
      rw [hP] at e1 x1 x2
      rw [hJ] at x1 x2
      have e2 : wrap64 ((P : Int) + j) = (J : Int) := by have := HN.out; unfold wrap64; omega
      have e3 : wrap64 (8 * (j : Int)) = ((8 * j : Nat) : Int) := by unfold wrap64; omega
      have e4 : wrap64 (56 - ((8 * j : Nat) : Int)) = ((56 - 8 * j : Nat) : Int) := by unfold wrap64; omega
      have e5 : (J : Int) < N := by have := HN.out; omega
      go_wp2_with (fail)
      refine ⟨⟨j + 1, by simp, Lib.hid ⟨HJ.out.1, ?_⟩⟩, by simp [intOf]; omega⟩
      have h9 := HR.out.2.set (8 * p + j) (ub (byteOf v j))
      rw [putv_next] at h9
      rw [hP, hJ] at h9
      have e9 : ub (byteOf v j) = .int .u8 ((v : Int) / 2 ^ (56 - 8 * j) % 256) := by unfold ub byteOf; push_cast; rfl
      rw [← e9]; exact h9
    · obtain rfl : j = 8 := by have := HR.out.1; omega
      go_wp2_with (fail)
      exact bodyPost_end (v := .tuple #[]) (by simp [results, Tryd.results50, go_sem]) rfl ⟨rfl, HR.out.2⟩
end Rl
end Go.Proofs.YtnaamljflcgepaaDoor
