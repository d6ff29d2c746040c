/-
  mootref02.Permute. Own work.
-/
import Derived.Test.YtdmbmilfclllaaaDoorRperm
import Derived.Test.YtdmbmilfclllaaaDoorKadd
import Derived.Test.YtdmbmilfclllaaaDoorTks
namespace Go.Proofs.YtdmbmilfclllaaaDoor
open Go.RowKit
set_option linter.unusedVariables false
namespace Kc
/-- The slice of the constants, and that of the turns. -/
def Two (w : World) (V : Value) (qt : Nat) : Prop := ∃ qc cap, V = .slice (some ⟨qc, 0, none⟩) 24 cap ∧ (∀ i, i < 24 → w.cell? ⟨qc, i, none⟩ = some (wv (consts.getD i 0#64))) ∧ ∀ j, j < 25 → w.cell? ⟨qt, j, none⟩ = some (tv (turns.getD j 0))
theorem Two.below {w w' : World} {V : Value} {qt : Nat} (h : Two w V qt) (hb : Below w.heap.size w w') : Two w' V qt := by
  obtain ⟨qc, cap, h1, h2, h3⟩ := h
  exact ⟨qc, cap, h1, fun i hi => keep1 hb (h2 i hi), fun j hj => keep1 hb (h3 j hj)⟩
theorem owns_cells {w : World} {q : Nat} {V : Value} (h : w.ownsRow q 23 1 V 24 (consts.map wv)) : ∃ qc cap, V = .slice (some ⟨qc, 0, none⟩) 24 cap ∧ ∀ i, i < 24 → w.cell? ⟨qc, i, none⟩ = some (wv (consts.getD i 0#64)) := by
  rcases ownsRow_forms h with ⟨_, h0⟩ | ⟨g, cap, rfl, _, _, _⟩
  · cases h0
  · refine ⟨g, cap, rfl, fun i hi => ?_⟩
    have hl : consts.length = 24 := rfl
    have := h.cells (g := g) rfl i (wv (consts.getD i 0#64)) (by simp [List.getElem?_map, List.getElem?_eq_getElem (show i < consts.length from by omega)])
    rw [add_at, Nat.zero_add] at this
    exact this
theorem permute_two (a : Nat → Wd64) (V : Value) (qt : Nat) (w : World) (h : Two w V qt) :
    Calls Tryd.prog 26 #[.agg (words a), V, .slice (some ⟨qt, 0, none⟩) 25 25] w fun e w' => e = .returned (.agg (words (perm a))) ∧ Below w.heap.size w w' := by
  obtain ⟨qc, cap, rfl, h1, h2⟩ := h
  exact permute_walk a qc qt cap w h1 h2
def ConsAt (w : World) (V : Value) : Prop := ∃ qc cap, V = .slice (some ⟨qc, 0, none⟩) 24 cap ∧ ∀ i, i < 24 → w.cell? ⟨qc, i, none⟩ = some (wv (consts.getD i 0#64))
def TurnAt (w : World) (V : Value) : Prop := ∃ qt, V = .slice (some ⟨qt, 0, none⟩) 25 25 ∧ ∀ j, j < 25 → w.cell? ⟨qt, j, none⟩ = some (tv (turns.getD j 0))
theorem ConsAt.below {w w' : World} {V : Value} (hb : Below w.heap.size w w') (h : ConsAt w V) : ConsAt w' V := by
  obtain ⟨qc, cap, h1, h2⟩ := h
  exact ⟨qc, cap, h1, fun i hi => keep1 hb (h2 i hi)⟩
theorem TurnAt.below {w w' : World} {V : Value} (hb : Below w.heap.size w w') (h : TurnAt w V) : TurnAt w' V := by
  obtain ⟨qt, h1, h2⟩ := h
  exact ⟨qt, h1, fun i hi => keep1 hb (h2 i hi)⟩
theorem cons_call (w : World) : Calls Tryd.prog 24 #[] w fun e w' => ∃ V, e = .returned V ∧ Hid (ConsAt w' V) ∧ Below w.heap.size w w' :=
  (constants_walk w).mono fun e w' ⟨V, h1, h2, h3⟩ => ⟨V, h1, Lib.hid (owns_cells h2), h3⟩
theorem turn_call (w : World) : Calls Tryd.prog 25 #[] w fun e w' => ∃ V, e = .returned V ∧ Hid (TurnAt w' V) ∧ Below w.heap.size w w' :=
  (turns_walk w).mono fun e w' ⟨h1, h2, h3⟩ => ⟨_, h1, Lib.hid ⟨_, rfl, fun j hj => h2.cell j hj⟩, h3⟩
theorem perm_call (a : Nat → Wd64) (V T : Value) (w : World) (h : ConsAt w V) (k : TurnAt w T) :
    Calls Tryd.prog 26 #[.agg (words a), V, T] w fun e w' => e = .returned (.agg (words (perm a))) ∧ Below w.heap.size w w' := by
  obtain ⟨qc, cap, rfl, h1⟩ := h
  obtain ⟨qt, rfl, h2⟩ := k
  exact permute_walk a qc qt cap w h1 h2
/-- A world with the argument's block and the result's. -/
def Rp (W : World) (q0 q1 : Nat) (a : Nat → Wd64) (y : World) : Prop := IsTab y q0 24 25 (fun i => wv (a i)) ∧ (∃ g, IsTab y q1 24 25 g) ∧ Below W.heap.size W y ∧ W.heap.size ≤ q1 ∧ q0 ≠ q1
theorem Rp.next {W : World} {q0 q1 : Nat} {a : Nat → Wd64} {y y' : World} (h : Rp W q0 q1 a y) (hb : Below y.heap.size y y') : Rp W q0 q1 a y' :=
  ⟨IsTab.below h.1 hb, by obtain ⟨g, hg⟩ := h.2.1; exact ⟨g, IsTab.below hg hb⟩, bl h.2.2.1 hb, h.2.2.2⟩
set_option maxHeartbeats 400000 in
set_option maxRecDepth 100000 in
theorem Permute_walk (a : Nat → Wd64) (w : World) :
    Calls Tryd.prog 18 #[.agg (words a)] w fun e w' => e = .returned (.agg (words (perm a))) ∧ Below w.heap.size w w' := by
  have z1 := zero25
  generalize hz : tab 25 (fun _ => wv 0#64) = zp at *
  have HZ := Lib.hid hz
  clear hz
  go_enter Tryd.func18, Tryd.ntmps18
  go_upto_region 1 with (fail)
  have h1 : Hid (Rp w w.heap.size (w.heap.size + 1) a ((w.alloc (.cells (words a) 24)).alloc (.cells zp 24))) := by
    rw [← HZ.out]
    have e1 : (w.alloc (.cells (words a) 24)).heap.size = w.heap.size + 1 := by simp
    refine Lib.hid ⟨(IsTab.new w _ 25 _).alloc _, ⟨fun _ => wv 0#64, ?_⟩, ((Below.refl _ _).alloc (Nat.le_refl _) _).alloc (by simp) _, by omega, by omega⟩
    have := IsTab.new (w.alloc (.cells (words a) 24)) 24 25 fun _ => wv 0#64
    rw [e1] at this; exact this
  clear z1 HZ
  generalize (w.alloc (.cells (words a) 24)).alloc (.cells zp 24) = y0 at *
  generalize w.heap.size + 1 = q1 at *
  generalize hq0 : w.heap.size = q0 at *
  have HQ0 := Lib.hid hq0
  clear hq0
  have hld : ∀ y, Rp w q0 q1 a y → (Instr.loadAt 24 (.pointer (some ⟨q0, 0, none⟩))).run Tryd.prog y = .ok (.agg (words a)) y := fun y hy => load25 hy.1 0 a (by decide) (fun j _ => by rw [Nat.zero_add])
  have LD := Lib.hid hld
  clear hld
  have HR2 : Hid (Rp w q0 q1 a y0.drew) := Lib.hid ⟨h1.out.1, h1.out.2.1, h1.out.2.2.1.drew, h1.out.2.2.2⟩
  refine wp_region_takes 1 (Rp w q0 q1 a) (by kernel_rfl) (by kernel_rfl) HR2.out ?_
  simp only [List.take_succ_cons, List.take_zero, List.drop_succ_cons, List.drop_zero]
  refine wpTake_load 24 _ (.pointer (some ⟨q0, 0, none⟩)) _ rfl rfl rfl LD.out ?_
  simp only [Act.put, List.setIfInBounds_toArray, List.set_cons_zero, List.set_cons_succ]
  generalize y0.drew = y1 at *
  refine wpSeqH_step rfl fun K hK => ?_
  go_simp
  refine (cons_call _).mono ?_
  rintro e w1 ⟨V, rfl, hV, hb1⟩
  have HR3 := Lib.hid (Rp.next HR2.out hb1)
  refine hK _ _ HR3.out ?_
  clear hK K
  refine wpSeqH_step rfl fun K hK => ?_
  go_simp
  refine (turn_call _).mono ?_
  rintro e w2 ⟨T, rfl, hT, hb2⟩
  have HR4 := Lib.hid (Rp.next HR3.out hb2)
  refine hK _ _ HR4.out ?_
  clear hK K
  refine wpSeqH_step rfl fun K hK => ?_
  go_simp
  refine (perm_call a V T _ (ConsAt.below hb2 hV.out) hT.out).mono ?_
  rintro e w3 ⟨rfl, hb3⟩
  have HR5 := Lib.hid (Rp.next HR4.out hb3)
  refine hK _ _ HR5.out ?_
  clear hK K
  obtain ⟨g, hg⟩ := HR5.out.2.1
  refine wpSeqH_step rfl fun K hK => ?_
  refine wp_store_row 24 (.tmp 2) (.tmp 6) rfl q1 (words (perm a)) rfl rfl 24 (tab 25 g) hg (inf25 _) (by rw [words, tab_size, tab_size]) (one_wv _ _) ?_
  have hr : IsTab (World.setRow w3 q1 (words (perm a))) q1 24 25 fun i => wv (perm a i) := hg.row
  have hbb := below_setRow HR5.out.2.2.1 HR5.out.2.2.2.1 (words (perm a))
  refine hK _ _ ⟨by have h := HR5.out.1; exact IsTab.rowOther h HR5.out.2.2.2.2, ⟨_, hr⟩, hbb, HR5.out.2.2.2⟩ ?_
  clear hK K
  refine wpSeqH_nil (NoPanic.normal ?_)
  simp only [Act.put]
  go_wp2_with fail
  exact bodyPost_ret (v := .agg (words (perm a))) (results_cell_row rfl _ _ q1 24 _ (0, 0) _ rfl hr und25 rfl (inf25 _)) rfl ⟨rfl, hbb⟩
end Kc
end Go.Proofs.YtdmbmilfclllaaaDoor
