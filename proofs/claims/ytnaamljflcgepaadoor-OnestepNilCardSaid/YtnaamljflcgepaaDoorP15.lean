/- Merged of Zh Zi Oz Zj Zk Ya Yb Yc Yd Ye Yf Yg Yh Yj Yk Yl Ym Yo Yq Yr. Own work. -/
import Derived.Test.YtnaamljflcgepaaDoorP14
import Derived.Test.YtnaamljflcgepaaDoorP06
import Derived.Test.YtnaamljflcgepaaDoorP07
import Derived.Test.YtnaamljflcgepaaDoorP01
import Derived.Laws.BitsAllLaws
import Derived.IntWalk
import Derived.BigQuiet
import Derived.Deep.QuietTactic
import Derived.Deep.Cut
import Derived.Lib.Hide
import Derived.Outline
import Derived.Deep.Slices
import Derived.StillTailTactics
import Derived.Test.YtnaamljflcgepaaDoorP04
import Derived.Deep.WholeRow
import Derived.Laws.Tables
import Derived.Laws.Rows
import Derived.Laws.Bits64b
namespace Go.Proofs.YtnaamljflcgepaaDoor
open Go.RowKit
set_option linter.unusedVariables false
set_option linter.unusedSimpArgs false
namespace Wt
open Kc Mk
/-- The nought of a height, twice. -/
def zz (k : Nat) : Px := jn (zero k) (zero k)
/-- The preimages of the noughts below a height. -/
def zs : Nat → List (Hx × Px)
  | 0 => []
  | k + 1 => putM (zs k) (hs (zz k)) (zz k)
def nw : Sto := ⟨zs 16, []⟩
/-- What New's loop keeps. -/
structure NwR (W : World) (s k : Nat) (y : World) : Prop where
  below : Below W.heap.size W y
  ss : W.heap.size ≤ s ∧ s < y.heap.size
  kt : Laid.KTab y
  lo : lowB ≤ W.heap.size
  st : (k = 0 ∧ St0 y s) ∨ (0 < k ∧ ∃ T kb fb, IsSt y T s kb fb ⟨zs k, []⟩ ∧ (∀ j, T j → W.heap.size ≤ j ∧ j < y.heap.size) ∧ W.heap.size ≤ kb ∧ W.heap.size ≤ fb)
theorem NwR.next {W y y' : World} {s k : Nat} (h : NwR W s k y) (hb : Below y.heap.size y y') : NwR W s k y' :=
  ⟨bl h.below hb, ⟨h.ss.1, Nat.lt_of_lt_of_le h.ss.2 hb.size⟩, ktab_below h.kt hb, h.lo, h.st.imp (fun ⟨e, h0⟩ => ⟨e, h0.kept (kept_none hb) id⟩) fun ⟨e, T, kb, fb, h1, h2, h3⟩ => ⟨e, T, kb, fb, h1.below hb, fun j hj => ⟨(h2 j hj).1, Nat.lt_of_lt_of_le (h2 j hj).2 hb.size⟩, h3⟩⟩
theorem NwR.drew {W y : World} {s k : Nat} (h : NwR W s k y) : NwR W s k y.drew := h.next (Below.refl _ _).drew
theorem below_of {W y y' : World} {U : Nat → Prop} (h : Below W.heap.size W y) (hk : Kept U y y') (hU : ∀ j, j < y.heap.size → U j → W.heap.size ≤ j) : Below W.heap.size W y' := h.trans (hk.below h.size hU)
theorem addN_walk {W y : World} {s k : Nat} (h : NwR W s k y) (v : Value) (hv : v = pv (zz k)) :
    Calls Tryd.prog 12 #[.pointer (some ⟨s, 0, none⟩), v] y fun e w' => (∃ r, e = .returned r) ∧ NwR W s (k + 1) w' := by
  subst hv
  have hlo : lowB ≤ s := Nat.le_trans h.lo h.ss.1
  rcases h.st with ⟨rfl, h0⟩ | ⟨hk, T, kb, fb, h1, h2, h3⟩
  · refine (add_first s (zz 0) y h.kt h0 hlo).mono ?_
    rintro e w' ⟨he, pb, kb, fb, h1, h2, h3⟩
    have hb : Below W.heap.size W w' := below_of h.below h3 fun j _ hj => by rw [hj]; exact h.ss.1
    have hsz := h.below.size
    obtain ⟨pb', av, sv, ho⟩ := h1.own
    refine ⟨⟨_, he⟩, hb, ⟨h.ss.1, ho.box.lt⟩, ktab_kept h.kt h3 (fun j hj => .inr (by rw [hj]; exact hlo)), h.lo, .inr ⟨by omega, _, kb, fb, h1, fun j hj => ?_, by omega, by omega⟩⟩
    rcases hj with rfl | rfl
    · exact ⟨h.ss.1, ho.box.lt⟩
    · exact ⟨by omega, h2.2.2.2⟩
  · refine (add_walk T s kb fb ⟨zs k, []⟩ (zz k) y h.kt h1 fun j hj => (h2 j hj).2).mono ?_
    rintro e w' ⟨he, h4, h5⟩
    have hU : ∀ j, Foot T kb fb j → W.heap.size ≤ j := fun j hj => hj.elim (fun hj => (h2 j hj).1) fun hj => hj.elim (fun e => e ▸ h3.1) fun e => e ▸ h3.2
    exact ⟨⟨_, he⟩, below_of h.below h5 fun j _ hj => hU j hj, ⟨h.ss.1, Nat.lt_of_lt_of_le h.ss.2 h5.size⟩, ktab_kept h.kt h5 (fun j hj => .inr (Nat.le_trans h.lo (hU j hj))), h.lo, .inr ⟨by omega, T, kb, fb, h4, fun j hj => ⟨(h2 j hj).1, Nat.lt_of_lt_of_le (h2 j hj).2 h5.size⟩, h3⟩⟩
set_option maxHeartbeats 4000000 in
set_option maxRecDepth 100000 in
theorem New_walk (w : World) (ht : Laid.KTab w) (hlo : lowB ≤ w.heap.size) :
    Calls Tryd.prog 5 #[] w fun e w' => ∃ s T kb fb, e = .returned (.pointer (some ⟨s, 0, none⟩)) ∧ IsSt w' T s kb fb nw ∧ Below w.heap.size w w' ∧ (∀ j, Foot T kb fb j → w.heap.size ≤ j) ∧ (∀ j, T j → j < w'.heap.size) ∧ Laid.KTab w' := by
  have H0 : Hid (NwR w w.heap.size 0 (w.alloc (.cells #[.map none, .slice none 0 0, .map none, .pointer none] 58))) := Lib.hid
    ⟨(Below.refl _ _).alloc (Nat.le_refl _) _, ⟨Nat.le_refl _, by simp⟩, ktab_below ht ((Below.refl _ _).alloc (Nat.le_refl _) _), hlo, .inl ⟨rfl, Box4.new w _ _ _ _ _⟩⟩
  clear ht hlo
  have z2 := zeroHash
  generalize hz : (tab 32 fun _ => bv 0#8) = zh at *
  have HZ : Hid (zh.size = 32) := Lib.hid (by rw [← hz, tab_size])
  clear hz
  go_enter Tryd.func5, Tryd.ntmps5
  go_upto_region 3 with (fail)
  have HSS : Hid (lowB ≤ w.heap.size) := Lib.hid H0.out.lo
  generalize w.alloc (.cells #[.map none, .slice none 0 0, .map none, .pointer none] 58) = y0 at *
  generalize hs : w.heap.size = s at *
  have HS := Lib.hid hs
  clear hs
  go_loopw [7] (fun t y => ∃ k : Nat, k ≤ 16 ∧ t = .int .i64 k ∧ Hid (NwR w s k y)) (fun t _ => 16 - (intOf t).toNat)
  case atStart => exact ⟨0, Nat.zero_le _, rfl, H0⟩
  case round =>
    obtain ⟨k, hk, rfl, hp⟩ := hrel
    have HP := Lib.hid hp.out
    clear hp H0
    by_cases hlt : (k : Int) < 16
    · have hw1 : wrap64 ((k : Int) + 1) = ((k + 1 : Nat) : Int) := by unfold wrap64; omega
      have HW := Lib.hid (And.intro hw1 hk)
      have HZW := Lib.hid (zero_ok k (by omega) wr HP.out.kt)
      clear hw1 hk
      go_upto_region 6 with (first
        | (go_at_call 11; (with_reducible refine HZW.out.mono ?_); rintro e y1 ⟨he, hb⟩; obtain rfl : e = _ := he; have HB1 := Lib.hid hb; clear hb)
        | ((with_reducible refine wpList_store_row (P := Tryd.prog) (w := y1.alloc (.cells zh 31)) ?_ 31 (.tmp 3) (.tmp 13) ?_ y1.heap.size (tab 32 fun i => bv (zero k i)) ?_ ?_ 31 zh (heap_alloc_last y1 _) (infH _) ?_ (one_bv _ _) ?_); (· exact rfl); (· exact rfl); (· exact rfl); (· exact rfl); (· rw [HZ.out, tab_size]); rw [World.setRow_alloc_new]; simp only [Act.put]))
      have HP2 : Hid (NwR w s k (y1.alloc (.cells (tab 32 fun i => bv (zero k i)) 31))) := Lib.hid ((HP.out.next HB1.out).next ((Below.refl _ _).alloc (Nat.le_refl _) _))
      have HL := Lib.hid (loadHb (IsTab.new y1 31 32 fun i => bv (zero k i)))
      clear HP HB1 HZW
      generalize y1.alloc (.cells (tab 32 fun i => bv (zero k i)) 31) = y2 at *
      generalize y1.heap.size = q at *
      have hj := join_walk (zero k) (zero k) y2
      unfold dv at hj
      have HJ := Lib.hid hj
      clear hj
      go_upto_region 7 with (first
        | ((with_reducible refine wpList_loadE (P := Tryd.prog) (w := y2) (ty := 31) (x := .tmp 3) (p := .pointer (some ⟨q, 0, none⟩)) (v := .agg (tab 32 fun i => bv (zero k i))) ?_ ?_ ?_ HL.out ?_); (· exact rfl); (· exact rfl); (· exact rfl))
        | (go_at_call 13; (with_reducible refine HJ.out.mono ?_); rintro e y3 ⟨he, hb⟩; obtain rfl : e = _ := he; have HP3 := Lib.hid (addN_walk (HP2.out.next hb) (pv (jn (zero k) (zero k))) rfl); clear hb)
        | (go_at_call 12; (with_reducible refine HP3.out.mono ?_); rintro e y4 ⟨⟨r, he⟩, hp4⟩; obtain rfl : e = _ := he; have HP4 := Lib.hid hp4; clear hp4))
      have hw1 := HW.out.1
      go_wp2_with (fail)
      go_roundw
      case rel => exact ⟨k + 1, by have := HW.out; omega, by go_num, HP4⟩
      case measure => simp [intOf]; omega
    · obtain rfl : k = 16 := by omega
      go_wp2_with (fail)
      rcases HP.out.st with ⟨h, _⟩ | ⟨_, T, kb, fb, h1, h2, h3⟩
      · cases h
      · refine bodyPost_ret (v := .pointer (some ⟨s, 0, none⟩)) (by simp [results, Tryd.results5, go_sem]) rfl ?_
        exact ⟨s, rfl, T, kb, fb, h1, HP.out.below, fun j hj => by
          rcases hj with hj | hj | hj
          · exact (h2 j hj).1
          · rw [hj]; exact h3.1
          · rw [hj]; exact h3.2, fun j hj => (h2 j hj).2, HP.out.kt⟩
end Wt
end Go.Proofs.YtnaamljflcgepaaDoor
namespace Go.Proofs.YtnaamljflcgepaaDoor
open Go.RowKit
set_option linter.unusedVariables false
set_option linter.unusedSimpArgs false
namespace Wt
open Kc Mk
def un (l : List Hx) : List (Hx × Unit) := l.map fun h => (h, ())
/-- Was it asked? -/
def asks (l : List Hx) (h : Hx) : Bool := has (un l) h
end Wt
end Go.Proofs.YtnaamljflcgepaaDoor
namespace Go.Proofs.YtnaamljflcgepaaDoor
open Go.RowKit
set_option linter.unusedVariables false
section
variable {P : Program} {ops : Array Oper} {Q : Exit → Act → World → Prop} {S T : World → Prop} {z : Nat}
def wpAnyZ (P : Program) (ops : Array Oper) (Q : Exit → Act → World → Prop) (S : World → Prop) (z : Nat) : Nat → Array Bool → Act → World → Prop
  | 0, listed, a, w => Region.ready .any ops listed = [] ∧ Q .normal a w
  | fuel + 1, listed, a, w =>
    (Region.ready .any ops listed = [] → Q .normal a w) ∧
    ∀ i ∈ Region.ready .any ops listed, wpOp P ops Q i (fun a' w' => ((listed.setIfInBounds i true).getD z true = false → S w') ∧ wpAnyZ P ops Q S z fuel (listed.setIfInBounds i true) a' w') a w
theorem wpAny_of_Z : ∀ (fuel : Nat) (listed : Array Bool) (a : Act) (w : World), wpAnyZ P ops Q S z fuel listed a w → wpAny P .any ops Q fuel listed a w
  | 0, _, _, _, h => h
  | fuel + 1, _, _, _, h => ⟨h.1, fun i hi => wpOp_mono (fun a' w' h' => wpAny_of_Z fuel _ a' w' h'.2) (h.2 i hi)⟩
theorem getD_set_ne' {l : Array Bool} {i j : Nat} (h : i ≠ j) : (l.setIfInBounds i true).getD j true = l.getD j true := getD_set_ne true h
theorem wpAnyZ_first {i : Nat} {oi : Oper} {v : Value} (J : Array Bool → Prop) (hi : ops[i]? = some oi) (hsel : ∀ (j : Nat) (o : Oper) cs b, ops[j]? = some o → o.op ≠ .select cs b) (hiz : i ≠ z)
    (hQ : ∀ c a w, Q (.panic c) (a.put oi.dst v) w → Q (.panic c) a w)
    (hJ : ∀ listed j, J listed → i ∈ Region.ready .any ops listed → j ∈ Region.ready .any ops listed → j ≠ i → J (listed.setIfInBounds j true))
    (hST : ∀ listed w, J listed → (listed.getD z true = false → S w) → T w) :
    ∀ (fuel : Nat) (listed : Array Bool) (a : Act) (w : World), J listed →
      (∀ j oj, ops[j]? = some oj → j ≠ i → listed.getD j true = false → (∀ e ∈ oj.after, Region.binds .any e = true → e.on ≠ i) → oi.apart ops oj = true) →
      i ∈ Region.ready .any ops listed → YieldsIf P ops T oi v a → (listed.getD z true = false → S w) →
      wpAnyZ P ops Q S z fuel (listed.setIfInBounds i true) (a.put oi.dst v) w → wpAnyZ P ops Q S z (fuel + 1) listed a w := by
  intro fuel
  induction fuel with
  | zero =>
    intro listed a w hJ0 _ hr hy hS H
    refine ⟨fun h => (by rw [h] at hr; cases hr), fun j hj => ?_⟩
    by_cases hji : j = i
    · subst hji; exact hy.wpOp hi (hST _ _ hJ0 hS) ⟨fun h => hS (by rw [getD_set_ne' hiz] at h; exact h), H⟩
    · have := ready_mono hj hji
      rw [H.1] at this
      cases this
  | succ fuel ih =>
    intro listed a w hJ0 hfree hr hy hS H
    refine ⟨fun h => (by rw [h] at hr; cases hr), fun j hj => ?_⟩
    by_cases hji : j = i
    · subst hji; exact hy.wpOp hi (hST _ _ hJ0 hS) ⟨fun h => hS (by rw [getD_set_ne' hiz] at h; exact h), H⟩
    · have h1 := H.2 j (ready_mono hj hji)
      obtain ⟨hjun, oj, hoj, hall⟩ := mem_ready.1 hj
      have hnot : ∀ e ∈ oj.after, Region.binds .any e = true → e.on ≠ i := fun e he hb heq => by
        have h1 := hall e he hb
        have h0 := (mem_ready.1 hr).1
        rw [heq] at h1
        rcases Nat.lt_or_ge i listed.size with h' | h'
        · simp [h'] at h0 h1; rw [h0] at h1; cases h1
        · simp [Array.getElem?_eq_none h'] at h1
      have h2 := wpOp_putIf hoj (hfree j oj hoj hji hjun hnot) (fun cs b => hsel i oi cs b hi) (fun cs b => hsel j oj cs b hoj) hQ hy h1
      have hfree' : ∀ k ok, ops[k]? = some ok → k ≠ i → (listed.setIfInBounds j true).getD k true = false →
          (∀ e ∈ ok.after, Region.binds .any e = true → e.on ≠ i) → oi.apart ops ok = true := fun k ok hk hki hun hno => by
        refine hfree k ok hk hki ?_ hno
        by_cases hjk : j = k
        · subst hjk; exact hjun
        · rw [getD_set_ne true hjk] at hun; exact hun
      refine wpOp_mono (fun a' w' h3 => ?_) h2
      obtain ⟨g1, g2, g3⟩ := h3
      have g2' : (listed.setIfInBounds j true).getD z true = false → S w' := fun h => g2 (by
        rw [Array.setIfInBounds_comm _ _ (Ne.symm hji), getD_set_ne' hiz]; exact h)
      refine ⟨g2', ih (listed.setIfInBounds j true) a' w' (hJ _ _ hJ0 hr hj hji) hfree' (ready_mono hr (Ne.symm hji)) g1 g2' ?_⟩
      rw [Array.setIfInBounds_comm _ _ hji]
      exact g3
inductive OZ where
  | done : OZ
  | take : Nat → OZ → OZ
  | free : Nat → OZ → OZ
  | one : Nat → OZ → OZ
def OZ.size : OZ → Nat
  | .done => 0
  | .take _ r => r.size + 1
  | .free _ r => r.size + 1
  | .one _ r => r.size + 1
def wpOz (P : Program) (ops : Array Oper) (Q : Exit → Act → World → Prop) (S : World → Prop) (z : Nat) : OZ → Act → World → Prop
  | .done, a, w => Q .normal a w
  | .take k r, a, w => ∃ o v, ops[k]? = some o ∧ YieldsIf P ops S o v a ∧ wpOz P ops Q S z r (a.put o.dst v) w
  | .free k r, a, w => ∃ o v, ops[k]? = some o ∧ YieldsIf P ops (fun _ => True) o v a ∧ wpOz P ops Q S z r (a.put o.dst v) w
  | .one k r, a, w => ∃ o, ops[k]? = some o ∧ Region.wanted o (yielded ops a.tmps) = true ∧ o.wp P a w (fun a' w' => (k ≠ z → S w') ∧ wpOz P ops Q S z r a' w') Q
theorem oz_done {a : Act} {w : World} (h : Q .normal a w) : wpOz P ops Q S z .done a w := h
theorem oz_tk {k : Nat} {r : OZ} {o : Oper} {a : Act} {w : World} (d : Option Tmp) (v : Value) (ho : ops[k]? = some o) (hd : o.dst = d) (hw : Region.wanted o (yielded ops a.tmps) = true)
    (hy : ∀ w, S w → (execOp a.eval o).run P w = .ok (.value v) w) (h : wpOz P ops Q S z r (a.put d v) w) : wpOz P ops Q S z (.take k r) a w :=
  ⟨o, v, ho, .inl ⟨hw, hy⟩, by rw [hd]; exact h⟩
theorem oz_fr {k : Nat} {r : OZ} {o : Oper} {a : Act} {w : World} (d : Option Tmp) (v : Value) (ho : ops[k]? = some o) (hd : o.dst = d) (hw : Region.wanted o (yielded ops a.tmps) = true)
    (hy : ∀ w, (execOp a.eval o).run P w = .ok (.value v) w) (h : wpOz P ops Q S z r (a.put d v) w) : wpOz P ops Q S z (.free k r) a w :=
  ⟨o, v, ho, .inl ⟨hw, fun w _ => hy w⟩, by rw [hd]; exact h⟩
theorem oz_ld {k : Nat} {r : OZ} {o : Oper} {a : Act} {w : World} (d : Option Tmp) (ty : TypeId) (x : Operand) (p v : Value) (ho : ops[k]? = some o) (hd : o.dst = d) (hw : Region.wanted o (yielded ops a.tmps) = true) (hop : o.op = .load ty x) (hx : a.eval x = p)
    (hl : ∀ w, S w → (Instr.loadAt ty p).run P w = .ok v w) (h : wpOz P ops Q S z r (a.put d v) w) : wpOz P ops Q S z (.take k r) a w :=
  oz_tk d v ho hd hw (fun w hw => by unfold execOp; simp only [hop, hx]; simp [hl w hw, Result.andThen]) h
/-- An operation that is carried out ahead of the last store. -/
theorem oz_f {k : Nat} {r : OZ} {o : Oper} {a : Act} {w : World} (ho : ops[k]? = some o) (hw : Region.wanted o (yielded ops a.tmps) = true)
    (h : ∀ K : Act → World → Prop, (∀ a' w', S w' → wpOz P ops Q S z r a' w' → K a' w') → o.wp P a w K Q) : wpOz P ops Q S z (.one k r) a w :=
  ⟨o, ho, hw, h _ fun _ _ h1 h2 => ⟨fun _ => h1, h2⟩⟩
/-- The last store. -/
theorem oz_z {r : OZ} {o : Oper} {a : Act} {w : World} (ho : ops[z]? = some o) (hw : Region.wanted o (yielded ops a.tmps) = true)
    (h : ∀ K : Act → World → Prop, (∀ a' w', wpOz P ops Q S z r a' w' → K a' w') → o.wp P a w K Q) : wpOz P ops Q S z (.one z r) a w :=
  ⟨o, ho, hw, h _ fun _ _ h2 => ⟨fun h => absurd rfl h, h2⟩⟩
def awaits (ops : Array Oper) (z k : Nat) : Bool := match ops[z]? with
  | some oz => oz.after.any fun e => Region.binds .any e && e.on == k
  | none => false
def ozB (ops : Array Oper) (z : Nat) : OZ → Array Bool → Bool
  | .done, l => (Region.ready .any ops l).isEmpty
  | .take k r, l => (k != z) && !(l.getD z true) && awaits ops z k && (Region.ready .any ops l).contains k && Region.free .any ops l k && ozB ops z r (l.setIfInBounds k true)
  | .free k r, l => (k != z) && (Region.ready .any ops l).contains k && Region.free .any ops l k && ozB ops z r (l.setIfInBounds k true)
  | .one k r, l => decide (Region.ready .any ops l = [k]) && ((k == z) || !(l.getD z true)) && ozB ops z r (l.setIfInBounds k true)
theorem not_ready {listed : Array Bool} {k : Nat} (hw : awaits ops z k = true) (hk : k ∈ Region.ready .any ops listed) : ¬ z ∈ Region.ready .any ops listed := fun hz => by
  obtain ⟨_, oz, hoz, hall⟩ := mem_ready.1 hz
  unfold awaits at hw
  rw [hoz] at hw
  obtain ⟨n, hn, he⟩ := Array.any_eq_true.1 hw
  simp only [Bool.and_eq_true, beq_iff_eq] at he
  have h1 := hall _ (Array.getElem_mem hn) he.1
  have h0 := (mem_ready.1 hk).1
  rw [he.2] at h1
  rcases Nat.lt_or_ge k listed.size with h' | h'
  · simp [h'] at h0 h1; rw [h0] at h1; cases h1
  · simp [Array.getElem?_eq_none h'] at h1
theorem oz_any (hs : Region.noSelect ops = true) (hQ : ∀ c a d v w, Q (.panic c) (a.put d v) w → Q (.panic c) a w) : ∀ (l : OZ) (listed : Array Bool) (a : Act) (w : World), (listed.getD z true = false → S w) →
    ozB ops z l listed = true → wpOz P ops Q S z l a w → wpAnyZ P ops Q S z l.size listed a w
  | .done, _, _, _, _, hB, h => ⟨by simpa [ozB] using hB, h⟩
  | .take k r, listed, a, w, hS, hB, ⟨o, v, h0, hy, h⟩ => by
    simp only [ozB, Bool.and_eq_true, bne_iff_ne, ne_eq, Bool.not_eq_true'] at hB
    obtain ⟨⟨⟨⟨⟨b1, b2⟩, b3⟩, b4⟩, b5⟩, b6⟩ := hB
    exact wpAnyZ_first (fun l => l.getD z true = false) h0 (Region.noSelect_spec hs) b1 (fun c a w => hQ c a _ _ w)
      (fun l j hl hk hj hjk => by
        have hne : j ≠ z := fun e => not_ready b3 hk (by rw [← e]; exact hj)
        rw [getD_set_ne' hne]; exact hl) (fun l w hl h => h hl) r.size listed a w b2 (Region.free_spec h0 b5) (by simpa using b4) hy hS
      (oz_any hs hQ r _ _ _ (fun h => hS b2) b6 h)
  | .free k r, listed, a, w, hS, hB, ⟨o, v, h0, hy, h⟩ => by
    simp only [ozB, Bool.and_eq_true, bne_iff_ne, ne_eq] at hB
    obtain ⟨⟨⟨b1, b4⟩, b5⟩, b6⟩ := hB
    exact wpAnyZ_first (fun l => True) h0 (Region.noSelect_spec hs) b1 (fun c a w => hQ c a _ _ w)
      (fun l j hl hk hj hjk => trivial) (fun l w hl h => trivial) r.size listed a w trivial (Region.free_spec h0 b5) (by simpa using b4) hy hS
      (oz_any hs hQ r _ _ _ (fun h => hS (by rw [getD_set_ne' b1] at h; exact h)) b6 h)
  | .one k r, listed, a, w, hS, hB, ⟨o, h0, hw, h⟩ => by
    simp only [ozB, Bool.and_eq_true, decide_eq_true_eq, Bool.or_eq_true, beq_iff_eq, Bool.not_eq_true'] at hB
    obtain ⟨⟨b1, b2⟩, b3⟩ := hB
    show wpAnyZ P ops Q S z (r.size + 1) listed a w
    refine ⟨fun hh => (by rw [b1] at hh; cases hh), fun i hi => ?_⟩
    have hik : i = k := by rw [b1] at hi; simpa using hi
    subst hik
    unfold wpOp
    simp only [h0]
    rw [if_pos hw]
    refine .inl (Oper.wp_mono (fun a' w' gg => ?_) h)
    have g1 := gg.1
    have g2 := gg.2
    have g : (listed.setIfInBounds i true).getD z true = false → S w' := fun hz => by
      refine g1 fun e => ?_
      subst e
      rcases Nat.lt_or_ge i listed.size with h' | h'
      · simp [h'] at hz
      · simp [h'] at hz
    exact ⟨g, oz_any hs hQ r _ _ _ g b3 g2⟩
theorem wp_region_oz {id : Nat} {a : Act} {w : World} {l : List Oper} (S : World → Prop) (z : Nat) (t : OZ) (hm : P.follows .mixedOrders = true) (hB : (decide (t.size = l.length) && Region.noSelect l.toArray && ozB l.toArray z t (Array.replicate l.length false)) = true) (hS : S w.drew)
    (h : wpOz P l.toArray (NoPanic Q) S z t a w.drew) : (Code.region id l.toArray true).wp P Q a w := by
  refine wp_region_noPanic ?_
  have hQ : ∀ c a d v w, NoPanic Q (.panic c) (a.put d v) w → NoPanic Q (.panic c) a w := fun _ _ _ _ _ h => h
  simp only [Bool.and_eq_true, decide_eq_true_eq] at hB
  refine wp_region_any hm (wpAny_of_Z (S := S) (z := z) _ _ _ _ ?_)
  have h1 := oz_any (P := P) (Q := NoPanic Q) (ops := l.toArray) hB.1.2 hQ t (Array.replicate l.length false) a w.drew (fun _ => hS) hB.2 h
  rw [hB.1.1] at h1
  simpa using h1
end
end Go.Proofs.YtnaamljflcgepaaDoor
namespace Go.Proofs.YtnaamljflcgepaaDoor
open Go.RowKit
set_option linter.unusedVariables false
set_option linter.unusedSimpArgs false
section
variable {P : Program}
end
namespace Wt
open Kc Mk
section
variable {w : World} {T : Nat → Prop} {s kb pb qb : Nat} {S : Sto} {av : Value}
end
end Wt
end Go.Proofs.YtnaamljflcgepaaDoor
namespace Go.Proofs.YtnaamljflcgepaaDoor
open Go.RowKit
set_option linter.unusedVariables false
set_option linter.unusedSimpArgs false
namespace Wt
open Kc Mk
end Wt
end Go.Proofs.YtnaamljflcgepaaDoor
namespace Go.Proofs.YtnaamljflcgepaaDoor
open Go.RowKit
set_option linter.unusedVariables false
set_option linter.unusedSimpArgs false
namespace Vm
def pOp (x : Nat) : Nat := x / 2 ^ 56 % 256
def pN0 (x : Nat) : Nat := x / 2 ^ 32 % 256
def pD (x : Nat) : Nat := x / 2 ^ 52 % 16
def pA (x : Nat) : Nat := x / 2 ^ 48 % 16
def pB (x : Nat) : Nat := x / 2 ^ 44 % 16
def pC (x : Nat) : Nat := x / 2 ^ 40 % 16
/-- The number, as 32 bits with a sign. -/
def pN (x : Nat) : Int := ((x : Int) + 2147483648) % 4294967296 - 2147483648
def pOk (x : Nat) : Bool := decide (pOp x ≤ 35) && decide (pN0 x = 0)
/-- What Parts answers. -/
def partsV (x : Nat) : Value :=
  if pOk x = true then .tuple #[.int .i64 (pOp x), .int .i64 (pD x), .int .i64 (pA x), .int .i64 (pB x), .int .i64 (pC x), .int .i64 (pN x), .bool true]
  else .tuple #[.int .i64 0, .int .i64 0, .int .i64 0, .int .i64 0, .int .i64 0, .int .i64 0, .bool false]
theorem cut_walk (w : World) (q : Nat) (x : Nat) (k j : Nat) (hx : x < 18446744073709551616) (hk : k < 64) (hj : j ≤ 8) (k0 : w.cell? ⟨q, 0, none⟩ = some (.int .u64 x)) :
    Calls Tryd.prog 45 #[.int .u64 k, .int .u64 ((2 ^ j - 1 : Nat) : Int), .pointer (some ⟨q, 0, none⟩)] w fun e w' => e = .returned (.int .i64 ((x / 2 ^ k % 2 ^ j : Nat) : Int)) ∧ w = w' := by
  have hp : 2 ^ j ≤ 2 ^ 8 := Nat.pow_le_pow_right (by decide) hj
  have hpp : 0 < 2 ^ j := Nat.pow_pos (by decide)
  have hle : x / 2 ^ k ≤ x := Nat.div_le_self _ _
  have hb := u64_and_nat (x / 2 ^ k) (2 ^ j - 1) (by omega) (by omega)
  rw [Nat.and_two_pow_sub_one_eq_mod] at hb
  have hc : ((x / 2 ^ k : Nat) : Int) = (x : Int) / 2 ^ k := by rw [Int.natCast_ediv, Int.natCast_pow]; rfl
  have hw : wrap64 (((x / 2 ^ k % 2 ^ j : Nat)) : Int) = ((x / 2 ^ k % 2 ^ j : Nat) : Int) := by
    have := Nat.mod_lt (x / 2 ^ k) hpp
    generalize x / 2 ^ k % 2 ^ j = z at *
    unfold wrap64; omega
  rw [hc] at hb
  have HB := Lib.hid hb
  have HW := Lib.hid hw
  clear hb hw hc hle hpp hp
  generalize ((2 ^ j - 1 : Nat) : Int) = M at *
  generalize ((x / 2 ^ k % 2 ^ j : Nat) : Int) = R at *
  go_enter Tryd.func45, Tryd.ntmps45
  go_wp2_with (fail)
  rw [HB.out, HW.out]
  go_ret
  exact ⟨rfl, rfl⟩
theorem cut255 (w : World) (q x k : Nat) (hx : x < 18446744073709551616) (hk : k < 64) (k0 : w.cell? ⟨q, 0, none⟩ = some (.int .u64 x)) :
    Calls Tryd.prog 45 #[.int .u64 k, .int .u64 255, .pointer (some ⟨q, 0, none⟩)] w fun e w' => e = .returned (.int .i64 ((x / 2 ^ k % 256 : Nat) : Int)) ∧ w = w' := cut_walk w q x k 8 hx hk (by decide) k0
theorem cut15 (w : World) (q x k : Nat) (hx : x < 18446744073709551616) (hk : k < 64) (k0 : w.cell? ⟨q, 0, none⟩ = some (.int .u64 x)) :
    Calls Tryd.prog 45 #[.int .u64 k, .int .u64 15, .pointer (some ⟨q, 0, none⟩)] w fun e w' => e = .returned (.int .i64 ((x / 2 ^ k % 16 : Nat) : Int)) ∧ w = w' := cut_walk w q x k 4 hx hk (by decide) k0
theorem c56 (w : World) (q x : Nat) (hx : x < 18446744073709551616) (k0 : w.cell? ⟨q, 0, none⟩ = some (.int .u64 x)) :
    Calls Tryd.prog 45 #[.int .u64 56, .int .u64 255, .pointer (some ⟨q, 0, none⟩)] w fun e w' => e = .returned (.int .i64 (pOp x : Int)) ∧ w = w' := cut255 w q x 56 hx (by decide) k0
theorem c32 (w : World) (q x : Nat) (hx : x < 18446744073709551616) (k0 : w.cell? ⟨q, 0, none⟩ = some (.int .u64 x)) :
    Calls Tryd.prog 45 #[.int .u64 32, .int .u64 255, .pointer (some ⟨q, 0, none⟩)] w fun e w' => e = .returned (.int .i64 (pN0 x : Int)) ∧ w = w' := cut255 w q x 32 hx (by decide) k0
theorem c52 (w : World) (q x : Nat) (hx : x < 18446744073709551616) (k0 : w.cell? ⟨q, 0, none⟩ = some (.int .u64 x)) :
    Calls Tryd.prog 45 #[.int .u64 52, .int .u64 15, .pointer (some ⟨q, 0, none⟩)] w fun e w' => e = .returned (.int .i64 (pD x : Int)) ∧ w = w' := cut15 w q x 52 hx (by decide) k0
theorem c48 (w : World) (q x : Nat) (hx : x < 18446744073709551616) (k0 : w.cell? ⟨q, 0, none⟩ = some (.int .u64 x)) :
    Calls Tryd.prog 45 #[.int .u64 48, .int .u64 15, .pointer (some ⟨q, 0, none⟩)] w fun e w' => e = .returned (.int .i64 (pA x : Int)) ∧ w = w' := cut15 w q x 48 hx (by decide) k0
theorem c44 (w : World) (q x : Nat) (hx : x < 18446744073709551616) (k0 : w.cell? ⟨q, 0, none⟩ = some (.int .u64 x)) :
    Calls Tryd.prog 45 #[.int .u64 44, .int .u64 15, .pointer (some ⟨q, 0, none⟩)] w fun e w' => e = .returned (.int .i64 (pB x : Int)) ∧ w = w' := cut15 w q x 44 hx (by decide) k0
theorem c40 (w : World) (q x : Nat) (hx : x < 18446744073709551616) (k0 : w.cell? ⟨q, 0, none⟩ = some (.int .u64 x)) :
    Calls Tryd.prog 45 #[.int .u64 40, .int .u64 15, .pointer (some ⟨q, 0, none⟩)] w fun e w' => e = .returned (.int .i64 (pC x : Int)) ∧ w = w' := cut15 w q x 40 hx (by decide) k0
/-- A world in which the box holds the word. -/
structure Bx (W : World) (q x : Nat) (y : World) : Prop where
  cell : y.cell? ⟨q, 0, none⟩ = some (.int .u64 x)
  below : Below W.heap.size W y
set_option maxHeartbeats 1000000 in
set_option maxRecDepth 100000 in
theorem parts_walk (w : World) (x : Nat) (hx : x < 18446744073709551616) :
    Calls Tryd.prog 29 #[.int .u64 x] w fun e w' => e = .returned (partsV x) ∧ Below w.heap.size w w' := by
  have HB : Hid (Bx w w.heap.size x (w.alloc (.cells #[.int .u64 x] 32))) := Lib.hid ⟨by simp, (Below.refl _ _).alloc (Nat.le_refl _) _⟩
  have HX := Lib.hid hx
  clear hx
  have hv : Hid (partsV x = if pOk x = true then .tuple #[.int .i64 (pOp x), .int .i64 (pD x), .int .i64 (pA x), .int .i64 (pB x), .int .i64 (pC x), .int .i64 (pN x), .bool true]
    else .tuple #[.int .i64 0, .int .i64 0, .int .i64 0, .int .i64 0, .int .i64 0, .int .i64 0, .bool false]) := Lib.hid rfl
  have HP : Hid (pOk x = (decide (pOp x ≤ 35) && decide (pN0 x = 0))) := Lib.hid rfl
  have H56 := Lib.hid (fun z : Wd (Bx w w.heap.size x) => in_of_same z (Calls.mono (c56 z.val w.heap.size x HX.out z.ok.cell) fun e w' h => h))
  have H52 := Lib.hid (fun z : Wd (Bx w w.heap.size x) => in_of_same z (c52 z.val w.heap.size x HX.out z.ok.cell))
  have H48 := Lib.hid (fun z : Wd (Bx w w.heap.size x) => in_of_same z (c48 z.val w.heap.size x HX.out z.ok.cell))
  have H44 := Lib.hid (fun z : Wd (Bx w w.heap.size x) => in_of_same z (c44 z.val w.heap.size x HX.out z.ok.cell))
  have H40 := Lib.hid (fun z : Wd (Bx w w.heap.size x) => in_of_same z (c40 z.val w.heap.size x HX.out z.ok.cell))
  have C56 := Lib.hid (c56 _ w.heap.size x HX.out HB.out.cell)
  have C32 := Lib.hid (c32 _ w.heap.size x HX.out HB.out.cell)
  have HN : Hid (wrap64 (wrap32 (x : Int)) = pN x) := Lib.hid (by unfold pN wrap64 wrap32; omega)
  go_enter Tryd.func29, Tryd.ntmps29
  go_upto_region 2 with (fail)
  generalize w.alloc (.cells #[.int .u64 x] 32) = y at *
  go_upto_region 3 with (go_at_call 45; (with_reducible refine C56.out.mono ?_); rintro e y1 ⟨he, hy⟩; obtain rfl : e = _ := he; subst hy)
  by_cases h1 : pOp x ≤ 35
  · by_cases h2 : pN0 x = 0
    · have t1 : decide (35 < (pOp x : Int)) = false := by simp; omega
      have t2 : ((pN0 x : Int) != 0) = false := by simp [h2]
      have HK : Hid (pOk x = true) := Lib.hid (by rw [HP.out]; simp [h1, h2])
      clear h1 h2
      go_upto_region 5 with (go_at_call 45; (with_reducible refine C32.out.mono ?_); rintro e y1 ⟨he, hy⟩; obtain rfl : e = _ := he; subst hy)
      have NE : Nonempty (Wd (Bx w w.heap.size x)) := ⟨⟨_, HB.out⟩⟩
      have k0 : ∀ z : Wd (Bx w w.heap.size x), z.val.cell? ⟨w.heap.size, 0, none⟩ = some (.int .u64 x) := fun z => z.ok.cell
      refine wp_region_in (Bx w w.heap.size x) (by kernel_rfl) (by kernel_rfl) ⟨HB.out.cell, HB.out.below.drew⟩ ?_
      repeat (go_big_quiet_step (first | with_reducible exact H52.out _ | with_reducible exact H48.out _ | with_reducible exact H44.out _ | with_reducible exact H40.out _))
      refine wpQuiet_nil ?_
      rintro y2 ⟨z, rfl⟩
      go_wp2_with (fail)
      rw [HN.out]
      refine bodyPost_ret (v := partsV x) ?_ rfl ⟨rfl, z.ok.below⟩
      rw [hv.out, if_pos HK.out]
      simp [results, Tryd.results29, go_sem]
    · have t1 : decide (35 < (pOp x : Int)) = false := by simp; omega
      have t2 : ((pN0 x : Int) != 0) = true := by simp; omega
      have HK : Hid (¬ pOk x = true) := Lib.hid (by rw [HP.out]; simp [h2])
      clear h1 h2
      go_wp2_with (go_at_call 45; (with_reducible refine C32.out.mono ?_); rintro e y1 ⟨he, hy⟩; obtain rfl : e = _ := he; subst hy)
      refine bodyPost_ret (v := partsV x) ?_ rfl ⟨rfl, HB.out.below⟩
      rw [hv.out, if_neg HK.out]
      simp [results, Tryd.results29, go_sem]
  · have t1 : decide (35 < (pOp x : Int)) = true := by simp; omega
    have HK : Hid (¬ pOk x = true) := Lib.hid (by rw [HP.out]; simp [h1])
    clear h1
    go_wp2_with (fail)
    refine bodyPost_ret (v := partsV x) ?_ rfl ⟨rfl, HB.out.below⟩
    rw [hv.out, if_neg HK.out]
    simp [results, Tryd.results29, go_sem]
end Vm
end Go.Proofs.YtnaamljflcgepaaDoor
namespace Go.Proofs.YtnaamljflcgepaaDoor
open Go.RowKit
set_option linter.unusedVariables false
set_option linter.unusedSimpArgs false
section
variable {P : Program}
end
namespace Vm
/-- Is a register one? -/
def gd (x : Int) : Prop := 0 ≤ x ∧ x ≤ 15
instance (x : Int) : Decidable (gd x) := by unfold gd; infer_instance
/-- Are these an instruction's parts? -/
def codeOk (op d a b c n : Int) : Prop := (0 ≤ op ∧ op ≤ 35 ∧ -2147483648 ≤ n ∧ n < 2147483648) ∧ gd d ∧ gd a ∧ gd b ∧ gd c
instance (op d a b c n : Int) : Decidable (codeOk op d a b c n) := by unfold codeOk; infer_instance
def codeW (op d a b c n : Int) : Int := op * 72057594037927936 + d * 4503599627370496 + a * 281474976710656 + b * 17592186044416 + c * 1099511627776 + n % 4294967296
end Vm
end Go.Proofs.YtnaamljflcgepaaDoor
namespace Go.Proofs.YtnaamljflcgepaaDoor
open Go.RowKit
set_option linter.unusedVariables false
set_option linter.unusedSimpArgs false
namespace Vm
end Vm
end Go.Proofs.YtnaamljflcgepaaDoor
namespace Go.Proofs.YtnaamljflcgepaaDoor
open Go.RowKit
set_option linter.unusedVariables false
set_option linter.unusedSimpArgs false
namespace Vm
structure R5 (w : World) (q : Nat) (f : Nat → Int) : Prop where
  k0 : w.cell? ⟨q, 0, none⟩ = some (.int .i64 (f 0))
  k1 : w.cell? ⟨q, 1, none⟩ = some (.int .i64 (f 1))
  k2 : w.cell? ⟨q, 2, none⟩ = some (.int .i64 (f 2))
  k3 : w.cell? ⟨q, 3, none⟩ = some (.int .i64 (f 3))
  k4 : w.cell? ⟨q, 4, none⟩ = some (.int .i64 (f 4))
theorem R5.below {w w' : World} {q : Nat} {f : Nat → Int} (h : R5 w q f) (hb : Below w.heap.size w w') : R5 w' q f := ⟨keep1 hb h.k0, keep1 hb h.k1, keep1 hb h.k2, keep1 hb h.k3, keep1 hb h.k4⟩
theorem R5.new (w : World) (a b c d e : Int) (f : Nat → Int) (h0 : f 0 = a) (h1 : f 1 = b) (h2 : f 2 = c) (h3 : f 3 = d) (h4 : f 4 = e) :
    R5 (w.alloc (.cells #[.int .i64 a, .int .i64 b, .int .i64 c, .int .i64 d, .int .i64 e] 3)) w.heap.size f := ⟨by simp [h0], by simp [h1], by simp [h2], by simp [h3], by simp [h4]⟩
end Vm
end Go.Proofs.YtnaamljflcgepaaDoor
namespace Go.Proofs.YtnaamljflcgepaaDoor
open Go.RowKit
set_option linter.unusedVariables false
set_option linter.unusedSimpArgs false
namespace Vm
open Kc
section
variable {w w' : World} {b : Nat} {M M' : Mac}
end
def stopM (M : Mac) (x : Nat) : Mac := { M with halted := true, exit := x }
set_option maxHeartbeats 1000000 in
set_option maxRecDepth 100000 in
theorem stop_walk (w : World) (b x : Nat) (M : Mac) (h : IsMac w b M) :
    Calls Tryd.prog 38 #[.pointer (some ⟨b, 0, none⟩), .int .u64 x] w fun e w' => e = .returned (.tuple #[]) ∧ IsMac w' b (stopM M x) ∧ Kept (fun k => k = b) w w' := by
  have k1 := h.halted
  have f1 := h.fz 8209
  have k2 := (h.setHalted true).exit
  have f2 := (h.setHalted true).fz 8210
  have HH := Lib.hid ((h.setHalted true).setExit x)
  have HK : Hid (Kept (fun k => k = b) w ((w.setCell ⟨b, 8209, none⟩ (.bool true)).setCell ⟨b, 8210, none⟩ (.int .u64 (x : Int)))) := Lib.hid (kept_set (kept_set (Kept.refl (fun k => k = b) w) b _ rfl _) b _ rfl _)
  clear h
  go_enter Tryd.func38, Tryd.ntmps38
  go_wp2_with (fail)
  exact bodyPost_end (v := .tuple #[]) (by simp [results, Tryd.results38, go_sem]) rfl ⟨rfl, HH.out, HK.out⟩
end Vm
end Go.Proofs.YtnaamljflcgepaaDoor
namespace Go.Proofs.YtnaamljflcgepaaDoor
open Go.RowKit
set_option linter.unusedVariables false
set_option linter.unusedSimpArgs false
namespace Vm
open Kc
/-- What stands ahead of a step's switch. -/
structure Pre (w : World) (b : Nat) (M : Mac) (x : Nat) : Prop where
  mac : IsMac w b M
  ok : OkM M
  hh : M.halted = false
  pc : M.pc < 8192
  hx : M.mem M.pc = x
  pok : pOk x = true
theorem wrap_pc {p : Nat} (h : p < 8192) : IntKind.u64.wrap ((p : Int) + 1) = ((p + 1 : Nat) : Int) := by
  rw [IntWalk.u64_in _ (by omega)]; omega
theorem pA_lt (x : Nat) : pA x < 16 := Nat.mod_lt _ (by decide)
set_option maxHeartbeats 2000000 in
set_option maxRecDepth 100000 in
theorem step_halt (w : World) (b s : Nat) (M : Mac) (x : Nat) (h : Pre w b M x) (hop : pOp x = 0) :
    Calls Tryd.prog 25 #[.pointer (some ⟨b, 0, none⟩), .pointer (some ⟨s, 0, none⟩)] w fun e w' => e = .returned (.tuple #[]) ∧ IsMac w' b (stopM { M with pc := M.pc + 1 } (M.reg (pA x))) ∧ Kept (fun k => k = b) w w' := by
  have k3 : w.cell? ⟨b, 8209, none⟩ = some (.bool false) := h.hh ▸ h.mac.halted
  have k2 := h.mac.pc
  have tpc : decide (8192 ≤ (M.pc : Int)) = false := by have := h.pc; simp; omega
  have HP := Lib.hid h
  have hxb : x < 18446744073709551616 := h.hx ▸ h.ok.mem _
  have HXB := Lib.hid hxb
  clear hxb
  clear h
  go_enter Tryd.func25, Tryd.ntmps25
  go_upto_region 3 with (fail)
  have NE : Nonempty (Wd (fun z => Below w.heap.size w z)) := ⟨⟨w.drew, (Below.refl _ _).drew⟩⟩
  have kpc : ∀ z : Wd (fun z => Below w.heap.size w z), z.val.cell? ⟨b, 8208, none⟩ = some (.int .u64 (M.pc : Int)) := fun z => keep1 z.ok HP.out.mac.pc
  have km : ∀ z : Wd (fun z => Below w.heap.size w z), z.val.cell? ⟨b, M.pc, none⟩ = some (.int .u64 (x : Int)) := fun z => keep1 z.ok (HP.out.hx ▸ HP.out.mac.mem HP.out.pc)
  have hlt : (M.pc : Int) < 8192 := by have := HP.out.pc; omega
  have hpv : Hid (partsV x = .tuple #[.int .i64 (pOp x), .int .i64 (pD x), .int .i64 (pA x), .int .i64 (pB x), .int .i64 (pC x), .int .i64 (pN x), .bool true]) := Lib.hid (if_pos HP.out.pok)
  have Q1 := Lib.hid (fun z : Wd (fun z => Below w.heap.size w z) => in_of_below z (fun y hb => bl z.ok hb) (hpv.out ▸ parts_walk z.val x HXB.out))
  clear k2 k3 tpc
  refine wp_region_in (fun z => Below w.heap.size w z) (by kernel_rfl) (by kernel_rfl) (Below.refl _ _).drew ?_
  repeat (go_big_quiet_step (with_reducible exact Q1.out _))
  refine wpQuiet_nil ?_
  rintro y0 ⟨z, rfl⟩
  have HZ := Lib.hid (HP.out.mac.below z.ok)
  have HB := Lib.hid z.ok
  clear Q1 kpc km NE hlt
  generalize z.val = y at *
  have ha : (pA x : Int) < 16 := by have := pA_lt x; omega
  have kp := HZ.out.pc
  have fp := HZ.out.fz 8208
  have HW : Hid (IntKind.u64.wrap ((M.pc : Int) + 1) = ((M.pc + 1 : Nat) : Int)) := Lib.hid (wrap_pc HP.out.pc)
  have HS : Hid (IsMac (y.setCell ⟨b, 8208, none⟩ (.int .u64 (IntKind.u64.wrap ((M.pc : Int) + 1)))) b { M with pc := M.pc + 1 }) := Lib.hid (by rw [HW.out]; exact HZ.out.setPc (M.pc + 1))
  have HK : Hid (Kept (fun k => k = b) w (y.setCell ⟨b, 8208, none⟩ (.int .u64 (IntKind.u64.wrap ((M.pc : Int) + 1))))) := Lib.hid (kept_set (S := fun k => k = b) (Kept.ofBelow HB.out) b _ rfl _)
  go_upto_region 10 with (fail)
  clear kp fp
  generalize y.setCell ⟨b, 8208, none⟩ (.int .u64 (IntKind.u64.wrap ((M.pc : Int) + 1))) = y1 at *
  have ka := HS.out.reg (pA_lt x)
  have HC := Lib.hid (stop_walk y1 b (M.reg (pA x)) _ HS.out)
  go_wp2_with (go_at_call 38; (with_reducible refine HC.out.mono ?_); rintro e y2 ⟨he, hm, hk⟩; obtain rfl : e = _ := he; have HM2 := Lib.hid hm; have HK2 := Lib.hid hk; clear hm hk)
  exact bodyPost_end (v := .tuple #[]) (by simp [results, Tryd.results25, go_sem]) rfl ⟨rfl, HM2.out, HK.out.trans HK2.out fun _ _ h => h⟩
end Vm
end Go.Proofs.YtnaamljflcgepaaDoor
namespace Go.Proofs.YtnaamljflcgepaaDoor
open Go.RowKit
set_option linter.unusedVariables false
set_option linter.unusedSimpArgs false
namespace Wt
end Wt
namespace Vm
open Kc
end Vm
end Go.Proofs.YtnaamljflcgepaaDoor
namespace Go.Proofs.YtnaamljflcgepaaDoor
open Go.RowKit
set_option linter.unusedVariables false
set_option linter.unusedSimpArgs false
namespace Vm
open Kc
def ws : List Nat := [1878001044613496837, 1882504648535834621, 85885052268838912, 844424930131968]
def wv' (x : Nat) : Value := .int .u64 (x : Int)
/-- The four machines' beginning, and their steps. -/
def wf (j : Nat) : Nat := ws.getD j 0
end Vm
end Go.Proofs.YtnaamljflcgepaaDoor
namespace Go.Proofs.YtnaamljflcgepaaDoor
open Go.RowKit
set_option linter.unusedVariables false
set_option linter.unusedSimpArgs false
namespace Vm
open Kc
/-- An instruction as the statements hand it on. -/
structure Ins where
  op : Int
  d : Int
  a : Int
  b : Int
  c : Int
  n : Int
  raw : Nat
def insV (x : Ins) : List Value := [.int .i64 x.op, .int .i64 x.d, .int .i64 x.a, .int .i64 x.b, .int .i64 x.c, .int .i64 x.n, .int .u64 x.raw]
def IsIns (w : World) (b o n : Nat) (f : Nat → Ins) : Prop := ∀ j i v, j < n → (insV (f j))[i]? = some v → w.cell? ⟨b, o + j * 7 + i, none⟩ = some v
theorem IsIns.below {w w' : World} {b o n : Nat} {f : Nat → Ins} (h : IsIns w b o n f) (hb : Below w.heap.size w w') : IsIns w' b o n f := fun j i v h1 h2 => keep1 hb (h j i v h1 h2)
def m16 (z : Int) : Int := wrap64 ((IntKind.u64.wrap z).tmod 16)
def wordOf (x : Ins) : Nat := if codeOk x.op (m16 x.d) (m16 x.a) (m16 x.b) (m16 x.c) x.n then (codeW x.op (m16 x.d) (m16 x.a) (m16 x.b) (m16 x.c) x.n).toNat else x.raw
/-- What the loop keeps: the words so far. -/
structure Wl (W : World) (b o n : Nat) (f : Nat → Ins) (j : Nat) (V : Value) (y : World) : Prop where
  ins : IsIns y b o n f
  row : y.ownsRow W.heap.size 32 1 V j ((List.range j).map fun i => wv' (wordOf (f i)))
  below : Below W.heap.size W y
  lt : b < W.heap.size
theorem Wl.grown {W y y' : World} {b o n j : Nat} {f : Nat → Ins} {V V' : Value} (h : Wl W b o n f j V y) (x : Int) (hx : x = (wordOf (f j) : Int))
    (hr : y'.ownsRow W.heap.size 32 1 V' (j + 1) ((List.range j).map (fun i => wv' (wordOf (f i))) ++ [.int .u64 x])) (hg : y.grownBy y' V.ownBlock) : Wl W b o n f (j + 1) V' y' := by
  have hne : ∀ k, V.ownBlock = some k → W.heap.size ≤ k := fun k hk => owns_base h.row hk
  have hb := below_grown (Nat.le_refl _) h.below hg hne
  refine ⟨fun k i v h1 h2 => ?_, ?_, hb, h.lt⟩
  · have := h.ins k i v h1 h2
    rw [World.cell?_of_block (w := y) (hg.block b (inHeap this) (fun e => by have := hne b e.symm; have := h.lt; omega))]
    exact this
  · rw [List.range_succ, List.map_append, List.map_singleton]
    rw [hx] at hr
    exact hr
end Vm
end Go.Proofs.YtnaamljflcgepaaDoor
namespace Go.Proofs.YtnaamljflcgepaaDoor
open Go.RowKit
set_option linter.unusedVariables false
set_option linter.unusedSimpArgs false
namespace Vm
open Kc
end Vm
end Go.Proofs.YtnaamljflcgepaaDoor
namespace Go.Proofs.YtnaamljflcgepaaDoor
open Go.RowKit
set_option linter.unusedVariables false
set_option linter.unusedSimpArgs false
namespace Vm
open Kc
theorem undMac : Tryd.prog.underlying 45 = some (.struct (Tryd.prog.fieldsOf 45)) := by kernel_rfl
/-- A machine, loaded whole. -/
theorem loadMac {w : World} {b : Nat} {M : Mac} (h : IsMac w b M) : (Instr.loadAt 45 (.pointer (some ⟨b, 0, none⟩))).run Tryd.prog w = .ok (.agg (tab 8211 (mc M))) w := by
  refine run_loadAt_mid w b 0 _ ((List.range 8211).map (mc M)) _ (fun j v hv => ?_) undMac rfl (by rw [List.length_map, List.length_range]; exact infM')
  obtain ⟨hj, rfl⟩ := List.getElem?_eq_some_iff.1 hv
  simp only [List.length_map, List.length_range] at hj
  have := IsTab.cell h j hj
  simpa using this
theorem Step_walk (w : World) (b s : Nat) (R : World → Prop) (hC : Calls Tryd.prog 25 #[.pointer (some ⟨b, 0, none⟩), .pointer (some ⟨s, 0, none⟩)] w fun e w' => e = .returned (.tuple #[]) ∧ R w') :
    Calls Tryd.prog 14 #[.pointer (some ⟨b, 0, none⟩), .pointer (some ⟨s, 0, none⟩)] w fun e w' => e = .returned .nilIface ∧ R w' := by
  have HC := Lib.hid hC
  clear hC
  go_enter Tryd.func14, Tryd.ntmps14
  go_wp2_with (go_at_call 25; (with_reducible refine HC.out.mono ?_); rintro e y ⟨he, hr⟩; obtain rfl : e = _ := he; have HR := Lib.hid hr; clear hr HC)
  exact bodyPost_ret (v := .nilIface) (by simp [results, Tryd.results14, go_sem]) rfl ⟨rfl, HR.out⟩
end Vm
end Go.Proofs.YtnaamljflcgepaaDoor
namespace Go.Proofs.YtnaamljflcgepaaDoor
open Go.RowKit
set_option linter.unusedVariables false
set_option linter.unusedSimpArgs false
namespace Vm
open Kc
theorem lowB_le' {w : World} (ht : Laid.KTab w) : Wt.lowB ≤ w.heap.size := by
  have := inHeap (ht 0 (by decide))
  unfold Wt.lowB
  omega
end Vm
end Go.Proofs.YtnaamljflcgepaaDoor
namespace Go.Proofs.YtnaamljflcgepaaDoor
open Go.RowKit
set_option linter.unusedVariables false
set_option linter.unusedSimpArgs false
namespace Vm
open Kc
end Vm
end Go.Proofs.YtnaamljflcgepaaDoor
namespace Go.Proofs.YtnaamljflcgepaaDoor
open Go.ChangeShapes Go.WideShapes Go.Deep Go.RowKit
set_option linter.unusedVariables false
set_option linter.unusedSimpArgs false
namespace Rl
open Kc (tab IsTab)
end Rl
end Go.Proofs.YtnaamljflcgepaaDoor
namespace Go.Proofs.YtnaamljflcgepaaDoor
open Go.RowKit
set_option linter.unusedVariables false
set_option linter.unusedSimpArgs false
namespace Rl
/-- Bytes as a number, the highest first. -/
def gv (f : Nat → Nat) : Nat → Nat
  | 0 => 0
  | m + 1 => gv f m * 256 + f m
end Rl
end Go.Proofs.YtnaamljflcgepaaDoor
