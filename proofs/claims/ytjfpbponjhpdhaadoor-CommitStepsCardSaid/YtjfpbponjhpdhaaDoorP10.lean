/- Merged of Oz. Own work. -/
import Derived.Test.YtjfpbponjhpdhaaDoorP07
namespace Go.Proofs.YtjfpbponjhpdhaaDoor
open Go.RowKit
set_option linter.unusedVariables false
section
variable {P : Program} {ops : Array Oper} {Q : Exit → Act → World → Prop} {S T : World → Prop} {z : Nat}
def wpAnyZ (P : Program) (ops : Array Oper) (Q : Exit → Act → World → Prop) (S : World → Prop) (z : Nat) : Nat → Array Bool → Act → World → Prop
  | 0, listed, a, w => Region.ready .any ops listed = [] ∧ Q .normal a w
  | fuel + 1, listed, a, w =>
    (Region.ready .any ops listed = [] → Q .normal a w) ∧
    ∀ i ∈ Region.ready .any ops listed, wpOp P ops Q i (fun a' w' => ((listed.setIfInBounds i true).getD z true = false → S w') ∧ wpAnyZ P ops Q S z fuel (listed.setIfInBounds i true) a' w') a w
theorem wpAny_of_Z : ∀ (fuel : Nat) (listed : Array Bool) (a : Act) (w : World), wpAnyZ P ops Q S z fuel listed a w → wpAny P .any ops Q fuel listed a w
  | 0, _, _, _, h => h
  | fuel + 1, _, _, _, h => ⟨h.1, fun i hi => wpOp_mono (fun a' w' h' => wpAny_of_Z fuel _ a' w' h'.2) (h.2 i hi)⟩
theorem getD_set_ne' {l : Array Bool} {i j : Nat} (h : i ≠ j) : (l.setIfInBounds i true).getD j true = l.getD j true := getD_set_ne true h
theorem wpAnyZ_first {i : Nat} {oi : Oper} {v : Value} (J : Array Bool → Prop) (hi : ops[i]? = some oi) (hsel : ∀ (j : Nat) (o : Oper) cs b, ops[j]? = some o → o.op ≠ .select cs b) (hiz : i ≠ z)
    (hQ : ∀ c a w, Q (.panic c) (a.put oi.dst v) w → Q (.panic c) a w)
    (hJ : ∀ listed j, J listed → i ∈ Region.ready .any ops listed → j ∈ Region.ready .any ops listed → j ≠ i → J (listed.setIfInBounds j true))
    (hST : ∀ listed w, J listed → (listed.getD z true = false → S w) → T w) :
    ∀ (fuel : Nat) (listed : Array Bool) (a : Act) (w : World), J listed →
      (∀ j oj, ops[j]? = some oj → j ≠ i → listed.getD j true = false → (∀ e ∈ oj.after, Region.binds .any e = true → e.on ≠ i) → oi.apart ops oj = true) →
      i ∈ Region.ready .any ops listed → YieldsIf P ops T oi v a → (listed.getD z true = false → S w) →
      wpAnyZ P ops Q S z fuel (listed.setIfInBounds i true) (a.put oi.dst v) w → wpAnyZ P ops Q S z (fuel + 1) listed a w := by
  intro fuel
  induction fuel with
  | zero =>
    intro listed a w hJ0 _ hr hy hS H
    refine ⟨fun h => (by rw [h] at hr; cases hr), fun j hj => ?_⟩
    by_cases hji : j = i
    · subst hji; exact hy.wpOp hi (hST _ _ hJ0 hS) ⟨fun h => hS (by rw [getD_set_ne' hiz] at h; exact h), H⟩
    · have := ready_mono hj hji
      rw [H.1] at this
      cases this
  | succ fuel ih =>
    intro listed a w hJ0 hfree hr hy hS H
    refine ⟨fun h => (by rw [h] at hr; cases hr), fun j hj => ?_⟩
    by_cases hji : j = i
    · subst hji; exact hy.wpOp hi (hST _ _ hJ0 hS) ⟨fun h => hS (by rw [getD_set_ne' hiz] at h; exact h), H⟩
    · have h1 := H.2 j (ready_mono hj hji)
      obtain ⟨hjun, oj, hoj, hall⟩ := mem_ready.1 hj
      have hnot : ∀ e ∈ oj.after, Region.binds .any e = true → e.on ≠ i := fun e he hb heq => by
        have h1 := hall e he hb
        have h0 := (mem_ready.1 hr).1
        rw [heq] at h1
        rcases Nat.lt_or_ge i listed.size with h' | h'
        · simp [h'] at h0 h1; rw [h0] at h1; cases h1
        · simp [Array.getElem?_eq_none h'] at h1
      have h2 := wpOp_putIf hoj (hfree j oj hoj hji hjun hnot) (fun cs b => hsel i oi cs b hi) (fun cs b => hsel j oj cs b hoj) hQ hy h1
      have hfree' : ∀ k ok, ops[k]? = some ok → k ≠ i → (listed.setIfInBounds j true).getD k true = false →
          (∀ e ∈ ok.after, Region.binds .any e = true → e.on ≠ i) → oi.apart ops ok = true := fun k ok hk hki hun hno => by
        refine hfree k ok hk hki ?_ hno
        by_cases hjk : j = k
        · subst hjk; exact hjun
        · rw [getD_set_ne true hjk] at hun; exact hun
      refine wpOp_mono (fun a' w' h3 => ?_) h2
      obtain ⟨g1, g2, g3⟩ := h3
      have g2' : (listed.setIfInBounds j true).getD z true = false → S w' := fun h => g2 (by
        rw [Array.setIfInBounds_comm _ _ (Ne.symm hji), getD_set_ne' hiz]; exact h)
      refine ⟨g2', ih (listed.setIfInBounds j true) a' w' (hJ _ _ hJ0 hr hj hji) hfree' (ready_mono hr (Ne.symm hji)) g1 g2' ?_⟩
      rw [Array.setIfInBounds_comm _ _ hji]
      exact g3
inductive OZ where
  | done : OZ
  | take : Nat → OZ → OZ
  | free : Nat → OZ → OZ
  | one : Nat → OZ → OZ
def OZ.size : OZ → Nat
  | .done => 0
  | .take _ r => r.size + 1
  | .free _ r => r.size + 1
  | .one _ r => r.size + 1
def wpOz (P : Program) (ops : Array Oper) (Q : Exit → Act → World → Prop) (S : World → Prop) (z : Nat) : OZ → Act → World → Prop
  | .done, a, w => Q .normal a w
  | .take k r, a, w => ∃ o v, ops[k]? = some o ∧ YieldsIf P ops S o v a ∧ wpOz P ops Q S z r (a.put o.dst v) w
  | .free k r, a, w => ∃ o v, ops[k]? = some o ∧ YieldsIf P ops (fun _ => True) o v a ∧ wpOz P ops Q S z r (a.put o.dst v) w
  | .one k r, a, w => ∃ o, ops[k]? = some o ∧ Region.wanted o (yielded ops a.tmps) = true ∧ o.wp P a w (fun a' w' => (k ≠ z → S w') ∧ wpOz P ops Q S z r a' w') Q
theorem oz_done {a : Act} {w : World} (h : Q .normal a w) : wpOz P ops Q S z .done a w := h
theorem oz_tk {k : Nat} {r : OZ} {o : Oper} {a : Act} {w : World} (d : Option Tmp) (v : Value) (ho : ops[k]? = some o) (hd : o.dst = d) (hw : Region.wanted o (yielded ops a.tmps) = true)
    (hy : ∀ w, S w → (execOp a.eval o).run P w = .ok (.value v) w) (h : wpOz P ops Q S z r (a.put d v) w) : wpOz P ops Q S z (.take k r) a w :=
  ⟨o, v, ho, .inl ⟨hw, hy⟩, by rw [hd]; exact h⟩
theorem oz_fr {k : Nat} {r : OZ} {o : Oper} {a : Act} {w : World} (d : Option Tmp) (v : Value) (ho : ops[k]? = some o) (hd : o.dst = d) (hw : Region.wanted o (yielded ops a.tmps) = true)
    (hy : ∀ w, (execOp a.eval o).run P w = .ok (.value v) w) (h : wpOz P ops Q S z r (a.put d v) w) : wpOz P ops Q S z (.free k r) a w :=
  ⟨o, v, ho, .inl ⟨hw, fun w _ => hy w⟩, by rw [hd]; exact h⟩
theorem oz_ld {k : Nat} {r : OZ} {o : Oper} {a : Act} {w : World} (d : Option Tmp) (ty : TypeId) (x : Operand) (p v : Value) (ho : ops[k]? = some o) (hd : o.dst = d) (hw : Region.wanted o (yielded ops a.tmps) = true) (hop : o.op = .load ty x) (hx : a.eval x = p)
    (hl : ∀ w, S w → (Instr.loadAt ty p).run P w = .ok v w) (h : wpOz P ops Q S z r (a.put d v) w) : wpOz P ops Q S z (.take k r) a w :=
  oz_tk d v ho hd hw (fun w hw => by unfold execOp; simp only [hop, hx]; simp [hl w hw, Result.andThen]) h
/-- An operation that is carried out ahead of the last store. -/
theorem oz_f {k : Nat} {r : OZ} {o : Oper} {a : Act} {w : World} (ho : ops[k]? = some o) (hw : Region.wanted o (yielded ops a.tmps) = true)
    (h : ∀ K : Act → World → Prop, (∀ a' w', S w' → wpOz P ops Q S z r a' w' → K a' w') → o.wp P a w K Q) : wpOz P ops Q S z (.one k r) a w :=
  ⟨o, ho, hw, h _ fun _ _ h1 h2 => ⟨fun _ => h1, h2⟩⟩
/-- The last store. -/
theorem oz_z {r : OZ} {o : Oper} {a : Act} {w : World} (ho : ops[z]? = some o) (hw : Region.wanted o (yielded ops a.tmps) = true)
    (h : ∀ K : Act → World → Prop, (∀ a' w', wpOz P ops Q S z r a' w' → K a' w') → o.wp P a w K Q) : wpOz P ops Q S z (.one z r) a w :=
  ⟨o, ho, hw, h _ fun _ _ h2 => ⟨fun h => absurd rfl h, h2⟩⟩
def awaits (ops : Array Oper) (z k : Nat) : Bool := match ops[z]? with
  | some oz => oz.after.any fun e => Region.binds .any e && e.on == k
  | none => false
def ozB (ops : Array Oper) (z : Nat) : OZ → Array Bool → Bool
  | .done, l => (Region.ready .any ops l).isEmpty
  | .take k r, l => (k != z) && !(l.getD z true) && awaits ops z k && (Region.ready .any ops l).contains k && Region.free .any ops l k && ozB ops z r (l.setIfInBounds k true)
  | .free k r, l => (k != z) && (Region.ready .any ops l).contains k && Region.free .any ops l k && ozB ops z r (l.setIfInBounds k true)
  | .one k r, l => decide (Region.ready .any ops l = [k]) && ((k == z) || !(l.getD z true)) && ozB ops z r (l.setIfInBounds k true)
theorem not_ready {listed : Array Bool} {k : Nat} (hw : awaits ops z k = true) (hk : k ∈ Region.ready .any ops listed) : ¬ z ∈ Region.ready .any ops listed := fun hz => by
  obtain ⟨_, oz, hoz, hall⟩ := mem_ready.1 hz
  unfold awaits at hw
  rw [hoz] at hw
  obtain ⟨n, hn, he⟩ := Array.any_eq_true.1 hw
  simp only [Bool.and_eq_true, beq_iff_eq] at he
  have h1 := hall _ (Array.getElem_mem hn) he.1
  have h0 := (mem_ready.1 hk).1
  rw [he.2] at h1
  rcases Nat.lt_or_ge k listed.size with h' | h'
  · simp [h'] at h0 h1; rw [h0] at h1; cases h1
  · simp [Array.getElem?_eq_none h'] at h1
theorem oz_any (hs : Region.noSelect ops = true) (hQ : ∀ c a d v w, Q (.panic c) (a.put d v) w → Q (.panic c) a w) : ∀ (l : OZ) (listed : Array Bool) (a : Act) (w : World), (listed.getD z true = false → S w) →
    ozB ops z l listed = true → wpOz P ops Q S z l a w → wpAnyZ P ops Q S z l.size listed a w
  | .done, _, _, _, _, hB, h => ⟨by simpa [ozB] using hB, h⟩
  | .take k r, listed, a, w, hS, hB, ⟨o, v, h0, hy, h⟩ => by
    simp only [ozB, Bool.and_eq_true, bne_iff_ne, ne_eq, Bool.not_eq_true'] at hB
    obtain ⟨⟨⟨⟨⟨b1, b2⟩, b3⟩, b4⟩, b5⟩, b6⟩ := hB
    exact wpAnyZ_first (fun l => l.getD z true = false) h0 (Region.noSelect_spec hs) b1 (fun c a w => hQ c a _ _ w)
      (fun l j hl hk hj hjk => by
        have hne : j ≠ z := fun e => not_ready b3 hk (by rw [← e]; exact hj)
        rw [getD_set_ne' hne]; exact hl) (fun l w hl h => h hl) r.size listed a w b2 (Region.free_spec h0 b5) (by simpa using b4) hy hS
      (oz_any hs hQ r _ _ _ (fun h => hS b2) b6 h)
  | .free k r, listed, a, w, hS, hB, ⟨o, v, h0, hy, h⟩ => by
    simp only [ozB, Bool.and_eq_true, bne_iff_ne, ne_eq] at hB
    obtain ⟨⟨⟨b1, b4⟩, b5⟩, b6⟩ := hB
    exact wpAnyZ_first (fun l => True) h0 (Region.noSelect_spec hs) b1 (fun c a w => hQ c a _ _ w)
      (fun l j hl hk hj hjk => trivial) (fun l w hl h => trivial) r.size listed a w trivial (Region.free_spec h0 b5) (by simpa using b4) hy hS
      (oz_any hs hQ r _ _ _ (fun h => hS (by rw [getD_set_ne' b1] at h; exact h)) b6 h)
  | .one k r, listed, a, w, hS, hB, ⟨o, h0, hw, h⟩ => by
    simp only [ozB, Bool.and_eq_true, decide_eq_true_eq, Bool.or_eq_true, beq_iff_eq, Bool.not_eq_true'] at hB
    obtain ⟨⟨b1, b2⟩, b3⟩ := hB
    show wpAnyZ P ops Q S z (r.size + 1) listed a w
    refine ⟨fun hh => (by rw [b1] at hh; cases hh), fun i hi => ?_⟩
    have hik : i = k := by rw [b1] at hi; simpa using hi
    subst hik
    unfold wpOp
    simp only [h0]
    rw [if_pos hw]
    refine .inl (Oper.wp_mono (fun a' w' gg => ?_) h)
    have g1 := gg.1
    have g2 := gg.2
    have g : (listed.setIfInBounds i true).getD z true = false → S w' := fun hz => by
      refine g1 fun e => ?_
      subst e
      rcases Nat.lt_or_ge i listed.size with h' | h'
      · simp [h'] at hz
      · simp [h'] at hz
    exact ⟨g, oz_any hs hQ r _ _ _ g b3 g2⟩
theorem wp_region_oz {id : Nat} {a : Act} {w : World} {l : List Oper} (S : World → Prop) (z : Nat) (t : OZ) (hm : P.follows .mixedOrders = true) (hB : (decide (t.size = l.length) && Region.noSelect l.toArray && ozB l.toArray z t (Array.replicate l.length false)) = true) (hS : S w.drew)
    (h : wpOz P l.toArray (NoPanic Q) S z t a w.drew) : (Code.region id l.toArray true).wp P Q a w := by
  refine wp_region_noPanic ?_
  have hQ : ∀ c a d v w, NoPanic Q (.panic c) (a.put d v) w → NoPanic Q (.panic c) a w := fun _ _ _ _ _ h => h
  simp only [Bool.and_eq_true, decide_eq_true_eq] at hB
  refine wp_region_any hm (wpAny_of_Z (S := S) (z := z) _ _ _ _ ?_)
  have h1 := oz_any (P := P) (Q := NoPanic Q) (ops := l.toArray) hB.1.2 hQ t (Array.replicate l.length false) a w.drew (fun _ => hS) hB.2 h
  rw [hB.1.1] at h1
  simpa using h1
end
end Go.Proofs.YtjfpbponjhpdhaaDoor
