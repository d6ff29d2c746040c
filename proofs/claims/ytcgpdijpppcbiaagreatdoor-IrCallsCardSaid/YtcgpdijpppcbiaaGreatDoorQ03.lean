/- Merged of Qtl. Own work. -/
import Derived.Test.YtcgpdijpppcbiaaGreatDoorQ02
import Derived.StillTail
import Derived.Deep.Quiet
namespace Go.Proofs.YtcgpdijpppcbiaaGreatDoor
open Go.RowKit
set_option linter.unusedVariables false
section
variable {P : Program} {md : Region.Mode} {ops : Array Oper} {Q : Exit → Act → World → Prop} {C : World → Prop}
theorem wpAny_more : ∀ (f : Nat) (l : Array Bool) (a : Act) (w : World), wpAny P md ops Q f l a w → wpAny P md ops Q (f + 1) l a w
  | 0, _, _, _, h => ⟨fun _ => h.2, fun i hi => by rw [h.1] at hi; cases hi⟩
  | f + 1, _, _, _, h => ⟨h.1, fun i hi => wpOp_mono (fun a' w' h' => wpAny_more f _ a' w' h') (h.2 i hi)⟩
theorem wpAny_plus {g : Nat} {l : Array Bool} {a : Act} {w : World} (h : wpAny P md ops Q g l a w) : ∀ d, wpAny P md ops Q (d + g) l a w
  | 0 => by rw [Nat.zero_add]; exact h
  | d + 1 => by rw [show d + 1 + g = (d + g) + 1 from by omega]; exact wpAny_more _ _ _ _ (wpAny_plus h d)
/-- Each of the first n waits for earlier ones alone, and has no guard. -/
def backB (ops : Array Oper) (n : Nat) : Bool := (List.range n).all fun i => match ops[i]? with
  | some o => o.guard.isNone && o.after.all fun e => decide (e.on < i)
  | none => false
theorem backB_at {n i : Nat} (h : backB ops n = true) (hi : i < n) : ∃ o, ops[i]? = some o ∧ o.guard = none ∧ ∀ e ∈ o.after, e.on < i := by
  have h1 := List.all_eq_true.1 h i (List.mem_range.2 hi)
  split at h1
  · rename_i o ho
    simp only [Bool.and_eq_true, Option.isNone_iff_eq_none] at h1
    exact ⟨o, ho, h1.1, fun e he => by have := Array.all_eq_true'.1 h1.2 e he; simpa using this⟩
  · cases h1
/-- The first n are listed, the others not. -/
def fullTo (n g : Nat) : Array Bool := (List.replicate n true ++ List.replicate g false).toArray
theorem range_false {l : Array Bool} {j : Nat} (h : l.getD j true = false) : j < l.size := by
  rcases Nat.lt_or_ge j l.size with h' | h'
  · exact h'
  · simp [Array.getElem?_eq_none h'] at h
theorem range_true {l : Array Bool} {j : Nat} (h : l.getD j false = true) : j < l.size := by
  rcases Nat.lt_or_ge j l.size with h' | h'
  · exact h'
  · simp [Array.getElem?_eq_none h'] at h
theorem getD_same {l : Array Bool} {j : Nat} (h : j < l.size) (b c : Bool) : l.getD j b = l.getD j c := by simp [h]
variable {hd : Array Oper} {n g : Nat} {l' l : Array Bool}
theorem head_listed (hh : ∀ i, i < n → hd[i]? = ops[i]?) (hb : backB ops n = true) (hs : l'.size = n) (hr : Region.ready md hd l' = []) : ∀ i, i < n → l'.getD i false = true := by
  intro i
  induction i using Nat.strongRecOn with
  | _ i ih =>
    intro hi
    cases hl : l'.getD i false with
    | true => rfl
    | false =>
      obtain ⟨o, ho, _, hwait⟩ := backB_at hb hi
      have : i ∈ Region.ready md hd l' := mem_ready.2 ⟨by rw [getD_same (by omega) true false]; exact hl, o, by rw [hh i hi]; exact ho, fun e he _ => ih e.on (hwait e he) (by have := hwait e he; omega)⟩
      rw [hr] at this
      cases this
theorem is_full (hsz : l.size = n + g) (hl : ∀ i, i < n → l.getD i false = true) (ht : ∀ t, n ≤ t → t < n + g → l.getD t true = false) : l = fullTo n g := by
  apply Array.ext_getElem?
  intro i
  unfold fullTo
  by_cases h1 : i < n
  · have := hl i h1
    simp [show i < l.size from by omega] at this
    simp [List.getElem?_append, h1, show i < l.size from by omega, this]
  · by_cases h2 : i < n + g
    · have := ht i (by omega) h2
      simp [show i < l.size from by omega] at this
      simp [List.getElem?_append, h1, show i < l.size from by omega, this, show i - n < g from by omega]
    · rw [Array.getElem?_eq_none (by omega)]
      simp [List.getElem?_append, h1, show ¬ i - n < g from by omega]
theorem qOp_hd {i : Nat} (hh : hd[i]? = ops[i]?) {o : Oper} (ho : ops[i]? = some o) (hg : o.guard = none) {K : Act → Prop} {a : Act} (h : qOp P hd C i K a) : qOp P ops C i K a := by
  unfold qOp at *
  rw [hh, ho] at h
  simp only [ho] at h ⊢
  have e1 : ∀ y, Region.wanted o y = true := fun y => by simp [Region.wanted, hg]
  rw [e1, if_pos rfl] at h ⊢
  exact h
theorem any_of_head {Qh : Act → Prop} (hh : ∀ i, i < n → hd[i]? = ops[i]?) (hb : backB ops n = true) (hs : Region.sinkB md ops n = true) (hc : Region.chainB md ops n = true) (hn : n < ops.size) (hsz : ops.size = n + g)
    (hQ : ∀ a w, C w → Qh a → wpAny P md ops Q g (fullTo n g) a w) :
    ∀ (f : Nat) (l' l : Array Bool) (a : Act) (w : World), C w → HeadInv md ops n l → l'.size = n → (∀ j, j < n → l'.getD j false = l.getD j false) → wpAnyQ P md hd C Qh f l' a → wpAny P md ops Q (f + g) l a w := by
  have done : ∀ (l' l : Array Bool) (a : Act) (w : World), C w → HeadInv md ops n l → l'.size = n → (∀ j, j < n → l'.getD j false = l.getD j false) → Region.ready md hd l' = [] → Qh a → wpAny P md ops Q g l a w := by
    intro l' l a w hC inv h1 h2 hr hq
    have hl := head_listed hh hb h1 hr
    rw [is_full (l := l) (g := g) (by rw [inv.size, hsz]) (fun i hi => by rw [← h2 i hi]; exact hl i hi) (fun t h3 h4 => inv.tail t h3 (by omega))]
    exact hQ a w hC hq
  intro f
  induction f with
  | zero => intro l' l a w hC inv h1 h2 h; rw [Nat.zero_add]; exact done l' l a w hC inv h1 h2 h.1 h.2
  | succ f ih =>
    intro l' l a w hC inv h1 h2 h
    by_cases hr : Region.ready md hd l' = []
    · exact wpAny_plus (done l' l a w hC inv h1 h2 hr (h.1 hr)) (f + 1)
    · obtain ⟨i0, hi0⟩ := List.exists_mem_of_ne_nil _ hr
      have up : ∀ i, i ∈ Region.ready md hd l' → i < n ∧ i ∈ Region.ready md ops l := by
        intro i hi
        obtain ⟨k1, o, k2, k3⟩ := mem_ready.1 hi
        have hin : i < n := by have := range_false k1; omega
        refine ⟨hin, mem_ready.2 ⟨?_, o, by rw [← hh i hin]; exact k2, fun e he hbn => ?_⟩⟩
        · rw [getD_same (by rw [inv.size]; omega) true false, ← h2 i hin, getD_same (by omega) false true]; exact k1
        · have := k3 e he hbn
          rw [← h2 e.on (by have := range_true this; omega)]; exact this
      rw [show f + 1 + g = (f + g) + 1 from by omega]
      refine ⟨fun h0 => absurd (h0 ▸ (up i0 hi0).2) (by simp), fun i hi => ?_⟩
      have hin : i < n := by
        rcases Nat.lt_or_ge i n with h3 | h3
        · exact h3
        · exact absurd hi (tail_waits hs hc hn inv _ i0 rfl (up i0 hi0).1 (mem_ready.1 (up i0 hi0).2).1 i h3)
      obtain ⟨o, ho, hg, hwait⟩ := backB_at hb hin
      have hi' : i ∈ Region.ready md hd l' := by
        obtain ⟨k1, o2, k2, k3⟩ := mem_ready.1 hi
        have : o2 = o := Option.some.inj (k2.symm.trans ho)
        subst this
        refine mem_ready.2 ⟨?_, o2, by rw [hh i hin]; exact ho, fun e he hbn => ?_⟩
        · rw [getD_same (by omega) true false, h2 i hin, getD_same (by rw [inv.size]; omega) false true]; exact k1
        · rw [h2 e.on (by have := hwait e he; omega)]; exact k3 e he hbn
      refine wpOp_of_qOp hC (fun a' w' hw' hk => ?_) (qOp_hd (hh i hin) ho hg (h.2 i hi'))
      refine ih (l'.setIfInBounds i true) (l.setIfInBounds i true) a' w' hw' (inv.set hi hin) (by simp [h1]) (fun j hj => ?_) hk
      by_cases hij : i = j
      · subst hij; simp [show i < l'.size from by omega, show i < l.size from by rw [inv.size]; omega]
      · rw [getD_set_ne false hij, getD_set_ne false hij]; exact h2 j hj
/-- What the kernel reckons of such a region. -/
def tailB (md : Region.Mode) (ops : Array Oper) (n : Nat) : Bool :=
  decide (n < ops.size) && backB ops n && Region.sinkB md ops n && Region.chainB md ops n && Region.lexB md (ops.toList.take n).toArray && Region.seqB md ops (ops.size - n) n (fullTo n (ops.size - n))
theorem wp_region_quiet_tail {id : Nat} {a : Act} {w : World} {l : List Oper} (n : Nat) (R : World → Prop) (hm : P.follows .mixedOrders = true) (hB : tailB .any l.toArray n = true) (hR : R w.drew)
    (h : wpQuiet P (l.take n).toArray (fun w' => ∃ s : Wd R, w' = s.val) (fun a' => ∀ w', (∃ s : Wd R, w' = s.val) → wpList P l.toArray Q (l.drop n) a' w') (l.take n) a) : (Code.region id l.toArray true).wp P Q a w := by
  simp only [tailB, Bool.and_eq_true, decide_eq_true_eq] at hB
  obtain ⟨⟨⟨⟨⟨hn, hb⟩, hs⟩, hc⟩, hlex⟩, hseq⟩ := hB
  have hn' : n < l.length := by simpa using hn
  have htl : (l.take n).length = n := by simp; omega
  simp only [Region.lexB, Bool.and_eq_true] at hlex
  have H := wpAnyQ_lex (C := fun w' => ∃ s : Wd R, w' = s.val) (md := .any) hlex.1 (l.take n) 0 (Array.replicate (l.take n).toArray.size false) a (by simp) (by simpa using hlex.2) h
  refine wp_region_any hm ?_
  have inv0 : HeadInv .any l.toArray n (Array.replicate l.toArray.size false) :=
    ⟨by simp, fun j oj _ hl => (by rw [getD_replicate_false] at hl; cases hl), fun t _ ht => getD_in (by simpa using ht) (getD_replicate_false _ _)⟩
  have := any_of_head (P := P) (Q := Q) (C := fun w' => ∃ s : Wd R, w' = s.val) (g := l.toArray.size - n) (fun i hi => by simp [hi]) hb hs hc hn (by omega) (fun a' w' hC hq => by
    have := wpAny_of_seq (md := .any) (Q' := Q) (l.drop n) n (fullTo n (l.toArray.size - n)) a' w' (fun j => by simp [List.getElem?_drop]) (by simpa using hseq) (hq w' hC)
    simpa using this) _ _ _ a w.drew ⟨⟨_, hR⟩, rfl⟩ inv0 (by simp; omega) (fun j hj => by rw [getD_replicate_false, getD_replicate_false]) H
  rw [htl, show n + (l.toArray.size - n) = l.toArray.size by omega] at this
  exact this
/-- A load whose value is known in every world of the class, as a step of the head. -/
theorem wpQuiet_load {Q : Act → Prop} {a : Act} {o : Oper} {rest : List Oper} (ty : TypeId) (x : Operand) (p v : Value) (hg : o.guard = none) (ho : o.op = .load ty x) (hx : a.eval x = p)
    (hl : ∀ w, C w → (Instr.loadAt ty p).run P w = .ok v w) (h : wpQuiet P ops C Q rest (a.put o.dst v)) : wpQuiet P ops C Q (o :: rest) a := by
  have e1 : ∀ y, Region.wanted o y = true := fun y => by simp [Region.wanted, hg]
  unfold wpQuiet
  rw [e1, if_pos rfl]
  refine ⟨v, fun w hw => ?_, h⟩
  unfold Oper.quietAt execOp
  simp only [ho, hx]
  simp [hl w hw, Oper.quietUpon, Result.andThen]
end
end Go.Proofs.YtcgpdijpppcbiaaGreatDoor
