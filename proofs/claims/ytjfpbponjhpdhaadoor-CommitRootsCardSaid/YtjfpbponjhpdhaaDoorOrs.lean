/-
  A region that draws its order, in one order that serves every order; what every world of it is known to hold may grow from operation to operation. Own work, over the guide's laws of held regions.
-/
import Derived.Test.YtjfpbponjhpdhaaDoorTks
namespace Go.Proofs.YtjfpbponjhpdhaaDoor
open Go.RowKit
set_option linter.unusedVariables false
section
variable {P : Program} {ops : Array Oper} {Q : Exit → Act → World → Prop}
theorem wpAnyH_weaken {md : Region.Mode} {S S' : World → Prop} (hS : ∀ y, S' y → S y) : ∀ (fuel : Nat) (listed : Array Bool) (a : Act) (w : World), wpAnyH P md ops Q S' fuel listed a w → wpAnyH P md ops Q S fuel listed a w
  | 0, _, _, _, h => h
  | fuel + 1, listed, a, w, h => ⟨h.1, fun i hi => wpOp_mono (fun a' w' h' => ⟨hS _ h'.1, wpAnyH_weaken hS fuel _ a' w' h'.2⟩) (h.2 i hi)⟩
def wpOrs (P : Program) (ops : Array Oper) (Q : Exit → Act → World → Prop) : List (Nat × Bool) → (World → Prop) → Act → World → Prop
  | [], _, a, w => Q .normal a w
  | (k, true) :: r, S, a, w => ∃ o v, ops[k]? = some o ∧ YieldsIf P ops S o v a ∧ wpOrs P ops Q r S (a.put o.dst v) w
  | (k, false) :: r, S, a, w => ∃ o, ops[k]? = some o ∧ Region.wanted o (yielded ops a.tmps) = true ∧ o.wp P a w (fun a' w' => ∃ S' : World → Prop, (∀ y, S' y → S y) ∧ S' w' ∧ wpOrs P ops Q r S' a' w') Q
theorem wpOrs_done {S : World → Prop} {a : Act} {w : World} (h : Q .normal a w) : wpOrs P ops Q [] S a w := h
theorem wpOrs_f {S : World → Prop} {k : Nat} {r : List (Nat × Bool)} {o : Oper} {a : Act} {w : World} (ho : ops[k]? = some o) (hw : Region.wanted o (yielded ops a.tmps) = true)
    (h : ∀ K : Act → World → Prop, (∀ a' w', S w' → wpOrs P ops Q r S a' w' → K a' w') → o.wp P a w K Q) : wpOrs P ops Q ((k, false) :: r) S a w :=
  ⟨o, ho, hw, h _ fun _ _ h1 h2 => ⟨S, fun _ h => h, h1, h2⟩⟩
theorem wpOrs_g {S : World → Prop} {k : Nat} {r : List (Nat × Bool)} {o : Oper} {a : Act} {w : World} (ho : ops[k]? = some o) (hw : Region.wanted o (yielded ops a.tmps) = true)
    (h : ∀ K : Act → World → Prop, (∀ (S' : World → Prop) a' w', (∀ y, S' y → S y) → S' w' → wpOrs P ops Q r S' a' w' → K a' w') → o.wp P a w K Q) : wpOrs P ops Q ((k, false) :: r) S a w :=
  ⟨o, ho, hw, h _ fun S' _ _ h0 h1 h2 => ⟨S', h0, h1, h2⟩⟩
theorem wpOrs_t {S : World → Prop} {k : Nat} {r : List (Nat × Bool)} {o : Oper} {v : Value} {a : Act} {w : World} (ho : ops[k]? = some o) (hw : Region.wanted o (yielded ops a.tmps) = true)
    (hy : ∀ w, S w → (execOp a.eval o).run P w = .ok (.value v) w) (h : wpOrs P ops Q r S (a.put o.dst v) w) : wpOrs P ops Q ((k, true) :: r) S a w :=
  ⟨o, v, ho, .inl ⟨hw, hy⟩, h⟩
/-- 'string(b)' of a slice whose string is known. -/
theorem wpOrs_str {S : World → Prop} {k : Nat} {r : List (Nat × Bool)} {o : Oper} {a : Act} {w : World} (src dst : TypeId) (x : Operand) (V v : Value) (ho : ops[k]? = some o) (hw : Region.wanted o (yielded ops a.tmps) = true) (hop : o.op = .convert src dst x) (hx : a.eval x = V)
    (hl : ∀ w, S w → (convert src dst V).run P w = .ok v w) (h : wpOrs P ops Q r S (a.put o.dst v) w) : wpOrs P ops Q ((k, true) :: r) S a w :=
  wpOrs_t ho hw (fun w hw => by unfold execOp; simp only [hop, hx]; simp [hl w hw, Result.andThen]) h
def orsB (ops : Array Oper) : List (Nat × Bool) → Array Bool → Bool
  | [], l => (Region.ready .any ops l).isEmpty
  | (k, true) :: r, l => (Region.ready .any ops l).contains k && Region.free .any ops l k && orsB ops r (l.setIfInBounds k true)
  | (k, false) :: r, l => decide (Region.ready .any ops l = [k]) && orsB ops r (l.setIfInBounds k true)
theorem ors_any (hs : Region.noSelect ops = true) (hQ : ∀ c a d v w, Q (.panic c) (a.put d v) w → Q (.panic c) a w) : ∀ (l : List (Nat × Bool)) (listed : Array Bool) (S : World → Prop) (a : Act) (w : World), S w →
    orsB ops l listed = true → wpOrs P ops Q l S a w → wpAnyH P .any ops Q S l.length listed a w
  | [], _, _, _, _, _, hB, h => ⟨by simpa [orsB] using hB, h⟩
  | (k, true) :: r, listed, S, a, w, hS, hB, ⟨o, v, h0, hy, h⟩ => by
    simp only [orsB, Bool.and_eq_true] at hB
    exact wpAnyH_take h0 hs hB.1.2 hB.1.1 (fun c a w => hQ c a _ _ w) hy hS (ors_any hs hQ r _ _ _ _ hS hB.2 h)
  | (k, false) :: r, listed, S, a, w, hS, hB, ⟨o, h0, hw, h⟩ => by
    simp only [orsB, Bool.and_eq_true, decide_eq_true_eq] at hB
    refine wpAnyH_all hB.1 (by simp) fun i hi => ?_
    have hik : i = k := by simpa using hi
    subst hik
    unfold wpOp
    simp only [h0]
    rw [if_pos hw]
    exact .inl (Oper.wp_mono (fun a' w' ⟨S', h1, h2, h3⟩ => ⟨h1 _ h2, wpAnyH_weaken h1 _ _ _ _ (ors_any hs hQ r _ S' _ _ h2 hB.2 h3)⟩) h)
theorem wp_region_ors {id : Nat} {a : Act} {w : World} {l : List Oper} (S : World → Prop) (ord : List (Nat × Bool)) (hm : P.follows .mixedOrders = true) (hB : (decide (ord.length = l.length) && Region.noSelect l.toArray && orsB l.toArray ord (Array.replicate l.length false)) = true) (hS : S w.drew)
    (h : wpOrs P l.toArray (NoPanic Q) ord S a w.drew) : (Code.region id l.toArray true).wp P Q a w := by
  refine wp_region_noPanic ?_
  have hQ : ∀ c a d v w, NoPanic Q (.panic c) (a.put d v) w → NoPanic Q (.panic c) a w := fun _ _ _ _ _ h => h
  simp only [Bool.and_eq_true, decide_eq_true_eq] at hB
  refine wp_region_held (S := S) hm ?_
  have h1 := ors_any (P := P) (Q := NoPanic Q) (ops := l.toArray) hB.1.2 hQ ord (Array.replicate l.length false) S a w.drew hS hB.2 h
  rw [hB.1.1] at h1
  simpa using h1
end
end Go.Proofs.YtjfpbponjhpdhaaDoor
