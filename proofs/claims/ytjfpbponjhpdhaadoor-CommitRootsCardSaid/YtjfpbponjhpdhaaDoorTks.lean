/-
  A region that draws its order: its first operations only read (and yield the same in every world that meets S), the others come in a forced order; S is shown behind each of them. Own work, over the guide's laws of held regions.
-/
import Derived.OrdersHeld
import Derived.Deep.RegionHeld3
import Derived.StillTail
import Derived.WalkKit
import Derived.Deep.MidRow
namespace Go.Proofs.YtjfpbponjhpdhaaDoor
set_option linter.unusedVariables false
section
variable {P : Program} {ops : Array Oper} {Q : Exit → Act → World → Prop} {S : World → Prop}
/-- One behind the other, S behind each. -/
def wpSeqH (P : Program) (Q : Exit → Act → World → Prop) (S : World → Prop) : List Oper → Act → World → Prop
  | [], a, w => Q .normal a w
  | o :: rest, a, w => o.guard = none ∧ o.wp P a w (fun a' w' => S w' ∧ wpSeqH P Q S rest a' w') Q
theorem wpSeqH_nil {a : Act} {w : World} (h : Q .normal a w) : wpSeqH P Q S [] a w := h
theorem wpSeqH_step {o : Oper} {rest : List Oper} {a : Act} {w : World} (hg : o.guard = none) (h : ∀ K : Act → World → Prop, (∀ a' w', S w' → wpSeqH P Q S rest a' w' → K a' w') → o.wp P a w K Q) : wpSeqH P Q S (o :: rest) a w :=
  ⟨hg, h _ fun _ _ h1 h2 => ⟨h1, h2⟩⟩
/-- The reads, one behind the other. -/
def wpTake (P : Program) (ops : Array Oper) (S : World → Prop) (K : Act → Prop) : List Oper → Act → Prop
  | [], a => K a
  | o :: rest, a => ∃ v, YieldsIf P ops S o v a ∧ wpTake P ops S K rest (a.put o.dst v)
def takeB (ops : Array Oper) : Nat → Nat → Array Bool → Bool
  | 0, _, _ => true
  | f + 1, k, l => (Region.ready .any ops l).contains k && Region.free .any ops l k && takeB ops f (k + 1) (l.setIfInBounds k true)
def listedTo (n : Nat) (l : Array Bool) : Nat → Array Bool
  | 0 => l
  | f + 1 => listedTo (n + 1) (l.setIfInBounds n true) f
theorem seq_anyH : ∀ (l : List Oper) (k : Nat) (listed : Array Bool) (a : Act) (w : World), (∀ j, l[j]? = ops[k + j]?) → Region.seqB .any ops l.length k listed = true → wpSeqH P Q S l a w → wpAnyH P .any ops Q S l.length listed a w
  | [], _, _, _, _, _, hB, h => ⟨by simpa [Region.seqB] using hB, h⟩
  | o :: l, k, listed, a, w, hl, hB, h => by
    have h0 : ops[k]? = some o := by simpa using (hl 0).symm
    simp only [List.length_cons, Region.seqB, Bool.and_eq_true, decide_eq_true_eq] at hB
    refine wpAnyH_all hB.1 (by simp) fun i hi => ?_
    have hik : i = k := by simpa using hi
    subst hik
    unfold wpOp
    simp only [h0]
    rw [if_pos (by simp [Region.wanted, h.1])]
    exact .inl (Oper.wp_mono (fun a' w' h' => ⟨h'.1, seq_anyH l (i + 1) _ a' w' (fun j => by have := hl (j + 1); simpa [Nat.add_assoc, Nat.add_comm 1 j] using this) hB.2 h'.2⟩) h.2)
theorem take_anyH (hs : Region.noSelect ops = true) (hQ : ∀ c a d v w, Q (.panic c) (a.put d v) w → Q (.panic c) a w) {w : World} (hS : S w) {g : Nat} {K : Act → Prop} : ∀ (l : List Oper) (k : Nat) (listed : Array Bool) (a : Act), (∀ j, j < l.length → l[j]? = ops[k + j]?) →
    takeB ops l.length k listed = true → (∀ a', K a' → wpAnyH P .any ops Q S g (listedTo k listed l.length) a' w) → wpTake P ops S K l a → wpAnyH P .any ops Q S (l.length + g) listed a w
  | [], _, _, a, _, _, hK, h => by simpa [listedTo] using hK a h
  | o :: l, k, listed, a, hl, hB, hK, h => by
    have h0 : ops[k]? = some o := by simpa using (hl 0 (by simp)).symm
    simp only [List.length_cons, takeB, Bool.and_eq_true] at hB
    obtain ⟨v, hy, hr⟩ := h
    rw [List.length_cons, show l.length + 1 + g = (l.length + g) + 1 from by omega]
    exact wpAnyH_take h0 hs hB.1.2 hB.1.1 (fun c a w => hQ c a _ _ w) hy hS (take_anyH hs hQ hS l (k + 1) _ _ (fun j hj => by have := hl (j + 1) (by simp; omega); simpa [Nat.add_assoc, Nat.add_comm 1 j] using this) hB.2 hK hr)
def takesB (ops : Array Oper) (n : Nat) : Bool := decide (n ≤ ops.size) && Region.noSelect ops && takeB ops n 0 (Array.replicate ops.size false) && Region.seqB .any ops (ops.size - n) n (listedTo 0 (Array.replicate ops.size false) n)
theorem wp_region_takes {id : Nat} {a : Act} {w : World} {l : List Oper} (n : Nat) (S : World → Prop) (hm : P.follows .mixedOrders = true) (hB : takesB l.toArray n = true) (hS : S w.drew)
    (h : wpTake P l.toArray S (fun a' => wpSeqH P (NoPanic Q) S (l.drop n) a' w.drew) (l.take n) a) : (Code.region id l.toArray true).wp P Q a w := by
  refine wp_region_noPanic ?_
  have hQ : ∀ c a d v w, NoPanic Q (.panic c) (a.put d v) w → NoPanic Q (.panic c) a w := fun _ _ _ _ _ h => h
  simp only [takesB, Bool.and_eq_true, decide_eq_true_eq] at hB
  obtain ⟨⟨⟨hn, hsel⟩, ht⟩, hq⟩ := hB
  have hn' : n ≤ l.length := by simpa using hn
  have htl : (l.take n).length = n := by simp; omega
  have hdl : (l.drop n).length = l.toArray.size - n := by simp
  refine wp_region_held (S := S) hm ?_
  have := take_anyH (P := P) (Q := NoPanic Q) (S := S) (ops := l.toArray) (w := w.drew) hsel hQ hS (g := l.toArray.size - n) (l.take n) 0 (Array.replicate l.toArray.size false) a (fun j hj => by
    rw [htl] at hj; simp [hj]) (by rw [htl]; exact ht) (fun a' hk => by
      have := seq_anyH (P := P) (Q := NoPanic Q) (S := S) (ops := l.toArray) (l.drop n) n (listedTo 0 (Array.replicate l.toArray.size false) n) a' w.drew (fun j => by simp [List.getElem?_drop]) (by rw [hdl]; exact hq) hk
      rw [hdl] at this
      rw [htl]; exact this) h
  rw [htl, show n + (l.toArray.size - n) = l.toArray.size by omega] at this
  exact this
/-- A read of an array as one of the first. -/
theorem wpTake_load {K : Act → Prop} {a : Act} {o : Oper} {rest : List Oper} (ty : TypeId) (x : Operand) (p v : Value) (hg : o.guard = none) (ho : o.op = .load ty x) (hx : a.eval x = p)
    (hl : ∀ w, S w → (Instr.loadAt ty p).run P w = .ok v w) (h : wpTake P ops S K rest (a.put o.dst v)) : wpTake P ops S K (o :: rest) a :=
  ⟨v, .inl ⟨by simp [Region.wanted, hg], fun w hw => by unfold execOp; simp only [ho, hx]; simp [hl w hw, Result.andThen]⟩, h⟩
end
end Go.Proofs.YtjfpbponjhpdhaaDoor
