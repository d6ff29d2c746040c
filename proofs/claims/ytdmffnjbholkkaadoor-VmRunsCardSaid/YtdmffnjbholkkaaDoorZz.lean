/- Merged. Own work. -/
import Derived.Test.YtdmffnjbholkkaaDoorZv
namespace Go.Proofs.YtdmffnjbholkkaaDoor
open Go.RowKit
set_option linter.unusedVariables false
set_option linter.unusedSimpArgs false
set_option linter.unusedVariables false
set_option linter.unusedSimpArgs false
namespace Wt
open Kc Mk
def rangeE : Value := .iface 62 (.int .i64 2)
/-- Is there such a leaf? -/
def place (d i : Int) : Prop := 0 ≤ d ∧ d ≤ 16 ∧ 0 ≤ i ∧ i < 2 ^ d.toNat
/-- A preimage with one half laid anew. -/
def wput (p : Px) (b : Nat) (h : Hx) : Px := fun x => if 32 * b ≤ x ∧ x < 32 * b + 32 then h (x - 32 * b) else p x
/-- The digests from a leaf on up. -/
def wleaf (f : Nat → Px) (d i : Nat) (leaf : Hx) : Nat → Hx
  | 0 => leaf
  | j + 1 => hs (wput (f (d - 1 - j)) (i / 2 ^ j % 2) (wleaf f d i leaf j))
/-- The preimage that is added at a height. -/
def wpre (f : Nat → Px) (d i : Nat) (leaf : Hx) (j : Nat) : Px := wput (f (d - 1 - j)) (i / 2 ^ j % 2) (wleaf f d i leaf j)
/-- The preimages behind some additions. -/
def wpres (M : List (Hx × Px)) (f : Nat → Px) (d i : Nat) (leaf : Hx) : Nat → List (Hx × Px)
  | 0 => M
  | j + 1 => putM (wpres M f d i leaf j) (hs (wpre f d i leaf j)) (wpre f d i leaf j)
theorem meas_dn {i k : Nat} (h : i + 1 ≤ k) : k - (i + 1) < k - i := by omega
theorem meas_lp {i k : Nat} (h : i + 1 ≤ k) (hw : wrap64 ((i : Int) + 1) = ((i + 1 : Nat) : Int)) : k - (intOf (.int .i64 (wrap64 ((i : Int) + 1)))).toNat < k - (intOf (.int .i64 (i : Int))).toNat := by
  rw [hw]
  show k - (i + 1) < k - i
  exact meas_dn h
/-- What Write's loop keeps. -/
structure Ww (W : World) (T : Nat → Prop) (s kb fb : Nat) (S : Sto) (q10 q15 B d : Nat) (h : Hx) (f : Nat → Px) (V : Value) (T' : Nat → Prop) (y : World) : Prop where
  st : IsSt y T' s kb fb S
  tt : ∀ k, T' k → (T k ∨ W.heap.size ≤ k) ∧ k < y.heap.size ∧ k ≠ q10 ∧ k ≠ q15
  hc : IsTab y q15 39 32 fun i => bv (h i)
  rc : IsTab y q10 39 32 fun _ => bv 0#8
  row : y.ownsRow B 37 64 V d (flp d f)
  vt : ∀ k, V.ownBlock = some k → ¬ T' k ∧ k ≠ q15 ∧ k ≠ q10
  kp : Kept (Foot T kb fb) W y
  kt : Laid.KTab W
  lo : ∀ k, T k → lowB ≤ k
  o : W.heap.size ≤ B ∧ W.heap.size ≤ q10 ∧ W.heap.size ≤ q15 ∧ q10 ≠ q15
  kl : kb < W.heap.size ∧ fb < W.heap.size
section
variable {W y y' : World} {T T' : Nat → Prop} {s kb fb q10 q15 B d : Nat} {S S' : Sto} {h h' : Hx} {f : Nat → Px} {V : Value}
theorem Ww.next (H : Ww W T s kb fb S q10 q15 B d h f V T' y) (hb : Below y.heap.size y y') : Ww W T s kb fb S q10 q15 B d h f V T' y' :=
  ⟨H.st.below hb, fun k hk => ⟨(H.tt k hk).1, Nat.lt_of_lt_of_le (H.tt k hk).2.1 hb.size, (H.tt k hk).2.2⟩, H.hc.below hb, H.rc.below hb, (Kept.ofBelow (S := fun _ => False) hb).row H.row (fun _ _ h => h), H.vt,
    H.kp.trans (Kept.ofBelow hb) fun _ _ h => h, H.kt, H.lo, H.o, H.kl⟩
theorem Ww.ktab (H : Ww W T s kb fb S q10 q15 B d h f V T' y) : Laid.KTab y :=
  ktab_kept H.kt H.kp fun j hj => .inr (by
    rcases hj with hj | hj | hj
    · exact H.lo j hj
    · rw [hj]; exact H.st.lo kb (.inr (.inl rfl))
    · rw [hj]; exact H.st.lo fb (.inr (.inr rfl)))
/-- Behind an Add. -/
theorem Ww.added (H : Ww W T s kb fb S q10 q15 B d h f V T' y) (hs : IsSt y' T' s kb fb S') (hk : Kept (Foot T' kb fb) y y') : Ww W T s kb fb S' q10 q15 B d h f V T' y' := by
  have hz := hk.size
  have ho := H.o
  have hl := H.kl
  have hn : ∀ q, W.heap.size ≤ q → ¬ T' q → ¬ Foot T' kb fb q := fun q h1 h2 h3 => by
    rcases h3 with h3 | h3 | h3
    · exact h2 h3
    · omega
    · omega
  refine ⟨hs, fun k hk' => ⟨(H.tt k hk').1, Nat.lt_of_lt_of_le (H.tt k hk').2.1 hz, (H.tt k hk').2.2⟩, Wt.IsTab.kept H.hc hk (hn _ ho.2.2.1 fun e => (H.tt _ e).2.2.2 rfl), Wt.IsTab.kept H.rc hk (hn _ ho.2.1 fun e => (H.tt _ e).2.2.1 rfl),
    hk.row H.row fun k e h3 => hn k (Nat.le_trans ho.1 (owns_base H.row e)) (H.vt k e).1 h3, H.vt, H.kp.trans hk fun k hlt h3 => ?_, H.kt, H.lo, H.o, H.kl⟩
  rcases h3 with h3 | h3 | h3
  · exact .inl ((H.tt k h3).1.elim id fun h => absurd h (by omega))
  · exact .inr (.inl h3)
  · exact .inr (.inr h3)
/-- Behind the store of a digest. -/
theorem Ww.set (H : Ww W T s kb fb S q10 q15 B d h f V T' y) (h' : Hx) : Ww W T s kb fb S q10 q15 B d h' f V T' (y.setRow q15 (tab 32 fun i => bv (h' i))) := by
  have hk : Kept (fun k => k = q15) y (y.setRow q15 (tab 32 fun i => bv (h' i))) := ⟨by simp, by simp, by simp, by simp, fun k _ hk => setRow_other _ _ _ _ hk⟩
  have ho := H.o
  have hl := H.kl
  have hr : IsTab (y.setRow q15 (tab 32 fun i => bv (h' i))) q15 39 32 fun i => bv (h' i) := H.hc.row
  exact ⟨H.st.kept hk (fun k hk e => (H.tt k hk).2.2.2 e) (by omega) (by omega), fun k hk' => ⟨(H.tt k hk').1, Nat.lt_of_lt_of_le (H.tt k hk').2.1 hk.size, (H.tt k hk').2.2⟩, hr, Wt.IsTab.kept H.rc hk ho.2.2.2, hk.row H.row fun k e h3 => (H.vt k e).2.1 h3, H.vt,
    H.kp.trans hk fun k hlt e => by omega, H.kt, H.lo, H.o, H.kl⟩
end
/-- Behind a write to a block of its own. -/
theorem Ww.other {W y y' : World} {T T' : Nat → Prop} {s kb fb q10 q15 B d q : Nat} {S : Sto} {h : Hx} {f : Nat → Px} {V : Value} (H : Ww W T s kb fb S q10 q15 B d h f V T' y) (h1 : W.heap.size ≤ q) (h2 : ¬ T' q) (h3 : q10 ≠ q) (h4 : q15 ≠ q) (h5 : ∀ k, V.ownBlock = some k → k ≠ q) (hk : Kept (fun k => k = q) y y') : Ww W T s kb fb S q10 q15 B d h f V T' y' := by
  have hl := H.kl
  exact ⟨H.st.kept hk (fun k hk e => h2 (e ▸ hk)) (by omega) (by omega), fun k hk' => ⟨(H.tt k hk').1, Nat.lt_of_lt_of_le (H.tt k hk').2.1 hk.size, (H.tt k hk').2.2⟩, Wt.IsTab.kept H.hc hk h4, Wt.IsTab.kept H.rc hk h3, hk.row H.row h5, H.vt,
    H.kp.trans hk fun k hlt e => by omega, H.kt, H.lo, H.o, H.kl⟩
/-- What Write leaves. -/
structure WtEnd (W : World) (T : Nat → Prop) (s kb fb : Nat) (S : Sto) (T' : Nat → Prop) (y : World) : Prop where
  st : IsSt y T' s kb fb S
  tt : ∀ j, T' j → (T j ∨ W.heap.size ≤ j) ∧ j < y.heap.size
  kp : Kept (Foot T kb fb) W y
end Wt
end Go.Proofs.YtdmffnjbholkkaaDoor
