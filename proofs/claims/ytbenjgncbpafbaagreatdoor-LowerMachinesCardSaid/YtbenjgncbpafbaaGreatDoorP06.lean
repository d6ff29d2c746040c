/- Merged of Zb Ors Ot Ze. Own work. -/
import Derived.Test.YtbenjgncbpafbaaGreatDoorP05
import Derived.Test.YtbenjgncbpafbaaGreatDoorP04
import Derived.Outline
namespace Go.Proofs.YtbenjgncbpafbaaGreatDoor
open Go.RowKit
set_option linter.unusedVariables false
namespace Wt
open Kc Mk
abbrev Px := Nat → Bt
/-- The value of a preimage. -/
def pv (p : Px) : Value := .agg (tab 64 fun i => bv (p i))
def uv (_ : Unit) : Value := .agg #[]
theorem undMP : Tryz.prog.underlying 74 = some (.map 81 86) := by kernel_rfl
def zp : Px := fun _ => 0#8
theorem zeroP (w : World) : (zeroValue 86).run Tryz.prog w = .ok (pv zp) w := by kernel_rfl
/-- The digest of a preimage. -/
def pre (p : Px) : List Bt := (List.range 64).map p
def hs (p : Px) : Hx := sum (pre p)
theorem pre_len (p : Px) : (pre p).length = 64 := by simp [pre]
theorem pre_at (p : Px) (j : Nat) (hj : j < 64) : (pre p).getD j 0#8 = p j := by simp [pre, hj]
def v4 (a b c d : Value) : Nat → Value
  | 0 => a
  | 1 => b
  | 2 => c
  | _ => d
/-- A block of four cells. -/
def Box4 (w : World) (q T : Nat) (a b c d : Value) : Prop := IsTab w q T 4 (v4 a b c d)
section
variable {w w' : World} {q T : Nat} {a b c d x : Value}
theorem Box4.k0 (h : Box4 w q T a b c d) : w.cell? ⟨q, 0, none⟩ = some a := h.cell 0 (by decide)
theorem Box4.k1 (h : Box4 w q T a b c d) : w.cell? ⟨q, 1, none⟩ = some b := h.cell 1 (by decide)
theorem Box4.k2 (h : Box4 w q T a b c d) : w.cell? ⟨q, 2, none⟩ = some c := h.cell 2 (by decide)
theorem Box4.k3 (h : Box4 w q T a b c d) : w.cell? ⟨q, 3, none⟩ = some d := h.cell 3 (by decide)
theorem Box4.f (h : Box4 w q T a b c d) (i : Nat) : w.frozen? ⟨q, i, none⟩ = false := h.fz i
theorem Box4.lt (h : Box4 w q T a b c d) : q < w.heap.size := IsTab.lt h
theorem Box4.p0 (h : Box4 w q T a b c d) (x : Value) : Box4 (w.setCell ⟨q, 0, none⟩ x) q T x b c d := IsTab.cong (IsTab.set h 0 x) fun i hi => by
  rcases i with _ | _ | _ | i <;> rfl
theorem Box4.p1 (h : Box4 w q T a b c d) (x : Value) : Box4 (w.setCell ⟨q, 1, none⟩ x) q T a x c d := IsTab.cong (IsTab.set h 1 x) fun i hi => by
  rcases i with _ | _ | _ | i <;> rfl
theorem Box4.p2 (h : Box4 w q T a b c d) (x : Value) : Box4 (w.setCell ⟨q, 2, none⟩ x) q T a b x d := IsTab.cong (IsTab.set h 2 x) fun i hi => by
  rcases i with _ | _ | _ | i <;> rfl
theorem Box4.p3 (h : Box4 w q T a b c d) (x : Value) : Box4 (w.setCell ⟨q, 3, none⟩ x) q T a b c x := IsTab.cong (IsTab.set h 3 x) fun i hi => by
  rcases i with _ | _ | _ | _ | i <;> first | rfl | omega
theorem Box4.new (w : World) (T : Nat) (a b c d : Value) : Box4 (w.alloc (.cells #[a, b, c, d] T)) w.heap.size T a b c d := IsTab.new w T 4 (v4 a b c d)
theorem Box4.same (h : Box4 w q T a b c d) (hb : w'.heap[q]? = w.heap[q]?) : Box4 w' q T a b c d := hb.trans h
theorem Box4.kept {S : Nat → Prop} (h : Box4 w q T a b c d) (hk : Kept S w w') (hn : ¬ S q) : Box4 w' q T a b c d := h.same (hk.block q h.lt hn)
end
theorem IsTab.kept {S : Nat → Prop} {w w' : World} {q T n : Nat} {g : Nat → Value} (h : IsTab w q T n g) (hk : Kept S w w') (hn : ¬ S q) : IsTab w' q T n g := (hk.block q h.lt hn).trans h
/-- What stores have in common: the first preimages, and a clash. -/
structure IsKin (w : World) (kb fb : Nat) (g : Nat → Value) (fd : Bool) (F : List (Hx × Px)) : Prop where
  tab : IsTab w kb 122 130 g
  c0 : g 0 = .map (some fb)
  cl : ∀ i, 1 ≤ i → i < 129 → ∃ x : Bt, g i = bv x
  fd : g 129 = .bool fd
  map : IsMp pv w fb F
theorem IsKin.ne {w : World} {kb fb : Nat} {g : Nat → Value} {fd : Bool} {F : List (Hx × Px)} (h : IsKin w kb fb g fd F) : kb ≠ fb := fun e => by
  obtain ⟨es, c, hb, _⟩ := h.map
  have := h.tab
  unfold IsTab at this
  rw [e, hb] at this
  cases this
theorem IsKin.kept {S : Nat → Prop} {w w' : World} {kb fb : Nat} {g : Nat → Value} {fd : Bool} {F : List (Hx × Px)} (h : IsKin w kb fb g fd F) (hk : Kept S w w') (h1 : ¬ S kb) (h2 : ¬ S fb) : IsKin w' kb fb g fd F :=
  ⟨Wt.IsTab.kept h.tab hk h1, h.c0, h.cl, h.fd, h.map.kept hk h2⟩
def Kin (w : World) (kb fb : Nat) : Prop := ∃ g fd F, IsKin w kb fb g fd F
theorem Kin.kept {S : Nat → Prop} {w w' : World} {kb fb : Nat} (h : Kin w kb fb) (hk : Kept S w w') (h1 : ¬ S kb) (h2 : ¬ S fb) : Kin w' kb fb := by
  obtain ⟨g, fd, F, h⟩ := h; exact ⟨g, fd, F, h.kept hk h1 h2⟩
theorem Kin.lt {w : World} {kb fb : Nat} (h : Kin w kb fb) : kb < w.heap.size ∧ fb < w.heap.size := by
  obtain ⟨g, fd, F, h⟩ := h; exact ⟨h.tab.lt, h.map.lt⟩
/-- What a store knows: its preimages, and what was asked. -/
structure Sto where
  pres : List (Hx × Px)
  asked : List Hx
def fl (l : List Hx) : List Value := flat l.length fun k => l.getD k fun _ => 0#8
/-- What of a store is its own: its four cells, its preimages, and what was asked, as a row and as a set. All blocks of it lie in T. -/
structure IsSto (w : World) (T : Nat → Prop) (s kb : Nat) (S : Sto) (pb : Nat) (av : Value) (sv : Option Nat) : Prop where
  box : Box4 w s 79 (.map (some pb)) av (.map sv) (.pointer (some ⟨kb, 0, none⟩))
  pres : IsMp pv w pb S.pres
  row : w.ownsRow 0 81 32 av S.asked.length (fl S.asked)
  seen : (S.asked = [] ∧ sv = none) ∨ ∃ qb, sv = some qb ∧ qb ≠ pb ∧ T qb ∧ IsMp uv w qb (S.asked.map fun h => (h, ()))
  ts : T s
  tp : T pb
  ta : ∀ k, av.ownBlock = some k → T k ∧ k ≠ s
theorem map_ne {β : Type} {V : β → Value} {w : World} {q b T n : Nat} {g : Nat → Value} {M : List (Hx × β)} (h : IsTab w q T n g) (k : IsMp V w b M) : q ≠ b := fun e => by
  obtain ⟨es, c, hb, _⟩ := k
  unfold IsTab at h
  rw [e, hb] at h
  cases h
theorem map_row {β : Type} {V : β → Value} {w : World} {b base e size n : Nat} {v : Value} {xs : List Value} {M : List (Hx × β)} (h : w.ownsRow base e size v n xs) (k : IsMp V w b M) : v.ownBlock ≠ some b := fun hv => by
  obtain ⟨es, c, hb, _⟩ := k
  rcases h.2 with ⟨rfl, _⟩ | ⟨g, cap, cur, rfl, _, hg, _⟩
  · cases hv
  · cases hv
    rw [hb] at hg
    cases hg
section
variable {w w' : World} {T T' : Nat → Prop} {s kb pb : Nat} {S : Sto} {av : Value} {sv : Option Nat}
theorem IsSto.kept {U : Nat → Prop} (h : IsSto w T s kb S pb av sv) (hk : Kept U w w') (hn : ∀ k, T k → ¬ U k) : IsSto w' T s kb S pb av sv :=
  ⟨h.box.kept hk (hn _ h.ts), h.pres.kept hk (hn _ h.tp), hk.row h.row fun k e => hn _ (h.ta k e).1,
    h.seen.imp id fun ⟨qb, h1, h2, h3, h4⟩ => ⟨qb, h1, h2, h3, h4.kept hk (hn _ h3)⟩, h.ts, h.tp, h.ta⟩
theorem IsSto.mono (h : IsSto w T s kb S pb av sv) (hT : ∀ k, T k → T' k) : IsSto w T' s kb S pb av sv :=
  ⟨h.box, h.pres, h.row, h.seen.imp id fun ⟨qb, h1, h2, h3, h4⟩ => ⟨qb, h1, h2, hT _ h3, h4⟩, hT _ h.ts, hT _ h.tp, fun k e => ⟨hT _ (h.ta k e).1, (h.ta k e).2⟩⟩
end
/-- What a set of blocks has grown to. -/
def Grow (T : Nat → Prop) (w w' : World) : Nat → Prop := fun k => T k ∨ (w.heap.size ≤ k ∧ k < w'.heap.size)
/-- Above the package variables that are asked for. -/
def lowB : Nat := 0 + 1
/-- A store and its kin; no block is both's, none is a package variable's. -/
structure IsSt (w : World) (T : Nat → Prop) (s kb fb : Nat) (S : Sto) : Prop where
  own : ∃ pb av sv, IsSto w T s kb S pb av sv
  kin : Kin w kb fb
  n1 : ¬ T kb
  n2 : ¬ T fb
  lo : ∀ k, (T k ∨ k = kb ∨ k = fb) → lowB ≤ k
theorem IsSt.kept {U T : Nat → Prop} {w w' : World} {s kb fb : Nat} {S : Sto} (h : IsSt w T s kb fb S) (hk : Kept U w w') (hn : ∀ k, T k → ¬ U k) (h1 : ¬ U kb) (h2 : ¬ U fb) : IsSt w' T s kb fb S := by
  obtain ⟨pb, av, sv, ho⟩ := h.own
  exact ⟨⟨pb, av, sv, ho.kept hk hn⟩, h.kin.kept hk h1 h2, h.n1, h.n2, h.lo⟩
theorem IsSt.below {T : Nat → Prop} {w w' : World} {s kb fb : Nat} {S : Sto} (h : IsSt w T s kb fb S) (hb : Below w.heap.size w w') : IsSt w' T s kb fb S := by
  have hk : Kept (fun _ => False) w w' := Kept.ofBelow hb
  exact h.kept hk (fun _ _ h => h) id id
theorem IsSt.grow {T : Nat → Prop} {w0 w w' : World} {s kb fb : Nat} {S : Sto} (h : IsSt w T s kb fb S) (h1 : kb < w0.heap.size) (h2 : fb < w0.heap.size) : IsSt w (Grow T w0 w') s kb fb S := by
  obtain ⟨pb, av, sv, ho⟩ := h.own
  have hl := h.lo kb (.inr (.inl rfl))
  refine ⟨⟨pb, av, sv, ho.mono fun k hk => .inl hk⟩, h.kin, fun hh => hh.elim h.n1 fun hh => by omega, fun hh => hh.elim h.n2 fun hh => by omega, fun k hk => ?_⟩
  rcases hk with (hk | hk) | hk
  · exact h.lo k (.inl hk)
  · omega
  · exact h.lo k (.inr hk)
/-- What a call on a store may write. -/
def Foot (T : Nat → Prop) (kb fb : Nat) : Nat → Prop := fun k => T k ∨ k = kb ∨ k = fb
end Wt
end Go.Proofs.YtbenjgncbpafbaaGreatDoor
namespace Go.Proofs.YtbenjgncbpafbaaGreatDoor
open Go.RowKit
set_option linter.unusedVariables false
section
variable {P : Program} {ops : Array Oper} {Q : Exit → Act → World → Prop}
theorem wpAnyH_weaken {md : Region.Mode} {S S' : World → Prop} (hS : ∀ y, S' y → S y) : ∀ (fuel : Nat) (listed : Array Bool) (a : Act) (w : World), wpAnyH P md ops Q S' fuel listed a w → wpAnyH P md ops Q S fuel listed a w
  | 0, _, _, _, h => h
  | fuel + 1, listed, a, w, h => ⟨h.1, fun i hi => wpOp_mono (fun a' w' h' => ⟨hS _ h'.1, wpAnyH_weaken hS fuel _ a' w' h'.2⟩) (h.2 i hi)⟩
end
end Go.Proofs.YtbenjgncbpafbaaGreatDoor
namespace Go.Proofs.YtbenjgncbpafbaaGreatDoor
open Go.RowKit
set_option linter.unusedVariables false
/-- A slot written, as a list. -/
theorem pS.{u} : (∀ {α : Type u} (l : List α) (i : Nat) (a : α), l.toArray.setIfInBounds i a = (l.set i a).toArray) ∧ (∀ {α : Type u} (a b : α) (l : List α), (a :: l).set 0 b = b :: l) ∧ (∀ {α : Type u} (a b : α) (l : List α) (i : Nat), (a :: l).set (i + 1) b = a :: l.set i b) :=
  ⟨fun l i a => List.setIfInBounds_toArray .., fun a b l => rfl, fun a b l i => rfl⟩
inductive OG where
  | done : OG
  | take : Nat → OG → OG
  | one : Nat → OG → OG
  | two : Nat → OG → Nat → OG → OG
def OG.size : OG → Nat
  | .done => 0
  | .take _ r => r.size + 1
  | .one _ r => r.size + 1
  | .two _ r _ _ => r.size + 1
section
variable {P : Program} {ops : Array Oper} {Q : Exit → Act → World → Prop} {S : World → Prop}
def wpOg (P : Program) (ops : Array Oper) (Q : Exit → Act → World → Prop) : OG → (World → Prop) → Act → World → Prop
  | .done, _, a, w => Q .normal a w
  | .take k r, S, a, w => ∃ o v, ops[k]? = some o ∧ YieldsIf P ops S o v a ∧ wpOg P ops Q r S (a.put o.dst v) w
  | .one k r, S, a, w => ∃ o, ops[k]? = some o ∧ Region.wanted o (yielded ops a.tmps) = true ∧ o.wp P a w (fun a' w' => ∃ S' : World → Prop, (∀ y, S' y → S y) ∧ S' w' ∧ wpOg P ops Q r S' a' w') Q
  | .two k r m t, S, a, w => (∃ o, ops[k]? = some o ∧ Region.wanted o (yielded ops a.tmps) = true ∧ o.wp P a w (fun a' w' => ∃ S' : World → Prop, (∀ y, S' y → S y) ∧ S' w' ∧ wpOg P ops Q r S' a' w') Q) ∧
      (∃ o, ops[m]? = some o ∧ Region.wanted o (yielded ops a.tmps) = true ∧ o.wp P a w (fun a' w' => ∃ S' : World → Prop, (∀ y, S' y → S y) ∧ S' w' ∧ wpOg P ops Q t S' a' w') Q)
theorem og_done {a : Act} {w : World} (h : Q .normal a w) : wpOg P ops Q .done S a w := h
theorem og_t {k : Nat} {r : OG} {o : Oper} {v : Value} {a : Act} {w : World} (ho : ops[k]? = some o) (hw : Region.wanted o (yielded ops a.tmps) = true)
    (hy : ∀ w, S w → (execOp a.eval o).run P w = .ok (.value v) w) (h : wpOg P ops Q r S (a.put o.dst v) w) : wpOg P ops Q (.take k r) S a w :=
  ⟨o, v, ho, .inl ⟨hw, hy⟩, h⟩
theorem og_tk {k : Nat} {r : OG} {o : Oper} {a : Act} {w : World} (d : Option Tmp) (v : Value) (ho : ops[k]? = some o) (hd : o.dst = d) (hw : Region.wanted o (yielded ops a.tmps) = true)
    (hy : ∀ w, S w → (execOp a.eval o).run P w = .ok (.value v) w) (h : wpOg P ops Q r S (a.put d v) w) : wpOg P ops Q (.take k r) S a w :=
  og_t ho hw hy (by rw [hd]; exact h)
theorem og_ld {k : Nat} {r : OG} {o : Oper} {a : Act} {w : World} (d : Option Tmp) (ty : TypeId) (x : Operand) (p v : Value) (ho : ops[k]? = some o) (hd : o.dst = d) (hw : Region.wanted o (yielded ops a.tmps) = true) (hop : o.op = .load ty x) (hx : a.eval x = p)
    (hl : ∀ w, S w → (Instr.loadAt ty p).run P w = .ok v w) (h : wpOg P ops Q r S (a.put d v) w) : wpOg P ops Q (.take k r) S a w :=
  og_tk d v ho hd hw (fun w hw => by unfold execOp; simp only [hop, hx]; simp [hl w hw, Result.andThen]) h
theorem og_of {k : Nat} {r : OG} {o : Oper} {a : Act} {w : World} (ho : ops[k]? = some o) (hw : Region.wanted o (yielded ops a.tmps) = true)
    (h : ∀ K : Act → World → Prop, (∀ a' w', S w' → wpOg P ops Q r S a' w' → K a' w') → o.wp P a w K Q) :
    ∃ o, ops[k]? = some o ∧ Region.wanted o (yielded ops a.tmps) = true ∧ o.wp P a w (fun a' w' => ∃ S' : World → Prop, (∀ y, S' y → S y) ∧ S' w' ∧ wpOg P ops Q r S' a' w') Q :=
  ⟨o, ho, hw, h _ fun _ _ h1 h2 => ⟨S, fun _ h => h, h1, h2⟩⟩
theorem og_f {k : Nat} {r : OG} {o : Oper} {a : Act} {w : World} (ho : ops[k]? = some o) (hw : Region.wanted o (yielded ops a.tmps) = true)
    (h : ∀ K : Act → World → Prop, (∀ a' w', S w' → wpOg P ops Q r S a' w' → K a' w') → o.wp P a w K Q) : wpOg P ops Q (.one k r) S a w := og_of ho hw h
theorem og_two {k m : Nat} {r t : OG} {a : Act} {w : World}
    (h1 : ∃ o, ops[k]? = some o ∧ Region.wanted o (yielded ops a.tmps) = true ∧ o.wp P a w (fun a' w' => ∃ S' : World → Prop, (∀ y, S' y → S y) ∧ S' w' ∧ wpOg P ops Q r S' a' w') Q)
    (h2 : ∃ o, ops[m]? = some o ∧ Region.wanted o (yielded ops a.tmps) = true ∧ o.wp P a w (fun a' w' => ∃ S' : World → Prop, (∀ y, S' y → S y) ∧ S' w' ∧ wpOg P ops Q t S' a' w') Q) : wpOg P ops Q (.two k r m t) S a w := ⟨h1, h2⟩
def ogB (ops : Array Oper) : OG → Array Bool → Bool
  | .done, l => (Region.ready .any ops l).isEmpty
  | .take k r, l => (Region.ready .any ops l).contains k && Region.free .any ops l k && ogB ops r (l.setIfInBounds k true)
  | .one k r, l => decide (Region.ready .any ops l = [k]) && ogB ops r (l.setIfInBounds k true)
  | .two k r m t, l => decide (Region.ready .any ops l = [k, m]) && decide (r.size = t.size) && ogB ops r (l.setIfInBounds k true) && ogB ops t (l.setIfInBounds m true)
theorem og_any (hs : Region.noSelect ops = true) (hQ : ∀ c a d v w, Q (.panic c) (a.put d v) w → Q (.panic c) a w) : ∀ (l : OG) (listed : Array Bool) (S : World → Prop) (a : Act) (w : World), S w →
    ogB ops l listed = true → wpOg P ops Q l S a w → wpAnyH P .any ops Q S l.size listed a w
  | .done, _, _, _, _, _, hB, h => ⟨by simpa [ogB] using hB, h⟩
  | .take k r, listed, S, a, w, hS, hB, ⟨o, v, h0, hy, h⟩ => by
    simp only [ogB, Bool.and_eq_true] at hB
    exact wpAnyH_take h0 hs hB.1.2 hB.1.1 (fun c a w => hQ c a _ _ w) hy hS (og_any hs hQ r _ _ _ _ hS hB.2 h)
  | .one k r, listed, S, a, w, hS, hB, ⟨o, h0, hw, h⟩ => by
    simp only [ogB, Bool.and_eq_true, decide_eq_true_eq] at hB
    refine wpAnyH_all hB.1 (by simp) fun i hi => ?_
    have hik : i = k := by simpa using hi
    subst hik
    unfold wpOp
    simp only [h0]
    rw [if_pos hw]
    exact .inl (Oper.wp_mono (fun a' w' ⟨S', h1, h2, h3⟩ => ⟨h1 _ h2, wpAnyH_weaken h1 _ _ _ _ (og_any hs hQ r _ S' _ _ h2 hB.2 h3)⟩) h)
  | .two k r m t, listed, S, a, w, hS, hB, ⟨⟨o, h0, hw, h⟩, ⟨o2, h02, hw2, h2⟩⟩ => by
    simp only [ogB, Bool.and_eq_true, decide_eq_true_eq] at hB
    refine wpAnyH_all hB.1.1.1 (by simp) fun i hi => ?_
    have hik : i = k ∨ i = m := by simpa using hi
    rcases hik with e | e
    · subst e
      unfold wpOp
      simp only [h0]
      rw [if_pos hw]
      exact .inl (Oper.wp_mono (fun a' w' ⟨S', g1, g2, g3⟩ => ⟨g1 _ g2, wpAnyH_weaken g1 _ _ _ _ (og_any hs hQ r _ S' _ _ g2 hB.1.2 g3)⟩) h)
    · subst e
      unfold wpOp
      simp only [h02]
      rw [if_pos hw2]
      exact .inl (Oper.wp_mono (fun a' w' ⟨S', g1, g2, g3⟩ => ⟨g1 _ g2, wpAnyH_weaken g1 _ _ _ _ (by have h3 := og_any hs hQ t _ S' _ _ g2 hB.2 g3; rw [← hB.1.1.2] at h3; exact h3)⟩) h2)
theorem wp_region_og {id : Nat} {a : Act} {w : World} {l : List Oper} (S : World → Prop) (t : OG) (hm : P.follows .mixedOrders = true) (hB : (decide (t.size = l.length) && Region.noSelect l.toArray && ogB l.toArray t (Array.replicate l.length false)) = true) (hS : S w.drew)
    (h : wpOg P l.toArray (NoPanic Q) t S a w.drew) : (Code.region id l.toArray true).wp P Q a w := by
  refine wp_region_noPanic ?_
  have hQ : ∀ c a d v w, NoPanic Q (.panic c) (a.put d v) w → NoPanic Q (.panic c) a w := fun _ _ _ _ _ h => h
  simp only [Bool.and_eq_true, decide_eq_true_eq] at hB
  refine wp_region_held (S := S) hm ?_
  have h1 := og_any (P := P) (Q := NoPanic Q) (ops := l.toArray) hB.1.2 hQ t (Array.replicate l.length false) S a w.drew hS hB.2 h
  rw [hB.1.1] at h1
  simpa using h1
end
end Go.Proofs.YtbenjgncbpafbaaGreatDoor
namespace Go.Proofs.YtbenjgncbpafbaaGreatDoor
open Go.RowKit
set_option linter.unusedVariables false
set_option linter.unusedSimpArgs false
section
variable {P : Program}
theorem wp_mapUpdate {o : Oper} {a : Act} {w : World} {K : Act → World → Prop} {Q : Exit → Act → World → Prop} (d : Option Tmp) (hd : o.dst = d) (t : TypeId) (m x v : Operand) (vm vx vv : Value) (ho : o.op = .mapUpdate t m x v) (hm : a.eval m = vm) (hx : a.eval x = vx) (hv : a.eval v = vv)
    (w' : World) (hr : (Instr.mapUpdate t vm vx vv).run P w = .ok () w') (h : K (a.put d undef) w') : Oper.wp P o a w K Q := by
  subst hd
  unfold Oper.wp
  simp [execOp, ho, hm, hx, hv, hr, Result.andThen]
  exact h
theorem wpList_buildE {ops : Array Oper} {rest : List Oper} {o : Oper} {a : Act} {w : World} {Q : Exit → Act → World → Prop} (hg : o.guard = none) (t : TypeId) (parts : Array (Nat × Operand)) (ho : o.op = .build t parts)
    (vs : Array (Nat × Value)) (hx : (parts.map fun (i, x) => (i, a.eval x)) = vs) (v : Value) (hl : (Instr.build t vs).run P w = .ok v w)
    (h : wpList P ops Q rest (a.put o.dst v) w) : wpList P ops Q (o :: rest) a w :=
  wpList_plain hg fun _ hK => by
    unfold Oper.wp execOp
    simp only [ho]
    rw [hx]
    simp [hl, Result.andThen]
    exact hK _ _ h
end
namespace Wt
open Kc Mk
theorem loadHb {w : World} {q : Nat} {x : Hx} (h : IsTab w q 81 32 fun i => bv (x i)) : (Instr.loadAt 81 (.pointer (some ⟨q, 0, none⟩))).run Tryz.prog w = .ok (.agg (tab 32 fun i => bv (x i))) w := by
  have h5 : At5 w q 0 1 (fun _ => x) := fun k j hk hj => by
    rw [show 0 + 32 * k + j = j from by omega]; exact h.cell j hj
  exact loadH h5 (k := 0) (p := 0) (by decide) (by decide)
theorem loadPb {w : World} {q : Nat} {p : Px} (h : IsTab w q 86 64 fun i => bv (p i)) : (Instr.loadAt 86 (.pointer (some ⟨q, 0, none⟩))).run Tryz.prog w = .ok (.agg (tab 64 fun i => bv (p i))) w := by
  refine run_loadAt_mid w q 0 _ ((List.range 64).map fun i => bv (p i)) _ (fun j v hv => ?_) undPre rfl (by rw [List.length_map, List.length_range]; exact infPre')
  obtain ⟨hj, rfl⟩ := List.getElem?_eq_some_iff.1 hv
  simp only [List.length_map, List.length_range] at hj
  have := h.cell j hj
  simpa using this
theorem undPre64 : Tryz.prog.underlying 86 = some (.array 64 5) := by kernel_rfl
def same64 (a b : Px) : Bool := (List.range 64).all fun i => Bv (a i) == Bv (b i)
theorem neq64 (a b : Px) (w : World) : (binOp .neq 86 (.agg (tab 64 fun i => bv (a i))) (.agg (tab 64 fun i => bv (b i)))).run Tryz.prog w = .ok (.bool (!same64 a b)) w := by
  have h := run_equal_tab (P := Tryz.prog) w 9998 86 5 64 .u8 undPre64 undU8 sizeU8 (fun i => Bv (a i)) (fun i => Bv (b i))
  rw [run_neq_struct]
  exact (congrArg (fun r => r.andThen fun b w' => Result.ok (Value.bool (!b)) w') h)
theorem look_pv {w : World} {b : Nat} {M : List (Hx × Px)} (h : IsMp pv w b M) (k : Hx) (r : Px) (hr : (look M k).getD zp = r) :
    (Instr.lookup 74 (.map (some b)) (.agg (tab 32 fun i => bv (k i))) true).run Tryz.prog w = .ok (.tuple #[.agg (tab 64 fun i => bv (r i)), .bool (has M k)]) w := by
  have := h.look_ok undMP (zeroP w) k
  have e : ((look M k).map pv).getD (pv zp) = pv r := by rw [← hr]; cases look M k <;> rfl
  rw [e] at this
  exact this
theorem store_pv {w : World} {b : Nat} {M : List (Hx × Px)} (h : IsMp pv w b M) (k : Hx) (p : Px) :
    ∃ w', (Instr.mapUpdate 74 (.map (some b)) (.agg (tab 32 fun i => bv (k i))) (.agg (tab 64 fun i => bv (p i)))).run Tryz.prog w = .ok () w' ∧ IsMp pv w' b (putM M k p) ∧ Kept (· = b) w w' ∧ w'.heap.size = w.heap.size := h.store undMP k p
theorem kept_of {S : Nat → Prop} {w a b : World} (h1 : Below w.heap.size w a) (h2 : Kept S a b) : Kept S w b := (Kept.ofBelow h1).trans h2 fun _ _ h => h
theorem updv_same (g : Nat → Value) (i : Nat) (x : Value) : updv g i x i = x := by simp [updv]
theorem updv_ne (g : Nat → Value) {i j : Nat} (x : Value) (h : j ≠ i) : updv g i x j = g j := by simp [updv, h]
theorem build2 (r p : Px) (w : World) : (Instr.build 120 #[(0, .agg (tab 64 fun i => bv (r i))), (1, .agg (tab 64 fun i => bv (p i)))]).run Tryz.prog w = .ok (.agg (tab 128 fun i => if i < 64 then bv (r i) else bv (p (i - 64)))) w := by kernel_rfl
theorem inf2P' : (Tryz.prog.info? 120).map (·.size) = some 128 := by kernel_rfl
theorem inf2P (g : Nat → Value) : (Tryz.prog.info? 120).map (·.size) = some (tab 128 g).size := by rw [tab_size]; exact inf2P'
theorem kept_setCells {S : Nat → Prop} {a : World} {q : Nat} (hq : S q) : ∀ (vs : List Value) (o : Nat) (w : World), Kept S a w → Kept S a (w.setCells q o vs)
  | [], _, _, h => h
  | v :: r, o, w, h => kept_setCells hq r (o + 1) _ (h.setCell (.inl hq) v)
theorem set_clash {w : World} {kb fb : Nat} {g : Nat → Value} {fd : Bool} {F : List (Hx × Px)} (h : IsKin w kb fb g fd F) (r p : Px) :
    ∃ g', IsKin (w.setCells kb 1 (tab 128 fun i => if i < 64 then bv (r i) else bv (p (i - 64))).toList) kb fb g' fd F ∧ Kept (fun k => k = kb ∨ k = fb) w (w.setCells kb 1 (tab 128 fun i => if i < 64 then bv (r i) else bv (p (i - 64))).toList) := by
  have hl : (tab 128 fun i => if i < 64 then bv (r i) else bv (p (i - 64))).toList.length = 128 := by simp [tab]
  refine ⟨_, ⟨IsTab.setCells _ 1 w g h.tab, ?_, fun i h1 h2 => ?_, ?_, h.map.kept (kept_setCells (S := fun k => k = kb) rfl _ _ _ (Kept.refl _ _)) (fun e => h.ne e.symm)⟩, kept_setCells (.inl rfl) _ _ _ (Kept.refl _ _)⟩
  · rw [if_neg (by omega)]; exact h.c0
  · rw [if_pos (by rw [hl]; omega)]
    have : (tab 128 fun i => if i < 64 then bv (r i) else bv (p (i - 64))).toList.getD (i - 1) (.int .i64 0) = if i - 1 < 64 then bv (r (i - 1)) else bv (p (i - 1 - 64)) := by
      simp [tab, show i - 1 < 128 from by omega]
    rw [this]
    split
    · exact ⟨_, rfl⟩
    · exact ⟨_, rfl⟩
  · rw [if_neg (by rw [hl]; omega)]; exact h.fd
theorem set_found {w : World} {kb fb : Nat} {g : Nat → Value} {fd : Bool} {F : List (Hx × Px)} (h : IsKin w kb fb g fd F) : IsKin (w.setCell ⟨kb, 129, none⟩ (.bool true)) kb fb (updv g 129 (.bool true)) true F :=
  ⟨h.tab.set 129 _, by rw [updv_ne _ _ (by decide)]; exact h.c0, fun i h1 h2 => by rw [updv_ne _ _ (by omega)]; exact h.cl i h1 h2, updv_same _ _ _, h.map.kept ((Kept.refl (fun k => k = kb) _).setCell (.inl rfl) _) (fun e => h.ne e.symm)⟩
set_option maxHeartbeats 4000000 in
set_option maxRecDepth 100000 in
theorem note_walk (kb fb : Nat) (h : Hx) (p : Px) (w : World) (hk : Kin w kb fb) :
    Calls Tryz.prog 40 #[.pointer (some ⟨kb, 0, none⟩), dv h, pv p] w fun e w' => e = .returned (.tuple #[]) ∧ Kin w' kb fb ∧ Kept (fun k => k = kb ∨ k = fb) w w' := by
  obtain ⟨g, fd, F, hk⟩ := hk
  have z1 := zeroPre
  generalize hz : (tab 64 fun _ => bv 0#8) = zq at *
  have HZ := Lib.hid hz
  clear hz
  have HI : Hid ((Tryz.prog.info? 86).map (·.size) = some zq.size) := Lib.hid (by rw [← HZ.out]; exact infPre _)
  generalize hr : (look F h).getD zp = r at *
  have HR := Lib.hid hr
  clear hr
  unfold dv pv
  have HK := Lib.hid hk
  clear hk
  go_enter Tryz.func40, Tryz.ntmps40
  go_upto_region 1 with (fail)
  have H1 : Hid (IsTab ((w.alloc (.cells (tab 32 fun i => bv (h i)) 81)).alloc (.cells (tab 64 fun i => bv (p i)) 86)) w.heap.size 81 32 (fun i => bv (h i)) ∧ IsTab ((w.alloc (.cells (tab 32 fun i => bv (h i)) 81)).alloc (.cells (tab 64 fun i => bv (p i)) 86)) (w.heap.size + 1) 86 64 (fun i => bv (p i)) ∧
      Below w.heap.size w ((w.alloc (.cells (tab 32 fun i => bv (h i)) 81)).alloc (.cells (tab 64 fun i => bv (p i)) 86)) ∧ ((w.alloc (.cells (tab 32 fun i => bv (h i)) 81)).alloc (.cells (tab 64 fun i => bv (p i)) 86)).heap.size = w.heap.size + 2) := by
    refine Lib.hid ⟨(IsTab.new w _ 32 _).alloc _, ?_, ((Below.refl _ _).alloc (Nat.le_refl _) _).alloc (by simp) _, by simp⟩
    have := IsTab.new (w.alloc (.cells (tab 32 fun i => bv (h i)) 81)) 86 64 fun i => bv (p i)
    simpa using this
  generalize (w.alloc (.cells (tab 32 fun i => bv (h i)) 81)).alloc (.cells (tab 64 fun i => bv (p i)) 86) = y00 at *
  have HK0 : Hid (IsKin y00 kb fb g fd F) := Lib.hid (HK.out.kept (Kept.ofBelow (S := fun _ => False) H1.out.2.2.1) id id)
  have H1 : Hid (IsTab y00.drew w.heap.size 81 32 (fun i => bv (h i)) ∧ IsTab y00.drew (w.heap.size + 1) 86 64 (fun i => bv (p i)) ∧ Below w.heap.size w y00.drew ∧ y00.drew.heap.size = w.heap.size + 2) := Lib.hid ⟨H1.out.1.drew, H1.out.2.1.drew, H1.out.2.2.1.drew, H1.out.2.2.2⟩
  have HK0 : Hid (IsKin y00.drew kb fb g fd F) := Lib.hid (HK0.out.kept (Kept.drew (Kept.refl (fun _ => False) _)) id id)
  have HB : Hid (∀ y, Below y00.drew.heap.size y00.drew y → (Instr.lookup 74 (.map (some fb)) (.agg (tab 32 fun i => bv (h i))) true).run Tryz.prog y = .ok (.tuple #[.agg (tab 64 fun i => bv (r i)), .bool (has F h)]) y) := Lib.hid fun y hy => look_pv (HK0.out.map.below hy) h r HR.out
  generalize hb : has F h = b at *
  have HBB := Lib.hid hb
  clear hb
  refine wp_region_og (fun y : World => Below y00.drew.heap.size y00.drew y) (.take 0 (.take 1 (.take 2 (.take 3 (.take 4 (.take 5 (.take 6 (.take 7 (.take 8 (.one 9 (.one 10 (.one 11 .done)))))))))))) (by kernel_rfl) (by kernel_rfl) (Below.refl _ _) ?_
  generalize y00.drew = y0 at *
  refine og_tk (some 9) (.pointer (some ⟨kb, 0, none⟩)) rfl rfl (by go_simp) (fun _ _ => by simp [execOp, go_sem]) ?_
  simp only [Act.put, pS]
  refine og_tk (some 10) (.pointer (some ⟨kb, 0, none⟩)) rfl rfl (by go_simp) (fun _ _ => by simp [execOp, go_sem]) ?_
  simp only [Act.put, pS]
  refine og_tk (some 11) (.pointer (some ⟨kb, 0, none⟩)) rfl rfl (by go_simp) (fun _ _ => by simp [execOp, go_sem]) ?_
  simp only [Act.put, pS]
  refine og_ld (some 12) 74 (.tmp 11) (.pointer (some ⟨kb, 0, none⟩)) (.map (some fb)) rfl rfl (by go_simp) rfl rfl (fun y hy => by have h := (keep1 hy (HK0.out.tab.cell 0 (by decide))).trans (congrArg some HK0.out.c0); simp [Instr.loadAt, go_sem, h, Tryz.underlying74]) ?_
  simp only [Act.put, pS]
  refine og_ld (some 13) 81 (.tmp 4) (.pointer (some ⟨w.heap.size, 0, none⟩)) (.agg (tab 32 fun i => bv (h i))) rfl rfl (by go_simp) rfl rfl (fun y hy => loadHb (H1.out.1.below hy)) ?_
  simp only [Act.put, pS]
  refine og_tk (some 14) (.tuple #[.agg (tab 64 fun i => bv (r i)), .bool b]) rfl rfl (by go_simp) (fun y hy => by have h := HB.out y hy; simp [execOp, go_sem, h, Result.andThen]) ?_
  simp only [Act.put, pS]
  refine og_tk (some 8) (.tuple #[.agg (tab 64 fun i => bv (r i)), .bool b]) rfl rfl (by go_simp) (fun _ _ => by simp [execOp, go_sem]) ?_
  simp only [Act.put, pS]
  refine og_tk (some 15) (.agg (tab 64 fun i => bv (r i))) rfl rfl (by go_simp) (fun _ _ => by simp [execOp, go_sem]) ?_
  simp only [Act.put, pS]
  refine og_tk (some 16) (.bool b) rfl rfl (by go_simp) (fun _ _ => by simp [execOp, go_sem]) ?_
  simp only [Act.put, pS]
  have HN : Hid (Below y0.heap.size y0 (y0.alloc (.cells zq 86)) ∧ IsTab (y0.alloc (.cells zq 86)) y0.heap.size 86 64 (fun _ => bv 0#8)) := Lib.hid ⟨(Below.refl _ _).alloc (Nat.le_refl _) _, by rw [← HZ.out]; exact IsTab.new y0 _ 64 _⟩
  refine og_f rfl (by go_simp) fun K hK => ?_
  go_simp
  refine hK _ _ (HN.out.1) ?_
  clear hK K
  generalize y0.alloc (.cells zq 86) = y1 at *
  have HS : Hid (Below y0.heap.size y0 (y1.setRow y0.heap.size (tab 64 fun i => bv (r i))) ∧ IsTab (y1.setRow y0.heap.size (tab 64 fun i => bv (r i))) y0.heap.size 86 64 (fun i => bv (r i))) := Lib.hid ⟨below_setRow HN.out.1 (Nat.le_refl _) _, HN.out.2.row⟩
  refine og_f rfl (by go_simp) fun K hK => ?_
  refine wp_store_row 86 (.tmp 6) (.tmp 15) rfl y0.heap.size (tab 64 fun i => bv (r i)) rfl rfl 86 _ HN.out.2 (infPre _) (by rw [tab_size, tab_size]) (one_bv _ _) ?_
  refine hK _ _ HS.out.1 ?_
  clear hK K
  simp only [Act.put, pS]
  generalize y1.setRow y0.heap.size (tab 64 fun i => bv (r i)) = y2 at *
  refine og_f rfl (by go_simp) fun K hK => ?_
  go_simp
  refine hK _ _ (HS.out.1) ?_
  clear hK K
  refine og_done (NoPanic.normal ?_)
  have HK2 : Hid (IsKin y2 kb fb g fd F) := Lib.hid (HK0.out.kept (Kept.ofBelow (S := fun _ => False) HS.out.1) id id)
  have H2 : Hid (IsTab y2 w.heap.size 81 32 (fun i => bv (h i)) ∧ IsTab y2 (w.heap.size + 1) 86 64 (fun i => bv (p i)) ∧ Below w.heap.size w y2) := Lib.hid ⟨H1.out.1.below HS.out.1, H1.out.2.1.below HS.out.1, bl H1.out.2.2.1 HS.out.1⟩
  have H3 : Hid (IsTab y2 y0.heap.size 86 64 (fun i => bv (r i))) := Lib.hid HS.out.2
  have HQ : Hid (y0.heap.size = w.heap.size + 2 ∧ kb < w.heap.size ∧ fb < w.heap.size) := Lib.hid ⟨H1.out.2.2.2, HK.out.tab.lt, HK.out.map.lt⟩
  clear HS HN HB HK0 H1 HZ HI HK
  generalize y0.heap.size = q2 at *
  cases b
  · skip
    go_upto_region 3 with (fail)
    have HK3 : Hid (IsKin y2.drew kb fb g fd F) := Lib.hid (HK2.out.kept (Kept.drew (Kept.refl (fun _ => False) _)) id id)
    have H4 : Hid (IsTab y2.drew w.heap.size 81 32 (fun i => bv (h i)) ∧ IsTab y2.drew (w.heap.size + 1) 86 64 (fun i => bv (p i)) ∧ Below w.heap.size w y2.drew) := Lib.hid ⟨H2.out.1.drew, H2.out.2.1.drew, H2.out.2.2.drew⟩
    obtain ⟨w4, hr4, hm4, hk4, hs4⟩ := store_pv HK3.out.map h p
    have HR4 := Lib.hid hr4
    have HM4 := Lib.hid (And.intro hm4 hk4)
    clear hr4 hm4 hk4 hs4
    refine wp_region_og (fun y : World => Kept (fun k => k = fb) y2.drew y) (.take 0 (.take 1 (.take 2 (.take 3 (.take 4 (.take 5 (.one 6 .done))))))) (by kernel_rfl) (by kernel_rfl) (Kept.refl _ _) ?_
    generalize y2.drew = y3 at *
    refine og_tk (some 19) (.pointer (some ⟨kb, 0, none⟩)) rfl rfl (by go_simp) (fun _ _ => by simp [execOp, go_sem]) ?_
    simp only [Act.put, pS]
    refine og_tk (some 20) (.pointer (some ⟨kb, 0, none⟩)) rfl rfl (by go_simp) (fun _ _ => by simp [execOp, go_sem]) ?_
    simp only [Act.put, pS]
    refine og_tk (some 21) (.pointer (some ⟨kb, 0, none⟩)) rfl rfl (by go_simp) (fun _ _ => by simp [execOp, go_sem]) ?_
    simp only [Act.put, pS]
    refine og_ld (some 22) 74 (.tmp 21) (.pointer (some ⟨kb, 0, none⟩)) (.map (some fb)) rfl rfl (by go_simp) rfl rfl (fun y hy => by have h := (hy.cell HK3.out.ne (HK3.out.tab.cell 0 (by decide))).trans (congrArg some HK3.out.c0); simp [Instr.loadAt, go_sem, h, Tryz.underlying74]) ?_
    simp only [Act.put, pS]
    refine og_ld (some 23) 81 (.tmp 4) (.pointer (some ⟨w.heap.size, 0, none⟩)) (.agg (tab 32 fun i => bv (h i))) rfl rfl (by go_simp) rfl rfl (fun y hy => loadHb (Wt.IsTab.kept H4.out.1 hy (by have := HQ.out; omega))) ?_
    simp only [Act.put, pS]
    refine og_ld (some 24) 86 (.tmp 5) (.pointer (some ⟨(w.heap.size + 1), 0, none⟩)) (.agg (tab 64 fun i => bv (p i))) rfl rfl (by go_simp) rfl rfl (fun y hy => loadPb (Wt.IsTab.kept H4.out.2.1 hy (by have := HQ.out; omega))) ?_
    simp only [Act.put, pS]
    refine og_f rfl (by go_simp) fun K hK => ?_
    refine wp_mapUpdate none rfl 74 (.tmp 22) (.tmp 23) (.tmp 24) _ _ _ rfl rfl rfl rfl w4 HR4.out ?_
    refine hK _ _ HM4.out.2 ?_
    clear hK K
    simp only [Act.put, pS]
    refine og_done (NoPanic.normal ?_)
    go_wp2_with (fail)
    refine bodyPost_ret (v := .tuple #[]) (by simp [results, Tryz.results40, go_sem]) rfl ⟨rfl, ⟨g, fd, putM F h p, ⟨Wt.IsTab.kept HK3.out.tab HM4.out.2 HK3.out.ne, HK3.out.c0, HK3.out.cl, HK3.out.fd, HM4.out.1⟩⟩, (kept_of H4.out.2.2 HM4.out.2).mono fun k _ hk => .inr hk⟩
  · have hne := neq64 r p
    have HL1 := Lib.hid (loadPb H3.out)
    have HL2 := Lib.hid (loadPb H2.out.2.1)
    have HNE := Lib.hid hne
    clear hne
    generalize hs : same64 r p = sm at *
    clear hs HBB
    have k129 : y2.cell? ⟨kb, 129, none⟩ = some (.bool fd) := (HK2.out.tab.cell 129 (by decide)).trans (congrArg some HK2.out.fd)
    have HKK : Hid (Kept (fun k => k = kb ∨ k = fb) w y2) := Lib.hid (Kept.ofBelow H2.out.2.2)
    cases sm
    · have hne := HNE.out
      cases fd
      · skip
        go_upto_region 5 with (first | ((with_reducible refine wpList_loadE (P := Tryz.prog) (w := y2) (ty := 86) (x := .tmp 6) (p := .pointer (some ⟨q2, 0, none⟩)) (v := .agg (tab 64 fun i => bv (r i))) ?_ ?_ ?_ HL1.out ?_); (· exact rfl); (· exact rfl); (· exact rfl)) | ((with_reducible refine wpList_loadE (P := Tryz.prog) (w := y2) (ty := 86) (x := .tmp 5) (p := .pointer (some ⟨w.heap.size + 1, 0, none⟩)) (v := .agg (tab 64 fun i => bv (p i))) ?_ ?_ ?_ HL2.out ?_); (· exact rfl); (· exact rfl); (· exact rfl)))
        have HTH : Hid (y2.there kb 1 (tab 128 fun i => if i < 64 then bv (r i) else bv (p (i - 64))).size) := Lib.hid (by rw [tab_size]; exact HK2.out.tab.thereAt 1 128 (by decide))
        have HK6 := Lib.hid (set_clash HK2.out r p)
        have HI6 := Lib.hid (inf2P fun i => if i < 64 then bv (r i) else bv (p (i - 64)))
        have HO6 : Hid ((tab 128 fun i => if i < 64 then bv (r i) else bv (p (i - 64))).all (·.oneCell') = true) := Lib.hid (tab_one fun i => by split <;> rfl)
        have HBB := Lib.hid (build2 r p)
        generalize (tab 128 fun i => if i < 64 then bv (r i) else bv (p (i - 64))) = c2 at *
        go_upto_region 6 with (first
          | (first | ((with_reducible refine wpList_loadE (P := Tryz.prog) (w := y2) (ty := 86) (x := .tmp 6) (p := .pointer (some ⟨q2, 0, none⟩)) (v := .agg (tab 64 fun i => bv (r i))) ?_ ?_ ?_ HL1.out ?_); (· exact rfl); (· exact rfl); (· exact rfl)) | ((with_reducible refine wpList_loadE (P := Tryz.prog) (w := y2) (ty := 86) (x := .tmp 5) (p := .pointer (some ⟨w.heap.size + 1, 0, none⟩)) (v := .agg (tab 64 fun i => bv (p i))) ?_ ?_ ?_ HL2.out ?_); (· exact rfl); (· exact rfl); (· exact rfl)))
          | ((with_reducible refine wpList_buildE (P := Tryz.prog) (w := y2) ?_ 120 #[(0, .tmp 36), (1, .tmp 37)] ?_ #[(0, .agg (tab 64 fun i => bv (r i))), (1, .agg (tab 64 fun i => bv (p i)))] ?_ (.agg c2) (HBB.out y2) ?_); (· exact rfl); (· exact rfl); (· simp [go_sem]))
          | ((with_reducible refine wpList_store_mid (P := Tryz.prog) (w := y2) ?_ 120 (.tmp 40) (.tmp 38) ?_ kb 1 c2 ?_ ?_ HTH.out HI6.out HO6.out ?_); (· exact rfl); (· exact rfl); (· exact rfl); (· exact rfl)))
        generalize y2.setCells kb 1 c2.toList = y6 at *
        obtain ⟨g6, hk6, ht6⟩ := HK6.out
        have HK7 := Lib.hid (And.intro hk6 ht6)
        have k1 : y6.cell? ⟨kb, 129, none⟩ = some (.bool false) := (hk6.tab.cell 129 (by decide)).trans (congrArg some hk6.fd)
        have f1 := hk6.tab.fz 129
        clear HBB hne k129 HK6 hk6 ht6
        go_wp2_with (fail)
        refine bodyPost_end (v := .tuple #[]) (by simp [results, Tryz.results40, go_sem]) rfl ⟨rfl, ⟨_, true, F, set_found HK7.out.1⟩, (HKK.out.trans HK7.out.2 fun _ _ h => h).setCell (.inl (.inl rfl)) _⟩
      · skip
        go_wp2_with (first | ((with_reducible refine wpList_loadE (P := Tryz.prog) (w := y2) (ty := 86) (x := .tmp 6) (p := .pointer (some ⟨q2, 0, none⟩)) (v := .agg (tab 64 fun i => bv (r i))) ?_ ?_ ?_ HL1.out ?_); (· exact rfl); (· exact rfl); (· exact rfl)) | ((with_reducible refine wpList_loadE (P := Tryz.prog) (w := y2) (ty := 86) (x := .tmp 5) (p := .pointer (some ⟨w.heap.size + 1, 0, none⟩)) (v := .agg (tab 64 fun i => bv (p i))) ?_ ?_ ?_ HL2.out ?_); (· exact rfl); (· exact rfl); (· exact rfl)))
        refine bodyPost_end (v := .tuple #[]) (by simp [results, Tryz.results40, go_sem]) rfl ⟨rfl, ⟨g, _, F, HK2.out⟩, HKK.out⟩
    · have hne := HNE.out
      go_wp2_with (first | ((with_reducible refine wpList_loadE (P := Tryz.prog) (w := y2) (ty := 86) (x := .tmp 6) (p := .pointer (some ⟨q2, 0, none⟩)) (v := .agg (tab 64 fun i => bv (r i))) ?_ ?_ ?_ HL1.out ?_); (· exact rfl); (· exact rfl); (· exact rfl)) | ((with_reducible refine wpList_loadE (P := Tryz.prog) (w := y2) (ty := 86) (x := .tmp 5) (p := .pointer (some ⟨w.heap.size + 1, 0, none⟩)) (v := .agg (tab 64 fun i => bv (p i))) ?_ ?_ ?_ HL2.out ?_); (· exact rfl); (· exact rfl); (· exact rfl)))
      refine bodyPost_end (v := .tuple #[]) (by simp [results, Tryz.results40, go_sem]) rfl ⟨rfl, ⟨g, _, F, HK2.out⟩, HKK.out⟩
end Wt
end Go.Proofs.YtbenjgncbpafbaaGreatDoor
