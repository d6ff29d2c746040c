/-
  witness: what a store holds in memory. Own work.
-/
import Derived.Test.YtdmffnjbholkkaaDoorZa
import Derived.Test.YtdmffnjbholkkaaDoorEqa
import Derived.Test.YtdmffnjbholkkaaDoorApp
namespace Go.Proofs.YtdmffnjbholkkaaDoor
open Go.RowKit
set_option linter.unusedVariables false
namespace Wt
open Kc Mk
abbrev Px := Nat → Bt
/-- The value of a preimage. -/
def pv (p : Px) : Value := .agg (tab 64 fun i => bv (p i))
def uv (_ : Unit) : Value := .agg #[]
theorem undMP : Tryd.prog.underlying 114 = some (.map 39 37) := by kernel_rfl
theorem undMU : Tryd.prog.underlying 115 = some (.map 39 169) := by kernel_rfl
def zp : Px := fun _ => 0#8
theorem zeroP (w : World) : (zeroValue 37).run Tryd.prog w = .ok (pv zp) w := by kernel_rfl
theorem zeroU (w : World) : (zeroValue 169).run Tryd.prog w = .ok (uv ()) w := by kernel_rfl
/-- The digest of a preimage. -/
def pre (p : Px) : List Bt := (List.range 64).map p
def hs (p : Px) : Hx := sum (pre p)
theorem pre_len (p : Px) : (pre p).length = 64 := by simp [pre]
theorem pre_at (p : Px) (j : Nat) (hj : j < 64) : (pre p).getD j 0#8 = p j := by simp [pre, hj]
theorem pre_of {p q : Px} (h : ∀ i, i < 64 → p i = q i) : pre p = pre q := List.map_congr_left fun i hi => h i (by simpa using hi)
def v4 (a b c d : Value) : Nat → Value
  | 0 => a
  | 1 => b
  | 2 => c
  | _ => d
/-- A block of four cells. -/
def Box4 (w : World) (q T : Nat) (a b c d : Value) : Prop := IsTab w q T 4 (v4 a b c d)
section
variable {w w' : World} {q T : Nat} {a b c d x : Value}
theorem Box4.k0 (h : Box4 w q T a b c d) : w.cell? ⟨q, 0, none⟩ = some a := h.cell 0 (by decide)
theorem Box4.k1 (h : Box4 w q T a b c d) : w.cell? ⟨q, 1, none⟩ = some b := h.cell 1 (by decide)
theorem Box4.k2 (h : Box4 w q T a b c d) : w.cell? ⟨q, 2, none⟩ = some c := h.cell 2 (by decide)
theorem Box4.k3 (h : Box4 w q T a b c d) : w.cell? ⟨q, 3, none⟩ = some d := h.cell 3 (by decide)
theorem Box4.f (h : Box4 w q T a b c d) (i : Nat) : w.frozen? ⟨q, i, none⟩ = false := h.fz i
theorem Box4.lt (h : Box4 w q T a b c d) : q < w.heap.size := IsTab.lt h
theorem Box4.p0 (h : Box4 w q T a b c d) (x : Value) : Box4 (w.setCell ⟨q, 0, none⟩ x) q T x b c d := IsTab.cong (IsTab.set h 0 x) fun i hi => by
  rcases i with _ | _ | _ | i <;> rfl
theorem Box4.p1 (h : Box4 w q T a b c d) (x : Value) : Box4 (w.setCell ⟨q, 1, none⟩ x) q T a x c d := IsTab.cong (IsTab.set h 1 x) fun i hi => by
  rcases i with _ | _ | _ | i <;> rfl
theorem Box4.p2 (h : Box4 w q T a b c d) (x : Value) : Box4 (w.setCell ⟨q, 2, none⟩ x) q T a b x d := IsTab.cong (IsTab.set h 2 x) fun i hi => by
  rcases i with _ | _ | _ | i <;> rfl
theorem Box4.p3 (h : Box4 w q T a b c d) (x : Value) : Box4 (w.setCell ⟨q, 3, none⟩ x) q T a b c x := IsTab.cong (IsTab.set h 3 x) fun i hi => by
  rcases i with _ | _ | _ | _ | i <;> first | rfl | omega
theorem Box4.new (w : World) (T : Nat) (a b c d : Value) : Box4 (w.alloc (.cells #[a, b, c, d] T)) w.heap.size T a b c d := IsTab.new w T 4 (v4 a b c d)
theorem Box4.same (h : Box4 w q T a b c d) (hb : w'.heap[q]? = w.heap[q]?) : Box4 w' q T a b c d := hb.trans h
theorem Box4.kept {S : Nat → Prop} (h : Box4 w q T a b c d) (hk : Kept S w w') (hn : ¬ S q) : Box4 w' q T a b c d := h.same (hk.block q h.lt hn)
end
theorem IsTab.kept {S : Nat → Prop} {w w' : World} {q T n : Nat} {g : Nat → Value} (h : IsTab w q T n g) (hk : Kept S w w') (hn : ¬ S q) : IsTab w' q T n g := (hk.block q h.lt hn).trans h
/-- What stores have in common: the first preimages, and a clash. -/
structure IsKin (w : World) (kb fb : Nat) (g : Nat → Value) (fd : Bool) (F : List (Hx × Px)) : Prop where
  tab : IsTab w kb 125 130 g
  c0 : g 0 = .map (some fb)
  cl : ∀ i, 1 ≤ i → i < 129 → ∃ x : Bt, g i = bv x
  fd : g 129 = .bool fd
  map : IsMp pv w fb F
theorem IsKin.ne {w : World} {kb fb : Nat} {g : Nat → Value} {fd : Bool} {F : List (Hx × Px)} (h : IsKin w kb fb g fd F) : kb ≠ fb := fun e => by
  obtain ⟨es, c, hb, _⟩ := h.map
  have := h.tab
  unfold IsTab at this
  rw [e, hb] at this
  cases this
theorem IsKin.kept {S : Nat → Prop} {w w' : World} {kb fb : Nat} {g : Nat → Value} {fd : Bool} {F : List (Hx × Px)} (h : IsKin w kb fb g fd F) (hk : Kept S w w') (h1 : ¬ S kb) (h2 : ¬ S fb) : IsKin w' kb fb g fd F :=
  ⟨Wt.IsTab.kept h.tab hk h1, h.c0, h.cl, h.fd, h.map.kept hk h2⟩
def Kin (w : World) (kb fb : Nat) : Prop := ∃ g fd F, IsKin w kb fb g fd F
theorem Kin.kept {S : Nat → Prop} {w w' : World} {kb fb : Nat} (h : Kin w kb fb) (hk : Kept S w w') (h1 : ¬ S kb) (h2 : ¬ S fb) : Kin w' kb fb := by
  obtain ⟨g, fd, F, h⟩ := h; exact ⟨g, fd, F, h.kept hk h1 h2⟩
theorem Kin.lt {w : World} {kb fb : Nat} (h : Kin w kb fb) : kb < w.heap.size ∧ fb < w.heap.size := by
  obtain ⟨g, fd, F, h⟩ := h; exact ⟨h.tab.lt, h.map.lt⟩
/-- What a store knows: its preimages, and what was asked. -/
structure Sto where
  pres : List (Hx × Px)
  asked : List Hx
def fl (l : List Hx) : List Value := flat l.length fun k => l.getD k fun _ => 0#8
theorem fl_append (l : List Hx) (h : Hx) : fl (l ++ [h]) = fl l ++ flat 1 fun _ => h := by
  unfold fl
  rw [flat_append, List.length_append]
  refine flat_cong fun k hk => ?_
  simp only [List.length_singleton] at hk
  by_cases h1 : k < l.length
  · rw [if_pos h1]
    simp [List.getElem?_append, h1]
  · rw [if_neg h1]
    have : k = l.length := by omega
    subst this
    simp
/-- What of a store is its own: its four cells, its preimages, and what was asked, as a row and as a set. All blocks of it lie in T. -/
structure IsSto (w : World) (T : Nat → Prop) (s kb : Nat) (S : Sto) (pb : Nat) (av : Value) (sv : Option Nat) : Prop where
  box : Box4 w s 118 (.map (some pb)) av (.map sv) (.pointer (some ⟨kb, 0, none⟩))
  pres : IsMp pv w pb S.pres
  row : w.ownsRow 0 39 32 av S.asked.length (fl S.asked)
  seen : (S.asked = [] ∧ sv = none) ∨ ∃ qb, sv = some qb ∧ qb ≠ pb ∧ T qb ∧ IsMp uv w qb (S.asked.map fun h => (h, ()))
  ts : T s
  tp : T pb
  ta : ∀ k, av.ownBlock = some k → T k ∧ k ≠ s
theorem map_ne {β : Type} {V : β → Value} {w : World} {q b T n : Nat} {g : Nat → Value} {M : List (Hx × β)} (h : IsTab w q T n g) (k : IsMp V w b M) : q ≠ b := fun e => by
  obtain ⟨es, c, hb, _⟩ := k
  unfold IsTab at h
  rw [e, hb] at h
  cases h
theorem map_row {β : Type} {V : β → Value} {w : World} {b base e size n : Nat} {v : Value} {xs : List Value} {M : List (Hx × β)} (h : w.ownsRow base e size v n xs) (k : IsMp V w b M) : v.ownBlock ≠ some b := fun hv => by
  obtain ⟨es, c, hb, _⟩ := k
  rcases h.2 with ⟨rfl, _⟩ | ⟨g, cap, cur, rfl, _, hg, _⟩
  · cases hv
  · cases hv
    rw [hb] at hg
    cases hg
section
variable {w w' : World} {T T' : Nat → Prop} {s kb pb : Nat} {S : Sto} {av : Value} {sv : Option Nat}
theorem IsSto.kept {U : Nat → Prop} (h : IsSto w T s kb S pb av sv) (hk : Kept U w w') (hn : ∀ k, T k → ¬ U k) : IsSto w' T s kb S pb av sv :=
  ⟨h.box.kept hk (hn _ h.ts), h.pres.kept hk (hn _ h.tp), hk.row h.row fun k e => hn _ (h.ta k e).1,
    h.seen.imp id fun ⟨qb, h1, h2, h3, h4⟩ => ⟨qb, h1, h2, h3, h4.kept hk (hn _ h3)⟩, h.ts, h.tp, h.ta⟩
theorem IsSto.mono (h : IsSto w T s kb S pb av sv) (hT : ∀ k, T k → T' k) : IsSto w T' s kb S pb av sv :=
  ⟨h.box, h.pres, h.row, h.seen.imp id fun ⟨qb, h1, h2, h3, h4⟩ => ⟨qb, h1, h2, hT _ h3, h4⟩, hT _ h.ts, hT _ h.tp, fun k e => ⟨hT _ (h.ta k e).1, (h.ta k e).2⟩⟩
end
/-- What a set of blocks has grown to. -/
def Grow (T : Nat → Prop) (w w' : World) : Nat → Prop := fun k => T k ∨ (w.heap.size ≤ k ∧ k < w'.heap.size)
/-- Above the package variables that are asked for. -/
def lowB : Nat := max 0 1 + 1
/-- A store and its kin; no block is both's, none is a package variable's. -/
structure IsSt (w : World) (T : Nat → Prop) (s kb fb : Nat) (S : Sto) : Prop where
  own : ∃ pb av sv, IsSto w T s kb S pb av sv
  kin : Kin w kb fb
  n1 : ¬ T kb
  n2 : ¬ T fb
  lo : ∀ k, (T k ∨ k = kb ∨ k = fb) → lowB ≤ k
theorem IsSt.kept {U T : Nat → Prop} {w w' : World} {s kb fb : Nat} {S : Sto} (h : IsSt w T s kb fb S) (hk : Kept U w w') (hn : ∀ k, T k → ¬ U k) (h1 : ¬ U kb) (h2 : ¬ U fb) : IsSt w' T s kb fb S := by
  obtain ⟨pb, av, sv, ho⟩ := h.own
  exact ⟨⟨pb, av, sv, ho.kept hk hn⟩, h.kin.kept hk h1 h2, h.n1, h.n2, h.lo⟩
theorem IsSt.below {T : Nat → Prop} {w w' : World} {s kb fb : Nat} {S : Sto} (h : IsSt w T s kb fb S) (hb : Below w.heap.size w w') : IsSt w' T s kb fb S := by
  have hk : Kept (fun _ => False) w w' := Kept.ofBelow hb
  exact h.kept hk (fun _ _ h => h) id id
theorem IsSt.grow {T : Nat → Prop} {w0 w w' : World} {s kb fb : Nat} {S : Sto} (h : IsSt w T s kb fb S) (h1 : kb < w0.heap.size) (h2 : fb < w0.heap.size) : IsSt w (Grow T w0 w') s kb fb S := by
  obtain ⟨pb, av, sv, ho⟩ := h.own
  have hl := h.lo kb (.inr (.inl rfl))
  refine ⟨⟨pb, av, sv, ho.mono fun k hk => .inl hk⟩, h.kin, fun hh => hh.elim h.n1 fun hh => by omega, fun hh => hh.elim h.n2 fun hh => by omega, fun k hk => ?_⟩
  rcases hk with (hk | hk) | hk
  · exact h.lo k (.inl hk)
  · omega
  · exact h.lo k (.inr hk)
/-- What a call on a store may write. -/
def Foot (T : Nat → Prop) (kb fb : Nat) : Nat → Prop := fun k => T k ∨ k = kb ∨ k = fb
end Wt
end Go.Proofs.YtdmffnjbholkkaaDoor
