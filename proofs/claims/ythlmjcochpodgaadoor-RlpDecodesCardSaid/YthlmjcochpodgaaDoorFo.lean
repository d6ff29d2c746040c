/-
  Items of RLP in memory; an item that comes in. Own work, over the guide's lemmas of slices and structs.
-/
import Derived.Test.YthlmjcochpodgaaDoorRl
import Derived.Test.YthlmjcochpodgaaDoorRow
import Derived.Test.YthlmjcochpodgaaDoorProg
import Derived.Deep.Slices
import Derived.Deep.Fields
import Derived.ChangeSame
import Derived.ChangeSlices
import Derived.OpenShut
namespace Go.Proofs.YthlmjcochpodgaaDoor
open Go.ChangeShapes Go.WideShapes Go.Deep Go.RowKit
set_option linter.unusedVariables false
namespace Rl
def bvb (x : Bt) : Value := .int .u8 (x.toNat : Int)
/-- What was there is there still. -/
def Keep (w w' : World) : Prop := ∀ p v, w.cell? p = some v → w'.cell? p = some v
theorem Keep.refl (w : World) : Keep w w := fun _ _ h => h
theorem Keep.trans {w w1 w2 : World} (h : Keep w w1) (k : Keep w1 w2) : Keep w w2 := fun p v e => k p v (h p v e)
theorem keep_below {w w' : World} (h : Below w.heap.size w w') : Keep w w' := fun p v e => by
  obtain ⟨b, o, s⟩ := p
  have hs : s = none := by simpa using World.cell?_spot e
  subst hs
  exact keep1 h e
/-- A slice of bytes. -/
def IsB (w : World) (a : Option Addr) (n c : Nat) (bs : List Bt) : Prop :=
  n = bs.length ∧ n ≤ c ∧ c ≤ maxLen ∧ (a = none → c = 0) ∧ (n = 0 ∨ ∃ b o, a = some ⟨b, o, none⟩ ∧ ∀ i x, bs[i]? = some x → w.cell? ⟨b, o + i, none⟩ = some (bvb x))
theorem IsB.keep {w w' : World} {a : Option Addr} {n c : Nat} {bs : List Bt} (h : IsB w a n c bs) (hk : Keep w w') : IsB w' a n c bs := by
  obtain ⟨h1, h2, h3, h4, h5⟩ := h
  refine ⟨h1, h2, h3, h4, h5.imp id ?_⟩
  rintro ⟨b, o, h6, h7⟩
  exact ⟨b, o, h6, fun i x hx => hk _ _ (h7 i x hx)⟩
/-- Items, one behind the other. -/
def IsFo (w : World) : Fo → Nat → Nat → Prop
  | .nil, _, _ => True
  | .cons l bs k r, b, o => w.cell? ⟨b, o, none⟩ = some (.bool l) ∧ (∃ a n c, w.cell? ⟨b, o + 1, none⟩ = some (.slice a n c) ∧ IsB w a n c bs) ∧
      (∃ a n c, w.cell? ⟨b, o + 2, none⟩ = some (.slice a n c) ∧ n = k.len ∧ n ≤ c ∧ c ≤ maxLen ∧ (a = none → c = 0) ∧ (n = 0 ∨ ∃ b' o', a = some ⟨b', o', none⟩ ∧ IsFo w k b' o')) ∧ IsFo w r b (o + 3)
/-- A slice of items. -/
def IsK (w : World) (a : Option Addr) (n c : Nat) (k : Fo) : Prop :=
  n = k.len ∧ n ≤ c ∧ c ≤ maxLen ∧ (a = none → c = 0) ∧ (n = 0 ∨ ∃ b o, a = some ⟨b, o, none⟩ ∧ IsFo w k b o)
theorem IsFo.keep {w w' : World} (hk : Keep w w') : ∀ (k : Fo) (b o : Nat), IsFo w k b o → IsFo w' k b o
  | .nil, _, _, _ => trivial
  | .cons l bs k r, b, o, ⟨h1, ⟨a, n, c, h2, h3⟩, ⟨a', n', c', h4, h5, h6, h7, h8, h9⟩, h10⟩ =>
    ⟨hk _ _ h1, ⟨a, n, c, hk _ _ h2, h3.keep hk⟩, ⟨a', n', c', hk _ _ h4, h5, h6, h7, h8, h9.imp id fun ⟨b', o', e, h⟩ => ⟨b', o', e, IsFo.keep hk k b' o' h⟩⟩, IsFo.keep hk r b (o + 3) h10⟩
theorem IsK.keep {w w' : World} {a : Option Addr} {n c : Nat} {k : Fo} (h : IsK w a n c k) (hk : Keep w w') : IsK w' a n c k := by
  obtain ⟨h1, h2, h3, h4, h5⟩ := h
  exact ⟨h1, h2, h3, h4, h5.imp id fun ⟨b, o, e, h⟩ => ⟨b, o, e, IsFo.keep hk k b o h⟩⟩
/-- An item by value. -/
def IsIt (w : World) (v : Value) (l : Bool) (bs : List Bt) (k : Fo) : Prop :=
  ∃ a n c a' n' c', v = .agg #[.bool l, .slice a n c, .slice a' n' c'] ∧ IsB w a n c bs ∧ IsK w a' n' c' k
theorem IsIt.keep {w w' : World} {v : Value} {l : Bool} {bs : List Bt} {k : Fo} (h : IsIt w v l bs k) (hk : Keep w w') : IsIt w' v l bs k := by
  obtain ⟨a, n, c, a', n', c', e, h1, h2⟩ := h
  exact ⟨a, n, c, a', n', c', e, h1.keep hk, h2.keep hk⟩
section
variable {H : Type} {enc : TypeId × Value → H} {P : Program} {w : World} {base : Nat} {spare : Nat → Bool} {held : Bool}
theorem bytes_of {t e : TypeId} {fuel : Nat} {cs : List Value} {x : DataW H × List MemPlace} (ht : P.underlying t = some (.slice e)) (he : P.underlying e = some (.int .u8)) (hc : P.cellsOf e = 1)
    (h : DataW.trod enc P w base spare held fuel t cs = some x) : ∃ a n c bs, cs = [.slice a n c] ∧ IsB w a n c bs := by
  rcases open_ints ht he hc h with ⟨h0, _⟩ | ⟨a, len, cap, zs, hcs, _, hl, hm, hz, _, hcell, hwf⟩
  · exact ⟨none, 0, 0, [], h0, rfl, Nat.le_refl _, by decide, fun _ => rfl, .inl rfl⟩
  · have hlz : len ≤ zs.length := by rw [hz]; split <;> omega
    refine ⟨some a, len, cap, (zs.take len).map fun z => BitVec.ofNat 8 z.toNat, hcs, by simp; omega, hl, hm, fun e => (by cases e), ?_⟩
    rcases Nat.eq_zero_or_pos len with h0 | h0
    · exact .inl h0
    · right
      obtain ⟨b, o, s⟩ := a
      have hs : s = none := by
        have h1 := hcell 0 (by omega)
        simpa [Addr.add] using World.cell?_spot h1
      subst hs
      refine ⟨b, o, rfl, fun i x hx => ?_⟩
      have hil : i < len := by
        have := (List.getElem?_eq_some_iff.1 hx).1
        simp at this; omega
      have h1 := hcell i (by omega)
      rw [add_at] at h1
      rw [h1]
      rw [List.getElem?_map, List.getElem?_take, if_pos hil, List.getElem?_eq_getElem (by omega)] at hx
      injection hx with hx
      subst hx
      have hw := hwf (zs.getD i 0) (by rw [List.getD_eq_getElem?_getD, List.getElem?_eq_getElem (by omega)]; exact List.getElem_mem _)
      rw [List.getD_eq_getElem?_getD, List.getElem?_eq_getElem (by omega)] at hw ⊢
      simp only [Option.getD_some] at hw ⊢
      have hw2 := Bool.and_eq_true_iff.1 hw
      have hb1 : (0 : Int) ≤ zs[i] := of_decide_eq_true hw2.1
      have hb2 : zs[i] ≤ (255 : Int) := of_decide_eq_true hw2.2
      unfold bvb
      rw [BitVec.toNat_ofNat]
      congr 2
      omega
end
section
variable {H : Type} {enc : TypeId × Value → H} {w : World} {base : Nat} {spare : Nat → Bool} {held : Bool}
set_option maxRecDepth 100000 in
theorem item_of : ∀ (fuel : Nat) (cs : List Value) (x : DataW H × List MemPlace), DataW.trod enc Tryd.prog w base spare held fuel 25 cs = some x →
    ∃ l bs k a n c a' n' c', cs = [.bool l, .slice a n c, .slice a' n' c'] ∧ IsB w a n c bs ∧ IsK w a' n' c' k := by
  intro fuel
  induction fuel using Nat.strongRecOn with
  | _ fuel ih =>
    intro cs x h
    obtain ⟨ys, m, hm, hx, hcl, hyl, hf⟩ := DataW.trod_struct Tryd.underlying25 h
    have hC : Tryd.prog.cellsOf 25 = 3 := by kernel_rfl
    rw [hC] at hcl
    obtain ⟨c0, c1, c2, rfl⟩ : ∃ a b c, cs = [a, b, c] := by
      match cs, hcl with
      | [a, b, c], _ => exact ⟨a, b, c, rfl⟩
    have ys3 : ys.length = 3 := hyl
    obtain ⟨y0, y1, y2, rfl⟩ : ∃ a b c, ys = [a, b, c] := by
      match ys, ys3 with
      | [a, b, c], _ => exact ⟨a, b, c, rfl⟩
    have h0 := hf 0 _ rfl
    have h1 := hf 1 _ rfl
    have h2 := hf 2 _ rfl
    have k0 : DataW.trod enc Tryd.prog w base spare held m 4 [c0] = some y0 := h0
    have k1 : DataW.trod enc Tryd.prog w base spare held m 22 [c1] = some y1 := h1
    have k2 : DataW.trod enc Tryd.prog w base spare held m 23 [c2] = some y2 := h2
    clear h0 h1 h2 hf
    obtain ⟨l, hl, _⟩ := DataW.trod_bool Tryd.underlying4 k0
    simp at hl
    subst hl
    obtain ⟨a, n, c, bs, hb, hB⟩ := bytes_of Tryd.underlying22 Tryd.underlying5 (by kernel_rfl) k1
    simp at hb
    subst hb
    rcases DataW.trod_slice Tryd.underlying23 k2 with ⟨hn, _⟩ | ⟨a', len, cap, elems, rest, m2, hm2, hcs, _, _, hle, hcm, helen, hel, _, _⟩
    · simp at hn
      subst hn
      exact ⟨l, bs, .nil, a, n, c, none, 0, 0, rfl, hB, rfl, Nat.le_refl _, by decide, fun _ => rfl, .inl rfl⟩
    · simp at hcs
      subst hcs
      have each : ∀ i, i < len → ∃ l bs k a n c a2 n2 c2, w.cell? (a'.add (i * 3)) = some (.bool l) ∧ w.cell? (a'.add (i * 3 + 1)) = some (.slice a n c) ∧ w.cell? (a'.add (i * 3 + 2)) = some (.slice a2 n2 c2) ∧ IsB w a n c bs ∧ IsK w a2 n2 c2 k := by
        intro i hi
        have he := hel i hi
        rw [hC] at he
        have hle2 : i < elems.length := by omega
        rw [List.getElem?_eq_getElem hle2] at he
        cases hcc : w.cells? base (a'.add (i * 3)) 3 with
        | none => rw [hcc] at he; simp at he
        | some cs' =>
          rw [hcc] at he
          simp only [Option.bind_some] at he
          obtain ⟨l, bs, k, a, n, c, a2, n2, c2, e, h3, h4⟩ := ih m2 (by omega) cs' _ he
          obtain ⟨_, hlen, hat⟩ := World.cells?_some hcc
          subst e
          have q0 := hat 0 (by decide)
          have q1 := hat 1 (by decide)
          have q2 := hat 2 (by decide)
          rw [Go.Deep.add_add] at q0 q1 q2
          exact ⟨l, bs, k, a, n, c, a2, n2, c2, q0, q1, q2, h3, h4⟩
      rcases Nat.eq_zero_or_pos len with h0 | h0
      · exact ⟨l, bs, .nil, a, n, c, some a', len, cap, rfl, hB, h0, hle, hcm, fun e => (by cases e), .inl h0⟩
      · obtain ⟨b, o, s⟩ := a'
        have hs : s = none := by
          obtain ⟨_, _, _, _, _, _, _, _, _, q, _⟩ := each 0 h0
          simpa [Addr.add] using World.cell?_spot q
        subst hs
        have build : ∀ m j, j + m = len → ∃ k : Fo, k.len = m ∧ IsFo w k b (o + 3 * j) := by
          intro m
          induction m with
          | zero => intro j _; exact ⟨.nil, rfl, trivial⟩
          | succ m ihm =>
            intro j hj
            obtain ⟨r, hr1, hr2⟩ := ihm (j + 1) (by omega)
            obtain ⟨l, bs, k, a, n, c, a2, n2, c2, q0, q1, q2, h3, h4⟩ := each j (by omega)
            rw [add_at] at q0 q1 q2
            rw [show o + j * 3 = o + 3 * j from by omega] at q0
            rw [show o + (j * 3 + 1) = o + 3 * j + 1 from by omega] at q1
            rw [show o + (j * 3 + 2) = o + 3 * j + 2 from by omega] at q2
            rw [show o + 3 * (j + 1) = o + 3 * j + 3 from by omega] at hr2
            obtain ⟨g1, g2, g3, g4, g5⟩ := h4
            exact ⟨.cons l bs k r, by show r.len + 1 = m + 1; omega, q0, ⟨a, n, c, q1, h3⟩, ⟨a2, n2, c2, q2, g1, g2, g3, g4, g5⟩, hr2⟩
        obtain ⟨k, hk1, hk2⟩ := build len 0 (by omega)
        exact ⟨l, bs, k, a, n, c, some ⟨b, o, none⟩, len, cap, rfl, hB, hk1.symm, hle, hcm, fun e => (by cases e), .inr ⟨b, o, rfl, hk2⟩⟩
end
set_option maxRecDepth 100000 in
theorem items_in {H : Type} {enc : TypeId × Value → H} {w : World} {base : Nat} {spare : Nat → Bool} {held : Bool} {r : Reach} {b0 : Nat} {v : Value} {d : DataW H} {p : List MemPlace} (hv : Value.okWide Tryd.prog w r b0 25 v)
    (h : DataW.Trod enc Tryd.prog w base spare held 25 v d p) : ∃ l bs k, IsIt w v l bs k := by
  obtain ⟨cs, rfl, hsz⟩ := okWide_struct Tryd.underlying25 hv
  obtain ⟨fuel, hf⟩ := h
  obtain ⟨l, bs, k, a, n, c, a', n', c', e, h1, h2⟩ := item_of fuel _ _ hf
  refine ⟨l, bs, k, a, n, c, a', n', c', ?_, h1, h2⟩
  obtain ⟨cl⟩ := cs
  have hc3 : cl.length = 3 := hsz.trans (show Tryd.prog.cellsOf 25 = 3 by kernel_rfl)
  match cl, hc3 with
  | [x, y, z], _ =>
    have e' : [x, y, z] = [.bool l, .slice a n c, .slice a' n' c'] := by simpa [Value.cells] using e
    rw [e']
end Rl
end Go.Proofs.YthlmjcochpodgaaDoor
