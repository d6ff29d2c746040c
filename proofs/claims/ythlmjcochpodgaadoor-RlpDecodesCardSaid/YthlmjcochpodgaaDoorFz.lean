/-
  An item that comes in, with its size. Own work, over the guide's lemmas of slices, structs and sizes.
-/
import Derived.Test.YthlmjcochpodgaaDoorFo
import Derived.SizedLaws
namespace Go.Proofs.YthlmjcochpodgaaDoor
open Go.ChangeShapes Go.WideShapes Go.Deep Go.RowKit
set_option linter.unusedVariables false
namespace Rl
/-- Each row of bytes is one that a machine can hold. -/
def Fo.fit : Fo → Prop
  | .nil => True
  | .cons _ b k r => b.length ≤ reachBytes ∧ k.fit ∧ r.fit
theorem weightsAll_mem {H : Type} {P : Program} {e : TypeId} : ∀ {ds : List (DataW H)} {d : DataW H}, d ∈ ds → ∀ m ∈ d.weights P e, m ∈ DataW.weightsAll P e ds
  | d0 :: ds, d, hd, m, hm => by
    simp only [DataW.weightsAll, List.mem_append]
    rcases List.mem_cons.1 hd with rfl | h
    · exact .inl hm
    · exact .inr (weightsAll_mem h m hm)
theorem weights_elem {H : Type} {P : Program} {t e : TypeId} (ht : P.underlying t = some (.slice e)) {x : DataW H × List MemPlace} {elems rest : List (DataW H × List MemPlace)} {pl : List MemPlace} (hx : x = (.slice (elems.map (·.1)) (rest.map (·.1)), pl)) {i : Nat} (hi : i < elems.length) :
    ∀ m ∈ elems[i].1.weights P e, m ∈ x.1.weights P t := by
  intro m hm
  rw [hx]
  simp only [DataW.weights, ht, List.mem_cons, List.mem_append]
  exact .inr (.inl (weightsAll_mem (List.mem_map.2 ⟨elems[i], List.getElem_mem hi, rfl⟩) m hm))
theorem weights_item {H : Type} {x y0 y1 y2 : DataW H × List MemPlace} {pl : List MemPlace} (hx : x = (.agg ([y0, y1, y2].map (·.1)), pl)) :
    (∀ m ∈ y1.1.weights Tryd.prog 22, m ∈ x.1.weights Tryd.prog 25) ∧ ∀ m ∈ y2.1.weights Tryd.prog 23, m ∈ x.1.weights Tryd.prog 25 := by
  subst hx
  constructor
  · intro m hm
    simp only [DataW.weights, Tryd.underlying25]
    exact DataW.weights_mem_each (j := 1) rfl rfl m hm
  · intro m hm
    simp only [DataW.weights, Tryd.underlying25]
    exact DataW.weights_mem_each (j := 2) rfl rfl m hm
section
variable {H : Type} {enc : TypeId × Value → H} {P : Program} {w : World} {base : Nat} {spare : Nat → Bool} {held : Bool}
theorem bytes_fit {t e : TypeId} {fuel : Nat} {cs : List Value} {x : DataW H × List MemPlace} (ht : P.underlying t = some (.slice e)) (he : P.underlying e = some (.int .u8)) (hc : P.cellsOf e = 1) (hbo : P.bytesOf e = 1)
    (h : DataW.trod enc P w base spare held fuel t cs = some x) : ∃ a n c bs, cs = [.slice a n c] ∧ IsB w a n c bs ∧ ((∀ m ∈ x.1.weights P t, m ≤ reachBytes) → n ≤ reachBytes) := by
  rcases open_ints ht he hc h with ⟨h0, _⟩ | ⟨a, len, cap, zs, hcs, _, hl, hm, hz, hx, hcell, hwf⟩
  · exact ⟨none, 0, 0, [], h0, ⟨rfl, Nat.le_refl _, by decide, fun _ => rfl, .inl rfl⟩, fun _ => Nat.zero_le _⟩
  · have hlz : len ≤ zs.length := by rw [hz]; split <;> omega
    refine ⟨some a, len, cap, (zs.take len).map fun z => BitVec.ofNat 8 z.toNat, hcs, ⟨by simp; omega, hl, hm, fun e => (by cases e), ?_⟩, ?_⟩
    rotate_left
    · intro hw
      have h9 := hw ((lits .u8 (zs.take len) : List (DataW H)).length + (lits .u8 (zs.drop len) : List (DataW H)).length) (by
        rw [hx]; simp [DataW.weights, ht, hbo])
      simp [lits] at h9
      omega
    rcases Nat.eq_zero_or_pos len with h0 | h0
    · exact .inl h0
    · right
      obtain ⟨b, o, s⟩ := a
      have hs : s = none := by
        have h1 := hcell 0 (by omega)
        simpa [Addr.add] using World.cell?_spot h1
      subst hs
      refine ⟨b, o, rfl, fun i x hx => ?_⟩
      have hil : i < len := by
        have := (List.getElem?_eq_some_iff.1 hx).1
        simp at this; omega
      have h1 := hcell i (by omega)
      rw [add_at] at h1
      rw [h1]
      rw [List.getElem?_map, List.getElem?_take, if_pos hil, List.getElem?_eq_getElem (by omega)] at hx
      injection hx with hx
      subst hx
      have hw := hwf (zs.getD i 0) (by rw [List.getD_eq_getElem?_getD, List.getElem?_eq_getElem (by omega)]; exact List.getElem_mem _)
      rw [List.getD_eq_getElem?_getD, List.getElem?_eq_getElem (by omega)] at hw ⊢
      simp only [Option.getD_some] at hw ⊢
      have hw2 := Bool.and_eq_true_iff.1 hw
      have hb1 : (0 : Int) ≤ zs[i] := of_decide_eq_true hw2.1
      have hb2 : zs[i] ≤ (255 : Int) := of_decide_eq_true hw2.2
      unfold bvb
      rw [BitVec.toNat_ofNat]
      congr 2
      omega
end
section
variable {H : Type} {enc : TypeId × Value → H} {w : World} {base : Nat} {spare : Nat → Bool} {held : Bool}
set_option maxRecDepth 100000 in
theorem item_fit : ∀ (fuel : Nat) (cs : List Value) (x : DataW H × List MemPlace), DataW.trod enc Tryd.prog w base spare held fuel 25 cs = some x →
    ∃ l bs k a n c a' n' c', cs = [.bool l, .slice a n c, .slice a' n' c'] ∧ IsB w a n c bs ∧ IsK w a' n' c' k ∧ ((∀ m ∈ x.1.weights Tryd.prog 25, m ≤ reachBytes) → bs.length ≤ reachBytes ∧ k.fit) := by
  intro fuel
  induction fuel using Nat.strongRecOn with
  | _ fuel ih =>
    intro cs x h
    obtain ⟨ys, m, hm, hx, hcl, hyl, hf⟩ := DataW.trod_struct Tryd.underlying25 h
    have hC : Tryd.prog.cellsOf 25 = 3 := by kernel_rfl
    rw [hC] at hcl
    obtain ⟨c0, c1, c2, rfl⟩ : ∃ a b c, cs = [a, b, c] := by
      match cs, hcl with
      | [a, b, c], _ => exact ⟨a, b, c, rfl⟩
    have ys3 : ys.length = 3 := hyl
    obtain ⟨y0, y1, y2, rfl⟩ : ∃ a b c, ys = [a, b, c] := by
      match ys, ys3 with
      | [a, b, c], _ => exact ⟨a, b, c, rfl⟩
    have h0 := hf 0 _ rfl
    have h1 := hf 1 _ rfl
    have h2 := hf 2 _ rfl
    have k0 : DataW.trod enc Tryd.prog w base spare held m 4 [c0] = some y0 := h0
    have k1 : DataW.trod enc Tryd.prog w base spare held m 22 [c1] = some y1 := h1
    have k2 : DataW.trod enc Tryd.prog w base spare held m 23 [c2] = some y2 := h2
    clear h0 h1 h2 hf
    obtain ⟨l, hl, _⟩ := DataW.trod_bool Tryd.underlying4 k0
    simp at hl
    subst hl
    obtain ⟨a, n, c, bs, hb, hB, hBw⟩ := bytes_fit Tryd.underlying22 Tryd.underlying5 (by kernel_rfl) (by kernel_rfl) k1
    have hx1 := weights_item hx
    simp at hb
    subst hb
    rcases DataW.trod_slice Tryd.underlying23 k2 with ⟨hn, _⟩ | ⟨a', len, cap, elems, rest, m2, hm2, hcs, hx2, _, hle, hcm, helen, hel, _, _⟩
    · simp at hn
      subst hn
      exact ⟨l, bs, .nil, a, n, c, none, 0, 0, rfl, hB, ⟨rfl, Nat.le_refl _, by decide, fun _ => rfl, .inl rfl⟩, fun hw => ⟨hB.1 ▸ hBw fun m hm => hw m (hx1.1 m hm), trivial⟩⟩
    · simp at hcs
      subst hcs
      have each : ∀ i, i < len → ∃ l bs k a n c a2 n2 c2, w.cell? (a'.add (i * 3)) = some (.bool l) ∧ w.cell? (a'.add (i * 3 + 1)) = some (.slice a n c) ∧ w.cell? (a'.add (i * 3 + 2)) = some (.slice a2 n2 c2) ∧ IsB w a n c bs ∧ IsK w a2 n2 c2 k ∧ ((∀ m ∈ x.1.weights Tryd.prog 25, m ≤ reachBytes) → bs.length ≤ reachBytes ∧ k.fit) := by
        intro i hi
        have he := hel i hi
        rw [hC] at he
        have hle2 : i < elems.length := by omega
        rw [List.getElem?_eq_getElem hle2] at he
        cases hcc : w.cells? base (a'.add (i * 3)) 3 with
        | none => rw [hcc] at he; simp at he
        | some cs' =>
          rw [hcc] at he
          simp only [Option.bind_some] at he
          obtain ⟨l, bs, k, a, n, c, a2, n2, c2, e, h3, h4, hfit⟩ := ih m2 (by omega) cs' _ he
          obtain ⟨_, hlen, hat⟩ := World.cells?_some hcc
          subst e
          have q0 := hat 0 (by decide)
          have q1 := hat 1 (by decide)
          have q2 := hat 2 (by decide)
          rw [Go.Deep.add_add] at q0 q1 q2
          exact ⟨l, bs, k, a, n, c, a2, n2, c2, q0, q1, q2, h3, h4, fun hw => hfit fun m hm => hw m (hx1.2 m (weights_elem Tryd.underlying23 hx2 hle2 m hm))⟩
      rcases Nat.eq_zero_or_pos len with h0 | h0
      · exact ⟨l, bs, .nil, a, n, c, some a', len, cap, rfl, hB, ⟨h0, hle, hcm, fun e => (by cases e), .inl h0⟩, fun hw => ⟨hB.1 ▸ hBw fun m hm => hw m (hx1.1 m hm), trivial⟩⟩
      · obtain ⟨b, o, s⟩ := a'
        have hs : s = none := by
          obtain ⟨_, _, _, _, _, _, _, _, _, q, _⟩ := each 0 h0
          simpa [Addr.add] using World.cell?_spot q
        subst hs
        have build : ∀ m j, j + m = len → ∃ k : Fo, k.len = m ∧ IsFo w k b (o + 3 * j) ∧ ((∀ m ∈ x.1.weights Tryd.prog 25, m ≤ reachBytes) → k.fit) := by
          intro m
          induction m with
          | zero => intro j _; exact ⟨.nil, rfl, trivial, fun _ => trivial⟩
          | succ m ihm =>
            intro j hj
            obtain ⟨r, hr1, hr2, hr3⟩ := ihm (j + 1) (by omega)
            obtain ⟨l, bs, k, a, n, c, a2, n2, c2, q0, q1, q2, h3, h4, hfit⟩ := each j (by omega)
            rw [add_at] at q0 q1 q2
            rw [show o + j * 3 = o + 3 * j from by omega] at q0
            rw [show o + (j * 3 + 1) = o + 3 * j + 1 from by omega] at q1
            rw [show o + (j * 3 + 2) = o + 3 * j + 2 from by omega] at q2
            rw [show o + 3 * (j + 1) = o + 3 * j + 3 from by omega] at hr2
            obtain ⟨g1, g2, g3, g4, g5⟩ := h4
            exact ⟨.cons l bs k r, by show r.len + 1 = m + 1; omega, ⟨q0, ⟨a, n, c, q1, h3⟩, ⟨a2, n2, c2, q2, g1, g2, g3, g4, g5⟩, hr2⟩, fun hw => ⟨(hfit hw).1, (hfit hw).2, hr3 hw⟩⟩
        obtain ⟨k, hk1, hk2, hk3⟩ := build len 0 (by omega)
        exact ⟨l, bs, k, a, n, c, some ⟨b, o, none⟩, len, cap, rfl, hB, ⟨hk1.symm, hle, hcm, fun e => (by cases e), .inr ⟨b, o, rfl, hk2⟩⟩, fun hw => ⟨hB.1 ▸ hBw fun m hm => hw m (hx1.1 m hm), hk3 hw⟩⟩
end
set_option maxRecDepth 100000 in
theorem items_fit {H : Type} {enc : TypeId × Value → H} {w : World} {base : Nat} {spare : Nat → Bool} {held : Bool} {r : Reach} {b0 : Nat} {v : Value} {d : DataW H} {p : List MemPlace} (hv : Value.okWide Tryd.prog w r b0 25 v)
    (h : DataW.Trod enc Tryd.prog w base spare held 25 v d p) (hw : ∀ m ∈ d.weights Tryd.prog 25, m ≤ reachBytes) : ∃ l bs k, IsIt w v l bs k ∧ bs.length ≤ reachBytes ∧ k.fit := by
  obtain ⟨cs, rfl, hsz⟩ := okWide_struct Tryd.underlying25 hv
  obtain ⟨fuel, hf⟩ := h
  obtain ⟨l, bs, k, a, n, c, a', n', c', e, h1, h2, h3⟩ := item_fit fuel _ _ hf
  refine ⟨l, bs, k, ⟨a, n, c, a', n', c', ?_, h1, h2⟩, h3 hw⟩
  obtain ⟨cl⟩ := cs
  have hc3 : cl.length = 3 := hsz.trans (show Tryd.prog.cellsOf 25 = 3 by kernel_rfl)
  match cl, hc3 with
  | [x, y, z], _ =>
    have e' : [x, y, z] = [.bool l, .slice a n c, .slice a' n' c'] := by simpa [Value.cells] using e
    rw [e']
end Rl
end Go.Proofs.YthlmjcochpodgaaDoor
