/-
  Layer 18: each call over a ledger in memory, in one contract. Own work.
-/
import Derived.Test.YtmelkbainjfkeaaDoorLdg
namespace Go.Proofs.YtmelkbainjfkeaaDoor
open Go.RowKit
set_option linter.unusedVariables false
/-- An error by its number; 0: none. -/
def errV (n : Int) : Value := if n = 0 then .nilIface else .iface 42 (.int .i64 n)
theorem errV_zero : errV 0 = .nilIface := rfl
structure IsMem (w : World) (b : Nat) (L : LedS) : Prop where
  bal : ∀ i, i < 8 → w.cell? ⟨b, i, none⟩ = some (.int .u64 (L.bal i))
  row : ∃ V, w.cell? ⟨b, 8, none⟩ = some V ∧ w.ownsRow (b + 1) 59 2 V L.bonds.length (LedS.cells L.bonds)
  pin : w.cell? ⟨b, 9, none⟩ = some (.int .u64 L.pin)
  pout : w.cell? ⟨b, 10, none⟩ = some (.int .u64 L.pout)
  locked : w.cell? ⟨b, 11, none⟩ = some (.int .u64 L.locked)
  fz : ∀ o, w.frozen? ⟨b, o, none⟩ = false
structure IsLed (w : World) (b : Nat) (L : LedS) : Prop extends IsMem w b L where
  ok : L.Ok
def OwnL (w : World) (b : Nat) (k : Nat) : Prop := k = b ∨ ∃ V, w.cell? ⟨b, 8, none⟩ = some V ∧ V.ownBlock = some k
structure Moves (b : Nat) (w w' : World) : Prop where
  kept : Kept (OwnL w b) w w'
  own : ∀ k, OwnL w' b k → OwnL w b k ∨ w.heap.size ≤ k
namespace Led
theorem own_ge {w : World} {b : Nat} {L : LedS} (h : IsLed w b L) : ∀ k, OwnL w b k → b ≤ k ∧ k < w.heap.size := by
  intro k hk
  obtain ⟨V, hV, hr⟩ := h.row
  rcases hk with rfl | ⟨V', hV', hk⟩
  · exact ⟨Nat.le_refl _, inHeap hV⟩
  · rw [hV] at hV'; injection hV' with e; subst e
    have := hr.lt k hk
    omega
theorem moves_refl (b : Nat) (w : World) : Moves b w w := ⟨Kept.refl _ _, fun _ h => .inl h⟩
theorem moves_trans {b : Nat} {x y z : World} (h : Moves b x y) (k : Moves b y z) : Moves b x z :=
  ⟨h.kept.trans k.kept (fun i hi ho => (h.own i ho).resolve_right (by omega)), fun i ho => by
    rcases k.own i ho with ho | ho
    · exact h.own i ho
    · exact .inr (Nat.le_trans h.kept.size ho)⟩
theorem moves_drewN {b : Nat} {x y : World} (h : Moves b x y) (n : Nat) : Moves b x (y.drewN n) := ⟨h.kept.drewN n, h.own⟩
theorem is_drewN {b : Nat} {x : World} {L : LedS} (h : IsLed x b L) (n : Nat) : IsLed (x.drewN n) b L := ⟨⟨h.bal, h.row, h.pin, h.pout, h.locked, h.fz⟩, h.ok⟩
/-- Two cells of the ledger's own block written: a balance, and one of the counts. -/
theorem is_put {w : World} {b : Nat} {L : LedS} (h : IsMem w b L) (i : Nat) (hi : i < 8) (x : Int) (o : Nat) (ho : o = 9 ∨ o = 10 ∨ o = 11) (y : Int) (L' : LedS) (hbal : L'.bal = LedS.put L.bal i x) (hbonds : L'.bonds = L.bonds)
    (h9 : L'.pin = if o = 9 then y else L.pin) (h10 : L'.pout = if o = 10 then y else L.pout) (h11 : L'.locked = if o = 11 then y else L.locked) (w' : World) (hw : w' = (w.setCell ⟨b, i, none⟩ (.int .u64 x)).setCell ⟨b, o, none⟩ (.int .u64 y)) :
    IsMem w' b L' ∧ Moves b w w' := by
  subst hw
  have hio : i ≠ o := by omega
  have hc : ∀ j v, w.cell? ⟨b, j, none⟩ = some v → j ≠ i → j ≠ o → ((w.setCell ⟨b, i, none⟩ (.int .u64 x)).setCell ⟨b, o, none⟩ (.int .u64 y)).cell? ⟨b, j, none⟩ = some v := by
    intro j v hv h1 h2
    rw [World.cell?_setCell_other _ _ _ _ (by simp <;> omega), World.cell?_setCell_other _ _ _ _ (by simp <;> omega)]; exact hv
  have hi' : ((w.setCell ⟨b, i, none⟩ (.int .u64 x)).setCell ⟨b, o, none⟩ (.int .u64 y)).cell? ⟨b, i, none⟩ = some (.int .u64 x) := by
    rw [World.cell?_setCell_other _ _ _ _ (by simp <;> omega)]; exact World.cell?_setCell_same _ _ _ (h.bal i hi)
  have ho' : ((w.setCell ⟨b, i, none⟩ (.int .u64 x)).setCell ⟨b, o, none⟩ (.int .u64 y)).cell? ⟨b, o, none⟩ = some (.int .u64 y) := by
    have : ∃ v, (w.setCell ⟨b, i, none⟩ (.int .u64 x)).cell? ⟨b, o, none⟩ = some v := by
      rw [World.cell?_setCell_other _ _ _ _ (by simp <;> omega)]
      rcases ho with rfl | rfl | rfl
      · exact ⟨_, h.pin⟩
      · exact ⟨_, h.pout⟩
      · exact ⟨_, h.locked⟩
    obtain ⟨v, hv⟩ := this
    exact World.cell?_setCell_same _ _ _ hv
  obtain ⟨V, hV, hr⟩ := h.row
  refine ⟨⟨fun j hj => ?_, ⟨V, hc 8 V hV (by omega) (by omega), ?_⟩, ?_, ?_, ?_, fun j => by simpa using h.fz j⟩, ⟨?_, fun k hk => .inl ?_⟩⟩
  · rw [hbal]; unfold LedS.put; split
    · rename_i e; subst e; exact hi'
    · rename_i e; exact hc j _ (h.bal j hj) e (by omega)
  · rw [hbonds]; exact ownsRow_setCell_below (ownsRow_setCell_below hr (by simp) _) (by simp) _
  · rw [h9]; split
    · rename_i e; subst e; exact ho'
    · rename_i e; exact hc 9 _ h.pin (by omega) (fun hh => e hh.symm)
  · rw [h10]; split
    · rename_i e; subst e; exact ho'
    · rename_i e; exact hc 10 _ h.pout (by omega) (fun hh => e hh.symm)
  · rw [h11]; split
    · rename_i e; subst e; exact ho'
    · rename_i e; exact hc 11 _ h.locked (by omega) (fun hh => e hh.symm)
  · exact ((Kept.refl _ w).setCell (.inl (.inl rfl)) _).setCell (.inl (.inl rfl)) _
  · rcases hk with hk | ⟨V', hV', hk⟩
    · exact .inl hk
    · rw [hc 8 V hV (by omega) (by omega)] at hV'; injection hV' with e; subst e
      exact .inr ⟨_, hV, hk⟩
theorem setCell_comm_ne (w : World) (b i o : Nat) (hne : i ≠ o) (x y : Value) : (w.setCell ⟨b, i, none⟩ x).setCell ⟨b, o, none⟩ y = (w.setCell ⟨b, o, none⟩ y).setCell ⟨b, i, none⟩ x := by
  simp only [World.setCell, World.mk.injEq, and_true]
  apply Array.ext_getElem?
  intro k
  simp only [Array.getElem?_modify]
  split
  · rename_i e; subst e
    cases w.heap[b]? with
    | none => rfl
    | some ob => cases ob with
      | cells c t f =>
        simp
        apply Array.ext_getElem?
        intro k
        simp only [Array.getElem?_setIfInBounds]
        repeat' split
        all_goals first | omega | (simp_all; done) | (simp_all; omega)
      | _ => rfl
  · rfl
theorem payIn_any (b : Nat) (p v : Int) (w : World) (L : LedS) (h : IsLed w b L) (v0 : 0 ≤ v) :
    Calls Tryd.prog 6 #[.pointer (some ⟨b, 0, none⟩), .int .i64 p, .int .u64 v] w fun e w' => e = .returned (errV (L.payIn p v).1) ∧ IsLed w' b (L.payIn p v).2 ∧ Moves b w w' := by
  have ok' := LedS.payIn_is h.ok (p := p) v0
  have hm := h.ok.most
  have hs0 : 0 ≤ L.pin := by
    have := (LedS.bal_le h.ok (i := 0) (by omega)).1; have := (LedS.bal_le h.ok (i := 0) (by omega)).2; have := h.ok.bal0 0 (by omega); have := h.ok.pout0; omega
  unfold LedS.payIn at ok' ⊢
  by_cases hp : p < 0 ∨ 8 ≤ p
  · rw [if_pos hp]
    refine (payIn_bad b p v w hp).mono ?_
    rintro e w' ⟨rfl, n, rfl⟩
    exact ⟨rfl, is_drewN h n, moves_drewN (moves_refl _ _) n⟩
  · rw [if_neg hp] at ok' ⊢
    by_cases hq : 281474976710656 < L.pin + v
    · rw [if_pos hq]
      refine (payIn_more b p v L.pin w (by omega) (by omega) hs0 hm hq h.pin).mono ?_
      rintro e w' ⟨rfl, n, rfl⟩
      exact ⟨rfl, is_drewN h n, moves_drewN (moves_refl _ _) n⟩
    · rw [if_neg hq] at ok' ⊢
      have hi : p.toNat < 8 := by omega
      have hb := LedS.bal_le h.ok hi
      have := h.ok.pout0
      refine (payIn_ok b p v L.pin (L.bal p.toNat) w (by omega) (by omega) v0 hs0 (by omega) (h.ok.bal0 _ hi) (by omega) h.pin h.fz (h.bal _ hi)).mono ?_
      rintro e w' ⟨rfl, n, rfl⟩
      have hw := setCell_comm_ne w b 9 p.toNat (by omega) (.int .u64 (L.pin + v)) (.int .u64 (L.bal p.toNat + v))
      obtain ⟨h1, h2⟩ := is_put h.toIsMem p.toNat hi (L.bal p.toNat + v) 9 (.inl rfl) (L.pin + v) { L with bal := LedS.put L.bal p.toNat (L.bal p.toNat + v), pin := L.pin + v } rfl rfl rfl rfl rfl _ hw
      exact ⟨rfl, is_drewN ⟨h1, ok'⟩ n, moves_drewN h2 n⟩
theorem payOut_any (b : Nat) (p v : Int) (w : World) (L : LedS) (h : IsLed w b L) (v0 : 0 ≤ v) :
    Calls Tryd.prog 7 #[.pointer (some ⟨b, 0, none⟩), .int .i64 p, .int .u64 v] w fun e w' => e = .returned (errV (L.payOut p v).1) ∧ IsLed w' b (L.payOut p v).2 ∧ Moves b w w' := by
  have ok' := LedS.payOut_is h.ok (p := p) v0
  have hm := h.ok.most
  unfold LedS.payOut at ok' ⊢
  by_cases hp : p < 0 ∨ 8 ≤ p
  · rw [if_pos hp]
    refine (payOut_bad b p v w hp).mono ?_
    rintro e w' ⟨rfl, n, rfl⟩
    exact ⟨rfl, is_drewN h n, moves_drewN (moves_refl _ _) n⟩
  · rw [if_neg hp] at ok' ⊢
    have hi : p.toNat < 8 := by omega
    by_cases hq : L.bal p.toNat < v
    · rw [if_pos hq]
      refine (payOut_funds b p v (L.bal p.toNat) w (by omega) (by omega) hq (h.bal _ hi)).mono ?_
      rintro e w' ⟨rfl, n, rfl⟩
      exact ⟨rfl, is_drewN h n, moves_drewN (moves_refl _ _) n⟩
    · rw [if_neg hq] at ok' ⊢
      have hb := LedS.bal_le h.ok hi
      refine (payOut_ok b p v L.pout (L.bal p.toNat) w (by omega) (by omega) v0 h.ok.pout0 (by omega) (by omega) h.fz h.pout (h.bal _ hi)).mono ?_
      rintro e w' ⟨rfl, n, rfl⟩
      obtain ⟨h1, h2⟩ := is_put h.toIsMem p.toNat hi (L.bal p.toNat - v) 10 (.inr (.inl rfl)) (L.pout + v) { L with bal := LedS.put L.bal p.toNat (L.bal p.toNat - v), pout := L.pout + v } rfl rfl rfl rfl rfl _ rfl
      exact ⟨rfl, is_drewN ⟨h1, ok'⟩ n, moves_drewN h2 n⟩
end Led
end Go.Proofs.YtmelkbainjfkeaaDoor
