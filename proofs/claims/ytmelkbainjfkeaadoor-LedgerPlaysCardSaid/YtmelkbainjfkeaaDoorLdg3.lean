/-
  Layer 18: Lock, Give, Balance, Locked, Flows, New over a ledger in memory, each in one contract. Own work.
-/
import Derived.Test.YtmelkbainjfkeaaDoorLdg2
namespace Go.Proofs.YtmelkbainjfkeaaDoor
open Go.RowKit
set_option linter.unusedVariables false
namespace Led
theorem lock_any (b : Nat) (p v : Int) (w : World) (L : LedS) (h : IsLed w b L) (v0 : 0 ≤ v) :
    Calls Tryd.prog 8 #[.pointer (some ⟨b, 0, none⟩), .int .i64 p, .int .u64 v] w fun e w' => e = .returned (.tuple #[.int .i64 (L.lockN p v), errV (L.lockB p v).1]) ∧ IsLed w' b (L.lockB p v).2 ∧ Moves b w w' := by
  have ok' := LedS.lock_is h.ok (p := p) v0
  have hm := h.ok.most
  unfold LedS.lockN
  unfold LedS.lockB at ok' ⊢
  by_cases hp : p < 0 ∨ 8 ≤ p
  · rw [if_pos hp]
    refine (lock_bad b p v w hp).mono ?_
    rintro e w' ⟨rfl, n, rfl⟩
    exact ⟨rfl, is_drewN h n, moves_drewN (moves_refl _ _) n⟩
  · rw [if_neg hp] at ok' ⊢
    have hi : p.toNat < 8 := by omega
    by_cases hq : L.bal p.toNat < v
    · rw [if_pos hq]
      refine (lock_funds b p v (L.bal p.toNat) w (by omega) (by omega) hq (h.bal _ hi)).mono ?_
      rintro e w' ⟨rfl, n, rfl⟩
      exact ⟨rfl, is_drewN h n, moves_drewN (moves_refl _ _) n⟩
    · rw [if_neg hq] at ok' ⊢
      have hb := LedS.bal_le h.ok hi
      have ho := h.ok.pout0
      obtain ⟨V, hV, hr⟩ := h.row
      by_cases hl : 65536 ≤ (L.bonds.length : Int)
      · rw [if_pos hl]
        obtain ⟨A, c, rfl⟩ : ∃ A c, V = .slice A L.bonds.length c := by
          rcases ownsRow_forms hr with ⟨rfl, h0⟩ | ⟨g, c, rfl, _⟩
          · exact ⟨none, 0, by rw [h0]⟩
          · exact ⟨_, _, rfl⟩
        refine (lock_full b p v (L.bal p.toNat) A L.bonds.length c w (by omega) (by omega) v0 (by omega) (by omega) hl (h.bal _ hi) hV).mono ?_
        rintro e w' ⟨rfl, n, rfl⟩
        exact ⟨rfl, is_drewN h n, moves_drewN (moves_refl _ _) n⟩
      · rw [if_neg hl] at ok' ⊢
        refine (lock_ok b p v (L.bal p.toNat) L.locked V L.bonds.length (LedS.cells L.bonds) w (by omega) (by omega) v0 (by omega) hb.2 (by omega) (by omega) h.fz (h.bal _ hi) hV h.locked hr).mono ?_
        rintro e w' ⟨rfl, V', w1, n, hown, hk, hw0, hw, rfl⟩
        have hbs : b < w.heap.size := inHeap hV
        have hc : ∀ o, w1.cell? ⟨b, o, none⟩ = ((w.setCell ⟨b, p.toNat, none⟩ (.int .u64 (L.bal p.toNat - v))).setCell ⟨b, 11, none⟩ (.int .u64 (L.locked + v))).cell? ⟨b, o, none⟩ := fun o => World.cell?_of_block hw0
        have hfz : ∀ o, w1.frozen? ⟨b, o, none⟩ = false := fun o => (World.frozen?_of_block (w := (w.setCell ⟨b, p.toNat, none⟩ (.int .u64 (L.bal p.toNat - v))).setCell ⟨b, 11, none⟩ (.int .u64 (L.locked + v))) hw0).trans (by simpa using h.fz o)
        have hget : ∀ j u, w.cell? ⟨b, j, none⟩ = some u → j ≠ p.toNat → j ≠ 11 → w1.cell? ⟨b, j, none⟩ = some u := by
          intro j u hu h1 h2
          rw [hc, World.cell?_setCell_other _ _ _ _ (by simp <;> omega), World.cell?_setCell_other _ _ _ _ (by simp <;> omega)]; exact hu
        have hp1 : w1.cell? ⟨b, p.toNat, none⟩ = some (.int .u64 (L.bal p.toNat - v)) := by
          rw [hc, World.cell?_setCell_other _ _ _ _ (by simp <;> omega)]; exact World.cell?_setCell_same _ _ _ (h.bal _ hi)
        have h11w : (w.setCell ⟨b, p.toNat, none⟩ (.int .u64 (L.bal p.toNat - v))).cell? ⟨b, 11, none⟩ = some (.int .u64 L.locked) := by
          rw [World.cell?_setCell_other _ _ _ _ (by simp <;> omega)]; exact h.locked
        have h111 : w1.cell? ⟨b, 11, none⟩ = some (.int .u64 (L.locked + v)) := by
          rw [hc]; exact World.cell?_setCell_same _ _ _ h11w
        have h81 : w1.cell? ⟨b, 8, none⟩ = some V := hget 8 _ hV (by omega) (by omega)
        have hfin : ∀ j u, w1.cell? ⟨b, j, none⟩ = some u → j ≠ 8 → (w1.setCell ⟨b, 8, none⟩ V').cell? ⟨b, j, none⟩ = some u := by
          intro j u hu h1
          rw [World.cell?_setCell_other _ _ _ _ (by simp <;> omega)]; exact hu
        have h8f : (w1.setCell ⟨b, 8, none⟩ V').cell? ⟨b, 8, none⟩ = some V' := World.cell?_setCell_same _ _ _ h81
        have hL : IsMem (w1.setCell ⟨b, 8, none⟩ V') b { L with bal := LedS.put L.bal p.toNat (L.bal p.toNat - v), bonds := L.bonds ++ [(v, false)], locked := L.locked + v } := by
          refine ⟨fun j hj => ?_, ⟨V', h8f, ?_⟩, hfin 9 _ (hget 9 _ h.pin (by omega) (by omega)) (by omega), hfin 10 _ (hget 10 _ h.pout (by omega) (by omega)) (by omega), hfin 11 _ h111 (by omega), fun o => by simpa using hfz o⟩
          · show _ = some (Value.int .u64 (LedS.put L.bal p.toNat (L.bal p.toNat - v) j))
            unfold LedS.put; split
            · rename_i e; subst e; exact hfin _ _ hp1 (by omega)
            · rename_i e; exact hfin _ _ (hget j _ (h.bal j hj) e (by omega)) (by omega)
          · show World.ownsRow _ _ _ _ _ (L.bonds ++ [(v, false)]).length (LedS.cells (L.bonds ++ [(v, false)]))
            rw [List.length_append, LedS.cells_append]
            exact ownsRow_setCell_below hown (by simp) _
        refine ⟨rfl, is_drewN ⟨hL, ok'⟩ n, moves_drewN ⟨?_, fun k hk' => ?_⟩ n⟩
        · refine (hk.mono fun i _ hi => ?_).setCell (.inl (.inl rfl)) _
          rcases hi with hi | hi
          · exact .inl hi
          · exact .inr ⟨V, hV, hi⟩
        · rcases hk' with rfl | ⟨V2, hV2, hk'⟩
          · exact .inl (.inl rfl)
          · rw [h8f] at hV2; injection hV2 with e; subst e
            rcases hw k hk' with h1 | h1
            · exact .inl (.inr ⟨V, hV, h1⟩)
            · exact .inr h1
/-- A bond marked as given. -/
theorem is_mark {w : World} {b a k c : Nat} {v : Int} {L : LedS} (h : IsMem w b L) (hV : w.cell? ⟨b, 8, none⟩ = some (.slice (some ⟨a, 0, none⟩) L.bonds.length c)) (hr : w.ownsRow (b + 1) 59 2 (.slice (some ⟨a, 0, none⟩) L.bonds.length c) L.bonds.length (LedS.cells L.bonds))
    (hk : L.bonds[k]? = some (v, false)) : IsMem (w.setCell ⟨a, k * 2 + 1, none⟩ (.bool true)) b { L with bonds := L.bonds.set k (v, true) } ∧ Moves b w (w.setCell ⟨a, k * 2 + 1, none⟩ (.bool true)) := by
  have hab : b + 1 ≤ a := (hr.lt a rfl).1
  have hc : ∀ j, (w.setCell ⟨a, k * 2 + 1, none⟩ (.bool true)).cell? ⟨b, j, none⟩ = w.cell? ⟨b, j, none⟩ := fun j => World.cell?_setCell_other _ _ _ _ (by simp <;> omega)
  have hs := (hr.stored (k * 2 + 1) (.bool true)).1
  rw [LedS.cells_set _ _ _ _ true hk] at hs
  refine ⟨⟨fun j hj => (hc j).trans (h.bal j hj), ⟨_, (hc 8).trans hV, ?_⟩, (hc 9).trans h.pin, (hc 10).trans h.pout, (hc 11).trans h.locked, fun o => by simpa using h.fz o⟩, (Kept.refl _ w).setCell (.inl (.inr ⟨_, hV, rfl⟩)) _, fun i hi => .inl ?_⟩
  · show World.ownsRow _ _ _ _ _ (L.bonds.set k (v, true)).length (LedS.cells (L.bonds.set k (v, true)))
    rw [List.length_set]; exact hs
  · rcases hi with hi | ⟨V', hV', hi⟩
    · exact .inl hi
    · rw [hc 8] at hV'; exact .inr ⟨V', hV', hi⟩
theorem give_any (b : Nat) (n p : Int) (w : World) (L : LedS) (h : IsLed w b L) :
    Calls Tryd.prog 9 #[.pointer (some ⟨b, 0, none⟩), .int .i64 n, .int .i64 p] w fun e w' => e = .returned (errV (L.give n p).1) ∧ IsLed w' b (L.give n p).2 ∧ Moves b w w' := by
  have ok' := LedS.give_is h.ok (p := p) (n := n)
  have hm := h.ok.most
  unfold LedS.give at ok' ⊢
  by_cases hp : p < 0 ∨ 8 ≤ p
  · rw [if_pos hp]
    refine (give_bad b n p w hp).mono ?_
    rintro e w' ⟨rfl, m, rfl⟩
    exact ⟨rfl, is_drewN h m, moves_drewN (moves_refl _ _) m⟩
  · rw [if_neg hp] at ok' ⊢
    have hi : p.toNat < 8 := by omega
    obtain ⟨V, hV, hr⟩ := h.row
    by_cases hn : n < 0 ∨ (L.bonds.length : Int) ≤ n
    · rw [if_pos hn]
      obtain ⟨A, c, rfl⟩ : ∃ A c, V = .slice A L.bonds.length c := by
        rcases ownsRow_forms hr with ⟨rfl, h0⟩ | ⟨g, c, rfl, _⟩
        · exact ⟨none, 0, by rw [h0]⟩
        · exact ⟨_, _, rfl⟩
      refine (give_none b n p A L.bonds.length c w (by omega) (by omega) hn hV).mono ?_
      rintro e w' ⟨rfl, m, rfl⟩
      exact ⟨rfl, is_drewN h m, moves_drewN (moves_refl _ _) m⟩
    · rw [if_neg hn] at ok' ⊢
      obtain ⟨k, rfl⟩ : ∃ k : Nat, n = k := ⟨n.toNat, by omega⟩
      simp only [Int.toNat_natCast] at ok' ⊢
      have hkl : k < L.bonds.length := by omega
      obtain ⟨⟨v, g⟩, hk⟩ : ∃ x, L.bonds[k]? = some x := ⟨_, List.getElem?_eq_getElem hkl⟩
      rw [hk] at ok' ⊢
      obtain ⟨a, c, rfl, hab, has, _⟩ : ∃ a c, V = .slice (some ⟨a, 0, none⟩) L.bonds.length c ∧ b + 1 ≤ a ∧ a < w.heap.size ∧ L.bonds.length ≤ c := by
        rcases ownsRow_forms hr with ⟨rfl, h0⟩ | ⟨g, c, rfl, h1, h2, h3⟩
        · omega
        · exact ⟨_, _, rfl, h1, h2, h3⟩
      obtain ⟨c0, c1⟩ := LedS.cells_at _ _ _ _ hk
      have hcl := LedS.cells_len L.bonds
      have hv := (hr.cellAt (k * 2) (by omega)).trans c0
      have hg := (hr.cellAt (k * 2 + 1) (by omega)).trans c1
      have hfa := fun o => hr.frozenAt o
      cases g with
      | true =>
        simp only [if_true]
        refine (give_twice b a k p L.bonds.length c w (by omega) (by omega) hkl hV h.ok.len hg).mono ?_
        rintro e w' ⟨rfl, m, rfl⟩
        exact ⟨rfl, is_drewN h m, moves_drewN (moves_refl _ _) m⟩
      | false =>
        simp only [Bool.false_eq_true, if_false] at ok' ⊢
        have hv0 : 0 ≤ v := h.ok.bond0 _ (List.mem_of_getElem? hk)
        have hvk : v ≤ L.locked := by rw [h.ok.lock]; exact LedS.openSum_at _ _ _ h.ok.bond0 hk
        have hb := LedS.bal_le h.ok hi
        have ho := h.ok.pout0
        refine (give_ok b a k p v L.locked (L.bal p.toNat) L.bonds.length c w (by omega) (by omega) (by omega) hkl hV h.ok.len hv0 hvk (h.ok.bal0 _ hi) (by omega) hfa h.fz hg hv h.locked (h.bal _ hi)).mono ?_
        rintro e w' ⟨rfl, m, rfl⟩
        obtain ⟨h1, h2⟩ := is_mark h.toIsMem hV hr hk
        obtain ⟨h3, h4⟩ := is_put h1 p.toNat hi (L.bal p.toNat + v) 11 (.inr (.inr rfl)) (L.locked - v) { L with bal := LedS.put L.bal p.toNat (L.bal p.toNat + v), bonds := L.bonds.set k (v, true), locked := L.locked - v } rfl rfl rfl rfl rfl _ (setCell_comm_ne _ b 11 p.toNat (by omega) _ _)
        exact ⟨rfl, is_drewN ⟨h3, ok'⟩ m, moves_drewN (moves_trans h2 h4) m⟩
theorem balance_any (b : Nat) (p : Int) (w : World) (L : LedS) (h : IsLed w b L) :
    Calls Tryd.prog 10 #[.pointer (some ⟨b, 0, none⟩), .int .i64 p] w fun e w' => e = .returned (.tuple #[.int .u64 (if p < 0 ∨ 8 ≤ p then 0 else L.bal p.toNat), errV (if p < 0 ∨ 8 ≤ p then 2 else 0)]) ∧ IsLed w' b L ∧ Moves b w w' := by
  by_cases hp : p < 0 ∨ 8 ≤ p
  · rw [if_pos hp, if_pos hp]
    refine (balance_bad b p w hp).mono ?_
    rintro e w' ⟨rfl, n, rfl⟩
    exact ⟨rfl, is_drewN h n, moves_drewN (moves_refl _ _) n⟩
  · rw [if_neg hp, if_neg hp]
    refine (balance_ok b p (L.bal p.toNat) w (by omega) (by omega) (h.bal _ (by omega))).mono ?_
    rintro e w' ⟨rfl, n, rfl⟩
    exact ⟨rfl, is_drewN h n, moves_drewN (moves_refl _ _) n⟩
theorem locked_any (b : Nat) (w : World) (L : LedS) (h : IsLed w b L) :
    Calls Tryd.prog 15 #[.pointer (some ⟨b, 0, none⟩)] w fun e w' => e = .returned (.int .u64 L.locked) ∧ IsLed w' b L ∧ Moves b w w' := by
  refine (locked_ok b L.locked w h.locked).mono ?_
  rintro e w' ⟨rfl, n, rfl⟩
  exact ⟨rfl, is_drewN h n, moves_drewN (moves_refl _ _) n⟩
theorem flows_any (b : Nat) (w : World) (L : LedS) (h : IsLed w b L) :
    Calls Tryd.prog 16 #[.pointer (some ⟨b, 0, none⟩)] w fun e w' => e = .returned (.tuple #[.int .u64 L.pin, .int .u64 L.pout]) ∧ IsLed w' b L ∧ Moves b w w' := by
  refine (flows_ok b L.pin L.pout w h.pin h.pout).mono ?_
  rintro e w' ⟨rfl, n, rfl⟩
  exact ⟨rfl, is_drewN h n, moves_drewN (moves_refl _ _) n⟩
theorem new_any (w : World) :
    Calls Tryd.prog 4 #[] w fun e w' => e = .returned (.pointer (some ⟨w.heap.size, 0, none⟩)) ∧ IsLed w' w.heap.size LedS.init ∧ Below w.heap.size w w' ∧ (∀ k, OwnL w' w.heap.size k → k = w.heap.size) := by
  refine (new_is w).mono ?_
  rintro e w' ⟨rfl, t, rfl⟩
  refine ⟨rfl, ⟨⟨fun i hi => ?_, ⟨.slice none 0 0, ?_, World.ownsRow_nil _ _ _ _⟩, ?_, ?_, ?_, fun o => by simp⟩, LedS.init_ok⟩, (Below.refl _ _).alloc (Nat.le_refl _) _, ?_⟩
  · have hc : i = 0 ∨ i = 1 ∨ i = 2 ∨ i = 3 ∨ i = 4 ∨ i = 5 ∨ i = 6 ∨ i = 7 := by omega
    rcases hc with rfl | rfl | rfl | rfl | rfl | rfl | rfl | rfl <;> simp [LedS.init]
  · simp
  · simp [LedS.init]
  · simp [LedS.init]
  · simp [LedS.init]
  · rintro k (hk | ⟨V, hV, hk⟩)
    · exact hk
    · simp at hV; subst hV; simp [Value.ownBlock] at hk
end Led
end Go.Proofs.YtmelkbainjfkeaaDoor
