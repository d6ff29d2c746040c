/-
  Layer 18: what LedgerBonds carries from call to call. Own work.
-/
import Derived.Test.YtmelkbainjfkeaaLdgB
import Derived.IntWalk
namespace Go.Proofs.Ytmelkbainjfkeaa
open Go.RowKit
set_option linter.unusedVariables false
namespace Led
structure St (W : World) (b h : Nat) (B : Nat → Int) (L : LedS) (w : World) : Prop where
  led : IsLed w b L
  hv : ∀ j, j < 8 → w.cell? ⟨h, j, none⟩ = some (.int .u64 (B j))
  fz : ∀ o, w.frozen? ⟨h, o, none⟩ = false
  no : ¬ OwnL w b h
  below : Below W.heap.size W w
  own : ∀ k, OwnL w b k → W.heap.size ≤ k
  hh : W.heap.size ≤ h
  hs : h < w.heap.size
theorem St.step {W : World} {b h : Nat} {B : Nat → Int} {L L' : LedS} {w w' : World} (s : St W b h B L w) (hL : IsLed w' b L') (m : Moves b w w') : St W b h B L' w' :=
  ⟨hL, fun j hj => m.kept.cell s.no (s.hv j hj), fun o => by rw [m.kept.frozen s.no s.hs]; exact s.fz o, fun hh => by rcases m.own h hh with h1 | h1; exact s.no h1; exact absurd s.hs (by omega),
   s.below.trans (m.kept.below s.below.size fun k _ hk => s.own k hk), fun k hk => by rcases m.own k hk with h1 | h1; exact s.own k h1; exact Nat.le_trans s.below.size h1, s.hh, Nat.lt_of_lt_of_le s.hs m.kept.size⟩
theorem St.drewN {W : World} {b h : Nat} {B : Nat → Int} {L : LedS} {w : World} (s : St W b h B L w) (n : Nat) : St W b h B L (w.drewN n) := s.step (is_drewN s.led n) (moves_drewN (moves_refl _ _) n)
theorem St.put {W : World} {b h : Nat} {B : Nat → Int} {L : LedS} {w : World} (s : St W b h B L w) (i : Nat) (hi : i < 8) (x : Int) : St W b h (LedS.put B i x) L (w.setCell ⟨h, i, none⟩ (.int .u64 x)) := by
  have hne : h ≠ b := fun e => s.no (.inl e)
  have hc : ∀ k j, k ≠ h → (w.setCell ⟨h, i, none⟩ (.int .u64 x)).cell? ⟨k, j, none⟩ = w.cell? ⟨k, j, none⟩ := fun k j hk => World.cell?_setCell_other _ _ _ _ (fun e => hk (congrArg Addr.block e).symm)
  obtain ⟨V, hV, hr⟩ := s.led.row
  have hnv : V.ownBlock ≠ some h := fun e => s.no (.inr ⟨V, hV, e⟩)
  have hown : ∀ k, OwnL (w.setCell ⟨h, i, none⟩ (.int .u64 x)) b k → OwnL w b k := by
    rintro k (hk | ⟨V', hV', hk⟩)
    · exact .inl hk
    · rw [hc b 8 (fun e => hne e.symm)] at hV'; exact .inr ⟨V', hV', hk⟩
  have K : Kept (fun k => k = h) w (w.setCell ⟨h, i, none⟩ (.int .u64 x)) := Kept.setCell (S := fun k => k = h) (p := ⟨h, i, none⟩) (Kept.refl _ w) (.inl rfl) _
  refine ⟨⟨⟨fun j hj => (hc b j hne.symm).trans (s.led.bal j hj), ⟨V, (hc b 8 hne.symm).trans hV, K.row hr (fun k hk e => hnv (by rw [hk, e]))⟩, (hc b 9 hne.symm).trans s.led.pin, (hc b 10 hne.symm).trans s.led.pout, (hc b 11 hne.symm).trans s.led.locked, fun o => by simpa using s.led.fz o⟩, s.led.ok⟩, fun j hj => ?_, fun o => by simpa using s.fz o, fun hh => s.no (hown h hh), s.below.setCell s.hh _, fun k hk => s.own k (hown k hk), s.hh, by simpa [World.setCell] using s.hs⟩
  unfold LedS.put
  split
  · rename_i e; subst e; exact World.cell?_setCell_same _ _ _ (s.hv j hj)
  · rename_i e; rw [World.cell?_setCell_other _ _ _ _ (by simp <;> omega)]; exact s.hv j hj
theorem St.cong {W : World} {b h : Nat} {B B' : Nat → Int} {L : LedS} {w : World} (s : St W b h B L w) (e : ∀ j, j < 8 → B j = B' j) : St W b h B' L w :=
  ⟨s.led, fun j hj => by rw [← e j hj]; exact s.hv j hj, s.fz, s.no, s.below, s.own, s.hh, s.hs⟩
theorem St.ofNew {W w1 w2 : World} {b : Nat} {L : LedS} (hL : IsLed w2 b L) (h1 : Below W.heap.size W w1) (ho : ∀ k, OwnL w1 b k → W.heap.size ≤ k) (m : Moves b w1 w2) (t : TypeId) :
    St W b w2.heap.size (fun _ => 0) L (w2.alloc (.cells #[.int .u64 0, .int .u64 0, .int .u64 0, .int .u64 0, .int .u64 0, .int .u64 0, .int .u64 0, .int .u64 0] t)) := by
  have hb : Below w2.heap.size w2 (w2.alloc (.cells #[.int .u64 0, .int .u64 0, .int .u64 0, .int .u64 0, .int .u64 0, .int .u64 0, .int .u64 0, .int .u64 0] t)) := (Below.refl _ _).alloc (Nat.le_refl _) _
  have m2 := moves_of_below hL hb
  have hW2 := moves_below h1 ho m
  have hL2 := is_below hL hb
  have ho2 : ∀ k, OwnL w2 b k → W.heap.size ≤ k := fun k hk => by rcases m.own k hk with h | h; exact ho k h; exact Nat.le_trans h1.size h
  refine ⟨hL2, fun j hj => ?_, fun o => by simp, fun hh => ?_, hW2.trans (hb.mono hW2.size), fun k hk => ?_, hW2.size, by simp⟩
  · have hc : j = 0 ∨ j = 1 ∨ j = 2 ∨ j = 3 ∨ j = 4 ∨ j = 5 ∨ j = 6 ∨ j = 7 := by omega
    rcases hc with rfl | rfl | rfl | rfl | rfl | rfl | rfl | rfl <;> simp
  · rcases hh with e | ⟨V', hV', hk⟩
    · obtain ⟨V, hV, hr⟩ := hL.row
      have := inHeap hV; omega
    · obtain ⟨V, hV, hr⟩ := hL.row
      rw [keep1 hb hV] at hV'; injection hV' with e; subst e
      have := (hr.lt _ hk).2; omega
  · rcases m2.own k hk with h | h
    · exact ho2 k h
    · exact Nat.le_trans hW2.size h
theorem wrapU (x : Int) : IntKind.u64.wrap x = x % 18446744073709551616 := by simp [IntKind.wrap, IntKind.bits, IntKind.signed]
theorem kf_go {n : Nat} (h0 : 0 < n) (hn : n ≤ 20) (turn : Int) {i : Nat} (hi : i < n) : wrap64 ((IntKind.u64.wrap ((IntKind.u64.wrap turn).tmod n + i * 23)).tmod n) = (LedS.kf n (turn % 18446744073709551616) i : Int) := by
  have a0 := Int.emod_nonneg turn (show (18446744073709551616 : Int) ≠ 0 by decide)
  rw [wrapU, wrapU, Int.tmod_eq_emod_of_nonneg a0]
  have b0 := Int.emod_nonneg (turn % 18446744073709551616) (show (n : Int) ≠ 0 by omega)
  have b1 := Int.emod_lt_of_pos (turn % 18446744073709551616) (show (0 : Int) < n by omega)
  unfold LedS.kf
  generalize turn % 18446744073709551616 % (n : Int) = u at *
  rw [Int.emod_eq_of_lt (a := u + i * 23) (by omega) (by omega), Int.tmod_eq_emod_of_nonneg (by omega)]
  have c0 := Int.emod_nonneg (u + i * 23) (show (n : Int) ≠ 0 by omega)
  have c1 := Int.emod_lt_of_pos (u + i * 23) (show (0 : Int) < n by omega)
  rw [IntWalk.wrap64_in _ (by omega)]
  omega
theorem idx0 (x0 x1 x2 x3 x4 x5 x6 x7 : Value) (w : World) : (Instr.index 41 (.agg #[x0, x1, x2, x3, x4, x5, x6, x7]) (.int .i64 0)).run Try.prog w = .ok x0 w := by kernel_rfl
theorem idx1 (x0 x1 x2 x3 x4 x5 x6 x7 : Value) (w : World) : (Instr.index 41 (.agg #[x0, x1, x2, x3, x4, x5, x6, x7]) (.int .i64 1)).run Try.prog w = .ok x1 w := by kernel_rfl
theorem idx2 (x0 x1 x2 x3 x4 x5 x6 x7 : Value) (w : World) : (Instr.index 41 (.agg #[x0, x1, x2, x3, x4, x5, x6, x7]) (.int .i64 2)).run Try.prog w = .ok x2 w := by kernel_rfl
theorem idx3 (x0 x1 x2 x3 x4 x5 x6 x7 : Value) (w : World) : (Instr.index 41 (.agg #[x0, x1, x2, x3, x4, x5, x6, x7]) (.int .i64 3)).run Try.prog w = .ok x3 w := by kernel_rfl
theorem idx4 (x0 x1 x2 x3 x4 x5 x6 x7 : Value) (w : World) : (Instr.index 41 (.agg #[x0, x1, x2, x3, x4, x5, x6, x7]) (.int .i64 4)).run Try.prog w = .ok x4 w := by kernel_rfl
theorem idx5 (x0 x1 x2 x3 x4 x5 x6 x7 : Value) (w : World) : (Instr.index 41 (.agg #[x0, x1, x2, x3, x4, x5, x6, x7]) (.int .i64 5)).run Try.prog w = .ok x5 w := by kernel_rfl
theorem idx6 (x0 x1 x2 x3 x4 x5 x6 x7 : Value) (w : World) : (Instr.index 41 (.agg #[x0, x1, x2, x3, x4, x5, x6, x7]) (.int .i64 6)).run Try.prog w = .ok x6 w := by kernel_rfl
theorem idx7 (x0 x1 x2 x3 x4 x5 x6 x7 : Value) (w : World) : (Instr.index 41 (.agg #[x0, x1, x2, x3, x4, x5, x6, x7]) (.int .i64 7)).run Try.prog w = .ok x7 w := by kernel_rfl
end Led
end Go.Proofs.Ytmelkbainjfkeaa
