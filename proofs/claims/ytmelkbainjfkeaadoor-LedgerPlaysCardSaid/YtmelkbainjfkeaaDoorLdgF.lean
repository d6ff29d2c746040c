/-
  Layer 18: the document's example ('fixed'), and LedgerKnown. Own work.
-/
import Derived.Test.YtmelkbainjfkeaaDoorLdg3
namespace Go.Proofs.YtmelkbainjfkeaaDoor
open Go.RowKit
set_option linter.unusedVariables false
namespace Led
theorem payIn_to (b : Nat) (p v : Int) (w : World) (L L' : LedS) (n : Int) (V : Value) (h : IsLed w b L) (v0 : 0 ≤ v) (hn : L.payIn p v = (n, L')) (hV : errV n = V) :
    Calls Tryd.prog 6 #[.pointer (some ⟨b, 0, none⟩), .int .i64 p, .int .u64 v] w fun e w' => e = .returned V ∧ IsLed w' b L' ∧ Moves b w w' := by
  have := payIn_any b p v w L h v0
  rw [hn] at this; subst hV; exact this
theorem payOut_to (b : Nat) (p v : Int) (w : World) (L L' : LedS) (n : Int) (V : Value) (h : IsLed w b L) (v0 : 0 ≤ v) (hn : L.payOut p v = (n, L')) (hV : errV n = V) :
    Calls Tryd.prog 7 #[.pointer (some ⟨b, 0, none⟩), .int .i64 p, .int .u64 v] w fun e w' => e = .returned V ∧ IsLed w' b L' ∧ Moves b w w' := by
  have := payOut_any b p v w L h v0
  rw [hn] at this; subst hV; exact this
theorem lock_to (b : Nat) (p v : Int) (w : World) (L L' : LedS) (n k : Int) (V : Value) (h : IsLed w b L) (v0 : 0 ≤ v) (hn : L.lockB p v = (n, L')) (hk : L.lockN p v = k) (hV : errV n = V) :
    Calls Tryd.prog 8 #[.pointer (some ⟨b, 0, none⟩), .int .i64 p, .int .u64 v] w fun e w' => e = .returned (.tuple #[.int .i64 k, V]) ∧ IsLed w' b L' ∧ Moves b w w' := by
  have := lock_any b p v w L h v0
  rw [hn, hk] at this; subst hV; exact this
theorem give_to (b : Nat) (m p : Int) (w : World) (L L' : LedS) (n : Int) (V : Value) (h : IsLed w b L) (hn : L.give m p = (n, L')) (hV : errV n = V) :
    Calls Tryd.prog 9 #[.pointer (some ⟨b, 0, none⟩), .int .i64 m, .int .i64 p] w fun e w' => e = .returned V ∧ IsLed w' b L' ∧ Moves b w w' := by
  have := give_any b m p w L h
  rw [hn] at this; subst hV; exact this
theorem balance_to (b : Nat) (p x : Int) (w : World) (L : LedS) (h : IsLed w b L) (h0 : 0 ≤ p) (h1 : p < 8) (hx : L.bal p.toNat = x) :
    Calls Tryd.prog 10 #[.pointer (some ⟨b, 0, none⟩), .int .i64 p] w fun e w' => e = .returned (.tuple #[.int .u64 x, .nilIface]) ∧ IsLed w' b L ∧ Moves b w w' := by
  have := balance_any b p w L h
  rw [if_neg (by omega), if_neg (by omega), hx] at this; exact this
theorem balance_no (b : Nat) (p : Int) (w : World) (L : LedS) (h : IsLed w b L) (h0 : p < 0 ∨ 8 ≤ p) :
    Calls Tryd.prog 10 #[.pointer (some ⟨b, 0, none⟩), .int .i64 p] w fun e w' => e = .returned (.tuple #[.int .u64 0, .iface 42 (.int .i64 2)]) ∧ IsLed w' b L ∧ Moves b w w' := by
  have := balance_any b p w L h
  rw [if_pos h0, if_pos h0] at this; exact this
theorem locked_to (b : Nat) (x : Int) (w : World) (L : LedS) (h : IsLed w b L) (hx : L.locked = x) :
    Calls Tryd.prog 15 #[.pointer (some ⟨b, 0, none⟩)] w fun e w' => e = .returned (.int .u64 x) ∧ IsLed w' b L ∧ Moves b w w' := by
  have := locked_any b w L h
  rw [hx] at this; exact this
theorem flows_to (b : Nat) (x y : Int) (w : World) (L : LedS) (h : IsLed w b L) (hx : L.pin = x) (hy : L.pout = y) :
    Calls Tryd.prog 16 #[.pointer (some ⟨b, 0, none⟩)] w fun e w' => e = .returned (.tuple #[.int .u64 x, .int .u64 y]) ∧ IsLed w' b L ∧ Moves b w w' := by
  have := flows_any b w L h
  rw [hx, hy] at this; exact this
/-- A new ledger's block, under a name. -/
theorem new_at (w : World) :
    Calls Tryd.prog 4 #[] w fun e w' => ∃ b, e = .returned (.pointer (some ⟨b, 0, none⟩)) ∧ IsLed w' b LedS.init ∧ Below w.heap.size w w' ∧ w.heap.size ≤ b ∧ (∀ k, OwnL w' b k → w.heap.size ≤ k) :=
  (new_any w).mono fun e w' ⟨h1, h2, h3, h4⟩ => ⟨_, h1, h2, h3, Nat.le_refl _, fun k hk => by rw [h4 k hk]; exact Nat.le_refl _⟩
theorem moves_below {b : Nat} {w w1 w2 : World} (h : Below w.heap.size w w1) (ho : ∀ k, OwnL w1 b k → w.heap.size ≤ k) (m : Moves b w1 w2) : Below w.heap.size w w2 :=
  h.trans (m.kept.below h.size (fun k _ hk => ho k hk))
/-- What another call does above the ledger leaves the ledger. -/
theorem is_below {b : Nat} {L : LedS} {w w' : World} (h : IsLed w b L) (hb : Below w.heap.size w w') : IsLed w' b L := by
  obtain ⟨V, hV, hr⟩ := h.row
  have hbs : b < w.heap.size := inHeap hV
  refine ⟨⟨fun i hi => keep1 hb (h.bal i hi), ⟨V, keep1 hb hV, ?_⟩, keep1 hb h.pin, keep1 hb h.pout, keep1 hb h.locked, fun o => keepF hb hbs (h.fz o)⟩, h.ok⟩
  exact (Kept.ofBelow (S := fun _ => False) hb).row hr (fun _ _ hf => hf)
theorem moves_of_below {b : Nat} {L : LedS} {w w' : World} (h : IsLed w b L) (hb : Below w.heap.size w w') : Moves b w w' := by
  obtain ⟨V, hV, hr⟩ := h.row
  refine ⟨Kept.ofBelow hb, fun k hk => .inl ?_⟩
  rcases hk with hk | ⟨V', hV', hk⟩
  · exact .inl hk
  · rw [keep1 hb hV] at hV'; injection hV' with e; subst e; exact .inr ⟨_, hV, hk⟩
def E1 : LedS := (LedS.init.payIn 1 10).2
def E2 : LedS := (E1.lockB 1 4).2
def E3 : LedS := (E2.give 0 2).2
def E4 : LedS := (E3.payOut 2 4).2
set_option maxRecDepth 100000 in
theorem fixed_true (w : World) :
    Calls Tryd.prog 5 #[] w fun e w' => e = .returned (.bool true) ∧ Below w.heap.size w w' := by
  go_enter Tryd.func5, Tryd.ntmps5
  go_wp2_with fail
  refine (new_at _).mono ?_
  rintro e w1 ⟨b, rfl, hL, hb, hbs, ho⟩
  have HB := Lib.hid hb
  have HS := Lib.hid hbs
  have HO := Lib.hid ho
  clear hb hbs ho
  go_wp2_with fail
  refine (payIn_to b 1 10 w1 _ E1 0 .nilIface hL (by decide) rfl rfl).mono ?_
  rintro e w2 ⟨rfl, hL, m⟩
  go_wp2_with fail
  refine (lock_to b 1 4 w2 _ E2 0 0 .nilIface hL (by decide) rfl rfl rfl).mono ?_
  rintro e w3 ⟨rfl, hL, m2⟩
  have m := moves_trans m m2
  clear m2
  go_wp2_with fail
  refine (balance_to b 1 6 w3 _ hL (by decide) (by decide) rfl).mono ?_
  rintro e w4 ⟨rfl, hL, m2⟩
  have m := moves_trans m m2
  go_wp2_with fail
  refine (locked_to b 4 w4 _ hL rfl).mono ?_
  rintro e w5 ⟨rfl, hL, m2⟩
  have m := moves_trans m m2
  go_wp2_with fail
  refine (give_to b 0 2 w5 _ E3 0 .nilIface hL rfl rfl).mono ?_
  rintro e w6 ⟨rfl, hL, m2⟩
  have m := moves_trans m m2
  go_wp2_with fail
  refine (give_to b 0 2 w6 _ E3 41 (.iface 42 (.int .i64 41)) hL rfl rfl).mono ?_
  rintro e w7 ⟨rfl, hL, m2⟩
  have m := moves_trans m m2
  go_wp2_with fail
  refine (Err.is_num _ _ _).mono ?_
  rintro e w8 ⟨rfl, rfl⟩
  go_wp2_with fail
  go_ret
  exact ⟨rfl, moves_below HB.out HO.out m⟩
end Led
end Go.Proofs.YtmelkbainjfkeaaDoor
