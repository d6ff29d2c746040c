/-
  Layer 18: what LedgerPlays carries from call to call. Own work.
-/
import Derived.Test.YtmelkbainjfkeaaDoorLdgE
import Derived.Test.YtmelkbainjfkeaaDoorLdgF
import Derived.Test.YtmelkbainjfkeaaDoorWhy
namespace Go.Proofs.YtmelkbainjfkeaaDoor
open Go.RowKit
set_option linter.unusedVariables false
def ErrLaid (w : World) : Prop := w.cell? ⟨0, 0, none⟩ = some (.iface 66 (.agg #[.pointer (some ⟨1, 34, none⟩)]))
/-- mootlaw18.number over an error by its number. -/
theorem number_err (n : Int) (w : World) (hg : ErrLaid w) :
    Calls Tryd.prog 14 #[errV n] w fun e w' => e = .returned (.int .i64 n) ∧ Below w.heap.size w w' := by
  unfold ErrLaid at hg
  by_cases h : n = 0
  · subst h
    rw [errV_zero]
    go_enter Tryd.func14, Tryd.ntmps14
    go_wp2_with fail
    refine (why_nil _).mono ?_
    rintro e w' ⟨rfl, rfl⟩
    go_wp2_with fail
    go_ret
    exact ⟨rfl, Below.refl _ _⟩
  · have he : errV n = .iface 42 (.int .i64 n) := if_neg h
    rw [he]
    clear he h
    go_enter Tryd.func14, Tryd.ntmps14
    go_wp2_with fail
    refine (why_num n _ hg).mono ?_
    rintro e w' ⟨rfl, hb⟩
    have HB := Lib.hid hb
    clear hb hg
    go_wp2_with fail
    go_ret
    exact ⟨rfl, HB.out⟩
namespace Ev
theorem rel_do {L : LedS} {l : List Ev} (r : Rel L l) (ok : L.Ok) (x : Ev) (k1 : 1 ≤ x.k) (k4 : x.k ≤ 4) (v0 : 0 ≤ x.v) : Rel (doL L x) (doE L x l) ∧ (doL L x).Ok := by
  have ite_ok : ∀ {c : Prop} [Decidable c] {a b : Int × LedS} (ha : a.1 ≠ 0 → a.2 = L) (hb : b.1 ≠ 0 → b.2 = L), (if c then a else b).1 ≠ 0 → (if c then a else b).2 = L := by
    intro c _ a b ha hb
    split
    · exact ha
    · exact hb
  have e1 : (L.payIn x.p x.v).1 ≠ 0 → (L.payIn x.p x.v).2 = L := by unfold LedS.payIn; exact ite_ok (fun _ => rfl) (ite_ok (fun _ => rfl) (fun h => absurd rfl h))
  have e2 : (L.payOut x.p x.v).1 ≠ 0 → (L.payOut x.p x.v).2 = L := by unfold LedS.payOut; exact ite_ok (fun _ => rfl) (ite_ok (fun _ => rfl) (fun h => absurd rfl h))
  have e3 : (L.lockB x.p x.v).1 ≠ 0 → (L.lockB x.p x.v).2 = L := by unfold LedS.lockB; exact ite_ok (fun _ => rfl) (ite_ok (fun _ => rfl) (ite_ok (fun _ => rfl) (fun h => absurd rfl h)))
  have e4 : (L.give x.b x.p).1 ≠ 0 → (L.give x.b x.p).2 = L := by
    unfold LedS.give
    refine ite_ok (fun _ => rfl) (ite_ok (fun _ => rfl) ?_)
    cases L.bonds[x.b.toNat]? with
    | none => exact fun _ => rfl
    | some z => exact ite_ok (fun _ => rfl) (fun h => absurd rfl h)
  obtain ⟨k, p, b, v⟩ := x
  simp only at *
  have hc : k = 1 ∨ k = 2 ∨ k = 3 ∨ k = 4 := by omega
  rcases hc with rfl | rfl | rfl | rfl
  · simp only [doL, doE, doN, doX]
    refine ⟨?_, LedS.payIn_is ok v0⟩
    by_cases h : (L.payIn p v).1 = 0
    · simpa [h] using rel_payIn r v0 ok (L' := (L.payIn p v).2) (by rw [← h])
    · simpa [h, e1 h] using r
  · simp only [doL, doE, doN, doX]
    refine ⟨?_, LedS.payOut_is ok v0⟩
    by_cases h : (L.payOut p v).1 = 0
    · simpa [h] using rel_payOut r v0 ok (L' := (L.payOut p v).2) (by rw [← h])
    · simpa [h, e2 h] using r
  · simp only [doL, doE, doN, doX]
    refine ⟨?_, LedS.lock_is ok v0⟩
    by_cases h : (L.lockB p v).1 = 0
    · simpa [h] using rel_lock r v0 ok (L' := (L.lockB p v).2) (by rw [← h])
    · simpa [h, e3 h] using r
  · simp only [doL, doE, doN, doX]
    refine ⟨?_, LedS.give_is ok⟩
    by_cases h : (L.give b p).1 = 0
    · simpa [h] using rel_give r (w := 0) ok (L' := (L.give b p).2) (by rw [← h])
    · simpa [h, e4 h] using r
theorem doE_len (L : LedS) (x : Ev) (l : List Ev) : (doE L x l).length ≤ l.length + 1 := by
  unfold doE; split <;> simp
end Ev
/-- The two ledgers in one world. -/
structure Pl0 (W : World) (b tb : Nat) (L : LedS) (l : List Ev) (y : World) : Prop where
  led : IsLed y b L
  ref : Ev.RefL y tb l
  sep : ∀ k, OwnL y b k → ¬ OwnS y tb 0 k
  below : Below W.heap.size W y
  ol : ∀ k, OwnL y b k → W.heap.size ≤ k
  ot : ∀ k, OwnS y tb 0 k → W.heap.size ≤ k
/-- .. and a copy of the call in a block of its own. -/
structure Pl (W : World) (b tb q : Nat) (x : Ev) (L : LedS) (l : List Ev) (y : World) : Prop extends Pl0 W b tb L l y where
  c0 : y.cell? ⟨q, 0, none⟩ = some (.int .i64 x.k)
  c1 : y.cell? ⟨q, 1, none⟩ = some (.int .i64 x.p)
  c2 : y.cell? ⟨q, 2, none⟩ = some (.int .i64 x.b)
  c3 : y.cell? ⟨q, 3, none⟩ = some (.int .u64 x.v)
  nl : ¬ OwnL y b q
  nt : ¬ OwnS y tb 0 q
namespace Pl0
variable {W : World} {b tb : Nat} {L L' : LedS} {l l' : List Ev} {y z : World}
theorem lt_t (s : Pl0 W b tb L l y) : ∀ k, OwnS y tb 0 k → k < y.heap.size := by
  intro k hk
  obtain ⟨V, hV, hr⟩ := s.ref.row
  rcases hk with rfl | ⟨V', hV', hk⟩
  · exact inHeap hV
  · rw [hV] at hV'; injection hV' with e; subst e; exact (hr.lt k hk).2
theorem own_t (s : Pl0 W b tb L l y) (m : Moves b y z) : ∀ k, OwnS z tb 0 k → OwnS y tb 0 k := by
  obtain ⟨V, hV, hr⟩ := s.ref.row
  have hV' := m.kept.cell (fun h => s.sep tb h (.inl rfl)) hV
  rintro k (hk | ⟨V2, hV2, hk⟩)
  · exact .inl hk
  · rw [hV'] at hV2; injection hV2 with e; subst e; exact .inr ⟨_, hV, hk⟩
theorem own_l (s : Pl0 W b tb L l y) (m : MovesS tb 0 y z) : ∀ k, OwnL z b k → OwnL y b k := by
  obtain ⟨V, hV, hr⟩ := s.led.row
  have hV' := m.kept.cell (s.sep b (.inl rfl)) hV
  rintro k (hk | ⟨V2, hV2, hk⟩)
  · exact .inl hk
  · rw [hV'] at hV2; injection hV2 with e; subst e; exact .inr ⟨_, hV, hk⟩
theorem led_step (s : Pl0 W b tb L l y) (hL : IsLed z b L') (m : Moves b y z) : Pl0 W b tb L' l z := by
  obtain ⟨V, hV, hr⟩ := s.ref.row
  have htn : ¬ OwnL y b tb := fun h => s.sep tb h (.inl rfl)
  have hown := s.own_t m
  refine ⟨hL, ⟨⟨V, m.kept.cell htn hV, m.kept.row hr (fun k hk h => s.sep k h (.inr ⟨V, hV, hk⟩))⟩, by rw [m.kept.frozen htn (inHeap hV)]; exact s.ref.fz⟩, fun k hk ht => ?_, s.below.trans (m.kept.below s.below.size fun k _ hk => s.ol k hk), fun k hk => ?_, fun k hk => s.ot k (hown k hk)⟩
  · have ht' := hown k ht
    rcases m.own k hk with h | h
    · exact s.sep k h ht'
    · have := s.lt_t k ht'; omega
  · rcases m.own k hk with h | h
    · exact s.ol k h
    · exact Nat.le_trans s.below.size h
theorem ref_step (s : Pl0 W b tb L l y) (hR : Ev.RefL z tb l') (m : MovesS tb 0 y z) : Pl0 W b tb L l' z := by
  obtain ⟨V, hV, hr⟩ := s.led.row
  have hb0 : ¬ OwnS y tb 0 b := s.sep b (.inl rfl)
  have hown := s.own_l m
  have hbs := inHeap hV
  refine ⟨⟨⟨fun i hi => m.kept.cell hb0 (s.led.bal i hi), ⟨V, m.kept.cell hb0 hV, m.kept.row hr (fun k hk h => s.sep k (.inr ⟨V, hV, hk⟩) h)⟩, m.kept.cell hb0 s.led.pin, m.kept.cell hb0 s.led.pout, m.kept.cell hb0 s.led.locked, fun o => by rw [m.kept.frozen hb0 hbs]; exact s.led.fz o⟩, s.led.ok⟩, hR, fun k hk ht => ?_, s.below.trans (m.kept.below s.below.size fun k _ hk => s.ot k hk), fun k hk => s.ol k (hown k hk), fun k hk => ?_⟩
  · have hl := hown k hk
    rcases m.own k ht with h | h
    · exact s.sep k hl h
    · have := (Led.own_ge s.led k hl).2; omega
  · rcases m.own k hk with h | h
    · exact s.ot k h
    · exact Nat.le_trans s.below.size h
theorem next (s : Pl0 W b tb L l y) (hb : Below y.heap.size y z) : Pl0 W b tb L l z := s.led_step (Led.is_below s.led hb) (Led.moves_of_below s.led hb)
/-- A new copy of a call. -/
theorem copy (s : Pl0 W b tb L l y) (x' : Ev) (t : TypeId) : Pl W b tb y.heap.size x' L l (y.alloc (.cells #[.int .i64 x'.k, .int .i64 x'.p, .int .i64 x'.b, .int .u64 x'.v] t)) := by
  have hb : Below y.heap.size y (y.alloc (.cells #[.int .i64 x'.k, .int .i64 x'.p, .int .i64 x'.b, .int .u64 x'.v] t)) := (Below.refl _ _).alloc (Nat.le_refl _) _
  have h := s.next hb
  refine ⟨h, by simp, by simp, by simp, by simp, fun hh => ?_, fun hh => ?_⟩
  · obtain ⟨V, hV, hr⟩ := s.ref.row
    have hh2 : OwnL y b y.heap.size := s.own_l (MovesS.ofBelow hV hb) _ hh
    have := (Led.own_ge s.led _ hh2).2; omega
  · have hh2 := s.own_t (Led.moves_of_below s.led hb) _ hh
    have := s.lt_t _ hh2; omega
theorem laid (s : Pl0 W b tb L l y) (hg : ErrLaid W) : ErrLaid y := by
  unfold ErrLaid at *
  exact keep1 s.below hg
/-- At the law's start: a new ledger, a new list of events. -/
theorem start {w1 : World} (hL : IsLed w1 b LedS.init) (h1 : Below W.heap.size W w1) (hb : W.heap.size ≤ b) (ho : ∀ k, OwnL w1 b k → W.heap.size ≤ k) (t : TypeId) :
    Pl0 W b w1.heap.size LedS.init [] (w1.alloc (.cells #[.slice none 0 0] t)) := by
  have hbl : Below w1.heap.size w1 (w1.alloc (.cells #[.slice none 0 0] t)) := (Below.refl _ _).alloc (Nat.le_refl _) _
  have m := Led.moves_of_below hL hbl
  have hc : (w1.alloc (.cells #[.slice none 0 0] t)).cell? ⟨w1.heap.size, 0, none⟩ = some (.slice none 0 0) := by simp
  have hbs : b < w1.heap.size := by obtain ⟨V, hV, hr⟩ := hL.row; exact inHeap hV
  have hown : ∀ k, OwnL (w1.alloc (.cells #[.slice none 0 0] t)) b k → OwnL w1 b k := by
    obtain ⟨V, hV, hr⟩ := hL.row
    rintro k (hk | ⟨V2, hV2, hk⟩)
    · exact .inl hk
    · rw [keep1 hbl hV] at hV2; injection hV2 with e; subst e; exact .inr ⟨_, hV, hk⟩
  have hs : ∀ k, OwnS (w1.alloc (.cells #[.slice none 0 0] t)) w1.heap.size 0 k → k = w1.heap.size := by
    rintro k (hk | ⟨V2, hV2, hk⟩)
    · exact hk
    · rw [hc] at hV2; injection hV2 with e; subst e; simp [Value.ownBlock] at hk
  refine ⟨Led.is_below hL hbl, ⟨⟨_, hc, World.ownsRow_nil _ _ _ _⟩, by simp⟩, fun k hk ht => ?_, h1.trans (hbl.mono h1.size), fun k hk => ho k (hown k hk), fun k hk => ?_⟩
  · have := hs k ht
    have := (Led.own_ge hL k (hown k hk)).2; omega
  · rw [hs k hk]; exact h1.size
end Pl0
namespace Pl
variable {W : World} {b tb q : Nat} {x : Ev} {L L' : LedS} {l l' : List Ev} {y z : World}
theorem led_step (s : Pl W b tb q x L l y) (hL : IsLed z b L') (m : Moves b y z) : Pl W b tb q x L' l z :=
  ⟨s.toPl0.led_step hL m, m.kept.cell s.nl s.c0, m.kept.cell s.nl s.c1, m.kept.cell s.nl s.c2, m.kept.cell s.nl s.c3, fun h => by
    rcases m.own q h with h | h
    · exact s.nl h
    · have := inHeap s.c0; omega, fun h => s.nt (s.toPl0.own_t m q h)⟩
theorem ref_step (s : Pl W b tb q x L l y) (hR : Ev.RefL z tb l') (m : MovesS tb 0 y z) : Pl W b tb q x L l' z :=
  ⟨s.toPl0.ref_step hR m, m.kept.cell s.nt s.c0, m.kept.cell s.nt s.c1, m.kept.cell s.nt s.c2, m.kept.cell s.nt s.c3, fun h => s.nl (s.toPl0.own_l m q h), fun h => by
    rcases m.own q h with h | h
    · exact s.nt h
    · have := inHeap s.c0; omega⟩
theorem next (s : Pl W b tb q x L l y) (hb : Below y.heap.size y z) : Pl W b tb q x L l z := s.led_step (Led.is_below s.led hb) (Led.moves_of_below s.led hb)
end Pl
/-- .. with the value that the events' list has. -/
structure PlV (W : World) (b tb q : Nat) (x : Ev) (L : LedS) (l : List Ev) (V : Value) (y : World) : Prop extends Pl W b tb q x L l y where
  vt : y.cell? ⟨tb, 0, none⟩ = some V
  vr : y.ownsRow (tb + 1) 46 4 V l.length (Ev.cells l)
namespace PlV
variable {W : World} {b tb q : Nat} {x : Ev} {L : LedS} {l : List Ev} {V : Value} {y z : World}
theorem of (s : Pl W b tb q x L l y) : ∃ V, PlV W b tb q x L l V y := by
  obtain ⟨V, hV, hr⟩ := s.ref.row
  exact ⟨V, s, hV, hr⟩
theorem next (s : PlV W b tb q x L l V y) (hb : Below y.heap.size y z) : PlV W b tb q x L l V z :=
  ⟨s.toPl.next hb, keep1 hb s.vt, (Kept.ofBelow (S := fun _ => False) hb).row s.vr (fun _ _ hf => hf)⟩
theorem drew (s : PlV W b tb q x L l V y) : PlV W b tb q x L l V y.drew := s.next (Below.refl _ _).drew
end PlV
def balS (L : LedS) : Nat → Int
  | 0 => 0
  | k + 1 => balS L k + L.bal k
theorem balS_bd {L : LedS} (ok : L.Ok) : ∀ k, k ≤ 8 → 0 ≤ balS L k
  | 0, _ => Int.le_refl _
  | k + 1, h => by have := balS_bd ok k (by omega); have := ok.bal0 k (by omega); simp only [balS]; omega
theorem balS_all {L : LedS} (ok : L.Ok) : L.pout + (L.locked + balS L 8) = L.pin := by
  have := ok.sum
  simp only [balS]; omega
theorem balS_le {L : LedS} (ok : L.Ok) : ∀ k, k ≤ 8 → L.locked + balS L k ≤ 281474976710656 := by
  intro k hk
  have h8 := balS_all ok
  have hm := ok.most
  have hp := ok.pout0
  have hmono : ∀ d, k + d ≤ 8 → balS L k ≤ balS L (k + d) := by
    intro d
    induction d with
    | zero => intro _; exact Int.le_refl _
    | succ d ih => intro h; have := ih (by omega); have := ok.bal0 (k + d) (by omega); rw [Nat.add_succ]; simp only [balS]; omega
  have := hmono (8 - k) (by omega)
  rw [show k + (8 - k) = 8 from by omega] at this
  omega
theorem bal_n {L : LedS} {l : List Ev} (r : Ev.Rel L l) (ok : L.Ok) (j : Nat) (h8 : j < 8) (V : Value) (B : Nat) (w : World) (hown : w.ownsRow B 46 4 V l.length (Ev.cells l)) (hl : (l.length : Int) ≤ 1000) :
    Calls Tryd.prog 12 #[.agg #[V], .int .i64 j] w fun e w' => e = .returned (.int .u64 (L.bal j)) ∧ Below w.heap.size w w' := by
  have h := Ev.bal_p r ok (j : Int) (by omega) (by omega) V B w hown hl
  rwa [Int.toNat_natCast] at h
end Go.Proofs.YtmelkbainjfkeaaDoor
