/- Merged of Ldg Ldg2 Ldg3 LdgF Shelf Pos Apz. Own work. -/
import Derived.Test.YtnaamljflcgepaaGreatDoorP01
import Derived.Shelf.Small.Bits
import Derived.Shelf.Strconv.Itoa0
import Derived.Shelf.Bits.Mul64
import Derived.Test.YtnaamljflcgepaaGreatDoorProg
import Derived.Lib.Hide
import Derived.Outline
import Derived.Deep.QuietTactic
import Derived.BigQuiet
import Derived.IntWalk
import Derived.WalkKit
namespace Go.Proofs.YtnaamljflcgepaaGreatDoor
open Go.RowKit
set_option linter.unusedVariables false
/-- What a ledger holds. -/
structure LedS where
  bal : Nat → Int
  bonds : List (Int × Bool)
  pin : Int
  pout : Int
  locked : Int
namespace LedS
def openSum : List (Int × Bool) → Int
  | [] => 0
  | x :: t => (if x.2 then 0 else x.1) + openSum t
def cells : List (Int × Bool) → List Value
  | [] => []
  | x :: t => .int .u64 x.1 :: .bool x.2 :: cells t
def put (f : Nat → Int) (i : Nat) (x : Int) : Nat → Int := fun j => if j = i then x else f j
structure Ok (L : LedS) : Prop where
  bal0 : ∀ i, i < 8 → 0 ≤ L.bal i
  bond0 : ∀ x ∈ L.bonds, 0 ≤ x.1
  pout0 : 0 ≤ L.pout
  lock : L.locked = openSum L.bonds
  sum : L.bal 0 + L.bal 1 + L.bal 2 + L.bal 3 + L.bal 4 + L.bal 5 + L.bal 6 + L.bal 7 + L.locked + L.pout = L.pin
  most : L.pin ≤ 281474976710656
  len : L.bonds.length ≤ 65536
def init : LedS := ⟨fun _ => 0, [], 0, 0, 0⟩
/-- The calls: the error's number (0: none), what the ledger holds then. -/
def payIn (L : LedS) (p v : Int) : Int × LedS :=
  if p < 0 ∨ 8 ≤ p then (2, L) else if 281474976710656 < L.pin + v then (2, L)
  else (0, { L with bal := put L.bal p.toNat (L.bal p.toNat + v), pin := L.pin + v })
def payOut (L : LedS) (p v : Int) : Int × LedS :=
  if p < 0 ∨ 8 ≤ p then (2, L) else if L.bal p.toNat < v then (21, L)
  else (0, { L with bal := put L.bal p.toNat (L.bal p.toNat - v), pout := L.pout + v })
def lockB (L : LedS) (p v : Int) : Int × LedS :=
  if p < 0 ∨ 8 ≤ p then (2, L) else if L.bal p.toNat < v then (21, L) else if 65536 ≤ (L.bonds.length : Int) then (5, L)
  else (0, { L with bal := put L.bal p.toNat (L.bal p.toNat - v), bonds := L.bonds ++ [(v, false)], locked := L.locked + v })
def lockN (L : LedS) (p v : Int) : Int := if (lockB L p v).1 = 0 then L.bonds.length else 0
def give (L : LedS) (n p : Int) : Int × LedS :=
  if p < 0 ∨ 8 ≤ p then (2, L) else if n < 0 ∨ (L.bonds.length : Int) ≤ n then (4, L)
  else match L.bonds[n.toNat]? with
    | none => (4, L)
    | some (v, g) => if g then (41, L) else (0, { L with bal := put L.bal p.toNat (L.bal p.toNat + v), bonds := L.bonds.set n.toNat (v, true), locked := L.locked - v })
theorem openSum_append (l : List (Int × Bool)) (v : Int) : openSum (l ++ [(v, false)]) = openSum l + v := by
  induction l with
  | nil => simp [openSum]
  | cons x t ih => simp only [List.cons_append, openSum, ih]; omega
theorem openSum_set : ∀ (l : List (Int × Bool)) (n : Nat) (v : Int), l[n]? = some (v, false) → openSum (l.set n (v, true)) = openSum l - v
  | [], n, v, h => by simp at h
  | x :: t, 0, v, h => by simp at h; subst h; simp [openSum]; omega
  | x :: t, n + 1, v, h => by simp at h; simp only [List.set, openSum, openSum_set t n v h]; omega
theorem openSum_ge : ∀ (l : List (Int × Bool)), (∀ x ∈ l, 0 ≤ x.1) → 0 ≤ openSum l
  | [], _ => by simp [openSum]
  | x :: t, h => by
    have h1 := openSum_ge t (fun y hy => h y (List.mem_cons_of_mem _ hy))
    have h2 := h x (List.mem_cons_self ..)
    simp only [openSum]; split <;> omega
theorem openSum_at : ∀ (l : List (Int × Bool)) (n : Nat) (v : Int), (∀ x ∈ l, 0 ≤ x.1) → l[n]? = some (v, false) → v ≤ openSum l
  | [], n, v, _, h => by simp at h
  | x :: t, 0, v, hh, h => by
    simp at h; subst h
    have h1 := openSum_ge t (fun y hy => hh y (List.mem_cons_of_mem _ hy))
    simp [openSum]; omega
  | x :: t, n + 1, v, hh, h => by
    simp at h
    have h1 := openSum_at t n v (fun y hy => hh y (List.mem_cons_of_mem _ hy)) h
    have h2 := hh x (List.mem_cons_self ..)
    simp only [openSum]; split <;> omega
theorem cells_append (l : List (Int × Bool)) (v : Int) (g : Bool) : cells (l ++ [(v, g)]) = cells l ++ [.int .u64 v, .bool g] := by
  induction l with
  | nil => rfl
  | cons x t ih => simp [cells, ih]
theorem cells_len : ∀ (l : List (Int × Bool)), (cells l).length = l.length * 2
  | [] => rfl
  | x :: t => by simp only [cells, List.length_cons, cells_len t]; omega
theorem cells_at : ∀ (l : List (Int × Bool)) (n : Nat) (v : Int) (g : Bool), l[n]? = some (v, g) → (cells l)[n * 2]? = some (.int .u64 v) ∧ (cells l)[n * 2 + 1]? = some (.bool g)
  | [], n, v, g, h => by simp at h
  | x :: t, 0, v, g, h => by simp at h; subst h; exact ⟨rfl, rfl⟩
  | x :: t, n + 1, v, g, h => by
    simp at h
    have := cells_at t n v g h
    rw [show (n + 1) * 2 = n * 2 + 1 + 1 from by omega]
    simpa [cells] using this
theorem bal_le {L : LedS} (h : L.Ok) {i : Nat} (hi : i < 8) : L.bal i + L.locked + L.pout ≤ L.pin ∧ 0 ≤ L.locked := by
  have h0 := h.bal0 0 (by omega); have h1 := h.bal0 1 (by omega); have h2 := h.bal0 2 (by omega); have h3 := h.bal0 3 (by omega)
  have h4 := h.bal0 4 (by omega); have h5 := h.bal0 5 (by omega); have h6 := h.bal0 6 (by omega); have h7 := h.bal0 7 (by omega)
  have hs := h.sum
  have hl := h.lock
  have hg := openSum_ge _ h.bond0
  have hc : i = 0 ∨ i = 1 ∨ i = 2 ∨ i = 3 ∨ i = 4 ∨ i = 5 ∨ i = 6 ∨ i = 7 := by omega
  rcases hc with rfl | rfl | rfl | rfl | rfl | rfl | rfl | rfl <;> constructor <;> omega
theorem sum_put (f : Nat → Int) {i : Nat} (hi : i < 8) (x : Int) : put f i x 0 + put f i x 1 + put f i x 2 + put f i x 3 + put f i x 4 + put f i x 5 + put f i x 6 + put f i x 7 = f 0 + f 1 + f 2 + f 3 + f 4 + f 5 + f 6 + f 7 - f i + x := by
  have hc : i = 0 ∨ i = 1 ∨ i = 2 ∨ i = 3 ∨ i = 4 ∨ i = 5 ∨ i = 6 ∨ i = 7 := by omega
  rcases hc with rfl | rfl | rfl | rfl | rfl | rfl | rfl | rfl <;> simp [put] <;> omega
theorem init_ok : init.Ok := ⟨fun _ _ => Int.le_refl _, fun x hx => by simp [init] at hx, Int.le_refl _, rfl, rfl, by decide, by decide⟩
theorem payIn_is {L : LedS} (h : L.Ok) {p v : Int} (hv : 0 ≤ v) : (payIn L p v).2.Ok := by
  unfold payIn
  split
  · exact h
  · split
    · exact h
    · rename_i hp hq
      have hi : p.toNat < 8 := by omega
      have hb := h.bal0 _ hi
      refine ⟨fun i hi' => ?_, h.bond0, h.pout0, h.lock, ?_, by show L.pin + v ≤ _; omega, h.len⟩
      · show 0 ≤ put L.bal p.toNat _ i
        unfold put; split
        · omega
        · exact h.bal0 i hi'
      · have := sum_put L.bal hi (L.bal p.toNat + v)
        have hs := h.sum
        show put _ _ _ 0 + put _ _ _ 1 + put _ _ _ 2 + put _ _ _ 3 + put _ _ _ 4 + put _ _ _ 5 + put _ _ _ 6 + put _ _ _ 7 + L.locked + L.pout = L.pin + v
        rw [this]; omega
theorem payOut_is {L : LedS} (h : L.Ok) {p v : Int} (hv : 0 ≤ v) : (payOut L p v).2.Ok := by
  unfold payOut
  split
  · exact h
  · split
    · exact h
    · rename_i hp hq
      have hi : p.toNat < 8 := by omega
      have h0 := h.pout0
      refine ⟨fun i hi' => ?_, h.bond0, by show 0 ≤ L.pout + v; omega, h.lock, ?_, h.most, h.len⟩
      · show 0 ≤ put L.bal p.toNat _ i
        unfold put; split
        · omega
        · exact h.bal0 i hi'
      · have := sum_put L.bal hi (L.bal p.toNat - v)
        have hs := h.sum
        show put _ _ _ 0 + put _ _ _ 1 + put _ _ _ 2 + put _ _ _ 3 + put _ _ _ 4 + put _ _ _ 5 + put _ _ _ 6 + put _ _ _ 7 + L.locked + (L.pout + v) = L.pin
        rw [this]; omega
theorem lock_is {L : LedS} (h : L.Ok) {p v : Int} (hv : 0 ≤ v) : (lockB L p v).2.Ok := by
  unfold lockB
  split
  · exact h
  · split
    · exact h
    · split
      · exact h
      · rename_i hp hq hl
        have hi : p.toNat < 8 := by omega
        refine ⟨fun i hi' => ?_, fun x hx => ?_, h.pout0, ?_, ?_, h.most, ?_⟩
        · show 0 ≤ put L.bal p.toNat _ i
          unfold put; split
          · omega
          · exact h.bal0 i hi'
        · have hx' : x ∈ L.bonds ++ [(v, false)] := hx
          rw [List.mem_append] at hx'
          rcases hx' with hx' | hx'
          · exact h.bond0 x hx'
          · simp at hx'; subst hx'; exact hv
        · show L.locked + v = openSum (L.bonds ++ [(v, false)])
          rw [openSum_append, h.lock]
        · have := sum_put L.bal hi (L.bal p.toNat - v)
          have hs := h.sum
          show put _ _ _ 0 + put _ _ _ 1 + put _ _ _ 2 + put _ _ _ 3 + put _ _ _ 4 + put _ _ _ 5 + put _ _ _ 6 + put _ _ _ 7 + (L.locked + v) + L.pout = L.pin
          rw [this]; omega
        · show (L.bonds ++ [(v, false)]).length ≤ 65536
          rw [List.length_append, List.length_singleton]; omega
theorem give_is {L : LedS} (h : L.Ok) {n p : Int} : (give L n p).2.Ok := by
  unfold give
  split
  · exact h
  · split
    · exact h
    · split
      · exact h
      · split
        · exact h
        · rename_i hp hq v g hn hg
          have hg' : g = false := by simpa using hg
          subst hg'
          have hi : p.toNat < 8 := by omega
          have hv := h.bond0 _ (List.mem_of_getElem? hn)
          refine ⟨fun i hi' => ?_, fun x hx => ?_, h.pout0, ?_, ?_, h.most, ?_⟩
          · show 0 ≤ put L.bal p.toNat _ i
            have hb := h.bal0 _ hi
            unfold put; split
            · simp at hv; omega
            · exact h.bal0 i hi'
          · have hx' : x ∈ L.bonds.set n.toNat (v, true) := hx
            rcases List.mem_or_eq_of_mem_set hx' with hx' | rfl
            · exact h.bond0 x hx'
            · exact hv
          · show L.locked - v = openSum (L.bonds.set n.toNat (v, true))
            rw [openSum_set _ _ _ hn, h.lock]
          · have := sum_put L.bal hi (L.bal p.toNat + v)
            have hs := h.sum
            show put _ _ _ 0 + put _ _ _ 1 + put _ _ _ 2 + put _ _ _ 3 + put _ _ _ 4 + put _ _ _ 5 + put _ _ _ 6 + put _ _ _ 7 + (L.locked - v) + L.pout = L.pin
            rw [this]; omega
          · show (L.bonds.set _ _).length ≤ 65536
            rw [List.length_set]; exact h.len
end LedS
end Go.Proofs.YtnaamljflcgepaaGreatDoor
namespace Go.Proofs.YtnaamljflcgepaaGreatDoor
open Go.RowKit
set_option linter.unusedVariables false
/-- An error by its number; 0: none. -/
def errV (n : Int) : Value := if n = 0 then .nilIface else .iface 55 (.int .i64 n)
structure IsMem (w : World) (b : Nat) (L : LedS) : Prop where
  bal : ∀ i, i < 8 → w.cell? ⟨b, i, none⟩ = some (.int .u64 (L.bal i))
  row : ∃ V, w.cell? ⟨b, 8, none⟩ = some V ∧ w.ownsRow (b + 1) 97 2 V L.bonds.length (LedS.cells L.bonds)
  pin : w.cell? ⟨b, 9, none⟩ = some (.int .u64 L.pin)
  pout : w.cell? ⟨b, 10, none⟩ = some (.int .u64 L.pout)
  locked : w.cell? ⟨b, 11, none⟩ = some (.int .u64 L.locked)
  fz : ∀ o, w.frozen? ⟨b, o, none⟩ = false
structure IsLed (w : World) (b : Nat) (L : LedS) : Prop extends IsMem w b L where
  ok : L.Ok
def OwnL (w : World) (b : Nat) (k : Nat) : Prop := k = b ∨ ∃ V, w.cell? ⟨b, 8, none⟩ = some V ∧ V.ownBlock = some k
structure Moves (b : Nat) (w w' : World) : Prop where
  kept : Kept (OwnL w b) w w'
  own : ∀ k, OwnL w' b k → OwnL w b k ∨ w.heap.size ≤ k
namespace Led
theorem own_ge {w : World} {b : Nat} {L : LedS} (h : IsLed w b L) : ∀ k, OwnL w b k → b ≤ k ∧ k < w.heap.size := by
  intro k hk
  obtain ⟨V, hV, hr⟩ := h.row
  rcases hk with rfl | ⟨V', hV', hk⟩
  · exact ⟨Nat.le_refl _, inHeap hV⟩
  · rw [hV] at hV'; injection hV' with e; subst e
    have := hr.lt k hk
    omega
theorem moves_refl (b : Nat) (w : World) : Moves b w w := ⟨Kept.refl _ _, fun _ h => .inl h⟩
theorem moves_trans {b : Nat} {x y z : World} (h : Moves b x y) (k : Moves b y z) : Moves b x z :=
  ⟨h.kept.trans k.kept (fun i hi ho => (h.own i ho).resolve_right (by omega)), fun i ho => by
    rcases k.own i ho with ho | ho
    · exact h.own i ho
    · exact .inr (Nat.le_trans h.kept.size ho)⟩
theorem moves_drewN {b : Nat} {x y : World} (h : Moves b x y) (n : Nat) : Moves b x (y.drewN n) := ⟨h.kept.drewN n, h.own⟩
theorem is_drewN {b : Nat} {x : World} {L : LedS} (h : IsLed x b L) (n : Nat) : IsLed (x.drewN n) b L := ⟨⟨h.bal, h.row, h.pin, h.pout, h.locked, h.fz⟩, h.ok⟩
/-- Two cells of the ledger's own block written: a balance, and one of the counts. -/
theorem is_put {w : World} {b : Nat} {L : LedS} (h : IsMem w b L) (i : Nat) (hi : i < 8) (x : Int) (o : Nat) (ho : o = 9 ∨ o = 10 ∨ o = 11) (y : Int) (L' : LedS) (hbal : L'.bal = LedS.put L.bal i x) (hbonds : L'.bonds = L.bonds)
    (h9 : L'.pin = if o = 9 then y else L.pin) (h10 : L'.pout = if o = 10 then y else L.pout) (h11 : L'.locked = if o = 11 then y else L.locked) (w' : World) (hw : w' = (w.setCell ⟨b, i, none⟩ (.int .u64 x)).setCell ⟨b, o, none⟩ (.int .u64 y)) :
    IsMem w' b L' ∧ Moves b w w' := by
  subst hw
  have hio : i ≠ o := by omega
  have hc : ∀ j v, w.cell? ⟨b, j, none⟩ = some v → j ≠ i → j ≠ o → ((w.setCell ⟨b, i, none⟩ (.int .u64 x)).setCell ⟨b, o, none⟩ (.int .u64 y)).cell? ⟨b, j, none⟩ = some v := by
    intro j v hv h1 h2
    rw [World.cell?_setCell_other _ _ _ _ (by simp <;> omega), World.cell?_setCell_other _ _ _ _ (by simp <;> omega)]; exact hv
  have hi' : ((w.setCell ⟨b, i, none⟩ (.int .u64 x)).setCell ⟨b, o, none⟩ (.int .u64 y)).cell? ⟨b, i, none⟩ = some (.int .u64 x) := by
    rw [World.cell?_setCell_other _ _ _ _ (by simp <;> omega)]; exact World.cell?_setCell_same _ _ _ (h.bal i hi)
  have ho' : ((w.setCell ⟨b, i, none⟩ (.int .u64 x)).setCell ⟨b, o, none⟩ (.int .u64 y)).cell? ⟨b, o, none⟩ = some (.int .u64 y) := by
    have : ∃ v, (w.setCell ⟨b, i, none⟩ (.int .u64 x)).cell? ⟨b, o, none⟩ = some v := by
      rw [World.cell?_setCell_other _ _ _ _ (by simp <;> omega)]
      rcases ho with rfl | rfl | rfl
      · exact ⟨_, h.pin⟩
      · exact ⟨_, h.pout⟩
      · exact ⟨_, h.locked⟩
    obtain ⟨v, hv⟩ := this
    exact World.cell?_setCell_same _ _ _ hv
  obtain ⟨V, hV, hr⟩ := h.row
  refine ⟨⟨fun j hj => ?_, ⟨V, hc 8 V hV (by omega) (by omega), ?_⟩, ?_, ?_, ?_, fun j => by simpa using h.fz j⟩, ⟨?_, fun k hk => .inl ?_⟩⟩
  · rw [hbal]; unfold LedS.put; split
    · rename_i e; subst e; exact hi'
    · rename_i e; exact hc j _ (h.bal j hj) e (by omega)
  · rw [hbonds]; exact ownsRow_setCell_below (ownsRow_setCell_below hr (by simp) _) (by simp) _
  · rw [h9]; split
    · rename_i e; subst e; exact ho'
    · rename_i e; exact hc 9 _ h.pin (by omega) (fun hh => e hh.symm)
  · rw [h10]; split
    · rename_i e; subst e; exact ho'
    · rename_i e; exact hc 10 _ h.pout (by omega) (fun hh => e hh.symm)
  · rw [h11]; split
    · rename_i e; subst e; exact ho'
    · rename_i e; exact hc 11 _ h.locked (by omega) (fun hh => e hh.symm)
  · exact ((Kept.refl _ w).setCell (.inl (.inl rfl)) _).setCell (.inl (.inl rfl)) _
  · rcases hk with hk | ⟨V', hV', hk⟩
    · exact .inl hk
    · rw [hc 8 V hV (by omega) (by omega)] at hV'; injection hV' with e; subst e
      exact .inr ⟨_, hV, hk⟩
theorem setCell_comm_ne (w : World) (b i o : Nat) (hne : i ≠ o) (x y : Value) : (w.setCell ⟨b, i, none⟩ x).setCell ⟨b, o, none⟩ y = (w.setCell ⟨b, o, none⟩ y).setCell ⟨b, i, none⟩ x := by
  simp only [World.setCell, World.mk.injEq, and_true]
  apply Array.ext_getElem?
  intro k
  simp only [Array.getElem?_modify]
  split
  · rename_i e; subst e
    cases w.heap[b]? with
    | none => rfl
    | some ob => cases ob with
      | cells c t f =>
        simp
        apply Array.ext_getElem?
        intro k
        simp only [Array.getElem?_setIfInBounds]
        repeat' split
        all_goals first | omega | (simp_all; done) | (simp_all; omega)
      | _ => rfl
  · rfl
theorem payIn_any (b : Nat) (p v : Int) (w : World) (L : LedS) (h : IsLed w b L) (v0 : 0 ≤ v) :
    Calls Tryz.prog 42 #[.pointer (some ⟨b, 0, none⟩), .int .i64 p, .int .u64 v] w fun e w' => e = .returned (errV (L.payIn p v).1) ∧ IsLed w' b (L.payIn p v).2 ∧ Moves b w w' := by
  have ok' := LedS.payIn_is h.ok (p := p) v0
  have hm := h.ok.most
  have hs0 : 0 ≤ L.pin := by
    have := (LedS.bal_le h.ok (i := 0) (by omega)).1; have := (LedS.bal_le h.ok (i := 0) (by omega)).2; have := h.ok.bal0 0 (by omega); have := h.ok.pout0; omega
  unfold LedS.payIn at ok' ⊢
  by_cases hp : p < 0 ∨ 8 ≤ p
  · rw [if_pos hp]
    refine (payIn_bad b p v w hp).mono ?_
    rintro e w' ⟨rfl, n, rfl⟩
    exact ⟨rfl, is_drewN h n, moves_drewN (moves_refl _ _) n⟩
  · rw [if_neg hp] at ok' ⊢
    by_cases hq : 281474976710656 < L.pin + v
    · rw [if_pos hq]
      refine (payIn_more b p v L.pin w (by omega) (by omega) hs0 hm hq h.pin).mono ?_
      rintro e w' ⟨rfl, n, rfl⟩
      exact ⟨rfl, is_drewN h n, moves_drewN (moves_refl _ _) n⟩
    · rw [if_neg hq] at ok' ⊢
      have hi : p.toNat < 8 := by omega
      have hb := LedS.bal_le h.ok hi
      have := h.ok.pout0
      refine (payIn_ok b p v L.pin (L.bal p.toNat) w (by omega) (by omega) v0 hs0 (by omega) (h.ok.bal0 _ hi) (by omega) h.pin h.fz (h.bal _ hi)).mono ?_
      rintro e w' ⟨rfl, n, rfl⟩
      have hw := setCell_comm_ne w b 9 p.toNat (by omega) (.int .u64 (L.pin + v)) (.int .u64 (L.bal p.toNat + v))
      obtain ⟨h1, h2⟩ := is_put h.toIsMem p.toNat hi (L.bal p.toNat + v) 9 (.inl rfl) (L.pin + v) { L with bal := LedS.put L.bal p.toNat (L.bal p.toNat + v), pin := L.pin + v } rfl rfl rfl rfl rfl _ hw
      exact ⟨rfl, is_drewN ⟨h1, ok'⟩ n, moves_drewN h2 n⟩
end Led
end Go.Proofs.YtnaamljflcgepaaGreatDoor
namespace Go.Proofs.YtnaamljflcgepaaGreatDoor
open Go.RowKit
set_option linter.unusedVariables false
namespace Led
theorem lock_any (b : Nat) (p v : Int) (w : World) (L : LedS) (h : IsLed w b L) (v0 : 0 ≤ v) :
    Calls Tryz.prog 20 #[.pointer (some ⟨b, 0, none⟩), .int .i64 p, .int .u64 v] w fun e w' => e = .returned (.tuple #[.int .i64 (L.lockN p v), errV (L.lockB p v).1]) ∧ IsLed w' b (L.lockB p v).2 ∧ Moves b w w' := by
  have ok' := LedS.lock_is h.ok (p := p) v0
  have hm := h.ok.most
  unfold LedS.lockN
  unfold LedS.lockB at ok' ⊢
  by_cases hp : p < 0 ∨ 8 ≤ p
  · rw [if_pos hp]
    refine (lock_bad b p v w hp).mono ?_
    rintro e w' ⟨rfl, n, rfl⟩
    exact ⟨rfl, is_drewN h n, moves_drewN (moves_refl _ _) n⟩
  · rw [if_neg hp] at ok' ⊢
    have hi : p.toNat < 8 := by omega
    by_cases hq : L.bal p.toNat < v
    · rw [if_pos hq]
      refine (lock_funds b p v (L.bal p.toNat) w (by omega) (by omega) hq (h.bal _ hi)).mono ?_
      rintro e w' ⟨rfl, n, rfl⟩
      exact ⟨rfl, is_drewN h n, moves_drewN (moves_refl _ _) n⟩
    · rw [if_neg hq] at ok' ⊢
      have hb := LedS.bal_le h.ok hi
      have ho := h.ok.pout0
      obtain ⟨V, hV, hr⟩ := h.row
      by_cases hl : 65536 ≤ (L.bonds.length : Int)
      · rw [if_pos hl]
        obtain ⟨A, c, rfl⟩ : ∃ A c, V = .slice A L.bonds.length c := by
          rcases ownsRow_forms hr with ⟨rfl, h0⟩ | ⟨g, c, rfl, _⟩
          · exact ⟨none, 0, by rw [h0]⟩
          · exact ⟨_, _, rfl⟩
        refine (lock_full b p v (L.bal p.toNat) A L.bonds.length c w (by omega) (by omega) v0 (by omega) (by omega) hl (h.bal _ hi) hV).mono ?_
        rintro e w' ⟨rfl, n, rfl⟩
        exact ⟨rfl, is_drewN h n, moves_drewN (moves_refl _ _) n⟩
      · rw [if_neg hl] at ok' ⊢
        refine (lock_ok b p v (L.bal p.toNat) L.locked V L.bonds.length (LedS.cells L.bonds) w (by omega) (by omega) v0 (by omega) hb.2 (by omega) (by omega) h.fz (h.bal _ hi) hV h.locked hr).mono ?_
        rintro e w' ⟨rfl, V', w1, n, hown, hk, hw0, hw, rfl⟩
        have hbs : b < w.heap.size := inHeap hV
        have hc : ∀ o, w1.cell? ⟨b, o, none⟩ = ((w.setCell ⟨b, p.toNat, none⟩ (.int .u64 (L.bal p.toNat - v))).setCell ⟨b, 11, none⟩ (.int .u64 (L.locked + v))).cell? ⟨b, o, none⟩ := fun o => World.cell?_of_block hw0
        have hfz : ∀ o, w1.frozen? ⟨b, o, none⟩ = false := fun o => (World.frozen?_of_block (w := (w.setCell ⟨b, p.toNat, none⟩ (.int .u64 (L.bal p.toNat - v))).setCell ⟨b, 11, none⟩ (.int .u64 (L.locked + v))) hw0).trans (by simpa using h.fz o)
        have hget : ∀ j u, w.cell? ⟨b, j, none⟩ = some u → j ≠ p.toNat → j ≠ 11 → w1.cell? ⟨b, j, none⟩ = some u := by
          intro j u hu h1 h2
          rw [hc, World.cell?_setCell_other _ _ _ _ (by simp <;> omega), World.cell?_setCell_other _ _ _ _ (by simp <;> omega)]; exact hu
        have hp1 : w1.cell? ⟨b, p.toNat, none⟩ = some (.int .u64 (L.bal p.toNat - v)) := by
          rw [hc, World.cell?_setCell_other _ _ _ _ (by simp <;> omega)]; exact World.cell?_setCell_same _ _ _ (h.bal _ hi)
        have h11w : (w.setCell ⟨b, p.toNat, none⟩ (.int .u64 (L.bal p.toNat - v))).cell? ⟨b, 11, none⟩ = some (.int .u64 L.locked) := by
          rw [World.cell?_setCell_other _ _ _ _ (by simp <;> omega)]; exact h.locked
        have h111 : w1.cell? ⟨b, 11, none⟩ = some (.int .u64 (L.locked + v)) := by
          rw [hc]; exact World.cell?_setCell_same _ _ _ h11w
        have h81 : w1.cell? ⟨b, 8, none⟩ = some V := hget 8 _ hV (by omega) (by omega)
        have hfin : ∀ j u, w1.cell? ⟨b, j, none⟩ = some u → j ≠ 8 → (w1.setCell ⟨b, 8, none⟩ V').cell? ⟨b, j, none⟩ = some u := by
          intro j u hu h1
          rw [World.cell?_setCell_other _ _ _ _ (by simp <;> omega)]; exact hu
        have h8f : (w1.setCell ⟨b, 8, none⟩ V').cell? ⟨b, 8, none⟩ = some V' := World.cell?_setCell_same _ _ _ h81
        have hL : IsMem (w1.setCell ⟨b, 8, none⟩ V') b { L with bal := LedS.put L.bal p.toNat (L.bal p.toNat - v), bonds := L.bonds ++ [(v, false)], locked := L.locked + v } := by
          refine ⟨fun j hj => ?_, ⟨V', h8f, ?_⟩, hfin 9 _ (hget 9 _ h.pin (by omega) (by omega)) (by omega), hfin 10 _ (hget 10 _ h.pout (by omega) (by omega)) (by omega), hfin 11 _ h111 (by omega), fun o => by simpa using hfz o⟩
          · show _ = some (Value.int .u64 (LedS.put L.bal p.toNat (L.bal p.toNat - v) j))
            unfold LedS.put; split
            · rename_i e; subst e; exact hfin _ _ hp1 (by omega)
            · rename_i e; exact hfin _ _ (hget j _ (h.bal j hj) e (by omega)) (by omega)
          · show World.ownsRow _ _ _ _ _ (L.bonds ++ [(v, false)]).length (LedS.cells (L.bonds ++ [(v, false)]))
            rw [List.length_append, LedS.cells_append]
            exact ownsRow_setCell_below hown (by simp) _
        refine ⟨rfl, is_drewN ⟨hL, ok'⟩ n, moves_drewN ⟨?_, fun k hk' => ?_⟩ n⟩
        · refine (hk.mono fun i _ hi => ?_).setCell (.inl (.inl rfl)) _
          rcases hi with hi | hi
          · exact .inl hi
          · exact .inr ⟨V, hV, hi⟩
        · rcases hk' with rfl | ⟨V2, hV2, hk'⟩
          · exact .inl (.inl rfl)
          · rw [h8f] at hV2; injection hV2 with e; subst e
            rcases hw k hk' with h1 | h1
            · exact .inl (.inr ⟨V, hV, h1⟩)
            · exact .inr h1
theorem new_any (w : World) :
    Calls Tryz.prog 41 #[] w fun e w' => e = .returned (.pointer (some ⟨w.heap.size, 0, none⟩)) ∧ IsLed w' w.heap.size LedS.init ∧ Below w.heap.size w w' ∧ (∀ k, OwnL w' w.heap.size k → k = w.heap.size) := by
  refine (new_is w).mono ?_
  rintro e w' ⟨rfl, t, rfl⟩
  refine ⟨rfl, ⟨⟨fun i hi => ?_, ⟨.slice none 0 0, ?_, World.ownsRow_nil _ _ _ _⟩, ?_, ?_, ?_, fun o => by simp⟩, LedS.init_ok⟩, (Below.refl _ _).alloc (Nat.le_refl _) _, ?_⟩
  · have hc : i = 0 ∨ i = 1 ∨ i = 2 ∨ i = 3 ∨ i = 4 ∨ i = 5 ∨ i = 6 ∨ i = 7 := by omega
    rcases hc with rfl | rfl | rfl | rfl | rfl | rfl | rfl | rfl <;> simp [LedS.init]
  · simp
  · simp [LedS.init]
  · simp [LedS.init]
  · simp [LedS.init]
  · rintro k (hk | ⟨V, hV, hk⟩)
    · exact hk
    · simp at hV; subst hV; simp [Value.ownBlock] at hk
end Led
end Go.Proofs.YtnaamljflcgepaaGreatDoor
namespace Go.Proofs.YtnaamljflcgepaaGreatDoor
open Go.RowKit
set_option linter.unusedVariables false
namespace Led
theorem payIn_to (b : Nat) (p v : Int) (w : World) (L L' : LedS) (n : Int) (V : Value) (h : IsLed w b L) (v0 : 0 ≤ v) (hn : L.payIn p v = (n, L')) (hV : errV n = V) :
    Calls Tryz.prog 42 #[.pointer (some ⟨b, 0, none⟩), .int .i64 p, .int .u64 v] w fun e w' => e = .returned V ∧ IsLed w' b L' ∧ Moves b w w' := by
  have := payIn_any b p v w L h v0
  rw [hn] at this; subst hV; exact this
theorem lock_to (b : Nat) (p v : Int) (w : World) (L L' : LedS) (n k : Int) (V : Value) (h : IsLed w b L) (v0 : 0 ≤ v) (hn : L.lockB p v = (n, L')) (hk : L.lockN p v = k) (hV : errV n = V) :
    Calls Tryz.prog 20 #[.pointer (some ⟨b, 0, none⟩), .int .i64 p, .int .u64 v] w fun e w' => e = .returned (.tuple #[.int .i64 k, V]) ∧ IsLed w' b L' ∧ Moves b w w' := by
  have := lock_any b p v w L h v0
  rw [hn, hk] at this; subst hV; exact this
/-- A new ledger's block, under a name. -/
theorem new_at (w : World) :
    Calls Tryz.prog 41 #[] w fun e w' => ∃ b, e = .returned (.pointer (some ⟨b, 0, none⟩)) ∧ IsLed w' b LedS.init ∧ Below w.heap.size w w' ∧ w.heap.size ≤ b ∧ (∀ k, OwnL w' b k → w.heap.size ≤ k) :=
  (new_any w).mono fun e w' ⟨h1, h2, h3, h4⟩ => ⟨_, h1, h2, h3, Nat.le_refl _, fun k hk => by rw [h4 k hk]; exact Nat.le_refl _⟩
/-- What another call does above the ledger leaves the ledger. -/
theorem is_below {b : Nat} {L : LedS} {w w' : World} (h : IsLed w b L) (hb : Below w.heap.size w w') : IsLed w' b L := by
  obtain ⟨V, hV, hr⟩ := h.row
  have hbs : b < w.heap.size := inHeap hV
  refine ⟨⟨fun i hi => keep1 hb (h.bal i hi), ⟨V, keep1 hb hV, ?_⟩, keep1 hb h.pin, keep1 hb h.pout, keep1 hb h.locked, fun o => keepF hb hbs (h.fz o)⟩, h.ok⟩
  exact (Kept.ofBelow (S := fun _ => False) hb).row hr (fun _ _ hf => hf)
theorem moves_of_below {b : Nat} {L : LedS} {w w' : World} (h : IsLed w b L) (hb : Below w.heap.size w w') : Moves b w w' := by
  obtain ⟨V, hV, hr⟩ := h.row
  refine ⟨Kept.ofBelow hb, fun k hk => .inl ?_⟩
  rcases hk with hk | ⟨V', hV', hk⟩
  · exact .inl hk
  · rw [keep1 hb hV] at hV'; injection hV' with e; subst e; exact .inr ⟨_, hV, hk⟩
end Led
end Go.Proofs.YtnaamljflcgepaaGreatDoor
namespace Go.Proofs
open Go.Shelf
def Tryz.lays129_ren : Go.Shelf.Ren := ⟨fun | 129 => 60 | n => n, fun | 53 => 22 | 3 => 3 | 4 => 4 | 46 => 171 | 5 => 5 | 9 => 9 | n => n, fun | n => n⟩
theorem Tryz.lays129 : Go.Proofs.Lays.n129 Tryz.prog Tryz.lays129_ren := {
  mixed := by kernel_rfl
  f129 := Tryz.func60.trans (congrArg some (by kernel_rfl))
  t3 := Tryz.underlying3
  a3 := Tryz.isAgg3
  z3 := Tryz.sizeOf3
  v3 := Tryz.zeroValue3
  t4 := Tryz.underlying4
  a4 := Tryz.isAgg4
  z4 := Tryz.sizeOf4
  v4 := Tryz.zeroValue4
  t5 := Tryz.underlying5
  a5 := Tryz.isAgg5
  z5 := Tryz.sizeOf5
  v5 := Tryz.zeroValue5
  t9 := Tryz.underlying9
  a9 := Tryz.isAgg9
  z9 := Tryz.sizeOf9
  v9 := Tryz.zeroValue9
  t46 := Tryz.underlying171
  a46 := Tryz.isAgg171
  z46 := Tryz.sizeOf171
  v46 := Tryz.zeroValue171
  t53 := Tryz.underlying22
  a53 := Tryz.isAgg22
  z53 := Tryz.sizeOf22
  v53 := Tryz.zeroValue22 }
/-- bits.Len64: "Len64 returns the minimum number of bits required to represent x; the result is 0 for x == 0.": IT RETURNS 'Lib.bitLen x'; the world is as it was. ('h0', 'h1': x is a uint64.) (LAID: no walk: one application.) -/
theorem Tryz.bits_Len64 (x : Int) (w : World) (h0 : 0 ≤ x) (h1 : x ≤ 18446744073709551615) :
    Calls Tryz.prog 60 #[.int .u64 x] w fun e w' => e = .returned (.int .i64 (Lib.bitLen x.toNat)) ∧ w' = w := Any.bits_Len64 Tryz.lays129 x w h0 h1
end Go.Proofs
namespace Go.Proofs.YtnaamljflcgepaaGreatDoor
open Go.RowKit
namespace Pos

theorem p2_pos (n : Nat) : (0 : Int) < 2 ^ n := Int.pow_pos (by decide)
theorem p2_nat (d k : Nat) (h1 : d ≤ k) : (2 : Int) ^ d ≤ 2 ^ k := by
  have h2 : ((2 ^ d : Nat) : Int) ≤ ((2 ^ k : Nat) : Int) := by exact_mod_cast Nat.pow_le_pow_right (by decide) h1
  simpa using h2
theorem p2_le (d : Int) (h1 : d ≤ 24) : (2 : Int) ^ d.toNat ≤ 16777216 := by
  have := p2_nat d.toNat 24 (by omega)
  simpa using this
theorem p2_succ (d : Int) (h0 : 0 ≤ d) : (2 : Int) ^ (d + 1).toNat = 2 * 2 ^ d.toNat := by
  rw [show (d + 1).toNat = d.toNat + 1 by omega, Int.pow_succ]; omega
theorem len_of (p d i : Int) (h0 : 0 ≤ d) (h1 : d ≤ 24) (i0 : 0 ≤ i) (i1 : i < 2 ^ d.toNat) (hp : p = 2 ^ d.toNat + i) : ((Lib.bitLen p.toNat : Nat) : Int) = d + 1 := by
  subst hp
  have e : ((2 ^ d.toNat : Nat) : Int) = (2 : Int) ^ d.toNat := by norm_cast
  have l1 := p2_le d h1
  have h := Lib.bitLen_shift d.toNat ((2 : Int) ^ d.toNat + i).toNat (by omega) (by omega)
  have hq : ((2 : Int) ^ d.toNat + i).toNat / 2 ^ d.toNat = 1 := by
    have hi : ((2 : Int) ^ d.toNat + i).toNat = 2 ^ d.toNat + i.toNat := by omega
    have hl : i.toNat < 2 ^ d.toNat := by omega
    rw [hi, Nat.add_div_left _ (Nat.two_pow_pos _), Nat.div_eq_of_lt hl]
  rw [hq] at h
  have b1 : Lib.bitLen 1 = 1 := by decide +kernel
  rw [b1] at h
  omega

set_option maxHeartbeats 400000 in
theorem make_ok (d i : Int) (w : World) (h0 : 0 ≤ d) (h1 : d ≤ 24) (i0 : 0 ≤ i) (i1 : i < 2 ^ d.toNat) :
    Calls Tryz.prog 19 #[.int .i64 d, .int .u64 i] w fun e w' => e = .returned (.tuple #[.int .u64 (2 ^ d.toNat + i), .nilIface]) ∧ ∃ n, w' = w.drewN n := by
  have a1 := p2_pos d.toNat
  have a2 := p2_le d h1
  go_enter Tryz.func19, Tryz.ntmps19
  go_wp2
  go_ret2
  exact ⟨rfl, by first | exact ⟨0, rfl⟩ | exact ⟨_, rfl⟩⟩
def errV (n : Int) : Value := .iface 55 (.int .i64 n)
theorem parts_ok (p d i : Int) (w : World) (h0 : 0 ≤ d) (h1 : d ≤ 24) (i0 : 0 ≤ i) (i1 : i < 2 ^ d.toNat) (hp : p = 2 ^ d.toNat + i) :
    Calls Tryz.prog 45 #[.int .u64 p] w fun e w' => e = .returned (.tuple #[.int .i64 d, .int .u64 i, .nilIface]) ∧ ∃ n, w' = w.drewN n := by
  have a1 := p2_pos d.toNat
  have a2 := p2_le d h1
  have hl := len_of p d i h0 h1 i0 i1 hp
  have b1 : 0 < p := by omega
  have b2 : p < 33554432 := by omega
  have b3 : 2 ^ d.toNat ≤ p := by omega
  have b8 : (p == 0) = false := by rw [beq_eq_false_iff_ne]; omega
  have b4 : p - 2 ^ d.toNat = i := by omega
  have H4 := Lib.hid b4
  have HL := Lib.hid hl
  clear hl b4 hp i1 i0
  go_enter Tryz.func45, Tryz.ntmps45
  go_wp2_with (go_at_call 60; refine (Tryz.bits_Len64 _ _ (by omega) (by omega)).mono ?_; rintro e w' ⟨rfl, rfl⟩; rw [HL.out])
  go_quiet (fail)
  go_wp2
  go_ret3
  exact ⟨by rw [H4.out]; rfl, by first | exact ⟨0, rfl⟩ | exact ⟨_, rfl⟩⟩
/-- Attack of a position that is not the deepest. -/
theorem attack_ok (p d i : Int) (w : World) (h0 : 0 ≤ d) (h1 : d ≤ 23) (i0 : 0 ≤ i) (i1 : i < 2 ^ d.toNat) (hp : p = 2 ^ d.toNat + i) :
    Calls Tryz.prog 46 #[.int .u64 p] w fun e w' => e = .returned (.tuple #[.int .u64 (2 * p), .nilIface]) ∧ ∃ n, w' = w.drewN n := by
  have a2 := p2_le d (by omega)
  have hs := p2_succ d h0
  have b1 : 2 * i < 2 ^ (d + 1).toNat := by omega
  have b2 : 2 ^ (d + 1).toNat + 2 * i = 2 * p := by omega
  have H1 := Lib.hid b1
  have H2 := Lib.hid b2
  have H3 := Lib.hid hp
  have H4 := Lib.hid i1
  have b5 : i < 16777216 := by omega
  clear b1 b2 hp hs i1 a2
  go_enter Tryz.func46, Tryz.ntmps46
  go_wp2_with fail
  refine (parts_ok p d i _ h0 (by omega) i0 H4.out H3.out).mono ?_
  rintro e w' ⟨rfl, q, rfl⟩
  go_wp2_with fail
  refine (make_ok _ _ _ (by omega) (by omega) (by omega) H1.out).mono ?_
  rintro e w' ⟨rfl, q, rfl⟩
  go_wp2_with fail
  go_ret2
  exact ⟨by rw [H2.out]; rfl, by first | exact ⟨0, rfl⟩ | exact ⟨_, rfl⟩⟩
/-- Defend of a position that is neither the deepest nor the last of its depth. -/
theorem defend_ok (p d i : Int) (w : World) (h0 : 0 ≤ d) (h1 : d ≤ 23) (i0 : 0 ≤ i) (i1 : i + 1 < 2 ^ d.toNat) (hp : p = 2 ^ d.toNat + i) :
    Calls Tryz.prog 47 #[.int .u64 p] w fun e w' => e = .returned (.tuple #[.int .u64 (2 * (p + 1)), .nilIface]) ∧ ∃ n, w' = w.drewN n := by
  have a2 := p2_le d (by omega)
  have hs := p2_succ d h0
  have b1 : 2 * i + 2 < 2 ^ (d + 1).toNat := by omega
  have b2 : 2 ^ (d + 1).toNat + (2 * i + 2) = 2 * (p + 1) := by omega
  have b6 : (i + 1 == 2 ^ d.toNat) = false := by rw [beq_eq_false_iff_ne]; omega
  have b7 : (d == 24) = false := by rw [beq_eq_false_iff_ne]; omega
  have H1 := Lib.hid b1
  have H2 := Lib.hid b2
  have H3 := Lib.hid hp
  have H4 := Lib.hid (show i < 2 ^ d.toNat by omega)
  have b5 : i < 16777216 := by omega
  have a1 := p2_pos d.toNat
  clear b1 b2 hp hs i1
  go_enter Tryz.func47, Tryz.ntmps47
  go_wp2_with fail
  refine (parts_ok p d i _ h0 (by omega) i0 H4.out H3.out).mono ?_
  rintro e w' ⟨rfl, q, rfl⟩
  go_wp2_with fail
  refine (make_ok _ _ _ (by omega) (by omega) (by omega) H1.out).mono ?_
  rintro e w' ⟨rfl, q, rfl⟩
  go_wp2_with fail
  go_ret2
  exact ⟨by rw [H2.out]; rfl, by first | exact ⟨0, rfl⟩ | exact ⟨_, rfl⟩⟩
/-- Defend of the last of its depth. -/
theorem defend_last (p d i : Int) (w : World) (h0 : 0 ≤ d) (h1 : d ≤ 23) (i0 : 0 ≤ i) (i1 : i + 1 = 2 ^ d.toNat) (hp : p = 2 ^ d.toNat + i) :
    Calls Tryz.prog 47 #[.int .u64 p] w fun e w' => e = .returned (.tuple #[.int .u64 0, .iface 55 (.int .i64 45)]) ∧ ∃ n, w' = w.drewN n := by
  have a2 := p2_le d (by omega)
  have b6 : (i + 1 == 2 ^ d.toNat) = true := by rw [beq_iff_eq]; omega
  have b7 : (d == 24) = false := by rw [beq_eq_false_iff_ne]; omega
  have H3 := Lib.hid hp
  have H4 := Lib.hid (show i < 2 ^ d.toNat by omega)
  have b5 : i < 16777216 := by omega
  have a1 := p2_pos d.toNat
  clear hp i1
  go_enter Tryz.func47, Tryz.ntmps47
  go_wp2_with fail
  refine (parts_ok p d i _ h0 (by omega) i0 H4.out H3.out).mono ?_
  rintro e w' ⟨rfl, q, rfl⟩
  go_wp2_with fail
  go_ret2
  exact ⟨rfl, by first | exact ⟨0, rfl⟩ | exact ⟨_, rfl⟩⟩
end Pos

end Go.Proofs.YtnaamljflcgepaaGreatDoor
namespace Go.Proofs.YtnaamljflcgepaaGreatDoor
open Go.RowKit
set_option linter.unusedVariables false
set_option linter.unusedSimpArgs false
section
variable {P : Program}
end
end Go.Proofs.YtnaamljflcgepaaGreatDoor
/-
  min and max of integers, as run equations for the walk. Own work.
-/
namespace Go.Proofs.YtnaamljflcgepaaGreatDoor
namespace Mm
theorem run_min2 {P : Program} {ts : Array TypeId} {t : TypeId} {k : IntKind} (a b : Int) (w : World) :
    (Builtin.min_ ts t #[.int k a, .int k b]).run P w = .ok (.int k (min a b)) w := by
  have e : (if b < a then b else a) = min a b := by split <;> omega
  simp [Builtin.min_, Builtin.min2, e]
theorem run_max4 {P : Program} {ts : Array TypeId} {t : TypeId} {k : IntKind} (a b c d : Int) (w : World) :
    (Builtin.max_ ts t #[.int k a, .int k b, .int k c, .int k d]).run P w = .ok (.int k (max a (max b (max c d)))) w := by
  have e1 : (if b > a then b else a) = max a b := by split <;> omega
  have e2 : (if c > max a b then c else max a b) = max (max a b) c := by split <;> omega
  simp [Builtin.max_, Builtin.max2, e1, e2]
  split <;> omega
end Mm
end Go.Proofs.YtnaamljflcgepaaGreatDoor
