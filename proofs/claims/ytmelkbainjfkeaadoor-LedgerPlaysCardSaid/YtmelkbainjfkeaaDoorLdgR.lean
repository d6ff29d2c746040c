/-
  Layer 18: the document's list of events: plain facts. Own work.
-/
import Derived.Test.YtmelkbainjfkeaaDoorLdg
import Derived.Test.YtmelkbainjfkeaaDoorQin
namespace Go.Proofs.YtmelkbainjfkeaaDoor
open Go.RowKit
set_option linter.unusedVariables false
structure Ev where
  k : Int
  p : Int
  b : Int
  v : Int
namespace Ev
def cells : List Ev → List Value
  | [] => []
  | x :: t => .int .i64 x.k :: .int .i64 x.p :: .int .i64 x.b :: .int .u64 x.v :: cells t
def tot : List Ev → Int
  | [] => 0
  | x :: t => x.v + tot t
def sumF (k p : Int) : List Ev → Int
  | [] => 0
  | x :: t => (if x.k = k ∧ (p < 0 ∨ x.p = p) then x.v else 0) + sumF k p t
theorem cells_len : ∀ l, (cells l).length = l.length * 4
  | [] => rfl
  | x :: t => by simp only [cells, List.length_cons, cells_len t]; omega
theorem cells_app (l : List Ev) (x : Ev) : cells (l ++ [x]) = cells l ++ [.int .i64 x.k, .int .i64 x.p, .int .i64 x.b, .int .u64 x.v] := by
  induction l with
  | nil => rfl
  | cons y t ih => simp [cells, ih]
theorem tot_app (l : List Ev) (x : Ev) : tot (l ++ [x]) = tot l + x.v := by
  induction l with
  | nil => simp [tot]
  | cons y t ih => simp only [List.cons_append, tot, ih]; omega
theorem sumF_app (k p : Int) (l : List Ev) (x : Ev) : sumF k p (l ++ [x]) = sumF k p l + (if x.k = k ∧ (p < 0 ∨ x.p = p) then x.v else 0) := by
  induction l with
  | nil => simp [sumF]
  | cons y t ih => simp only [List.cons_append, sumF, ih]; omega
theorem sumF_bd (k p : Int) : ∀ l : List Ev, (∀ x ∈ l, 0 ≤ x.v) → 0 ≤ sumF k p l ∧ sumF k p l ≤ tot l
  | [], _ => by simp [sumF, tot]
  | x :: t, h => by
    have h1 := sumF_bd k p t (fun y hy => h y (List.mem_cons_of_mem _ hy))
    have h2 := h x (List.mem_cons_self ..)
    simp only [sumF, tot]; split <;> omega
theorem tot_take : ∀ (l : List Ev) (i : Nat), (∀ x ∈ l, 0 ≤ x.v) → tot (l.take i) ≤ tot l
  | [], i, _ => by simp [tot]
  | x :: t, 0, h => by
    have h1 := (sumF_bd 0 0 (x :: t) h)
    simp only [List.take, tot]
    have := (sumF_bd 0 0 (x :: t) h).1; have := (sumF_bd 0 0 (x :: t) h).2
    simp only [tot] at this; omega
  | x :: t, i + 1, h => by
    have h1 := tot_take t i (fun y hy => h y (List.mem_cons_of_mem _ hy))
    simp only [List.take, tot]; omega
theorem take_succ {l : List Ev} {i : Nat} (h : i < l.length) : l.take (i + 1) = l.take i ++ [l[i]] := by
  rw [List.take_succ_eq_append_getElem h]
theorem cells_at : ∀ (l : List Ev) (i : Nat) (h : i < l.length), (cells l)[i * 4]? = some (.int .i64 l[i].k) ∧ (cells l)[i * 4 + 1]? = some (.int .i64 l[i].p) ∧ (cells l)[i * 4 + 2]? = some (.int .i64 l[i].b) ∧ (cells l)[i * 4 + 3]? = some (.int .u64 l[i].v)
  | x :: t, 0, h => ⟨rfl, rfl, rfl, rfl⟩
  | x :: t, i + 1, h => by
    have := cells_at t i (by simpa using h)
    refine ⟨?_, ?_, ?_, ?_⟩
    · rw [show (i + 1) * 4 = i * 4 + 1 + 1 + 1 + 1 from by omega]; exact this.1
    · rw [show (i + 1) * 4 + 1 = (i * 4 + 1) + 1 + 1 + 1 + 1 from by omega]; exact this.2.1
    · rw [show (i + 1) * 4 + 2 = (i * 4 + 2) + 1 + 1 + 1 + 1 from by omega]; exact this.2.2.1
    · rw [show (i + 1) * 4 + 3 = (i * 4 + 3) + 1 + 1 + 1 + 1 from by omega]; exact this.2.2.2
/-- What the search through the events finds: how many locked, the amount of bond b, whether it was given. -/
def step (b : Int) (s : Nat × Int × Bool) (x : Ev) : Nat × Int × Bool :=
  (if x.k = 3 then s.1 + 1 else s.1, if x.k = 3 ∧ (s.1 : Int) = b then x.v else s.2.1, s.2.2 || (decide (x.k = 4) && decide (x.b = b)))
def scan (b : Int) (l : List Ev) : Nat × Int × Bool := l.foldl (step b) (0, 0, false)
theorem scan_app (b : Int) (l : List Ev) (x : Ev) : scan b (l ++ [x]) = step b (scan b l) x := by
  unfold scan; rw [List.foldl_append]; rfl
/-- The list answers for the ledger. -/
structure Rel (L : LedS) (l : List Ev) : Prop where
  bal : ∀ i : Nat, i < 8 → L.bal i = sumF 1 i l + sumF 4 i l - sumF 2 i l - sumF 3 i l
  pin : L.pin = sumF 1 (-1) l
  pout : L.pout = sumF 2 (-1) l
  locked : L.locked = sumF 3 (-1) l - sumF 4 (-1) l
  scan : ∀ b : Int, scan b l = (L.bonds.length, if b < 0 then 0 else (L.bonds[b.toNat]?.map Prod.fst).getD 0, if b < 0 then false else (L.bonds[b.toNat]?.map Prod.snd).getD false)
  nn : ∀ x ∈ l, 0 ≤ x.v ∧ x.v ≤ 281474976710656
theorem tot_le : ∀ l : List Ev, (∀ x ∈ l, 0 ≤ x.v ∧ x.v ≤ 281474976710656) → tot l ≤ l.length * 281474976710656
  | [], _ => by simp [tot]
  | x :: t, h => by
    have h1 := tot_le t (fun y hy => h y (List.mem_cons_of_mem _ hy))
    have h2 := h x (List.mem_cons_self ..)
    simp only [tot, List.length_cons]; omega
theorem rel_init : Rel LedS.init [] := by
  refine ⟨fun i _ => rfl, rfl, rfl, rfl, fun b => ?_, fun x hx => by simp at hx⟩
  show (0, (0 : Int), false) = _
  simp [LedS.init]
theorem nn_app {l : List Ev} {x : Ev} (h : ∀ y ∈ l, 0 ≤ y.v ∧ y.v ≤ 281474976710656) (hx : 0 ≤ x.v ∧ x.v ≤ 281474976710656) : ∀ y ∈ l ++ [x], 0 ≤ y.v ∧ y.v ≤ 281474976710656 := by
  intro y hy
  rw [List.mem_append] at hy
  rcases hy with hy | hy
  · exact h y hy
  · simp at hy; subst hy; exact hx
theorem put_at (f : Nat → Int) {p : Int} (h0 : 0 ≤ p) (x : Int) (i : Nat) : LedS.put f p.toNat x i = if (i : Int) = p then x else f i := by
  unfold LedS.put
  by_cases h : i = p.toNat
  · rw [if_pos h, if_pos (by omega)]
  · rw [if_neg h, if_neg (by omega)]
theorem rel_payIn {L L' : LedS} {l : List Ev} (h : Rel L l) {p b v : Int} (v0 : 0 ≤ v) (ok : L.Ok) (e : L.payIn p v = (0, L')) : Rel L' (l ++ [⟨1, p, b, v⟩]) := by
  unfold LedS.payIn at e
  split at e
  · cases e
  · split at e
    · cases e
    · rename_i hp hq
      injection e with _ e; subst e
      have hv : v ≤ 281474976710656 := by have := ok.bal0 0 (by omega); have := LedS.bal_le ok (i := 0) (by omega); have := ok.pout0; omega
      refine ⟨fun i hi => ?_, ?_, ?_, ?_, fun c => ?_, nn_app h.nn ⟨v0, hv⟩⟩
      · show LedS.put _ _ _ i = _
        rw [put_at _ (by omega)]
        simp only [sumF_app]
        have := h.bal i hi
        by_cases e : (i : Int) = p
        · subst e
          simp only [Int.toNat_natCast] at *
          simp; omega
        · rw [if_neg e]
          have e' : ¬ (p = (i : Int)) := fun hh => e hh.symm
          simp [e']; omega
      · show L.pin + v = _
        rw [sumF_app, h.pin]; simp
      · show L.pout = _
        rw [sumF_app, h.pout]; simp
      · show L.locked = _
        rw [sumF_app, sumF_app, h.locked]; simp
      · rw [scan_app, h.scan]; simp [step]
theorem rel_payOut {L L' : LedS} {l : List Ev} (h : Rel L l) {p b v : Int} (v0 : 0 ≤ v) (ok : L.Ok) (e : L.payOut p v = (0, L')) : Rel L' (l ++ [⟨2, p, b, v⟩]) := by
  unfold LedS.payOut at e
  split at e
  · cases e
  · split at e
    · cases e
    · rename_i hp hq
      injection e with _ e; subst e
      have hv : v ≤ 281474976710656 := by have := LedS.bal_le ok (i := p.toNat) (by omega); have := ok.pout0; have := ok.most; omega
      refine ⟨fun i hi => ?_, ?_, ?_, ?_, fun c => ?_, nn_app h.nn ⟨v0, hv⟩⟩
      · show LedS.put _ _ _ i = _
        rw [put_at _ (by omega)]
        simp only [sumF_app]
        have := h.bal i hi
        by_cases e : (i : Int) = p
        · subst e
          simp only [Int.toNat_natCast] at *
          simp; omega
        · rw [if_neg e]
          have e' : ¬ (p = (i : Int)) := fun hh => e hh.symm
          simp [e']; omega
      · show L.pin = _
        rw [sumF_app, h.pin]; simp
      · show L.pout + v = _
        rw [sumF_app, h.pout]; simp
      · show L.locked = _
        rw [sumF_app, sumF_app, h.locked]; simp
      · rw [scan_app, h.scan]; simp [step]
theorem rel_lock {L L' : LedS} {l : List Ev} (h : Rel L l) {p b v : Int} (v0 : 0 ≤ v) (ok : L.Ok) (e : L.lockB p v = (0, L')) : Rel L' (l ++ [⟨3, p, b, v⟩]) := by
  unfold LedS.lockB at e
  split at e
  · cases e
  · split at e
    · cases e
    · split at e
      · cases e
      · rename_i hp hq hl
        injection e with _ e; subst e
        have hv : v ≤ 281474976710656 := by have := LedS.bal_le ok (i := p.toNat) (by omega); have := ok.pout0; have := ok.most; omega
        refine ⟨fun i hi => ?_, ?_, ?_, ?_, fun c => ?_, nn_app h.nn ⟨v0, hv⟩⟩
        · show LedS.put _ _ _ i = _
          rw [put_at _ (by omega)]
          simp only [sumF_app]
          have := h.bal i hi
          by_cases e : (i : Int) = p
          · subst e
            simp only [Int.toNat_natCast] at *
            simp; omega
          · rw [if_neg e]
            have e' : ¬ (p = (i : Int)) := fun hh => e hh.symm
            simp [e']; omega
        · show L.pin = _
          rw [sumF_app, h.pin]; simp
        · show L.pout = _
          rw [sumF_app, h.pout]; simp
        · show L.locked + v = _
          rw [sumF_app, sumF_app, h.locked]; simp; omega
        · rw [scan_app, h.scan]
          show _ = ((L.bonds ++ [(v, false)]).length, if c < 0 then 0 else ((L.bonds ++ [(v, false)])[c.toNat]?.map Prod.fst).getD 0, if c < 0 then false else ((L.bonds ++ [(v, false)])[c.toNat]?.map Prod.snd).getD false)
          by_cases hc : c < 0
          · have : ¬ ((L.bonds.length : Int) = c) := by omega
            simp [step, hc, this]
          · by_cases hce : (L.bonds.length : Int) = c
            · have hct : c.toNat = L.bonds.length := by omega
              simp [step, hce, hct, show ¬ c < 0 from hc]
            · by_cases hlt : c.toNat < L.bonds.length
              · simp [step, hce, hc, List.getElem?_append_left hlt]
              · have hn : (L.bonds ++ [(v, false)])[c.toNat]? = none := by apply List.getElem?_eq_none; simp; omega
                have hn2 : L.bonds[c.toNat]? = none := by apply List.getElem?_eq_none; omega
                simp [step, hce, hc, hn, hn2]
theorem rel_give {L L' : LedS} {l : List Ev} (h : Rel L l) {p n w : Int} (ok : L.Ok) (e : L.give n p = (0, L')) : Rel L' (l ++ [⟨4, p, n, (L.bonds[n.toNat]?.map Prod.fst).getD 0⟩]) := by
  unfold LedS.give at e
  split at e
  · cases e
  · split at e
    · cases e
    · rename_i hp hn
      cases hb : L.bonds[n.toNat]? with
      | none => rw [hb] at e; cases e
      | some x =>
        obtain ⟨v, g⟩ := x
        rw [hb] at e
        cases g with
        | true => cases e
        | false =>
          simp only [Bool.false_eq_true, if_false] at e
          injection e with _ e; subst e
          have hv0 : 0 ≤ v := ok.bond0 _ (List.mem_of_getElem? hb)
          have hv1 : v ≤ 281474976710656 := by
            have := LedS.openSum_at _ _ _ ok.bond0 hb
            have := ok.lock
            have := LedS.bal_le ok (i := 0) (by omega); have := ok.bal0 0 (by omega); have := ok.pout0; have := ok.most; omega
          simp only [Option.map_some, Option.getD_some]
          refine ⟨fun i hi => ?_, ?_, ?_, ?_, fun c => ?_, nn_app h.nn ⟨hv0, hv1⟩⟩
          · show LedS.put _ _ _ i = _
            rw [put_at _ (by omega)]
            simp only [sumF_app]
            have := h.bal i hi
            by_cases e : (i : Int) = p
            · subst e
              simp only [Int.toNat_natCast] at *
              simp; omega
            · rw [if_neg e]
              have e' : ¬ (p = (i : Int)) := fun hh => e hh.symm
              simp [e']; omega
          · show L.pin = _
            rw [sumF_app, h.pin]; simp
          · show L.pout = _
            rw [sumF_app, h.pout]; simp
          · show L.locked - v = _
            rw [sumF_app, sumF_app, h.locked]; simp; omega
          · rw [scan_app, h.scan]
            show _ = ((L.bonds.set n.toNat (v, true)).length, if c < 0 then 0 else ((L.bonds.set n.toNat (v, true))[c.toNat]?.map Prod.fst).getD 0, if c < 0 then false else ((L.bonds.set n.toNat (v, true))[c.toNat]?.map Prod.snd).getD false)
            have hlt : n.toNat < L.bonds.length := by omega
            by_cases hc : c < 0
            · have : ¬ (n = c) := by omega
              simp [step, hc, this]
            · by_cases hce : n = c
              · subst hce
                simp [step, hc, hb, List.getElem?_set_self hlt]
              · have hne : n.toNat ≠ c.toNat := by omega
                simp [step, hc, hce, List.getElem?_set_ne hne]
end Ev
end Go.Proofs.YtmelkbainjfkeaaDoor
