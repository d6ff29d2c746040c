/- Merged of LdgR LdgQ LdgD. Own work. -/
import Derived.Test.YtnaamljflcgepaaGreatDoorP02
import Derived.Test.YtnaamljflcgepaaGreatDoorP03
import Derived.LoopTactic
import Derived.Outline
import Derived.RegionTactic
import Derived.Deep.RegionLaw
import Derived.Deep.Cut
namespace Go.Proofs.YtnaamljflcgepaaGreatDoor
open Go.RowKit
set_option linter.unusedVariables false
structure Ev where
  k : Int
  p : Int
  b : Int
  v : Int
namespace Ev
def cells : List Ev → List Value
  | [] => []
  | x :: t => .int .i64 x.k :: .int .i64 x.p :: .int .i64 x.b :: .int .u64 x.v :: cells t
def tot : List Ev → Int
  | [] => 0
  | x :: t => x.v + tot t
def sumF (k p : Int) : List Ev → Int
  | [] => 0
  | x :: t => (if x.k = k ∧ (p < 0 ∨ x.p = p) then x.v else 0) + sumF k p t
theorem cells_len : ∀ l, (cells l).length = l.length * 4
  | [] => rfl
  | x :: t => by simp only [cells, List.length_cons, cells_len t]; omega
theorem cells_app (l : List Ev) (x : Ev) : cells (l ++ [x]) = cells l ++ [.int .i64 x.k, .int .i64 x.p, .int .i64 x.b, .int .u64 x.v] := by
  induction l with
  | nil => rfl
  | cons y t ih => simp [cells, ih]
theorem sumF_app (k p : Int) (l : List Ev) (x : Ev) : sumF k p (l ++ [x]) = sumF k p l + (if x.k = k ∧ (p < 0 ∨ x.p = p) then x.v else 0) := by
  induction l with
  | nil => simp [sumF]
  | cons y t ih => simp only [List.cons_append, sumF, ih]; omega
theorem sumF_bd (k p : Int) : ∀ l : List Ev, (∀ x ∈ l, 0 ≤ x.v) → 0 ≤ sumF k p l ∧ sumF k p l ≤ tot l
  | [], _ => by simp [sumF, tot]
  | x :: t, h => by
    have h1 := sumF_bd k p t (fun y hy => h y (List.mem_cons_of_mem _ hy))
    have h2 := h x (List.mem_cons_self ..)
    simp only [sumF, tot]; split <;> omega
theorem tot_take : ∀ (l : List Ev) (i : Nat), (∀ x ∈ l, 0 ≤ x.v) → tot (l.take i) ≤ tot l
  | [], i, _ => by simp [tot]
  | x :: t, 0, h => by
    have h1 := (sumF_bd 0 0 (x :: t) h)
    simp only [List.take, tot]
    have := (sumF_bd 0 0 (x :: t) h).1; have := (sumF_bd 0 0 (x :: t) h).2
    simp only [tot] at this; omega
  | x :: t, i + 1, h => by
    have h1 := tot_take t i (fun y hy => h y (List.mem_cons_of_mem _ hy))
    simp only [List.take, tot]; omega
theorem take_succ {l : List Ev} {i : Nat} (h : i < l.length) : l.take (i + 1) = l.take i ++ [l[i]] := by
  rw [List.take_succ_eq_append_getElem h]
theorem cells_at : ∀ (l : List Ev) (i : Nat) (h : i < l.length), (cells l)[i * 4]? = some (.int .i64 l[i].k) ∧ (cells l)[i * 4 + 1]? = some (.int .i64 l[i].p) ∧ (cells l)[i * 4 + 2]? = some (.int .i64 l[i].b) ∧ (cells l)[i * 4 + 3]? = some (.int .u64 l[i].v)
  | x :: t, 0, h => ⟨rfl, rfl, rfl, rfl⟩
  | x :: t, i + 1, h => by
    have := cells_at t i (by simpa using h)
    refine ⟨?_, ?_, ?_, ?_⟩
    · rw [show (i + 1) * 4 = i * 4 + 1 + 1 + 1 + 1 from by omega]; exact this.1
    · rw [show (i + 1) * 4 + 1 = (i * 4 + 1) + 1 + 1 + 1 + 1 from by omega]; exact this.2.1
    · rw [show (i + 1) * 4 + 2 = (i * 4 + 2) + 1 + 1 + 1 + 1 from by omega]; exact this.2.2.1
    · rw [show (i + 1) * 4 + 3 = (i * 4 + 3) + 1 + 1 + 1 + 1 from by omega]; exact this.2.2.2
/-- What the search through the events finds: how many locked, the amount of bond b, whether it was given. -/
def step (b : Int) (s : Nat × Int × Bool) (x : Ev) : Nat × Int × Bool :=
  (if x.k = 3 then s.1 + 1 else s.1, if x.k = 3 ∧ (s.1 : Int) = b then x.v else s.2.1, s.2.2 || (decide (x.k = 4) && decide (x.b = b)))
def scan (b : Int) (l : List Ev) : Nat × Int × Bool := l.foldl (step b) (0, 0, false)
theorem scan_app (b : Int) (l : List Ev) (x : Ev) : scan b (l ++ [x]) = step b (scan b l) x := by
  unfold scan; rw [List.foldl_append]; rfl
/-- The list answers for the ledger. -/
structure Rel (L : LedS) (l : List Ev) : Prop where
  bal : ∀ i : Nat, i < 8 → L.bal i = sumF 1 i l + sumF 4 i l - sumF 2 i l - sumF 3 i l
  pin : L.pin = sumF 1 (-1) l
  pout : L.pout = sumF 2 (-1) l
  locked : L.locked = sumF 3 (-1) l - sumF 4 (-1) l
  scan : ∀ b : Int, scan b l = (L.bonds.length, if b < 0 then 0 else (L.bonds[b.toNat]?.map Prod.fst).getD 0, if b < 0 then false else (L.bonds[b.toNat]?.map Prod.snd).getD false)
  nn : ∀ x ∈ l, 0 ≤ x.v ∧ x.v ≤ 281474976710656
theorem tot_le : ∀ l : List Ev, (∀ x ∈ l, 0 ≤ x.v ∧ x.v ≤ 281474976710656) → tot l ≤ l.length * 281474976710656
  | [], _ => by simp [tot]
  | x :: t, h => by
    have h1 := tot_le t (fun y hy => h y (List.mem_cons_of_mem _ hy))
    have h2 := h x (List.mem_cons_self ..)
    simp only [tot, List.length_cons]; omega
theorem rel_init : Rel LedS.init [] := by
  refine ⟨fun i _ => rfl, rfl, rfl, rfl, fun b => ?_, fun x hx => by simp at hx⟩
  show (0, (0 : Int), false) = _
  simp [LedS.init]
theorem nn_app {l : List Ev} {x : Ev} (h : ∀ y ∈ l, 0 ≤ y.v ∧ y.v ≤ 281474976710656) (hx : 0 ≤ x.v ∧ x.v ≤ 281474976710656) : ∀ y ∈ l ++ [x], 0 ≤ y.v ∧ y.v ≤ 281474976710656 := by
  intro y hy
  rw [List.mem_append] at hy
  rcases hy with hy | hy
  · exact h y hy
  · simp at hy; subst hy; exact hx
theorem put_at (f : Nat → Int) {p : Int} (h0 : 0 ≤ p) (x : Int) (i : Nat) : LedS.put f p.toNat x i = if (i : Int) = p then x else f i := by
  unfold LedS.put
  by_cases h : i = p.toNat
  · rw [if_pos h, if_pos (by omega)]
  · rw [if_neg h, if_neg (by omega)]
theorem rel_payIn {L L' : LedS} {l : List Ev} (h : Rel L l) {p b v : Int} (v0 : 0 ≤ v) (ok : L.Ok) (e : L.payIn p v = (0, L')) : Rel L' (l ++ [⟨1, p, b, v⟩]) := by
  unfold LedS.payIn at e
  split at e
  · cases e
  · split at e
    · cases e
    · rename_i hp hq
      injection e with _ e; subst e
      have hv : v ≤ 281474976710656 := by have := ok.bal0 0 (by omega); have := LedS.bal_le ok (i := 0) (by omega); have := ok.pout0; omega
      refine ⟨fun i hi => ?_, ?_, ?_, ?_, fun c => ?_, nn_app h.nn ⟨v0, hv⟩⟩
      · show LedS.put _ _ _ i = _
        rw [put_at _ (by omega)]
        simp only [sumF_app]
        have := h.bal i hi
        by_cases e : (i : Int) = p
        · subst e
          simp only [Int.toNat_natCast] at *
          simp; omega
        · rw [if_neg e]
          have e' : ¬ (p = (i : Int)) := fun hh => e hh.symm
          simp [e']; omega
      · show L.pin + v = _
        rw [sumF_app, h.pin]; simp
      · show L.pout = _
        rw [sumF_app, h.pout]; simp
      · show L.locked = _
        rw [sumF_app, sumF_app, h.locked]; simp
      · rw [scan_app, h.scan]; simp [step]
theorem rel_payOut {L L' : LedS} {l : List Ev} (h : Rel L l) {p b v : Int} (v0 : 0 ≤ v) (ok : L.Ok) (e : L.payOut p v = (0, L')) : Rel L' (l ++ [⟨2, p, b, v⟩]) := by
  unfold LedS.payOut at e
  split at e
  · cases e
  · split at e
    · cases e
    · rename_i hp hq
      injection e with _ e; subst e
      have hv : v ≤ 281474976710656 := by have := LedS.bal_le ok (i := p.toNat) (by omega); have := ok.pout0; have := ok.most; omega
      refine ⟨fun i hi => ?_, ?_, ?_, ?_, fun c => ?_, nn_app h.nn ⟨v0, hv⟩⟩
      · show LedS.put _ _ _ i = _
        rw [put_at _ (by omega)]
        simp only [sumF_app]
        have := h.bal i hi
        by_cases e : (i : Int) = p
        · subst e
          simp only [Int.toNat_natCast] at *
          simp; omega
        · rw [if_neg e]
          have e' : ¬ (p = (i : Int)) := fun hh => e hh.symm
          simp [e']; omega
      · show L.pin = _
        rw [sumF_app, h.pin]; simp
      · show L.pout + v = _
        rw [sumF_app, h.pout]; simp
      · show L.locked = _
        rw [sumF_app, sumF_app, h.locked]; simp
      · rw [scan_app, h.scan]; simp [step]
theorem rel_lock {L L' : LedS} {l : List Ev} (h : Rel L l) {p b v : Int} (v0 : 0 ≤ v) (ok : L.Ok) (e : L.lockB p v = (0, L')) : Rel L' (l ++ [⟨3, p, b, v⟩]) := by
  unfold LedS.lockB at e
  split at e
  · cases e
  · split at e
    · cases e
    · split at e
      · cases e
      · rename_i hp hq hl
        injection e with _ e; subst e
        have hv : v ≤ 281474976710656 := by have := LedS.bal_le ok (i := p.toNat) (by omega); have := ok.pout0; have := ok.most; omega
        refine ⟨fun i hi => ?_, ?_, ?_, ?_, fun c => ?_, nn_app h.nn ⟨v0, hv⟩⟩
        · show LedS.put _ _ _ i = _
          rw [put_at _ (by omega)]
          simp only [sumF_app]
          have := h.bal i hi
          by_cases e : (i : Int) = p
          · subst e
            simp only [Int.toNat_natCast] at *
            simp; omega
          · rw [if_neg e]
            have e' : ¬ (p = (i : Int)) := fun hh => e hh.symm
            simp [e']; omega
        · show L.pin = _
          rw [sumF_app, h.pin]; simp
        · show L.pout = _
          rw [sumF_app, h.pout]; simp
        · show L.locked + v = _
          rw [sumF_app, sumF_app, h.locked]; simp; omega
        · rw [scan_app, h.scan]
          show _ = ((L.bonds ++ [(v, false)]).length, if c < 0 then 0 else ((L.bonds ++ [(v, false)])[c.toNat]?.map Prod.fst).getD 0, if c < 0 then false else ((L.bonds ++ [(v, false)])[c.toNat]?.map Prod.snd).getD false)
          by_cases hc : c < 0
          · have : ¬ ((L.bonds.length : Int) = c) := by omega
            simp [step, hc, this]
          · by_cases hce : (L.bonds.length : Int) = c
            · have hct : c.toNat = L.bonds.length := by omega
              simp [step, hce, hct, show ¬ c < 0 from hc]
            · by_cases hlt : c.toNat < L.bonds.length
              · simp [step, hce, hc, List.getElem?_append_left hlt]
              · have hn : (L.bonds ++ [(v, false)])[c.toNat]? = none := by apply List.getElem?_eq_none; simp; omega
                have hn2 : L.bonds[c.toNat]? = none := by apply List.getElem?_eq_none; omega
                simp [step, hce, hc, hn, hn2]
theorem rel_give {L L' : LedS} {l : List Ev} (h : Rel L l) {p n w : Int} (ok : L.Ok) (e : L.give n p = (0, L')) : Rel L' (l ++ [⟨4, p, n, (L.bonds[n.toNat]?.map Prod.fst).getD 0⟩]) := by
  unfold LedS.give at e
  split at e
  · cases e
  · split at e
    · cases e
    · rename_i hp hn
      cases hb : L.bonds[n.toNat]? with
      | none => rw [hb] at e; cases e
      | some x =>
        obtain ⟨v, g⟩ := x
        rw [hb] at e
        cases g with
        | true => cases e
        | false =>
          simp only [Bool.false_eq_true, if_false] at e
          injection e with _ e; subst e
          have hv0 : 0 ≤ v := ok.bond0 _ (List.mem_of_getElem? hb)
          have hv1 : v ≤ 281474976710656 := by
            have := LedS.openSum_at _ _ _ ok.bond0 hb
            have := ok.lock
            have := LedS.bal_le ok (i := 0) (by omega); have := ok.bal0 0 (by omega); have := ok.pout0; have := ok.most; omega
          simp only [Option.map_some, Option.getD_some]
          refine ⟨fun i hi => ?_, ?_, ?_, ?_, fun c => ?_, nn_app h.nn ⟨hv0, hv1⟩⟩
          · show LedS.put _ _ _ i = _
            rw [put_at _ (by omega)]
            simp only [sumF_app]
            have := h.bal i hi
            by_cases e : (i : Int) = p
            · subst e
              simp only [Int.toNat_natCast] at *
              simp; omega
            · rw [if_neg e]
              have e' : ¬ (p = (i : Int)) := fun hh => e hh.symm
              simp [e']; omega
          · show L.pin = _
            rw [sumF_app, h.pin]; simp
          · show L.pout = _
            rw [sumF_app, h.pout]; simp
          · show L.locked - v = _
            rw [sumF_app, sumF_app, h.locked]; simp; omega
          · rw [scan_app, h.scan]
            show _ = ((L.bonds.set n.toNat (v, true)).length, if c < 0 then 0 else ((L.bonds.set n.toNat (v, true))[c.toNat]?.map Prod.fst).getD 0, if c < 0 then false else ((L.bonds.set n.toNat (v, true))[c.toNat]?.map Prod.snd).getD false)
            have hlt : n.toNat < L.bonds.length := by omega
            by_cases hc : c < 0
            · have : ¬ (n = c) := by omega
              simp [step, hc, this]
            · by_cases hce : n = c
              · subst hce
                simp [step, hc, hb, List.getElem?_set_self hlt]
              · have hne : n.toNat ≠ c.toNat := by omega
                simp [step, hc, hce, List.getElem?_set_ne hne]
end Ev
end Go.Proofs.YtnaamljflcgepaaGreatDoor
namespace Go.Proofs.YtnaamljflcgepaaGreatDoor
open Go.RowKit
set_option linter.unusedVariables false
namespace Ev
set_option maxHeartbeats 1000000 in
set_option maxRecDepth 100000 in
theorem sum_is (k p : Int) (l : List Ev) (V : Value) (B : Nat) (w : World) (hown : w.ownsRow B 124 4 V l.length (cells l)) (hl : (l.length : Int) ≤ 1000) (nn : ∀ x ∈ l, 0 ≤ x.v ∧ x.v ≤ 281474976710656) :
    Calls Tryz.prog 54 #[.agg #[V], .int .i64 k, .int .i64 p] w fun e w' => e = .returned (.int .u64 (sumF k p l)) ∧ Below w.heap.size w w' := by
  have hb := sumF_bd k p l (fun x hx => (nn x hx).1)
  have htot := tot_le l nn
  obtain ⟨A, c, rfl⟩ : ∃ A c, V = .slice A l.length c := by
    rcases ownsRow_forms hown with ⟨rfl, h0⟩ | ⟨g, c, rfl, _⟩
    · exact ⟨none, 0, by rw [h0]⟩
    · exact ⟨_, _, rfl⟩
  have HO := Lib.hid hown
  have HN := Lib.hid nn
  have HT := Lib.hid htot
  clear hown nn htot hb
  go_enter Tryz.func54, Tryz.ntmps54
  go_wp2_with fail
  have hbl : Below w.heap.size w (w.alloc (.cells #[.slice A l.length c] 121)) := (Below.refl _ _).alloc (Nat.le_refl _) _
  have ho1 := HO.out.alloc (.cells #[.slice A l.length c] 121)
  have hbx : (w.alloc (.cells #[.slice A l.length c] 121)).cell? ⟨w.heap.size, 0, none⟩ = some (.slice A l.length c) := by simp
  have HO1 := Lib.hid ho1
  have HBL := Lib.hid hbl
  clear ho1 hbl HO
  generalize w.alloc (.cells #[.slice A l.length c] 121) = w1 at *
  generalize hq : w.heap.size = q at *
  have HQ := Lib.hid hq
  clear hq
  go_loop [7, 8] (fun s i => ∃ n : Nat, n ≤ l.length ∧ i = .int .i64 n ∧ s = .int .u64 (sumF k p (l.take n))) (fun _ i => l.length - (intOf i).toNat)
  case atStart => exact ⟨0, Nat.zero_le _, rfl, rfl⟩
  case round =>
    obtain ⟨n, hn, rfl, rfl⟩ := hrel
    by_cases hlt : n < l.length
    · obtain ⟨g, rfl⟩ : ∃ g, A = some ⟨g, 0, none⟩ := by
        rcases ownsRow_forms HO1.out with ⟨_, h0⟩ | ⟨g, c, h1, _⟩
        · omega
        · injection h1 with h1; exact ⟨g, h1⟩
      obtain ⟨c0, c1, c2, c3⟩ := cells_at l n hlt
      have hcl := cells_len l
      have d0 := (HO1.out.cellAt (n * 4) (by omega)).trans c0
      have d1 := (HO1.out.cellAt (n * 4 + 1) (by omega)).trans c1
      have d3 := (HO1.out.cellAt (n * 4 + 3) (by omega)).trans c3
      have HS : Hid (sumF k p (l.take (n + 1)) = sumF k p (l.take n) + if l[n].k = k ∧ (p < 0 ∨ l[n].p = p) then l[n].v else 0) := by rw [take_succ hlt, sumF_app]; rfl
      have hv := HN.out l[n] (List.getElem_mem hlt)
      have hs1 := sumF_bd k p (l.take n) (fun x hx => (HN.out x (List.mem_of_mem_take hx)).1)
      have hs2 := tot_take l n (fun x hx => (HN.out x hx).1)
      have hs3 := HT.out
      have hv0 := hv.1
      have hadd : sumF k p (l.take n) + l[n].v ≤ 18446744073709551615 := by omega
      have hnn := hs1.1
      generalize l[n] = x at *
      clear c0 c1 c2 c3 hcl hs1 hs2 hs3 hv
      generalize sumF k p (l.take n) = S at *
      by_cases hk : x.k = k
      · have hkb : (x.k == k) = true := by simp [hk]
        by_cases hp : p < 0
        · have hs := HS.out.trans (by rw [if_pos ⟨hk, .inl hp⟩])
          have HS2 := Lib.hid hs
          have hpd : decide (p < 0) = true := by simpa using hp
          clear HS hs hk hp
          go_wp2
          all_goals
            go_round
            case rel => exact ⟨n + 1, by omega, by go_num, by rw [HS2.out]⟩
            case measure => simp [intOf]; omega
        · have hpd : decide (p < 0) = false := by simpa using hp
          by_cases hq : x.p = p
          · have hs := HS.out.trans (by rw [if_pos ⟨hk, .inr hq⟩])
            have HS2 := Lib.hid hs
            have hqb : (x.p == p) = true := by simp [hq]
            clear HS hs hk hp hq
            go_wp2
            all_goals
              go_round
              case rel => exact ⟨n + 1, by omega, by go_num, by rw [HS2.out]⟩
              case measure => simp [intOf]; omega
          · have hs := HS.out.trans (by rw [if_neg (by rintro ⟨_, h | h⟩; exact hp h; exact hq h), Int.add_zero])
            have HS2 := Lib.hid hs
            have hqb : (x.p == p) = false := by simp [hq]
            clear HS hs hk hp hq
            go_wp2
            all_goals
              go_round
              case rel => exact ⟨n + 1, by omega, by go_num, by rw [HS2.out]⟩
              case measure => simp [intOf]; omega
      · have hkb : (x.k == k) = false := by simp [hk]
        have hs := HS.out.trans (by rw [if_neg (by rintro ⟨h, _⟩; exact hk h), Int.add_zero])
        have HS2 := Lib.hid hs
        clear HS hs hk
        go_wp2
        all_goals
          go_round
          case rel => exact ⟨n + 1, by omega, by go_num, by rw [HS2.out]⟩
          case measure => simp [intOf]; omega
    · have hnl : l.take n = l := List.take_of_length_le (by omega)
      have HNL := Lib.hid hnl
      clear hnl
      have hge : ¬ ((n : Int) < (l.length : Int)) := by omega
      go_wp2
      go_ret
      exact ⟨by rw [HNL.out]; rfl, by rw [HQ.out]; exact HBL.out⟩
/-- The box of a ledger by value, and its events. -/
def InBox (W : World) (q : Nat) (V : Value) (B : Nat) (l : List Ev) (x : World) : Prop :=
  x.cell? ⟨q, 0, none⟩ = some V ∧ x.ownsRow B 124 4 V l.length (cells l) ∧ Below W.heap.size W x
theorem InBox.next {W : World} {q : Nat} {V : Value} {B : Nat} {l : List Ev} {x y : World} (h : InBox W q V B l x) (hb : Below x.heap.size x y) : InBox W q V B l y :=
  ⟨keep1 hb h.1, (Kept.ofBelow (S := fun _ => False) hb).row h.2.1 (fun _ _ hf => hf), bl h.2.2 hb⟩
theorem sum_q (k p : Int) (l : List Ev) (V : Value) (B q : Nat) (W : World) (hl : (l.length : Int) ≤ 1000) (nn : ∀ x ∈ l, 0 ≤ x.v ∧ x.v ≤ 281474976710656) (s : Wd (InBox W q V B l)) :
    Calls Tryz.prog 54 #[.agg #[V], .int .i64 k, .int .i64 p] s.val fun e w' => e = .returned (.int .u64 (sumF k p l)) ∧ ∃ s' : Wd (InBox W q V B l), w' = s'.val :=
  (sum_is k p l V B s.val s.ok.2.1 hl nn).mono fun e w' ⟨he, hb⟩ => ⟨he, ⟨w', s.ok.next hb⟩, rfl⟩
theorem balance_is (i : Nat) (l : List Ev) (V : Value) (B : Nat) (w : World) (hown : w.ownsRow B 124 4 V l.length (cells l)) (hl : (l.length : Int) ≤ 1000) (nn : ∀ x ∈ l, 0 ≤ x.v ∧ x.v ≤ 281474976710656)
    (h2 : sumF 2 i l ≤ sumF 1 i l + sumF 4 i l) (h3 : sumF 3 i l ≤ sumF 1 i l + sumF 4 i l - sumF 2 i l) :
    Calls Tryz.prog 55 #[.agg #[V], .int .i64 i] w fun e w' => e = .returned (.int .u64 (sumF 1 i l + sumF 4 i l - sumF 2 i l - sumF 3 i l)) ∧ Below w.heap.size w w' := by
  have b1 := sumF_bd 1 i l (fun x hx => (nn x hx).1)
  have b2 := sumF_bd 2 i l (fun x hx => (nn x hx).1)
  have b3 := sumF_bd 3 i l (fun x hx => (nn x hx).1)
  have b4 := sumF_bd 4 i l (fun x hx => (nn x hx).1)
  have htot := tot_le l nn
  have hR : InBox w w.heap.size V B l (w.alloc (.cells #[V] 121)).drew := ⟨by simp, hown.alloc _, ((Below.refl _ _).alloc (Nat.le_refl _) _).drew⟩
  have hcell : ∀ s : Wd (InBox w w.heap.size V B l), s.val.cell? ⟨w.heap.size, 0, none⟩ = some V := fun s => s.ok.1
  have q1 := fun s => sum_q 1 i l V B w.heap.size w hl nn s
  have q2 := fun s => sum_q 2 i l V B w.heap.size w hl nn s
  have q3 := fun s => sum_q 3 i l V B w.heap.size w hl nn s
  have q4 := fun s => sum_q 4 i l V B w.heap.size w hl nn s
  have Q1 := Lib.hid q1
  have Q2 := Lib.hid q2
  have Q3 := Lib.hid q3
  have Q4 := Lib.hid q4
  have HR := Lib.hid hR
  have hw1 : IntKind.u64.wrap (sumF 1 i l + sumF 4 i l) = sumF 1 i l + sumF 4 i l := by simp [IntKind.wrap, IntKind.bits, IntKind.signed]; omega
  have hw2 : IntKind.u64.wrap (sumF 1 i l + sumF 4 i l - sumF 2 i l) = sumF 1 i l + sumF 4 i l - sumF 2 i l := by simp [IntKind.wrap, IntKind.bits, IntKind.signed]; omega
  have hw3 : IntKind.u64.wrap (sumF 1 i l + sumF 4 i l - sumF 2 i l - sumF 3 i l) = sumF 1 i l + sumF 4 i l - sumF 2 i l - sumF 3 i l := by simp [IntKind.wrap, IntKind.bits, IntKind.signed]; omega
  clear hown nn htot q1 q2 q3 q4 hR b1 b2 b3 b4 h2 h3
  generalize sumF 1 i l = s1 at *
  generalize sumF 2 i l = s2 at *
  generalize sumF 3 i l = s3 at *
  generalize sumF 4 i l = s4 at *
  go_enter Tryz.func55, Tryz.ntmps55
  go_wp2_with fail
  have NE : Nonempty (Wd (InBox w w.heap.size V B l)) := ⟨⟨_, HR.out⟩⟩
  refine wp_region_in (InBox w w.heap.size V B l) (by kernel_rfl) (by kernel_rfl) HR.out ?_
  repeat (go_big_quiet_step (first
    | with_reducible exact Q1.out _
    | with_reducible exact Q2.out _
    | with_reducible exact Q3.out _
    | with_reducible exact Q4.out _))
  refine wpQuiet_nil ?_
  rintro _ ⟨s, rfl⟩
  go_wp2_with fail
  go_ret
  exact ⟨rfl, s.ok.2.2⟩
end Ev
end Go.Proofs.YtnaamljflcgepaaGreatDoor
namespace Go.Proofs.YtnaamljflcgepaaGreatDoor
open Go.RowKit
set_option linter.unusedVariables false
namespace Ev
def doN (L : LedS) (x : Ev) : Int := if x.k = 1 then (L.payIn x.p x.v).1 else if x.k = 2 then (L.payOut x.p x.v).1 else if x.k = 3 then (L.lockB x.p x.v).1 else (L.give x.b x.p).1
def doL (L : LedS) (x : Ev) : LedS := if x.k = 1 then (L.payIn x.p x.v).2 else if x.k = 2 then (L.payOut x.p x.v).2 else if x.k = 3 then (L.lockB x.p x.v).2 else (L.give x.b x.p).2
def doR (L : LedS) (x : Ev) : Int := if x.k = 3 then L.lockN x.p x.v else 0
def doX (L : LedS) (x : Ev) : Ev := if x.k = 4 then { x with v := (L.bonds[x.b.toNat]?.map Prod.fst).getD 0 } else x
def doE (L : LedS) (x : Ev) (l : List Ev) : List Ev := if doN L x = 0 then l ++ [doX L x] else l
theorem do_bad {L : LedS} {x : Ev} (h : x.p < 0 ∨ 8 ≤ x.p) : doN L x = 2 ∧ doR L x = 0 := by
  unfold doN doR LedS.lockN LedS.payIn LedS.payOut LedS.lockB LedS.give
  simp only [if_pos h]
  refine ⟨?_, ?_⟩
  · repeat' split
    all_goals rfl
  · split
    · rfl
    · rfl
theorem lockN_of {L : LedS} {p v : Int} (h : (L.lockB p v).1 ≠ 0) : L.lockN p v = 0 := if_neg h
theorem scan_len (b : Int) : ∀ (l : List Ev) (s : Nat × Int × Bool), (l.foldl (step b) s).1 ≤ s.1 + l.length
  | [], s => by simp
  | x :: t, s => by
    have := scan_len b t (step b s x)
    have h2 : (step b s x).1 ≤ s.1 + 1 := by unfold step; dsimp only; split <;> omega
    simp only [List.foldl, List.length_cons]; omega
theorem bonds_len {L : LedS} {l : List Ev} (r : Rel L l) : L.bonds.length ≤ l.length := by
  have h := r.scan 0
  have h2 := scan_len 0 l (0, 0, false)
  unfold scan at h
  rw [h] at h2
  simpa using h2
/-- The document's ledger in memory. -/
structure RefL (w : World) (tb : Nat) (l : List Ev) : Prop where
  row : ∃ V, w.cell? ⟨tb, 0, none⟩ = some V ∧ w.ownsRow (tb + 1) 124 4 V l.length (cells l)
  fz : w.frozen? ⟨tb, 0, none⟩ = false
/-- A world in the midst of Do: the ledger, and the event's own copy at q. -/
structure InDo (W : World) (tb q : Nat) (x : Ev) (l : List Ev) (V : Value) (y : World) : Prop where
  tc : y.cell? ⟨tb, 0, none⟩ = some V
  own : y.ownsRow (tb + 1) 124 4 V l.length (cells l)
  c0 : y.cell? ⟨q, 0, none⟩ = some (.int .i64 x.k)
  c1 : y.cell? ⟨q, 1, none⟩ = some (.int .i64 x.p)
  c2 : y.cell? ⟨q, 2, none⟩ = some (.int .i64 x.b)
  c3 : y.cell? ⟨q, 3, none⟩ = some (.int .u64 x.v)
  ft : y.frozen? ⟨tb, 0, none⟩ = false
  fq : ∀ o, y.frozen? ⟨q, o, none⟩ = false
  below : Below W.heap.size W y
  hq : W.heap.size ≤ q
  ht : tb < W.heap.size
  hv : ∀ k, V.ownBlock = some k → k < W.heap.size
theorem InDo.next {W : World} {tb q : Nat} {x : Ev} {l : List Ev} {V : Value} {y z : World} (h : InDo W tb q x l V y) (hb : Below y.heap.size y z) : InDo W tb q x l V z :=
  ⟨keep1 hb h.tc, (Kept.ofBelow (S := fun _ => False) hb).row h.own (fun _ _ hf => hf), keep1 hb h.c0, keep1 hb h.c1, keep1 hb h.c2, keep1 hb h.c3, keepF hb (inHeap h.tc) h.ft, fun o => keepF hb (inHeap h.c0) (h.fq o), bl h.below hb, h.hq, h.ht, h.hv⟩
theorem InDo.drew {W : World} {tb q : Nat} {x : Ev} {l : List Ev} {V : Value} {y : World} (h : InDo W tb q x l V y) : InDo W tb q x l V y.drew := h.next (Below.refl _ _).drew
theorem InDo.setV {W : World} {tb q : Nat} {x : Ev} {l : List Ev} {V : Value} {y : World} (h : InDo W tb q x l V y) (v : Int) : InDo W tb q { x with v := v } l V (y.setCell ⟨q, 3, none⟩ (.int .u64 v)) := by
  have hne : ∀ k, k < W.heap.size → k ≠ q := fun k hk e => by have := h.hq; omega
  have hc : ∀ k o, k ≠ q → (y.setCell ⟨q, 3, none⟩ (.int .u64 v)).cell? ⟨k, o, none⟩ = y.cell? ⟨k, o, none⟩ := fun k o hk => World.cell?_setCell_other _ _ _ _ (fun e => hk (congrArg Addr.block e).symm)
  have hd : ∀ o, o ≠ 3 → (y.setCell ⟨q, 3, none⟩ (.int .u64 v)).cell? ⟨q, o, none⟩ = y.cell? ⟨q, o, none⟩ := fun o ho => World.cell?_setCell_other _ _ _ _ (fun e => ho (congrArg Addr.off e).symm)
  refine ⟨(hc tb 0 (hne tb h.ht)).trans h.tc, ?_, (hd 0 (by omega)).trans h.c0, (hd 1 (by omega)).trans h.c1, (hd 2 (by omega)).trans h.c2, World.cell?_setCell_same _ _ _ h.c3, by simpa using h.ft, fun o => by simpa using h.fq o, h.below.setCell h.hq _, h.hq, h.ht, h.hv⟩
  exact (Kept.setCell (S := fun k => k = q) (p := ⟨q, 3, none⟩) (Kept.refl _ y) (.inl rfl) _).row h.own (fun k hk e => hne k (h.hv k hk) e)
theorem InDo.moves {W : World} {tb q : Nat} {x : Ev} {l : List Ev} {V : Value} {y : World} (h : InDo W tb q x l V y) (hV : W.cell? ⟨tb, 0, none⟩ = some V) : MovesS tb 0 W y := MovesS.ofBelow hV h.below
theorem InDo.refl' {W : World} {tb q : Nat} {x : Ev} {l : List Ev} {V : Value} {y : World} (h : InDo W tb q x l V y) : RefL y tb l := ⟨⟨V, h.tc, h.own⟩, h.ft⟩
theorem evInfo : (Tryz.prog.info? 124).map (fun i => (i.zero, i.size, i.bytes)) = some (some (.agg #[.int .i64 0, .int .i64 0, .int .i64 0, .int .u64 0]), 4, 32) := by kernel_rfl
theorem four_at {w : World} {n : Nat} (hn : n = w.heap.size) (a b c d : Value) (t : TypeId) : ∀ j u, [a, b, c, d][j]? = some u → (w.alloc (.cells #[a, b, c, d] t)).cell? ((⟨n, 0, none⟩ : Addr).add j) = some u := by
  subst hn
  intro j u hu
  have hj : j = 0 ∨ j = 1 ∨ j = 2 ∨ j = 3 := by
    have : j < 4 := by
      rcases Nat.lt_or_ge j 4 with h | h
      · exact h
      · rw [List.getElem?_eq_none (by simpa using h)] at hu; cases hu
    omega
  rw [add_at]
  rcases hj with rfl | rfl | rfl | rfl <;> simp at hu <;> subst hu <;> simp
/-- Behind the append: the ledger with one event more. -/
theorem InDo.app {W : World} {tb q : Nat} {x : Ev} {l : List Ev} {V V' : Value} {y w1 : World} {t : TypeId} (h : InDo W tb q x l V y) (hV : W.cell? ⟨tb, 0, none⟩ = some V)
    (hown : w1.ownsRow (tb + 1) 124 4 V' (l.length + 1) (cells l ++ [.int .i64 x.k, .int .i64 x.p, .int .i64 x.b, .int .u64 x.v]))
    (hg : (y.alloc (.cells #[.int .i64 x.k, .int .i64 x.p, .int .i64 x.b, .int .u64 x.v] t)).grownBy w1 V.ownBlock)
    (hw : ∀ k, V'.ownBlock = some k → V.ownBlock = some k ∨ k = (y.alloc (.cells #[.int .i64 x.k, .int .i64 x.p, .int .i64 x.b, .int .u64 x.v] t)).heap.size) :
    w1.cell? ⟨tb, 0, none⟩ = some V ∧ w1.frozen? ⟨tb, 0, none⟩ = false ∧ (w1.setCell ⟨tb, 0, none⟩ V').cell? ⟨q, 0, none⟩ = some (.int .i64 x.k) ∧ RefL (w1.setCell ⟨tb, 0, none⟩ V') tb (l ++ [x]) ∧ MovesS tb 0 W (w1.setCell ⟨tb, 0, none⟩ V') := by
  have hty : tb < y.heap.size := inHeap h.tc
  have hlt : tb < (y.alloc (.cells #[.int .i64 x.k, .int .i64 x.p, .int .i64 x.b, .int .u64 x.v] t)).heap.size := by simp; omega
  have hne : V.ownBlock ≠ some tb := fun e => by have := (h.own.lt tb e).1; omega
  have e1 : w1.cell? ⟨tb, 0, none⟩ = some V := (grown_cell hg hlt hne).trans ((World.cell?_alloc_lt _ _ _ hty).trans h.tc)
  have e2 : w1.frozen? ⟨tb, 0, none⟩ = false := (grown_frozen hg hlt hne).trans ((World.frozen?_alloc_old _ _ _ (by show tb ≠ _; omega)).trans h.ft)
  have e3 : (w1.setCell ⟨tb, 0, none⟩ V').cell? ⟨tb, 0, none⟩ = some V' := World.cell?_setCell_same _ _ _ e1
  have K : Kept (OwnS W tb 0) W w1 := ((Kept.ofBelow h.below).alloc _).grown hg (fun k hk => .inl (.inr ⟨V, hV, hk⟩))
  have hqy : q < y.heap.size := inHeap h.c0
  have hqt : tb ≠ q := by have := h.ht; have := h.hq; omega
  have e4 : (w1.setCell ⟨tb, 0, none⟩ V').cell? ⟨q, 0, none⟩ = some (.int .i64 x.k) := by
    rw [World.cell?_setCell_other _ _ _ _ (fun e => hqt (congrArg Addr.block e))]
    exact (grown_cell hg (by simp; omega) (fun e => by have := h.hv q e; have := h.hq; omega)).trans ((World.cell?_alloc_lt _ _ _ hqy).trans h.c0)
  refine ⟨e1, e2, e4, ⟨⟨V', e3, ?_⟩, by simpa using e2⟩, K.setCell (.inl (.inl rfl)) _, fun k hk => ?_⟩
  · rw [List.length_append, cells_app]; exact ownsRow_setCell_below hown (by simp) _
  · rcases hk with hk | ⟨V2, hV2, hk⟩
    · exact .inl (.inl hk)
    · rw [e3] at hV2; injection hV2 with e; subst e
      rcases hw k hk with h1 | h1
      · exact .inl (.inr ⟨V, hV, h1⟩)
      · refine .inr ?_
        have := h.below.size
        rw [h1]; simp; omega
end Ev
end Go.Proofs.YtnaamljflcgepaaGreatDoor
