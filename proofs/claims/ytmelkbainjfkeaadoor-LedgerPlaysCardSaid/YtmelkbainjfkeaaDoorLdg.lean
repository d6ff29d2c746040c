/-
  Layer 18: a ledger as a whole: what it holds, what each call makes of it. Own work.
-/
import Derived.Test.YtmelkbainjfkeaaDoorLed9
namespace Go.Proofs.YtmelkbainjfkeaaDoor
open Go.RowKit
set_option linter.unusedVariables false
/-- What a ledger holds. -/
structure LedS where
  bal : Nat → Int
  bonds : List (Int × Bool)
  pin : Int
  pout : Int
  locked : Int
namespace LedS
def openSum : List (Int × Bool) → Int
  | [] => 0
  | x :: t => (if x.2 then 0 else x.1) + openSum t
def cells : List (Int × Bool) → List Value
  | [] => []
  | x :: t => .int .u64 x.1 :: .bool x.2 :: cells t
def put (f : Nat → Int) (i : Nat) (x : Int) : Nat → Int := fun j => if j = i then x else f j
structure Ok (L : LedS) : Prop where
  bal0 : ∀ i, i < 8 → 0 ≤ L.bal i
  bond0 : ∀ x ∈ L.bonds, 0 ≤ x.1
  pout0 : 0 ≤ L.pout
  lock : L.locked = openSum L.bonds
  sum : L.bal 0 + L.bal 1 + L.bal 2 + L.bal 3 + L.bal 4 + L.bal 5 + L.bal 6 + L.bal 7 + L.locked + L.pout = L.pin
  most : L.pin ≤ 281474976710656
  len : L.bonds.length ≤ 65536
def init : LedS := ⟨fun _ => 0, [], 0, 0, 0⟩
/-- The calls: the error's number (0: none), what the ledger holds then. -/
def payIn (L : LedS) (p v : Int) : Int × LedS :=
  if p < 0 ∨ 8 ≤ p then (2, L) else if 281474976710656 < L.pin + v then (2, L)
  else (0, { L with bal := put L.bal p.toNat (L.bal p.toNat + v), pin := L.pin + v })
def payOut (L : LedS) (p v : Int) : Int × LedS :=
  if p < 0 ∨ 8 ≤ p then (2, L) else if L.bal p.toNat < v then (21, L)
  else (0, { L with bal := put L.bal p.toNat (L.bal p.toNat - v), pout := L.pout + v })
def lockB (L : LedS) (p v : Int) : Int × LedS :=
  if p < 0 ∨ 8 ≤ p then (2, L) else if L.bal p.toNat < v then (21, L) else if 65536 ≤ (L.bonds.length : Int) then (5, L)
  else (0, { L with bal := put L.bal p.toNat (L.bal p.toNat - v), bonds := L.bonds ++ [(v, false)], locked := L.locked + v })
def lockN (L : LedS) (p v : Int) : Int := if (lockB L p v).1 = 0 then L.bonds.length else 0
def give (L : LedS) (n p : Int) : Int × LedS :=
  if p < 0 ∨ 8 ≤ p then (2, L) else if n < 0 ∨ (L.bonds.length : Int) ≤ n then (4, L)
  else match L.bonds[n.toNat]? with
    | none => (4, L)
    | some (v, g) => if g then (41, L) else (0, { L with bal := put L.bal p.toNat (L.bal p.toNat + v), bonds := L.bonds.set n.toNat (v, true), locked := L.locked - v })
theorem openSum_append (l : List (Int × Bool)) (v : Int) : openSum (l ++ [(v, false)]) = openSum l + v := by
  induction l with
  | nil => simp [openSum]
  | cons x t ih => simp only [List.cons_append, openSum, ih]; omega
theorem openSum_set : ∀ (l : List (Int × Bool)) (n : Nat) (v : Int), l[n]? = some (v, false) → openSum (l.set n (v, true)) = openSum l - v
  | [], n, v, h => by simp at h
  | x :: t, 0, v, h => by simp at h; subst h; simp [openSum]; omega
  | x :: t, n + 1, v, h => by simp at h; simp only [List.set, openSum, openSum_set t n v h]; omega
theorem openSum_ge : ∀ (l : List (Int × Bool)), (∀ x ∈ l, 0 ≤ x.1) → 0 ≤ openSum l
  | [], _ => by simp [openSum]
  | x :: t, h => by
    have h1 := openSum_ge t (fun y hy => h y (List.mem_cons_of_mem _ hy))
    have h2 := h x (List.mem_cons_self ..)
    simp only [openSum]; split <;> omega
theorem openSum_at : ∀ (l : List (Int × Bool)) (n : Nat) (v : Int), (∀ x ∈ l, 0 ≤ x.1) → l[n]? = some (v, false) → v ≤ openSum l
  | [], n, v, _, h => by simp at h
  | x :: t, 0, v, hh, h => by
    simp at h; subst h
    have h1 := openSum_ge t (fun y hy => hh y (List.mem_cons_of_mem _ hy))
    simp [openSum]; omega
  | x :: t, n + 1, v, hh, h => by
    simp at h
    have h1 := openSum_at t n v (fun y hy => hh y (List.mem_cons_of_mem _ hy)) h
    have h2 := hh x (List.mem_cons_self ..)
    simp only [openSum]; split <;> omega
theorem cells_append (l : List (Int × Bool)) (v : Int) (g : Bool) : cells (l ++ [(v, g)]) = cells l ++ [.int .u64 v, .bool g] := by
  induction l with
  | nil => rfl
  | cons x t ih => simp [cells, ih]
theorem cells_len : ∀ (l : List (Int × Bool)), (cells l).length = l.length * 2
  | [] => rfl
  | x :: t => by simp only [cells, List.length_cons, cells_len t]; omega
theorem cells_at : ∀ (l : List (Int × Bool)) (n : Nat) (v : Int) (g : Bool), l[n]? = some (v, g) → (cells l)[n * 2]? = some (.int .u64 v) ∧ (cells l)[n * 2 + 1]? = some (.bool g)
  | [], n, v, g, h => by simp at h
  | x :: t, 0, v, g, h => by simp at h; subst h; exact ⟨rfl, rfl⟩
  | x :: t, n + 1, v, g, h => by
    simp at h
    have := cells_at t n v g h
    rw [show (n + 1) * 2 = n * 2 + 1 + 1 from by omega]
    simpa [cells] using this
theorem cells_set : ∀ (l : List (Int × Bool)) (n : Nat) (v : Int) (g g' : Bool), l[n]? = some (v, g) → (cells l).set (n * 2 + 1) (.bool g') = cells (l.set n (v, g'))
  | [], n, v, g, g', h => by simp at h
  | x :: t, 0, v, g, g', h => by simp at h; subst h; rfl
  | x :: t, n + 1, v, g, g', h => by
    simp at h
    have := cells_set t n v g g' h
    rw [show (n + 1) * 2 + 1 = (n * 2 + 1) + 1 + 1 from by omega]
    simp only [cells, List.set, this]
theorem bal_le {L : LedS} (h : L.Ok) {i : Nat} (hi : i < 8) : L.bal i + L.locked + L.pout ≤ L.pin ∧ 0 ≤ L.locked := by
  have h0 := h.bal0 0 (by omega); have h1 := h.bal0 1 (by omega); have h2 := h.bal0 2 (by omega); have h3 := h.bal0 3 (by omega)
  have h4 := h.bal0 4 (by omega); have h5 := h.bal0 5 (by omega); have h6 := h.bal0 6 (by omega); have h7 := h.bal0 7 (by omega)
  have hs := h.sum
  have hl := h.lock
  have hg := openSum_ge _ h.bond0
  have hc : i = 0 ∨ i = 1 ∨ i = 2 ∨ i = 3 ∨ i = 4 ∨ i = 5 ∨ i = 6 ∨ i = 7 := by omega
  rcases hc with rfl | rfl | rfl | rfl | rfl | rfl | rfl | rfl <;> constructor <;> omega
theorem sum_put (f : Nat → Int) {i : Nat} (hi : i < 8) (x : Int) : put f i x 0 + put f i x 1 + put f i x 2 + put f i x 3 + put f i x 4 + put f i x 5 + put f i x 6 + put f i x 7 = f 0 + f 1 + f 2 + f 3 + f 4 + f 5 + f 6 + f 7 - f i + x := by
  have hc : i = 0 ∨ i = 1 ∨ i = 2 ∨ i = 3 ∨ i = 4 ∨ i = 5 ∨ i = 6 ∨ i = 7 := by omega
  rcases hc with rfl | rfl | rfl | rfl | rfl | rfl | rfl | rfl <;> simp [put] <;> omega
theorem init_ok : init.Ok := ⟨fun _ _ => Int.le_refl _, fun x hx => by simp [init] at hx, Int.le_refl _, rfl, rfl, by decide, by decide⟩
theorem payIn_is {L : LedS} (h : L.Ok) {p v : Int} (hv : 0 ≤ v) : (payIn L p v).2.Ok := by
  unfold payIn
  split
  · exact h
  · split
    · exact h
    · rename_i hp hq
      have hi : p.toNat < 8 := by omega
      have hb := h.bal0 _ hi
      refine ⟨fun i hi' => ?_, h.bond0, h.pout0, h.lock, ?_, by show L.pin + v ≤ _; omega, h.len⟩
      · show 0 ≤ put L.bal p.toNat _ i
        unfold put; split
        · omega
        · exact h.bal0 i hi'
      · have := sum_put L.bal hi (L.bal p.toNat + v)
        have hs := h.sum
        show put _ _ _ 0 + put _ _ _ 1 + put _ _ _ 2 + put _ _ _ 3 + put _ _ _ 4 + put _ _ _ 5 + put _ _ _ 6 + put _ _ _ 7 + L.locked + L.pout = L.pin + v
        rw [this]; omega
theorem payOut_is {L : LedS} (h : L.Ok) {p v : Int} (hv : 0 ≤ v) : (payOut L p v).2.Ok := by
  unfold payOut
  split
  · exact h
  · split
    · exact h
    · rename_i hp hq
      have hi : p.toNat < 8 := by omega
      have h0 := h.pout0
      refine ⟨fun i hi' => ?_, h.bond0, by show 0 ≤ L.pout + v; omega, h.lock, ?_, h.most, h.len⟩
      · show 0 ≤ put L.bal p.toNat _ i
        unfold put; split
        · omega
        · exact h.bal0 i hi'
      · have := sum_put L.bal hi (L.bal p.toNat - v)
        have hs := h.sum
        show put _ _ _ 0 + put _ _ _ 1 + put _ _ _ 2 + put _ _ _ 3 + put _ _ _ 4 + put _ _ _ 5 + put _ _ _ 6 + put _ _ _ 7 + L.locked + (L.pout + v) = L.pin
        rw [this]; omega
theorem lock_is {L : LedS} (h : L.Ok) {p v : Int} (hv : 0 ≤ v) : (lockB L p v).2.Ok := by
  unfold lockB
  split
  · exact h
  · split
    · exact h
    · split
      · exact h
      · rename_i hp hq hl
        have hi : p.toNat < 8 := by omega
        refine ⟨fun i hi' => ?_, fun x hx => ?_, h.pout0, ?_, ?_, h.most, ?_⟩
        · show 0 ≤ put L.bal p.toNat _ i
          unfold put; split
          · omega
          · exact h.bal0 i hi'
        · have hx' : x ∈ L.bonds ++ [(v, false)] := hx
          rw [List.mem_append] at hx'
          rcases hx' with hx' | hx'
          · exact h.bond0 x hx'
          · simp at hx'; subst hx'; exact hv
        · show L.locked + v = openSum (L.bonds ++ [(v, false)])
          rw [openSum_append, h.lock]
        · have := sum_put L.bal hi (L.bal p.toNat - v)
          have hs := h.sum
          show put _ _ _ 0 + put _ _ _ 1 + put _ _ _ 2 + put _ _ _ 3 + put _ _ _ 4 + put _ _ _ 5 + put _ _ _ 6 + put _ _ _ 7 + (L.locked + v) + L.pout = L.pin
          rw [this]; omega
        · show (L.bonds ++ [(v, false)]).length ≤ 65536
          rw [List.length_append, List.length_singleton]; omega
theorem give_is {L : LedS} (h : L.Ok) {n p : Int} : (give L n p).2.Ok := by
  unfold give
  split
  · exact h
  · split
    · exact h
    · split
      · exact h
      · split
        · exact h
        · rename_i hp hq v g hn hg
          have hg' : g = false := by simpa using hg
          subst hg'
          have hi : p.toNat < 8 := by omega
          have hv := h.bond0 _ (List.mem_of_getElem? hn)
          refine ⟨fun i hi' => ?_, fun x hx => ?_, h.pout0, ?_, ?_, h.most, ?_⟩
          · show 0 ≤ put L.bal p.toNat _ i
            have hb := h.bal0 _ hi
            unfold put; split
            · simp at hv; omega
            · exact h.bal0 i hi'
          · have hx' : x ∈ L.bonds.set n.toNat (v, true) := hx
            rcases List.mem_or_eq_of_mem_set hx' with hx' | rfl
            · exact h.bond0 x hx'
            · exact hv
          · show L.locked - v = openSum (L.bonds.set n.toNat (v, true))
            rw [openSum_set _ _ _ hn, h.lock]
          · have := sum_put L.bal hi (L.bal p.toNat + v)
            have hs := h.sum
            show put _ _ _ 0 + put _ _ _ 1 + put _ _ _ 2 + put _ _ _ 3 + put _ _ _ 4 + put _ _ _ 5 + put _ _ _ 6 + put _ _ _ 7 + (L.locked - v) + L.pout = L.pin
            rw [this]; omega
          · show (L.bonds.set _ _).length ≤ 65536
            rw [List.length_set]; exact h.len
end LedS
end Go.Proofs.YtmelkbainjfkeaaDoor
