/-
  Digests one behind the other in memory. Own work.
-/
import Derived.Test.YtjfpbponjhpdhaaDoorMt
import Derived.Test.YtjfpbponjhpdhaaDoorKept
import Derived.Test.YtjfpbponjhpdhaaDoorApp
import Derived.Test.YtjfpbponjhpdhaaDoorR2
import Derived.Test.YtjfpbponjhpdhaaDoorPis
namespace Go.Proofs.YtjfpbponjhpdhaaDoor
open Go.RowKit
set_option linter.unusedVariables false
section
variable {P : Program}
/-- A load whose value is known, as one operation. -/
theorem wp_loadE {op : Oper} {a : Act} {w : World} {K : Act → World → Prop} {Q : Exit → Act → World → Prop} (ty : TypeId) (x : Operand) (ho : op.op = .load ty x) (p v : Value) (hx : a.eval x = p) (hl : (Instr.loadAt ty p).run P w = .ok v w)
    (h : K (a.put op.dst v) w) : op.wp P a w K Q := by
  unfold Oper.wp execOp
  simp only [ho, hx]
  simp [hl]
  exact h
/-- At the list of a plain region's operations. -/
theorem wpList_loadE {ops : Array Oper} {rest : List Oper} {op : Oper} {a : Act} {w : World} {Q : Exit → Act → World → Prop} (hgd : op.guard = none) (ty : TypeId) (x : Operand) (ho : op.op = .load ty x) (p v : Value) (hx : a.eval x = p) (hl : (Instr.loadAt ty p).run P w = .ok v w)
    (h : wpList P ops Q rest (a.put op.dst v) w) : wpList P ops Q (op :: rest) a w :=
  wpList_plain hgd fun _ hK => wp_loadE ty x ho p v hx hl (hK _ _ h)
/-- A slice of one, made on the spot, whose run is known. -/
theorem wpList_build1 {ops : Array Oper} {rest : List Oper} {op : Oper} {a : Act} {w : World} {Q : Exit → Act → World → Prop} (hgd : op.guard = none) (t : TypeId) (x : Operand) (ho : op.op = .buildSlice t 1 #[(0, x)]) (p v : Value) (hx : a.eval x = p) (w' : World) (hl : (Instr.buildSlice t 1 #[(0, p)]).run P w = .ok v w')
    (h : wpList P ops Q rest (a.put op.dst v) w') : wpList P ops Q (op :: rest) a w :=
  wpList_plain hgd fun _ hK => by
    unfold Oper.wp execOp
    simp only [ho, List.map_toArray, List.map_cons, List.map_nil, hx]
    simp [hl]
    exact hK _ _ h
/-- The same of an operation whose guard is met. -/
theorem wpList_loadG {ops : Array Oper} {rest : List Oper} {op : Oper} {a : Act} {w : World} {Q : Exit → Act → World → Prop} (hw : Region.wanted op (yielded ops a.tmps) = true) (ty : TypeId) (x : Operand) (ho : op.op = .load ty x) (p v : Value) (hx : a.eval x = p) (hl : (Instr.loadAt ty p).run P w = .ok v w)
    (h : wpList P ops Q rest (a.put op.dst v) w) : wpList P ops Q (op :: rest) a w :=
  wpList_step fun K hK => by rw [if_pos hw]; exact wp_loadE ty x ho p v hx hl (hK _ _ h)
end
namespace Mk
open Kc
/-- The value of a digest. -/
def dv (x : Hx) : Value := .agg (tab 32 fun i => bv (x i))
theorem guardE (x y : Operand) (A B : Hx) (u : World) : (eqGuard .eql 42 x y (dv A) (dv B)).run Tryd.prog u = .ok () u := by kernel_rfl
theorem guardN (x y : Operand) (A B : Hx) (u : World) : (eqGuard .neq 42 x y (dv A) (dv B)).run Tryd.prog u = .ok () u := by kernel_rfl
/-- n digests from a place on. -/
def At5 (w : World) (b o n : Nat) (f : Nat → Hx) : Prop := ∀ k j, k < n → j < 32 → w.cell? ⟨b, o + 32 * k + j, none⟩ = some (bv (f k j))
/-- A slice of n digests. -/
def IsHs (w : World) (a : Option Addr) (n : Nat) (f : Nat → Hx) : Prop := n = 0 ∨ ∃ b o, a = some ⟨b, o, none⟩ ∧ At5 w b o n f
theorem At5.keep {w w' : World} {b o n : Nat} {f : Nat → Hx} (h : At5 w b o n f) (hk : ∀ i v, w.cell? ⟨b, i, none⟩ = some v → w'.cell? ⟨b, i, none⟩ = some v) : At5 w' b o n f := fun k j h1 h2 => hk _ _ (h k j h1 h2)
theorem At5.below {w w' : World} {b o n : Nat} {f : Nat → Hx} (h : At5 w b o n f) (hb : Below w.heap.size w w') : At5 w' b o n f := h.keep fun i v hv => keep1 hb hv
theorem At5.less {w : World} {b o n m : Nat} {f : Nat → Hx} (h : At5 w b o n f) (hm : m ≤ n) : At5 w b o m f := fun k j h1 h2 => h k j (by omega) h2
theorem At5.cong {w : World} {b o n : Nat} {f g : Nat → Hx} (h : At5 w b o n f) (e : ∀ k, k < n → f k = g k) : At5 w b o n g := fun k j h1 h2 => by rw [← e k h1]; exact h k j h1 h2
theorem At5.from {w : World} {b o n : Nat} {f : Nat → Hx} (h : At5 w b o n f) (m : Nat) : At5 w b (o + 32 * m) (n - m) fun k => f (m + k) := fun k j h1 h2 => by
  rw [show o + 32 * m + 32 * k + j = o + 32 * (m + k) + j from by omega]; exact h (m + k) j (by omega) h2
theorem IsHs.below {w w' : World} {a : Option Addr} {n : Nat} {f : Nat → Hx} (h : IsHs w a n f) (hb : Below w.heap.size w w') : IsHs w' a n f := by
  rcases h with h | ⟨b, o, h1, h2⟩
  · exact .inl h
  · exact .inr ⟨b, o, h1, h2.below hb⟩
theorem IsHs.drew {w : World} {a : Option Addr} {n : Nat} {f : Nat → Hx} (h : IsHs w a n f) : IsHs w.drew a n f := h
theorem IsHs.less {w : World} {a : Option Addr} {n m : Nat} {f : Nat → Hx} (h : IsHs w a n f) (hm : m ≤ n) : IsHs w a m f := by
  rcases h with h | ⟨b, o, h1, h2⟩
  · exact .inl (by omega)
  · exact .inr ⟨b, o, h1, h2.less hm⟩
theorem IsHs.cong {w : World} {a : Option Addr} {n : Nat} {f g : Nat → Hx} (h : IsHs w a n f) (e : ∀ k, k < n → f k = g k) : IsHs w a n g := by
  rcases h with h | ⟨b, o, h1, h2⟩
  · exact .inl h
  · exact .inr ⟨b, o, h1, h2.cong e⟩
theorem IsHs.at {w : World} {a : Option Addr} {n : Nat} {f : Nat → Hx} (h : IsHs w a n f) {k : Nat} (hk : k < n) : ∃ b o, a = some ⟨b, o, none⟩ ∧ At5 w b o n f := by
  rcases h with h | h
  · omega
  · exact h
theorem infR : (Tryd.prog.info? 41).map (·.size) = some 32 := by kernel_rfl
theorem infHh : (Tryd.prog.info? 42).map (·.size) = some 32 := by kernel_rfl
/-- A digest is loaded, as the one type or as the other. -/
theorem loadH {w : World} {b o n : Nat} {f : Nat → Hx} (h : At5 w b o n f) {k p : Nat} (hk : k < n) (hp : p = o + 32 * k) : (Instr.loadAt 42 (.pointer (some ⟨b, p, none⟩))).run Tryd.prog w = .ok (dv (f k)) w := by
  subst hp
  refine run_loadAt_mid w b (o + 32 * k) _ ((List.range 32).map fun i => bv (f k i)) _ (fun j v hv => ?_) undH rfl (by rw [List.length_map, List.length_range]; exact infHh)
  obtain ⟨hj, rfl⟩ := List.getElem?_eq_some_iff.1 hv
  simp only [List.length_map, List.length_range] at hj
  simpa using h k j hk hj
theorem loadR {w : World} {b o n : Nat} {f : Nat → Hx} (h : At5 w b o n f) {k p : Nat} (hk : k < n) (hp : p = o + 32 * k) : (Instr.loadAt 41 (.pointer (some ⟨b, p, none⟩))).run Tryd.prog w = .ok (dv (f k)) w := by
  subst hp
  refine run_loadAt_mid w b (o + 32 * k) _ ((List.range 32).map fun i => bv (f k i)) _ (fun j v hv => ?_) und26 rfl (by rw [List.length_map, List.length_range]; exact infR)
  obtain ⟨hj, rfl⟩ := List.getElem?_eq_some_iff.1 hv
  simp only [List.length_map, List.length_range] at hj
  simpa using h k j hk hj
/-- The cells of n digests. -/
def flat (n : Nat) (f : Nat → Hx) : List Value := (List.range (32 * n)).map fun i => bv (f (i / 32) (i % 32))
theorem flat_len (n : Nat) (f : Nat → Hx) : (flat n f).length = n * 32 := by simp [flat]; omega
theorem flat_at {n : Nat} {f : Nat → Hx} {k j : Nat} (hk : k < n) (hj : j < 32) : (flat n f)[32 * k + j]? = some (bv (f k j)) := by
  unfold flat
  have h : 32 * k + j < 32 * n := by omega
  simp [h, show (32 * k + j) / 32 = k from by omega, show (32 * k + j) % 32 = j from by omega]
theorem flat_one (n : Nat) (f : Nat → Hx) : ∀ u ∈ flat n f, u.oneCell' = true := by intro u hu; obtain ⟨i, _, rfl⟩ := List.mem_map.1 hu; rfl
theorem flat_cong {n : Nat} {f g : Nat → Hx} (h : ∀ k, k < n → f k = g k) : flat n f = flat n g := by
  unfold flat
  refine List.map_congr_left fun i hi => ?_
  rw [h (i / 32) (by have : i < 32 * n := by simpa using hi
                     omega)]
theorem flat_append (n m : Nat) (f g : Nat → Hx) : flat n f ++ flat m g = flat (n + m) fun k => if k < n then f k else g (k - n) := by
  apply List.ext_getElem?
  intro i
  by_cases h : i < 32 * n
  · rw [List.getElem?_append_left (by rw [flat_len]; omega)]
    unfold flat
    simp [h, show i < 32 * (n + m) from by omega, show i / 32 < n from by omega]
  · rw [List.getElem?_append_right (by rw [flat_len]; omega), flat_len]
    unfold flat
    by_cases h2 : i < 32 * (n + m)
    · simp [h2, show i - n * 32 < 32 * m from by omega, show ¬ i / 32 < n from by omega, show (i - n * 32) / 32 = i / 32 - n from by omega, show (i - n * 32) % 32 = i % 32 from by omega]
    · simp [h2, show ¬ i - n * 32 < 32 * m from by omega]
/-- A row of the call's own that holds n digests, as a slice. -/
theorem hs_of {w : World} {q T : Nat} {V : Value} {n : Nat} {f : Nat → Hx} (h : w.ownsRow q T 32 V n (flat n f)) :
    ∃ a c, V = .slice a n c ∧ IsHs w a n f ∧ (a = none → n = 0 ∧ c = 0) ∧ n ≤ c ∧ c ≤ maxLen ∧ (∀ x, a = some x → x.block < w.heap.size) := by
  obtain ⟨h0, h1⟩ := h
  rcases h1 with ⟨rfl, e⟩ | ⟨g, cap, cur, rfl, hg, hc, hnc, hm, hs, ht⟩
  · have hn : n = 0 := by have := flat_len n f; rw [e] at this; simp at this; omega
    subst hn
    exact ⟨none, 0, rfl, .inl rfl, fun _ => ⟨rfl, rfl⟩, by omega, by decide, fun x hx => by cases hx⟩
  · refine ⟨_, cap, rfl, .inr ⟨g, 0, rfl, fun k j hk hj => ?_⟩, fun h => (by cases h), by omega, hm, fun x hx => by injection hx with hx; subst hx; exact (Array.getElem?_eq_some_iff.1 hc).1⟩
    have e1 : (cur.toList.take (n * 32))[32 * k + j]? = (flat n f)[32 * k + j]? := by rw [ht]
    rw [List.getElem?_take, if_pos (by omega), flat_at hk hj] at e1
    rw [Nat.zero_add, cell_of_row w g (32 * k + j) _ _ _ hc]
    simpa using e1
/-- A slice of digests, as what an append takes in. -/
theorem src_hs {w : World} {a : Option Addr} {n c : Nat} {f : Nat → Hx} (h : IsHs w a n f) (hn : a = none → n = 0 ∧ c = 0) :
    (a = none ∧ n = 0 ∧ c = 0 ∧ flat n f = []) ∨ ∃ ad, a = some ad ∧ (flat n f).length = n * 32 ∧ ∀ j u, (flat n f)[j]? = some u → w.cell? (ad.add j) = some u := by
  cases a with
  | none => obtain ⟨rfl, rfl⟩ := hn rfl; exact .inl ⟨rfl, rfl, rfl, rfl⟩
  | some ad =>
    refine .inr ⟨ad, rfl, flat_len n f, fun j u hu => ?_⟩
    have hj : j < 32 * n := by have := (List.getElem?_eq_some_iff.1 hu).1; rw [flat_len] at this; omega
    rcases h with h | ⟨b, o, h1, h2⟩
    · omega
    · injection h1 with h1; subst h1
      have e := flat_at (n := n) (f := f) (k := j / 32) (j := j % 32) (by omega) (by omega)
      rw [show 32 * (j / 32) + j % 32 = j from by omega, hu] at e
      injection e with e
      subst e
      rw [add_at, ← h2 (j / 32) (j % 32) (by omega) (by omega)]
      congr 2
      omega
end Mk
end Go.Proofs.YtjfpbponjhpdhaaDoor
