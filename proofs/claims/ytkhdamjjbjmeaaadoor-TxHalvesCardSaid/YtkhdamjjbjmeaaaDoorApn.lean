/-
  append to a slice of the call's own from whatever slice, nil or not; rows of bytes. Own work, over the guide's laws of append.
-/
import Derived.Test.YtkhdamjjbjmeaaaDoorApp
import Derived.Test.YtkhdamjjbjmeaaaDoorKmix
import Derived.Laws.AppendOwnNone
namespace Go.Proofs.YtkhdamjjbjmeaaaDoor
open Go.RowKit
set_option linter.unusedVariables false
theorem wpList_append_any {P : Program} {w : World} {ops : Array Oper} {rest : List Oper} {o : Oper} {a : Act} {Q : Exit → Act → World → Prop} (hgd : o.guard = none) (s x : Operand) (t : TypeId)
    (ho : o.op = .call { callee := .builtin .append, args := #[s, x], argTypes := #[t, t] })
    (base : Nat) (e : TypeId) (i : TypeInfo) (z : Value) (size bytes : Nat) (ht : P.underlying t = some (.slice e)) (hi : P.info? e = some i ∧ i.zero = some z ∧ i.size = size ∧ i.bytes = bytes)
    (hzs : z.cells.size = size) (hsz : 0 < size)
    (v : Value) (n : Nat) (xs : List Value) (hs : a.eval s = v) (hown : w.ownsRow base e size v n xs)
    (A : Option Addr) (m c : Nat) (news : List Value) (hx : a.eval x = .slice A m c) (hsrc : (A = none ∧ m = 0 ∧ c = 0 ∧ news = []) ∨ ∃ ad, A = some ad ∧ news.length = m * size ∧ ∀ j u, news[j]? = some u → w.cell? (ad.add j) = some u) (h1 : ∀ u ∈ news, u.oneCell' = true)
    (h63 : n + m ≤ maxLen) (hbytes : (n + m) * bytes ≤ 140737488355328) (hbase : base ≤ w.heap.size)
    (h : ∀ v' w', w'.ownsRow base e size v' (n + m) (xs ++ news) → w.grownBy w' v.ownBlock → (∀ k, v'.ownBlock = some k → v.ownBlock = some k ∨ k = w.heap.size) → wpList P ops Q rest (a.put o.dst v') w') : wpList P ops Q (o :: rest) a w := by
  rcases hsrc with ⟨rfl, rfl, rfl, rfl⟩ | ⟨ad, rfl, hl, hc⟩
  · refine wpList_append_own_none hgd s x t ho base e i size ht hi.1 v n xs hs hown hx ?_
    exact h v w (by simpa using hown) (World.grownBy.refl w _) (fun k hk => .inl hk)
  · exact wpList_append_at w hgd s x t ho base e i z size bytes ht hi hzs hsz v n xs hs hown ad m c news hx hl hc h1 h63 hbytes hbase h
namespace Kc
/-- A block whose first n cells are bytes. -/
def Row8 (w : World) (g n : Nat) (f : Nat → Bt) : Prop := ∃ cur : Array Value, w.heap[g]? = some (.cells cur 5 (0, 0)) ∧ n ≤ cur.size ∧ ∀ i, i < n → cur[i]? = some (bv (f i))
theorem Row8.cell {w : World} {g n : Nat} {f : Nat → Bt} (h : Row8 w g n f) (i : Nat) (hi : i < n) : w.cell? ⟨g, i, none⟩ = some (bv (f i)) := by
  obtain ⟨cur, h1, h2, h3⟩ := h
  rw [cell_of_row w g i _ _ _ h1]; exact h3 i hi
theorem Row8.fz {w : World} {g n : Nat} {f : Nat → Bt} (h : Row8 w g n f) (i : Nat) : w.frozen? ⟨g, i, none⟩ = false := by
  obtain ⟨cur, h1, _⟩ := h
  exact frozen_of_row w g i _ _ h1
theorem Row8.lt {w : World} {g n : Nat} {f : Nat → Bt} (h : Row8 w g n f) : g < w.heap.size := by obtain ⟨cur, h1, _⟩ := h; exact (Array.getElem?_eq_some_iff.1 h1).1
theorem Row8.set {w : World} {g n : Nat} {f : Nat → Bt} (h : Row8 w g n f) (i : Nat) (x : Bt) : Row8 (w.setCell ⟨g, i, none⟩ (bv x)) g n fun j => if j = i then x else f j := by
  obtain ⟨cur, h1, h2, h3⟩ := h
  refine ⟨_, heap_setCell_same w g i _ _ _ h1, by simpa using h2, fun j hj => ?_⟩
  rw [Array.getElem?_setIfInBounds]
  dsimp only
  by_cases e : i = j
  · subst e; rw [if_pos rfl, if_pos (by omega), if_pos rfl]
  · rw [if_neg e, if_neg (fun h : j = i => e h.symm)]; exact h3 j hj
theorem Row8.keep {w : World} {g p i n : Nat} {v : Value} {f : Nat → Bt} (h : Row8 w g n f) (hn : g ≠ p) : Row8 (w.setCell ⟨p, i, none⟩ v) g n f := by
  obtain ⟨cur, h1, h2, h3⟩ := h
  exact ⟨cur, by rw [Below.heap_setCell _ _ _ _ hn]; exact h1, h2, h3⟩
theorem Row8.row {w : World} {g p n : Nat} {cs : Array Value} {f : Nat → Bt} (h : Row8 w g n f) (hn : g ≠ p) : Row8 (w.setRow p cs) g n f := by
  obtain ⟨cur, h1, h2, h3⟩ := h
  exact ⟨cur, by rw [setRow_other _ _ _ _ hn]; exact h1, h2, h3⟩
theorem Row8.drew {w : World} {g n : Nat} {f : Nat → Bt} (h : Row8 w g n f) : Row8 w.drew g n f := h
theorem Row8.below {w w' : World} {g n : Nat} {f : Nat → Bt} (h : Row8 w g n f) (hb : Below w.heap.size w w') : Row8 w' g n f := by
  obtain ⟨cur, h1, h2, h3⟩ := h
  exact ⟨cur, by rw [hb.block g (Array.getElem?_eq_some_iff.1 h1).1]; exact h1, h2, h3⟩
theorem Row8.alloc {w : World} {g n : Nat} {f : Nat → Bt} (h : Row8 w g n f) (o : Obj) : Row8 (w.alloc o) g n f := by
  obtain ⟨cur, h1, h2, h3⟩ := h
  exact ⟨cur, by rw [Below.heap_alloc w o g (Array.getElem?_eq_some_iff.1 h1).1]; exact h1, h2, h3⟩
theorem Row8.cong {w : World} {g n : Nat} {f f' : Nat → Bt} (h : Row8 w g n f) (e : ∀ i, i < n → f i = f' i) : Row8 w g n f' := by
  obtain ⟨cur, h1, h2, h3⟩ := h
  exact ⟨cur, h1, h2, fun i hi => by rw [← e i hi]; exact h3 i hi⟩
/-- A row of the call's own, as a slice over such a block. -/
theorem row8_of {w : World} {q : Nat} {V : Value} {n : Nat} {l : List Bt} (h : w.ownsRow q 5 1 V n (l.map bv)) (hn : 0 < n) :
    ∃ g cap, V = .slice (some ⟨g, 0, none⟩) n cap ∧ n ≤ cap ∧ cap ≤ maxLen ∧ q ≤ g ∧ l.length = n ∧ Row8 w g n fun i => l.getD i 0#8 := by
  obtain ⟨h0, h1⟩ := h
  rcases h1 with ⟨_, e⟩ | ⟨g, cap, cur, rfl, hg, hc, hnc, hm, hs, ht⟩
  · omega
  · have hl : l.length = n := by simpa using h0
    refine ⟨g, cap, rfl, hnc, hm, hg, hl, cur, hc, by omega, fun i hi => ?_⟩
    have e1 : (cur.toList.take (n * 1))[i]? = (l.map bv)[i]? := by rw [ht]
    rw [List.getElem?_take, if_pos (by omega), List.getElem?_map, List.getElem?_eq_getElem (show i < l.length from by omega)] at e1
    show _ = some (bv (l.getD i 0#8))
    rw [List.getD_eq_getElem?_getD, List.getElem?_eq_getElem (show i < l.length from by omega)]
    simpa using e1
theorem one1 : ∃ i, Tryd.prog.info? 5 = some i ∧ i.zero = some (.int .u8 0) ∧ i.size = 1 ∧ i.bytes = 1 := by
  refine ⟨(Tryd.prog.info? 5).get (by kernel_rfl), by kernel_rfl, by kernel_rfl, by kernel_rfl, by kernel_rfl⟩
end Kc
end Go.Proofs.YtkhdamjjbjmeaaaDoor
