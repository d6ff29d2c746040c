/-
  A hasher in memory; what a copy does to a block of values. Own work.
-/
import Derived.Test.YtkhdamjjbjmeaaaDoorTab
import Derived.Test.YtkhdamjjbjmeaaaDoorKept
import Derived.Test.YtkhdamjjbjmeaaaDoorKdg
import Derived.Laws.CopyOwn
import Derived.Deep.MidRow
namespace Go.Proofs.YtkhdamjjbjmeaaaDoor
open Go.RowKit
set_option linter.unusedVariables false
namespace Kc
/-- Values with k others from a place on. -/
def splv (g : Nat → Value) (off k : Nat) (f : Nat → Value) : Nat → Value := fun i => if off ≤ i ∧ i < off + k then f (i - off) else g i
theorem tab_splice (n : Nat) (g : Nat → Value) (off k : Nat) (f : Nat → Value) (h : off + k ≤ n) :
    ((tab n g).toList.take off ++ ((List.range k).map f ++ (tab n g).toList.drop (off + k))).toArray = tab n (splv g off k f) := by
  unfold tab
  congr 1
  apply List.ext_getElem?
  intro i
  simp only [List.getElem?_append, List.length_take, List.length_map, List.length_range, List.getElem?_take, List.getElem?_map, List.getElem?_drop]
  by_cases h1 : i < off
  · rw [if_pos (by omega), if_pos h1]
    have h2 : i < n := by omega
    have e : splv g off k f i = g i := by unfold splv; rw [if_neg (by omega)]
    simp [h2, e]
  · rw [if_neg (by omega)]
    simp only [show min off n = off from by omega]
    by_cases h2 : i - off < k
    · rw [if_pos h2]
      have e : splv g off k f i = f (i - off) := by unfold splv; rw [if_pos (by omega)]
      simp [h2, show i < n from by omega, e]
    · rw [if_neg h2, show off + k + (i - off - k) = i from by omega]
      by_cases h3 : i < n
      · have e : splv g off k f i = g i := by unfold splv; rw [if_neg (by omega)]
        simp [h3, e]
      · simp [h3]
theorem wpList_copy_tab {P : Program} {w : World} {ops : Array Oper} {rest : List Oper} {o : Oper} {a : Act} {Q : Exit → Act → World → Prop} (hgd : o.guard = none) (d s : Operand) (dT sT : TypeId)
    (ho : o.op = .call { callee := .builtin .copy, args := #[d, s], argTypes := #[dT, sT] }) (elem : TypeId) (hu : P.underlying dT = some (.slice elem)) (hsz : (P.info? elem).map (·.size) = some 1)
    (q off dLen dCap : Nat) (ad : Addr) (sLen sCap : Nat) (hd : a.eval d = .slice (some ⟨q, off, none⟩) dLen dCap) (hs : a.eval s = .slice (some ad) sLen sCap)
    (T n : Nat) (g : Nat → Value) (hg : IsTab w q T n g) (k : Nat) (hk : k = min sLen dLen) (f : Nat → Value) (hsrc : ∀ j, j < k → w.cell? (ad.add j) = some (f j)) (hfit : off + k ≤ n) (h1 : ∀ j, (f j).oneCell' = true)
    (h : wpList P ops Q rest (a.put o.dst (.int .i64 k)) (w.setRow q (tab n (splv g off k f)))) : wpList P ops Q (o :: rest) a w := by
  refine wpList_copy_own hgd d s dT sT ho elem hu hsz q off dLen dCap ad sLen sCap hd hs (tab n g) T hg ((List.range k).map f) (by rw [hk]; simp) (fun j v hv => ?_) (by simp [tab_size]; exact hfit) (fun v hv => ?_) ?_
  · obtain ⟨hj, rfl⟩ := List.getElem?_eq_some_iff.1 hv
    simp only [List.length_map, List.length_range] at hj
    simpa using hsrc j hj
  · obtain ⟨j, _, rfl⟩ := List.mem_map.1 hv
    exact h1 j
  · rw [List.length_map, List.length_range, tab_splice n g off k f hfit]
    exact h
/-! ## a hasher -/
def hv (s : Nat → Wd64) (pc : Nat → Bt) (fill : Nat) : Nat → Value := fun i => if i < 25 then wv (s i) else if i < 161 then bv (pc (i - 25)) else .int .i64 fill
def IsHv (w : World) (q : Nat) (s : Nat → Wd64) (pc : Nat → Bt) (fill : Nat) : Prop := IsTab w q 74 162 (hv s pc fill)
/-- The hasher in block q has got the bytes l. -/
def IsH (w : World) (q : Nat) (l : List Bt) : Prop := ∃ pc : Nat → Bt, IsHv w q (st l (l.length / 136)) pc (l.length % 136) ∧ ∀ j, j < l.length % 136 → pc j = l.getD (136 * (l.length / 136) + j) 0#8
/-- Bytes that lie in memory. -/
def IsBs (w : World) (a : Option Addr) (l : List Bt) : Prop := l = [] ∨ ∃ b o, a = some ⟨b, o, none⟩ ∧ ∀ j, j < l.length → w.cell? ⟨b, o + j, none⟩ = some (bv (l.getD j 0#8))
/-- Values set one by one from a place on. -/
theorem IsTab.setCells {q T n : Nat} : ∀ (vs : List Value) (o : Nat) (w : World) (g : Nat → Value), IsTab w q T n g → IsTab (w.setCells q o vs) q T n fun i => if o ≤ i ∧ i < o + vs.length then vs.getD (i - o) (.int .i64 0) else g i
  | [], o, w, g, h => h.cong fun i _ => by rw [if_neg (by simp only [List.length_nil]; omega)]
  | v :: r, o, w, g, h => (IsTab.setCells r (o + 1) _ _ (h.set o v)).cong fun i _ => by
      simp only [List.length_cons, updv]
      by_cases e : i = o
      · subst e; rw [if_neg (by omega), if_pos rfl, if_pos (by omega)]; simp
      · by_cases e2 : o + 1 ≤ i ∧ i < o + 1 + r.length
        · rw [if_pos e2, if_pos (by omega), show i - o = (i - (o + 1)) + 1 from by omega]; rfl
        · rw [if_neg e2, if_neg e, if_neg (by omega)]
theorem keptS_setCells {S : Nat → Prop} {q : Nat} (hq : S q) {a : World} : ∀ (vs : List Value) (o : Nat) (w : World), Kept S a w → Kept S a (w.setCells q o vs)
  | [], _, w, h => h
  | v :: r, o, w, h => keptS_setCells hq r (o + 1) _ (h.setCell (.inl hq) v)
theorem kept_setRow {S : Nat → Prop} {q : Nat} {a w : World} (h : Kept S a w) (hq : S q ∨ a.heap.size ≤ q) (cs : Array Value) : Kept S a (w.setRow q cs) :=
  ⟨by simp; exact h.os, by simp; exact h.tape, by simp; exact h.output, by simp; exact h.size, fun k hk hn => by rw [setRow_other _ _ _ _ (fun e => by subst e; rcases hq with hq | hq; exact hn hq; omega)]; exact h.block k hk hn⟩
theorem IsTab.range {w : World} {q T n : Nat} {g : Nat → Value} (h : IsTab w q T n g) (o k : Nat) (f : Nat → Value) (hk : o + k ≤ n) (hf : ∀ j, j < k → g (o + j) = f j) : w.rangeAt q o ((List.range k).map f) := fun j v hv => by
  obtain ⟨hj, rfl⟩ := List.getElem?_eq_some_iff.1 hv
  simp only [List.length_map, List.length_range] at hj
  rw [h.cell (o + j) (by omega), hf j hj]
  simp
theorem IsTab.thereAt {w : World} {q T n : Nat} {g : Nat → Value} (h : IsTab w q T n g) (o k : Nat) (hk : o + k ≤ n) : w.there q o k := fun j hj => ⟨by rw [h.cell (o + j) (by omega)]; rfl, h.fz _⟩
/-! ## how a hasher goes on -/
theorem getD_append_left {l r : List Bt} {i : Nat} (h : i < l.length) : (l ++ r).getD i 0#8 = l.getD i 0#8 := by simp [List.getElem?_append, h]
theorem getD_append_right {l r : List Bt} {i : Nat} (h : l.length ≤ i) : (l ++ r).getD i 0#8 = r.getD (i - l.length) 0#8 := by simp [List.getElem?_append, show ¬ i < l.length from by omega]
theorem st_append (l r : List Bt) : ∀ k, 136 * k ≤ l.length → st (l ++ r) k = st l k
  | 0, _ => rfl
  | k + 1, h => by
    show absorb (st (l ++ r) k) (fun j => (l ++ r).getD (136 * k + j) 0#8) = absorb (st l k) fun j => l.getD (136 * k + j) 0#8
    rw [st_append l r k (by omega)]
    unfold absorb
    congr 1
    unfold absorbK lane
    funext i
    by_cases hi : i < 17
    · rw [if_pos hi, if_pos hi]
      simp only [getD_append_left (show 136 * k + 8 * i < l.length from by omega), getD_append_left (show 136 * k + (8 * i + 1) < l.length from by omega), getD_append_left (show 136 * k + (8 * i + 2) < l.length from by omega), getD_append_left (show 136 * k + (8 * i + 3) < l.length from by omega), getD_append_left (show 136 * k + (8 * i + 4) < l.length from by omega), getD_append_left (show 136 * k + (8 * i + 5) < l.length from by omega), getD_append_left (show 136 * k + (8 * i + 6) < l.length from by omega), getD_append_left (show 136 * k + (8 * i + 7) < l.length from by omega)]
    · rw [if_neg hi, if_neg hi]
theorem absorb_cong (a : Nat → Wd64) {p q : Nat → Bt} (h : ∀ j, j < 136 → p j = q j) : absorb a p = absorb a q := by
  unfold absorb
  congr 1
  unfold absorbK lane
  funext i
  by_cases hi : i < 17
  · rw [if_pos hi, if_pos hi, h _ (show 8 * i < 136 from by omega), h _ (show 8 * i + 1 < 136 from by omega), h _ (show 8 * i + 2 < 136 from by omega), h _ (show 8 * i + 3 < 136 from by omega), h _ (show 8 * i + 4 < 136 from by omega), h _ (show 8 * i + 5 < 136 from by omega), h _ (show 8 * i + 6 < 136 from by omega), h _ (show 8 * i + 7 < 136 from by omega)]
  · rw [if_neg hi, if_neg hi]
/-- The piece with k bytes more. -/
def pcs (pc : Nat → Bt) (fill k : Nat) (r : List Bt) : Nat → Bt := fun j => if fill ≤ j ∧ j < fill + k then r.getD (j - fill) 0#8 else pc j
theorem hv_copy (s : Nat → Wd64) (pc : Nat → Bt) (fill k : Nat) (r : List Bt) (h : fill + k ≤ 136) :
    ∀ i, i < 162 → splv (hv s pc fill) (25 + fill) k (fun j => bv (r.getD j 0#8)) i = hv s (pcs pc fill k r) fill i := by
  intro i hi
  unfold splv hv pcs
  by_cases h1 : 25 + fill ≤ i ∧ i < 25 + fill + k
  · rw [if_pos h1, if_neg (by omega), if_pos (by omega), if_pos (by omega), show i - (25 + fill) = i - 25 - fill from by omega]
  · rw [if_neg h1]
    by_cases h2 : i < 25
    · rw [if_pos h2, if_pos h2]
    · rw [if_neg h2, if_neg h2]
      by_cases h3 : i < 161
      · rw [if_pos h3, if_pos h3, if_neg (by omega)]
      · rw [if_neg h3, if_neg h3]
theorem hv_fill (s : Nat → Wd64) (pc : Nat → Bt) (f f' : Nat) : ∀ i, i < 162 → updv (hv s pc f) 161 (.int .i64 f') i = hv s pc f' i := by
  intro i hi
  unfold updv hv
  by_cases h : i = 161
  · rw [if_pos h, if_neg (by omega), if_neg (by omega)]
  · rw [if_neg h]
    by_cases h2 : i < 25
    · rw [if_pos h2, if_pos h2]
    · rw [if_neg h2, if_neg h2, if_pos (by omega), if_pos (by omega)]
theorem hv_state (s s' : Nat → Wd64) (pc : Nat → Bt) (f : Nat) : ∀ i, i < 162 → (if 0 ≤ i ∧ i < 0 + ((List.range 25).map fun i => wv (s' i)).length then ((List.range 25).map fun i => wv (s' i)).getD (i - 0) (.int .i64 0) else hv s pc f i) = hv s' pc f i := by
  intro i hi
  simp only [List.length_map, List.length_range]
  unfold hv
  by_cases h : i < 25
  · rw [if_pos (by omega), if_pos h]; simp [h]
  · rw [if_neg (by omega), if_neg h, if_neg h]
/-- Some bytes more, and the piece is not full. -/
theorem isH_more {w : World} {q : Nat} {l r : List Bt} {pc : Nat → Bt} (k : Nat) (hk : k ≤ r.length) (hn : l.length % 136 + k < 136) (hp : ∀ j, j < l.length % 136 → pc j = l.getD (136 * (l.length / 136) + j) 0#8)
    (h : IsHv w q (st l (l.length / 136)) (pcs pc (l.length % 136) k r) (l.length % 136 + k)) : IsH w q (l ++ r.take k) := by
  have hlen : (l ++ r.take k).length = l.length + k := by simp; omega
  have hd : (l.length + k) / 136 = l.length / 136 := by omega
  have hm : (l.length + k) % 136 = l.length % 136 + k := by omega
  refine ⟨pcs pc (l.length % 136) k r, ?_, ?_⟩
  · rw [hlen, hd, hm, st_append l _ _ (by omega)]; exact h
  · rw [hlen, hd, hm]
    intro j hj
    unfold pcs
    by_cases h1 : l.length % 136 ≤ j ∧ j < l.length % 136 + k
    · rw [if_pos h1, getD_append_right (by omega), show 136 * (l.length / 136) + j - l.length = j - l.length % 136 from by omega]
      simp [show j - l.length % 136 < k from by omega]
    · rw [if_neg h1, getD_append_left (by omega)]
      exact hp j (by omega)
/-- The piece is full, and is absorbed. -/
theorem isH_full {w : World} {q : Nat} {l r : List Bt} {pc : Nat → Bt} (k : Nat) (hk : k ≤ r.length) (hn : l.length % 136 + k = 136) (hp : ∀ j, j < l.length % 136 → pc j = l.getD (136 * (l.length / 136) + j) 0#8) (p' : Nat → Bt)
    (h : IsHv w q (absorb (st l (l.length / 136)) (pcs pc (l.length % 136) k r)) p' 0) : IsH w q (l ++ r.take k) := by
  have hlen : (l ++ r.take k).length = l.length + k := by simp; omega
  have hd : (l.length + k) / 136 = l.length / 136 + 1 := by omega
  have hm : (l.length + k) % 136 = 0 := by omega
  refine ⟨p', ?_, ?_⟩
  · rw [hlen, hd, hm]
    have e : absorb (st l (l.length / 136)) (pcs pc (l.length % 136) k r) = st (l ++ r.take k) (l.length / 136 + 1) := by
      show _ = absorb (st (l ++ r.take k) (l.length / 136)) fun j => (l ++ r.take k).getD (136 * (l.length / 136) + j) 0#8
      rw [st_append l _ _ (by omega)]
      refine absorb_cong _ fun j hj => ?_
      unfold pcs
      by_cases h1 : l.length % 136 ≤ j ∧ j < l.length % 136 + k
      · rw [if_pos h1, getD_append_right (by omega), show 136 * (l.length / 136) + j - l.length = j - l.length % 136 from by omega]
        simp [show j - l.length % 136 < k from by omega]
      · rw [if_neg h1, getD_append_left (by omega)]
        exact hp j (by omega)
    rw [← e]; exact h
  · rw [hlen, hm]; intro j hj; omega
end Kc
end Go.Proofs.YtkhdamjjbjmeaaaDoor
