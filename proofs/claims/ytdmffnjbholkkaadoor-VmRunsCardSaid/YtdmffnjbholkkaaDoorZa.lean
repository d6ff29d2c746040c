/-
  Maps keyed by digests, as plain lists of pairs. Own work.
-/
import Derived.Test.YtdmffnjbholkkaaDoorMs
import Derived.Test.YtdmffnjbholkkaaDoorKept
import Derived.DeepKeys4
import Derived.Maps.Keyed
import Derived.Carry
namespace Go.Proofs.YtdmffnjbholkkaaDoor
open Go.RowKit
set_option linter.unusedVariables false
set_option linter.unusedSimpArgs false
namespace Wt
open Kc Mk
theorem laidOutP : laidOutB Tryd.prog = true := by kernel_rfl
theorem rowKH : (39 : TypeId) < Tryd.prog.types.size := of_decide_eq_true (by kernel_rfl)
theorem lawH : WideMaps.KeyLaw Tryd.prog 39 := deep_law_laid laidOutP (m := 2) (by omega) rowKH (by kernel_rfl) (by kernel_rfl)
theorem mapM_some {α β : Type} {f : α → Option β} {g : α → β} : ∀ (l : List α), (∀ a ∈ l, f a = some (g a)) → l.mapM f = some (l.map g)
  | [], _ => rfl
  | a :: l, h => by
    rw [List.mapM_cons, h a (by simp), mapM_some l (fun x hx => h x (by simp [hx]))]
    rfl
theorem wfB (x : Bt) : (Lit.int .u8 (Bv x)).wf = true := by
  have := Bv_bd x
  have h1 : IntKind.u8.min = 0 := rfl
  have h2 : IntKind.u8.max = 255 := rfl
  simp only [Lit.wf, h1, h2, Bool.and_eq_true, decide_eq_true_eq]
  omega
theorem typesSucc : ∃ m, Tryd.prog.types.size = m + 1 := ⟨Tryd.prog.types.size - 1, by have : 0 < Tryd.prog.types.size := of_decide_eq_true (by kernel_rfl); omega⟩
theorem cellsU8 : Tryd.prog.cellsOf 5 = 1 := by kernel_rfl
theorem cellsHh : Tryd.prog.cellsOf 39 = 32 := by kernel_rfl
theorem keyTypeH : Tryd.prog.keyType 39 = true := by kernel_rfl
theorem keyH (x : Hx) : keyOf Tryd.prog 39 (dv x) = some (.string (keyBytes (((List.range 32).map fun i => [Lit.int .u8 (Bv (x i))]).flatten))) := by
  obtain ⟨m, hm⟩ := typesSucc
  have hf : (dv x).formed Tryd.prog 39 = true := by simp [dv, Value.formed, undH, cellsHh, tab_size]
  have hl : Tryd.prog.keyLits (Tryd.prog.types.size + 1) 39 (dv x).cells.toList = some (((List.range 32).map fun i => [Lit.int .u8 (Bv (x i))]).flatten) := by
    unfold Program.keyLits
    simp only [undH]
    have hlen : (dv x).cells.toList.length = Tryd.prog.cellsOf 39 := by rw [cellsHh]; simp [dv, Value.cells, tab]
    rw [if_pos hlen, mapM_some (g := fun i => [Lit.int .u8 (Bv (x i))])]
    · rfl
    · intro i hi
      have hi' : i < 32 := by simpa using hi
      have e : ((dv x).cells.toList.drop (i * Tryd.prog.cellsOf 5)).take (Tryd.prog.cellsOf 5) = [bv (x i)] := by
        rw [cellsU8]
        simp only [dv, Value.cells, tab, Nat.mul_one]
        apply List.ext_getElem?
        intro j
        rcases j with _ | j
        · simp [hi']
        · simp [List.getElem?_take]
      rw [e, hm]
      unfold Program.keyLits
      simp only [undU8, bv]
      rw [if_pos ⟨trivial, wfB _⟩]
  unfold keyOf
  simp only [undH, keyTypeH, hf, hl]
  rfl
/-- A digest's bytes, as what tells two apart. -/
def key (x : Hx) : List Bt := (List.range 32).map x
theorem key_at {x y : Hx} (h : key x = key y) (i : Nat) (hi : i < 32) : x i = y i := by
  have := congrArg (fun l => l[i]?) h
  simpa [key, hi] using this
theorem key_of {x y : Hx} (h : ∀ i, i < 32 → x i = y i) : key x = key y := List.map_congr_left fun i hi => h i (by simpa using hi)
theorem dv_key {x y : Hx} : dv x = dv y ↔ key x = key y := by
  constructor
  · intro h
    refine key_of fun i hi => ?_
    have h' : tab 32 (fun i => bv (x i)) = tab 32 fun i => bv (y i) := by unfold dv at h; injection h
    have := tab_ext h' i hi
    unfold bv at this
    injection this with _ h2
    exact Bv_inj h2
  · intro h
    unfold dv
    rw [tab_cong fun i hi => by rw [key_at h i hi]]
theorem dv_of {x y : Hx} (h : key x = key y) : dv x = dv y := dv_key.2 h
section
variable {β : Type}
/-- What stands at a key. -/
def look (M : List (Hx × β)) (h : Hx) : Option β := (M.find? fun p => key p.1 == key h).map (·.2)
def has (M : List (Hx × β)) (h : Hx) : Bool := M.any fun p => key p.1 == key h
def putM (M : List (Hx × β)) (h : Hx) (v : β) : List (Hx × β) := if has M h then M.map (fun p => if key p.1 == key h then (p.1, v) else p) else M ++ [(h, v)]
def dropM (M : List (Hx × β)) (h : Hx) : List (Hx × β) := M.filter fun p => !(key p.1 == key h)
def Apart (M : List (Hx × β)) : Prop := M.Pairwise fun p q => key p.1 ≠ key q.1
theorem look_has (M : List (Hx × β)) (h : Hx) : (look M h).isSome = has M h := by
  unfold look has
  induction M with
  | nil => rfl
  | cons p M ih =>
    rw [List.find?_cons, List.any_cons]
    cases e : key p.1 == key h
    · simpa using ih
    · rfl
theorem find_at {M : List (Hx × β)} (hA : Apart M) {j : Nat} {p : Hx × β} {h : Hx} (hj : M[j]? = some p) (hp : key p.1 = key h) : M.find? (fun p => key p.1 == key h) = some p := by
  induction M generalizing j with
  | nil => simp at hj
  | cons q M ih =>
    obtain ⟨h1, h2⟩ := List.pairwise_cons.1 hA
    cases j with
    | zero => simp at hj; subst hj; simp [List.find?_cons, hp]
    | succ j =>
      have hj' : M[j]? = some p := by simpa using hj
      have hne : key q.1 ≠ key h := by rw [← hp]; exact h1 p (List.mem_of_getElem? hj')
      rw [List.find?_cons, show (key q.1 == key h) = false from by simpa using hne]
      exact ih h2 hj'
theorem look_at {M : List (Hx × β)} (hA : Apart M) {j : Nat} {p : Hx × β} {h : Hx} (hj : M[j]? = some p) (hp : key p.1 = key h) : look M h = some p.2 := by
  unfold look; rw [find_at hA hj hp]; rfl
theorem look_none {M : List (Hx × β)} {h : Hx} (hn : ∀ p ∈ M, key p.1 ≠ key h) : look M h = none := by
  unfold look
  rw [List.find?_eq_none.2 (fun p hp => by simpa using hn p hp)]; rfl
theorem has_at {M : List (Hx × β)} {j : Nat} {p : Hx × β} {h : Hx} (hj : M[j]? = some p) (hp : key p.1 = key h) : has M h = true := by
  unfold has; exact List.any_eq_true.2 ⟨p, List.mem_of_getElem? hj, by simpa using hp⟩
theorem has_none {M : List (Hx × β)} {h : Hx} (hn : ∀ p ∈ M, key p.1 ≠ key h) : has M h = false := by
  unfold has; exact List.any_eq_false.2 fun p hp => by simpa using hn p hp
theorem map_at {M : List (Hx × β)} (hA : Apart M) {j : Nat} {p : Hx × β} {h : Hx} (v : β) (hj : M[j]? = some p) (hp : key p.1 = key h) :
    M.map (fun p => if key p.1 == key h then (p.1, v) else p) = M.set j (p.1, v) := by
  induction M generalizing j with
  | nil => simp at hj
  | cons q M ih =>
    obtain ⟨h1, h2⟩ := List.pairwise_cons.1 hA
    cases j with
    | zero =>
      simp at hj; subst hj
      simp only [List.map_cons, List.set_cons_zero, show (key q.1 == key h) = true from by simpa using hp, if_true]
      congr 1
      refine (List.map_congr_left fun r hr => ?_).trans (List.map_id' M)
      rw [show (key r.1 == key h) = false from by simpa using fun e => h1 r hr (hp.trans e.symm)]; rfl
    | succ j =>
      have hj' : M[j]? = some p := by simpa using hj
      have hne : key q.1 ≠ key h := by rw [← hp]; exact h1 p (List.mem_of_getElem? hj')
      simp only [List.map_cons, List.set_cons_succ, show (key q.1 == key h) = false from by simpa using hne]
      rw [ih h2 hj']; rfl
theorem filter_at {M : List (Hx × β)} (hA : Apart M) {j : Nat} {p : Hx × β} {h : Hx} (hj : M[j]? = some p) (hp : key p.1 = key h) : dropM M h = M.eraseIdx j := by
  unfold dropM
  induction M generalizing j with
  | nil => simp at hj
  | cons q M ih =>
    obtain ⟨h1, h2⟩ := List.pairwise_cons.1 hA
    cases j with
    | zero =>
      simp at hj; subst hj
      rw [List.filter_cons, show (key q.1 == key h) = true from by simpa using hp]
      simp only [Bool.not_true, List.eraseIdx_cons_zero]
      refine List.filter_eq_self.2 fun r hr => ?_
      simpa using fun e => h1 r hr (hp.trans (Eq.symm e))
    | succ j =>
      have hj' : M[j]? = some p := by simpa using hj
      have hne : key q.1 ≠ key h := by rw [← hp]; exact h1 p (List.mem_of_getElem? hj')
      rw [List.filter_cons, show (key q.1 == key h) = false from by simpa using hne]
      simp only [Bool.not_false, if_true, List.eraseIdx_cons_succ]
      rw [ih h2 hj']
theorem apart_put {M : List (Hx × β)} (hA : Apart M) (h : Hx) (v : β) : Apart (putM M h v) := by
  unfold putM
  split
  · unfold Apart
    rw [List.pairwise_map]
    refine hA.imp fun {a b} hab => ?_
    split <;> split <;> exact hab
  · rename_i hn
    refine List.pairwise_append.2 ⟨hA, by simp, fun a ha b hb => ?_⟩
    simp only [List.mem_singleton] at hb
    subst hb
    intro e
    apply hn
    unfold has
    exact List.any_eq_true.2 ⟨a, ha, by simpa using e⟩
theorem apart_drop {M : List (Hx × β)} (hA : Apart M) (h : Hx) : Apart (dropM M h) := hA.filter _
/-- A block is a map that holds these pairs. -/
def IsMp (V : β → Value) (w : World) (b : Nat) (M : List (Hx × β)) : Prop :=
  ∃ es clock, w.heap[b]? = some (.map es clock) ∧ es.toList.map (fun e => (e.key, e.val)) = M.map (fun p => (dv p.1, V p.2)) ∧ Apart M
variable {V : β → Value} {w w' : World} {b : Nat} {M : List (Hx × β)}
theorem IsMp.lt (h : IsMp V w b M) : b < w.heap.size := by obtain ⟨_, _, hb, _⟩ := h; exact (Array.getElem?_eq_some_iff.1 hb).1
theorem IsMp.same (h : IsMp V w b M) (hb : w'.heap[b]? = w.heap[b]?) : IsMp V w' b M := by obtain ⟨es, c, h1, h2⟩ := h; exact ⟨es, c, hb.trans h1, h2⟩
theorem IsMp.kept {S : Nat → Prop} (h : IsMp V w b M) (hk : Kept S w w') (hn : ¬ S b) : IsMp V w' b M := h.same (hk.block b h.lt hn)
theorem IsMp.below (h : IsMp V w b M) (hb : Below w.heap.size w w') : IsMp V w' b M := h.same (hb.block b h.lt)
theorem IsMp.new (V : β → Value) (w : World) : IsMp V (w.alloc (.map #[] 0)) w.heap.size [] := ⟨#[], 0, (MapKept.heap_alloc w _).1, rfl, by simp [Apart]⟩
theorem IsMp.alloc (h : IsMp V w b M) (o : Obj) : IsMp V (w.alloc o) b M := h.same (Below.heap_alloc w o b h.lt)
/-- How a key is found. -/
theorem find_run {es : Array MapEntry} (he : es.toList.map (fun e => (e.key, e.val)) = M.map (fun p => (dv p.1, V p.2))) (w : World) (h : Hx) :
    ((Instr.findKey 39 (dv h) es.toList).run Tryd.prog w = .ok none w ∧ ∀ p ∈ M, key p.1 ≠ key h) ∨
    ∃ j e p, (Instr.findKey 39 (dv h) es.toList).run Tryd.prog w = .ok (some (j, e.val)) w ∧ es.toList[j]? = some e ∧ M[j]? = some p ∧ e.key = dv p.1 ∧ e.val = V p.2 ∧ key p.1 = key h := by
  have hk : ∀ e ∈ es.toList, ∃ l, keyOf Tryd.prog 39 e.key = some l := fun e hm => by
    have : (e.key, e.val) ∈ M.map (fun p => (dv p.1, V p.2)) := by rw [← he]; exact List.mem_map.2 ⟨e, hm, rfl⟩
    obtain ⟨p, _, hp⟩ := List.mem_map.1 this
    injection hp with h1 h2
    exact ⟨_, by rw [← h1]; exact keyH p.1⟩
  rcases lawH.find w (keyH h) es.toList hk with ⟨h1, h2⟩ | ⟨j, e, h1, h2, h3⟩
  · refine .inl ⟨h1, fun p hp hkk => ?_⟩
    have : (dv p.1, V p.2) ∈ es.toList.map (fun e => (e.key, e.val)) := by rw [he]; exact List.mem_map.2 ⟨p, hp, rfl⟩
    obtain ⟨e, hm, hee⟩ := List.mem_map.1 this
    injection hee with h3 h4
    exact h2 e hm (h3.trans (dv_of hkk))
  · have : (es.toList.map (fun e => (e.key, e.val)))[j]? = some (e.key, e.val) := by rw [List.getElem?_map, h2]; rfl
    rw [he, List.getElem?_map] at this
    cases hM : M[j]? with
    | none => rw [hM] at this; cases this
    | some p =>
      rw [hM] at this
      simp only [Option.map_some, Option.some.injEq, Prod.mk.injEq] at this
      exact .inr ⟨j, e, p, h1, h2, hM, this.1.symm, this.2.symm, dv_key.1 (this.1.trans h3)⟩
/-- 'v, ok := m[k]'. -/
theorem IsMp.look_ok {t e : TypeId} {z : Value} (h : IsMp V w b M) (ht : Tryd.prog.underlying t = some (.map 39 e)) (hz : (zeroValue e).run Tryd.prog w = .ok z w) (k : Hx) :
    (Instr.lookup t (.map (some b)) (dv k) true).run Tryd.prog w = .ok (.tuple #[((look M k).map V).getD z, .bool (has M k)]) w := by
  obtain ⟨es, clock, hb, he, hA⟩ := h
  rcases find_run he w k with ⟨h1, h2⟩ | ⟨j, e0, p, h1, h2, h3, h4, h5, h6⟩
  · simp [Instr.lookup, run_underlying ht, MapKept.run_getObj_map hb, lawH.check w _ (keyH k), h1, hz, Result.andThen, look_none h2, has_none h2]
  · simp [Instr.lookup, run_underlying ht, MapKept.run_getObj_map hb, lawH.check w _ (keyH k), h1, Result.andThen, look_at hA h3 h6, has_at h3 h6, h5]
theorem nil_look {t e : TypeId} {z : Value} (w : World) (ht : Tryd.prog.underlying t = some (.map 39 e)) (hz : (zeroValue e).run Tryd.prog w = .ok z w) (k : Hx) :
    (Instr.lookup t (.map none) (dv k) true).run Tryd.prog w = .ok (.tuple #[z, .bool false]) w := by
  have h1 : (Instr.findKey 39 (dv k) []).run Tryd.prog w = .ok none w := by
    rcases lawH.find w (keyH k) [] (by simp) with ⟨h1, _⟩ | ⟨j, e, _, h2, _⟩
    · exact h1
    · simp at h2
  simp [Instr.lookup, run_underlying ht, lawH.check w _ (keyH k), h1, hz, Result.andThen]
/-- 'm[k] = v'. -/
theorem IsMp.store {t e : TypeId} (h : IsMp V w b M) (ht : Tryd.prog.underlying t = some (.map 39 e)) (k : Hx) (v : β) :
    ∃ w', (Instr.mapUpdate t (.map (some b)) (dv k) (V v)).run Tryd.prog w = .ok () w' ∧ IsMp V w' b (putM M k v) ∧ Kept (· = b) w w' ∧ w'.heap.size = w.heap.size := by
  obtain ⟨es, clock, hb, he, hA⟩ := h
  have hK : ∀ o, Kept (· = b) w (ChangeMaps.setBlock w b o) ∧ (ChangeMaps.setBlock w b o).heap.size = w.heap.size := fun o =>
    ⟨⟨rfl, rfl, rfl, by simp [ChangeMaps.setBlock], fun i _ hi => ChangeMaps.heap_setBlock_other hb _ hi⟩, by simp [ChangeMaps.setBlock]⟩
  rcases find_run he w k with ⟨h1, h2⟩ | ⟨j, e0, p, h1, h2, h3, h4, h5, h6⟩
  · refine ⟨ChangeMaps.setBlock w b (.map (es.push ⟨dv k, V v, clock⟩) (clock + 1)), ?_, ⟨_, _, ChangeMaps.heap_setBlock_same hb _, ?_, apart_put hA k v⟩, hK _⟩
    · simp [Instr.mapUpdate, run_underlying ht, MapKept.run_getObj_map hb, lawH.check w false (keyH k), h1, MapKept.run_setObj_map _ hb, Result.andThen, ChangeMaps.setBlock]
    · unfold putM
      rw [has_none h2]
      simp [he]
  · have hj : es[j]? = some e0 := by simpa using h2
    have hkk : e0.key = dv k := h4.trans (dv_of h6)
    refine ⟨ChangeMaps.setBlock w b (.map (es.modify j (fun e' => { e' with key := dv k, val := V v })) clock), ?_, ⟨_, _, ChangeMaps.heap_setBlock_same hb _, ?_, apart_put hA k v⟩, hK _⟩
    · simp [Instr.mapUpdate, run_underlying ht, MapKept.run_getObj_map hb, lawH.check w false (keyH k), h1, hj, hkk, lawH.stays w (keyH k), MapKept.run_setObj_map _ hb, Result.andThen, ChangeMaps.setBlock]
    · rw [Array.toList_modify, ChangeMaps.modify_eq_set _ _ _ _ h2, List.map_set, he]
      unfold putM
      rw [has_at h3 h6, if_pos rfl, map_at hA v h3 h6, List.map_set]
      simp only [dv_of h6]
/-- 'delete(m, k)'. -/
theorem IsMp.del {t e ty : TypeId} (h : IsMp V w b M) (ht : Tryd.prog.underlying t = some (.map 39 e)) (k : Hx) :
    ∃ w', (Builtin.delete_ #[t, 39] ty #[.map (some b), dv k]).run Tryd.prog w = .ok (.tuple #[]) w' ∧ IsMp V w' b (dropM M k) ∧ Kept (· = b) w w' ∧ w'.heap.size = w.heap.size := by
  obtain ⟨es, clock, hb, he, hA⟩ := h
  have hK : ∀ o, Kept (· = b) w (ChangeMaps.setBlock w b o) ∧ (ChangeMaps.setBlock w b o).heap.size = w.heap.size := fun o =>
    ⟨⟨rfl, rfl, rfl, by simp [ChangeMaps.setBlock], fun i _ hi => ChangeMaps.heap_setBlock_other hb _ hi⟩, by simp [ChangeMaps.setBlock]⟩
  rcases find_run he w k with ⟨h1, h2⟩ | ⟨j, e0, p, h1, h2, h3, h4, h5, h6⟩
  · refine ⟨ChangeMaps.setBlock w b (.map es clock), ?_, ⟨_, _, ChangeMaps.heap_setBlock_same hb _, ?_, apart_drop hA k⟩, hK _⟩
    · simp [Builtin.delete_, run_underlying ht, MapKept.run_getObj_map hb, lawH.check w _ (keyH k), h1, MapKept.run_setObj_map _ hb, Result.andThen, ChangeMaps.setBlock]
    · rw [he]
      unfold dropM
      rw [List.filter_eq_self.2 fun p hp => by simpa using h2 p hp]
  · have hjl : j < es.size := by have := (List.getElem?_eq_some_iff.1 h2).1; simpa using this
    refine ⟨ChangeMaps.setBlock w b (.map (es.eraseIdxIfInBounds j) clock), ?_, ⟨_, _, ChangeMaps.heap_setBlock_same hb _, ?_, apart_drop hA k⟩, hK _⟩
    · simp [Builtin.delete_, run_underlying ht, MapKept.run_getObj_map hb, lawH.check w _ (keyH k), h1, MapKept.run_setObj_map _ hb, Result.andThen, ChangeMaps.setBlock]
    · rw [filter_at hA h3 h6, Array.toList_eraseIdxIfInBounds]
      rw [ChangeMaps.map_eraseIdx, ChangeMaps.map_eraseIdx, he]
/-- 'len(m)'. -/
theorem IsMp.len {t e ty : TypeId} (h : IsMp V w b M) (ht : Tryd.prog.underlying t = some (.map 39 e)) : (Builtin.len_ #[t] ty #[.map (some b)]).run Tryd.prog w = .ok (.int .i64 M.length) w := by
  obtain ⟨es, clock, hb, he, hA⟩ := h
  have hs : es.size = M.length := by have := congrArg List.length he; simpa using this
  simp [Builtin.len_, run_underlying ht, MapKept.run_getObj_map hb, Result.andThen, hs, goInt]
/-- A copy of a map. -/
theorem IsMp.clone {es : Array MapEntry} {clock : Nat} (hb : w.heap[b]? = some (.map es clock)) (h : IsMp V w b M) : IsMp V (w.alloc (.map es clock)) w.heap.size M := by
  obtain ⟨es', clock', hb', he, hA⟩ := h
  rw [hb] at hb'
  injection hb' with hb'
  injection hb' with h1 h2
  subst h1
  exact ⟨_, _, (MapKept.heap_alloc w _).1, he, hA⟩
end
end Wt
end Go.Proofs.YtdmffnjbholkkaaDoor
