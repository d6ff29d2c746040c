/- Merged of Za Zb Ze. Own work. -/
import Derived.Test.YtcgpdijpppcbiaaGreatDoorQ08
import Derived.Test.YtcgpdijpppcbiaaGreatDoorQ01
import Derived.DeepKeys4
import Derived.Maps.Keyed
import Derived.Carry
import Derived.Test.YtcgpdijpppcbiaaGreatDoorQ05
import Derived.Outline
namespace Go.Proofs.YtcgpdijpppcbiaaGreatDoor
open Go.RowKit
set_option linter.unusedVariables false
set_option linter.unusedSimpArgs false
namespace Wt
open Kc Mk
theorem laidOutP : laidOutB Tryz.prog = true := by kernel_rfl
theorem rowKH : (75 : TypeId) < Tryz.prog.types.size := of_decide_eq_true (by kernel_rfl)
theorem lawH : WideMaps.KeyLaw Tryz.prog 75 := deep_law_laid laidOutP (m := 2) (by omega) rowKH (by kernel_rfl) (by kernel_rfl)
theorem mapM_some {α β : Type} {f : α → Option β} {g : α → β} : ∀ (l : List α), (∀ a ∈ l, f a = some (g a)) → l.mapM f = some (l.map g)
  | [], _ => rfl
  | a :: l, h => by
    rw [List.mapM_cons, h a (by simp), mapM_some l (fun x hx => h x (by simp [hx]))]
    rfl
theorem wfB (x : Bt) : (Lit.int .u8 (Bv x)).wf = true := by
  have := Bv_bd x
  have h1 : IntKind.u8.min = 0 := rfl
  have h2 : IntKind.u8.max = 255 := rfl
  simp only [Lit.wf, h1, h2, Bool.and_eq_true, decide_eq_true_eq]
  omega
theorem typesSucc : ∃ m, Tryz.prog.types.size = m + 1 := ⟨Tryz.prog.types.size - 1, by have : 0 < Tryz.prog.types.size := of_decide_eq_true (by kernel_rfl); omega⟩
theorem cellsU8 : Tryz.prog.cellsOf 5 = 1 := by kernel_rfl
theorem cellsHh : Tryz.prog.cellsOf 75 = 32 := by kernel_rfl
theorem keyTypeH : Tryz.prog.keyType 75 = true := by kernel_rfl
theorem keyH (x : Hx) : keyOf Tryz.prog 75 (dv x) = some (.string (keyBytes (((List.range 32).map fun i => [Lit.int .u8 (Bv (x i))]).flatten))) := by
  obtain ⟨m, hm⟩ := typesSucc
  have hf : (dv x).formed Tryz.prog 75 = true := by simp [dv, Value.formed, undH, cellsHh, tab_size]
  have hl : Tryz.prog.keyLits (Tryz.prog.types.size + 1) 75 (dv x).cells.toList = some (((List.range 32).map fun i => [Lit.int .u8 (Bv (x i))]).flatten) := by
    unfold Program.keyLits
    simp only [undH]
    have hlen : (dv x).cells.toList.length = Tryz.prog.cellsOf 75 := by rw [cellsHh]; simp [dv, Value.cells, tab]
    rw [if_pos hlen, mapM_some (g := fun i => [Lit.int .u8 (Bv (x i))])]
    · rfl
    · intro i hi
      have hi' : i < 32 := by simpa using hi
      have e : ((dv x).cells.toList.drop (i * Tryz.prog.cellsOf 5)).take (Tryz.prog.cellsOf 5) = [bv (x i)] := by
        rw [cellsU8]
        simp only [dv, Value.cells, tab, Nat.mul_one]
        apply List.ext_getElem?
        intro j
        rcases j with _ | j
        · simp [hi']
        · simp [List.getElem?_take]
      rw [e, hm]
      unfold Program.keyLits
      simp only [undU8, bv]
      rw [if_pos ⟨trivial, wfB _⟩]
  unfold keyOf
  simp only [undH, keyTypeH, hf, hl]
  rfl
/-- A digest's bytes, as what tells two apart. -/
def key (x : Hx) : List Bt := (List.range 32).map x
theorem key_at {x y : Hx} (h : key x = key y) (i : Nat) (hi : i < 32) : x i = y i := by
  have := congrArg (fun l => l[i]?) h
  simpa [key, hi] using this
theorem key_of {x y : Hx} (h : ∀ i, i < 32 → x i = y i) : key x = key y := List.map_congr_left fun i hi => h i (by simpa using hi)
theorem dv_key {x y : Hx} : dv x = dv y ↔ key x = key y := by
  constructor
  · intro h
    refine key_of fun i hi => ?_
    have h' : tab 32 (fun i => bv (x i)) = tab 32 fun i => bv (y i) := by unfold dv at h; injection h
    have := tab_ext h' i hi
    unfold bv at this
    injection this with _ h2
    exact Bv_inj h2
  · intro h
    unfold dv
    rw [tab_cong fun i hi => by rw [key_at h i hi]]
theorem dv_of {x y : Hx} (h : key x = key y) : dv x = dv y := dv_key.2 h
section
variable {β : Type}
/-- What stands at a key. -/
def look (M : List (Hx × β)) (h : Hx) : Option β := (M.find? fun p => key p.1 == key h).map (·.2)
def has (M : List (Hx × β)) (h : Hx) : Bool := M.any fun p => key p.1 == key h
def putM (M : List (Hx × β)) (h : Hx) (v : β) : List (Hx × β) := if has M h then M.map (fun p => if key p.1 == key h then (p.1, v) else p) else M ++ [(h, v)]
def Apart (M : List (Hx × β)) : Prop := M.Pairwise fun p q => key p.1 ≠ key q.1
theorem find_at {M : List (Hx × β)} (hA : Apart M) {j : Nat} {p : Hx × β} {h : Hx} (hj : M[j]? = some p) (hp : key p.1 = key h) : M.find? (fun p => key p.1 == key h) = some p := by
  induction M generalizing j with
  | nil => simp at hj
  | cons q M ih =>
    obtain ⟨h1, h2⟩ := List.pairwise_cons.1 hA
    cases j with
    | zero => simp at hj; subst hj; simp [List.find?_cons, hp]
    | succ j =>
      have hj' : M[j]? = some p := by simpa using hj
      have hne : key q.1 ≠ key h := by rw [← hp]; exact h1 p (List.mem_of_getElem? hj')
      rw [List.find?_cons, show (key q.1 == key h) = false from by simpa using hne]
      exact ih h2 hj'
theorem look_at {M : List (Hx × β)} (hA : Apart M) {j : Nat} {p : Hx × β} {h : Hx} (hj : M[j]? = some p) (hp : key p.1 = key h) : look M h = some p.2 := by
  unfold look; rw [find_at hA hj hp]; rfl
theorem look_none {M : List (Hx × β)} {h : Hx} (hn : ∀ p ∈ M, key p.1 ≠ key h) : look M h = none := by
  unfold look
  rw [List.find?_eq_none.2 (fun p hp => by simpa using hn p hp)]; rfl
theorem has_at {M : List (Hx × β)} {j : Nat} {p : Hx × β} {h : Hx} (hj : M[j]? = some p) (hp : key p.1 = key h) : has M h = true := by
  unfold has; exact List.any_eq_true.2 ⟨p, List.mem_of_getElem? hj, by simpa using hp⟩
theorem has_none {M : List (Hx × β)} {h : Hx} (hn : ∀ p ∈ M, key p.1 ≠ key h) : has M h = false := by
  unfold has; exact List.any_eq_false.2 fun p hp => by simpa using hn p hp
theorem map_at {M : List (Hx × β)} (hA : Apart M) {j : Nat} {p : Hx × β} {h : Hx} (v : β) (hj : M[j]? = some p) (hp : key p.1 = key h) :
    M.map (fun p => if key p.1 == key h then (p.1, v) else p) = M.set j (p.1, v) := by
  induction M generalizing j with
  | nil => simp at hj
  | cons q M ih =>
    obtain ⟨h1, h2⟩ := List.pairwise_cons.1 hA
    cases j with
    | zero =>
      simp at hj; subst hj
      simp only [List.map_cons, List.set_cons_zero, show (key q.1 == key h) = true from by simpa using hp, if_true]
      congr 1
      refine (List.map_congr_left fun r hr => ?_).trans (List.map_id' M)
      rw [show (key r.1 == key h) = false from by simpa using fun e => h1 r hr (hp.trans e.symm)]; rfl
    | succ j =>
      have hj' : M[j]? = some p := by simpa using hj
      have hne : key q.1 ≠ key h := by rw [← hp]; exact h1 p (List.mem_of_getElem? hj')
      simp only [List.map_cons, List.set_cons_succ, show (key q.1 == key h) = false from by simpa using hne]
      rw [ih h2 hj']; rfl
theorem apart_put {M : List (Hx × β)} (hA : Apart M) (h : Hx) (v : β) : Apart (putM M h v) := by
  unfold putM
  split
  · unfold Apart
    rw [List.pairwise_map]
    refine hA.imp fun {a b} hab => ?_
    split <;> split <;> exact hab
  · rename_i hn
    refine List.pairwise_append.2 ⟨hA, by simp, fun a ha b hb => ?_⟩
    simp only [List.mem_singleton] at hb
    subst hb
    intro e
    apply hn
    unfold has
    exact List.any_eq_true.2 ⟨a, ha, by simpa using e⟩
/-- A block is a map that holds these pairs. -/
def IsMp (V : β → Value) (w : World) (b : Nat) (M : List (Hx × β)) : Prop :=
  ∃ es clock, w.heap[b]? = some (.map es clock) ∧ es.toList.map (fun e => (e.key, e.val)) = M.map (fun p => (dv p.1, V p.2)) ∧ Apart M
variable {V : β → Value} {w w' : World} {b : Nat} {M : List (Hx × β)}
theorem IsMp.lt (h : IsMp V w b M) : b < w.heap.size := by obtain ⟨_, _, hb, _⟩ := h; exact (Array.getElem?_eq_some_iff.1 hb).1
theorem IsMp.same (h : IsMp V w b M) (hb : w'.heap[b]? = w.heap[b]?) : IsMp V w' b M := by obtain ⟨es, c, h1, h2⟩ := h; exact ⟨es, c, hb.trans h1, h2⟩
theorem IsMp.kept {S : Nat → Prop} (h : IsMp V w b M) (hk : Kept S w w') (hn : ¬ S b) : IsMp V w' b M := h.same (hk.block b h.lt hn)
theorem IsMp.below (h : IsMp V w b M) (hb : Below w.heap.size w w') : IsMp V w' b M := h.same (hb.block b h.lt)
theorem IsMp.new (V : β → Value) (w : World) : IsMp V (w.alloc (.map #[] 0)) w.heap.size [] := ⟨#[], 0, (MapKept.heap_alloc w _).1, rfl, by simp [Apart]⟩
theorem IsMp.alloc (h : IsMp V w b M) (o : Obj) : IsMp V (w.alloc o) b M := h.same (Below.heap_alloc w o b h.lt)
/-- How a key is found. -/
theorem find_run {es : Array MapEntry} (he : es.toList.map (fun e => (e.key, e.val)) = M.map (fun p => (dv p.1, V p.2))) (w : World) (h : Hx) :
    ((Instr.findKey 75 (dv h) es.toList).run Tryz.prog w = .ok none w ∧ ∀ p ∈ M, key p.1 ≠ key h) ∨
    ∃ j e p, (Instr.findKey 75 (dv h) es.toList).run Tryz.prog w = .ok (some (j, e.val)) w ∧ es.toList[j]? = some e ∧ M[j]? = some p ∧ e.key = dv p.1 ∧ e.val = V p.2 ∧ key p.1 = key h := by
  have hk : ∀ e ∈ es.toList, ∃ l, keyOf Tryz.prog 75 e.key = some l := fun e hm => by
    have : (e.key, e.val) ∈ M.map (fun p => (dv p.1, V p.2)) := by rw [← he]; exact List.mem_map.2 ⟨e, hm, rfl⟩
    obtain ⟨p, _, hp⟩ := List.mem_map.1 this
    injection hp with h1 h2
    exact ⟨_, by rw [← h1]; exact keyH p.1⟩
  rcases lawH.find w (keyH h) es.toList hk with ⟨h1, h2⟩ | ⟨j, e, h1, h2, h3⟩
  · refine .inl ⟨h1, fun p hp hkk => ?_⟩
    have : (dv p.1, V p.2) ∈ es.toList.map (fun e => (e.key, e.val)) := by rw [he]; exact List.mem_map.2 ⟨p, hp, rfl⟩
    obtain ⟨e, hm, hee⟩ := List.mem_map.1 this
    injection hee with h3 h4
    exact h2 e hm (h3.trans (dv_of hkk))
  · have : (es.toList.map (fun e => (e.key, e.val)))[j]? = some (e.key, e.val) := by rw [List.getElem?_map, h2]; rfl
    rw [he, List.getElem?_map] at this
    cases hM : M[j]? with
    | none => rw [hM] at this; cases this
    | some p =>
      rw [hM] at this
      simp only [Option.map_some, Option.some.injEq, Prod.mk.injEq] at this
      exact .inr ⟨j, e, p, h1, h2, hM, this.1.symm, this.2.symm, dv_key.1 (this.1.trans h3)⟩
/-- 'v, ok := m[k]'. -/
theorem IsMp.look_ok {t e : TypeId} {z : Value} (h : IsMp V w b M) (ht : Tryz.prog.underlying t = some (.map 75 e)) (hz : (zeroValue e).run Tryz.prog w = .ok z w) (k : Hx) :
    (Instr.lookup t (.map (some b)) (dv k) true).run Tryz.prog w = .ok (.tuple #[((look M k).map V).getD z, .bool (has M k)]) w := by
  obtain ⟨es, clock, hb, he, hA⟩ := h
  rcases find_run he w k with ⟨h1, h2⟩ | ⟨j, e0, p, h1, h2, h3, h4, h5, h6⟩
  · simp [Instr.lookup, run_underlying ht, MapKept.run_getObj_map hb, lawH.check w _ (keyH k), h1, hz, Result.andThen, look_none h2, has_none h2]
  · simp [Instr.lookup, run_underlying ht, MapKept.run_getObj_map hb, lawH.check w _ (keyH k), h1, Result.andThen, look_at hA h3 h6, has_at h3 h6, h5]
/-- 'm[k] = v'. -/
theorem IsMp.store {t e : TypeId} (h : IsMp V w b M) (ht : Tryz.prog.underlying t = some (.map 75 e)) (k : Hx) (v : β) :
    ∃ w', (Instr.mapUpdate t (.map (some b)) (dv k) (V v)).run Tryz.prog w = .ok () w' ∧ IsMp V w' b (putM M k v) ∧ Kept (· = b) w w' ∧ w'.heap.size = w.heap.size := by
  obtain ⟨es, clock, hb, he, hA⟩ := h
  have hK : ∀ o, Kept (· = b) w (ChangeMaps.setBlock w b o) ∧ (ChangeMaps.setBlock w b o).heap.size = w.heap.size := fun o =>
    ⟨⟨rfl, rfl, rfl, by simp [ChangeMaps.setBlock], fun i _ hi => ChangeMaps.heap_setBlock_other hb _ hi⟩, by simp [ChangeMaps.setBlock]⟩
  rcases find_run he w k with ⟨h1, h2⟩ | ⟨j, e0, p, h1, h2, h3, h4, h5, h6⟩
  · refine ⟨ChangeMaps.setBlock w b (.map (es.push ⟨dv k, V v, clock⟩) (clock + 1)), ?_, ⟨_, _, ChangeMaps.heap_setBlock_same hb _, ?_, apart_put hA k v⟩, hK _⟩
    · simp [Instr.mapUpdate, run_underlying ht, MapKept.run_getObj_map hb, lawH.check w false (keyH k), h1, MapKept.run_setObj_map _ hb, Result.andThen, ChangeMaps.setBlock]
    · unfold putM
      rw [has_none h2]
      simp [he]
  · have hj : es[j]? = some e0 := by simpa using h2
    have hkk : e0.key = dv k := h4.trans (dv_of h6)
    refine ⟨ChangeMaps.setBlock w b (.map (es.modify j (fun e' => { e' with key := dv k, val := V v })) clock), ?_, ⟨_, _, ChangeMaps.heap_setBlock_same hb _, ?_, apart_put hA k v⟩, hK _⟩
    · simp [Instr.mapUpdate, run_underlying ht, MapKept.run_getObj_map hb, lawH.check w false (keyH k), h1, hj, hkk, lawH.stays w (keyH k), MapKept.run_setObj_map _ hb, Result.andThen, ChangeMaps.setBlock]
    · rw [Array.toList_modify, ChangeMaps.modify_eq_set _ _ _ _ h2, List.map_set, he]
      unfold putM
      rw [has_at h3 h6, if_pos rfl, map_at hA v h3 h6, List.map_set]
      simp only [dv_of h6]
/-- 'len(m)'. -/
theorem IsMp.len {t e ty : TypeId} (h : IsMp V w b M) (ht : Tryz.prog.underlying t = some (.map 75 e)) : (Builtin.len_ #[t] ty #[.map (some b)]).run Tryz.prog w = .ok (.int .i64 M.length) w := by
  obtain ⟨es, clock, hb, he, hA⟩ := h
  have hs : es.size = M.length := by have := congrArg List.length he; simpa using this
  simp [Builtin.len_, run_underlying ht, MapKept.run_getObj_map hb, Result.andThen, hs, goInt]
end
end Wt
end Go.Proofs.YtcgpdijpppcbiaaGreatDoor
namespace Go.Proofs.YtcgpdijpppcbiaaGreatDoor
open Go.RowKit
set_option linter.unusedVariables false
namespace Wt
open Kc Mk
abbrev Px := Nat → Bt
/-- The value of a preimage. -/
def pv (p : Px) : Value := .agg (tab 64 fun i => bv (p i))
def uv (_ : Unit) : Value := .agg #[]
theorem undMP : Tryz.prog.underlying 97 = some (.map 75 73) := by kernel_rfl
def zp : Px := fun _ => 0#8
theorem zeroP (w : World) : (zeroValue 73).run Tryz.prog w = .ok (pv zp) w := by kernel_rfl
/-- The digest of a preimage. -/
def pre (p : Px) : List Bt := (List.range 64).map p
def hs (p : Px) : Hx := sum (pre p)
theorem pre_len (p : Px) : (pre p).length = 64 := by simp [pre]
theorem pre_at (p : Px) (j : Nat) (hj : j < 64) : (pre p).getD j 0#8 = p j := by simp [pre, hj]
def v4 (a b c d : Value) : Nat → Value
  | 0 => a
  | 1 => b
  | 2 => c
  | _ => d
/-- A block of four cells. -/
def Box4 (w : World) (q T : Nat) (a b c d : Value) : Prop := IsTab w q T 4 (v4 a b c d)
section
variable {w w' : World} {q T : Nat} {a b c d x : Value}
theorem Box4.k0 (h : Box4 w q T a b c d) : w.cell? ⟨q, 0, none⟩ = some a := h.cell 0 (by decide)
theorem Box4.k1 (h : Box4 w q T a b c d) : w.cell? ⟨q, 1, none⟩ = some b := h.cell 1 (by decide)
theorem Box4.k2 (h : Box4 w q T a b c d) : w.cell? ⟨q, 2, none⟩ = some c := h.cell 2 (by decide)
theorem Box4.k3 (h : Box4 w q T a b c d) : w.cell? ⟨q, 3, none⟩ = some d := h.cell 3 (by decide)
theorem Box4.f (h : Box4 w q T a b c d) (i : Nat) : w.frozen? ⟨q, i, none⟩ = false := h.fz i
theorem Box4.lt (h : Box4 w q T a b c d) : q < w.heap.size := IsTab.lt h
theorem Box4.p0 (h : Box4 w q T a b c d) (x : Value) : Box4 (w.setCell ⟨q, 0, none⟩ x) q T x b c d := IsTab.cong (IsTab.set h 0 x) fun i hi => by
  rcases i with _ | _ | _ | i <;> rfl
theorem Box4.p1 (h : Box4 w q T a b c d) (x : Value) : Box4 (w.setCell ⟨q, 1, none⟩ x) q T a x c d := IsTab.cong (IsTab.set h 1 x) fun i hi => by
  rcases i with _ | _ | _ | i <;> rfl
theorem Box4.p2 (h : Box4 w q T a b c d) (x : Value) : Box4 (w.setCell ⟨q, 2, none⟩ x) q T a b x d := IsTab.cong (IsTab.set h 2 x) fun i hi => by
  rcases i with _ | _ | _ | i <;> rfl
theorem Box4.p3 (h : Box4 w q T a b c d) (x : Value) : Box4 (w.setCell ⟨q, 3, none⟩ x) q T a b c x := IsTab.cong (IsTab.set h 3 x) fun i hi => by
  rcases i with _ | _ | _ | _ | i <;> first | rfl | omega
theorem Box4.new (w : World) (T : Nat) (a b c d : Value) : Box4 (w.alloc (.cells #[a, b, c, d] T)) w.heap.size T a b c d := IsTab.new w T 4 (v4 a b c d)
theorem Box4.same (h : Box4 w q T a b c d) (hb : w'.heap[q]? = w.heap[q]?) : Box4 w' q T a b c d := hb.trans h
theorem Box4.kept {S : Nat → Prop} (h : Box4 w q T a b c d) (hk : Kept S w w') (hn : ¬ S q) : Box4 w' q T a b c d := h.same (hk.block q h.lt hn)
end
theorem IsTab.kept {S : Nat → Prop} {w w' : World} {q T n : Nat} {g : Nat → Value} (h : IsTab w q T n g) (hk : Kept S w w') (hn : ¬ S q) : IsTab w' q T n g := (hk.block q h.lt hn).trans h
/-- What stores have in common: the first preimages, and a clash. -/
structure IsKin (w : World) (kb fb : Nat) (g : Nat → Value) (fd : Bool) (F : List (Hx × Px)) : Prop where
  tab : IsTab w kb 112 130 g
  c0 : g 0 = .map (some fb)
  cl : ∀ i, 1 ≤ i → i < 129 → ∃ x : Bt, g i = bv x
  fd : g 129 = .bool fd
  map : IsMp pv w fb F
theorem IsKin.ne {w : World} {kb fb : Nat} {g : Nat → Value} {fd : Bool} {F : List (Hx × Px)} (h : IsKin w kb fb g fd F) : kb ≠ fb := fun e => by
  obtain ⟨es, c, hb, _⟩ := h.map
  have := h.tab
  unfold IsTab at this
  rw [e, hb] at this
  cases this
theorem IsKin.kept {S : Nat → Prop} {w w' : World} {kb fb : Nat} {g : Nat → Value} {fd : Bool} {F : List (Hx × Px)} (h : IsKin w kb fb g fd F) (hk : Kept S w w') (h1 : ¬ S kb) (h2 : ¬ S fb) : IsKin w' kb fb g fd F :=
  ⟨Wt.IsTab.kept h.tab hk h1, h.c0, h.cl, h.fd, h.map.kept hk h2⟩
def Kin (w : World) (kb fb : Nat) : Prop := ∃ g fd F, IsKin w kb fb g fd F
theorem Kin.kept {S : Nat → Prop} {w w' : World} {kb fb : Nat} (h : Kin w kb fb) (hk : Kept S w w') (h1 : ¬ S kb) (h2 : ¬ S fb) : Kin w' kb fb := by
  obtain ⟨g, fd, F, h⟩ := h; exact ⟨g, fd, F, h.kept hk h1 h2⟩
theorem Kin.lt {w : World} {kb fb : Nat} (h : Kin w kb fb) : kb < w.heap.size ∧ fb < w.heap.size := by
  obtain ⟨g, fd, F, h⟩ := h; exact ⟨h.tab.lt, h.map.lt⟩
/-- What a store knows: its preimages, and what was asked. -/
structure Sto where
  pres : List (Hx × Px)
  asked : List Hx
def fl (l : List Hx) : List Value := flat l.length fun k => l.getD k fun _ => 0#8
/-- What of a store is its own: its four cells, its preimages, and what was asked, as a row and as a set. All blocks of it lie in T. -/
structure IsSto (w : World) (T : Nat → Prop) (s kb : Nat) (S : Sto) (pb : Nat) (av : Value) (sv : Option Nat) : Prop where
  box : Box4 w s 102 (.map (some pb)) av (.map sv) (.pointer (some ⟨kb, 0, none⟩))
  pres : IsMp pv w pb S.pres
  row : w.ownsRow 0 75 32 av S.asked.length (fl S.asked)
  seen : (S.asked = [] ∧ sv = none) ∨ ∃ qb, sv = some qb ∧ qb ≠ pb ∧ T qb ∧ IsMp uv w qb (S.asked.map fun h => (h, ()))
  ts : T s
  tp : T pb
  ta : ∀ k, av.ownBlock = some k → T k ∧ k ≠ s
theorem map_ne {β : Type} {V : β → Value} {w : World} {q b T n : Nat} {g : Nat → Value} {M : List (Hx × β)} (h : IsTab w q T n g) (k : IsMp V w b M) : q ≠ b := fun e => by
  obtain ⟨es, c, hb, _⟩ := k
  unfold IsTab at h
  rw [e, hb] at h
  cases h
theorem map_row {β : Type} {V : β → Value} {w : World} {b base e size n : Nat} {v : Value} {xs : List Value} {M : List (Hx × β)} (h : w.ownsRow base e size v n xs) (k : IsMp V w b M) : v.ownBlock ≠ some b := fun hv => by
  obtain ⟨es, c, hb, _⟩ := k
  rcases h.2 with ⟨rfl, _⟩ | ⟨g, cap, cur, rfl, _, hg, _⟩
  · cases hv
  · cases hv
    rw [hb] at hg
    cases hg
section
variable {w w' : World} {T T' : Nat → Prop} {s kb pb : Nat} {S : Sto} {av : Value} {sv : Option Nat}
theorem IsSto.kept {U : Nat → Prop} (h : IsSto w T s kb S pb av sv) (hk : Kept U w w') (hn : ∀ k, T k → ¬ U k) : IsSto w' T s kb S pb av sv :=
  ⟨h.box.kept hk (hn _ h.ts), h.pres.kept hk (hn _ h.tp), hk.row h.row fun k e => hn _ (h.ta k e).1,
    h.seen.imp id fun ⟨qb, h1, h2, h3, h4⟩ => ⟨qb, h1, h2, h3, h4.kept hk (hn _ h3)⟩, h.ts, h.tp, h.ta⟩
theorem IsSto.mono (h : IsSto w T s kb S pb av sv) (hT : ∀ k, T k → T' k) : IsSto w T' s kb S pb av sv :=
  ⟨h.box, h.pres, h.row, h.seen.imp id fun ⟨qb, h1, h2, h3, h4⟩ => ⟨qb, h1, h2, hT _ h3, h4⟩, hT _ h.ts, hT _ h.tp, fun k e => ⟨hT _ (h.ta k e).1, (h.ta k e).2⟩⟩
end
/-- What a set of blocks has grown to. -/
def Grow (T : Nat → Prop) (w w' : World) : Nat → Prop := fun k => T k ∨ (w.heap.size ≤ k ∧ k < w'.heap.size)
/-- Above the package variables that are asked for. -/
def lowB : Nat := 0 + 1
/-- A store and its kin; no block is both's, none is a package variable's. -/
structure IsSt (w : World) (T : Nat → Prop) (s kb fb : Nat) (S : Sto) : Prop where
  own : ∃ pb av sv, IsSto w T s kb S pb av sv
  kin : Kin w kb fb
  n1 : ¬ T kb
  n2 : ¬ T fb
  lo : ∀ k, (T k ∨ k = kb ∨ k = fb) → lowB ≤ k
theorem IsSt.kept {U T : Nat → Prop} {w w' : World} {s kb fb : Nat} {S : Sto} (h : IsSt w T s kb fb S) (hk : Kept U w w') (hn : ∀ k, T k → ¬ U k) (h1 : ¬ U kb) (h2 : ¬ U fb) : IsSt w' T s kb fb S := by
  obtain ⟨pb, av, sv, ho⟩ := h.own
  exact ⟨⟨pb, av, sv, ho.kept hk hn⟩, h.kin.kept hk h1 h2, h.n1, h.n2, h.lo⟩
theorem IsSt.below {T : Nat → Prop} {w w' : World} {s kb fb : Nat} {S : Sto} (h : IsSt w T s kb fb S) (hb : Below w.heap.size w w') : IsSt w' T s kb fb S := by
  have hk : Kept (fun _ => False) w w' := Kept.ofBelow hb
  exact h.kept hk (fun _ _ h => h) id id
theorem IsSt.grow {T : Nat → Prop} {w0 w w' : World} {s kb fb : Nat} {S : Sto} (h : IsSt w T s kb fb S) (h1 : kb < w0.heap.size) (h2 : fb < w0.heap.size) : IsSt w (Grow T w0 w') s kb fb S := by
  obtain ⟨pb, av, sv, ho⟩ := h.own
  have hl := h.lo kb (.inr (.inl rfl))
  refine ⟨⟨pb, av, sv, ho.mono fun k hk => .inl hk⟩, h.kin, fun hh => hh.elim h.n1 fun hh => by omega, fun hh => hh.elim h.n2 fun hh => by omega, fun k hk => ?_⟩
  rcases hk with (hk | hk) | hk
  · exact h.lo k (.inl hk)
  · omega
  · exact h.lo k (.inr hk)
/-- What a call on a store may write. -/
def Foot (T : Nat → Prop) (kb fb : Nat) : Nat → Prop := fun k => T k ∨ k = kb ∨ k = fb
end Wt
end Go.Proofs.YtcgpdijpppcbiaaGreatDoor
namespace Go.Proofs.YtcgpdijpppcbiaaGreatDoor
open Go.RowKit
set_option linter.unusedVariables false
set_option linter.unusedSimpArgs false
section
variable {P : Program}
theorem wp_mapUpdate {o : Oper} {a : Act} {w : World} {K : Act → World → Prop} {Q : Exit → Act → World → Prop} (d : Option Tmp) (hd : o.dst = d) (t : TypeId) (m x v : Operand) (vm vx vv : Value) (ho : o.op = .mapUpdate t m x v) (hm : a.eval m = vm) (hx : a.eval x = vx) (hv : a.eval v = vv)
    (w' : World) (hr : (Instr.mapUpdate t vm vx vv).run P w = .ok () w') (h : K (a.put d undef) w') : Oper.wp P o a w K Q := by
  subst hd
  unfold Oper.wp
  simp [execOp, ho, hm, hx, hv, hr, Result.andThen]
  exact h
theorem wpList_buildE {ops : Array Oper} {rest : List Oper} {o : Oper} {a : Act} {w : World} {Q : Exit → Act → World → Prop} (hg : o.guard = none) (t : TypeId) (parts : Array (Nat × Operand)) (ho : o.op = .build t parts)
    (vs : Array (Nat × Value)) (hx : (parts.map fun (i, x) => (i, a.eval x)) = vs) (v : Value) (hl : (Instr.build t vs).run P w = .ok v w)
    (h : wpList P ops Q rest (a.put o.dst v) w) : wpList P ops Q (o :: rest) a w :=
  wpList_plain hg fun _ hK => by
    unfold Oper.wp execOp
    simp only [ho]
    rw [hx]
    simp [hl, Result.andThen]
    exact hK _ _ h
end
namespace Wt
open Kc Mk
theorem loadHb {w : World} {q : Nat} {x : Hx} (h : IsTab w q 75 32 fun i => bv (x i)) : (Instr.loadAt 75 (.pointer (some ⟨q, 0, none⟩))).run Tryz.prog w = .ok (.agg (tab 32 fun i => bv (x i))) w := by
  have h5 : At5 w q 0 1 (fun _ => x) := fun k j hk hj => by
    rw [show 0 + 32 * k + j = j from by omega]; exact h.cell j hj
  exact loadH h5 (k := 0) (p := 0) (by decide) (by decide)
theorem loadPb {w : World} {q : Nat} {p : Px} (h : IsTab w q 73 64 fun i => bv (p i)) : (Instr.loadAt 73 (.pointer (some ⟨q, 0, none⟩))).run Tryz.prog w = .ok (.agg (tab 64 fun i => bv (p i))) w := by
  refine run_loadAt_mid w q 0 _ ((List.range 64).map fun i => bv (p i)) _ (fun j v hv => ?_) undPre rfl (by rw [List.length_map, List.length_range]; exact infPre')
  obtain ⟨hj, rfl⟩ := List.getElem?_eq_some_iff.1 hv
  simp only [List.length_map, List.length_range] at hj
  have := h.cell j hj
  simpa using this
theorem undPre64 : Tryz.prog.underlying 73 = some (.array 64 5) := by kernel_rfl
def same64 (a b : Px) : Bool := (List.range 64).all fun i => Bv (a i) == Bv (b i)
theorem neq64 (a b : Px) (w : World) : (binOp .neq 73 (.agg (tab 64 fun i => bv (a i))) (.agg (tab 64 fun i => bv (b i)))).run Tryz.prog w = .ok (.bool (!same64 a b)) w := by
  have h := run_equal_tab (P := Tryz.prog) w 9998 73 5 64 .u8 undPre64 undU8 sizeU8 (fun i => Bv (a i)) (fun i => Bv (b i))
  rw [run_neq_struct]
  exact (congrArg (fun r => r.andThen fun b w' => Result.ok (Value.bool (!b)) w') h)
theorem look_pv {w : World} {b : Nat} {M : List (Hx × Px)} (h : IsMp pv w b M) (k : Hx) (r : Px) (hr : (look M k).getD zp = r) :
    (Instr.lookup 97 (.map (some b)) (.agg (tab 32 fun i => bv (k i))) true).run Tryz.prog w = .ok (.tuple #[.agg (tab 64 fun i => bv (r i)), .bool (has M k)]) w := by
  have := h.look_ok undMP (zeroP w) k
  have e : ((look M k).map pv).getD (pv zp) = pv r := by rw [← hr]; cases look M k <;> rfl
  rw [e] at this
  exact this
theorem store_pv {w : World} {b : Nat} {M : List (Hx × Px)} (h : IsMp pv w b M) (k : Hx) (p : Px) :
    ∃ w', (Instr.mapUpdate 97 (.map (some b)) (.agg (tab 32 fun i => bv (k i))) (.agg (tab 64 fun i => bv (p i)))).run Tryz.prog w = .ok () w' ∧ IsMp pv w' b (putM M k p) ∧ Kept (· = b) w w' ∧ w'.heap.size = w.heap.size := h.store undMP k p
theorem kept_of {S : Nat → Prop} {w a b : World} (h1 : Below w.heap.size w a) (h2 : Kept S a b) : Kept S w b := (Kept.ofBelow h1).trans h2 fun _ _ h => h
theorem updv_same (g : Nat → Value) (i : Nat) (x : Value) : updv g i x i = x := by simp [updv]
theorem updv_ne (g : Nat → Value) {i j : Nat} (x : Value) (h : j ≠ i) : updv g i x j = g j := by simp [updv, h]
theorem build2 (r p : Px) (w : World) : (Instr.build 110 #[(0, .agg (tab 64 fun i => bv (r i))), (1, .agg (tab 64 fun i => bv (p i)))]).run Tryz.prog w = .ok (.agg (tab 128 fun i => if i < 64 then bv (r i) else bv (p (i - 64)))) w := by kernel_rfl
theorem inf2P' : (Tryz.prog.info? 110).map (·.size) = some 128 := by kernel_rfl
theorem inf2P (g : Nat → Value) : (Tryz.prog.info? 110).map (·.size) = some (tab 128 g).size := by rw [tab_size]; exact inf2P'
theorem kept_setCells {S : Nat → Prop} {a : World} {q : Nat} (hq : S q) : ∀ (vs : List Value) (o : Nat) (w : World), Kept S a w → Kept S a (w.setCells q o vs)
  | [], _, _, h => h
  | v :: r, o, w, h => kept_setCells hq r (o + 1) _ (h.setCell (.inl hq) v)
theorem set_clash {w : World} {kb fb : Nat} {g : Nat → Value} {fd : Bool} {F : List (Hx × Px)} (h : IsKin w kb fb g fd F) (r p : Px) :
    ∃ g', IsKin (w.setCells kb 1 (tab 128 fun i => if i < 64 then bv (r i) else bv (p (i - 64))).toList) kb fb g' fd F ∧ Kept (fun k => k = kb ∨ k = fb) w (w.setCells kb 1 (tab 128 fun i => if i < 64 then bv (r i) else bv (p (i - 64))).toList) := by
  have hl : (tab 128 fun i => if i < 64 then bv (r i) else bv (p (i - 64))).toList.length = 128 := by simp [tab]
  refine ⟨_, ⟨IsTab.setCells _ 1 w g h.tab, ?_, fun i h1 h2 => ?_, ?_, h.map.kept (kept_setCells (S := fun k => k = kb) rfl _ _ _ (Kept.refl _ _)) (fun e => h.ne e.symm)⟩, kept_setCells (.inl rfl) _ _ _ (Kept.refl _ _)⟩
  · rw [if_neg (by omega)]; exact h.c0
  · rw [if_pos (by rw [hl]; omega)]
    have : (tab 128 fun i => if i < 64 then bv (r i) else bv (p (i - 64))).toList.getD (i - 1) (.int .i64 0) = if i - 1 < 64 then bv (r (i - 1)) else bv (p (i - 1 - 64)) := by
      simp [tab, show i - 1 < 128 from by omega]
    rw [this]
    split
    · exact ⟨_, rfl⟩
    · exact ⟨_, rfl⟩
  · rw [if_neg (by rw [hl]; omega)]; exact h.fd
theorem set_found {w : World} {kb fb : Nat} {g : Nat → Value} {fd : Bool} {F : List (Hx × Px)} (h : IsKin w kb fb g fd F) : IsKin (w.setCell ⟨kb, 129, none⟩ (.bool true)) kb fb (updv g 129 (.bool true)) true F :=
  ⟨h.tab.set 129 _, by rw [updv_ne _ _ (by decide)]; exact h.c0, fun i h1 h2 => by rw [updv_ne _ _ (by omega)]; exact h.cl i h1 h2, updv_same _ _ _, h.map.kept ((Kept.refl (fun k => k = kb) _).setCell (.inl rfl) _) (fun e => h.ne e.symm)⟩
set_option maxHeartbeats 4000000 in
set_option maxRecDepth 100000 in
theorem note_walk (kb fb : Nat) (h : Hx) (p : Px) (w : World) (hk : Kin w kb fb) :
    Calls Tryz.prog 51 #[.pointer (some ⟨kb, 0, none⟩), dv h, pv p] w fun e w' => e = .returned (.tuple #[]) ∧ Kin w' kb fb ∧ Kept (fun k => k = kb ∨ k = fb) w w' := by
  obtain ⟨g, fd, F, hk⟩ := hk
  have z1 := zeroPre
  generalize hz : (tab 64 fun _ => bv 0#8) = zq at *
  have HZ := Lib.hid hz
  clear hz
  have HI : Hid ((Tryz.prog.info? 73).map (·.size) = some zq.size) := Lib.hid (by rw [← HZ.out]; exact infPre _)
  generalize hr : (look F h).getD zp = r at *
  have HR := Lib.hid hr
  clear hr
  unfold dv pv
  have HK := Lib.hid hk
  clear hk
  go_enter Tryz.func51, Tryz.ntmps51
  go_upto_region 1 with (fail)
  have H1 : Hid (IsTab ((w.alloc (.cells (tab 32 fun i => bv (h i)) 75)).alloc (.cells (tab 64 fun i => bv (p i)) 73)) w.heap.size 75 32 (fun i => bv (h i)) ∧ IsTab ((w.alloc (.cells (tab 32 fun i => bv (h i)) 75)).alloc (.cells (tab 64 fun i => bv (p i)) 73)) (w.heap.size + 1) 73 64 (fun i => bv (p i)) ∧
      Below w.heap.size w ((w.alloc (.cells (tab 32 fun i => bv (h i)) 75)).alloc (.cells (tab 64 fun i => bv (p i)) 73)) ∧ ((w.alloc (.cells (tab 32 fun i => bv (h i)) 75)).alloc (.cells (tab 64 fun i => bv (p i)) 73)).heap.size = w.heap.size + 2) := by
    refine Lib.hid ⟨(IsTab.new w _ 32 _).alloc _, ?_, ((Below.refl _ _).alloc (Nat.le_refl _) _).alloc (by simp) _, by simp⟩
    have := IsTab.new (w.alloc (.cells (tab 32 fun i => bv (h i)) 75)) 73 64 fun i => bv (p i)
    simpa using this
  generalize (w.alloc (.cells (tab 32 fun i => bv (h i)) 75)).alloc (.cells (tab 64 fun i => bv (p i)) 73) = y00 at *
  have HK0 : Hid (IsKin y00 kb fb g fd F) := Lib.hid (HK.out.kept (Kept.ofBelow (S := fun _ => False) H1.out.2.2.1) id id)
  have H1 : Hid (IsTab y00.drew w.heap.size 75 32 (fun i => bv (h i)) ∧ IsTab y00.drew (w.heap.size + 1) 73 64 (fun i => bv (p i)) ∧ Below w.heap.size w y00.drew ∧ y00.drew.heap.size = w.heap.size + 2) := Lib.hid ⟨H1.out.1.drew, H1.out.2.1.drew, H1.out.2.2.1.drew, H1.out.2.2.2⟩
  have HK0 : Hid (IsKin y00.drew kb fb g fd F) := Lib.hid (HK0.out.kept (Kept.drew (Kept.refl (fun _ => False) _)) id id)
  have HB : Hid (∀ y, Below y00.drew.heap.size y00.drew y → (Instr.lookup 97 (.map (some fb)) (.agg (tab 32 fun i => bv (h i))) true).run Tryz.prog y = .ok (.tuple #[.agg (tab 64 fun i => bv (r i)), .bool (has F h)]) y) := Lib.hid fun y hy => look_pv (HK0.out.map.below hy) h r HR.out
  generalize hb : has F h = b at *
  have HBB := Lib.hid hb
  clear hb
  refine wp_region_og (fun y : World => Below y00.drew.heap.size y00.drew y) (.take 0 (.take 1 (.take 2 (.take 3 (.take 4 (.take 5 (.take 6 (.take 7 (.take 8 (.one 9 (.one 10 (.one 11 .done)))))))))))) (by kernel_rfl) (by kernel_rfl) (Below.refl _ _) ?_
  generalize y00.drew = y0 at *
  refine og_tk (some 9) (.pointer (some ⟨kb, 0, none⟩)) rfl rfl (by go_simp) (fun _ _ => by simp [execOp, go_sem]) ?_
  simp only [Act.put, pS]
  refine og_tk (some 10) (.pointer (some ⟨kb, 0, none⟩)) rfl rfl (by go_simp) (fun _ _ => by simp [execOp, go_sem]) ?_
  simp only [Act.put, pS]
  refine og_tk (some 11) (.pointer (some ⟨kb, 0, none⟩)) rfl rfl (by go_simp) (fun _ _ => by simp [execOp, go_sem]) ?_
  simp only [Act.put, pS]
  refine og_ld (some 12) 97 (.tmp 11) (.pointer (some ⟨kb, 0, none⟩)) (.map (some fb)) rfl rfl (by go_simp) rfl rfl (fun y hy => by have h := (keep1 hy (HK0.out.tab.cell 0 (by decide))).trans (congrArg some HK0.out.c0); simp [Instr.loadAt, go_sem, h, Tryz.underlying97]) ?_
  simp only [Act.put, pS]
  refine og_ld (some 13) 75 (.tmp 4) (.pointer (some ⟨w.heap.size, 0, none⟩)) (.agg (tab 32 fun i => bv (h i))) rfl rfl (by go_simp) rfl rfl (fun y hy => loadHb (H1.out.1.below hy)) ?_
  simp only [Act.put, pS]
  refine og_tk (some 14) (.tuple #[.agg (tab 64 fun i => bv (r i)), .bool b]) rfl rfl (by go_simp) (fun y hy => by have h := HB.out y hy; simp [execOp, go_sem, h, Result.andThen]) ?_
  simp only [Act.put, pS]
  refine og_tk (some 8) (.tuple #[.agg (tab 64 fun i => bv (r i)), .bool b]) rfl rfl (by go_simp) (fun _ _ => by simp [execOp, go_sem]) ?_
  simp only [Act.put, pS]
  refine og_tk (some 15) (.agg (tab 64 fun i => bv (r i))) rfl rfl (by go_simp) (fun _ _ => by simp [execOp, go_sem]) ?_
  simp only [Act.put, pS]
  refine og_tk (some 16) (.bool b) rfl rfl (by go_simp) (fun _ _ => by simp [execOp, go_sem]) ?_
  simp only [Act.put, pS]
  have HN : Hid (Below y0.heap.size y0 (y0.alloc (.cells zq 73)) ∧ IsTab (y0.alloc (.cells zq 73)) y0.heap.size 73 64 (fun _ => bv 0#8)) := Lib.hid ⟨(Below.refl _ _).alloc (Nat.le_refl _) _, by rw [← HZ.out]; exact IsTab.new y0 _ 64 _⟩
  refine og_f rfl (by go_simp) fun K hK => ?_
  go_simp
  refine hK _ _ (HN.out.1) ?_
  clear hK K
  generalize y0.alloc (.cells zq 73) = y1 at *
  have HS : Hid (Below y0.heap.size y0 (y1.setRow y0.heap.size (tab 64 fun i => bv (r i))) ∧ IsTab (y1.setRow y0.heap.size (tab 64 fun i => bv (r i))) y0.heap.size 73 64 (fun i => bv (r i))) := Lib.hid ⟨below_setRow HN.out.1 (Nat.le_refl _) _, HN.out.2.row⟩
  refine og_f rfl (by go_simp) fun K hK => ?_
  refine wp_store_row 73 (.tmp 6) (.tmp 15) rfl y0.heap.size (tab 64 fun i => bv (r i)) rfl rfl 73 _ HN.out.2 (infPre _) (by rw [tab_size, tab_size]) (one_bv _ _) ?_
  refine hK _ _ HS.out.1 ?_
  clear hK K
  simp only [Act.put, pS]
  generalize y1.setRow y0.heap.size (tab 64 fun i => bv (r i)) = y2 at *
  refine og_f rfl (by go_simp) fun K hK => ?_
  go_simp
  refine hK _ _ (HS.out.1) ?_
  clear hK K
  refine og_done (NoPanic.normal ?_)
  have HK2 : Hid (IsKin y2 kb fb g fd F) := Lib.hid (HK0.out.kept (Kept.ofBelow (S := fun _ => False) HS.out.1) id id)
  have H2 : Hid (IsTab y2 w.heap.size 75 32 (fun i => bv (h i)) ∧ IsTab y2 (w.heap.size + 1) 73 64 (fun i => bv (p i)) ∧ Below w.heap.size w y2) := Lib.hid ⟨H1.out.1.below HS.out.1, H1.out.2.1.below HS.out.1, bl H1.out.2.2.1 HS.out.1⟩
  have H3 : Hid (IsTab y2 y0.heap.size 73 64 (fun i => bv (r i))) := Lib.hid HS.out.2
  have HQ : Hid (y0.heap.size = w.heap.size + 2 ∧ kb < w.heap.size ∧ fb < w.heap.size) := Lib.hid ⟨H1.out.2.2.2, HK.out.tab.lt, HK.out.map.lt⟩
  clear HS HN HB HK0 H1 HZ HI HK
  generalize y0.heap.size = q2 at *
  cases b
  · skip
    go_upto_region 3 with (fail)
    have HK3 : Hid (IsKin y2.drew kb fb g fd F) := Lib.hid (HK2.out.kept (Kept.drew (Kept.refl (fun _ => False) _)) id id)
    have H4 : Hid (IsTab y2.drew w.heap.size 75 32 (fun i => bv (h i)) ∧ IsTab y2.drew (w.heap.size + 1) 73 64 (fun i => bv (p i)) ∧ Below w.heap.size w y2.drew) := Lib.hid ⟨H2.out.1.drew, H2.out.2.1.drew, H2.out.2.2.drew⟩
    obtain ⟨w4, hr4, hm4, hk4, hs4⟩ := store_pv HK3.out.map h p
    have HR4 := Lib.hid hr4
    have HM4 := Lib.hid (And.intro hm4 hk4)
    clear hr4 hm4 hk4 hs4
    refine wp_region_og (fun y : World => Kept (fun k => k = fb) y2.drew y) (.take 0 (.take 1 (.take 2 (.take 3 (.take 4 (.take 5 (.one 6 .done))))))) (by kernel_rfl) (by kernel_rfl) (Kept.refl _ _) ?_
    generalize y2.drew = y3 at *
    refine og_tk (some 19) (.pointer (some ⟨kb, 0, none⟩)) rfl rfl (by go_simp) (fun _ _ => by simp [execOp, go_sem]) ?_
    simp only [Act.put, pS]
    refine og_tk (some 20) (.pointer (some ⟨kb, 0, none⟩)) rfl rfl (by go_simp) (fun _ _ => by simp [execOp, go_sem]) ?_
    simp only [Act.put, pS]
    refine og_tk (some 21) (.pointer (some ⟨kb, 0, none⟩)) rfl rfl (by go_simp) (fun _ _ => by simp [execOp, go_sem]) ?_
    simp only [Act.put, pS]
    refine og_ld (some 22) 97 (.tmp 21) (.pointer (some ⟨kb, 0, none⟩)) (.map (some fb)) rfl rfl (by go_simp) rfl rfl (fun y hy => by have h := (hy.cell HK3.out.ne (HK3.out.tab.cell 0 (by decide))).trans (congrArg some HK3.out.c0); simp [Instr.loadAt, go_sem, h, Tryz.underlying97]) ?_
    simp only [Act.put, pS]
    refine og_ld (some 23) 75 (.tmp 4) (.pointer (some ⟨w.heap.size, 0, none⟩)) (.agg (tab 32 fun i => bv (h i))) rfl rfl (by go_simp) rfl rfl (fun y hy => loadHb (Wt.IsTab.kept H4.out.1 hy (by have := HQ.out; omega))) ?_
    simp only [Act.put, pS]
    refine og_ld (some 24) 73 (.tmp 5) (.pointer (some ⟨(w.heap.size + 1), 0, none⟩)) (.agg (tab 64 fun i => bv (p i))) rfl rfl (by go_simp) rfl rfl (fun y hy => loadPb (Wt.IsTab.kept H4.out.2.1 hy (by have := HQ.out; omega))) ?_
    simp only [Act.put, pS]
    refine og_f rfl (by go_simp) fun K hK => ?_
    refine wp_mapUpdate none rfl 97 (.tmp 22) (.tmp 23) (.tmp 24) _ _ _ rfl rfl rfl rfl w4 HR4.out ?_
    refine hK _ _ HM4.out.2 ?_
    clear hK K
    simp only [Act.put, pS]
    refine og_done (NoPanic.normal ?_)
    go_wp2_with (fail)
    refine bodyPost_ret (v := .tuple #[]) (by simp [results, Tryz.results51, go_sem]) rfl ⟨rfl, ⟨g, fd, putM F h p, ⟨Wt.IsTab.kept HK3.out.tab HM4.out.2 HK3.out.ne, HK3.out.c0, HK3.out.cl, HK3.out.fd, HM4.out.1⟩⟩, (kept_of H4.out.2.2 HM4.out.2).mono fun k _ hk => .inr hk⟩
  · have hne := neq64 r p
    have HL1 := Lib.hid (loadPb H3.out)
    have HL2 := Lib.hid (loadPb H2.out.2.1)
    have HNE := Lib.hid hne
    clear hne
    generalize hs : same64 r p = sm at *
    clear hs HBB
    have k129 : y2.cell? ⟨kb, 129, none⟩ = some (.bool fd) := (HK2.out.tab.cell 129 (by decide)).trans (congrArg some HK2.out.fd)
    have HKK : Hid (Kept (fun k => k = kb ∨ k = fb) w y2) := Lib.hid (Kept.ofBelow H2.out.2.2)
    cases sm
    · have hne := HNE.out
      cases fd
      · skip
        go_upto_region 5 with (first | ((with_reducible refine wpList_loadE (P := Tryz.prog) (w := y2) (ty := 73) (x := .tmp 6) (p := .pointer (some ⟨q2, 0, none⟩)) (v := .agg (tab 64 fun i => bv (r i))) ?_ ?_ ?_ HL1.out ?_); (· exact rfl); (· exact rfl); (· exact rfl)) | ((with_reducible refine wpList_loadE (P := Tryz.prog) (w := y2) (ty := 73) (x := .tmp 5) (p := .pointer (some ⟨w.heap.size + 1, 0, none⟩)) (v := .agg (tab 64 fun i => bv (p i))) ?_ ?_ ?_ HL2.out ?_); (· exact rfl); (· exact rfl); (· exact rfl)))
        have HTH : Hid (y2.there kb 1 (tab 128 fun i => if i < 64 then bv (r i) else bv (p (i - 64))).size) := Lib.hid (by rw [tab_size]; exact HK2.out.tab.thereAt 1 128 (by decide))
        have HK6 := Lib.hid (set_clash HK2.out r p)
        have HI6 := Lib.hid (inf2P fun i => if i < 64 then bv (r i) else bv (p (i - 64)))
        have HO6 : Hid ((tab 128 fun i => if i < 64 then bv (r i) else bv (p (i - 64))).all (·.oneCell') = true) := Lib.hid (tab_one fun i => by split <;> rfl)
        have HBB := Lib.hid (build2 r p)
        generalize (tab 128 fun i => if i < 64 then bv (r i) else bv (p (i - 64))) = c2 at *
        go_upto_region 6 with (first
          | (first | ((with_reducible refine wpList_loadE (P := Tryz.prog) (w := y2) (ty := 73) (x := .tmp 6) (p := .pointer (some ⟨q2, 0, none⟩)) (v := .agg (tab 64 fun i => bv (r i))) ?_ ?_ ?_ HL1.out ?_); (· exact rfl); (· exact rfl); (· exact rfl)) | ((with_reducible refine wpList_loadE (P := Tryz.prog) (w := y2) (ty := 73) (x := .tmp 5) (p := .pointer (some ⟨w.heap.size + 1, 0, none⟩)) (v := .agg (tab 64 fun i => bv (p i))) ?_ ?_ ?_ HL2.out ?_); (· exact rfl); (· exact rfl); (· exact rfl)))
          | ((with_reducible refine wpList_buildE (P := Tryz.prog) (w := y2) ?_ 110 #[(0, .tmp 36), (1, .tmp 37)] ?_ #[(0, .agg (tab 64 fun i => bv (r i))), (1, .agg (tab 64 fun i => bv (p i)))] ?_ (.agg c2) (HBB.out y2) ?_); (· exact rfl); (· exact rfl); (· simp [go_sem]))
          | ((with_reducible refine wpList_store_mid (P := Tryz.prog) (w := y2) ?_ 110 (.tmp 40) (.tmp 38) ?_ kb 1 c2 ?_ ?_ HTH.out HI6.out HO6.out ?_); (· exact rfl); (· exact rfl); (· exact rfl); (· exact rfl)))
        generalize y2.setCells kb 1 c2.toList = y6 at *
        obtain ⟨g6, hk6, ht6⟩ := HK6.out
        have HK7 := Lib.hid (And.intro hk6 ht6)
        have k1 : y6.cell? ⟨kb, 129, none⟩ = some (.bool false) := (hk6.tab.cell 129 (by decide)).trans (congrArg some hk6.fd)
        have f1 := hk6.tab.fz 129
        clear HBB hne k129 HK6 hk6 ht6
        go_wp2_with (fail)
        refine bodyPost_end (v := .tuple #[]) (by simp [results, Tryz.results51, go_sem]) rfl ⟨rfl, ⟨_, true, F, set_found HK7.out.1⟩, (HKK.out.trans HK7.out.2 fun _ _ h => h).setCell (.inl (.inl rfl)) _⟩
      · skip
        go_wp2_with (first | ((with_reducible refine wpList_loadE (P := Tryz.prog) (w := y2) (ty := 73) (x := .tmp 6) (p := .pointer (some ⟨q2, 0, none⟩)) (v := .agg (tab 64 fun i => bv (r i))) ?_ ?_ ?_ HL1.out ?_); (· exact rfl); (· exact rfl); (· exact rfl)) | ((with_reducible refine wpList_loadE (P := Tryz.prog) (w := y2) (ty := 73) (x := .tmp 5) (p := .pointer (some ⟨w.heap.size + 1, 0, none⟩)) (v := .agg (tab 64 fun i => bv (p i))) ?_ ?_ ?_ HL2.out ?_); (· exact rfl); (· exact rfl); (· exact rfl)))
        refine bodyPost_end (v := .tuple #[]) (by simp [results, Tryz.results51, go_sem]) rfl ⟨rfl, ⟨g, _, F, HK2.out⟩, HKK.out⟩
    · have hne := HNE.out
      go_wp2_with (first | ((with_reducible refine wpList_loadE (P := Tryz.prog) (w := y2) (ty := 73) (x := .tmp 6) (p := .pointer (some ⟨q2, 0, none⟩)) (v := .agg (tab 64 fun i => bv (r i))) ?_ ?_ ?_ HL1.out ?_); (· exact rfl); (· exact rfl); (· exact rfl)) | ((with_reducible refine wpList_loadE (P := Tryz.prog) (w := y2) (ty := 73) (x := .tmp 5) (p := .pointer (some ⟨w.heap.size + 1, 0, none⟩)) (v := .agg (tab 64 fun i => bv (p i))) ?_ ?_ ?_ HL2.out ?_); (· exact rfl); (· exact rfl); (· exact rfl)))
      refine bodyPost_end (v := .tuple #[]) (by simp [results, Tryz.results51, go_sem]) rfl ⟨rfl, ⟨g, _, F, HK2.out⟩, HKK.out⟩
end Wt
end Go.Proofs.YtcgpdijpppcbiaaGreatDoor
