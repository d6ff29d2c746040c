/- Merged of Evv Za Zb. Own work. -/
import Derived.Test.YtcgpdijpppcbiaaDoorP16
import Derived.Test.YtcgpdijpppcbiaaDoorP07
import Derived.Test.YtcgpdijpppcbiaaDoorP02
import Derived.DeepKeys4
import Derived.Maps.Keyed
import Derived.Carry
import Derived.Test.YtcgpdijpppcbiaaDoorP04
namespace Go.Proofs.YtcgpdijpppcbiaaDoor
open Go.RowKit
set_option linter.unusedVariables false
namespace Ir
open Kc
theorem ap_ok (k a b c : Nat) (h1 : 1 ≤ k) (h25 : k ≤ 25) (ha : a < 18446744073709551616) (hb : b < 18446744073709551616) (hc : c < 18446744073709551616) : W1.App k a b c (ap k a b c) := by
  by_cases e1 : k = 1
  · subst e1
    refine ⟨by unfold ap; rw [if_pos rfl]; omega, fun w => (W1.app_add a b c w (W1.okU ha) (W1.okU hb)).mono ?_⟩
    rintro e w' ⟨he, hw⟩
    refine ⟨?_, 0, hw.symm⟩
    rw [he]
    have e : ((a : Int) + (b : Int)) % 18446744073709551616 = (((a + b) % 18446744073709551616 : Nat) : Int) := by omega
    unfold ap U.add
    rw [if_pos rfl, e]
  by_cases e2 : k = 2
  · subst e2
    refine ⟨by unfold ap; rw [if_neg (by decide), if_pos rfl]; omega, fun w => (W1.app_sub a b c w (W1.okU ha) (W1.okU hb)).mono ?_⟩
    rintro e w' ⟨he, hw⟩
    refine ⟨?_, 0, hw.symm⟩
    rw [he]
    have e : ((a : Int) - (b : Int)) % 18446744073709551616 = (((a + (18446744073709551616 - b)) % 18446744073709551616 : Nat) : Int) := by omega
    unfold ap U.sub
    rw [if_neg (by decide), if_pos rfl, e]
  unfold ap
  rw [if_neg e1, if_neg e2, dif_pos ⟨h1, h25, ha, hb, hc⟩]
  exact Classical.choose_spec (W1.apply_ex k a b c h1 h25 ha hb hc)
def x1 (op : Int) (n : Nat) : Ef := .cons op n .nil .nil
/-- The first of the fixed programs, and the second. -/
def body1 : Sf := .cons 1 0 1 0 (.cons 27 0 .nil (.cons 27 1 .nil .nil)) 0 0 .nil .nil .nil (.cons 1 1 2 0 (.cons 27 1 .nil (.cons 26 1 .nil .nil)) 0 0 .nil .nil .nil .nil)
def stm1 : Sf := .cons 1 1 26 5 .nil 0 0 .nil .nil .nil (.cons 4 0 27 1 .nil 0 0 .nil body1 .nil (.cons 5 0 27 0 .nil 0 0 .nil .nil .nil .nil))
def p1 : List Fn := [⟨0, 2, stm1⟩]
def p2 : List Fn := [⟨0, 0, .cons 5 0 28 0 (.cons 26 2048 .nil .nil) 0 0 .nil .nil .nil .nil⟩]
/-- A program that never ends. -/
def p3 : List Fn := [⟨0, 0, .cons 4 0 26 1 .nil 0 0 .nil .nil .nil .nil⟩]
def s0 (fuel : Nat) : Rs := ⟨fun _ => 0, fuel, 0, false, 0⟩
theorem right1 : right p1 = true := by rfl
theorem right2 : right p2 = true := by rfl
theorem right3 : right p3 = true := by rfl
set_option maxRecDepth 100000 in
set_option maxHeartbeats 4000000 in
theorem run1 : ∃ s', stepCall p1 (sem p1 ap 20 6) 0 0 (fun _ => 0) (s0 999) = some (15, true, s') ∧ s'.dry = false := by
  have h : (stepCall p1 (sem p1 ap 20 6) 0 0 (fun _ => 0) (s0 999)).map (fun r => (r.1, r.2.1, r.2.2.dry)) = some (15, true, false) := by rfl
  cases hc : stepCall p1 (sem p1 ap 20 6) 0 0 (fun _ => 0) (s0 999) with
  | none => rw [hc] at h; cases h
  | some r =>
    obtain ⟨v, ok, s'⟩ := r
    rw [hc] at h
    simp at h
    obtain ⟨rfl, rfl, h⟩ := h
    exact ⟨s', rfl, h⟩
set_option maxRecDepth 100000 in
theorem run2 : ∃ s', stepCall p2 (sem p2 ap 3 6) 0 0 (fun _ => 0) (s0 9) = some (0, false, s') ∧ s'.dry = false ∧ s'.exit = wrong ∧ s'.used = 3 := by
  have h : (stepCall p2 (sem p2 ap 3 6) 0 0 (fun _ => 0) (s0 9)).map (fun r => (r.1, r.2.1, r.2.2.dry, r.2.2.exit, r.2.2.used)) = some (0, false, false, wrong, 3) := by rfl
  cases hc : stepCall p2 (sem p2 ap 3 6) 0 0 (fun _ => 0) (s0 9) with
  | none => rw [hc] at h; cases h
  | some r =>
    obtain ⟨v, ok, s'⟩ := r
    rw [hc] at h
    simp at h
    obtain ⟨rfl, rfl, h⟩ := h
    exact ⟨s', rfl, h.1, h.2.1, h.2.2⟩
theorem never (d : Nat) (L : Nat → Nat) (v : Nat) : ∀ (g G : Nat) (s : Rs), s.fuel - s.used < g → ∃ s', wh (sem p3 ap G (d + 1)) 26 1 .nil .nil g L v s = some (2, L, v, s') ∧ s'.dry = true
  | 0, _, _, h => by omega
  | g + 1, G, s, h => by
    unfold wh
    by_cases hu : s.used < s.fuel
    · rw [if_pos hu]
      have hval : (sem p3 ap G (d + 1)).val 26 1 .nil L s.up = if s.up.used < s.up.fuel then some (1, true, s.up.up) else some (0, false, s.up.dried) := by
        show stepVal p3 ap (sem p3 ap G d) 26 1 .nil L s.up = _
        unfold stepVal
        rfl
      rw [hval]
      by_cases hu2 : s.up.used < s.up.fuel
      · rw [if_pos hu2]
        dsimp only
        rw [if_neg (by decide)]
        have hl : (sem p3 ap G (d + 1)).lst .nil L v s.up.up = some (0, L, v, s.up.up) := rfl
        rw [hl]
        dsimp only
        rw [if_pos rfl]
        exact never d L v g G s.up.up (by show s.fuel - (s.used + 1 + 1) < g; have : s.used + 1 < s.fuel := hu2; omega)
      · rw [if_neg hu2]
        exact ⟨s.up.dried, rfl, rfl⟩
    · rw [if_neg hu]
      exact ⟨s.dried, rfl, rfl⟩
theorem run3 (fuel : Nat) : ∃ s', stepCall p3 (sem p3 ap (fuel + 1) 3) 0 0 (fun _ => 0) (s0 fuel) = some (0, false, s') ∧ s'.dry = true := by
  obtain ⟨s', h, hd⟩ := never 1 (fun i => if i < 0 then 0 else 0) 0 (fuel + 1) (fuel + 1) (s0 fuel) (by show fuel - 0 < fuel + 1; omega)
  refine ⟨s', ?_, hd⟩
  have hl : (sem p3 ap (fuel + 1) 3).lst (.cons 4 0 26 1 .nil 0 0 .nil .nil .nil .nil) (fun i => if i < 0 then 0 else 0) 0 (s0 fuel) = some (2, (fun i => if i < 0 then 0 else 0), 0, s') := by
    show evL (sem p3 ap (fuel + 1) 2) (fuel + 1) _ _ _ _ = _
    unfold evL stepSt
    rw [if_pos rfl, h]
    rfl
  show (match (sem p3 ap (fuel + 1) 3).lst (.cons 4 0 26 1 .nil 0 0 .nil .nil .nil .nil) (fun i => if i < 0 then 0 else 0) 0 (s0 fuel) with
    | none => none
    | some (way, _, v, s') => if way = 2 then some (0, false, s') else some (v, true, s')) = _
  rw [hl]
  rfl
end Ir
end Go.Proofs.YtcgpdijpppcbiaaDoor
namespace Go.Proofs.YtcgpdijpppcbiaaDoor
open Go.RowKit
set_option linter.unusedVariables false
set_option linter.unusedSimpArgs false
namespace Wt
open Kc Mk
theorem laidOutP : laidOutB Tryd.prog = true := by kernel_rfl
theorem rowKH : (60 : TypeId) < Tryd.prog.types.size := of_decide_eq_true (by kernel_rfl)
theorem lawH : WideMaps.KeyLaw Tryd.prog 60 := deep_law_laid laidOutP (m := 2) (by omega) rowKH (by kernel_rfl) (by kernel_rfl)
theorem mapM_some {α β : Type} {f : α → Option β} {g : α → β} : ∀ (l : List α), (∀ a ∈ l, f a = some (g a)) → l.mapM f = some (l.map g)
  | [], _ => rfl
  | a :: l, h => by
    rw [List.mapM_cons, h a (by simp), mapM_some l (fun x hx => h x (by simp [hx]))]
    rfl
theorem wfB (x : Bt) : (Lit.int .u8 (Bv x)).wf = true := by
  have := Bv_bd x
  have h1 : IntKind.u8.min = 0 := rfl
  have h2 : IntKind.u8.max = 255 := rfl
  simp only [Lit.wf, h1, h2, Bool.and_eq_true, decide_eq_true_eq]
  omega
theorem typesSucc : ∃ m, Tryd.prog.types.size = m + 1 := ⟨Tryd.prog.types.size - 1, by have : 0 < Tryd.prog.types.size := of_decide_eq_true (by kernel_rfl); omega⟩
theorem cellsU8 : Tryd.prog.cellsOf 5 = 1 := by kernel_rfl
theorem cellsHh : Tryd.prog.cellsOf 60 = 32 := by kernel_rfl
theorem keyTypeH : Tryd.prog.keyType 60 = true := by kernel_rfl
theorem keyH (x : Hx) : keyOf Tryd.prog 60 (dv x) = some (.string (keyBytes (((List.range 32).map fun i => [Lit.int .u8 (Bv (x i))]).flatten))) := by
  obtain ⟨m, hm⟩ := typesSucc
  have hf : (dv x).formed Tryd.prog 60 = true := by simp [dv, Value.formed, undH, cellsHh, tab_size]
  have hl : Tryd.prog.keyLits (Tryd.prog.types.size + 1) 60 (dv x).cells.toList = some (((List.range 32).map fun i => [Lit.int .u8 (Bv (x i))]).flatten) := by
    unfold Program.keyLits
    simp only [undH]
    have hlen : (dv x).cells.toList.length = Tryd.prog.cellsOf 60 := by rw [cellsHh]; simp [dv, Value.cells, tab]
    rw [if_pos hlen, mapM_some (g := fun i => [Lit.int .u8 (Bv (x i))])]
    · rfl
    · intro i hi
      have hi' : i < 32 := by simpa using hi
      have e : ((dv x).cells.toList.drop (i * Tryd.prog.cellsOf 5)).take (Tryd.prog.cellsOf 5) = [bv (x i)] := by
        rw [cellsU8]
        simp only [dv, Value.cells, tab, Nat.mul_one]
        apply List.ext_getElem?
        intro j
        rcases j with _ | j
        · simp [hi']
        · simp [List.getElem?_take]
      rw [e, hm]
      unfold Program.keyLits
      simp only [undU8, bv]
      rw [if_pos ⟨trivial, wfB _⟩]
  unfold keyOf
  simp only [undH, keyTypeH, hf, hl]
  rfl
/-- A digest's bytes, as what tells two apart. -/
def key (x : Hx) : List Bt := (List.range 32).map x
theorem key_at {x y : Hx} (h : key x = key y) (i : Nat) (hi : i < 32) : x i = y i := by
  have := congrArg (fun l => l[i]?) h
  simpa [key, hi] using this
theorem key_of {x y : Hx} (h : ∀ i, i < 32 → x i = y i) : key x = key y := List.map_congr_left fun i hi => h i (by simpa using hi)
theorem dv_key {x y : Hx} : dv x = dv y ↔ key x = key y := by
  constructor
  · intro h
    refine key_of fun i hi => ?_
    have h' : tab 32 (fun i => bv (x i)) = tab 32 fun i => bv (y i) := by unfold dv at h; injection h
    have := tab_ext h' i hi
    unfold bv at this
    injection this with _ h2
    exact Bv_inj h2
  · intro h
    unfold dv
    rw [tab_cong fun i hi => by rw [key_at h i hi]]
theorem dv_of {x y : Hx} (h : key x = key y) : dv x = dv y := dv_key.2 h
section
variable {β : Type}
/-- What stands at a key. -/
def look (M : List (Hx × β)) (h : Hx) : Option β := (M.find? fun p => key p.1 == key h).map (·.2)
def has (M : List (Hx × β)) (h : Hx) : Bool := M.any fun p => key p.1 == key h
def putM (M : List (Hx × β)) (h : Hx) (v : β) : List (Hx × β) := if has M h then M.map (fun p => if key p.1 == key h then (p.1, v) else p) else M ++ [(h, v)]
def Apart (M : List (Hx × β)) : Prop := M.Pairwise fun p q => key p.1 ≠ key q.1
theorem find_at {M : List (Hx × β)} (hA : Apart M) {j : Nat} {p : Hx × β} {h : Hx} (hj : M[j]? = some p) (hp : key p.1 = key h) : M.find? (fun p => key p.1 == key h) = some p := by
  induction M generalizing j with
  | nil => simp at hj
  | cons q M ih =>
    obtain ⟨h1, h2⟩ := List.pairwise_cons.1 hA
    cases j with
    | zero => simp at hj; subst hj; simp [List.find?_cons, hp]
    | succ j =>
      have hj' : M[j]? = some p := by simpa using hj
      have hne : key q.1 ≠ key h := by rw [← hp]; exact h1 p (List.mem_of_getElem? hj')
      rw [List.find?_cons, show (key q.1 == key h) = false from by simpa using hne]
      exact ih h2 hj'
theorem look_at {M : List (Hx × β)} (hA : Apart M) {j : Nat} {p : Hx × β} {h : Hx} (hj : M[j]? = some p) (hp : key p.1 = key h) : look M h = some p.2 := by
  unfold look; rw [find_at hA hj hp]; rfl
theorem look_none {M : List (Hx × β)} {h : Hx} (hn : ∀ p ∈ M, key p.1 ≠ key h) : look M h = none := by
  unfold look
  rw [List.find?_eq_none.2 (fun p hp => by simpa using hn p hp)]; rfl
theorem has_at {M : List (Hx × β)} {j : Nat} {p : Hx × β} {h : Hx} (hj : M[j]? = some p) (hp : key p.1 = key h) : has M h = true := by
  unfold has; exact List.any_eq_true.2 ⟨p, List.mem_of_getElem? hj, by simpa using hp⟩
theorem has_none {M : List (Hx × β)} {h : Hx} (hn : ∀ p ∈ M, key p.1 ≠ key h) : has M h = false := by
  unfold has; exact List.any_eq_false.2 fun p hp => by simpa using hn p hp
theorem map_at {M : List (Hx × β)} (hA : Apart M) {j : Nat} {p : Hx × β} {h : Hx} (v : β) (hj : M[j]? = some p) (hp : key p.1 = key h) :
    M.map (fun p => if key p.1 == key h then (p.1, v) else p) = M.set j (p.1, v) := by
  induction M generalizing j with
  | nil => simp at hj
  | cons q M ih =>
    obtain ⟨h1, h2⟩ := List.pairwise_cons.1 hA
    cases j with
    | zero =>
      simp at hj; subst hj
      simp only [List.map_cons, List.set_cons_zero, show (key q.1 == key h) = true from by simpa using hp, if_true]
      congr 1
      refine (List.map_congr_left fun r hr => ?_).trans (List.map_id' M)
      rw [show (key r.1 == key h) = false from by simpa using fun e => h1 r hr (hp.trans e.symm)]; rfl
    | succ j =>
      have hj' : M[j]? = some p := by simpa using hj
      have hne : key q.1 ≠ key h := by rw [← hp]; exact h1 p (List.mem_of_getElem? hj')
      simp only [List.map_cons, List.set_cons_succ, show (key q.1 == key h) = false from by simpa using hne]
      rw [ih h2 hj']; rfl
theorem apart_put {M : List (Hx × β)} (hA : Apart M) (h : Hx) (v : β) : Apart (putM M h v) := by
  unfold putM
  split
  · unfold Apart
    rw [List.pairwise_map]
    refine hA.imp fun {a b} hab => ?_
    split <;> split <;> exact hab
  · rename_i hn
    refine List.pairwise_append.2 ⟨hA, by simp, fun a ha b hb => ?_⟩
    simp only [List.mem_singleton] at hb
    subst hb
    intro e
    apply hn
    unfold has
    exact List.any_eq_true.2 ⟨a, ha, by simpa using e⟩
/-- A block is a map that holds these pairs. -/
def IsMp (V : β → Value) (w : World) (b : Nat) (M : List (Hx × β)) : Prop :=
  ∃ es clock, w.heap[b]? = some (.map es clock) ∧ es.toList.map (fun e => (e.key, e.val)) = M.map (fun p => (dv p.1, V p.2)) ∧ Apart M
variable {V : β → Value} {w w' : World} {b : Nat} {M : List (Hx × β)}
theorem IsMp.lt (h : IsMp V w b M) : b < w.heap.size := by obtain ⟨_, _, hb, _⟩ := h; exact (Array.getElem?_eq_some_iff.1 hb).1
theorem IsMp.same (h : IsMp V w b M) (hb : w'.heap[b]? = w.heap[b]?) : IsMp V w' b M := by obtain ⟨es, c, h1, h2⟩ := h; exact ⟨es, c, hb.trans h1, h2⟩
theorem IsMp.kept {S : Nat → Prop} (h : IsMp V w b M) (hk : Kept S w w') (hn : ¬ S b) : IsMp V w' b M := h.same (hk.block b h.lt hn)
theorem IsMp.below (h : IsMp V w b M) (hb : Below w.heap.size w w') : IsMp V w' b M := h.same (hb.block b h.lt)
theorem IsMp.new (V : β → Value) (w : World) : IsMp V (w.alloc (.map #[] 0)) w.heap.size [] := ⟨#[], 0, (MapKept.heap_alloc w _).1, rfl, by simp [Apart]⟩
theorem IsMp.alloc (h : IsMp V w b M) (o : Obj) : IsMp V (w.alloc o) b M := h.same (Below.heap_alloc w o b h.lt)
/-- How a key is found. -/
theorem find_run {es : Array MapEntry} (he : es.toList.map (fun e => (e.key, e.val)) = M.map (fun p => (dv p.1, V p.2))) (w : World) (h : Hx) :
    ((Instr.findKey 60 (dv h) es.toList).run Tryd.prog w = .ok none w ∧ ∀ p ∈ M, key p.1 ≠ key h) ∨
    ∃ j e p, (Instr.findKey 60 (dv h) es.toList).run Tryd.prog w = .ok (some (j, e.val)) w ∧ es.toList[j]? = some e ∧ M[j]? = some p ∧ e.key = dv p.1 ∧ e.val = V p.2 ∧ key p.1 = key h := by
  have hk : ∀ e ∈ es.toList, ∃ l, keyOf Tryd.prog 60 e.key = some l := fun e hm => by
    have : (e.key, e.val) ∈ M.map (fun p => (dv p.1, V p.2)) := by rw [← he]; exact List.mem_map.2 ⟨e, hm, rfl⟩
    obtain ⟨p, _, hp⟩ := List.mem_map.1 this
    injection hp with h1 h2
    exact ⟨_, by rw [← h1]; exact keyH p.1⟩
  rcases lawH.find w (keyH h) es.toList hk with ⟨h1, h2⟩ | ⟨j, e, h1, h2, h3⟩
  · refine .inl ⟨h1, fun p hp hkk => ?_⟩
    have : (dv p.1, V p.2) ∈ es.toList.map (fun e => (e.key, e.val)) := by rw [he]; exact List.mem_map.2 ⟨p, hp, rfl⟩
    obtain ⟨e, hm, hee⟩ := List.mem_map.1 this
    injection hee with h3 h4
    exact h2 e hm (h3.trans (dv_of hkk))
  · have : (es.toList.map (fun e => (e.key, e.val)))[j]? = some (e.key, e.val) := by rw [List.getElem?_map, h2]; rfl
    rw [he, List.getElem?_map] at this
    cases hM : M[j]? with
    | none => rw [hM] at this; cases this
    | some p =>
      rw [hM] at this
      simp only [Option.map_some, Option.some.injEq, Prod.mk.injEq] at this
      exact .inr ⟨j, e, p, h1, h2, hM, this.1.symm, this.2.symm, dv_key.1 (this.1.trans h3)⟩
/-- 'v, ok := m[k]'. -/
theorem IsMp.look_ok {t e : TypeId} {z : Value} (h : IsMp V w b M) (ht : Tryd.prog.underlying t = some (.map 60 e)) (hz : (zeroValue e).run Tryd.prog w = .ok z w) (k : Hx) :
    (Instr.lookup t (.map (some b)) (dv k) true).run Tryd.prog w = .ok (.tuple #[((look M k).map V).getD z, .bool (has M k)]) w := by
  obtain ⟨es, clock, hb, he, hA⟩ := h
  rcases find_run he w k with ⟨h1, h2⟩ | ⟨j, e0, p, h1, h2, h3, h4, h5, h6⟩
  · simp [Instr.lookup, run_underlying ht, MapKept.run_getObj_map hb, lawH.check w _ (keyH k), h1, hz, Result.andThen, look_none h2, has_none h2]
  · simp [Instr.lookup, run_underlying ht, MapKept.run_getObj_map hb, lawH.check w _ (keyH k), h1, Result.andThen, look_at hA h3 h6, has_at h3 h6, h5]
/-- 'm[k] = v'. -/
theorem IsMp.store {t e : TypeId} (h : IsMp V w b M) (ht : Tryd.prog.underlying t = some (.map 60 e)) (k : Hx) (v : β) :
    ∃ w', (Instr.mapUpdate t (.map (some b)) (dv k) (V v)).run Tryd.prog w = .ok () w' ∧ IsMp V w' b (putM M k v) ∧ Kept (· = b) w w' ∧ w'.heap.size = w.heap.size := by
  obtain ⟨es, clock, hb, he, hA⟩ := h
  have hK : ∀ o, Kept (· = b) w (ChangeMaps.setBlock w b o) ∧ (ChangeMaps.setBlock w b o).heap.size = w.heap.size := fun o =>
    ⟨⟨rfl, rfl, rfl, by simp [ChangeMaps.setBlock], fun i _ hi => ChangeMaps.heap_setBlock_other hb _ hi⟩, by simp [ChangeMaps.setBlock]⟩
  rcases find_run he w k with ⟨h1, h2⟩ | ⟨j, e0, p, h1, h2, h3, h4, h5, h6⟩
  · refine ⟨ChangeMaps.setBlock w b (.map (es.push ⟨dv k, V v, clock⟩) (clock + 1)), ?_, ⟨_, _, ChangeMaps.heap_setBlock_same hb _, ?_, apart_put hA k v⟩, hK _⟩
    · simp [Instr.mapUpdate, run_underlying ht, MapKept.run_getObj_map hb, lawH.check w false (keyH k), h1, MapKept.run_setObj_map _ hb, Result.andThen, ChangeMaps.setBlock]
    · unfold putM
      rw [has_none h2]
      simp [he]
  · have hj : es[j]? = some e0 := by simpa using h2
    have hkk : e0.key = dv k := h4.trans (dv_of h6)
    refine ⟨ChangeMaps.setBlock w b (.map (es.modify j (fun e' => { e' with key := dv k, val := V v })) clock), ?_, ⟨_, _, ChangeMaps.heap_setBlock_same hb _, ?_, apart_put hA k v⟩, hK _⟩
    · simp [Instr.mapUpdate, run_underlying ht, MapKept.run_getObj_map hb, lawH.check w false (keyH k), h1, hj, hkk, lawH.stays w (keyH k), MapKept.run_setObj_map _ hb, Result.andThen, ChangeMaps.setBlock]
    · rw [Array.toList_modify, ChangeMaps.modify_eq_set _ _ _ _ h2, List.map_set, he]
      unfold putM
      rw [has_at h3 h6, if_pos rfl, map_at hA v h3 h6, List.map_set]
      simp only [dv_of h6]
/-- 'len(m)'. -/
theorem IsMp.len {t e ty : TypeId} (h : IsMp V w b M) (ht : Tryd.prog.underlying t = some (.map 60 e)) : (Builtin.len_ #[t] ty #[.map (some b)]).run Tryd.prog w = .ok (.int .i64 M.length) w := by
  obtain ⟨es, clock, hb, he, hA⟩ := h
  have hs : es.size = M.length := by have := congrArg List.length he; simpa using this
  simp [Builtin.len_, run_underlying ht, MapKept.run_getObj_map hb, Result.andThen, hs, goInt]
end
end Wt
end Go.Proofs.YtcgpdijpppcbiaaDoor
namespace Go.Proofs.YtcgpdijpppcbiaaDoor
open Go.RowKit
set_option linter.unusedVariables false
namespace Wt
open Kc Mk
abbrev Px := Nat → Bt
/-- The value of a preimage. -/
def pv (p : Px) : Value := .agg (tab 64 fun i => bv (p i))
def uv (_ : Unit) : Value := .agg #[]
theorem undMP : Tryd.prog.underlying 77 = some (.map 60 58) := by kernel_rfl
def zp : Px := fun _ => 0#8
theorem zeroP (w : World) : (zeroValue 58).run Tryd.prog w = .ok (pv zp) w := by kernel_rfl
/-- The digest of a preimage. -/
def pre (p : Px) : List Bt := (List.range 64).map p
def hs (p : Px) : Hx := sum (pre p)
theorem pre_len (p : Px) : (pre p).length = 64 := by simp [pre]
theorem pre_at (p : Px) (j : Nat) (hj : j < 64) : (pre p).getD j 0#8 = p j := by simp [pre, hj]
def v4 (a b c d : Value) : Nat → Value
  | 0 => a
  | 1 => b
  | 2 => c
  | _ => d
/-- A block of four cells. -/
def Box4 (w : World) (q T : Nat) (a b c d : Value) : Prop := IsTab w q T 4 (v4 a b c d)
section
variable {w w' : World} {q T : Nat} {a b c d x : Value}
theorem Box4.k0 (h : Box4 w q T a b c d) : w.cell? ⟨q, 0, none⟩ = some a := h.cell 0 (by decide)
theorem Box4.k1 (h : Box4 w q T a b c d) : w.cell? ⟨q, 1, none⟩ = some b := h.cell 1 (by decide)
theorem Box4.k2 (h : Box4 w q T a b c d) : w.cell? ⟨q, 2, none⟩ = some c := h.cell 2 (by decide)
theorem Box4.k3 (h : Box4 w q T a b c d) : w.cell? ⟨q, 3, none⟩ = some d := h.cell 3 (by decide)
theorem Box4.f (h : Box4 w q T a b c d) (i : Nat) : w.frozen? ⟨q, i, none⟩ = false := h.fz i
theorem Box4.lt (h : Box4 w q T a b c d) : q < w.heap.size := IsTab.lt h
theorem Box4.p0 (h : Box4 w q T a b c d) (x : Value) : Box4 (w.setCell ⟨q, 0, none⟩ x) q T x b c d := IsTab.cong (IsTab.set h 0 x) fun i hi => by
  rcases i with _ | _ | _ | i <;> rfl
theorem Box4.p1 (h : Box4 w q T a b c d) (x : Value) : Box4 (w.setCell ⟨q, 1, none⟩ x) q T a x c d := IsTab.cong (IsTab.set h 1 x) fun i hi => by
  rcases i with _ | _ | _ | i <;> rfl
theorem Box4.p2 (h : Box4 w q T a b c d) (x : Value) : Box4 (w.setCell ⟨q, 2, none⟩ x) q T a b x d := IsTab.cong (IsTab.set h 2 x) fun i hi => by
  rcases i with _ | _ | _ | i <;> rfl
theorem Box4.p3 (h : Box4 w q T a b c d) (x : Value) : Box4 (w.setCell ⟨q, 3, none⟩ x) q T a b c x := IsTab.cong (IsTab.set h 3 x) fun i hi => by
  rcases i with _ | _ | _ | _ | i <;> first | rfl | omega
theorem Box4.new (w : World) (T : Nat) (a b c d : Value) : Box4 (w.alloc (.cells #[a, b, c, d] T)) w.heap.size T a b c d := IsTab.new w T 4 (v4 a b c d)
theorem Box4.same (h : Box4 w q T a b c d) (hb : w'.heap[q]? = w.heap[q]?) : Box4 w' q T a b c d := hb.trans h
theorem Box4.kept {S : Nat → Prop} (h : Box4 w q T a b c d) (hk : Kept S w w') (hn : ¬ S q) : Box4 w' q T a b c d := h.same (hk.block q h.lt hn)
end
theorem IsTab.kept {S : Nat → Prop} {w w' : World} {q T n : Nat} {g : Nat → Value} (h : IsTab w q T n g) (hk : Kept S w w') (hn : ¬ S q) : IsTab w' q T n g := (hk.block q h.lt hn).trans h
/-- What stores have in common: the first preimages, and a clash. -/
structure IsKin (w : World) (kb fb : Nat) (g : Nat → Value) (fd : Bool) (F : List (Hx × Px)) : Prop where
  tab : IsTab w kb 92 130 g
  c0 : g 0 = .map (some fb)
  cl : ∀ i, 1 ≤ i → i < 129 → ∃ x : Bt, g i = bv x
  fd : g 129 = .bool fd
  map : IsMp pv w fb F
theorem IsKin.ne {w : World} {kb fb : Nat} {g : Nat → Value} {fd : Bool} {F : List (Hx × Px)} (h : IsKin w kb fb g fd F) : kb ≠ fb := fun e => by
  obtain ⟨es, c, hb, _⟩ := h.map
  have := h.tab
  unfold IsTab at this
  rw [e, hb] at this
  cases this
theorem IsKin.kept {S : Nat → Prop} {w w' : World} {kb fb : Nat} {g : Nat → Value} {fd : Bool} {F : List (Hx × Px)} (h : IsKin w kb fb g fd F) (hk : Kept S w w') (h1 : ¬ S kb) (h2 : ¬ S fb) : IsKin w' kb fb g fd F :=
  ⟨Wt.IsTab.kept h.tab hk h1, h.c0, h.cl, h.fd, h.map.kept hk h2⟩
def Kin (w : World) (kb fb : Nat) : Prop := ∃ g fd F, IsKin w kb fb g fd F
theorem Kin.kept {S : Nat → Prop} {w w' : World} {kb fb : Nat} (h : Kin w kb fb) (hk : Kept S w w') (h1 : ¬ S kb) (h2 : ¬ S fb) : Kin w' kb fb := by
  obtain ⟨g, fd, F, h⟩ := h; exact ⟨g, fd, F, h.kept hk h1 h2⟩
theorem Kin.lt {w : World} {kb fb : Nat} (h : Kin w kb fb) : kb < w.heap.size ∧ fb < w.heap.size := by
  obtain ⟨g, fd, F, h⟩ := h; exact ⟨h.tab.lt, h.map.lt⟩
/-- What a store knows: its preimages, and what was asked. -/
structure Sto where
  pres : List (Hx × Px)
  asked : List Hx
def fl (l : List Hx) : List Value := flat l.length fun k => l.getD k fun _ => 0#8
/-- What of a store is its own: its four cells, its preimages, and what was asked, as a row and as a set. All blocks of it lie in T. -/
structure IsSto (w : World) (T : Nat → Prop) (s kb : Nat) (S : Sto) (pb : Nat) (av : Value) (sv : Option Nat) : Prop where
  box : Box4 w s 82 (.map (some pb)) av (.map sv) (.pointer (some ⟨kb, 0, none⟩))
  pres : IsMp pv w pb S.pres
  row : w.ownsRow 0 60 32 av S.asked.length (fl S.asked)
  seen : (S.asked = [] ∧ sv = none) ∨ ∃ qb, sv = some qb ∧ qb ≠ pb ∧ T qb ∧ IsMp uv w qb (S.asked.map fun h => (h, ()))
  ts : T s
  tp : T pb
  ta : ∀ k, av.ownBlock = some k → T k ∧ k ≠ s
theorem map_ne {β : Type} {V : β → Value} {w : World} {q b T n : Nat} {g : Nat → Value} {M : List (Hx × β)} (h : IsTab w q T n g) (k : IsMp V w b M) : q ≠ b := fun e => by
  obtain ⟨es, c, hb, _⟩ := k
  unfold IsTab at h
  rw [e, hb] at h
  cases h
theorem map_row {β : Type} {V : β → Value} {w : World} {b base e size n : Nat} {v : Value} {xs : List Value} {M : List (Hx × β)} (h : w.ownsRow base e size v n xs) (k : IsMp V w b M) : v.ownBlock ≠ some b := fun hv => by
  obtain ⟨es, c, hb, _⟩ := k
  rcases h.2 with ⟨rfl, _⟩ | ⟨g, cap, cur, rfl, _, hg, _⟩
  · cases hv
  · cases hv
    rw [hb] at hg
    cases hg
section
variable {w w' : World} {T T' : Nat → Prop} {s kb pb : Nat} {S : Sto} {av : Value} {sv : Option Nat}
theorem IsSto.kept {U : Nat → Prop} (h : IsSto w T s kb S pb av sv) (hk : Kept U w w') (hn : ∀ k, T k → ¬ U k) : IsSto w' T s kb S pb av sv :=
  ⟨h.box.kept hk (hn _ h.ts), h.pres.kept hk (hn _ h.tp), hk.row h.row fun k e => hn _ (h.ta k e).1,
    h.seen.imp id fun ⟨qb, h1, h2, h3, h4⟩ => ⟨qb, h1, h2, h3, h4.kept hk (hn _ h3)⟩, h.ts, h.tp, h.ta⟩
theorem IsSto.mono (h : IsSto w T s kb S pb av sv) (hT : ∀ k, T k → T' k) : IsSto w T' s kb S pb av sv :=
  ⟨h.box, h.pres, h.row, h.seen.imp id fun ⟨qb, h1, h2, h3, h4⟩ => ⟨qb, h1, h2, hT _ h3, h4⟩, hT _ h.ts, hT _ h.tp, fun k e => ⟨hT _ (h.ta k e).1, (h.ta k e).2⟩⟩
end
/-- What a set of blocks has grown to. -/
def Grow (T : Nat → Prop) (w w' : World) : Nat → Prop := fun k => T k ∨ (w.heap.size ≤ k ∧ k < w'.heap.size)
/-- Above the package variables that are asked for. -/
def lowB : Nat := 0 + 1
/-- A store and its kin; no block is both's, none is a package variable's. -/
structure IsSt (w : World) (T : Nat → Prop) (s kb fb : Nat) (S : Sto) : Prop where
  own : ∃ pb av sv, IsSto w T s kb S pb av sv
  kin : Kin w kb fb
  n1 : ¬ T kb
  n2 : ¬ T fb
  lo : ∀ k, (T k ∨ k = kb ∨ k = fb) → lowB ≤ k
theorem IsSt.kept {U T : Nat → Prop} {w w' : World} {s kb fb : Nat} {S : Sto} (h : IsSt w T s kb fb S) (hk : Kept U w w') (hn : ∀ k, T k → ¬ U k) (h1 : ¬ U kb) (h2 : ¬ U fb) : IsSt w' T s kb fb S := by
  obtain ⟨pb, av, sv, ho⟩ := h.own
  exact ⟨⟨pb, av, sv, ho.kept hk hn⟩, h.kin.kept hk h1 h2, h.n1, h.n2, h.lo⟩
theorem IsSt.below {T : Nat → Prop} {w w' : World} {s kb fb : Nat} {S : Sto} (h : IsSt w T s kb fb S) (hb : Below w.heap.size w w') : IsSt w' T s kb fb S := by
  have hk : Kept (fun _ => False) w w' := Kept.ofBelow hb
  exact h.kept hk (fun _ _ h => h) id id
theorem IsSt.grow {T : Nat → Prop} {w0 w w' : World} {s kb fb : Nat} {S : Sto} (h : IsSt w T s kb fb S) (h1 : kb < w0.heap.size) (h2 : fb < w0.heap.size) : IsSt w (Grow T w0 w') s kb fb S := by
  obtain ⟨pb, av, sv, ho⟩ := h.own
  have hl := h.lo kb (.inr (.inl rfl))
  refine ⟨⟨pb, av, sv, ho.mono fun k hk => .inl hk⟩, h.kin, fun hh => hh.elim h.n1 fun hh => by omega, fun hh => hh.elim h.n2 fun hh => by omega, fun k hk => ?_⟩
  rcases hk with (hk | hk) | hk
  · exact h.lo k (.inl hk)
  · omega
  · exact h.lo k (.inr hk)
/-- What a call on a store may write. -/
def Foot (T : Nat → Prop) (kb fb : Nat) : Nat → Prop := fun k => T k ∨ k = kb ∨ k = fb
end Wt
end Go.Proofs.YtcgpdijpppcbiaaDoor
