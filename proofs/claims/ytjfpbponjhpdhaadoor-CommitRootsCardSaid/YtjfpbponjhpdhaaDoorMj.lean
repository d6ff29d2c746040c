/-
  mootlaw05.fixed. Own work.
-/
import Derived.Test.YtjfpbponjhpdhaaDoorMf
import Derived.Test.YtjfpbponjhpdhaaDoorArr
import Derived.Deep.Slices
import Derived.Deep.Fields
import Derived.ChangeSame
import Derived.OpenShut
import Derived.SizedLaws
namespace Go.Proofs.YtjfpbponjhpdhaaDoor
open Go.RowKit
set_option linter.unusedVariables false
set_option linter.unusedSimpArgs false
section
variable {P : Program}
theorem wp_bldc {op : Oper} {a : Act} {w : World} {K : Act → World → Prop} {Q : Exit → Act → World → Prop} (t : TypeId) (c : Value) (ho : op.op = .build t #[(0, .const c)]) (v : Value) (hl : (Instr.build t #[(0, c)]).run P w = .ok v w)
    (h : K (a.put op.dst v) w) : op.wp P a w K Q := by
  unfold Oper.wp execOp
  simp only [ho, List.map_toArray, List.map_cons, List.map_nil, Act.eval]
  simp [hl]
  exact h
theorem exec_bldc {o : Oper} {ev : Operand → Value} {w : World} (t : TypeId) (c : Value) (ho : o.op = .build t #[(0, .const c)]) (hc : ev (.const c) = c) (v : Value) (hl : (Instr.build t #[(0, c)]).run P w = .ok v w) : (execOp ev o).run P w = .ok (.value v) w := by
  unfold execOp
  simp only [ho, List.map_toArray, List.map_cons, List.map_nil, hc]
  simp [hl]
theorem wpList_bldc {ops : Array Oper} {rest : List Oper} {op : Oper} {a : Act} {w : World} {Q : Exit → Act → World → Prop} (hgd : op.guard = none) (t : TypeId) (c : Value) (ho : op.op = .build t #[(0, .const c)]) (v : Value) (hl : (Instr.build t #[(0, c)]).run P w = .ok v w)
    (h : wpList P ops Q rest (a.put op.dst v) w) : wpList P ops Q (op :: rest) a w :=
  wpList_plain hgd fun _ hK => wp_bldc t c ho v hl (hK _ _ h)
theorem wpList_build2 {ops : Array Oper} {rest : List Oper} {op : Oper} {a : Act} {w : World} {Q : Exit → Act → World → Prop} (hgd : op.guard = none) (t : TypeId) (x y : Operand) (ho : op.op = .buildSlice t 2 #[(0, x), (1, y)]) (p q v : Value) (hx : a.eval x = p) (hy : a.eval y = q) (w' : World) (hl : (Instr.buildSlice t 2 #[(0, p), (1, q)]).run P w = .ok v w')
    (h : wpList P ops Q rest (a.put op.dst v) w') : wpList P ops Q (op :: rest) a w :=
  wpList_plain hgd fun _ hK => by
    unfold Oper.wp execOp
    simp only [ho, List.map_toArray, List.map_cons, List.map_nil, hx, hy]
    simp [hl]
    exact hK _ _ h
end
namespace Mk
open Kc
/-- A digest that begins with a byte. -/
def one (b : Bt) : Hx := fun i => if i = 0 then b else 0#8
theorem bldH1 (w : World) : (Instr.build 42 #[(0, .int .u8 1)]).run Tryd.prog w = .ok (dv (one 1#8)) w := by kernel_rfl
theorem bldH2 (w : World) : (Instr.build 42 #[(0, .int .u8 2)]).run Tryd.prog w = .ok (dv (one 2#8)) w := by kernel_rfl
theorem bldR1 (w : World) : (Instr.build 41 #[(0, .int .u8 1)]).run Tryd.prog w = .ok (dv (one 1#8)) w := by kernel_rfl
theorem buildH2 (x y : Hx) (w : World) : (Instr.buildSlice 52 2 #[(0, dv x), (1, dv y)]).run Tryd.prog w = .ok (.slice (some ⟨w.heap.size, 0, none⟩) 2 2) (w.alloc (.cells (tab 64 (hc fun k => if k = 0 then x else y)) 42)) := by kernel_rfl
theorem new1 (w : World) (x : Hx) (T : TypeId) : IsHs (w.alloc (.cells (tab 32 fun i => bv (x i)) T)) (some ⟨w.heap.size, 0, none⟩) 1 fun _ => x :=
  .inr ⟨w.heap.size, 0, rfl, at5_of (m := 32) (f := fun _ => x) ((IsTab.new w T 32 fun i => bv (x i)).cong fun i hi => by unfold hc; rw [show i % 32 = i from by omega]) (by omega)⟩
theorem new2 (w : World) (f : Nat → Hx) (T : TypeId) : IsHs (w.alloc (.cells (tab 64 (hc f)) T)) (some ⟨w.heap.size, 0, none⟩) 2 f :=
  .inr ⟨w.heap.size, 0, rfl, at5_of (m := 64) (IsTab.new w T 64 (hc f)) (by omega)⟩
theorem wrong11 : wrong 1 1 = 0 := by decide
theorem wrong02 : wrong 0 2 = 5 := by decide
theorem wrongP11 : wrongP 1 1 1 = 0 := by decide
theorem pathLen11 : pathLen 1 1 1 = 1 := by decide
theorem root11 (f : Nat → Hx) : rootOf 1 1 f = und (ext 1 f) 1 0 := by unfold rootOf; rw [if_pos wrong11]; rfl
theorem sib11 (x : Hx) : sib (ext 1 fun _ => x) 1 0 = x := by
  show ext 1 (fun _ => x) (((1 / 2 ^ 0) ^^^ 1) * 2 ^ 0) = x
  exact ext_in _ (by decide)
theorem eqlT (x : Hx) (u : World) : (binOp .eql 42 (dv x) (dv x)).run Tryd.prog u = .ok (.bool true) u := by
  have := eql32 x x u
  rw [same32_refl] at this
  exact this
theorem exec_eqld {o : Oper} {ev : Operand → Value} {u : World} (x y : Operand) (yt : TypeId) (z : Hx) (ho : o.op = .binOp .eql 42 x y yt) (hx : ev x = dv z) (hy : ev y = dv z) : (execOp ev o).run Tryd.prog u = .ok (.value (.bool true)) u := by
  unfold execOp
  simp only [ho, hx, hy, Sem.run_bind, Sem.run_pure, Result.andThen_ok, guardE, eqlT]
structure Fx (W : World) (q1 : Nat) (r : Hx) (y : World) : Prop where
  s1 : IsTab y q1 42 32 fun i => bv (r i)
  below : Below W.heap.size W y
theorem Fx.next {W y y' : World} {q1 : Nat} {r : Hx} (h : Fx W q1 r y) (hb : Below y.heap.size y y') : Fx W q1 r y' := ⟨h.s1.below hb, bl h.below hb⟩
end Mk
end Go.Proofs.YtjfpbponjhpdhaaDoor
/-
  A slice of digests that comes in. Own work, over the guide's lemmas of slices and arrays.
-/
namespace Go.Proofs.YtjfpbponjhpdhaaDoor
open Go.ChangeShapes Go.WideShapes Go.Deep Go.RowKit
set_option linter.unusedVariables false
namespace Mk
open Kc
section
variable {H : Type} {enc : TypeId × Value → H} {P : Program} {w : World} {base : Nat} {spare : Nat → Bool} {held : Bool}
/-- What stands at a place, as a byte. -/
def byteAt (w : World) (b o : Nat) : Bt := match w.cell? ⟨b, o, none⟩ with
  | some (.int _ z) => bof z
  | _ => 0#8
theorem rows32_of {t e u : TypeId} {a0 : Option Addr} {l0 c0 : Nat} {d : DataW H} {ps : List MemPlace} (ht : P.underlying t = some (.slice e)) (he : P.underlying e = some (.array 32 u)) (hu : P.underlying u = some (.int .u8))
    (hC : P.cellsOf e = 32) (hCu : P.cellsOf u = 1) (h : DataW.Trod enc P w base spare held t (.slice a0 l0 c0) d ps) :
    ∃ f : Nat → Hx, IsHs w a0 l0 f ∧ (a0 = none → l0 = 0 ∧ c0 = 0) ∧ l0 ≤ c0 ∧ c0 ≤ maxLen := by
  obtain ⟨fuel, hf⟩ := h
  rcases open_slice ht hf with ⟨h0, _⟩ | ⟨a, len, cap, m, n, D, Pl, hcs, _, hl, hm, hmm, _, hi⟩
  · have h1 : a0 = none ∧ l0 = 0 ∧ c0 = 0 := by simpa [Value.cells] using h0
    obtain ⟨rfl, rfl, rfl⟩ := h1
    exact ⟨fun _ _ => 0#8, .inl rfl, fun _ => ⟨rfl, rfl⟩, Nat.le_refl _, by decide⟩
  · have hva : a0 = some a ∧ l0 = len ∧ c0 = cap := by simpa [Value.cells] using hcs
    obtain ⟨rfl, rfl, rfl⟩ := hva
    have key : ∀ i, i < l0 → ∀ j, j < 32 → ∃ z : Int, w.cell? (a.add (i * 32 + j)) = some (.int .u8 z) ∧ (Lit.int .u8 z).wf = true := by
      intro i hil j hj
      have him : i < m := by rw [hmm]; split <;> omega
      obtain ⟨cs, hc, htr⟩ := hi i him
      rw [hC] at hc
      obtain ⟨_, hlen, hat⟩ := World.cells?_some hc
      obtain ⟨xs, m', _, _, hlen', hx, hel⟩ := DataW.trod_array he htr
      have e1 := hel j hj
      rw [hCu, Nat.mul_one, List.getElem?_eq_getElem (by omega)] at e1
      obtain ⟨z, e2, _, e3⟩ := DataW.trod_int hu e1
      refine ⟨z, ?_, e3⟩
      have h9 : ((cs.drop j).take 1)[0]? = some (.int .u8 z) := by rw [e2]; rfl
      have h8 : cs[j]? = some (.int .u8 z) := by simpa using h9
      have hcell := hat j hj
      rw [h8, add_add] at hcell
      exact hcell
    rcases Nat.eq_zero_or_pos l0 with h0 | h0
    · exact ⟨fun _ _ => 0#8, .inl h0, fun e => (by cases e), hl, hm⟩
    · obtain ⟨b, off, spot⟩ := a
      have hspot : spot = none := by
        obtain ⟨z, hz, _⟩ := key 0 h0 0 (by decide)
        simpa [Addr.add] using World.cell?_spot hz
      subst hspot
      refine ⟨fun i j => byteAt w b (off + 32 * i + j), .inr ⟨b, off, rfl, fun i j hi hj => ?_⟩, fun e => (by cases e), hl, hm⟩
      obtain ⟨z, hz, hw⟩ := key i hi j hj
      rw [add_at, show off + (i * 32 + j) = off + 32 * i + j from by omega] at hz
      have hb := wf_u8 hw
      rw [hz]
      show some (Value.int .u8 z) = some (bv (byteAt w b (off + 32 * i + j)))
      unfold byteAt bv
      rw [hz]
      show _ = some (Value.int .u8 (Bv (bof z)))
      rw [Bv_bof hb.1 hb.2]
end
theorem row_sized32 {H : Type} {enc : TypeId × Value → H} {P : Program} {w : World} {base : Nat} {held : Bool} {t e : TypeId} {a : Option Addr} {len cap : Nat} {d : DataW H} {p : List MemPlace} {ts : List TypeId} {ds : List (DataW H)} {j : Nat}
    (ht : P.underlying t = some (.slice e)) (hb : P.bytesOf e = 32) (h : DataW.Trod enc P w base (fun _ => true) held t (.slice a len cap) d p)
    (hsz : (DataW.weightsEach P ts ds).all (· ≤ reachBytes) = true) (htj : ts[j]? = some t) (hdj : ds[j]? = some d) : cap * 32 ≤ 140737488351232 := by
  obtain ⟨fuel, hf⟩ := h
  rcases open_slice ht hf with ⟨h0, _⟩ | ⟨a1, len1, cap1, m, n, D, Pl, hcs, hd, hl, hm, hmm, hDl, hi⟩
  · have h1 : a = none ∧ len = 0 ∧ cap = 0 := by simpa [Value.cells] using h0
    omega
  · have hva : a = some a1 ∧ len = len1 ∧ cap = cap1 := by simpa [Value.cells] using hcs
    have hd' := congrArg Prod.fst hDl
    simp only at hd'
    have := sized_slice hsz htj (by rw [hdj, hd']) ht
    rw [hb] at this
    have hr : reachBytes = 140737488351232 := by decide
    have hm2 : m = cap1 := by simpa using hmm
    simp only [List.length_map, List.length_range] at this
    rw [hr] at this
    have e : len1 + (m - len1) = cap := by omega
    rw [e] at this
    omega
end Mk
end Go.Proofs.YtjfpbponjhpdhaaDoor
