/- Merged. Own work. -/
import Derived.Test.YtdmffnjbholkkaaDoorOt
import Derived.Deep.Slices
import Derived.Deep.Fields
import Derived.ChangeSame
import Derived.OpenShut
import Derived.Test.YtdmffnjbholkkaaDoorYv
import Derived.Test.YtdmffnjbholkkaaDoorZv
import Derived.Test.YtdmffnjbholkkaaDoorWs
import Derived.Test.YtdmffnjbholkkaaDoorUh
import Derived.Laws.CopyOwn
import Derived.Laws.OwnMore
namespace Go.Proofs.YtdmffnjbholkkaaDoor
open Go.RowKit
set_option linter.unusedVariables false
set_option linter.unusedSimpArgs false
/-- A region that draws its order, with operations that are not wanted among those that come up alone. -/
inductive OS where
  | done : OS
  | take : Nat → OS → OS
  | one : Nat → OS → OS
  | skip : Nat → OS → OS
def OS.size : OS → Nat
  | .done => 0
  | .take _ r => r.size + 1
  | .one _ r => r.size + 1
  | .skip _ r => r.size + 1
section
variable {P : Program} {ops : Array Oper} {Q : Exit → Act → World → Prop} {S : World → Prop}
def wpOs (P : Program) (ops : Array Oper) (Q : Exit → Act → World → Prop) (S : World → Prop) : OS → Act → World → Prop
  | .done, a, w => Q .normal a w
  | .take k r, a, w => ∃ o v, ops[k]? = some o ∧ YieldsIf P ops S o v a ∧ wpOs P ops Q S r (a.put o.dst v) w
  | .one k r, a, w => ∃ o, ops[k]? = some o ∧ Region.wanted o (yielded ops a.tmps) = true ∧ o.wp P a w (fun a' w' => S w' ∧ wpOs P ops Q S r a' w') Q
  | .skip k r, a, w => ∃ o, ops[k]? = some o ∧ Region.wanted o (yielded ops a.tmps) = false ∧ wpOs P ops Q S r (a.put o.dst undef) w
theorem os_done {a : Act} {w : World} (h : Q .normal a w) : wpOs P ops Q S .done a w := h
theorem os_tk {k : Nat} {r : OS} {o : Oper} {a : Act} {w : World} (d : Option Tmp) (v : Value) (ho : ops[k]? = some o) (hd : o.dst = d) (hw : Region.wanted o (yielded ops a.tmps) = true)
    (hy : ∀ w, S w → (execOp a.eval o).run P w = .ok (.value v) w) (h : wpOs P ops Q S r (a.put d v) w) : wpOs P ops Q S (.take k r) a w :=
  ⟨o, v, ho, .inl ⟨hw, hy⟩, by rw [hd]; exact h⟩
theorem os_ld {k : Nat} {r : OS} {o : Oper} {a : Act} {w : World} (d : Option Tmp) (ty : TypeId) (x : Operand) (p v : Value) (ho : ops[k]? = some o) (hd : o.dst = d) (hw : Region.wanted o (yielded ops a.tmps) = true) (hop : o.op = .load ty x) (hx : a.eval x = p)
    (hl : ∀ w, S w → (Instr.loadAt ty p).run P w = .ok v w) (h : wpOs P ops Q S r (a.put d v) w) : wpOs P ops Q S (.take k r) a w :=
  os_tk d v ho hd hw (fun w hw => by unfold execOp; simp only [hop, hx]; simp [hl w hw, Result.andThen]) h
theorem os_un {k : Nat} {r : OS} {o : Oper} {a : Act} {w : World} (d : Option Tmp) (ho : ops[k]? = some o) (hd : o.dst = d) (hw : Region.wanted o (yielded ops a.tmps) = false)
    (h : wpOs P ops Q S r (a.put d undef) w) : wpOs P ops Q S (.take k r) a w :=
  ⟨o, undef, ho, .inr ⟨hw, rfl⟩, by rw [hd]; exact h⟩
theorem os_skip {k : Nat} {r : OS} {o : Oper} {a : Act} {w : World} (d : Option Tmp) (ho : ops[k]? = some o) (hd : o.dst = d) (hw : Region.wanted o (yielded ops a.tmps) = false)
    (h : wpOs P ops Q S r (a.put d undef) w) : wpOs P ops Q S (.skip k r) a w :=
  ⟨o, ho, hw, by rw [hd]; exact h⟩
theorem os_f {k : Nat} {r : OS} {o : Oper} {a : Act} {w : World} (ho : ops[k]? = some o) (hw : Region.wanted o (yielded ops a.tmps) = true)
    (h : ∀ K : Act → World → Prop, (∀ a' w', S w' → wpOs P ops Q S r a' w' → K a' w') → o.wp P a w K Q) : wpOs P ops Q S (.one k r) a w :=
  ⟨o, ho, hw, h _ fun _ _ h1 h2 => ⟨h1, h2⟩⟩
def osB (ops : Array Oper) : OS → Array Bool → Bool
  | .done, l => (Region.ready .any ops l).isEmpty
  | .take k r, l => (Region.ready .any ops l).contains k && Region.free .any ops l k && osB ops r (l.setIfInBounds k true)
  | .one k r, l => decide (Region.ready .any ops l = [k]) && osB ops r (l.setIfInBounds k true)
  | .skip k r, l => decide (Region.ready .any ops l = [k]) && osB ops r (l.setIfInBounds k true)
theorem os_any (hs : Region.noSelect ops = true) (hQ : ∀ c a d v w, Q (.panic c) (a.put d v) w → Q (.panic c) a w) : ∀ (l : OS) (listed : Array Bool) (a : Act) (w : World), S w →
    osB ops l listed = true → wpOs P ops Q S l a w → wpAnyH P .any ops Q S l.size listed a w
  | .done, _, _, _, _, hB, h => ⟨by simpa [osB] using hB, h⟩
  | .take k r, listed, a, w, hS, hB, ⟨o, v, h0, hy, h⟩ => by
    simp only [osB, Bool.and_eq_true] at hB
    exact wpAnyH_take h0 hs hB.1.2 hB.1.1 (fun c a w => hQ c a _ _ w) hy hS (os_any hs hQ r _ _ _ hS hB.2 h)
  | .one k r, listed, a, w, hS, hB, ⟨o, h0, hw, h⟩ => by
    simp only [osB, Bool.and_eq_true, decide_eq_true_eq] at hB
    refine wpAnyH_all hB.1 (by simp) fun i hi => ?_
    have hik : i = k := by simpa using hi
    subst hik
    unfold wpOp
    simp only [h0]
    rw [if_pos hw]
    exact .inl (Oper.wp_mono (fun a' w' ⟨h2, h3⟩ => ⟨h2, os_any hs hQ r _ _ _ h2 hB.2 h3⟩) h)
  | .skip k r, listed, a, w, hS, hB, ⟨o, h0, hw, h⟩ => by
    simp only [osB, Bool.and_eq_true, decide_eq_true_eq] at hB
    refine wpAnyH_all hB.1 (by simp) fun i hi => ?_
    have hik : i = k := by simpa using hi
    subst hik
    unfold wpOp
    simp only [h0]
    rw [if_neg (by rw [hw]; simp)]
    exact ⟨hS, os_any hs hQ r _ _ _ hS hB.2 h⟩
theorem wp_region_os {id : Nat} {a : Act} {w : World} {l : List Oper} (S : World → Prop) (t : OS) (hm : P.follows .mixedOrders = true) (hB : (decide (t.size = l.length) && Region.noSelect l.toArray && osB l.toArray t (Array.replicate l.length false)) = true) (hS : S w.drew)
    (h : wpOs P l.toArray (NoPanic Q) S t a w.drew) : (Code.region id l.toArray true).wp P Q a w := by
  refine wp_region_noPanic ?_
  have hQ : ∀ c a d v w, NoPanic Q (.panic c) (a.put d v) w → NoPanic Q (.panic c) a w := fun _ _ _ _ _ h => h
  simp only [Bool.and_eq_true, decide_eq_true_eq] at hB
  refine wp_region_held (S := S) hm ?_
  have h1 := os_any (P := P) (Q := NoPanic Q) (ops := l.toArray) hB.1.2 hQ t (Array.replicate l.length false) a w.drew hS hB.2 h
  rw [hB.1.1] at h1
  simpa using h1
end
end Go.Proofs.YtdmffnjbholkkaaDoor
namespace Go.Proofs.YtdmffnjbholkkaaDoor
open Go.ChangeShapes Go.WideShapes Go.Deep Go.RowKit
section
variable {H : Type} {enc : TypeId × Value → H} {P : Program} {w : World} {base : Nat} {spare : Nat → Bool} {held : Bool}
theorem open_recs {t e : TypeId} {fs : Array Field} {v : Value} {d : DataW H} {ps : List MemPlace} (ht : P.underlying t = some (.slice e)) (he : P.underlying e = some (.struct fs))
    (hone : oneCellFields P fs = true) (hC : P.cellsOf e = fs.size) (hv : ∃ a len cap, v = .slice a len cap) (h : DataW.Trod enc P w base spare held t v d ps) :
    v = .slice none 0 0 ∨ ∃ (a : Addr) (len cap : Nat), v = .slice (some a) len cap ∧ len ≤ cap ∧ cap ≤ maxLen ∧
      ∀ i, i < len → ∀ (j : Nat) (f : Field), fs[j]? = some f → ∃ (u : Value) (y : DataW H × List MemPlace) (n : Nat), w.cell? (a.add (i * fs.size + j)) = some u ∧ DataW.trod enc P w base spare held n f.type [u] = some y := by
  obtain ⟨fuel, hf⟩ := h
  obtain ⟨a0, l0, c0, rfl⟩ := hv
  rcases open_slice ht hf with ⟨h0, _⟩ | ⟨a, len, cap, m, n, D, Pl, hcs, _, hl, hm, hmm, _, hi⟩
  · left
    simpa [Value.cells] using h0
  · right
    have hva : Value.slice a0 l0 c0 = .slice (some a) len cap := by simpa [Value.cells] using hcs
    refine ⟨a, len, cap, hva, hl, hm, fun i hil j f hj => ?_⟩
    have him : i < m := by rw [hmm]; split <;> omega
    obtain ⟨cs, hc, htr⟩ := hi i him
    rw [hC] at hc
    obtain ⟨_, hlen, hat⟩ := World.cells?_some hc
    obtain ⟨ys, n', _, _, _, _, hg⟩ := DataW.trod_struct he htr
    obtain ⟨ho, hk⟩ := hone_of hone j f hj
    have hjl : j < fs.size := (Array.getElem?_eq_some_iff.1 hj).1
    have h1 := hg j f hj
    rw [ho, hk] at h1
    have hjc : j < cs.length := by omega
    have e1 : (cs.drop j).take 1 = [cs[j]] := by rw [List.drop_eq_getElem_cons hjc]; rfl
    rw [e1] at h1
    have hcell := hat j hjl
    rw [List.getElem?_eq_getElem hjc, add_add] at hcell
    cases hy : ys[j]? with
    | none => rw [hy] at h1; rename_i hyl _; exact absurd (List.getElem?_eq_none_iff.1 hy) (by omega)
    | some y => exact ⟨_, y, n', hcell, by rw [h1, hy]⟩
theorem int_of {t : TypeId} {k : IntKind} {n : Nat} {u : Value} {y : DataW H × List MemPlace} (ht : P.underlying t = some (.int k)) (h : DataW.trod enc P w base spare held n t [u] = some y) : ∃ z, u = .int k z ∧ (Lit.int k z).wf = true := by
  obtain ⟨z, hz, _, hw⟩ := DataW.trod_int ht h
  simp at hz
  exact ⟨z, hz, hw⟩
theorem bool_of {t : TypeId} {n : Nat} {u : Value} {y : DataW H × List MemPlace} (ht : P.underlying t = some .bool) (h : DataW.trod enc P w base spare held n t [u] = some y) : ∃ z, u = .bool z := by
  obtain ⟨z, hz, _⟩ := DataW.trod_bool ht h
  simp at hz
  exact ⟨z, hz⟩
/-- A slice of structs of integers. -/
def IsRecs (ks : List IntKind) (w : World) (a : Option Addr) (len cap : Nat) : Prop :=
  (a = none ∧ len = 0 ∧ cap = 0) ∨ (len ≤ cap ∧ cap ≤ maxLen ∧ ∀ i, i < len → ∃ c off, a = some ⟨c, off, none⟩ ∧ ∀ (j : Nat) (k : IntKind), ks[j]? = some k → ∃ z : Int, w.cell? ⟨c, off + i * ks.length + j, none⟩ = some (.int k z) ∧ (Lit.int k z).wf = true)
theorem recs_of {t e : TypeId} {fs : Array Field} {ks : List IntKind} {a0 : Option Addr} {l0 c0 : Nat} {d : DataW H} {ps : List MemPlace} (ht : P.underlying t = some (.slice e)) (he : P.underlying e = some (.struct fs))
    (hone : oneCellFields P fs = true) (hC : P.cellsOf e = fs.size) (hlen : ks.length = fs.size) (h0 : 0 < ks.length) (hks : ∀ (j : Nat) (k : IntKind), ks[j]? = some k → ∃ f : Field, fs[j]? = some f ∧ P.underlying f.type = some (.int k))
    (h : DataW.Trod enc P w base spare held t (.slice a0 l0 c0) d ps) : IsRecs ks w a0 l0 c0 := by
  rcases open_recs ht he hone hC ⟨_, _, _, rfl⟩ h with hn | ⟨a, len, cap, hv, hl, hm, hi⟩
  · simp at hn
    exact .inl hn
  · simp at hv
    obtain ⟨rfl, rfl, rfl⟩ := hv
    refine .inr ⟨hl, hm, fun i hil => ?_⟩
    obtain ⟨b, off, spot⟩ := a
    have hspot : spot = none := by
      obtain ⟨f, hf, _⟩ := hks 0 ks[0] (List.getElem?_eq_getElem h0)
      obtain ⟨u, _, _, hc, _⟩ := hi 0 (by omega) 0 f hf
      simpa [Addr.add] using World.cell?_spot hc
    subst hspot
    refine ⟨b, off, rfl, fun j k hj => ?_⟩
    obtain ⟨f, hf, hu⟩ := hks j k hj
    obtain ⟨u, y, n, hc, ht'⟩ := hi i hil j f hf
    obtain ⟨z, rfl, hz⟩ := int_of hu ht'
    refine ⟨z, ?_, hz⟩
    have ha : (⟨b, off, none⟩ : Addr).add (i * fs.size + j) = ⟨b, off + i * ks.length + j, none⟩ := by
      rw [hlen, Addr.add]
      split <;> simp_all <;> omega
    rw [← ha]; exact hc
end
end Go.Proofs.YtdmffnjbholkkaaDoor
namespace Go.Proofs.YtdmffnjbholkkaaDoor
open Go.RowKit
set_option linter.unusedVariables false
set_option linter.unusedSimpArgs false
namespace Vm
open Kc
set_option maxHeartbeats 2000000 in
set_option maxRecDepth 100000 in
theorem step_app2 (w : World) (b s : Nat) (M : Mac) (x : Nat) (h : Pre w b M x) (hop : 1 ≤ pOp x ∧ pOp x ≤ 25) (v : Nat) (ec : Value) (hA : ∀ y, Calls Tryd.prog 79 #[.int .i64 (pOp x), .int .u64 (M.reg (pA x)), .int .u64 (M.reg (pB x)), .int .u64 (M.reg (pC x))] y fun e w' => e = .returned (.tuple #[.int .u64 v, ec]) ∧ ∃ k, w' = y.drewN k) :
    Calls Tryd.prog 65 #[.pointer (some ⟨b, 0, none⟩), .pointer (some ⟨s, 0, none⟩)] w fun e w' => e = .returned (.tuple #[]) ∧ IsMac w' b ({ setR M (pD x) v with pc := M.pc + 1 }) ∧ Kept (fun k => k = b) w w' := by
  have k3 : w.cell? ⟨b, 8209, none⟩ = some (.bool false) := h.hh ▸ h.mac.halted
  have k2 := h.mac.pc
  have tpc : decide (8192 ≤ (M.pc : Int)) = false := by have := h.pc; simp; omega
  have HP := Lib.hid h
  have hxb : x < 18446744073709551616 := h.hx ▸ h.ok.mem _
  have HXB := Lib.hid hxb
  clear hxb
  have to0 : ((pOp x : Int) == 0) = false := by simp; omega
  have to1 : decide ((pOp x : Int) < 26) = true := by simp; omega
  have HA := Lib.hid hA
  clear hA hop
  clear h
  go_enter Tryd.func65, Tryd.ntmps65
  go_upto_region 3 with (fail)
  have NE : Nonempty (Wd (fun z => Below w.heap.size w z)) := ⟨⟨w.drew, (Below.refl _ _).drew⟩⟩
  have kpc : ∀ z : Wd (fun z => Below w.heap.size w z), z.val.cell? ⟨b, 8208, none⟩ = some (.int .u64 (M.pc : Int)) := fun z => keep1 z.ok HP.out.mac.pc
  have km : ∀ z : Wd (fun z => Below w.heap.size w z), z.val.cell? ⟨b, M.pc, none⟩ = some (.int .u64 (x : Int)) := fun z => keep1 z.ok (HP.out.hx ▸ HP.out.mac.mem HP.out.pc)
  have hlt : (M.pc : Int) < 8192 := by have := HP.out.pc; omega
  have hpv : Hid (partsV x = .tuple #[.int .i64 (pOp x), .int .i64 (pD x), .int .i64 (pA x), .int .i64 (pB x), .int .i64 (pC x), .int .i64 (pN x), .bool true]) := Lib.hid (if_pos HP.out.pok)
  have Q1 := Lib.hid (fun z : Wd (fun z => Below w.heap.size w z) => in_of_below z (fun y hb => bl z.ok hb) (hpv.out ▸ parts_walk z.val x HXB.out))
  clear k2 k3 tpc
  refine wp_region_in (fun z => Below w.heap.size w z) (by kernel_rfl) (by kernel_rfl) (Below.refl _ _).drew ?_
  repeat (go_big_quiet_step (with_reducible exact Q1.out _))
  refine wpQuiet_nil ?_
  rintro y0 ⟨z, rfl⟩
  have HZ := Lib.hid (HP.out.mac.below z.ok)
  have HB := Lib.hid z.ok
  clear Q1 kpc km NE hlt
  generalize z.val = y at *
  have ha : (pA x : Int) < 16 := by have := pA_lt x; omega
  have hb : (pB x : Int) < 16 := by have := pB_lt x; omega
  have hc : (pC x : Int) < 16 := by have := pC_lt x; omega
  have hd : (pD x : Int) < 16 := by have := pD_lt x; omega
  go_upto_region 12 with (fail)
  have HS0 : Hid (IsMac y.drew b M ∧ Kept (fun k => k = b) w y.drew) := Lib.hid ⟨HZ.out.kept (Wt.kept_drew y) id, (Kept.ofBelow HB.out).drew⟩
  refine wp_region_oz (fun z : World => IsMac z b M ∧ Kept (fun k => k = b) w z) 24 (.take 0 (.take 1 (.take 2 (.take 3 (.take 4 (.take 5 (.take 6 (.take 7 (.take 8 (.take 9 (.take 10 (.take 11 (.take 12 (.take 13 (.take 14 (.take 15 (.take 16 (.take 17 (.free 22 (.one 18 (.take 19 (.take 20 (.free 21 (.free 23 (.one 24 .done))))))))))))))))))))))))) (by kernel_rfl) (by kernel_rfl) HS0.out ?_
  generalize y.drew = y0 at *
  refine oz_tk (some 83) (.pointer (some ⟨b, 8192, none⟩)) rfl rfl (by go_simp) (fun _ _ => by simp [execOp, go_sem]) ?_
  simp only [Act.put, pS]
  refine oz_tk (some 84) (.int .i64 (pD x)) rfl rfl (by go_simp) (fun _ _ => by simp [execOp, go_sem]) ?_
  simp only [Act.put, pS]
  refine oz_tk (some 85) (.int .i64 (pOp x)) rfl rfl (by go_simp) (fun _ _ => by simp [execOp, go_sem]) ?_
  simp only [Act.put, pS]
  refine oz_tk (some 86) (.pointer (some ⟨b, 8192, none⟩)) rfl rfl (by go_simp) (fun _ _ => by simp [execOp, go_sem]) ?_
  simp only [Act.put, pS]
  refine oz_tk (some 87) (.int .i64 (pA x)) rfl rfl (by go_simp) (fun _ _ => by simp [execOp, go_sem]) ?_
  simp only [Act.put, pS]
  refine oz_tk (some 88) (.pointer (some ⟨b, 8192, none⟩)) rfl rfl (by go_simp) (fun _ _ => by simp [execOp, go_sem]) ?_
  simp only [Act.put, pS]
  refine oz_tk (some 89) (.pointer (some ⟨b, (8192 + pA x), none⟩)) rfl rfl (by go_simp) (fun _ _ => by have h := ix16 b (pA x) (pA_lt x); simp [execOp, go_sem, h, Result.andThen]) ?_
  simp only [Act.put, pS]
  refine oz_ld (some 90) 78 (.tmp 89) (.pointer (some ⟨b, (8192 + pA x), none⟩)) (.int .u64 (M.reg (pA x))) rfl rfl (by go_simp) rfl rfl (fun y hy => by have h := hy.1.reg (pA_lt x); simp [Instr.loadAt, go_sem, h, Tryd.underlying78]) ?_
  simp only [Act.put, pS]
  refine oz_tk (some 91) (.pointer (some ⟨b, 8192, none⟩)) rfl rfl (by go_simp) (fun _ _ => by simp [execOp, go_sem]) ?_
  simp only [Act.put, pS]
  refine oz_tk (some 92) (.int .i64 (pB x)) rfl rfl (by go_simp) (fun _ _ => by simp [execOp, go_sem]) ?_
  simp only [Act.put, pS]
  refine oz_tk (some 93) (.pointer (some ⟨b, 8192, none⟩)) rfl rfl (by go_simp) (fun _ _ => by simp [execOp, go_sem]) ?_
  simp only [Act.put, pS]
  refine oz_tk (some 94) (.pointer (some ⟨b, (8192 + pB x), none⟩)) rfl rfl (by go_simp) (fun _ _ => by have h := ix16 b (pB x) (pB_lt x); simp [execOp, go_sem, h, Result.andThen]) ?_
  simp only [Act.put, pS]
  refine oz_ld (some 95) 78 (.tmp 94) (.pointer (some ⟨b, (8192 + pB x), none⟩)) (.int .u64 (M.reg (pB x))) rfl rfl (by go_simp) rfl rfl (fun y hy => by have h := hy.1.reg (pB_lt x); simp [Instr.loadAt, go_sem, h, Tryd.underlying78]) ?_
  simp only [Act.put, pS]
  refine oz_tk (some 96) (.pointer (some ⟨b, 8192, none⟩)) rfl rfl (by go_simp) (fun _ _ => by simp [execOp, go_sem]) ?_
  simp only [Act.put, pS]
  refine oz_tk (some 97) (.int .i64 (pC x)) rfl rfl (by go_simp) (fun _ _ => by simp [execOp, go_sem]) ?_
  simp only [Act.put, pS]
  refine oz_tk (some 98) (.pointer (some ⟨b, 8192, none⟩)) rfl rfl (by go_simp) (fun _ _ => by simp [execOp, go_sem]) ?_
  simp only [Act.put, pS]
  refine oz_tk (some 99) (.pointer (some ⟨b, (8192 + pC x), none⟩)) rfl rfl (by go_simp) (fun _ _ => by have h := ix16 b (pC x) (pC_lt x); simp [execOp, go_sem, h, Result.andThen]) ?_
  simp only [Act.put, pS]
  refine oz_ld (some 100) 78 (.tmp 99) (.pointer (some ⟨b, (8192 + pC x), none⟩)) (.int .u64 (M.reg (pC x))) rfl rfl (by go_simp) rfl rfl (fun y hy => by have h := hy.1.reg (pC_lt x); simp [Instr.loadAt, go_sem, h, Tryd.underlying78]) ?_
  simp only [Act.put, pS]
  refine oz_fr (some 104) (.pointer (some ⟨b, 8192, none⟩)) rfl rfl (by go_simp) (fun _ => by simp [execOp, go_sem]) ?_
  simp only [Act.put, pS]
  refine oz_f rfl (by go_simp) fun K hK => ?_
  go_simp
  refine (HA.out y0).mono ?_
  rintro e y1 ⟨he, k, hy1⟩
  obtain rfl : e = _ := he
  have HS1 : Hid (IsMac y1 b M ∧ Kept (fun k => k = b) w y1) := Lib.hid (by rw [hy1]; exact ⟨HS0.out.1.kept (Kept.drewN (Kept.refl (fun _ => False) _) k) id, HS0.out.2.drewN k⟩)
  refine hK _ _ HS1.out ?_
  clear hK K hy1
  have HS : Hid (IsMac (y1.setCell ⟨b, 8192 + pD x, none⟩ (.int .u64 (v : Int))) b (setR M (pD x) v)) := Lib.hid (HS1.out.1.setReg (pD_lt x) _)
  have HK : Hid (Kept (fun k => k = b) w (y1.setCell ⟨b, 8192 + pD x, none⟩ (.int .u64 (v : Int)))) := Lib.hid (kept_set (S := fun k => k = b) HS1.out.2 b _ rfl _)
  refine oz_tk (some 82) (.tuple #[.int .u64 v, ec]) rfl rfl (by go_simp) (fun _ _ => by simp [execOp, go_sem]) ?_
  simp only [Act.put, pS]
  refine oz_tk (some 102) (.int .u64 v) rfl rfl (by go_simp) (fun _ _ => by simp [execOp, go_sem]) ?_
  simp only [Act.put, pS]
  refine oz_fr (some 103) (ec) rfl rfl (by go_simp) (fun _ => by simp [execOp, go_sem]) ?_
  simp only [Act.put, pS]
  refine oz_fr (some 105) (.pointer (some ⟨b, (8192 + pD x), none⟩)) rfl rfl (by go_simp) (fun _ => by have h := ix16 b (pD x) (pD_lt x); simp [execOp, go_sem, h, Result.andThen]) ?_
  simp only [Act.put, pS]
  have kd := HS1.out.1.reg (pD_lt x)
  have fd := HS1.out.1.fz (8192 + pD x)
  refine oz_z rfl (by go_simp) fun K hK => ?_
  go_simp
  refine hK _ _ ?_
  clear hK K kd fd
  refine oz_done (NoPanic.normal ?_)
  generalize y1.setCell ⟨b, 8192 + pD x, none⟩ (.int .u64 (v : Int)) = y2 at *
  have kp := HS.out.pc
  have fp := HS.out.fz 8208
  have HW : Hid (IntKind.u64.wrap ((M.pc : Int) + 1) = ((M.pc + 1 : Nat) : Int)) := Lib.hid (wrap_pc HP.out.pc)
  have H9 : Hid (IsMac (y2.setCell ⟨b, 8208, none⟩ (.int .u64 (IntKind.u64.wrap ((M.pc : Int) + 1)))) b { setR M (pD x) v with pc := M.pc + 1 }) := Lib.hid (by rw [HW.out]; exact HS.out.setPc (M.pc + 1))
  have K9 := Lib.hid (kept_set (S := fun k => k = b) HK.out b 8208 rfl (.int .u64 (IntKind.u64.wrap ((M.pc : Int) + 1))))
  generalize hpc : (M.pc : Int) = PC at *
  go_wp2_with (fail)
  subst hpc
  exact bodyPost_end (v := .tuple #[]) (by simp [results, Tryd.results65, go_sem]) rfl ⟨rfl, H9.out, K9.out⟩
set_option maxHeartbeats 1000000 in
set_option maxRecDepth 100000 in
theorem step_still (w : World) (b s : Nat) (M : Mac) (hm : IsMac w b M) (hh : M.halted = true) :
    Calls Tryd.prog 65 #[.pointer (some ⟨b, 0, none⟩), .pointer (some ⟨s, 0, none⟩)] w fun e w' => e = .returned (.tuple #[]) ∧ IsMac w' b M ∧ Kept (fun k => k = b) w w' := by
  have k3 : w.cell? ⟨b, 8209, none⟩ = some (.bool true) := hh ▸ hm.halted
  have HM := Lib.hid hm
  clear hm hh
  go_enter Tryd.func65, Tryd.ntmps65
  go_wp2_with (fail)
  exact bodyPost_ret (v := .tuple #[]) (by simp [results, Tryd.results65, go_sem]) rfl ⟨rfl, HM.out, Kept.refl _ _⟩
set_option maxHeartbeats 1000000 in
set_option maxRecDepth 100000 in
theorem step_far (w : World) (b s : Nat) (M : Mac) (hm : IsMac w b M) (hh : M.halted = false) (hpc : 8192 ≤ M.pc) :
    Calls Tryd.prog 65 #[.pointer (some ⟨b, 0, none⟩), .pointer (some ⟨s, 0, none⟩)] w fun e w' => e = .returned (.tuple #[]) ∧ IsMac w' b (stopM M 18446744073709551614) ∧ Kept (fun k => k = b) w w' := by
  have k3 : w.cell? ⟨b, 8209, none⟩ = some (.bool false) := hh ▸ hm.halted
  have k2 := hm.pc
  have tpc : decide (8192 ≤ (M.pc : Int)) = true := by simp; omega
  have HC := Lib.hid (stop_wrong w b M hm)
  clear hm hpc
  go_enter Tryd.func65, Tryd.ntmps65
  go_wp2_with (go_at_call 78; (with_reducible refine HC.out.mono ?_); rintro e y2 ⟨he, hm, hk⟩; obtain rfl : e = _ := he; have HM2 := Lib.hid hm; have HK2 := Lib.hid hk; clear hm hk)
  exact bodyPost_ret (v := .tuple #[]) (by simp [results, Tryd.results65, go_sem]) rfl ⟨rfl, HM2.out, HK2.out⟩
set_option maxHeartbeats 2000000 in
set_option maxRecDepth 100000 in
theorem step_bad (w : World) (b s : Nat) (M : Mac) (x : Nat) (hm : IsMac w b M) (hok : OkM M) (hh : M.halted = false) (hpc : M.pc < 8192) (hx : M.mem M.pc = x) (hpok : pOk x = false) :
    Calls Tryd.prog 65 #[.pointer (some ⟨b, 0, none⟩), .pointer (some ⟨s, 0, none⟩)] w fun e w' => e = .returned (.tuple #[]) ∧ IsMac w' b (stopM M 18446744073709551614) ∧ Kept (fun k => k = b) w w' := by
  have k3 : w.cell? ⟨b, 8209, none⟩ = some (.bool false) := hh ▸ hm.halted
  have k2 := hm.pc
  have tpc : decide (8192 ≤ (M.pc : Int)) = false := by simp; omega
  have HP := Lib.hid hm
  have HXB := Lib.hid (hx ▸ hok.mem _ : x < 18446744073709551616)
  have HX := Lib.hid hx
  have HPC := Lib.hid hpc
  have hpv : Hid (partsV x = .tuple #[.int .i64 0, .int .i64 0, .int .i64 0, .int .i64 0, .int .i64 0, .int .i64 0, .bool false]) := Lib.hid (if_neg (by rw [hpok]; decide))
  clear hm hpc hx hok
  go_enter Tryd.func65, Tryd.ntmps65
  go_upto_region 3 with (fail)
  have NE : Nonempty (Wd (fun z => Below w.heap.size w z)) := ⟨⟨w.drew, (Below.refl _ _).drew⟩⟩
  have kpc : ∀ z : Wd (fun z => Below w.heap.size w z), z.val.cell? ⟨b, 8208, none⟩ = some (.int .u64 (M.pc : Int)) := fun z => keep1 z.ok HP.out.pc
  have km : ∀ z : Wd (fun z => Below w.heap.size w z), z.val.cell? ⟨b, M.pc, none⟩ = some (.int .u64 (x : Int)) := fun z => keep1 z.ok (HX.out ▸ HP.out.mem HPC.out)
  have hlt : (M.pc : Int) < 8192 := by have := HPC.out; omega
  have Q1 := Lib.hid (fun z : Wd (fun z => Below w.heap.size w z) => in_of_below z (fun y hb => bl z.ok hb) (hpv.out ▸ parts_walk z.val x HXB.out))
  clear k2 k3 tpc
  refine wp_region_in (fun z => Below w.heap.size w z) (by kernel_rfl) (by kernel_rfl) (Below.refl _ _).drew ?_
  repeat (go_big_quiet_step (with_reducible exact Q1.out _))
  refine wpQuiet_nil ?_
  rintro y0 ⟨z, rfl⟩
  have HZ := Lib.hid (HP.out.below z.ok)
  have HB := Lib.hid z.ok
  clear Q1 kpc km NE hlt
  generalize z.val = y at *
  have HC := Lib.hid (stop_wrong y b M HZ.out)
  go_wp2_with (go_at_call 78; (with_reducible refine HC.out.mono ?_); rintro e y2 ⟨he, hm, hk⟩; obtain rfl : e = _ := he; have HM2 := Lib.hid hm; have HK2 := Lib.hid hk; clear hm hk)
  exact bodyPost_ret (v := .tuple #[]) (by simp [results, Tryd.results65, go_sem]) rfl ⟨rfl, HM2.out, (Kept.ofBelow HB.out).trans HK2.out fun _ _ h => h⟩
set_option maxHeartbeats 1000000 in
set_option maxRecDepth 100000 in
theorem exch34_far1 (w : World) (b s fr tw : Nat) (M : Mac) (hm : IsMac w b M) (hf : 8184 < fr) :
    Calls Tryd.prog 82 #[.pointer (some ⟨b, 0, none⟩), .pointer (some ⟨s, 0, none⟩), .int .i64 34, .int .u64 fr, .int .u64 tw] w fun e w' => e = .returned (.tuple #[]) ∧ IsMac w' b (stopM M 18446744073709551614) ∧ Kept (fun k => k = b) w w' := by
  have t1 : decide ((8184 : Int) < (fr : Int)) = true := by simp; omega
  have HC := Lib.hid (stop_wrong w b M hm)
  clear hm hf
  go_enter Tryd.func82, Tryd.ntmps82
  go_wp2_with (go_at_call 78; (with_reducible refine HC.out.mono ?_); rintro e y2 ⟨he, hm, hk⟩; obtain rfl : e = _ := he; have HM2 := Lib.hid hm; have HK2 := Lib.hid hk; clear hm hk)
  exact bodyPost_ret (v := .tuple #[]) (by simp [results, Tryd.results82, go_sem]) rfl ⟨rfl, HM2.out, HK2.out⟩
set_option maxHeartbeats 1000000 in
set_option maxRecDepth 100000 in
theorem exch34_far2 (w : World) (b s fr tw : Nat) (M : Mac) (hm : IsMac w b M) (hf : fr ≤ 8184) (ht : 8188 < tw) :
    Calls Tryd.prog 82 #[.pointer (some ⟨b, 0, none⟩), .pointer (some ⟨s, 0, none⟩), .int .i64 34, .int .u64 fr, .int .u64 tw] w fun e w' => e = .returned (.tuple #[]) ∧ IsMac w' b (stopM M 18446744073709551614) ∧ Kept (fun k => k = b) w w' := by
  have t1 : decide ((8184 : Int) < (fr : Int)) = false := by simp; omega
  have t2 : decide ((8188 : Int) < (tw : Int)) = true := by simp; omega
  have HC := Lib.hid (stop_wrong w b M hm)
  clear hm hf ht
  go_enter Tryd.func82, Tryd.ntmps82
  go_wp2_with (go_at_call 78; (with_reducible refine HC.out.mono ?_); rintro e y2 ⟨he, hm, hk⟩; obtain rfl : e = _ := he; have HM2 := Lib.hid hm; have HK2 := Lib.hid hk; clear hm hk)
  exact bodyPost_ret (v := .tuple #[]) (by simp [results, Tryd.results82, go_sem]) rfl ⟨rfl, HM2.out, HK2.out⟩
set_option maxHeartbeats 1000000 in
set_option maxRecDepth 100000 in
theorem exch35_far1 (w : World) (b s fr tw : Nat) (M : Mac) (hm : IsMac w b M) (hf : 8188 < fr) :
    Calls Tryd.prog 82 #[.pointer (some ⟨b, 0, none⟩), .pointer (some ⟨s, 0, none⟩), .int .i64 35, .int .u64 fr, .int .u64 tw] w fun e w' => e = .returned (.tuple #[]) ∧ IsMac w' b (stopM M 18446744073709551614) ∧ Kept (fun k => k = b) w w' := by
  have t1 : decide ((8188 : Int) < (fr : Int)) = true := by simp; omega
  have HC := Lib.hid (stop_wrong w b M hm)
  clear hm hf
  go_enter Tryd.func82, Tryd.ntmps82
  go_wp2_with (go_at_call 78; (with_reducible refine HC.out.mono ?_); rintro e y2 ⟨he, hm, hk⟩; obtain rfl : e = _ := he; have HM2 := Lib.hid hm; have HK2 := Lib.hid hk; clear hm hk)
  exact bodyPost_ret (v := .tuple #[]) (by simp [results, Tryd.results82, go_sem]) rfl ⟨rfl, HM2.out, HK2.out⟩
set_option maxHeartbeats 1000000 in
set_option maxRecDepth 100000 in
theorem exch35_far2 (w : World) (b s fr tw : Nat) (M : Mac) (hm : IsMac w b M) (hf : fr ≤ 8188) (ht : 8184 < tw) :
    Calls Tryd.prog 82 #[.pointer (some ⟨b, 0, none⟩), .pointer (some ⟨s, 0, none⟩), .int .i64 35, .int .u64 fr, .int .u64 tw] w fun e w' => e = .returned (.tuple #[]) ∧ IsMac w' b (stopM M 18446744073709551614) ∧ Kept (fun k => k = b) w w' := by
  have t1 : decide ((8188 : Int) < (fr : Int)) = false := by simp; omega
  have t2 : decide ((8184 : Int) < (tw : Int)) = true := by simp; omega
  have HC := Lib.hid (stop_wrong w b M hm)
  clear hm hf ht
  go_enter Tryd.func82, Tryd.ntmps82
  go_wp2_with (go_at_call 78; (with_reducible refine HC.out.mono ?_); rintro e y2 ⟨he, hm, hk⟩; obtain rfl : e = _ := he; have HM2 := Lib.hid hm; have HK2 := Lib.hid hk; clear hm hk)
  exact bodyPost_ret (v := .tuple #[]) (by simp [results, Tryd.results82, go_sem]) rfl ⟨rfl, HM2.out, HK2.out⟩
end Vm
end Go.Proofs.YtdmffnjbholkkaaDoor
namespace Go.Proofs.YtdmffnjbholkkaaDoor
open Go.RowKit
set_option linter.unusedVariables false
set_option linter.unusedSimpArgs false
namespace Vm
open Kc Mk Wt
/-- A machine and a store beside it; of the world W nothing but U was written. -/
structure Om (W : World) (U : Nat → Prop) (b s kb fb : Nat) (M : Mac) (S : Sto) (y : World) : Prop where
  mac : IsMac y b M
  st : ∃ T : Nat → Prop, IsSt y T s kb fb S ∧ ∀ j, T j → (U j ∨ W.heap.size ≤ j) ∧ j < y.heap.size ∧ j ≠ b
  kept : Kept U W y
  kt : Laid.KTab W
  uk : ¬ U 1
  hb : U b ∧ b ≠ kb ∧ b ≠ fb ∧ U kb ∧ U fb
theorem Om.only {W w' y : World} {U : Nat → Prop} {b s kb fb : Nat} {M M' : Mac} {S : Sto} (h : Om W U b s kb fb M S y) (hm : IsMac w' b M') (hk : Kept (fun k => k = b) y w') : Om W U b s kb fb M' S w' := by
  obtain ⟨T, hst, hT⟩ := h.st
  have z3 := hk.size
  exact ⟨hm, ⟨T, hst.kept hk (fun j hj e => (hT j hj).2.2 e) (Ne.symm h.hb.2.1) (Ne.symm h.hb.2.2.1), fun j hj => ⟨(hT j hj).1, by have := (hT j hj).2.1; omega, (hT j hj).2.2⟩⟩,
    h.kept.trans hk fun i _ hi => hi ▸ h.hb.1, h.kt, h.uk, h.hb⟩
theorem Om.below {W y y' : World} {U : Nat → Prop} {b s kb fb : Nat} {M : Mac} {S : Sto} (h : Om W U b s kb fb M S y) (hb : Below y.heap.size y y') : Om W U b s kb fb M S y' := by
  obtain ⟨T, hst, hT⟩ := h.st
  have z3 := hb.size
  exact ⟨h.mac.below hb, ⟨T, hst.below hb, fun j hj => ⟨(hT j hj).1, by have := (hT j hj).2.1; omega, (hT j hj).2.2⟩⟩, h.kept.trans (Kept.ofBelow hb) (fun _ _ h => h.elim) (T := fun _ => False), h.kt, h.uk, h.hb⟩
theorem Om.ktab {W y : World} {U : Nat → Prop} {b s kb fb : Nat} {M : Mac} {S : Sto} (h : Om W U b s kb fb M S y) : Laid.KTab y := fun i hi => h.kept.cell h.uk (h.kt i hi)
section
variable {W y : World} {U : Nat → Prop} {b s kb fb : Nat} {M : Mac} {S : Sto} {x : Nat}
theorem om34 (h : Om W U b s kb fb M S y) (hok : OkM M) (hh : M.halted = false) (hpc : M.pc < 8192) (hx : M.mem M.pc = x) (hpok : pOk x = true) (hop : pOp x = 34) (hr : M.reg (pA x) + 8 ≤ 8192) (hw : M.reg (pB x) + 4 ≤ 8192) (t : Px) (ht' : pxW 8 (fun i => M.mem (M.reg (pA x) + i)) = t) :
    Calls Tryd.prog 65 #[.pointer (some ⟨b, 0, none⟩), .pointer (some ⟨s, 0, none⟩)] y fun e w' => e = .returned (.tuple #[]) ∧ Om W U b s kb fb { exL M (M.reg (pB x)) 4 (wd (ht (hs t))) with pc := M.pc + 1 } ⟨putM S.pres (hs t) t, S.asked⟩ w' := by
  obtain ⟨T, hst, hT⟩ := h.st
  have hl := hst.kin.lt
  have hF : ∀ j, Foot T kb fb j → (U j ∨ W.heap.size ≤ j) ∧ j ≠ b := fun j hj => by
    rcases hj with hj | hj | hj
    · exact ⟨(hT j hj).1, (hT j hj).2.2⟩
    · rw [hj]; exact ⟨.inl h.hb.2.2.2.1, Ne.symm h.hb.2.1⟩
    · rw [hj]; exact ⟨.inl h.hb.2.2.2.2, Ne.symm h.hb.2.2.1⟩
  refine (step_exch y b s M x ⟨h.mac, hok, hh, hpc, hx, hpok⟩ (.inl hop) (fun y1 w' => Om W U b s kb fb { exL M (M.reg (pB x)) 4 (wd (ht (hs t))) with pc := M.pc + 1 } ⟨putM S.pres (hs t) t, S.asked⟩ w') (fun y1 hb1 => ?_)).mono ?_
  · rw [hop, show ((34 : Nat) : Int) = 34 from rfl]
    refine (exch34_true b s (M.reg (pA x)) (M.reg (pB x)) M (ht (hs t)) y1 (Foot T kb fb) (fun ya z => Below y.heap.size y ya ∧ IsSt z T s kb fb ⟨putM S.pres (hs t) t, S.asked⟩ ∧ Kept (Foot T kb fb) ya z) (h.mac.below hb1) hok.mem hr hw hpc (fun e => (hF b e).2 rfl) (fun ya hba => ?_) (fun ya z _ hr => hr.2.2)).mono ?_
    · rw [ht']
      have hB := bl hb1 hba
      refine (exd_add T s kb fb S t ya (h.below hB).ktab (hst.below hB) (fun k hk => ?_)).mono ?_
      · have h1 := hB.size
        have h2 := (hT k hk).2.1
        omega
      · rintro e w' ⟨he, h1, h2⟩
        exact ⟨he, hB, h1, h2⟩
    · rintro e w' ⟨he, ya, hba, z, ⟨hB, h1, h2⟩, hk, hm⟩
      have z1 := hB.size
      have z2 := h2.size
      have z3 := hk.size
      have z4 := h.kept.size
      refine ⟨he, hm, ⟨T, h1.kept hk (fun j hj e => (hT j hj).2.2 e) (Ne.symm h.hb.2.1) (Ne.symm h.hb.2.2.1), fun j hj => ⟨(hT j hj).1, by have := (hT j hj).2.1; omega, (hT j hj).2.2⟩⟩, ?_, h.kt, h.uk, h.hb⟩
      refine (((h.kept.trans (Kept.ofBelow hB) (fun _ _ h => h.elim) (T := fun _ => False)).trans h2 fun i hi hf => ?_).trans hk fun i _ hi => hi ▸ h.hb.1)
      rcases (hF i hf).1 with h9 | h9
      · exact h9
      · omega
  · rintro e w' ⟨he, _, _, h⟩
    exact ⟨he, h⟩
theorem om35 (h : Om W U b s kb fb M S y) (hok : OkM M) (hh : M.halted = false) (hpc : M.pc < 8192) (hx : M.mem M.pc = x) (hpok : pOk x = true) (hop : pOp x = 35) (hr : M.reg (pA x) + 4 ≤ 8192) (hw : M.reg (pB x) + 8 ≤ 8192) (hn : S.asked.length < 1073741824) (t : Px) (ht' : pxW 4 (fun i => M.mem (M.reg (pA x) + i)) = t) :
    Calls Tryd.prog 65 #[.pointer (some ⟨b, 0, none⟩), .pointer (some ⟨s, 0, none⟩)] y fun e w' => e = .returned (.tuple #[]) ∧ Om W U b s kb fb (if Wt.has S.pres t then { exL M (M.reg (pB x)) 8 (wd ((Wt.look S.pres t).getD zp)) with pc := M.pc + 1 } else stopM M 18446744073709551615) ⟨S.pres, askL S.asked t⟩ w' := by
  obtain ⟨T, hst, hT⟩ := h.st
  have hl := hst.kin.lt
  have z0 := h.mac.lt
  have z4 := h.kept.size
  obtain ⟨MM, hMM⟩ : ∃ MM, (if Wt.has S.pres t then { exL M (M.reg (pB x)) 8 (wd ((Wt.look S.pres t).getD zp)) with pc := M.pc + 1 } else stopM M 18446744073709551615) = MM := ⟨_, rfl⟩
  rw [hMM]
  have fin : ∀ (ya z w' : World), Below y.heap.size y ya → (∃ T' : Nat → Prop, IsSt z T' s kb fb ⟨S.pres, askL S.asked t⟩ ∧ (∀ j, T' j → (T j ∨ ya.heap.size ≤ j) ∧ j < z.heap.size) ∧ Kept T ya z) → Kept (fun k => k = b) z w' → IsMac w' b MM → Om W U b s kb fb MM ⟨S.pres, askL S.asked t⟩ w' := by
    rintro ya z w' hB ⟨T', h1, h2, h3⟩ hk hm
    have z1 := hB.size
    have z2 := h3.size
    have z3 := hk.size
    have hT' : ∀ j, T' j → (U j ∨ W.heap.size ≤ j) ∧ j < z.heap.size ∧ j ≠ b := fun j hj => by
      have hj2 := (h2 j hj).2
      rcases (h2 j hj).1 with h9 | h9
      · exact ⟨(hT j h9).1, hj2, (hT j h9).2.2⟩
      · exact ⟨.inr (by omega), hj2, by omega⟩
    refine ⟨hm, ⟨T', h1.kept hk (fun j hj e => (hT' j hj).2.2 e) (Ne.symm h.hb.2.1) (Ne.symm h.hb.2.2.1), fun j hj => ⟨(hT' j hj).1, by have := (hT' j hj).2.1; omega, (hT' j hj).2.2⟩⟩, ?_, h.kt, h.uk, h.hb⟩
    refine (((h.kept.trans (Kept.ofBelow hB) (fun _ _ h => h.elim) (T := fun _ => False)).trans h3 fun i hi hf => ?_).trans hk fun i _ hi => hi ▸ h.hb.1)
    rcases (hT i hf).1 with h9 | h9
    · exact h9
    · omega
  refine (step_exch y b s M x ⟨h.mac, hok, hh, hpc, hx, hpok⟩ (.inr hop) (fun y1 w' => Om W U b s kb fb MM ⟨S.pres, askL S.asked t⟩ w') (fun y1 hb1 => ?_)).mono ?_
  · rw [hop, show ((35 : Nat) : Int) = 35 from rfl]
    have hX : ∀ ya, Below y1.heap.size y1 ya → Calls Tryd.prog 95 #[.pointer (some ⟨s, 0, none⟩), .int .i64 35, pv (pxW 4 fun i => M.mem (M.reg (pA x) + i))] ya fun e w' => e = .returned (.tuple #[pv ((Wt.look S.pres t).getD zp), .bool (Wt.has S.pres t)]) ∧ (Below y.heap.size y ya ∧ ∃ T' : Nat → Prop, IsSt w' T' s kb fb ⟨S.pres, askL S.asked t⟩ ∧ (∀ j, T' j → (T j ∨ ya.heap.size ≤ j) ∧ j < w'.heap.size) ∧ Kept T ya w') := fun ya hba => by
      rw [ht']
      have hB := bl hb1 hba
      refine (exd_get T s kb fb S t ya (hst.below hB) (fun k hk => ?_) hn).mono ?_
      · have h1 := hB.size
        have h2 := (hT k hk).2.1
        omega
      · rintro e w' ⟨he, h1⟩
        exact ⟨he, hB, h1⟩
    cases hc : Wt.has S.pres t with
    | true =>
      rw [hc] at hX hMM
      refine (exch35_true b s (M.reg (pA x)) (M.reg (pB x)) M _ y1 T _ (h.mac.below hb1) hok.mem hr hw hpc (fun e => (hT b e).2.2 rfl) hX (fun ya z _ ⟨_, _, _, _, hr⟩ => hr)).mono ?_
      rintro e w' ⟨he, ya, hba, z, ⟨hB, h1⟩, hk, hm⟩
      rw [if_pos rfl] at hMM
      exact ⟨he, fin ya z w' hB h1 hk (hMM ▸ hm)⟩
    | false =>
      rw [hc] at hX hMM
      refine (exch35_false b s (M.reg (pA x)) (M.reg (pB x)) M _ y1 T _ (h.mac.below hb1) hok.mem hr hw hpc (fun e => (hT b e).2.2 rfl) hX (fun ya z _ ⟨_, _, _, _, hr⟩ => hr)).mono ?_
      rintro e w' ⟨he, ya, hba, z, ⟨hB, h1⟩, hk, hm⟩
      rw [if_neg (by decide)] at hMM
      exact ⟨he, fin ya z w' hB h1 hk (hMM ▸ hm)⟩
  · rintro e w' ⟨he, _, _, h⟩
    exact ⟨he, h⟩
/-- An exchange that is out of range. -/
theorem omFar (h : Om W U b s kb fb M S y) (hok : OkM M) (hh : M.halted = false) (hpc : M.pc < 8192) (hx : M.mem M.pc = x) (hpok : pOk x = true) (hop : pOp x = 34 ∨ pOp x = 35)
    (hE : ∀ y, IsMac y b M → Calls Tryd.prog 82 #[.pointer (some ⟨b, 0, none⟩), .pointer (some ⟨s, 0, none⟩), .int .i64 (pOp x), .int .u64 (M.reg (pA x)), .int .u64 (M.reg (pB x))] y fun e w' => e = .returned (.tuple #[]) ∧ IsMac w' b (stopM M 18446744073709551614) ∧ Kept (fun k => k = b) y w') :
    Calls Tryd.prog 65 #[.pointer (some ⟨b, 0, none⟩), .pointer (some ⟨s, 0, none⟩)] y fun e w' => e = .returned (.tuple #[]) ∧ Om W U b s kb fb (stopM M 18446744073709551614) S w' := by
  refine (step_exch y b s M x ⟨h.mac, hok, hh, hpc, hx, hpok⟩ hop (fun y1 w' => Om W U b s kb fb (stopM M 18446744073709551614) S w') (fun y1 hb1 => ?_)).mono ?_
  · refine (hE y1 (h.mac.below hb1)).mono ?_
    rintro e w' ⟨he, hm, hk⟩
    exact ⟨he, (h.below hb1).only hm hk⟩
  · rintro e w' ⟨he, _, _, h⟩
    exact ⟨he, h⟩
end
theorem ok_setM' {M : Mac} (h : OkM M) (p v : Nat) (hv : v < 18446744073709551616) : OkM (setM M p v) := by
  refine ⟨fun i => ?_, h.reg, h.pc, h.exit⟩
  show (if i = p then v else M.mem i) < _
  split
  · exact hv
  · exact h.mem i
theorem ok_stop {M : Mac} (h : OkM M) (x : Nat) (hx : x < 18446744073709551616) : OkM (stopM M x) := ⟨h.mem, h.reg, h.pc, hx⟩
/-- What one machine and its store make next. -/
def Good (p q : Mac × Sto) : Prop := OkM q.1 ∧ q.2.asked.length ≤ p.2.asked.length + 1 ∧ (p.1.halted = true → q = p) ∧ ∀ (W : World) (U : Nat → Prop) (b s kb fb : Nat) (y : World), Om W U b s kb fb p.1 p.2 y →
  Calls Tryd.prog 65 #[.pointer (some ⟨b, 0, none⟩), .pointer (some ⟨s, 0, none⟩)] y fun e w' => e = .returned (.tuple #[]) ∧ Om W U b s kb fb q.1 q.2 w'
theorem good_mac {M M' : Mac} {S : Sto} (hok : OkM M') (hh : M.halted = false) (h : ∀ (b s : Nat) (y : World), IsMac y b M → Calls Tryd.prog 65 #[.pointer (some ⟨b, 0, none⟩), .pointer (some ⟨s, 0, none⟩)] y fun e w' => e = .returned (.tuple #[]) ∧ IsMac w' b M' ∧ Kept (fun k => k = b) y w') : ∃ q, Good (M, S) q :=
  ⟨(M', S), hok, Nat.le_succ _, (fun e => by rw [show (M, S).1.halted = M.halted from rfl, hh] at e; exact absurd e (by decide)), fun W U b s kb fb y ho => (h b s y ho.mac).mono fun _ _ ⟨he, hm, hk⟩ => ⟨he, ho.only hm hk⟩⟩
theorem askL_len (l : List Hx) (h : Hx) : (askL l h).length ≤ l.length + 1 := by
  unfold askL; split <;> simp
theorem good_ex (M : Mac) (S : Sto) (hok : OkM M) (hn : S.asked.length < 1073741824) : ∃ q, Good (M, S) q := by
  cases hh : M.halted with
  | true => exact ⟨(M, S), hok, Nat.le_succ _, (fun _ => rfl), fun W U b s kb fb y ho => (step_still y b s M ho.mac hh).mono fun _ _ ⟨he, hm, hk⟩ => ⟨he, ho.only hm hk⟩⟩
  | false =>
  by_cases hpc : 8192 ≤ M.pc
  · exact good_mac (ok_stop hok _ (by decide)) hh fun b s y hm => step_far y b s M hm hh hpc
  have hpc : M.pc < 8192 := by omega
  obtain ⟨x, hx⟩ : ∃ x, M.mem M.pc = x := ⟨_, rfl⟩
  cases hp : pOk x with
  | false => exact good_mac (ok_stop hok _ (by decide)) hh fun b s y hm => step_bad y b s M x hm hok hh hpc hx hp
  | true =>
  have h35 : pOp x ≤ 35 := by
    unfold pOk at hp
    rw [Bool.and_eq_true] at hp
    exact of_decide_eq_true hp.1
  have pre : ∀ (y : World) (b : Nat), IsMac y b M → Pre y b M x := fun y b hm => ⟨hm, hok, hh, hpc, hx, hp⟩
  have hpc1 : M.pc + 1 < 18446744073709551616 := by omega
  by_cases h0 : pOp x = 0
  · exact good_mac (ok_stop (ok_pc hok _ hpc1) _ (hok.reg _)) hh fun b s y hm => step_halt y b s M x (pre y b hm) h0
  by_cases h25 : pOp x ≤ 25
  · obtain ⟨v, hv, hA⟩ := W1.apply_ex (pOp x) (M.reg (pA x)) (M.reg (pB x)) (M.reg (pC x)) (by omega) h25 (hok.reg _) (hok.reg _) (hok.reg _)
    exact good_mac (ok_pc (ok_setR hok _ _ hv) _ hpc1) hh fun b s y hm => step_app2 y b s M x (pre y b hm) ⟨by omega, h25⟩ v _ hA
  by_cases h26 : pOp x = 26
  · exact good_mac (ok_pc (ok_setR hok _ _ (wN_lt _)) _ hpc1) hh fun b s y hm => step_li y b s M x (pre y b hm) h26
  by_cases h28 : pOp x ≤ 28
  · have e := wN_eq ((M.reg (pA x) : Int) + IntKind.u64.wrap (pN x))
    refine good_mac (M' := accM M (pOp x) (pD x) (pB x) (wN ((M.reg (pA x) : Int) + IntKind.u64.wrap (pN x)))) ?_ hh fun b s y hm => step_acc y b s M x (pre y b hm) (by omega) _ e
    unfold accM
    split
    · exact ok_stop hok 18446744073709551614 (by decide)
    · refine ok_pc (M := if pOp x = 27 then setR M (pD x) (M.mem _) else setM M _ (M.reg (pB x))) ?_ _ hpc1
      split
      · exact ok_setR hok _ _ (hok.mem _)
      · exact ok_setM' hok _ _ (hok.reg _)
  by_cases h33 : pOp x ≤ 33
  · refine good_mac (M' := jumpM M (pOp x) (pD x) (pA x) (wN (pN x))) ?_ hh fun b s y hm => step_jump y b s M x (pre y b hm) (by omega)
    have hw := wN_lt (pN x)
    have hr := hok.reg (pA x)
    obtain ⟨tt, htt, htl⟩ : ∃ tt, (if pOp x = 33 then M.reg (pA x) else wN (pN x)) = tt ∧ tt < 18446744073709551616 := ⟨_, rfl, by
      by_cases c : pOp x = 33
      · rw [if_pos c]; exact hr
      · rw [if_neg c]; exact hw⟩
    unfold jumpM
    rw [htt]
    by_cases c1 : (pOp x = 30 ∧ M.reg (pA x) ≠ 0) ∨ (pOp x = 31 ∧ M.reg (pA x) = 0)
    · rw [if_pos c1]; exact ok_pc hok _ hpc1
    · rw [if_neg c1]
      by_cases c2 : 8192 ≤ tt
      · rw [if_pos c2]; exact ok_stop hok 18446744073709551614 (by decide)
      · rw [if_neg c2]
        refine ok_pc (M := if pOp x = 32 then setR M (pD x) (M.pc + 1) else M) ?_ _ htl
        split
        · exact ok_setR hok _ _ hpc1
        · exact hok
  by_cases h34 : pOp x = 34
  · by_cases hr : M.reg (pA x) + 8 ≤ 8192
    · by_cases hw : M.reg (pB x) + 4 ≤ 8192
      · refine ⟨(_, _), ?_, ?_, ?_, fun W U b s kb fb y ho => om34 ho hok hh hpc hx hp h34 hr hw _ rfl⟩
        · exact ok_pc (ok_exL hok _ _ _ (wd_lt _)) _ hpc1
        · exact Nat.le_succ _
        · intro e; rw [show (M, S).1.halted = M.halted from rfl, hh] at e; exact absurd e (by decide)
      · refine ⟨(stopM M 18446744073709551614, S), ok_stop hok _ (by decide), Nat.le_succ _, ?_, fun W U b s kb fb y ho => omFar ho hok hh hpc hx hp (.inl h34) fun y hm => ?_⟩
        · intro e; rw [show (M, S).1.halted = M.halted from rfl, hh] at e; exact absurd e (by decide)
        · rw [h34]; exact exch34_far2 y b s _ _ M hm (by omega) (by omega)
    · refine ⟨(stopM M 18446744073709551614, S), ok_stop hok _ (by decide), Nat.le_succ _, ?_, fun W U b s kb fb y ho => omFar ho hok hh hpc hx hp (.inl h34) fun y hm => ?_⟩
      · intro e; rw [show (M, S).1.halted = M.halted from rfl, hh] at e; exact absurd e (by decide)
      · rw [h34]; exact exch34_far1 y b s _ _ M hm (by omega)
  have h35 : pOp x = 35 := by omega
  by_cases hr : M.reg (pA x) + 4 ≤ 8192
  · by_cases hw : M.reg (pB x) + 8 ≤ 8192
    · refine ⟨(_, _), ?_, ?_, ?_, fun W U b s kb fb y ho => om35 ho hok hh hpc hx hp h35 hr hw hn _ rfl⟩
      · show OkM (ite _ _ _)
        split
        · exact ok_pc (ok_exL hok _ _ _ (wd_lt _)) _ hpc1
        · exact ok_stop hok _ (by decide)
      · exact askL_len _ _
      · intro e; rw [show (M, S).1.halted = M.halted from rfl, hh] at e; exact absurd e (by decide)
    · refine ⟨(stopM M 18446744073709551614, S), ok_stop hok _ (by decide), Nat.le_succ _, ?_, fun W U b s kb fb y ho => omFar ho hok hh hpc hx hp (.inr h35) fun y hm => ?_⟩
      · intro e; rw [show (M, S).1.halted = M.halted from rfl, hh] at e; exact absurd e (by decide)
      · rw [h35]; exact exch35_far2 y b s _ _ M hm (by omega) (by omega)
  · refine ⟨(stopM M 18446744073709551614, S), ok_stop hok _ (by decide), Nat.le_succ _, ?_, fun W U b s kb fb y ho => omFar ho hok hh hpc hx hp (.inr h35) fun y hm => ?_⟩
    · intro e; rw [show (M, S).1.halted = M.halted from rfl, hh] at e; exact absurd e (by decide)
    · rw [h35]; exact exch35_far1 y b s _ _ M hm (by omega)
/-- All that comes, step by step. -/
noncomputable def nextG (p : Mac × Sto) : Mac × Sto := by
  classical exact if h : ∃ q, Good p q then h.choose else p
noncomputable def seqG (p : Mac × Sto) : Nat → Mac × Sto
  | 0 => p
  | i + 1 => nextG (seqG p i)
theorem next_good {p : Mac × Sto} (h : ∃ q, Good p q) : Good p (nextG p) := by
  unfold nextG
  rw [dif_pos h]
  exact h.choose_spec
theorem seq_all (p : Mac × Sto) (hok : OkM p.1) (n : Nat) (hn : p.2.asked.length + n < 1073741824) : ∀ i, i ≤ n → OkM (seqG p i).1 ∧ (seqG p i).2.asked.length ≤ p.2.asked.length + i ∧ Good (seqG p i) (seqG p (i + 1))
  | 0, _ => ⟨hok, Nat.le_refl _, next_good (good_ex p.1 p.2 hok (by omega))⟩
  | i + 1, hi => by
    obtain ⟨h1, h2, h3⟩ := seq_all p hok n hn i (by omega)
    have h4 : OkM (seqG p (i + 1)).1 := h3.1
    have h5 : (seqG p (i + 1)).2.asked.length ≤ p.2.asked.length + (i + 1) := by have := h3.2.1; omega
    have h6 : (seqG p (i + 1)).2.asked.length < 1073741824 := by omega
    exact ⟨h4, h5, next_good (good_ex (seqG p (i + 1)).1 (seqG p (i + 1)).2 h4 h6)⟩
end Vm
end Go.Proofs.YtdmffnjbholkkaaDoor
namespace Go.Proofs.YtdmffnjbholkkaaDoor
open Go.RowKit Go.ChangeShapes
set_option linter.unusedVariables false
set_option linter.unusedSimpArgs false
namespace Vm
open Kc Mk Wt
set_option maxHeartbeats 2000000 in
set_option maxRecDepth 100000 in
theorem words_any (w : World) (b o n c : Nat) (f : Nat → Ins) (h : IsIns w b o n f) (hlt : b < w.heap.size) (N : Nat) (hn : N ≤ 8192 ∧ N ≤ n ∧ (N = n ∨ N = 8192) ∧ n ≤ maxLen) :
    Calls Tryd.prog 40 #[.slice (some ⟨b, o, none⟩) n c] w fun e w' => ∃ V, e = .returned V ∧ Wl w b o n f N V w' := by
  obtain ⟨i0, hi0⟩ := infoW
  have HI := Lib.hid hi0
  have H0 : Hid (Wl w b o n f 0 (.slice none 0 0) w) := Lib.hid ⟨h, World.ownsRow_nil _ _ _ _, Below.refl _ _, hlt⟩
  have HN := Lib.hid hn
  clear h hlt hi0 hn
  go_enter Tryd.func40, Tryd.ntmps40
  go_upto_region 3 with (fail)
  go_loopw [10, 3] (fun t V y => ∃ j : Nat, t = .int .i64 j ∧ Hid (j ≤ N ∧ Wl w b o n f j V y)) (fun t _ _ => N - (intOf t).toNat)
  case atStart => exact ⟨0, rfl, Lib.hid ⟨Nat.zero_le _, H0.out⟩⟩
  case round =>
    obtain ⟨j, rfl, hp⟩ := hrel
    have HP := Lib.hid hp.out
    clear hp H0
    by_cases hlt : j < N
    · have hjn : j < n := by have := HN.out.2.1; omega
      have t1 : decide (j < n) = true := by simp; omega
      have t2 : decide (8192 ≤ (j : Int)) = false := by have := HN.out; simp; omega
      have hj0 : (j : Int) < (n : Int) := by omega
      have HJ : Hid (j < N ∧ wrap64 ((j : Int) + 1) = ((j + 1 : Nat) : Int)) := Lib.hid ⟨hlt, wrap_up j (by have := HN.out; omega)⟩
      have HL := Lib.hid (loadIns HP.out.2.ins hjn)
      generalize hx : f j = x at *
      have HX := Lib.hid hx
      clear hlt hx hjn
      unfold insV at HL
      go_upto_region 5 with ((with_reducible refine wpList_loadE (P := Tryd.prog) (w := wr) (ty := 82) (x := .tmp 13) (p := .pointer (some ⟨b, o + j * 7, none⟩)) (v := .agg #[.int .i64 x.op, .int .i64 x.d, .int .i64 x.a, .int .i64 x.b, .int .i64 x.c, .int .i64 x.n, .int .u64 x.raw]) ?_ ?_ ?_ HL.out ?_); (· exact rfl); (· exact rfl); (· exact rfl))
      have HP1 := Lib.hid (HP.out.2.below' ((Below.refl wr.heap.size wr).alloc (Nat.le_refl _) (.cells #[.int .i64 x.op, .int .i64 x.d, .int .i64 x.a, .int .i64 x.b, .int .i64 x.c, .int .i64 x.n, .int .u64 x.raw] 82)))
      have HD : Hid (∀ i v, (insV x)[i]? = some v → (wr.alloc (.cells #[.int .i64 x.op, .int .i64 x.d, .int .i64 x.a, .int .i64 x.b, .int .i64 x.c, .int .i64 x.n, .int .u64 x.raw] 82)).cell? ⟨wr.heap.size, i, none⟩ = some v) := Lib.hid (fun i v hv => by
        rw [cell_of_row _ _ i _ _ _ (heap_alloc_new wr _)]
        simpa [insV] using hv)
      clear HP HL
      generalize wr.alloc (.cells #[.int .i64 x.op, .int .i64 x.d, .int .i64 x.a, .int .i64 x.b, .int .i64 x.c, .int .i64 x.n, .int .u64 x.raw] 82) = y1 at *
      generalize wr.heap.size = qa at *
      have c0 : y1.cell? ⟨qa, 0, none⟩ = some (.int .i64 x.op) := HD.out 0 _ rfl
      have c1 : y1.cell? ⟨qa, 1, none⟩ = some (.int .i64 x.d) := HD.out 1 _ rfl
      have c2 : y1.cell? ⟨qa, 2, none⟩ = some (.int .i64 x.a) := HD.out 2 _ rfl
      have c3 : y1.cell? ⟨qa, 3, none⟩ = some (.int .i64 x.b) := HD.out 3 _ rfl
      have c4 : y1.cell? ⟨qa, 4, none⟩ = some (.int .i64 x.c) := HD.out 4 _ rfl
      have c5 : y1.cell? ⟨qa, 5, none⟩ = some (.int .i64 x.n) := HD.out 5 _ rfl
      have c6 : y1.cell? ⟨qa, 6, none⟩ = some (.int .u64 x.raw) := HD.out 6 _ rfl
      by_cases hc : codeOk x.op (m16 x.d) (m16 x.a) (m16 x.b) (m16 x.c) x.n
      · have HC : Hid (Calls Tryd.prog 43 #[.int .i64 x.op, .int .i64 (wrap64 ((IntKind.u64.wrap x.d).tmod 16)), .int .i64 (wrap64 ((IntKind.u64.wrap x.a).tmod 16)), .int .i64 (wrap64 ((IntKind.u64.wrap x.b).tmod 16)), .int .i64 (wrap64 ((IntKind.u64.wrap x.c).tmod 16)), .int .i64 x.n] y1 fun e w' => e = .returned (.tuple #[.int .u64 (codeW x.op (m16 x.d) (m16 x.a) (m16 x.b) (m16 x.c) x.n), .int .i64 0]) ∧ Below y1.heap.size y1 w') :=
          Lib.hid ((show codeR x.op (m16 x.d) (m16 x.a) (m16 x.b) (m16 x.c) x.n = _ from if_pos hc) ▸ rcode_walk y1 x.op (m16 x.d) (m16 x.a) (m16 x.b) (m16 x.c) x.n)
        have HW : Hid (codeW x.op (m16 x.d) (m16 x.a) (m16 x.b) (m16 x.c) x.n = (wordOf (f j) : Int)) := Lib.hid (by rw [HX.out]; unfold wordOf; rw [if_pos hc]; exact (codeW_nn hc).symm)
        clear hc
        go_upto_region 7 with (go_at_call 43; (with_reducible refine HC.out.mono ?_); rintro e y2 ⟨he, hy⟩; obtain rfl : e = _ := he; have k6 := keep1 hy c6; have HP2 := Lib.hid (HP1.out.below' hy); clear hy)
        clear c0 c1 c2 c3 c4 c5 c6 HC
        generalize hX : codeW x.op (m16 x.d) (m16 x.a) (m16 x.b) (m16 x.c) x.n = X at *
        clear hX
        have HP3 := Lib.hid (HP2.out.below' ((Below.refl y2.heap.size y2).alloc (Nat.le_refl _) (.cells #[.int .u64 X] 78)))
        have HQ : Hid (w.heap.size ≤ (y2.alloc (.cells #[.int .u64 X] 78)).heap.size) := Lib.hid HP3.out.below.size
        have HBD : Hid (j + 1 ≤ maxLen ∧ (j + 1) * 8 ≤ 140737488355328) := Lib.hid ⟨by have := HJ.out.1; have := HN.out; unfold maxLen; omega, by have := HJ.out.1; have := HN.out; omega⟩
        have hw1 := HJ.out.2
        go_wp2_with (refine wpList_append_at _ rfl (.tmp 49) (.tmp 51) 93 rfl w.heap.size 78 i0 (.int .u64 0) 1 8 undW HI.out rfl (by decide) u3 j ((List.range j).map fun i => wv' (wordOf (f i))) rfl HP3.out.row ⟨y2.heap.size, 0, none⟩ 1 1 [.int .u64 X] rfl rfl (one_at rfl _ _) (by intro u hu; simp at hu; subst hu; rfl) HBD.out.1 HBD.out.2 HQ.out ?_; intro V3 y3 hown3 hgr3 hat3; have HF3 := Lib.hid (HP3.out.grown X HW.out hown3 hgr3); clear hown3 hgr3 hat3)
        go_roundw
        case rel => exact ⟨j + 1, by go_num, Lib.hid ⟨HJ.out.1, HF3.out⟩⟩
        case measure => exact meas_loop HJ.out.1 HJ.out.2
      · have HC : Hid (Calls Tryd.prog 43 #[.int .i64 x.op, .int .i64 (wrap64 ((IntKind.u64.wrap x.d).tmod 16)), .int .i64 (wrap64 ((IntKind.u64.wrap x.a).tmod 16)), .int .i64 (wrap64 ((IntKind.u64.wrap x.b).tmod 16)), .int .i64 (wrap64 ((IntKind.u64.wrap x.c).tmod 16)), .int .i64 x.n] y1 fun e w' => e = .returned (.tuple #[.int .u64 0, .int .i64 2]) ∧ Below y1.heap.size y1 w') :=
          Lib.hid ((show codeR x.op (m16 x.d) (m16 x.a) (m16 x.b) (m16 x.c) x.n = _ from if_neg hc) ▸ rcode_walk y1 x.op (m16 x.d) (m16 x.a) (m16 x.b) (m16 x.c) x.n)
        have HW : Hid ((x.raw : Int) = (wordOf (f j) : Int)) := Lib.hid (by rw [HX.out]; unfold wordOf; rw [if_neg hc])
        clear hc
        go_upto_region 7 with (go_at_call 43; (with_reducible refine HC.out.mono ?_); rintro e y2 ⟨he, hy⟩; obtain rfl : e = _ := he; have k6 := keep1 hy c6; have HP2 := Lib.hid (HP1.out.below' hy); clear hy)
        clear c0 c1 c2 c3 c4 c5 c6 HC
        generalize hX : (x.raw : Int) = X at *
        clear hX
        have HP3 := Lib.hid (HP2.out.below' ((Below.refl y2.heap.size y2).alloc (Nat.le_refl _) (.cells #[.int .u64 X] 78)))
        have HQ : Hid (w.heap.size ≤ (y2.alloc (.cells #[.int .u64 X] 78)).heap.size) := Lib.hid HP3.out.below.size
        have HBD : Hid (j + 1 ≤ maxLen ∧ (j + 1) * 8 ≤ 140737488355328) := Lib.hid ⟨by have := HJ.out.1; have := HN.out; unfold maxLen; omega, by have := HJ.out.1; have := HN.out; omega⟩
        have hw1 := HJ.out.2
        go_wp2_with (refine wpList_append_at _ rfl (.tmp 49) (.tmp 51) 93 rfl w.heap.size 78 i0 (.int .u64 0) 1 8 undW HI.out rfl (by decide) u3 j ((List.range j).map fun i => wv' (wordOf (f i))) rfl HP3.out.row ⟨y2.heap.size, 0, none⟩ 1 1 [.int .u64 X] rfl rfl (one_at rfl _ _) (by intro u hu; simp at hu; subst hu; rfl) HBD.out.1 HBD.out.2 HQ.out ?_; intro V3 y3 hown3 hgr3 hat3; have HF3 := Lib.hid (HP3.out.grown X HW.out hown3 hgr3); clear hown3 hgr3 hat3)
        go_roundw
        case rel => exact ⟨j + 1, by go_num, Lib.hid ⟨HJ.out.1, HF3.out⟩⟩
        case measure => exact meas_loop HJ.out.1 HJ.out.2
    · obtain rfl : j = N := by have := HP.out.1; omega
      rcases Nat.lt_or_ge j n with hjn | hjn
      · have t1 : decide (j < n) = true := by simp; omega
        have e8 : j = 8192 := by rcases HN.out.2.2.1 with h | h <;> omega
        have t2 : decide (8192 ≤ (j : Int)) = true := by simp; omega
        have hj0 : (j : Int) < (n : Int) := by omega
        have HL := Lib.hid (loadIns HP.out.2.ins hjn)
        clear hlt hjn e8
        generalize hx : f j = x at *
        unfold insV at HL
        go_upto_region 5 with ((with_reducible refine wpList_loadE (P := Tryd.prog) (w := wr) (ty := 82) (x := .tmp 13) (p := .pointer (some ⟨b, o + j * 7, none⟩)) (v := .agg #[.int .i64 x.op, .int .i64 x.d, .int .i64 x.a, .int .i64 x.b, .int .i64 x.c, .int .i64 x.n, .int .u64 x.raw]) ?_ ?_ ?_ HL.out ?_); (· exact rfl); (· exact rfl); (· exact rfl))
        have HP1 := Lib.hid (HP.out.2.below' ((Below.refl wr.heap.size wr).alloc (Nat.le_refl _) (.cells #[.int .i64 x.op, .int .i64 x.d, .int .i64 x.a, .int .i64 x.b, .int .i64 x.c, .int .i64 x.n, .int .u64 x.raw] 82)))
        clear HP HL
        generalize wr.alloc (.cells #[.int .i64 x.op, .int .i64 x.d, .int .i64 x.a, .int .i64 x.b, .int .i64 x.c, .int .i64 x.n, .int .u64 x.raw] 82) = y1 at *
        go_wp2_with (fail)
        exact bodyPost_ret (v := u3) (by simp [results, Tryd.results40, go_sem]) rfl ⟨u3, rfl, HP1.out⟩
      · have t1 : decide (j < n) = false := by simp; omega
        clear hlt hjn
        go_wp2_with (fail)
        exact bodyPost_ret (v := u3) (by simp [results, Tryd.results40, go_sem]) rfl ⟨u3, rfl, HP.out.2⟩
set_option maxHeartbeats 1000000 in
set_option maxRecDepth 100000 in
theorem words_zero (w : World) (a0 : Option Addr) (c : Nat) :
    Calls Tryd.prog 40 #[.slice a0 0 c] w fun e w' => e = .returned (.slice none 0 0) ∧ w' = w := by
  go_enter Tryd.func40, Tryd.ntmps40
  go_upto_region 3 with (fail)
  go_loopw [10, 3] (fun t V y => t = .int .i64 0 ∧ V = .slice none 0 0 ∧ y = w) (fun _ _ _ => 0)
  case atStart => exact ⟨rfl, rfl, rfl⟩
  case round =>
    obtain ⟨rfl, rfl, rfl⟩ := hrel
    go_wp2_with (fail)
    exact bodyPost_ret (v := .slice none 0 0) (by simp [results, Tryd.results40, go_sem]) rfl ⟨rfl, rfl⟩
theorem mc_zero (g : Nat → Nat) (i : Nat) (hi : i < 8211) : mc m0 i = mc (loaded 0 g) i := by
  unfold mc loaded m0
  simp
set_option maxHeartbeats 1000000 in
set_option maxRecDepth 100000 in
theorem load_zero (w : World) (a0 : Option Addr) (c : Nat) (g : Nat → Nat) :
    Calls Tryd.prog 39 #[.slice a0 0 c] w fun e w' => e = .returned (.tuple #[.pointer (some ⟨w.heap.size, 0, none⟩), .nilIface]) ∧ IsMac w' w.heap.size (loaded 0 g) ∧ Below w.heap.size w w' := by
  have HBM := Lib.hid (buildM0 w)
  have HT : Hid (IsTab (w.alloc (.cells (tab 8211 (mc m0)) 87)) w.heap.size 87 8211 (mc m0)) := Lib.hid (IsTab.new w _ 8211 _)
  have HB : Hid (Below w.heap.size w (w.alloc (.cells (tab 8211 (mc m0)) 87))) := Lib.hid ((Below.refl _ _).alloc (Nat.le_refl _) _)
  generalize hz : (tab 8211 (mc m0)) = ck at *
  have HZ := Lib.hid hz
  clear hz
  go_enter Tryd.func39, Tryd.ntmps39
  go_upto_region 4 with ((with_reducible refine Wt.wpList_buildM (P := Tryd.prog) (w := w) ?_ 87 ?_ (.agg ck) HBM.out ?_); (· exact rfl); (· exact rfl))
  generalize w.alloc (.cells ck 87) = y at *
  have s1 := slM w.heap.size
  generalize hq : w.heap.size = q at *
  go_upto_region 5 with (refine wpList_copy_nothing rfl (.tmp 14) (.tmp 15) 93 93 rfl 78 undW sizeW (some ⟨q, 0, none⟩) a0 8192 8192 0 c rfl rfl rfl ?_)
  have H9 : IsMac y q (loaded 0 g) := IsTab.cong HT.out fun i hi => mc_zero g i hi
  have HB9 : Below w.heap.size w y := by rw [hq]; exact HB.out
  have H9 := Lib.hid (And.intro H9 HB9)
  have HQ := Lib.hid hq
  clear hq s1
  go_wp2_with (fail)
  exact bodyPost_ret (v := .tuple #[.pointer (some ⟨q, 0, none⟩), .nilIface]) (by simp [results, Tryd.results39, go_sem]) rfl ⟨by rw [HQ.out], by rw [HQ.out]; exact H9.out.1, H9.out.2⟩
theorem load_any (w : World) (q : Nat) (V : Value) (n : Nat) (l : List Nat) (hl : n = l.length) (h : w.ownsRow q 78 1 V n (l.map wv')) (hn : n ≤ 8192) :
    Calls Tryd.prog 39 #[V] w fun e w' => e = .returned (.tuple #[.pointer (some ⟨w.heap.size, 0, none⟩), .nilIface]) ∧ IsMac w' w.heap.size (loaded n fun j => l.getD j 0) ∧ Below w.heap.size w w' := by
  rcases Nat.eq_zero_or_pos n with h0 | h0
  · rcases ownsRow_forms h with ⟨rfl, _⟩ | ⟨g, cap, rfl, _⟩
    · rw [h0]; exact load_zero w none 0 _
    · rw [h0]; exact load_zero w _ cap _
  · obtain ⟨g, cap, rfl, hs⟩ := ws_of l hl h h0
    exact load_walk w g 0 n cap _ hs hn
set_option maxHeartbeats 1000000 in
set_option maxRecDepth 100000 in
theorem load_full (w : World) (a0 : Option Addr) (n c : Nat) (hn : 8192 < n) :
    Calls Tryd.prog 39 #[.slice a0 n c] w fun e w' => e = .returned (.tuple #[.pointer none, .iface 62 (.int .i64 5)]) ∧ w' = w := by
  have t1 : decide (8192 < (n : Int)) = true := by simp; omega
  clear hn
  go_enter Tryd.func39, Tryd.ntmps39
  go_wp2_with (fail)
  exact bodyPost_ret (v := .tuple #[.pointer none, .iface 62 (.int .i64 5)]) (by simp [results, Tryd.results39, go_sem]) rfl ⟨rfl, rfl⟩
set_option maxHeartbeats 1000000 in
set_option maxRecDepth 100000 in
theorem run_none (w : World) (v : Value) (k : Int) :
    Calls Tryd.prog 37 #[.pointer none, v, .int .i64 k] w fun e w' => e = .returned (.tuple #[.int .i64 0, .iface 62 (.int .i64 1)]) ∧ w' = w := by
  go_enter Tryd.func37, Tryd.ntmps37
  go_wp2_with (fail)
  exact bodyPost_ret (v := .tuple #[.int .i64 0, .iface 62 (.int .i64 1)]) (by simp [results, Tryd.results37, go_sem]) rfl ⟨rfl, rfl⟩
set_option maxHeartbeats 1000000 in
set_option maxRecDepth 100000 in
theorem run_nilStore (w : World) (a : Addr) (k : Int) :
    Calls Tryd.prog 37 #[.pointer (some a), .pointer none, .int .i64 k] w fun e w' => e = .returned (.tuple #[.int .i64 0, .iface 62 (.int .i64 1)]) ∧ w' = w := by
  go_enter Tryd.func37, Tryd.ntmps37
  go_wp2_with (fail)
  exact bodyPost_ret (v := .tuple #[.int .i64 0, .iface 62 (.int .i64 1)]) (by simp [results, Tryd.results37, go_sem]) rfl ⟨rfl, rfl⟩
set_option maxHeartbeats 1000000 in
set_option maxRecDepth 100000 in
theorem run_neg (w : World) (a b : Addr) :
    Calls Tryd.prog 37 #[.pointer (some a), .pointer (some b), .int .i64 (-1)] w fun e w' => e = .returned (.tuple #[.int .i64 0, .iface 62 (.int .i64 2)]) ∧ w' = w := by
  go_enter Tryd.func37, Tryd.ntmps37
  go_wp2_with (fail)
  exact bodyPost_ret (v := .tuple #[.int .i64 0, .iface 62 (.int .i64 2)]) (by simp [results, Tryd.results37, go_sem]) rfl ⟨rfl, rfl⟩
set_option maxHeartbeats 1000000 in
set_option maxRecDepth 100000 in
theorem Step_none (w : World) (v : Value) :
    Calls Tryd.prog 36 #[.pointer none, v] w fun e w' => e = .returned (.iface 62 (.int .i64 1)) ∧ w' = w := by
  go_enter Tryd.func36, Tryd.ntmps36
  go_wp2_with (fail)
  exact bodyPost_ret (v := .iface 62 (.int .i64 1)) (by simp [results, Tryd.results36, go_sem]) rfl ⟨rfl, rfl⟩
set_option maxHeartbeats 1000000 in
set_option maxRecDepth 100000 in
theorem Step_nilStore (w : World) (a : Addr) :
    Calls Tryd.prog 36 #[.pointer (some a), .pointer none] w fun e w' => e = .returned (.iface 62 (.int .i64 1)) ∧ w' = w := by
  go_enter Tryd.func36, Tryd.ntmps36
  go_wp2_with (fail)
  exact bodyPost_ret (v := .iface 62 (.int .i64 1)) (by simp [results, Tryd.results36, go_sem]) rfl ⟨rfl, rfl⟩
set_option maxHeartbeats 1000000 in
set_option maxRecDepth 100000 in
theorem Copy_none (w : World)  :
    Calls Tryd.prog 41 #[.pointer none] w fun e w' => e = .returned (.pointer none) ∧ w' = w := by
  go_enter Tryd.func41, Tryd.ntmps41
  go_wp2_with (fail)
  exact bodyPost_ret (v := .pointer none) (by simp [results, Tryd.results41, go_sem]) rfl ⟨rfl, rfl⟩
set_option maxHeartbeats 1000000 in
set_option maxRecDepth 100000 in
theorem stores_nil (w : World) (ht : Laid.KTab w) (hlo : Wt.lowB ≤ w.heap.size) :
    Calls Tryd.prog 38 #[.slice none 0 0] w fun e w' => ∃ s r T kb fb, e = .returned (.tuple #[.pointer (some ⟨s, 0, none⟩), .pointer (some ⟨r, 0, none⟩)]) ∧ IsSt w' T s kb fb nw ∧ Below w.heap.size w w' ∧ (∀ j, Foot T kb fb j → w.heap.size ≤ j) ∧ (∀ j, T j → j < w'.heap.size) := by
  have HN := Lib.hid (Wt.New_walk w ht hlo)
  clear ht hlo
  go_enter Tryd.func38, Tryd.ntmps38
  go_upto_region 4 with (first
    | (go_at_call 13; (with_reducible refine HN.out.mono ?_); rintro e y1 ⟨s, T, kb, fb, he, hst, hb, hF, hT, hk⟩; obtain rfl : e = _ := he; have H1 := Lib.hid (And.intro hst (And.intro hb (And.intro hF hT))); have HR := Lib.hid (Wt.rnew_walk y1); clear hst hb hF hT hk HN)
    | (go_at_call 14; (with_reducible refine HR.out.mono ?_); rintro e y2 ⟨r, he, T2, hr, hT2, hb⟩; obtain rfl : e = _ := he; have H2 := Lib.hid hb; clear hr hT2 hb HR))
  have H3 : Hid (IsSt y2 T s kb fb nw ∧ Below w.heap.size w y2 ∧ (∀ j, Foot T kb fb j → w.heap.size ≤ j) ∧ (∀ j, T j → j < y2.heap.size)) := Lib.hid ⟨H1.out.1.below H2.out, bl H1.out.2.1 H2.out, H1.out.2.2.1, fun j hj => Nat.lt_of_lt_of_le (H1.out.2.2.2 j hj) H2.out.size⟩
  clear H1 H2
  go_upto_region 5 with (fail)
  go_loopw [15] (fun t y => t = .int .i64 0 ∧ y = y2) (fun _ _ => 0)
  case atStart => exact ⟨rfl, rfl⟩
  case round =>
    obtain ⟨rfl, rfl⟩ := hrel
    go_wp2_with (fail)
    exact bodyPost_ret (v := .tuple #[.pointer (some ⟨s, 0, none⟩), .pointer (some ⟨r, 0, none⟩)]) (by simp [results, Tryd.results38, go_sem]) rfl ⟨s, r, T, kb, fb, rfl, H3.out.1, H3.out.2.1, H3.out.2.2.1, H3.out.2.2.2⟩
/-- The instructions that a slice of structs of integers holds. -/
theorem recs_ins {w : World} {a0 : Option Addr} {n c : Nat} (h : IsRecs [.i64, .i64, .i64, .i64, .i64, .i64, .u64] w a0 n c) : n ≤ maxLen ∧ (n = 0 ∨ ∃ b o f, a0 = some ⟨b, o, none⟩ ∧ b < w.heap.size ∧ IsIns w b o n f ∧ ∀ i, wordOf (f i) < 18446744073709551616) := by
  rcases h with ⟨rfl, rfl, rfl⟩ | ⟨h1, h2, h3⟩
  · exact ⟨by unfold maxLen; omega, .inl rfl⟩
  refine ⟨by omega, ?_⟩
  rcases Nat.eq_zero_or_pos n with h0 | h0
  · exact .inl h0
  right
  obtain ⟨b, o, rfl, _⟩ := h3 0 h0
  have hx : ∀ i, ∃ x : Ins, (i < n → ∀ (k : Nat) v, (insV x)[k]? = some v → w.cell? ⟨b, o + i * 7 + k, none⟩ = some v) ∧ x.raw < 18446744073709551616 := fun i => by
    by_cases hi : i < n
    · obtain ⟨c1, o1, e, hc⟩ := h3 i hi
      obtain ⟨rfl, rfl⟩ : c1 = b ∧ o1 = o := by simpa [eq_comm] using e
      obtain ⟨z0, e0, _⟩ := hc 0 .i64 rfl
      obtain ⟨z1, e1, _⟩ := hc 1 .i64 rfl
      obtain ⟨z2, e2, _⟩ := hc 2 .i64 rfl
      obtain ⟨z3, e3, _⟩ := hc 3 .i64 rfl
      obtain ⟨z4, e4, _⟩ := hc 4 .i64 rfl
      obtain ⟨z5, e5, _⟩ := hc 5 .i64 rfl
      obtain ⟨z6, e6, w6⟩ := hc 6 .u64 rfl
      have hb6 : 0 ≤ z6 ∧ z6 < 18446744073709551616 := by
        have p0 : 0 ≤ z6 := (of_decide_eq_true (Bool.and_eq_true_iff.1 w6).1)
        have p1 : z6 ≤ 18446744073709551615 := (of_decide_eq_true (Bool.and_eq_true_iff.1 w6).2)
        omega
      obtain ⟨r, rfl⟩ : ∃ r : Nat, z6 = r := ⟨z6.toNat, by omega⟩
      refine ⟨⟨z0, z1, z2, z3, z4, z5, r⟩, fun _ k v hv => ?_, by show r < _; omega⟩
      have hk : k < 7 := by
        obtain ⟨h, _⟩ := List.getElem?_eq_some_iff.1 hv
        simpa [insV] using h
      have ek : k = 0 ∨ k = 1 ∨ k = 2 ∨ k = 3 ∨ k = 4 ∨ k = 5 ∨ k = 6 := by omega
      rcases ek with rfl | rfl | rfl | rfl | rfl | rfl | rfl <;> (simp [insV] at hv; subst hv; assumption)
    · exact ⟨⟨0, 0, 0, 0, 0, 0, 0⟩, fun h => absurd h hi, by decide⟩
  obtain ⟨f, hf⟩ := Classical.axiomOfChoice hx
  refine ⟨b, o, f, rfl, ?_, fun i k v hi hv => (hf i).1 hi k v hv, fun i => ?_⟩
  · have := (hf 0).1 h0 0 _ rfl
    exact inHeap this
  · unfold wordOf
    split
    · next hc => have := hc; unfold codeOk gd m16 at this; unfold codeW m16; omega
    · exact (hf i).2
end Vm
end Go.Proofs.YtdmffnjbholkkaaDoor
namespace Go.Proofs.YtdmffnjbholkkaaDoor
open Go.RowKit Go.ChangeShapes
set_option linter.unusedVariables false
set_option linter.unusedSimpArgs false
namespace Vm
open Kc Mk Wt
set_option maxRecDepth 1000000 in
theorem zeroMac' (w : World) : (zeroValue 87).run Tryd.prog w = .ok (.agg (tab 8211 (mc m0))) w := by kernel_rfl
theorem guardM' : Tryd.prog.eqGuardType Tryd.prog.depth 87 = false := by kernel_rfl
theorem oneCell_mc (M : Mac) (i : Nat) : (mc M i).oneCell' = true := by
  unfold mc
  repeat' split
  all_goals rfl
theorem one_mc' (M : Mac) : (tab 8211 (mc M)).all (·.oneCell') = true := by
  unfold tab
  simp [oneCell_mc]
theorem os_neM {ops : Array Oper} {Q : Exit → Act → World → Prop} {S : World → Prop} {k : Nat} {r : OS} {o : Oper} {a : Act} {w : World} (d : Option Tmp) (x z : Operand) (vx vz : Array Value) (v : Value) (ho : ops[k]? = some o) (hd : o.dst = d) (hw : Region.wanted o (yielded ops a.tmps) = true) (hop : o.op = .binOp .neq 87 x z 87) (hx : a.eval x = .agg vx) (hz : a.eval z = .agg vz)
    (hl : ∀ w, S w → (binOp .neq 87 (.agg vx) (.agg vz)).run Tryd.prog w = .ok v w) (h : wpOs Tryd.prog ops Q S r (a.put d v) w) : wpOs Tryd.prog ops Q S (.take k r) a w :=
  os_tk d v ho hd hw (fun w hw => by
    have e1 := run_eqGuard_agg (P := Tryd.prog) (w := w) .neq 87 x z vx vz guardM'
    have e2 := hl w hw
    unfold execOp
    simp only [hop, hx, hz]
    generalize binOp .neq 87 (.agg vx) (.agg vz) = B at *
    generalize eqGuard .neq 87 x z (.agg vx) (.agg vz) = G at *
    simp [e1, e2, Result.andThen]) h
theorem first_halt (f : Nat → Mac × Sto) : ∀ N : Nat, (∀ i, i < N → (f i).1.halted = true → f (i + 1) = f i) → ∃ k, k ≤ N ∧ (∀ i, i < k → (f i).1.halted = false) ∧ (k = N ∨ (f k).1.halted = true) ∧ ∀ i, k ≤ i → i ≤ N → f i = f k
  | 0, _ => ⟨0, Nat.le_refl _, fun i hi => absurd hi (Nat.not_lt_zero i), .inl rfl, fun i _ h => by rw [Nat.le_zero.1 h]⟩
  | N + 1, h => by
    obtain ⟨k, h1, h2, h3, h4⟩ := first_halt f N fun i hi => h i (by omega)
    cases hh : (f k).1.halted with
    | true =>
      refine ⟨k, by omega, h2, .inr hh, fun i hk hi => ?_⟩
      rcases Nat.lt_or_ge N i with hN | hN
      · obtain rfl : i = N + 1 := by omega
        have e := h4 N h1 (Nat.le_refl _)
        rw [h N (by omega) (by rw [e]; exact hh), e]
      · exact h4 i hk hN
    | false =>
      have hk : k = N := h3.resolve_right (by rw [hh]; decide)
      subst hk
      refine ⟨k + 1, Nat.le_refl _, fun i hi => ?_, .inl rfl, fun i h5 h6 => by rw [Nat.le_antisymm h6 h5]⟩
      rcases Nat.lt_or_ge i k with h7 | h7
      · exact h2 i h7
      · rw [show i = k from by omega]; exact hh
/-- What stands ahead of the runs. -/
structure R0 (w : World) (T : Nat → Prop) (s kb fb a b : Nat) (M : Mac) (y : World) : Prop where
  st : IsSt y T s kb fb nw
  ma : IsMac y a M
  mb : IsMac y b M
  below : Below w.heap.size w y
  lo : ∀ j, Foot T kb fb j → w.heap.size ≤ j
  hi : ∀ j, T j → j < y.heap.size
  ne : w.heap.size ≤ a ∧ w.heap.size ≤ b ∧ a ≠ b ∧ ¬ Foot T kb fb a ∧ ¬ Foot T kb fb b
def UU (a : Nat) (T : Nat → Prop) (kb fb : Nat) : Nat → Prop := fun j => j = a ∨ Foot T kb fb j
theorem om_start {w y : World} {T : Nat → Prop} {a s kb fb : Nat} {M : Mac} (hT : Laid.KTab w) (hst : IsSt y T s kb fb nw) (hm : IsMac y a M) (hb : Below w.heap.size w y) (lo : ∀ j, Foot T kb fb j → w.heap.size ≤ j) (hi : ∀ j, T j → j < y.heap.size) (ha : w.heap.size ≤ a) (hn : ¬ Foot T kb fb a) : Om y (UU a T kb fb) a s kb fb M nw y := by
  have hc := inHeap (hT 0 (by decide))
  refine ⟨hm, ⟨T, hst, fun j hj => ⟨.inl (.inr (.inl hj)), hi j hj, fun e => hn (e ▸ .inl hj)⟩⟩, Kept.refl _ _, ktab_below hT hb, ?_, .inl rfl, fun e => hn (e ▸ .inr (.inl rfl)), fun e => hn (e ▸ .inr (.inr rfl)), .inr (.inr (.inl rfl)), .inr (.inr (.inr rfl))⟩
  rintro (h | h)
  · omega
  · have := lo _ h; omega
/-- Behind the first run and the second store. -/
structure R1 (w : World) (T : Nat → Prop) (u kb fb a b : Nat) (M M0 : Mac) (y : World) : Prop where
  om : Om y (UU b T kb fb) b u kb fb M0 nw y
  ma : IsMac y a M
  below : Below w.heap.size w y
  lo : ∀ j, UU b T kb fb j → w.heap.size ≤ j
  ne : w.heap.size ≤ a ∧ ¬ UU b T kb fb a
theorem Fin.alloc {w y : World} (h : Below w.heap.size w y) {y' : World} (hg : y.grownBy y' none) : Below w.heap.size w y' := h.trans (below_grown h.size (Below.refl _ _) hg (fun k hk => by cases hk))
set_option maxHeartbeats 16000000 in
set_option maxRecDepth 100000 in
theorem runs_in (C : Value) (l : List Nat) (hl : l.length ≤ 8192) (hw : ∀ x ∈ l, x < 18446744073709551616) (w : World)
    (hC : ∀ y, Below w.heap.size w y → Calls Tryd.prog 40 #[C] y fun e w' => ∃ V q, e = .returned V ∧ w'.ownsRow q 78 1 V l.length (l.map wv') ∧ Below y.heap.size y w')
    (n more : Int) (hT : Laid.KTab w) :
    Calls Tryd.prog 11 #[C, .int .i64 n, .int .i64 more] w fun e w' => e = .returned (.bool true) ∧ Below w.heap.size w w' := by
  obtain ⟨N, hN, hNl⟩ : ∃ N : Nat, wrap64 ((IntKind.u64.wrap n).tmod 300) = (N : Int) ∧ N < 300 := by
    obtain ⟨X, hX, hXl⟩ : ∃ X : Nat, IntKind.u64.wrap n = X ∧ X < 18446744073709551616 := ⟨wN n, wN_eq n, wN_lt n⟩
    refine ⟨X % 300, ?_, Nat.mod_lt _ (by decide)⟩
    rw [hX, Int.tmod_eq_emod_of_nonneg (by omega)]
    unfold wrap64; omega
  obtain ⟨R, hR, hRl⟩ : ∃ N : Nat, wrap64 ((IntKind.u64.wrap more).tmod 300) = (N : Int) ∧ N < 300 := by
    obtain ⟨X, hX, hXl⟩ : ∃ X : Nat, IntKind.u64.wrap more = X ∧ X < 18446744073709551616 := ⟨wN more, wN_eq more, wN_lt more⟩
    refine ⟨X % 300, ?_, Nat.mod_lt _ (by decide)⟩
    rw [hX, Int.tmod_eq_emod_of_nonneg (by omega)]
    unfold wrap64; omega
  obtain ⟨M0, hM0⟩ : ∃ M0, loaded l.length (fun j => l.getD j 0) = M0 := ⟨_, rfl⟩
  have HOK : Hid (OkM M0) := Lib.hid (by
    rw [← hM0]
    refine ok_loaded _ _ fun i => ?_
    rw [List.getD_eq_getElem?_getD]
    cases h : l[i]? with
    | none => decide
    | some x => exact hw x (List.mem_of_getElem? h))
  have HSQ := Lib.hid (seq_all (M0, nw) HOK.out 300 (by show 0 + 300 < 1073741824; decide))
  obtain ⟨k, hk1, hk2, hk3, hk4⟩ := first_halt (seqG (M0, nw)) N (fun i hi => (HSQ.out i (by omega)).2.2.2.2.1)
  have HK := Lib.hid (And.intro hk1 (And.intro hk2 (And.intro hk3 hk4)))
  have HN := Lib.hid (And.intro hN hNl)
  have HR := Lib.hid (And.intro hR hRl)
  have HT := Lib.hid hT
  have HLO : Hid (Wt.lowB ≤ w.heap.size) := Lib.hid (lowB_le' hT)
  have HL := Lib.hid hl
  have HM0 := Lib.hid hM0
  have HC := Lib.hid hC
  have HI1 := Lib.hid (fun y : World => (show Calls Tryd.prog 30 #[.iface 62 (.int .i64 1), .iface 62 (.int .i64 1)] y fun e w' => e = .returned (.bool true) ∧ y = w' from Err.is_num 1 1 y))
  have HI2 := Lib.hid (fun y : World => (show Calls Tryd.prog 30 #[.iface 62 (.int .i64 2), .iface 62 (.int .i64 2)] y fun e w' => e = .returned (.bool true) ∧ y = w' from Err.is_num 2 2 y))
  have HI5 := Lib.hid (fun y : World => (show Calls Tryd.prog 30 #[.iface 62 (.int .i64 5), .iface 62 (.int .i64 5)] y fun e w' => e = .returned (.bool true) ∧ y = w' from Err.is_num 5 5 y))
  have HS0 := Lib.hid (stores_nil w hT HLO.out)
  clear hk1 hk2 hk3 hk4 hN hNl hR hRl hT hl hM0 hC hw
  go_enter Tryd.func11, Tryd.ntmps11
  go_upto_region 2 with (go_at_call 38; (with_reducible refine HS0.out.mono ?_); rintro e y1 ⟨s, r, T, kb, fb, he, hst, hb, hF, hTl⟩; obtain rfl : e = _ := he; have H1 := Lib.hid (And.intro hst (And.intro hb (And.intro hF hTl))); clear hst hb hF hTl HS0)
  have HCW := Lib.hid (HC.out y1 H1.out.2.1)
  go_upto_region 3 with (first
    | (go_at_call 40; (with_reducible refine HCW.out.mono ?_); rintro e y2 ⟨V, q, he, hrow, hb⟩; obtain rfl : e = _ := he; have HB2 := Lib.hid hb; have HLD := Lib.hid (load_any y2 q V l.length l rfl hrow HL.out); clear hrow hb HCW)
    | (go_at_call 39; (with_reducible refine HLD.out.mono ?_); rintro e y3 ⟨he, hm, hb⟩; obtain rfl : e = _ := he; have H3 : Hid (IsMac y3 y2.heap.size M0 ∧ Below y1.heap.size y1 y3 ∧ y1.heap.size ≤ y2.heap.size) := Lib.hid ⟨HM0.out ▸ hm, bl HB2.out hb, HB2.out.size⟩; clear hm hb HLD))
  clear HB2
  generalize y2.heap.size = a at *
  have HCW := Lib.hid (HC.out y3 (bl H1.out.2.1 H3.out.2.1))
  go_upto_region 4 with (first
    | (go_at_call 40; (with_reducible refine HCW.out.mono ?_); rintro e y4 ⟨V2, q2, he, hrow, hb⟩; obtain rfl : e = _ := he; have HB4 := Lib.hid hb; have HLD := Lib.hid (load_any y4 q2 V2 l.length l rfl hrow HL.out); clear hrow hb HCW)
    | (go_at_call 39; (with_reducible refine HLD.out.mono ?_); rintro e y5 ⟨he, hm, hb⟩; obtain rfl : e = _ := he; have H5 : Hid (IsMac y5 y4.heap.size M0 ∧ Below y3.heap.size y3 y5 ∧ y3.heap.size ≤ y4.heap.size) := Lib.hid ⟨HM0.out ▸ hm, bl HB4.out hb, HB4.out.size⟩; clear hm hb HLD))
  clear HB4
  generalize y4.heap.size = b at *
  have HR5 : Hid (R0 w T s kb fb a b M0 y5) := Lib.hid (by
    obtain ⟨g1, g2, g3, g4⟩ := H1.out
    obtain ⟨g5, g6, g7⟩ := H3.out
    obtain ⟨g8, g9, g10⟩ := H5.out
    have z1 := g1.kin.lt
    have z2 := g2.size
    have z3 := g6.size
    have z4 := g5.lt
    have z5 := g9.size
    have z6 : ∀ j, Foot T kb fb j → j < y1.heap.size := fun j hj => by
      rcases hj with hj | hj | hj
      · exact g4 j hj
      · omega
      · omega
    exact ⟨g1.below (bl g6 g9), g5.below g9, g8, bl (bl g2 g6) g9, g3, fun j hj => by have := g4 j hj; omega, by omega, by omega, by omega, fun h => by have := z6 _ h; omega, fun h => by have := z6 _ h; omega⟩)
  clear H1 H3 H5
  have hT5 := ktab_below HT.out HR5.out.below
  have HF := Lib.hid (fixed10_walk y5 hT5 (lowB_le' hT5))
  clear hT5
  go_upto_region 6 with (go_at_call 35; (with_reducible refine HF.out.mono ?_); rintro e y6 ⟨he, hb⟩; obtain rfl : e = _ := he; have HR6 : Hid (R0 w T s kb fb a b M0 y6) := Lib.hid ⟨HR5.out.st.below hb, HR5.out.ma.below hb, HR5.out.mb.below hb, bl HR5.out.below hb, HR5.out.lo, fun j hj => by have h1 := HR5.out.hi j hj; have h2 := hb.size; omega, HR5.out.ne⟩; clear hb HF)
  clear HR5
  go_upto_region 7 with (fail)
  rw [HN.out.1]
  have HRUN := Lib.hid (run_walk a s N k (fun i => (seqG (M0, nw) i).1) (fun i y => Om y6 (UU a T kb fb) a s kb fb (seqG (M0, nw) i).1 (seqG (M0, nw) i).2 y) (fun i y h => h.mac)
    (fun i y hi h => (HSQ.out i (by have h1 := HK.out.1; have h2 := HN.out.2; omega)).2.2.2.2.2 _ _ _ _ _ _ y h) HK.out.1 HK.out.2.1 HK.out.2.2.1 (by have := HN.out.2; omega) y6
    (om_start HT.out HR6.out.st HR6.out.ma HR6.out.below HR6.out.lo HR6.out.hi HR6.out.ne.1 HR6.out.ne.2.2.2.1))
  go_upto_region 8 with (go_at_call 37; (with_reducible refine HRUN.out.mono ?_); rintro e y7 ⟨he, hom⟩; obtain rfl : e = _ := he; have HO7 := Lib.hid hom; clear hom HRUN)
  have HS4 := Lib.hid (HK.out.2.2.2 N HK.out.1 (Nat.le_refl _))
  have HH := Lib.hid HK.out.2.2.1
  generalize hMk : (seqG (M0, nw) k).1 = M at *
  have H7 : Hid (IsMac y7 a M ∧ IsMac y7 b M0 ∧ Below w.heap.size w y7 ∧ w.heap.size ≤ a ∧ w.heap.size ≤ b ∧ a ≠ b ∧ a < y7.heap.size ∧ b < y7.heap.size) := Lib.hid (by
    have g := HR6.out
    have hm : IsMac y7 a M := HO7.out.mac
    have hb : IsMac y7 b M0 := g.mb.kept HO7.out.kept (fun h => by rcases h with h | h; exact g.ne.2.2.1 h.symm; exact g.ne.2.2.2.2 h)
    refine ⟨hm, hb, Wt.below_of g.below HO7.out.kept fun j _ hj => ?_, g.ne.1, g.ne.2.1, g.ne.2.2.1, hm.lt, hb.lt⟩
    rcases hj with hj | hj
    · rw [hj]; exact g.ne.1
    · exact g.lo j hj)
  have HMK := Lib.hid hMk
  clear hMk HR6 HO7
  have hT7 := ktab_below HT.out H7.out.2.2.1
  have HNW := Lib.hid (Wt.New_walk y7 hT7 (lowB_le' hT7))
  clear hT7
  go_upto_region 9 with (go_at_call 13; (with_reducible refine HNW.out.mono ?_); rintro e y8 ⟨u, T2, kb2, fb2, he, hst, hb, hF, hTl, hkt⟩; obtain rfl : e = _ := he; have HN8 := Lib.hid (And.intro hst (And.intro hb (And.intro hF hTl))); clear hst hb hF hTl hkt HNW)
  have HR8 : Hid (R1 w T2 u kb2 fb2 a b M M0 y8) := Lib.hid (by
    obtain ⟨g1, g2, g3, g4⟩ := HN8.out
    obtain ⟨k1, k2, k3, k4, k5, k6, k7, k8⟩ := H7.out
    have z1 := k3.size
    have lo : ∀ j, Foot T2 kb2 fb2 j → w.heap.size ≤ j := fun j hj => by have := g3 j hj; omega
    have nb : ¬ Foot T2 kb2 fb2 b := fun h => by have := g3 b h; omega
    refine ⟨om_start HT.out g1 (k2.below g2) (bl k3 g2) lo g4 k5 nb, k1.below g2, bl k3 g2, fun j hj => ?_, k4, fun h => ?_⟩
    · rcases hj with hj | hj
      · omega
      · exact lo j hj
    · rcases h with h | h
      · exact k6 h
      · have := g3 a h; omega)
  clear HN8 H7
  go_upto_region 11 with (fail)
  go_loopw [75, 15] (fun t c y => ∃ (j c0 : Nat), t = .int .i64 j ∧ c = .int .i64 c0 ∧ Hid (j ≤ N ∧ c0 = min j k ∧ Om y8 (UU b T2 kb2 fb2) b u kb2 fb2 (seqG (M0, nw) j).1 (seqG (M0, nw) j).2 y)) (fun t _ _ => N - (intOf t).toNat)
  case atStart => exact ⟨0, 0, rfl, rfl, Lib.hid ⟨Nat.zero_le _, (Nat.zero_min k).symm, HR8.out.om⟩⟩
  case round =>
    obtain ⟨j, c0, rfl, rfl, hp⟩ := hrel
    have HP := Lib.hid hp.out
    clear hp
    have kh := HP.out.2.2.mac.halted
    by_cases hlt : j < N
    · have t1 : decide (j < N) = true := by simp; omega
      have HJ : Hid (j < N ∧ wrap64 ((j : Int) + 1) = ((j + 1 : Nat) : Int) ∧ wrap64 ((c0 : Int) + 1) = ((c0 + 1 : Nat) : Int)) := Lib.hid ⟨hlt, wrap_up j (by have := HN.out.2; omega), wrap_up c0 (by have := HN.out.2; have := HP.out.2.1; omega)⟩
      have HST := Lib.hid (Step_walk wr b u (fun w' => Om y8 (UU b T2 kb2 fb2) b u kb2 fb2 (seqG (M0, nw) (j + 1)).1 (seqG (M0, nw) (j + 1)).2 w') ((HSQ.out j (by have h2 := HN.out.2; omega)).2.2.2.2.2 _ _ _ _ _ _ wr HP.out.2.2))
      by_cases hjk : j < k
      · have e1 : (seqG (M0, nw) j).1.halted = false := HK.out.2.1 j hjk
        rw [e1] at kh
        have HJK := Lib.hid hjk
        clear hlt hjk e1
        go_upto_region 14 with (fail)
        clear kh
        rw [HJ.out.2.2]
        go_upto_region 16 with (go_at_call 36; (with_reducible refine HST.out.mono ?_); rintro e y1 ⟨he, ho⟩; obtain rfl : e = _ := he; have HO := Lib.hid ho; clear ho HST)
        have hw1 := HJ.out.2.1
        go_wp2_with (fail)
        go_roundw
        case rel => exact ⟨j + 1, c0 + 1, by go_num, by go_num, Lib.hid ⟨HJ.out.1, by have h1 := HJK.out; have h2 := HP.out.2.1; omega, HO.out⟩⟩
        case measure => exact meas_loop HJ.out.1 HJ.out.2.1
      · have e1 : (seqG (M0, nw) j).1.halted = true := by
          have h1 := HK.out.2.2.2 j (by omega) (by omega)
          rw [h1, HMK.out]
          exact HK.out.2.2.1.resolve_left (by omega)
        rw [e1] at kh
        have HJK := Lib.hid hjk
        clear hlt hjk e1
        go_upto_region 14 with (fail)
        clear kh
        go_upto_region 16 with (go_at_call 36; (with_reducible refine HST.out.mono ?_); rintro e y1 ⟨he, ho⟩; obtain rfl : e = _ := he; have HO := Lib.hid ho; clear ho HST)
        have hw1 := HJ.out.2.1
        go_wp2_with (fail)
        go_roundw
        case rel => exact ⟨j + 1, c0, by go_num, rfl, Lib.hid ⟨HJ.out.1, by have h1 := HJK.out; have h2 := HP.out.2.1; omega, HO.out⟩⟩
        case measure => exact meas_loop HJ.out.1 HJ.out.2.1
    · obtain rfl : j = N := by have := HP.out.1; omega
      obtain rfl : c0 = k := by have h1 := HP.out.2.1; have h2 := HK.out.1; omega
      have t1 : decide (j < j) = false := by simp
      clear hlt kh
      have HE : Hid (IsMac wr a M ∧ IsMac wr b M ∧ Below w.heap.size w wr ∧ w.heap.size ≤ a) := Lib.hid (by
        have g := HR8.out
        have ho := HP.out.2.2
        have hb := ho.mac
        rw [HS4.out] at hb
        refine ⟨g.ma.kept ho.kept g.ne.2, HMK.out ▸ hb, Wt.below_of g.below ho.kept fun i _ hi => g.lo i hi, g.ne.1⟩)
      have HKH : Hid (c0 = j ∨ M.halted = true) := Lib.hid (by have h := HH.out; exact h)
      clear HP HR8 HS4 HMK HH HSQ HK HOK HM0
      go_upto_region 17 with (fail)
      clear t1
      have HS : Hid (IsMac wr.drew a M ∧ IsMac wr.drew b M) := Lib.hid ⟨HE.out.1.kept (Wt.kept_drew wr) id, HE.out.2.1.kept (Wt.kept_drew wr) id⟩
      have HBD := Lib.hid HE.out.2.2.1.drew
      obtain ⟨cm, hcm⟩ : ∃ cm, tab 8211 (mc M) = cm := ⟨_, rfl⟩
      have HCM := Lib.hid hcm
      clear hcm
      cases hh : M.halted with
      | false =>
        obtain rfl : c0 = j := HKH.out.resolve_right (by rw [hh]; decide)
        refine wp_region_os (fun z : World => IsMac z a M ∧ IsMac z b M) (.take 0 (.take 1 (.take 2 (.take 3 (.take 4 (.take 5 (.take 6 (.take 7 (.take 8 (.take 9 (.take 10 (.take 11 (.take 12 (.take 13 (.take 14 (.take 15 (.take 16 (.take 17 (.take 18 (.take 19 (.take 20 (.take 21 (.take 22 (.take 23 (.take 24 (.take 25 (.take 26 (.take 27 (.take 28 (.take 29 (.take 30 (.take 31 (.take 32 (.take 33 (.take 34 (.take 35 (.take 36 (.take 37 (.take 38 .done))))))))))))))))))))))))))))))))))))))) (by kernel_rfl) (by kernel_rfl) HS.out ?_
        generalize wr.drew = z1 at *
        refine os_tk (some 89) (.nilIface) rfl rfl (by go_simp) (fun _ _ => by simp [execOp, go_sem]) ?_
        simp only [Act.put, pS]
        refine os_tk (some 90) (.bool false) rfl rfl (by go_simp) (fun _ _ => by simp [execOp, go_sem]) ?_
        simp only [Act.put, pS]
        refine os_tk (some 91) (.bool false) rfl rfl (by go_simp) (fun _ _ => by simp [execOp, go_sem]) ?_
        simp only [Act.put, pS]
        refine os_tk (some 92) (.int .i64 c0) rfl rfl (by go_simp) (fun _ _ => by simp [execOp, go_sem]) ?_
        simp only [Act.put, pS]
        refine os_tk (some 93) (.int .i64 c0) rfl rfl (by go_simp) (fun _ _ => by simp [execOp, go_sem]) ?_
        simp only [Act.put, pS]
        refine os_tk (some 94) (.bool false) rfl rfl (by go_simp) (fun _ _ => by simp [execOp, go_sem]) ?_
        simp only [Act.put, pS]
        refine os_tk (some 95) (.bool false) rfl rfl (by go_simp) (fun _ _ => by simp [execOp, go_sem]) ?_
        simp only [Act.put, pS]
        refine os_tk (some 96) (.bool false) rfl rfl (by go_simp) (fun _ _ => by simp [execOp, go_sem]) ?_
        simp only [Act.put, pS]
        refine os_tk (some 97) (.pointer (some ⟨a, 0, none⟩)) rfl rfl (by go_simp) (fun _ _ => by simp [execOp, go_sem]) ?_
        simp only [Act.put, pS]
        refine os_tk (some 98) (.pointer (some ⟨a, 0, none⟩)) rfl rfl (by go_simp) (fun _ _ => by simp [execOp, go_sem]) ?_
        simp only [Act.put, pS]
        refine os_ld (some 99) 87 (.tmp 98) (.pointer (some ⟨a, 0, none⟩)) (.agg cm) rfl rfl (by go_simp) rfl rfl (fun y hy => HCM.out ▸ loadMac hy.1) ?_
        simp only [Act.put, pS]
        refine os_tk (some 100) (.pointer (some ⟨b, 0, none⟩)) rfl rfl (by go_simp) (fun _ _ => by simp [execOp, go_sem]) ?_
        simp only [Act.put, pS]
        refine os_tk (some 101) (.pointer (some ⟨b, 0, none⟩)) rfl rfl (by go_simp) (fun _ _ => by simp [execOp, go_sem]) ?_
        simp only [Act.put, pS]
        refine os_ld (some 102) 87 (.tmp 101) (.pointer (some ⟨b, 0, none⟩)) (.agg cm) rfl rfl (by go_simp) rfl rfl (fun y hy => HCM.out ▸ loadMac hy.2) ?_
        simp only [Act.put, pS]
        refine os_neM (some 103) (.tmp 99) (.tmp 102) cm cm (.bool false) rfl rfl (by go_simp) rfl rfl rfl (fun z _ => HCM.out ▸ neqM M z) ?_
        simp only [Act.put, pS]
        refine os_tk (some 104) (.bool false) rfl rfl (by go_simp) (fun _ _ => by simp [execOp, go_sem]) ?_
        simp only [Act.put, pS]
        refine os_tk (some 105) (.bool false) rfl rfl (by go_simp) (fun _ _ => by simp [execOp, go_sem]) ?_
        simp only [Act.put, pS]
        refine os_tk (some 106) (.pointer (some ⟨a, 0, none⟩)) rfl rfl (by go_simp) (fun _ _ => by simp [execOp, go_sem]) ?_
        simp only [Act.put, pS]
        refine os_tk (some 107) (.pointer (some ⟨a, 0, none⟩)) rfl rfl (by go_simp) (fun _ _ => by simp [execOp, go_sem]) ?_
        simp only [Act.put, pS]
        refine os_tk (some 108) (.pointer (some ⟨a, 8209, none⟩)) rfl rfl (by go_simp) (fun _ _ => by simp [execOp, go_sem]) ?_
        simp only [Act.put, pS]
        refine os_ld (some 109) 4 (.tmp 108) (.pointer (some ⟨a, 8209, none⟩)) (.bool false) rfl rfl (by go_simp) rfl rfl (fun y hy => by have h := (hy.1).halted; rw [hh] at h; simp [Instr.loadAt, go_sem, h, Tryd.underlying4]) ?_
        simp only [Act.put, pS]
        refine os_tk (some 110) (.pointer (some ⟨b, 0, none⟩)) rfl rfl (by go_simp) (fun _ _ => by simp [execOp, go_sem]) ?_
        simp only [Act.put, pS]
        refine os_tk (some 111) (.pointer (some ⟨b, 0, none⟩)) rfl rfl (by go_simp) (fun _ _ => by simp [execOp, go_sem]) ?_
        simp only [Act.put, pS]
        refine os_tk (some 112) (.pointer (some ⟨b, 8209, none⟩)) rfl rfl (by go_simp) (fun _ _ => by simp [execOp, go_sem]) ?_
        simp only [Act.put, pS]
        refine os_ld (some 113) 4 (.tmp 112) (.pointer (some ⟨b, 8209, none⟩)) (.bool false) rfl rfl (by go_simp) rfl rfl (fun y hy => by have h := (hy.2).halted; rw [hh] at h; simp [Instr.loadAt, go_sem, h, Tryd.underlying4]) ?_
        simp only [Act.put, pS]
        refine os_tk (some 114) (.bool false) rfl rfl (by go_simp) (fun _ _ => by simp [execOp, go_sem]) ?_
        simp only [Act.put, pS]
        refine os_tk (some 115) (.bool false) rfl rfl (by go_simp) (fun _ _ => by simp [execOp, go_sem]) ?_
        simp only [Act.put, pS]
        refine os_tk (some 116) (.bool false) rfl rfl (by go_simp) (fun _ _ => by simp [execOp, go_sem]) ?_
        simp only [Act.put, pS]
        refine os_tk (some 117) (.pointer (some ⟨a, 0, none⟩)) rfl rfl (by go_simp) (fun _ _ => by simp [execOp, go_sem]) ?_
        simp only [Act.put, pS]
        refine os_tk (some 118) (.pointer (some ⟨a, 0, none⟩)) rfl rfl (by go_simp) (fun _ _ => by simp [execOp, go_sem]) ?_
        simp only [Act.put, pS]
        refine os_tk (some 119) (.pointer (some ⟨a, 8209, none⟩)) rfl rfl (by go_simp) (fun _ _ => by simp [execOp, go_sem]) ?_
        simp only [Act.put, pS]
        refine os_ld (some 120) 4 (.tmp 119) (.pointer (some ⟨a, 8209, none⟩)) (.bool false) rfl rfl (by go_simp) rfl rfl (fun y hy => by have h := (hy.1).halted; rw [hh] at h; simp [Instr.loadAt, go_sem, h, Tryd.underlying4]) ?_
        simp only [Act.put, pS]
        refine os_tk (some 121) (.bool true) rfl rfl (by go_simp) (fun _ _ => by simp [execOp, go_sem]) ?_
        simp only [Act.put, pS]
        refine os_tk (some 122) (.bool true) rfl rfl (by go_simp) (fun _ _ => by simp [execOp, go_sem]) ?_
        simp only [Act.put, pS]
        refine os_tk (some 123) (.int .i64 c0) rfl rfl (by go_simp) (fun _ _ => by simp [execOp, go_sem]) ?_
        simp only [Act.put, pS]
        refine os_tk (some 124) (.int .i64 c0) rfl rfl (by go_simp) (fun _ _ => by simp [execOp, go_sem]) ?_
        simp only [Act.put, pS]
        refine os_tk (some 125) (.bool false) rfl rfl (by go_simp) (fun _ _ => by simp [execOp, go_sem]) ?_
        simp only [Act.put, pS]
        refine os_tk (some 126) (.bool false) rfl rfl (by go_simp) (fun _ _ => by simp [execOp, go_sem]) ?_
        simp only [Act.put, pS]
        refine os_tk (some 127) (.bool false) rfl rfl (by go_simp) (fun _ _ => by simp [execOp, go_sem]) ?_
        simp only [Act.put, pS]
        refine os_done (NoPanic.normal ?_)
        have k9 : z1.cell? ⟨a, 8209, none⟩ = some (.bool false) := hh ▸ HS.out.1.halted
        have HBF := HBD
        go_upto_region 24 with (fail)
        clear k9
        go_upto_region 28 with (first
          | (go_at_call 37; (with_reducible refine (run_none _ _ _).mono ?_); rintro e y9 ⟨he, hy9⟩; obtain rfl : e = _ := he; obtain rfl : _ = y9 := hy9.symm)
          | (go_at_call 37; (with_reducible refine (run_nilStore _ _ _).mono ?_); rintro e y9 ⟨he, hy9⟩; obtain rfl : e = _ := he; obtain rfl : _ = y9 := hy9.symm)
          | (go_at_call 37; (with_reducible refine (run_neg _ _ _).mono ?_); rintro e y9 ⟨he, hy9⟩; obtain rfl : e = _ := he; obtain rfl : _ = y9 := hy9.symm))
        obtain ⟨i0, hi0, hi1, hi2, hi3⟩ := infoW
        obtain ⟨y5, hmk, hown5, hg5⟩ := run_makeSlice_full (P := Tryd.prog) (w := z1) (z1).heap.size 93 78 i0 (.int .u64 0) 1 undW hi0 hi1 hi2 .i64 .i64 8193 (by decide) (by rw [hi3]; decide) (by unfold maxLen; decide) (Nat.le_refl _)
        have HB5 : Hid (Below w.heap.size w y5) := Lib.hid (Fin.alloc HBF.out hg5)
        clear hown5 hg5 hi0 hi1 hi2 hi3
        have HLF := Lib.hid (load_full y5 (some ⟨(z1).heap.size, 0, none⟩) 8193 8193 (by decide))
        rw [show ((8193 : Nat) : Int) = 8193 from rfl] at hmk
        go_wp2_with (first
          | (go_at_call 39; (with_reducible refine HLF.out.mono ?_); rintro e y9 ⟨he, hy9⟩; obtain rfl : e = _ := he; obtain rfl : _ = y9 := hy9.symm)
          | (go_at_call 30; (with_reducible refine (HI1.out _).mono ?_); rintro e y9 ⟨he, hy9⟩; obtain rfl : e = _ := he; obtain rfl : _ = y9 := hy9)
          | (go_at_call 30; (with_reducible refine (HI2.out _).mono ?_); rintro e y9 ⟨he, hy9⟩; obtain rfl : e = _ := he; obtain rfl : _ = y9 := hy9)
          | (go_at_call 30; (with_reducible refine (HI5.out _).mono ?_); rintro e y9 ⟨he, hy9⟩; obtain rfl : e = _ := he; obtain rfl : _ = y9 := hy9)
          | (go_at_call 36; (with_reducible refine (Step_none _ _).mono ?_); rintro e y9 ⟨he, hy9⟩; obtain rfl : e = _ := he; obtain rfl : _ = y9 := hy9.symm)
          | (go_at_call 36; (with_reducible refine (Step_nilStore _ _).mono ?_); rintro e y9 ⟨he, hy9⟩; obtain rfl : e = _ := he; obtain rfl : _ = y9 := hy9.symm)
          | (go_at_call 41; (with_reducible refine (Copy_none _).mono ?_); rintro e y9 ⟨he, hy9⟩; obtain rfl : e = _ := he; obtain rfl : _ = y9 := hy9.symm))
        exact bodyPost_ret (v := .bool true) (by simp [results, Tryd.results11, go_sem]) rfl ⟨rfl, HB5.out⟩
      | true =>
        refine wp_region_os (fun z : World => IsMac z a M ∧ IsMac z b M) (.take 0 (.take 1 (.take 2 (.take 3 (.take 4 (.take 5 (.take 6 (.take 7 (.take 8 (.take 9 (.take 10 (.take 11 (.take 12 (.take 13 (.take 14 (.take 15 (.take 16 (.take 17 (.take 18 (.take 19 (.take 20 (.take 21 (.take 22 (.take 23 (.take 24 (.take 25 (.take 26 (.take 27 (.take 28 (.take 29 (.take 30 (.take 31 (.take 32 (.take 33 (.take 34 (.take 35 (.take 36 (.take 37 (.take 38 .done))))))))))))))))))))))))))))))))))))))) (by kernel_rfl) (by kernel_rfl) HS.out ?_
        generalize wr.drew = z1 at *
        refine os_tk (some 89) (.nilIface) rfl rfl (by go_simp) (fun _ _ => by simp [execOp, go_sem]) ?_
        simp only [Act.put, pS]
        refine os_tk (some 90) (.bool false) rfl rfl (by go_simp) (fun _ _ => by simp [execOp, go_sem]) ?_
        simp only [Act.put, pS]
        refine os_tk (some 91) (.bool false) rfl rfl (by go_simp) (fun _ _ => by simp [execOp, go_sem]) ?_
        simp only [Act.put, pS]
        refine os_tk (some 92) (.int .i64 c0) rfl rfl (by go_simp) (fun _ _ => by simp [execOp, go_sem]) ?_
        simp only [Act.put, pS]
        refine os_tk (some 93) (.int .i64 c0) rfl rfl (by go_simp) (fun _ _ => by simp [execOp, go_sem]) ?_
        simp only [Act.put, pS]
        refine os_tk (some 94) (.bool false) rfl rfl (by go_simp) (fun _ _ => by simp [execOp, go_sem]) ?_
        simp only [Act.put, pS]
        refine os_tk (some 95) (.bool false) rfl rfl (by go_simp) (fun _ _ => by simp [execOp, go_sem]) ?_
        simp only [Act.put, pS]
        refine os_tk (some 96) (.bool false) rfl rfl (by go_simp) (fun _ _ => by simp [execOp, go_sem]) ?_
        simp only [Act.put, pS]
        refine os_tk (some 97) (.pointer (some ⟨a, 0, none⟩)) rfl rfl (by go_simp) (fun _ _ => by simp [execOp, go_sem]) ?_
        simp only [Act.put, pS]
        refine os_tk (some 98) (.pointer (some ⟨a, 0, none⟩)) rfl rfl (by go_simp) (fun _ _ => by simp [execOp, go_sem]) ?_
        simp only [Act.put, pS]
        refine os_ld (some 99) 87 (.tmp 98) (.pointer (some ⟨a, 0, none⟩)) (.agg cm) rfl rfl (by go_simp) rfl rfl (fun y hy => HCM.out ▸ loadMac hy.1) ?_
        simp only [Act.put, pS]
        refine os_tk (some 100) (.pointer (some ⟨b, 0, none⟩)) rfl rfl (by go_simp) (fun _ _ => by simp [execOp, go_sem]) ?_
        simp only [Act.put, pS]
        refine os_tk (some 101) (.pointer (some ⟨b, 0, none⟩)) rfl rfl (by go_simp) (fun _ _ => by simp [execOp, go_sem]) ?_
        simp only [Act.put, pS]
        refine os_ld (some 102) 87 (.tmp 101) (.pointer (some ⟨b, 0, none⟩)) (.agg cm) rfl rfl (by go_simp) rfl rfl (fun y hy => HCM.out ▸ loadMac hy.2) ?_
        simp only [Act.put, pS]
        refine os_neM (some 103) (.tmp 99) (.tmp 102) cm cm (.bool false) rfl rfl (by go_simp) rfl rfl rfl (fun z _ => HCM.out ▸ neqM M z) ?_
        simp only [Act.put, pS]
        refine os_tk (some 104) (.bool false) rfl rfl (by go_simp) (fun _ _ => by simp [execOp, go_sem]) ?_
        simp only [Act.put, pS]
        refine os_tk (some 105) (.bool false) rfl rfl (by go_simp) (fun _ _ => by simp [execOp, go_sem]) ?_
        simp only [Act.put, pS]
        refine os_tk (some 106) (.pointer (some ⟨a, 0, none⟩)) rfl rfl (by go_simp) (fun _ _ => by simp [execOp, go_sem]) ?_
        simp only [Act.put, pS]
        refine os_tk (some 107) (.pointer (some ⟨a, 0, none⟩)) rfl rfl (by go_simp) (fun _ _ => by simp [execOp, go_sem]) ?_
        simp only [Act.put, pS]
        refine os_tk (some 108) (.pointer (some ⟨a, 8209, none⟩)) rfl rfl (by go_simp) (fun _ _ => by simp [execOp, go_sem]) ?_
        simp only [Act.put, pS]
        refine os_ld (some 109) 4 (.tmp 108) (.pointer (some ⟨a, 8209, none⟩)) (.bool true) rfl rfl (by go_simp) rfl rfl (fun y hy => by have h := (hy.1).halted; rw [hh] at h; simp [Instr.loadAt, go_sem, h, Tryd.underlying4]) ?_
        simp only [Act.put, pS]
        refine os_tk (some 110) (.pointer (some ⟨b, 0, none⟩)) rfl rfl (by go_simp) (fun _ _ => by simp [execOp, go_sem]) ?_
        simp only [Act.put, pS]
        refine os_tk (some 111) (.pointer (some ⟨b, 0, none⟩)) rfl rfl (by go_simp) (fun _ _ => by simp [execOp, go_sem]) ?_
        simp only [Act.put, pS]
        refine os_tk (some 112) (.pointer (some ⟨b, 8209, none⟩)) rfl rfl (by go_simp) (fun _ _ => by simp [execOp, go_sem]) ?_
        simp only [Act.put, pS]
        refine os_ld (some 113) 4 (.tmp 112) (.pointer (some ⟨b, 8209, none⟩)) (.bool true) rfl rfl (by go_simp) rfl rfl (fun y hy => by have h := (hy.2).halted; rw [hh] at h; simp [Instr.loadAt, go_sem, h, Tryd.underlying4]) ?_
        simp only [Act.put, pS]
        refine os_tk (some 114) (.bool false) rfl rfl (by go_simp) (fun _ _ => by simp [execOp, go_sem]) ?_
        simp only [Act.put, pS]
        refine os_tk (some 115) (.bool false) rfl rfl (by go_simp) (fun _ _ => by simp [execOp, go_sem]) ?_
        simp only [Act.put, pS]
        refine os_tk (some 116) (.bool false) rfl rfl (by go_simp) (fun _ _ => by simp [execOp, go_sem]) ?_
        simp only [Act.put, pS]
        refine os_tk (some 117) (.pointer (some ⟨a, 0, none⟩)) rfl rfl (by go_simp) (fun _ _ => by simp [execOp, go_sem]) ?_
        simp only [Act.put, pS]
        refine os_tk (some 118) (.pointer (some ⟨a, 0, none⟩)) rfl rfl (by go_simp) (fun _ _ => by simp [execOp, go_sem]) ?_
        simp only [Act.put, pS]
        refine os_tk (some 119) (.pointer (some ⟨a, 8209, none⟩)) rfl rfl (by go_simp) (fun _ _ => by simp [execOp, go_sem]) ?_
        simp only [Act.put, pS]
        refine os_ld (some 120) 4 (.tmp 119) (.pointer (some ⟨a, 8209, none⟩)) (.bool true) rfl rfl (by go_simp) rfl rfl (fun y hy => by have h := (hy.1).halted; rw [hh] at h; simp [Instr.loadAt, go_sem, h, Tryd.underlying4]) ?_
        simp only [Act.put, pS]
        refine os_tk (some 121) (.bool false) rfl rfl (by go_simp) (fun _ _ => by simp [execOp, go_sem]) ?_
        simp only [Act.put, pS]
        refine os_tk (some 122) (.bool false) rfl rfl (by go_simp) (fun _ _ => by simp [execOp, go_sem]) ?_
        simp only [Act.put, pS]
        refine os_un (some 123) rfl rfl (by go_simp) ?_
        simp only [Act.put, pS]
        refine os_un (some 124) rfl rfl (by go_simp) ?_
        simp only [Act.put, pS]
        refine os_un (some 125) rfl rfl (by go_simp) ?_
        simp only [Act.put, pS]
        refine os_tk (some 126) (.bool false) rfl rfl (by go_simp) (fun _ _ => by simp [execOp, go_sem]) ?_
        simp only [Act.put, pS]
        refine os_tk (some 127) (.bool false) rfl rfl (by go_simp) (fun _ _ => by simp [execOp, go_sem]) ?_
        simp only [Act.put, pS]
        refine os_done (NoPanic.normal ?_)
        have k9 : z1.cell? ⟨a, 8209, none⟩ = some (.bool true) := hh ▸ HS.out.1.halted
        go_upto_region 20 with (fail)
        clear k9
        have HLM := Lib.hid (loadMac HS.out.1)
        have z9 := zeroMac' z1
        have HPQ : Hid (IsMac (z1.alloc (.cells (tab 8211 (mc M)) 87)) z1.heap.size M ∧ IsMac (z1.alloc (.cells (tab 8211 (mc M)) 87)) a M ∧ Below w.heap.size w (z1.alloc (.cells (tab 8211 (mc M)) 87)) ∧ a < z1.heap.size) := Lib.hid ⟨IsTab.new z1 _ 8211 _, HS.out.1.below ((Below.refl _ _).alloc (Nat.le_refl _) _), HBD.out.alloc HBD.out.size _, HS.out.1.lt⟩
        rw [HCM.out] at HLM HPQ
        generalize hzm : tab 8211 (mc m0) = zm at *
        have HZ : Hid (zm.size = 8211) := Lib.hid (by rw [← hzm, tab_size])
        clear hzm
        go_upto_region 21 with (first
          | ((with_reducible refine wpList_loadE (P := Tryd.prog) (w := z1) (ty := 87) (x := .tmp 133) (p := .pointer (some ⟨a, 0, none⟩)) (v := .agg cm) ?_ ?_ ?_ HLM.out ?_); (· exact rfl); (· exact rfl); (· exact rfl))
          | ((with_reducible refine wpList_store_row (P := Tryd.prog) (w := z1.alloc (.cells zm 87)) ?_ 87 (.tmp 16) (.tmp 134) ?_ z1.heap.size cm ?_ ?_ 87 zm (heap_alloc_last z1 _) ?_ ?_ ?_ ?_); (· exact rfl); (· exact rfl); (· exact rfl); (· exact rfl); (· rw [← HCM.out]; exact infM _); (· rw [← HCM.out, HZ.out, tab_size]); (· rw [← HCM.out]; exact one_mc' _); rw [World.setRow_alloc_new]; simp only [Act.put]))
        clear z9 HLM HZ HS HBD
        have HQA : Hid (¬ z1.heap.size = a) := Lib.hid (by have := HPQ.out.2.2.2; omega)
        generalize z1.heap.size = q at *
        generalize z1.alloc (.cells cm 87) = z2 at *
        have HRR := Lib.hid (run_walk a s R 0 (fun _ => M) (fun _ y => IsMac y a M ∧ IsMac y q M ∧ Below w.heap.size w y) (fun i y h => h.1) (fun i y hi _ => absurd hi (Nat.not_lt_zero i)) (Nat.zero_le _) (fun i hi => absurd hi (Nat.not_lt_zero i)) (.inr hh) (by have := HR.out.2; omega) z2 ⟨HPQ.out.2.1, HPQ.out.1, HPQ.out.2.2.1⟩)
        rw [← HR.out.1] at HRR
        go_upto_region 22 with (go_at_call 37; (with_reducible refine HRR.out.mono ?_); rintro e z3 ⟨he, hom⟩; obtain rfl : e = _ := he; have HO3 := Lib.hid hom; clear hom HRR)
        clear HPQ
        have HS : Hid (IsMac z3.drew a M ∧ IsMac z3.drew q M) := Lib.hid ⟨HO3.out.1.kept (Wt.kept_drew z3) id, HO3.out.2.1.kept (Wt.kept_drew z3) id⟩
        have HBD := Lib.hid HO3.out.2.2.drew
        clear HO3
        refine wp_region_os (fun z : World => IsMac z a M ∧ IsMac z q M) (.take 0 (.take 1 (.take 2 (.take 3 (.take 4 (.take 5 (.take 6 (.take 7 (.take 8 (.take 9 (.take 10 (.take 11 (.take 12 (.take 13 (.take 14 (.take 15 (.one 16 (.take 17 (.take 18 (.take 19 (.take 20 (.take 21 (.take 22 (.take 23 (.take 24 (.take 25 .done)))))))))))))))))))))))))) (by kernel_rfl) (by kernel_rfl) HS.out ?_
        generalize z3.drew = z4 at *
        refine os_tk (some 145) (.int .i64 0) rfl rfl (by go_simp) (fun _ _ => by simp [execOp, go_sem]) ?_
        simp only [Act.put, pS]
        refine os_tk (some 146) (.bool false) rfl rfl (by go_simp) (fun _ _ => by simp [execOp, go_sem]) ?_
        simp only [Act.put, pS]
        refine os_tk (some 147) (.bool false) rfl rfl (by go_simp) (fun _ _ => by simp [execOp, go_sem]) ?_
        simp only [Act.put, pS]
        refine os_tk (some 148) (.nilIface) rfl rfl (by go_simp) (fun _ _ => by simp [execOp, go_sem]) ?_
        simp only [Act.put, pS]
        refine os_tk (some 149) (.bool false) rfl rfl (by go_simp) (fun _ _ => by simp [execOp, go_sem]) ?_
        simp only [Act.put, pS]
        refine os_tk (some 150) (.bool false) rfl rfl (by go_simp) (fun _ _ => by simp [execOp, go_sem]) ?_
        simp only [Act.put, pS]
        refine os_tk (some 151) (.bool false) rfl rfl (by go_simp) (fun _ _ => by simp [execOp, go_sem]) ?_
        simp only [Act.put, pS]
        refine os_tk (some 152) (.pointer (some ⟨a, 0, none⟩)) rfl rfl (by go_simp) (fun _ _ => by simp [execOp, go_sem]) ?_
        simp only [Act.put, pS]
        refine os_tk (some 153) (.pointer (some ⟨a, 0, none⟩)) rfl rfl (by go_simp) (fun _ _ => by simp [execOp, go_sem]) ?_
        simp only [Act.put, pS]
        refine os_ld (some 154) 87 (.tmp 153) (.pointer (some ⟨a, 0, none⟩)) (.agg cm) rfl rfl (by go_simp) rfl rfl (fun y hy => HCM.out ▸ loadMac hy.1) ?_
        simp only [Act.put, pS]
        refine os_ld (some 155) 87 (.tmp 16) (.pointer (some ⟨q, 0, none⟩)) (.agg cm) rfl rfl (by go_simp) rfl rfl (fun y hy => HCM.out ▸ loadMac hy.2) ?_
        simp only [Act.put, pS]
        refine os_neM (some 156) (.tmp 154) (.tmp 155) cm cm (.bool false) rfl rfl (by go_simp) rfl rfl rfl (fun z _ => HCM.out ▸ neqM M z) ?_
        simp only [Act.put, pS]
        refine os_tk (some 157) (.bool false) rfl rfl (by go_simp) (fun _ _ => by simp [execOp, go_sem]) ?_
        simp only [Act.put, pS]
        refine os_tk (some 158) (.bool false) rfl rfl (by go_simp) (fun _ _ => by simp [execOp, go_sem]) ?_
        simp only [Act.put, pS]
        refine os_tk (some 159) (.pointer (some ⟨a, 0, none⟩)) rfl rfl (by go_simp) (fun _ _ => by simp [execOp, go_sem]) ?_
        simp only [Act.put, pS]
        refine os_tk (some 160) (.pointer (some ⟨s, 0, none⟩)) rfl rfl (by go_simp) (fun _ _ => by simp [execOp, go_sem]) ?_
        simp only [Act.put, pS]
        have HST := Lib.hid (Step_walk z4 a s (fun w' => IsMac w' a M ∧ Kept (fun k => k = a) z4 w') (step_still z4 a s M HS.out.1 hh))
        refine os_f rfl (by go_simp) fun K hK => ?_
        go_simp
        refine HST.out.mono ?_
        rintro e z5 ⟨he, hm5, hk5⟩
        obtain rfl : e = _ := he
        have HS5 : Hid (IsMac z5 a M ∧ IsMac z5 q M) := Lib.hid ⟨hm5, HS.out.2.kept hk5 HQA.out⟩
        have HB6 : Hid (Below w.heap.size w z5) := Lib.hid (Wt.below_of HBD.out hk5 fun j _ hj => by rw [hj]; exact HE.out.2.2.2)
        refine hK _ _ HS5.out ?_
        clear hK K hm5 hk5 HST HS HBD
        try simp only [Act.put, pS]
        refine os_tk (some 162) (.bool false) rfl rfl (by go_simp) (fun _ _ => by simp [execOp, go_sem]) ?_
        simp only [Act.put, pS]
        refine os_tk (some 163) (.bool false) rfl rfl (by go_simp) (fun _ _ => by simp [execOp, go_sem]) ?_
        simp only [Act.put, pS]
        refine os_tk (some 164) (.bool false) rfl rfl (by go_simp) (fun _ _ => by simp [execOp, go_sem]) ?_
        simp only [Act.put, pS]
        refine os_tk (some 165) (.pointer (some ⟨a, 0, none⟩)) rfl rfl (by go_simp) (fun _ _ => by simp [execOp, go_sem]) ?_
        simp only [Act.put, pS]
        refine os_tk (some 166) (.pointer (some ⟨a, 0, none⟩)) rfl rfl (by go_simp) (fun _ _ => by simp [execOp, go_sem]) ?_
        simp only [Act.put, pS]
        refine os_ld (some 167) 87 (.tmp 166) (.pointer (some ⟨a, 0, none⟩)) (.agg cm) rfl rfl (by go_simp) rfl rfl (fun y hy => HCM.out ▸ loadMac hy.1) ?_
        simp only [Act.put, pS]
        refine os_ld (some 168) 87 (.tmp 16) (.pointer (some ⟨q, 0, none⟩)) (.agg cm) rfl rfl (by go_simp) rfl rfl (fun y hy => HCM.out ▸ loadMac hy.2) ?_
        simp only [Act.put, pS]
        refine os_neM (some 169) (.tmp 167) (.tmp 168) cm cm (.bool false) rfl rfl (by go_simp) rfl rfl rfl (fun z _ => HCM.out ▸ neqM M z) ?_
        simp only [Act.put, pS]
        refine os_tk (some 170) (.bool false) rfl rfl (by go_simp) (fun _ _ => by simp [execOp, go_sem]) ?_
        simp only [Act.put, pS]
        refine os_done (NoPanic.normal ?_)
        have HBF := HB6
        go_upto_region 28 with (first
          | (go_at_call 37; (with_reducible refine (run_none _ _ _).mono ?_); rintro e y9 ⟨he, hy9⟩; obtain rfl : e = _ := he; obtain rfl : _ = y9 := hy9.symm)
          | (go_at_call 37; (with_reducible refine (run_nilStore _ _ _).mono ?_); rintro e y9 ⟨he, hy9⟩; obtain rfl : e = _ := he; obtain rfl : _ = y9 := hy9.symm)
          | (go_at_call 37; (with_reducible refine (run_neg _ _ _).mono ?_); rintro e y9 ⟨he, hy9⟩; obtain rfl : e = _ := he; obtain rfl : _ = y9 := hy9.symm))
        obtain ⟨i0, hi0, hi1, hi2, hi3⟩ := infoW
        obtain ⟨y5, hmk, hown5, hg5⟩ := run_makeSlice_full (P := Tryd.prog) (w := z5) (z5).heap.size 93 78 i0 (.int .u64 0) 1 undW hi0 hi1 hi2 .i64 .i64 8193 (by decide) (by rw [hi3]; decide) (by unfold maxLen; decide) (Nat.le_refl _)
        have HB5 : Hid (Below w.heap.size w y5) := Lib.hid (Fin.alloc HBF.out hg5)
        clear hown5 hg5 hi0 hi1 hi2 hi3
        have HLF := Lib.hid (load_full y5 (some ⟨(z5).heap.size, 0, none⟩) 8193 8193 (by decide))
        rw [show ((8193 : Nat) : Int) = 8193 from rfl] at hmk
        go_wp2_with (first
          | (go_at_call 39; (with_reducible refine HLF.out.mono ?_); rintro e y9 ⟨he, hy9⟩; obtain rfl : e = _ := he; obtain rfl : _ = y9 := hy9.symm)
          | (go_at_call 30; (with_reducible refine (HI1.out _).mono ?_); rintro e y9 ⟨he, hy9⟩; obtain rfl : e = _ := he; obtain rfl : _ = y9 := hy9)
          | (go_at_call 30; (with_reducible refine (HI2.out _).mono ?_); rintro e y9 ⟨he, hy9⟩; obtain rfl : e = _ := he; obtain rfl : _ = y9 := hy9)
          | (go_at_call 30; (with_reducible refine (HI5.out _).mono ?_); rintro e y9 ⟨he, hy9⟩; obtain rfl : e = _ := he; obtain rfl : _ = y9 := hy9)
          | (go_at_call 36; (with_reducible refine (Step_none _ _).mono ?_); rintro e y9 ⟨he, hy9⟩; obtain rfl : e = _ := he; obtain rfl : _ = y9 := hy9.symm)
          | (go_at_call 36; (with_reducible refine (Step_nilStore _ _).mono ?_); rintro e y9 ⟨he, hy9⟩; obtain rfl : e = _ := he; obtain rfl : _ = y9 := hy9.symm)
          | (go_at_call 41; (with_reducible refine (Copy_none _).mono ?_); rintro e y9 ⟨he, hy9⟩; obtain rfl : e = _ := he; obtain rfl : _ = y9 := hy9.symm))
        exact bodyPost_ret (v := .bool true) (by simp [results, Tryd.results11, go_sem]) rfl ⟨rfl, HB5.out⟩
theorem vmRuns_walk (a0 : Option Addr) (len0 cap0 : Nat) (n more : Int) {w : World} (w0 : IsRecs [.i64, .i64, .i64, .i64, .i64, .i64, .u64] w a0 len0 cap0) (w1 : (Lit.int .i64 n).wf = true) (w2 : (Lit.int .i64 more).wf = true) (ht : Laid.KTab w) :
    Calls Tryd.prog 11 #[.slice a0 len0 cap0, .int .i64 n, .int .i64 more] w fun e w' => e = .returned (.bool true) ∧ Below w.heap.size w w' := by
  obtain ⟨hm, h⟩ := recs_ins w0
  rcases h with rfl | ⟨b, o, f, rfl, hlt, hi, hf⟩
  · refine runs_in _ [] (by decide) (fun x hx => by cases hx) w (fun y hy => (words_zero y a0 cap0).mono ?_) n more ht
    rintro e w' ⟨he, hw⟩
    subst hw
    exact ⟨_, 0, he, World.ownsRow_nil _ _ _ _, Below.refl _ _⟩
  · refine runs_in _ ((List.range (min len0 8192)).map fun i => wordOf (f i)) (by simp; omega) (fun x hx => ?_) w (fun y hy => (words_any y b o len0 cap0 f (hi.below hy) (Nat.lt_of_lt_of_le hlt hy.size) (min len0 8192) ⟨by omega, by omega, by omega, hm⟩).mono ?_) n more ht
    · obtain ⟨i, _, rfl⟩ := List.mem_map.1 hx
      exact hf i
    · rintro e w' ⟨V, he, hw⟩
      refine ⟨V, y.heap.size, he, ?_, hw.below⟩
      have hr := hw.row
      rw [List.map_map]
      simpa [Function.comp_def] using hr
end Vm
end Go.Proofs.YtdmffnjbholkkaaDoor
