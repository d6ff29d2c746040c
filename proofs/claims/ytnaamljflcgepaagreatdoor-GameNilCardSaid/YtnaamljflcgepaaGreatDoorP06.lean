/- Merged of Ot Qb Qc Qd. Own work. -/
import Derived.Test.YtnaamljflcgepaaGreatDoorP05
import Derived.Test.YtnaamljflcgepaaGreatDoorP03
import Derived.LoopTactic
import Derived.Outline
namespace Go.Proofs.YtnaamljflcgepaaGreatDoor
open Go.RowKit
set_option linter.unusedVariables false
/-- A slot written, as a list. -/
theorem pS.{u} : (∀ {α : Type u} (l : List α) (i : Nat) (a : α), l.toArray.setIfInBounds i a = (l.set i a).toArray) ∧ (∀ {α : Type u} (a b : α) (l : List α), (a :: l).set 0 b = b :: l) ∧ (∀ {α : Type u} (a b : α) (l : List α) (i : Nat), (a :: l).set (i + 1) b = a :: l.set i b) :=
  ⟨fun l i a => List.setIfInBounds_toArray .., fun a b l => rfl, fun a b l i => rfl⟩
inductive OG where
  | done : OG
  | take : Nat → OG → OG
  | one : Nat → OG → OG
  | two : Nat → OG → Nat → OG → OG
def OG.size : OG → Nat
  | .done => 0
  | .take _ r => r.size + 1
  | .one _ r => r.size + 1
  | .two _ r _ _ => r.size + 1
section
variable {P : Program} {ops : Array Oper} {Q : Exit → Act → World → Prop} {S : World → Prop}
def wpOg (P : Program) (ops : Array Oper) (Q : Exit → Act → World → Prop) : OG → (World → Prop) → Act → World → Prop
  | .done, _, a, w => Q .normal a w
  | .take k r, S, a, w => ∃ o v, ops[k]? = some o ∧ YieldsIf P ops S o v a ∧ wpOg P ops Q r S (a.put o.dst v) w
  | .one k r, S, a, w => ∃ o, ops[k]? = some o ∧ Region.wanted o (yielded ops a.tmps) = true ∧ o.wp P a w (fun a' w' => ∃ S' : World → Prop, (∀ y, S' y → S y) ∧ S' w' ∧ wpOg P ops Q r S' a' w') Q
  | .two k r m t, S, a, w => (∃ o, ops[k]? = some o ∧ Region.wanted o (yielded ops a.tmps) = true ∧ o.wp P a w (fun a' w' => ∃ S' : World → Prop, (∀ y, S' y → S y) ∧ S' w' ∧ wpOg P ops Q r S' a' w') Q) ∧
      (∃ o, ops[m]? = some o ∧ Region.wanted o (yielded ops a.tmps) = true ∧ o.wp P a w (fun a' w' => ∃ S' : World → Prop, (∀ y, S' y → S y) ∧ S' w' ∧ wpOg P ops Q t S' a' w') Q)
theorem og_done {a : Act} {w : World} (h : Q .normal a w) : wpOg P ops Q .done S a w := h
theorem og_t {k : Nat} {r : OG} {o : Oper} {v : Value} {a : Act} {w : World} (ho : ops[k]? = some o) (hw : Region.wanted o (yielded ops a.tmps) = true)
    (hy : ∀ w, S w → (execOp a.eval o).run P w = .ok (.value v) w) (h : wpOg P ops Q r S (a.put o.dst v) w) : wpOg P ops Q (.take k r) S a w :=
  ⟨o, v, ho, .inl ⟨hw, hy⟩, h⟩
theorem og_tk {k : Nat} {r : OG} {o : Oper} {a : Act} {w : World} (d : Option Tmp) (v : Value) (ho : ops[k]? = some o) (hd : o.dst = d) (hw : Region.wanted o (yielded ops a.tmps) = true)
    (hy : ∀ w, S w → (execOp a.eval o).run P w = .ok (.value v) w) (h : wpOg P ops Q r S (a.put d v) w) : wpOg P ops Q (.take k r) S a w :=
  og_t ho hw hy (by rw [hd]; exact h)
theorem og_ld {k : Nat} {r : OG} {o : Oper} {a : Act} {w : World} (d : Option Tmp) (ty : TypeId) (x : Operand) (p v : Value) (ho : ops[k]? = some o) (hd : o.dst = d) (hw : Region.wanted o (yielded ops a.tmps) = true) (hop : o.op = .load ty x) (hx : a.eval x = p)
    (hl : ∀ w, S w → (Instr.loadAt ty p).run P w = .ok v w) (h : wpOg P ops Q r S (a.put d v) w) : wpOg P ops Q (.take k r) S a w :=
  og_tk d v ho hd hw (fun w hw => by unfold execOp; simp only [hop, hx]; simp [hl w hw, Result.andThen]) h
theorem og_of {k : Nat} {r : OG} {o : Oper} {a : Act} {w : World} (ho : ops[k]? = some o) (hw : Region.wanted o (yielded ops a.tmps) = true)
    (h : ∀ K : Act → World → Prop, (∀ a' w', S w' → wpOg P ops Q r S a' w' → K a' w') → o.wp P a w K Q) :
    ∃ o, ops[k]? = some o ∧ Region.wanted o (yielded ops a.tmps) = true ∧ o.wp P a w (fun a' w' => ∃ S' : World → Prop, (∀ y, S' y → S y) ∧ S' w' ∧ wpOg P ops Q r S' a' w') Q :=
  ⟨o, ho, hw, h _ fun _ _ h1 h2 => ⟨S, fun _ h => h, h1, h2⟩⟩
theorem og_f {k : Nat} {r : OG} {o : Oper} {a : Act} {w : World} (ho : ops[k]? = some o) (hw : Region.wanted o (yielded ops a.tmps) = true)
    (h : ∀ K : Act → World → Prop, (∀ a' w', S w' → wpOg P ops Q r S a' w' → K a' w') → o.wp P a w K Q) : wpOg P ops Q (.one k r) S a w := og_of ho hw h
theorem og_two {k m : Nat} {r t : OG} {a : Act} {w : World}
    (h1 : ∃ o, ops[k]? = some o ∧ Region.wanted o (yielded ops a.tmps) = true ∧ o.wp P a w (fun a' w' => ∃ S' : World → Prop, (∀ y, S' y → S y) ∧ S' w' ∧ wpOg P ops Q r S' a' w') Q)
    (h2 : ∃ o, ops[m]? = some o ∧ Region.wanted o (yielded ops a.tmps) = true ∧ o.wp P a w (fun a' w' => ∃ S' : World → Prop, (∀ y, S' y → S y) ∧ S' w' ∧ wpOg P ops Q t S' a' w') Q) : wpOg P ops Q (.two k r m t) S a w := ⟨h1, h2⟩
def ogB (ops : Array Oper) : OG → Array Bool → Bool
  | .done, l => (Region.ready .any ops l).isEmpty
  | .take k r, l => (Region.ready .any ops l).contains k && Region.free .any ops l k && ogB ops r (l.setIfInBounds k true)
  | .one k r, l => decide (Region.ready .any ops l = [k]) && ogB ops r (l.setIfInBounds k true)
  | .two k r m t, l => decide (Region.ready .any ops l = [k, m]) && decide (r.size = t.size) && ogB ops r (l.setIfInBounds k true) && ogB ops t (l.setIfInBounds m true)
theorem og_any (hs : Region.noSelect ops = true) (hQ : ∀ c a d v w, Q (.panic c) (a.put d v) w → Q (.panic c) a w) : ∀ (l : OG) (listed : Array Bool) (S : World → Prop) (a : Act) (w : World), S w →
    ogB ops l listed = true → wpOg P ops Q l S a w → wpAnyH P .any ops Q S l.size listed a w
  | .done, _, _, _, _, _, hB, h => ⟨by simpa [ogB] using hB, h⟩
  | .take k r, listed, S, a, w, hS, hB, ⟨o, v, h0, hy, h⟩ => by
    simp only [ogB, Bool.and_eq_true] at hB
    exact wpAnyH_take h0 hs hB.1.2 hB.1.1 (fun c a w => hQ c a _ _ w) hy hS (og_any hs hQ r _ _ _ _ hS hB.2 h)
  | .one k r, listed, S, a, w, hS, hB, ⟨o, h0, hw, h⟩ => by
    simp only [ogB, Bool.and_eq_true, decide_eq_true_eq] at hB
    refine wpAnyH_all hB.1 (by simp) fun i hi => ?_
    have hik : i = k := by simpa using hi
    subst hik
    unfold wpOp
    simp only [h0]
    rw [if_pos hw]
    exact .inl (Oper.wp_mono (fun a' w' ⟨S', h1, h2, h3⟩ => ⟨h1 _ h2, wpAnyH_weaken h1 _ _ _ _ (og_any hs hQ r _ S' _ _ h2 hB.2 h3)⟩) h)
  | .two k r m t, listed, S, a, w, hS, hB, ⟨⟨o, h0, hw, h⟩, ⟨o2, h02, hw2, h2⟩⟩ => by
    simp only [ogB, Bool.and_eq_true, decide_eq_true_eq] at hB
    refine wpAnyH_all hB.1.1.1 (by simp) fun i hi => ?_
    have hik : i = k ∨ i = m := by simpa using hi
    rcases hik with e | e
    · subst e
      unfold wpOp
      simp only [h0]
      rw [if_pos hw]
      exact .inl (Oper.wp_mono (fun a' w' ⟨S', g1, g2, g3⟩ => ⟨g1 _ g2, wpAnyH_weaken g1 _ _ _ _ (og_any hs hQ r _ S' _ _ g2 hB.1.2 g3)⟩) h)
    · subst e
      unfold wpOp
      simp only [h02]
      rw [if_pos hw2]
      exact .inl (Oper.wp_mono (fun a' w' ⟨S', g1, g2, g3⟩ => ⟨g1 _ g2, wpAnyH_weaken g1 _ _ _ _ (by have h3 := og_any hs hQ t _ S' _ _ g2 hB.2 g3; rw [← hB.1.1.2] at h3; exact h3)⟩) h2)
theorem wp_region_og {id : Nat} {a : Act} {w : World} {l : List Oper} (S : World → Prop) (t : OG) (hm : P.follows .mixedOrders = true) (hB : (decide (t.size = l.length) && Region.noSelect l.toArray && ogB l.toArray t (Array.replicate l.length false)) = true) (hS : S w.drew)
    (h : wpOg P l.toArray (NoPanic Q) t S a w.drew) : (Code.region id l.toArray true).wp P Q a w := by
  refine wp_region_noPanic ?_
  have hQ : ∀ c a d v w, NoPanic Q (.panic c) (a.put d v) w → NoPanic Q (.panic c) a w := fun _ _ _ _ _ h => h
  simp only [Bool.and_eq_true, decide_eq_true_eq] at hB
  refine wp_region_held (S := S) hm ?_
  have h1 := og_any (P := P) (Q := NoPanic Q) (ops := l.toArray) hB.1.2 hQ t (Array.replicate l.length false) S a w.drew hS hB.2 h
  rw [hB.1.1] at h1
  simpa using h1
end
end Go.Proofs.YtnaamljflcgepaaGreatDoor
namespace Go.Proofs.YtnaamljflcgepaaGreatDoor
open Go.RowKit
set_option linter.unusedVariables false
set_option linter.unusedSimpArgs false
namespace Gm
open Kc Mk
/-- The same world, but for draws. -/
def Lk (w y : World) : Prop := ∃ n, y = w.drewN n
theorem Lk.refl (w : World) : Lk w w := ⟨0, rfl⟩
theorem Lk.cell {w y : World} (h : Lk w y) {p : Addr} {v : Value} (hc : w.cell? p = some v) : y.cell? p = some v := by obtain ⟨n, rfl⟩ := h; exact hc
theorem Lk.trans {w y z : World} (h : Lk w y) (k : Lk y z) : Lk w z := by obtain ⟨n, rfl⟩ := h; obtain ⟨m, rfl⟩ := k; exact ⟨n + m, by rw [World.drewN_drewN]⟩
theorem Lk.drew {w y : World} (h : Lk w y) : Lk w y.drew := by obtain ⟨n, rfl⟩ := h; exact ⟨n + 1, rfl⟩
theorem Lk.below {w y : World} (h : Lk w y) : Below w.heap.size w y := by obtain ⟨n, rfl⟩ := h; exact ⟨rfl, rfl, rfl, Nat.le_refl _, fun _ _ => rfl⟩
theorem Lk.gm {w y : World} {q a c : Nat} {G : GmS} (h : Lk w y) (g : IsGm w q a c G) : IsGm y q a c G := by obtain ⟨n, rfl⟩ := h; exact g.drewN n
set_option maxHeartbeats 2000000 in
set_option maxRecDepth 100000 in
theorem find_ok (w : World) (q a c i : Nat) (G : GmS) (h : IsGm w q a c G) (hi : i < G.cs.length) (hl : G.cs.length ≤ 64) :
    Calls Tryz.prog 17 #[.pointer (some ⟨q, 0, none⟩), .int .i64 i] w fun e w' => e = .returned (.tuple #[.pointer (some ⟨a, i * 42, none⟩), .nilIface]) ∧ Lk w w' := by
  have k36 := h.kv
  obtain ⟨_, hal, hc, _⟩ := h.row
  generalize G.cs.length = l at *
  clear h
  go_enter Tryz.func17, Tryz.ntmps17
  go_wp2_with fail
  go_ret2
  exact ⟨rfl, Lk.refl _⟩
/-- Where an answer to a claim stands, how deep, and the error. -/
def GmS.tgt (G : GmS) (x : Cl) (df : Bool) : Int × Int × Int :=
  if G.depth ≤ x.d then (0, 0, 45) else if df = true ∧ x.i + 1 = 2 ^ x.d.toNat then (0, 0, 45) else (if df then 2 * (x.pos + 1) else 2 * x.pos, x.d + 1, 0)
def tgtV (r : Int × Int × Int) : Value := .tuple #[.int .u64 r.1, .int .i64 r.2.1, errV r.2.2]
set_option maxHeartbeats 2000000 in
set_option maxRecDepth 100000 in
theorem tgt_deep (w : World) (q a o : Nat) (D d x p : Int) (h0 : 0 ≤ d) (h1 : d ≤ 20) (x0 : 0 ≤ x) (x1 : x < 2 ^ d.toNat) (hp : p = 2 ^ d.toNat + x) (kq : w.cell? ⟨q, 0, none⟩ = some (.int .i64 D)) (kp : w.cell? ⟨a, o + 1, none⟩ = some (.int .u64 p)) (df : Bool) (hD : D ≤ d) :
    Calls Tryz.prog 27 #[.pointer (some ⟨q, 0, none⟩), .pointer (some ⟨a, o, none⟩), .bool df] w fun e w' => e = .returned (.tuple #[.int .u64 0, .int .i64 0, .iface 55 (.int .i64 45)]) ∧ Lk w w' := by
  have HP := Lib.hid (fun y : World => Pos.parts_ok p d x y h0 (by omega) x0 x1 hp)
  have KQ := Lib.hid kq
  have KP := Lib.hid kp
  have hd : decide (D ≤ d) = true := by simpa using hD
  clear hD
  clear h0 h1 x0 x1 hp kq
  go_enter Tryz.func27, Tryz.ntmps27
  go_wp2_with (first
    | (go_at_call 45; (with_reducible refine (HP.out _).mono ?_); rintro e y1 ⟨he, hy⟩; obtain rfl : e = _ := he; have H1 : Hid (Lk w y1) := Lib.hid (hy); have kq1 := H1.out.cell KQ.out; have kp1 := H1.out.cell KP.out; clear hy))
  exact bodyPost_ret (v := .tuple #[.int .u64 0, .int .i64 0, .iface 55 (.int .i64 45)]) (by simp [results, Tryz.results27, go_sem]) rfl ⟨rfl, H1.out⟩
set_option maxHeartbeats 2000000 in
set_option maxRecDepth 100000 in
theorem tgt_att (w : World) (q a o : Nat) (D d x p : Int) (h0 : 0 ≤ d) (h1 : d ≤ 20) (x0 : 0 ≤ x) (x1 : x < 2 ^ d.toNat) (hp : p = 2 ^ d.toNat + x) (kq : w.cell? ⟨q, 0, none⟩ = some (.int .i64 D)) (kp : w.cell? ⟨a, o + 1, none⟩ = some (.int .u64 p)) (hD : d < D) :
    Calls Tryz.prog 27 #[.pointer (some ⟨q, 0, none⟩), .pointer (some ⟨a, o, none⟩), .bool false] w fun e w' => e = .returned (.tuple #[.int .u64 (2 * p), .int .i64 (d + 1), .nilIface]) ∧ Lk w w' := by
  have HP := Lib.hid (fun y : World => Pos.parts_ok p d x y h0 (by omega) x0 x1 hp)
  have KQ := Lib.hid kq
  have KP := Lib.hid kp
  have hd : decide (D ≤ d) = false := by simp; omega
  have hw : wrap64 (d + 1) = d + 1 := by simp only [wrap64]; omega
  have HA := Lib.hid (fun y : World => Pos.attack_ok p d x y h0 (by omega) x0 x1 hp)
  clear hD
  clear h0 h1 x0 x1 hp kq
  go_enter Tryz.func27, Tryz.ntmps27
  go_wp2_with (first
    | (go_at_call 45; (with_reducible refine (HP.out _).mono ?_); rintro e y1 ⟨he, hy⟩; obtain rfl : e = _ := he; have H1 : Hid (Lk w y1) := Lib.hid (hy); have kq1 := H1.out.cell KQ.out; have kp1 := H1.out.cell KP.out; clear hy)
    | (go_at_call 46; (with_reducible refine (HA.out _).mono ?_); rintro e y2 ⟨he, hy⟩; obtain rfl : e = _ := he; have H2 : Hid (Lk w y2) := Lib.hid (H1.out.trans hy); have kq2 := H2.out.cell KQ.out; have kp2 := H2.out.cell KP.out; clear hy))
  exact bodyPost_ret (v := .tuple #[.int .u64 (2 * p), .int .i64 (d + 1), .nilIface]) (by simp [results, Tryz.results27, go_sem, hw]) rfl ⟨rfl, H2.out⟩
set_option maxHeartbeats 2000000 in
set_option maxRecDepth 100000 in
theorem tgt_def (w : World) (q a o : Nat) (D d x p : Int) (h0 : 0 ≤ d) (h1 : d ≤ 20) (x0 : 0 ≤ x) (x1 : x < 2 ^ d.toNat) (hp : p = 2 ^ d.toNat + x) (kq : w.cell? ⟨q, 0, none⟩ = some (.int .i64 D)) (kp : w.cell? ⟨a, o + 1, none⟩ = some (.int .u64 p)) (hD : d < D) (hx : x + 1 < 2 ^ d.toNat) :
    Calls Tryz.prog 27 #[.pointer (some ⟨q, 0, none⟩), .pointer (some ⟨a, o, none⟩), .bool true] w fun e w' => e = .returned (.tuple #[.int .u64 (2 * (p + 1)), .int .i64 (d + 1), .nilIface]) ∧ Lk w w' := by
  have HP := Lib.hid (fun y : World => Pos.parts_ok p d x y h0 (by omega) x0 x1 hp)
  have KQ := Lib.hid kq
  have KP := Lib.hid kp
  have hd : decide (D ≤ d) = false := by simp; omega
  have hw : wrap64 (d + 1) = d + 1 := by simp only [wrap64]; omega
  have HA := Lib.hid (fun y : World => Pos.attack_ok p d x y h0 (by omega) x0 x1 hp)
  have HDf := Lib.hid (fun y : World => Pos.defend_ok p d x y h0 (by omega) x0 hx hp)
  clear hD hx
  clear h0 h1 x0 x1 hp kq
  go_enter Tryz.func27, Tryz.ntmps27
  go_wp2_with (first
    | (go_at_call 45; (with_reducible refine (HP.out _).mono ?_); rintro e y1 ⟨he, hy⟩; obtain rfl : e = _ := he; have H1 : Hid (Lk w y1) := Lib.hid (hy); have kq1 := H1.out.cell KQ.out; have kp1 := H1.out.cell KP.out; clear hy)
    | (go_at_call 46; (with_reducible refine (HA.out _).mono ?_); rintro e y2 ⟨he, hy⟩; obtain rfl : e = _ := he; have H2 : Hid (Lk w y2) := Lib.hid (H1.out.trans hy); have kq2 := H2.out.cell KQ.out; have kp2 := H2.out.cell KP.out; clear hy)
    | (go_at_call 47; (with_reducible refine (HDf.out _).mono ?_); rintro e y3 ⟨he, hy⟩; obtain rfl : e = _ := he; have H3 : Hid (Lk w y3) := Lib.hid (H2.out.trans hy); have kq3 := H3.out.cell KQ.out; have kp3 := H3.out.cell KP.out; clear hy))
  exact bodyPost_ret (v := .tuple #[.int .u64 (2 * (p + 1)), .int .i64 (d + 1), .nilIface]) (by simp [results, Tryz.results27, go_sem, hw]) rfl ⟨rfl, H3.out⟩
set_option maxHeartbeats 2000000 in
set_option maxRecDepth 100000 in
theorem tgt_last (w : World) (q a o : Nat) (D d x p : Int) (h0 : 0 ≤ d) (h1 : d ≤ 20) (x0 : 0 ≤ x) (x1 : x < 2 ^ d.toNat) (hp : p = 2 ^ d.toNat + x) (kq : w.cell? ⟨q, 0, none⟩ = some (.int .i64 D)) (kp : w.cell? ⟨a, o + 1, none⟩ = some (.int .u64 p)) (hD : d < D) (hx : x + 1 = 2 ^ d.toNat) :
    Calls Tryz.prog 27 #[.pointer (some ⟨q, 0, none⟩), .pointer (some ⟨a, o, none⟩), .bool true] w fun e w' => e = .returned (.tuple #[.int .u64 0, .int .i64 0, .iface 55 (.int .i64 45)]) ∧ Lk w w' := by
  have HP := Lib.hid (fun y : World => Pos.parts_ok p d x y h0 (by omega) x0 x1 hp)
  have KQ := Lib.hid kq
  have KP := Lib.hid kp
  have hd : decide (D ≤ d) = false := by simp; omega
  have HA := Lib.hid (fun y : World => Pos.attack_ok p d x y h0 (by omega) x0 x1 hp)
  have HDf := Lib.hid (fun y : World => Pos.defend_last p d x y h0 (by omega) x0 hx hp)
  clear hD hx
  clear h0 h1 x0 x1 hp kq
  go_enter Tryz.func27, Tryz.ntmps27
  go_wp2_with (first
    | (go_at_call 45; (with_reducible refine (HP.out _).mono ?_); rintro e y1 ⟨he, hy⟩; obtain rfl : e = _ := he; have H1 : Hid (Lk w y1) := Lib.hid (hy); have kq1 := H1.out.cell KQ.out; have kp1 := H1.out.cell KP.out; clear hy)
    | (go_at_call 46; (with_reducible refine (HA.out _).mono ?_); rintro e y2 ⟨he, hy⟩; obtain rfl : e = _ := he; have H2 : Hid (Lk w y2) := Lib.hid (H1.out.trans hy); have kq2 := H2.out.cell KQ.out; have kp2 := H2.out.cell KP.out; clear hy)
    | (go_at_call 47; (with_reducible refine (HDf.out _).mono ?_); rintro e y3 ⟨he, hy⟩; obtain rfl : e = _ := he; have H3 : Hid (Lk w y3) := Lib.hid (H2.out.trans hy); have kq3 := H3.out.cell KQ.out; have kp3 := H3.out.cell KP.out; clear hy))
  exact bodyPost_ret (v := .tuple #[.int .u64 0, .int .i64 0, .iface 55 (.int .i64 45)]) (by simp [results, Tryz.results27, go_sem]) rfl ⟨rfl, H3.out⟩
theorem target_walk (w : World) (q a c i : Nat) (G : GmS) (df : Bool) (h : IsGm w q a c G) (ok : GOk G) (hi : i < G.cs.length) :
    Calls Tryz.prog 27 #[.pointer (some ⟨q, 0, none⟩), .pointer (some ⟨a, i * 42, none⟩), .bool df] w fun e w' => e = .returned (tgtV (G.tgt G.cs[i] df)) ∧ Lk w w' := by
  have hm := List.getElem_mem hi
  have hd := ok.cd _ hm
  have hx := ok.ci _ hm
  have hD := ok.d1
  have kp := h.cl hi (k := 1) (by decide)
  unfold GmS.tgt
  by_cases c1 : G.depth ≤ G.cs[i].d
  · rw [if_pos c1]
    exact tgt_deep w q a (i * 42) G.depth _ _ _ hd.1 (by omega) hx.1 hx.2 rfl h.k0 kp df c1
  · rw [if_neg c1]
    cases df with
    | false =>
      rw [if_neg (fun e => absurd e.1 (by decide))]
      exact tgt_att w q a (i * 42) G.depth _ _ _ hd.1 (by omega) hx.1 hx.2 rfl h.k0 kp (by omega)
    | true =>
      by_cases c2 : G.cs[i].i + 1 = 2 ^ G.cs[i].d.toNat
      · rw [if_pos ⟨rfl, c2⟩]
        exact tgt_last w q a (i * 42) G.depth _ _ _ hd.1 (by omega) hx.1 hx.2 rfl h.k0 kp (by omega) c2
      · rw [if_neg (fun e => c2 e.2)]
        exact tgt_def w q a (i * 42) G.depth _ _ _ hd.1 (by omega) hx.1 hx.2 rfl h.k0 kp (by omega) (by have := hx.2; omega)
set_option maxHeartbeats 2000000 in
set_option maxRecDepth 100000 in
theorem before_none (w : World) (q a o : Nat) (kp : w.cell? ⟨a, o, none⟩ = some (.int .i64 (-1))) :
    Calls Tryz.prog 31 #[.pointer (some ⟨q, 0, none⟩), .pointer (some ⟨a, o, none⟩)] w fun e w' => e = .returned (.int .u64 0) ∧ Lk w w' := by
  go_enter Tryz.func31, Tryz.ntmps31
  go_wp2_with fail
  go_ret
  exact ⟨rfl, Lk.refl _⟩
set_option maxHeartbeats 2000000 in
set_option maxRecDepth 100000 in
theorem before_some (w : World) (q a o P l c : Nat) (u : Int) (kp : w.cell? ⟨a, o, none⟩ = some (.int .i64 P)) (kv : w.cell? ⟨q, 36, none⟩ = some (.slice (some ⟨a, 0, none⟩) l c)) (hP : P < l) (hl : l ≤ 64) (ku : w.cell? ⟨a, P * 42 + 36, none⟩ = some (.int .u64 u)) :
    Calls Tryz.prog 31 #[.pointer (some ⟨q, 0, none⟩), .pointer (some ⟨a, o, none⟩)] w fun e w' => e = .returned (.int .u64 u) ∧ Lk w w' := by
  have hn : ((P : Int) == -1) = false := by rw [beq_eq_false_iff_ne]; omega
  go_enter Tryz.func31, Tryz.ntmps31
  go_wp2_with fail
  go_region
  go_wp2_with fail
  go_ret
  exact ⟨rfl, by first | exact Lk.refl _ | exact (Lk.refl _).drew⟩
set_option maxHeartbeats 2000000 in
set_option maxRecDepth 100000 in
theorem before_walk (w : World) (q a c i : Nat) (G : GmS) (h : IsGm w q a c G) (ok : GOk G) (hi : i < G.cs.length) :
    Calls Tryz.prog 31 #[.pointer (some ⟨q, 0, none⟩), .pointer (some ⟨a, i * 42, none⟩)] w fun e w' => e = .returned (.int .u64 (G.before G.cs[i])) ∧ Lk w w' := by
  have kp := h.cl hi (k := 0) (by decide)
  have hp := ok.cp i hi
  unfold GmS.before
  by_cases c1 : G.cs[i].parent = -1
  · rw [if_pos c1]
    exact before_none w q a (i * 42) (by rw [← c1]; exact kp)
  · rw [if_neg c1]
    have hP : G.cs[i].parent.toNat < G.cs.length := by omega
    have e : ((G.cs[i].parent.toNat : Nat) : Int) = G.cs[i].parent := by omega
    rw [List.getElem?_eq_getElem hP]
    exact before_some w q a (i * 42) G.cs[i].parent.toNat G.cs.length c _ (by rw [e]; exact kp) h.kv hP ok.len (h.cl hP (k := 36) (by decide))
end Gm
end Go.Proofs.YtnaamljflcgepaaGreatDoor
namespace Go.Proofs.YtnaamljflcgepaaGreatDoor
open Go.RowKit
set_option linter.unusedVariables false
set_option linter.unusedSimpArgs false
namespace Gm
open Kc Mk
/-- A claim as a value. -/
def clV (x : Cl) : Value := .agg (tab 42 (clv x))
theorem undCl : Tryz.prog.underlying 33 = some (.struct (Tryz.prog.fieldsOf 33)) := by kernel_rfl
theorem infCl' : (Tryz.prog.info? 33).map (·.size) = some 42 := by kernel_rfl
theorem infCl (g : Nat → Value) : (Tryz.prog.info? 33).map (·.size) = some (tab 42 g).size := by rw [tab_size]; exact infCl'
theorem clv_one (x : Cl) (k : Nat) : (clv x k).oneCell' = true := by
  unfold clv
  repeat' split
  all_goals rfl
theorem loadCl {w : World} {a o : Nat} {x : Cl} (h : ∀ k, k < 42 → w.cell? ⟨a, o + k, none⟩ = some (clv x k)) : (Instr.loadAt 33 (.pointer (some ⟨a, o, none⟩))).run Tryz.prog w = .ok (clV x) w := by
  refine run_loadAt_mid w a o _ ((List.range 42).map (clv x)) _ (fun j v hv => ?_) undCl rfl (by rw [List.length_map, List.length_range]; exact infCl')
  obtain ⟨hj, rfl⟩ := List.getElem?_eq_some_iff.1 hv
  simp only [List.length_map, List.length_range] at hj
  simpa using h j hj
theorem IsGm.load {w : World} {q a c : Nat} {G : GmS} (h : IsGm w q a c G) {i : Nat} (hi : i < G.cs.length) : (Instr.loadAt 33 (.pointer (some ⟨a, i * 42, none⟩))).run Tryz.prog w = .ok (clV G.cs[i]) w := loadCl fun _ hk => h.cl hi hk
/-- A box of a claim. -/
def IsCb (w : World) (q : Nat) (x : Cl) : Prop := IsTab w q 33 42 (clv x)
theorem IsCb.value {w : World} {q : Nat} {x : Cl} (h : IsCb w q x) : (Instr.loadAt 29 (.pointer (some ⟨q, 2, none⟩))).run Tryz.prog w = .ok (dv x.value) w := by
  refine run_loadAt_mid w q 2 _ ((List.range 32).map fun i => bv (x.value i)) _ (fun j v hv => ?_) undH rfl (by rw [List.length_map, List.length_range]; exact (infH (fun _ => .nilIface)).trans (by rw [tab_size]))
  obtain ⟨hj, rfl⟩ := List.getElem?_eq_some_iff.1 hv
  simp only [List.length_map, List.length_range] at hj
  have := IsTab.cell h (2 + j) (by omega)
  rw [this]
  unfold clv
  rw [if_neg (by omega), if_neg (by omega), if_pos (by omega), show 2 + j - 2 = j by omega]
  simp
/-- Has a claim the parent, the position, the value? -/
def sameAns (c p : Int) (v : Hx) (x : Cl) : Bool := x.parent == c && (x.pos == p && same32 x.value v)
set_option maxHeartbeats 2000000 in
set_option maxRecDepth 100000 in
theorem mv1_walk (w : World) (x : Cl) (c p : Int) (v : Hx) (q8 q18 q10 : Nat) (h8 : w.cell? ⟨q8, 0, none⟩ = some (.int .i64 c)) (h18 : w.cell? ⟨q18, 0, none⟩ = some (.int .u64 p)) (h10 : IsTab w q10 29 32 fun i => bv (v i)) :
    Calls Tryz.prog 29 #[clV x, .pointer (some ⟨q8, 0, none⟩), .pointer (some ⟨q18, 0, none⟩), .pointer (some ⟨q10, 0, none⟩)] w fun e w' => e = .returned (.bool (sameAns c p v x)) ∧ Below w.heap.size w w' := by
  obtain ⟨zs, hz⟩ : ∃ zs, tab 42 (clv x) = zs := ⟨_, rfl⟩
  have hcb : IsCb (w.alloc (.cells zs 33)) w.heap.size x := by rw [← hz]; exact IsTab.new w _ 42 _
  have HB := Lib.hid (bal w (.cells zs 33))
  have g8 := keep1 HB.out h8
  have g18 := keep1 HB.out h18
  have HL := Lib.hid (load32h (IsTab.below h10 HB.out))
  have HV := Lib.hid hcb.value
  have c0 : (w.alloc (.cells zs 33)).cell? ⟨w.heap.size, 0, none⟩ = some (.int .i64 x.parent) := IsTab.cell hcb 0 (by decide)
  have c1 : (w.alloc (.cells zs 33)).cell? ⟨w.heap.size, 1, none⟩ = some (.int .u64 x.pos) := IsTab.cell hcb 1 (by decide)
  unfold clV
  rw [hz]
  clear h8 h18 h10 hcb hz
  unfold sameAns
  cases e1 : (x.parent == c) with
  | false =>
    go_enter Tryz.func29, Tryz.ntmps29
    go_wp2_with (fail)
    exact bodyPost_ret (v := .bool false) (by simp [results, Tryz.results29, go_sem]) rfl ⟨rfl, HB.out⟩
  | true =>
    cases e2 : (x.pos == p) with
    | false =>
      go_enter Tryz.func29, Tryz.ntmps29
      go_wp2_with (fail)
      exact bodyPost_ret (v := .bool false) (by simp [results, Tryz.results29, go_sem]) rfl ⟨rfl, HB.out⟩
    | true =>
      obtain ⟨sb, hsb⟩ : ∃ sb, same32 x.value v = sb := ⟨_, rfl⟩
      have HSB := Lib.hid hsb
      rw [hsb]
      clear hsb
      go_enter Tryz.func29, Tryz.ntmps29
      go_wp2_with (first
        | ((with_reducible refine wpList_loadG (P := Tryz.prog) (w := (w.alloc (.cells zs 33))) (ty := 29) (x := .tmp 17) (p := .pointer (some ⟨w.heap.size, 2, none⟩)) (v := dv x.value) ?_ ?_ ?_ HV.out ?_); rotate_left; (· exact rfl); (· exact rfl); rotate_left; (· go_simp))
        | ((with_reducible refine wpList_loadG (P := Tryz.prog) (w := (w.alloc (.cells zs 33))) (ty := 29) (x := .tmp 3) (p := .pointer (some ⟨q10, 0, none⟩)) (v := dv v) ?_ ?_ ?_ HL.out ?_); rotate_left; (· exact rfl); (· exact rfl); rotate_left; (· go_simp))
        | ((with_reducible refine wpList_eqG ?_ (.tmp 18) (.tmp 19) 29 x.value v ?_ ?_ ?_ ?_); (· go_simp); (· exact rfl); (· exact rfl); (· exact rfl); rw [HSB.out]))
      exact bodyPost_ret (v := .bool sb) (by simp [results, Tryz.results29, go_sem]) rfl ⟨rfl, HB.out⟩
end Gm
end Go.Proofs.YtnaamljflcgepaaGreatDoor
namespace Go.Proofs.YtnaamljflcgepaaGreatDoor
open Go.RowKit
set_option linter.unusedVariables false
set_option linter.unusedSimpArgs false
namespace Gm
open Kc Mk
theorem any_of_none {P : Cl → Bool} {l : List Cl} (h : ∀ (i : Nat) (hi : i < l.length), P l[i] = false) : l.any P = false := by
  rw [List.any_eq_false]
  intro x hx
  obtain ⟨i, hi, rfl⟩ := List.getElem_of_mem hx
  rw [h i hi]; decide
theorem any_of_at {P : Cl → Bool} {l : List Cl} {i : Nat} (hi : i < l.length) (h : P l[i] = true) : l.any P = true := List.any_eq_true.2 ⟨_, List.getElem_mem hi, h⟩
/-- What the loop keeps. -/
structure Ixmv (W : World) (q a c : Nat) (G : GmS) (cl p : Int) (v : Hx) (q8 q18 q10 : Nat) (j : Nat) (y : World) : Prop where
  below : Below W.heap.size W y
  gm : IsGm y q a c G
  env : y.cell? ⟨q8, 0, none⟩ = some (.int .i64 cl) ∧ y.cell? ⟨q18, 0, none⟩ = some (.int .u64 p) ∧ IsTab y q10 29 32 fun i => bv (v i)
  none : ∀ (i : Nat) (hi : i < G.cs.length), i < j → (sameAns cl p v) G.cs[i] = false
set_option maxHeartbeats 2000000 in
set_option maxRecDepth 100000 in
theorem index_mv (w : World) (q a c : Nat) (G : GmS) (cl p : Int) (v : Hx) (q8 q18 q10 : Nat) (h : IsGm w q a c G) (hl : G.cs.length ≤ 64) (he : w.cell? ⟨q8, 0, none⟩ = some (.int .i64 cl) ∧ w.cell? ⟨q18, 0, none⟩ = some (.int .u64 p) ∧ IsTab w q10 29 32 fun i => bv (v i)) :
    Calls Tryz.prog 48 #[.slice (some ⟨a, 0, none⟩) G.cs.length c, .func (.func 29) #[] #[.pointer (some ⟨q8, 0, none⟩), .pointer (some ⟨q18, 0, none⟩), .pointer (some ⟨q10, 0, none⟩)]] w fun e w' => ∃ r : Int, e = .returned (.int .i64 r) ∧ decide (0 ≤ r) = G.cs.any (sameAns cl p v) ∧ Below w.heap.size w w' := by
  have HS : Hid (Ixmv w q a c G cl p v q8 q18 q10 0 w) := Lib.hid ⟨Below.refl _ _, h, he, fun i _ hi => absurd hi (by omega)⟩
  have HN : Hid (∀ n, G.cs.length = n → n ≤ c ∧ n ≤ 64) := Lib.hid (fun n e => e ▸ ⟨h.row.2.2.1, hl⟩)
  obtain ⟨n, hn⟩ : ∃ n, G.cs.length = n := ⟨_, rfl⟩
  have HE := Lib.hid hn
  rw [hn]
  have hc := (HN.out n hn)
  clear h hl he hn HN
  have HC := Lib.hid hc
  clear hc
  go_enter Tryz.func48, Tryz.ntmps48
  go_wp2_with (fail)
  go_loopw [5, 8] (fun z i y => ∃ j : Nat, j ≤ n ∧ i = .int .i64 j ∧ Hid (Ixmv w q a c G cl p v q8 q18 q10 j y)) (fun _ i _ => n - (intOf i).toNat)
  case atStart => exact ⟨0, Nat.zero_le _, rfl, HS⟩
  case round =>
    obtain ⟨j, hj, rfl, hp⟩ := hrel
    clear HS
    by_cases hlt : (j : Int) < (n : Int)
    · have hj2 : j < G.cs.length := by rw [HE.out]; omega
      have HL := Lib.hid (hp.out.gm.load hj2)
      have HJ : Hid (j < n ∧ wrap64 ((j : Int) + 1) = ((j + 1 : Nat) : Int)) := Lib.hid (by refine ⟨by omega, ?_⟩; have := HC.out.2; unfold wrap64; omega)
      have HQ := Lib.hid (mv1_walk wr G.cs[j] cl p v q8 q18 q10 hp.out.env.1 hp.out.env.2.1 hp.out.env.2.2)
      obtain ⟨bv0, hbv⟩ : ∃ b, (sameAns cl p v) G.cs[j] = b := ⟨_, rfl⟩
      have HBV := Lib.hid hbv
      rw [hbv] at HQ
      obtain ⟨cv, hcv⟩ : ∃ cv, clV G.cs[j] = cv := ⟨_, rfl⟩
      rw [hcv] at HL HQ
      have hcc := HC.out
      clear hbv hcv hj
      cases bv0 with
      | true =>
        go_wp2_with (first
          | ((with_reducible refine wpList_loadE (P := Tryz.prog) (w := wr) (ty := 33) (x := .tmp 14) (p := .pointer (some ⟨a, j * 42, none⟩)) (v := cv) ?_ ?_ ?_ HL.out ?_); (· exact rfl); (· exact rfl); (· exact rfl))
          | (go_at_call 29; (with_reducible refine HQ.out.mono ?_); rintro e y1 ⟨he, hb⟩; obtain rfl : e = _ := he; have H1 := Lib.hid (bl hp.out.below hb); clear hb HQ))
        exact bodyPost_ret (v := .int .i64 j) (by simp [results, Tryz.results48, go_sem]) rfl ⟨j, rfl, by rw [any_of_at hj2 HBV.out]; simp, H1.out⟩
      | false =>
        go_wp2_with (first
          | ((with_reducible refine wpList_loadE (P := Tryz.prog) (w := wr) (ty := 33) (x := .tmp 14) (p := .pointer (some ⟨a, j * 42, none⟩)) (v := cv) ?_ ?_ ?_ HL.out ?_); (· exact rfl); (· exact rfl); (· exact rfl))
          | (go_at_call 29; (with_reducible refine HQ.out.mono ?_); rintro e y1 ⟨he, hb⟩; obtain rfl : e = _ := he; have H1 : Hid (Ixmv w q a c G cl p v q8 q18 q10 (j + 1) y1) := Lib.hid ⟨bl hp.out.below hb, hp.out.gm.below hb, ⟨keep1 hb hp.out.env.1, keep1 hb hp.out.env.2.1, IsTab.below hp.out.env.2.2 hb⟩, fun i hi hlt => by
              by_cases e : i = j
              · subst e; exact HBV.out
              · exact hp.out.none i hi (by omega)⟩; clear hb HQ))
        go_roundw
        case rel => exact ⟨j + 1, HJ.out.1, congrArg (Value.int .i64) (by omega), H1⟩
        case measure => show n - ((j : Int) + 1).toNat < n - (j : Int).toNat; have := HJ.out.1; omega
    · have HEND : Hid (G.cs.any (sameAns cl p v) = false) := Lib.hid (any_of_none fun i hi => hp.out.none i hi (by have := HE.out; omega))
      go_wp2_with (fail)
      exact bodyPost_ret (v := .int .i64 (-1)) (by simp [results, Tryz.results48, go_sem]) rfl ⟨-1, rfl, by rw [HEND.out]; decide, hp.out.below⟩
set_option maxHeartbeats 2000000 in
set_option maxRecDepth 100000 in
theorem contains_mv (w : World) (q a c : Nat) (G : GmS) (cl p : Int) (v : Hx) (q8 q18 q10 : Nat) (h : IsGm w q a c G) (hl : G.cs.length ≤ 64) (he : w.cell? ⟨q8, 0, none⟩ = some (.int .i64 cl) ∧ w.cell? ⟨q18, 0, none⟩ = some (.int .u64 p) ∧ IsTab w q10 29 32 fun i => bv (v i)) :
    Calls Tryz.prog 28 #[.slice (some ⟨a, 0, none⟩) G.cs.length c, .func (.func 29) #[] #[.pointer (some ⟨q8, 0, none⟩), .pointer (some ⟨q18, 0, none⟩), .pointer (some ⟨q10, 0, none⟩)]] w fun e w' => e = .returned (.bool (G.cs.any (sameAns cl p v))) ∧ Below w.heap.size w w' := by
  have HI := Lib.hid (index_mv w q a c G cl p v q8 q18 q10 h hl he)
  generalize G.cs.any (sameAns cl p v) = B at *
  generalize G.cs.length = n at *
  clear h hl he
  go_enter Tryz.func28, Tryz.ntmps28
  go_wp2_with (go_at_call 48; (with_reducible refine HI.out.mono ?_); rintro e y1 ⟨r, he, hr, hb⟩; obtain rfl : e = _ := he; have H1 := Lib.hid (And.intro hr hb); clear hr hb)
  exact bodyPost_ret (v := .bool (decide (0 ≤ r))) (by simp [results, Tryz.results28, go_sem]) rfl ⟨by rw [H1.out.1], H1.out.2⟩
end Gm
end Go.Proofs.YtnaamljflcgepaaGreatDoor
