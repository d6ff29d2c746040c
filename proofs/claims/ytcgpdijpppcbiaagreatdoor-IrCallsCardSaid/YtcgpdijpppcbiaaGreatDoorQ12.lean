/- Merged of Ws Evi Evk. Own work. -/
import Derived.Test.YtcgpdijpppcbiaaGreatDoorQ11
import Derived.Test.YtcgpdijpppcbiaaGreatDoorQ09
import Derived.Test.YtcgpdijpppcbiaaGreatDoorQ10
namespace Go.Proofs.YtcgpdijpppcbiaaGreatDoor
open Go.RowKit
set_option linter.unusedVariables false
namespace W1
/-- word.Apply answers v. -/
def App (op a b c : Nat) (v : Nat) : Prop := v < 18446744073709551616 ∧ ∀ w, Calls Tryz.prog 81 #[.int .i64 op, .int .u64 a, .int .u64 b, .int .u64 c] w fun e w' => e = .returned (.tuple #[.int .u64 v, .nilIface]) ∧ ∃ k, w' = w.drewN k
theorem okU {a : Nat} (h : a < 18446744073709551616) : U.Ok (a : Int) := by unfold U.Ok; omega
end W1
end Go.Proofs.YtcgpdijpppcbiaaGreatDoor
namespace Go.Proofs.YtcgpdijpppcbiaaGreatDoor
open Go.RowKit
set_option linter.unusedVariables false
set_option linter.unusedSimpArgs false
namespace Ir
open Kc
/-- A value's world in the middle: its own expression in q, its arguments in q2. -/
structure Vl (W : World) (D : Nat → Prop) (pv sv : Value) (prog : List Fn) (r f : Nat) (L : Nat → Nat) (fv : Nat) (op : Int) (n : Nat) (V : Value) (q q2 : Nat) (A : Nat → Nat) (s : Rs) (y : World) : Prop where
  run : IsRun y r pv sv s
  fr : IsFr y f L fv
  pr : SlP y D pv prog
  kp : Kept (fun k => k = r) W y
  d : ∀ k, D k → k < y.heap.size ∧ k ≠ r ∧ k ≠ f
  bx : Bx y q (.int .i64 op) (.int .u64 n) V
  ar : IsTab y q2 119 24 fun j => .int .u64 (A j)
  a : ∀ j, A j < 18446744073709551616
  q : W.heap.size ≤ q ∧ W.heap.size ≤ q2 ∧ q ≠ q2 ∧ r < W.heap.size ∧ f < W.heap.size ∧ r ≠ f ∧ ∀ k, D k → k < W.heap.size
section
variable {W y y' : World} {D : Nat → Prop} {pv sv : Value} {prog : List Fn} {r f : Nat} {L A : Nat → Nat} {fv n q q2 : Nat} {op : Int} {V : Value} {s s' : Rs}
theorem Vl.next (h : Vl W D pv sv prog r f L fv op n V q q2 A s y) (hk : Kept (fun _ => False) y y') : Vl W D pv sv prog r f L fv op n V q q2 A s y' :=
  ⟨h.run.kept hk id, h.fr.kept hk id, h.pr.kept hk fun _ _ => id, h.kp.trans hk fun _ _ e => e.elim, fun k e => ⟨Nat.lt_of_lt_of_le (h.d k e).1 hk.size, (h.d k e).2⟩, h.bx.kept hk id, IsTab.kept9 h.ar hk id, h.a, h.q⟩
theorem Vl.not (h : Vl W D pv sv prog r f L fv op n V q q2 A s y) : ∀ k, D k → ¬ k = r := fun k e => (h.d k e).2.1
theorem Vl.turn (h : Vl W D pv sv prog r f L fv op n V q q2 A s y) (hr : IsRun y' r pv sv s') (hk : Kept (fun k => k = r) y y') : Vl W D pv sv prog r f L fv op n V q q2 A s' y' :=
  ⟨hr, h.fr.kept hk fun e => h.q.2.2.2.2.2.1 e.symm, h.pr.kept hk h.not, h.kp.trans hk fun _ _ e => e, fun k e => ⟨Nat.lt_of_lt_of_le (h.d k e).1 hk.size, (h.d k e).2⟩, h.bx.kept hk (by have := h.q; omega), IsTab.kept9 h.ar hk (by have := h.q; omega), h.a, h.q⟩
theorem Vl.set (h : Vl W D pv sv prog r f L fv op n V q q2 A s y) {i x : Nat} (hi : i < 24) (hx : x < 18446744073709551616) : Vl W D pv sv prog r f L fv op n V q q2 (upd A i x) s (y.setCell ⟨q2, i, none⟩ (.int .u64 x)) := by
  have hk : Kept (fun k => k = q2) y (y.setCell ⟨q2, i, none⟩ (.int .u64 x)) := (Kept.refl (fun k => k = q2) y).setCell (.inl rfl) _
  have hq := h.q
  refine ⟨h.run.kept hk (by omega), h.fr.kept hk (by omega), h.pr.kept hk fun k e => by have := hq.2.2.2.2.2.2 k e; omega, h.kp.setCell (.inr hq.2.1) _, fun k e => ⟨Nat.lt_of_lt_of_le (h.d k e).1 hk.size, (h.d k e).2⟩, h.bx.kept hk (by omega), (h.ar.set i _).cong fun j hj => ?_, fun j => ?_, hq⟩
  · unfold Kc.updv upd; by_cases e : j = i <;> simp [e]
  · unfold upd; split; exact hx; exact h.a j
end
theorem buildA0 (w : World) : (Instr.build 119 #[]).run Tryz.prog w = .ok (.agg (tab 24 fun _ => .int .u64 0)) w := by kernel_rfl
theorem zeroA0 (w : World) : (zeroValue 119).run Tryz.prog w = .ok (.agg (tab 24 fun _ => .int .u64 0)) w := by kernel_rfl
theorem infA0 : (Tryz.prog.info? 119).map (·.size) = some 24 := by kernel_rfl
theorem sl24m (q m : Nat) (hm : m ≤ 24) (w : World) : (Instr.sliceAt 119 (.pointer (some ⟨q, 0, none⟩)) none (some (.int .i64 m)) none).run Tryz.prog w = .ok (.slice (some ⟨q, 0, none⟩) m 24) w := by
  have h1 : (m : Int) ≤ 24 := by omega
  simp [go_sem, Tryz.underlying119, h1]
/-- What an argument costs and gives, given that all come. -/
theorem evArgs_cons {val : Int → Nat → Ef → (Nat → Nat) → Rs → Option (Nat × Bool × Rs)} {o : Int} {n : Nat} {kids rest : Ef} {i : Nat} {A L : Nat → Nat} {s : Rs} {R : (Nat → Nat) × Bool × Rs} (h : evArgs val (.cons o n kids rest) i A L s = some R) :
    i < 24 ∧ ∃ v ok s', val o n kids L s = some (v, ok, s') ∧ ((ok = true ∧ evArgs val rest (i + 1) (upd A i v) L s' = some R) ∨ (ok = false ∧ R = (A, false, s'))) := by
  unfold evArgs at h
  by_cases hi : i < 24
  · rw [if_pos hi] at h
    refine ⟨hi, ?_⟩
    cases hv : val o n kids L s with
    | none => rw [hv] at h; cases h
    | some q =>
      obtain ⟨v, ok, s'⟩ := q
      rw [hv] at h
      cases ok with
      | false => exact ⟨v, false, s', rfl, .inr ⟨rfl, by simpa using h.symm⟩⟩
      | true => exact ⟨v, true, s', rfl, .inl ⟨rfl, h⟩⟩
  · rw [if_neg hi] at h; cases h
section
variable {pv sv : Value} {prog : List Fn} {D : Nat → Prop}
theorem meas9b {i n : Nat} (h : i < n) : n - (intOf (.int .i64 ((i : Int) + 1))).toNat < n - (intOf (.int .i64 (i : Int))).toNat := by
  simp only [intOf]; omega
theorem kept_alloc9 (w : World) (o : Obj) : Kept (fun _ => False) w (w.alloc o) := (Kept.refl _ w).alloc o
abbrev zX : Array Value := #[.int .i64 0, .int .u64 0, .slice none 0 0]
set_option maxHeartbeats 8000000 in
set_option maxRecDepth 100000 in
theorem value_walk (ap : Nat → Nat → Nat → Nat → Nat) (hap : ∀ k a b c, 1 ≤ k → k ≤ 25 → a < 18446744073709551616 → b < 18446744073709551616 → c < 18446744073709551616 → W1.App k a b c (ap k a b c))
    (rec : Sem) (hV : ValC pv sv prog D rec.val) (hL : LstC pv sv prog D rec.lst) : ValC pv sv prog D (stepVal prog ap rec) := by
  intro op n kids L s v ok s' hev w r f fv V hr hf hp hK hn hD hrf
  obtain ⟨a, c, rfl, hkl, hK⟩ := hK
  obtain ⟨m, hm⟩ : ∃ m, kids.len = m := ⟨_, rfl⟩
  rw [hm] at hkl
  have hk0 : Kept (fun _ => False) w (w.alloc (.cells #[.int .i64 op, .int .u64 n, .slice a m c] 30)) := (Kept.refl _ w).alloc _
  have HB := Lib.hid (Bx.new w (.int .i64 op) (.int .u64 n) (.slice a m c) 30)
  have HS0 := Lib.hid (And.intro (hr.kept hk0 id) (And.intro (hf.kept hk0 id) (And.intro (hp.kept hk0 fun _ _ => id) (show kids = .nil ∨ ∃ b o, a = some ⟨b, o, none⟩ ∧ EfAt (w.alloc (.cells #[.int .i64 op, .int .u64 n, .slice a m c] 30)) D kids b o by
    rcases hK with e | ⟨b, o, e, h⟩
    · exact .inl e
    · exact .inr ⟨b, o, e, EfAt.kept hk0 (fun _ _ => id) kids b o h⟩))))
  have HQ : Hid (r < w.heap.size ∧ f < w.heap.size ∧ r ≠ f ∧ (∀ k, D k → k < w.heap.size ∧ k ≠ r ∧ k ≠ f) ∧ n < 18446744073709551616 ∧ m < 1099511627776 ∧ kids.len = m) := Lib.hid ⟨hr.lt, hf.lt, hrf, hD, hn, hkl, hm⟩
  have HK0 := Lib.hid hk0
  have HL0 := Lib.hid hL
  have HV0 := Lib.hid hV
  have HAP := Lib.hid hap
  clear hk0 hr hf hp hK hn hD hrf hkl hL hV hap
  rw [hm]
  clear hm
  go_enter Tryz.func74, Tryz.ntmps74
  go_upto_region 1 with (fail)
  generalize w.alloc (.cells #[.int .i64 op, .int .u64 n, .slice a m c] 30) = y0 at *
  have HQQ : Hid (w.heap.size ≤ w.heap.size) := Lib.hid (Nat.le_refl _)
  generalize hq : w.heap.size = q at HB HQQ
  have HQE : Hid (w.heap.size = q) := Lib.hid hq
  clear hq HQQ
  unfold stepVal at hev
  by_cases hu : s.used < s.fuel
  · rw [if_pos hu] at hev
    have HSP := Lib.hid (spend_yes y0 r pv sv s HS0.out.1 hu)
    clear hu
    obtain ⟨A9, okA, sA, hea, hfin⟩ : ∃ A9 okA sA, evArgs rec.val kids 0 (fun _ => 0) L s.up = some (A9, okA, sA) ∧ ((okA = false ∧ v = 0 ∧ ok = false ∧ s' = sA) ∨ (okA = true ∧ stepOp prog ap rec op n kids.len A9 L sA = some (v, ok, s'))) := by
      cases he : evArgs rec.val kids 0 (fun _ => 0) L s.up with
      | none => rw [he] at hev; cases hev
      | some R =>
        obtain ⟨A9, okA, sA⟩ := R
        rw [he] at hev
        cases okA with
        | false => refine ⟨A9, false, sA, rfl, .inl ⟨rfl, ?_⟩⟩; simp at hev; exact ⟨hev.1.symm, hev.2.1, hev.2.2.symm⟩
        | true => exact ⟨A9, true, sA, rfl, .inr ⟨rfl, hev⟩⟩
    have HF := Lib.hid hfin
    have HEA := Lib.hid hea
    clear hev hfin hea
    have z1 := zeroA0
    have HBA := Lib.hid buildA0
    have HT0 := Lib.hid (fun (y : World) => IsTab.new y 119 24 fun _ => .int .u64 0)
    have HI9 : Hid ((Tryz.prog.info? 119).map (·.size) = some (tab 24 fun _ => Value.int .u64 0).size ∧ (tab 24 fun _ => Value.int .u64 0).all (·.oneCell') = true) := Lib.hid ⟨by rw [tab_size]; exact infA0, tab_one fun _ => rfl⟩
    generalize hz : (tab 24 fun _ => Value.int .u64 0) = zr at *
    have HZ := Lib.hid hz
    clear hz
    go_upto_region 4 with (first
      | (go_at_call 73; (with_reducible refine HSP.out.mono ?_); rintro e y1 ⟨he, hr1, hk1⟩; obtain rfl : e = _ := he; have H1 := Lib.hid (And.intro hr1 hk1); clear hr1 hk1 HSP)
      | ((with_reducible refine wpList_buildN (P := Tryz.prog) (w := y1) ?_ 119 ?_ (.agg zr) (HBA.out y1) ?_); (· exact rfl); (· exact rfl))
      | ((with_reducible refine wpList_store_row (P := Tryz.prog) (w := y1.alloc (.cells zr 119)) ?_ 119 (.tmp 8) (.tmp 18) ?_ y1.heap.size zr ?_ ?_ 119 zr (heap_alloc_last y1 _) HI9.out.1 rfl HI9.out.2 ?_); (· exact rfl); (· exact rfl); (· exact rfl); (· exact rfl); rw [World.setRow_alloc_new]; simp only [Act.put]))
    have HE1 : Hid (kids = .nil ∨ ∃ b o, a = some ⟨b, o, none⟩ ∧ EfAt (y1.alloc (.cells zr 119)) D kids b o) := Lib.hid (by
      rcases HS0.out.2.2.2 with e | ⟨b, o, e, h⟩
      · exact .inl e
      · exact .inr ⟨b, o, e, EfAt.kept (kept_alloc9 y1 _) (fun _ _ => id) kids b o (EfAt.kept H1.out.2 (fun k hk => (HQ.out.2.2.2.1 k hk).2.1) kids b o h)⟩)
    have HM2 : Hid (Vl w D pv sv prog r f L fv op n (.slice a m c) q y1.heap.size (fun _ => 0) s.up (y1.alloc (.cells zr 119))) := by
      have hq9 := HQE.out
      have hs1 := HK0.out.size
      have hs2 := H1.out.2.size
      have hqy : q < y0.heap.size := inHeap HB.out.c0
      have hd := HQ.out.2.2.2.1
      have hfr := HQ.out.2.2.1
      have h0 : IsFr y1 f L fv := HS0.out.2.1.kept H1.out.2 fun e => hfr e.symm
      have h1 : SlP y1 D pv prog := HS0.out.2.2.1.kept H1.out.2 fun k hk => (hd k hk).2.1
      have hb1 : Bx y1 q (.int .i64 op) (.int .u64 n) (.slice a m c) := HB.out.kept H1.out.2 (by have := HQ.out.1; omega)
      have hka := kept_alloc9 y1 (.cells zr 119)
      refine Lib.hid ⟨H1.out.1.kept hka id, h0.kept hka id, h1.kept hka fun _ _ => id, (Kept.after HK0.out H1.out.2).trans hka fun _ _ h => h.elim, fun k hk => ⟨?_, (hd k hk).2⟩, hb1.kept hka id, HT0.out y1, fun _ => by decide, ?_⟩
      · have := (hd k hk).1; have := hka.size; omega
      · refine ⟨by omega, by omega, by omega, HQ.out.1, HQ.out.2.1, hfr, fun k hk => (hd k hk).1⟩
    clear HT0 HI9 HBA z1 H1 HS0 HB
    generalize y1.alloc (.cells zr 119) = y2 at *
    generalize y1.heap.size = q2 at *
    have k2 := HM2.out.bx.c2
    have H0 : Hid (∃ y A s1, evArgs rec.val y 0 A L s1 = some (A9, okA, sA) ∧ 0 + y.len = m ∧ 0 ≤ 24 ∧ (y = .nil ∨ ∃ b o, a = some ⟨b, o, none⟩ ∧ EfAt y2 D y b (o + 0 * 3)) ∧ Vl w D pv sv prog r f L fv op n (.slice a m c) q q2 A s1 y2) :=
      Lib.hid ⟨kids, _, _, HEA.out, by have := HQ.out.2.2.2.2.2.2; omega, by decide, by simpa using HE1.out, HM2.out⟩
    clear HE1 HEA HM2
    go_upto_region 5 with (fail)
    clear k2
    go_loopw [22] (fun t wr => ∃ i : Nat, t = .int .i64 i ∧ Hid (∃ y A s1, evArgs rec.val y i A L s1 = some (A9, okA, sA) ∧ i + y.len = m ∧ i ≤ 24 ∧ (y = .nil ∨ ∃ b o, a = some ⟨b, o, none⟩ ∧ EfAt wr D y b (o + i * 3)) ∧ Vl w D pv sv prog r f L fv op n (.slice a m c) q q2 A s1 wr)) (fun t _ => m - (intOf t).toNat)
    case atStart => exact ⟨0, rfl, H0⟩
    case round =>
      obtain ⟨i, rfl, hp⟩ := hrel
      obtain ⟨y, A, s1, hea, hi, hi24, hat, hmid⟩ := hp.out
      clear hp H0
      have HM := Lib.hid hmid
      clear hmid
      cases y with
      | nil =>
        have t1 : decide (i < m) = false := by simp [Ef.len] at hi; simp; omega
        obtain ⟨rfl, rfl, rfl⟩ : A = A9 ∧ true = okA ∧ s1 = sA := by simpa [evArgs] using hea
        have hm24 : m ≤ 24 := by simp [Ef.len] at hi; omega
        have HOP : Hid (stepOp prog ap rec op n m A L s1 = some (v, ok, s')) := Lib.hid (by
          rcases HF.out with ⟨e, _⟩ | ⟨_, h⟩
          · cases e
          · have := HQ.out.2.2.2.2.2.2; rwa [this] at h)
        clear HF hea hi hat hi24
        have HM24 := Lib.hid hm24
        clear hm24
        go_upto_region 12 with (fail)
        have k0 := HM.out.bx.c0
        by_cases h26 : op = 26
        · subst h26
          obtain ⟨rfl, rfl, rfl⟩ : n = v ∧ true = ok ∧ s1 = s' := by have := HOP.out; simpa [stepOp] using this
          have k1 := HM.out.bx.c1
          clear HOP
          go_wp2_with (fail)
          exact bodyPost_ret (v := .tuple #[.int .u64 n, .bool true]) (by simp [results, Tryz.results74, go_sem]) rfl ⟨rfl, HQ.out.2.2.2.2.1, HM.out.run, HM.out.kp⟩
        by_cases h27 : op = 27
        · subst h27
          by_cases hn24 : n < 24
          · obtain ⟨rfl, rfl, rfl⟩ : L n = v ∧ true = ok ∧ s1 = s' := by have := HOP.out; simpa [stepOp, hn24] using this
            have k1 := HM.out.bx.c1
            have kl := HM.out.fr.l hn24
            have hni : (n : Int) < 24 := by omega
            clear HOP hn24 h26
            go_upto_region 16 with (fail)
            go_quiet (fail)
            rename_i nq
            go_wp2_with (fail)
            exact bodyPost_ret (v := .tuple #[.int .u64 (L n), .bool true]) (by simp [results, Tryz.results74, go_sem]) rfl ⟨rfl, HM.out.fr.loc n, HM.out.run.kept ((Kept.refl (fun _ => False) wr).drewN _) id, HM.out.kp.drewN _⟩
          · have := HOP.out
            simp [stepOp, hn24] at this
        by_cases h28 : op = 28
        · subst h28
          have kA := HM.out.ar.cell 0 (by decide)
          by_cases hA0 : A 0 < 2048
          · obtain ⟨rfl, rfl, rfl⟩ : s1.mem (A 0) = v ∧ true = ok ∧ s1 = s' := by have := HOP.out; simpa [stepOp, hA0] using this
            have km := HM.out.run.m hA0
            have hai : (A 0 : Int) < 2048 := by omega
            have ta : decide (2048 ≤ (A 0 : Int)) = false := by simp; omega
            clear HOP hA0 h26 h27
            go_upto_region 20 with (fail)
            go_quiet (fail)
            rename_i nq
            go_wp2_with (fail)
            exact bodyPost_ret (v := .tuple #[.int .u64 (s1.mem (A 0)), .bool true]) (by simp [results, Tryz.results74, go_sem]) rfl ⟨rfl, HM.out.run.mem _, HM.out.run.kept ((Kept.refl (fun _ => False) wr).drewN _) id, HM.out.kp.drewN _⟩
          · obtain ⟨rfl, rfl, rfl⟩ : 0 = v ∧ false = ok ∧ s1.ends wrong = s' := by have := HOP.out; simpa [stepOp, hA0] using this
            have ta : decide (2048 ≤ (A 0 : Int)) = true := by simp; omega
            have HE := Lib.hid (end_wrong wr r pv sv s1 HM.out.run)
            clear HOP hA0 h26 h27
            go_wp2_with (go_at_call 76; (with_reducible refine HE.out.mono ?_); rintro e y7 ⟨he, hr7, hk7⟩; obtain rfl : e = _ := he; have H7 := Lib.hid (And.intro hr7 (HM.out.kp.trans hk7 fun _ _ h => h)); clear hr7 hk7 HE)
            exact bodyPost_ret (v := .tuple #[.int .u64 0, .bool false]) (by simp [results, Tryz.results74, go_sem]) rfl ⟨rfl, by decide, H7.out.1, H7.out.2⟩
        by_cases h29 : op = 29
        · subst h29
          have hst : stepCall prog rec n m A s1 = some (v, ok, s') := by have := HOP.out; simpa [stepOp] using this
          have k1 := HM.out.bx.c1
          have k2 := HM.out.bx.c2
          have s1l := sl24m q2 m HM24.out
          have HD := Lib.hid (HM.out.kp.drew)
          have HC := Lib.hid (call_walk rec HL0.out n m A s1 v ok s' hst wr.drew r (.slice (some ⟨q2, 0, none⟩) m 24) (HM.out.run.kept (kept_drew9 wr) id) (HM.out.pr.kept (kept_drew9 wr) fun _ _ => id) ⟨some ⟨q2, 0, none⟩, 24, rfl, HM24.out, .inr ⟨q2, 0, rfl, fun i hi => by rw [Nat.zero_add]; exact HM.out.ar.cell i (by have := HM24.out; omega)⟩⟩ HM.out.a fun k hk => ⟨(HM.out.d k hk).1, (HM.out.d k hk).2.1⟩)
          clear HOP hst h26 h27 h28
          go_upto_region 22 with (fail)
          refine wp_region_og (fun z : World => Bx z q (.int .i64 29) (.int .u64 n) (.slice a m c)) (.take 0 (.take 1 (.take 2 (.take 3 (.take 4 (.take 5 (.take 6 (.one 7 (.take 8 (.take 9 (.take 10 (.take 11 .done)))))))))))) (by kernel_rfl) (by kernel_rfl) (HM.out.bx.kept (kept_drew9 wr) id) ?_
          have HNB := Lib.hid HM.out.q
          have HB7 := Lib.hid (HM.out.bx.kept (kept_drew9 wr) id)
          clear k0 k1 k2
          generalize wr.drew = y7 at *
          refine og_tk (some 73) (.pointer (some ⟨r, 0, none⟩)) rfl rfl (by go_simp) (fun _ _ => by simp [execOp, go_sem]) ?_
          simp only [Act.put, pS]
          refine og_tk (some 74) (.pointer (some ⟨q, 1, none⟩)) rfl rfl (by go_simp) (fun _ _ => by simp [execOp, go_sem]) ?_
          simp only [Act.put, pS]
          refine og_ld (some 75) 22 (.tmp 74) (.pointer (some ⟨q, 1, none⟩)) (.int .u64 n) rfl rfl (by go_simp) rfl rfl (fun y hy => by have h := hy.c1; simp [Instr.loadAt, go_sem, h, Tryz.underlying22]) ?_
          simp only [Act.put, pS]
          refine og_tk (some 76) (.pointer (some ⟨q, 2, none⟩)) rfl rfl (by go_simp) (fun _ _ => by simp [execOp, go_sem]) ?_
          simp only [Act.put, pS]
          refine og_ld (some 77) 28 (.tmp 76) (.pointer (some ⟨q, 2, none⟩)) (.slice a m c) rfl rfl (by go_simp) rfl rfl (fun y hy => by have h := hy.c2; simp [Instr.loadAt, go_sem, h, Tryz.underlying28]) ?_
          simp only [Act.put, pS]
          refine og_tk (some 78) (.int .i64 m) rfl rfl (by go_simp) (fun _ _ => by simp [execOp, go_sem]) ?_
          simp only [Act.put, pS]
          refine og_tk (some 79) (.slice (some ⟨q2, 0, none⟩) m 24) rfl rfl (by go_simp) (fun y hy => by have h := s1l y; simp [execOp, go_sem, h, Result.andThen]) ?_
          simp only [Act.put, pS]
          refine og_f rfl (by go_simp) fun K hK => ?_
          go_simp
          go_at_call 32
          refine HC.out.mono ?_
          rintro e y8 ⟨he, hx8, hr8, hk8⟩
          obtain rfl : e = _ := he
          have H8 := Lib.hid (And.intro hx8 (And.intro hr8 (HD.out.trans hk8 fun _ _ h => h)))
          refine hK _ _ (HB7.out.kept hk8 (by have := HNB.out; omega)) ?_
          clear hK K hx8 hr8 hk8 HC
          refine og_tk (some 81) (.int .u64 v) rfl rfl (by go_simp) (fun _ _ => by simp [execOp, go_sem]) ?_
          simp only [Act.put, pS]
          refine og_tk (some 82) (.bool ok) rfl rfl (by go_simp) (fun _ _ => by simp [execOp, go_sem]) ?_
          simp only [Act.put, pS]
          refine og_tk (some 6) (.int .u64 v) rfl rfl (by go_simp) (fun _ _ => by simp [execOp, go_sem]) ?_
          simp only [Act.put, pS]
          refine og_tk (some 7) (.bool ok) rfl rfl (by go_simp) (fun _ _ => by simp [execOp, go_sem]) ?_
          simp only [Act.put, pS]
          refine og_done (NoPanic.normal ?_)
          go_wp2_with (fail)
          exact bodyPost_ret (v := .tuple #[.int .u64 v, .bool ok]) (by simp [results, Tryz.results74, go_sem]) rfl ⟨rfl, H8.out.1, H8.out.2.1, H8.out.2.2⟩
        by_cases hap : 1 ≤ op ∧ op ≤ 25
        · obtain ⟨k, rfl⟩ : ∃ k : Nat, op = k := ⟨op.toNat, by omega⟩
          obtain ⟨rfl, rfl, rfl⟩ : ap k (A 0) (A 1) (A 2) = v ∧ true = ok ∧ s1 = s' := by have := HOP.out; simpa [stepOp, h26, h27, h28, h29, hap] using this
          have t26 : ((k : Int) == 26) = false := by simp; omega
          have t27 : ((k : Int) == 27) = false := by simp; omega
          have t28 : ((k : Int) == 28) = false := by simp; omega
          have t29 : ((k : Int) == 29) = false := by simp; omega
          have t30 : ((k : Int) == 30) = false := by simp; omega
          have t31 : ((k : Int) == 31) = false := by simp; omega
          have hAA := HAP.out k (A 0) (A 1) (A 2) (by omega) (by omega) (HM.out.a 0) (HM.out.a 1) (HM.out.a 2)
          have HA1 := Lib.hid hAA.1
          have HA2 := Lib.hid hAA.2
          clear hAA
          have kA0 := HM.out.ar.cell 0 (by decide)
          have kA1 := HM.out.ar.cell 1 (by decide)
          have kA2 := HM.out.ar.cell 2 (by decide)
          clear HOP h26 h27 h28 h29 hap
          go_upto_region 28 with (go_at_call 81; (with_reducible refine (HA2.out wr).mono ?_); rintro e y7 ⟨he, j, hj⟩; obtain rfl : e = _ := he; subst hj)
          go_quiet (fail)
          rename_i nq
          go_wp2_with (fail)
          exact bodyPost_ret (v := .tuple #[.int .u64 (ap k (A 0) (A 1) (A 2)), .bool true]) (by simp [results, Tryz.results74, go_sem]) rfl ⟨rfl, HA1.out, HM.out.run.kept (((Kept.refl (fun _ => False) wr).drewN _).drewN _) id, (HM.out.kp.drewN _).drewN _⟩
        · have := HOP.out
          simp [stepOp, h26, h27, h28, h29, hap] at this
      | cons op1 n1 kd rest =>
        obtain ⟨b, o, ha, hb⟩ : ∃ b o, a = some ⟨b, o, none⟩ ∧ EfAt wr D (.cons op1 n1 kd rest) b (o + i * 3) := by
          rcases hat with h | h
          · cases h
          · exact h
        clear hat
        subst ha
        have hin : i < m := by simp [Ef.len] at hi; omega
        have t1 : decide (i < m) = true := by simp; omega
        have hi0 : (i : Int) < (m : Int) := by omega
        obtain ⟨hi24', v1, ok1, s2, hv1, hrest⟩ := evArgs_cons hea
        have hi24i : (i : Int) < 24 := by omega
        have HI : Hid (i + 1 + rest.len = m ∧ i < m ∧ wrap64 ((i : Int) + 1) = ((i + 1 : Nat) : Int) ∧ i < 24) := Lib.hid ⟨by simp [Ef.len] at hi; omega, hin, wrap_i (by have := HQ.out.2.2.2.2.2.1; omega), hi24'⟩
        unfold EfAt at hb
        obtain ⟨h1, h2, h3, h4, ⟨a1, c1, h5, h6, h7⟩, h8⟩ := hb
        have hk1 : Kept (fun _ => False) wr (wr.alloc (.cells #[.int .i64 op1, .int .u64 n1, .slice a1 kd.len c1] 30)) := (Kept.refl _ wr).alloc _
        have HLE := Lib.hid (loadX h3 h4 h5)
        have HL2 := Lib.hid (Bx.new wr (.int .i64 op1) (.int .u64 n1) (.slice a1 kd.len c1) 30).load
        have HM5 := Lib.hid (HM.out.next hk1)
        have HE5 := Lib.hid (EfAt.kept hk1 (fun _ _ => id) rest b (o + i * 3 + 3) h8)
        have HC := Lib.hid (HV0.out op1 n1 kd L s1 v1 ok1 s2 hv1 _ r f fv (.slice a1 kd.len c1) HM5.out.run HM5.out.fr HM5.out.pr (SlE.kept hk1 (fun _ _ => id) (show SlE wr D (.slice a1 kd.len c1) kd from ⟨a1, c1, rfl, h6, h7⟩)) h2 HM5.out.d HQ.out.2.2.1)
        have HG9 : Hid ((Tryz.prog.info? 30).map (·.size) = some (#[.int .i64 op1, .int .u64 n1, .slice a1 kd.len c1] : Array Value).size ∧ zX.size = (#[.int .i64 op1, .int .u64 n1, .slice a1 kd.len c1] : Array Value).size ∧ (#[.int .i64 op1, .int .u64 n1, .slice a1 kd.len c1] : Array Value).all (·.oneCell') = true) := Lib.hid ⟨infX, rfl, by simp [Value.oneCell']⟩
        have HR := Lib.hid hrest
        clear h1 h2 h3 h4 h5 h6 h7 h8 hk1 hi hin hi24 hi24' hea hv1 hrest HM
        generalize (#[.int .i64 op1, .int .u64 n1, .slice a1 kd.len c1] : Array Value) = ag at *
        go_upto_region 7 with (first
          | ((with_reducible refine wpList_loadE (P := Tryz.prog) (w := wr) (ty := 30) (x := .tmp 25) (p := .pointer (some ⟨b, o + i * 3, none⟩)) (v := .agg ag) ?_ ?_ ?_ HLE.out ?_); (· exact rfl); (· exact rfl); (· exact rfl))
          | ((with_reducible refine wpList_store_row (P := Tryz.prog) (w := wr.alloc (.cells zX 30)) ?_ 30 (.tmp 10) (.tmp 26) ?_ wr.heap.size ag ?_ ?_ 30 zX (heap_alloc_last wr _) HG9.out.1 HG9.out.2.1 HG9.out.2.2 ?_); (· exact rfl); (· exact rfl); (· exact rfl); (· exact rfl); rw [World.setRow_alloc_new]; simp only [Act.put]))
        clear HLE HG9
        generalize wr.alloc (.cells ag 30) = y5 at *
        generalize wr.heap.size = qa at *
        cases ok1 with
        | false =>
          go_wp2_with (first
            | ((with_reducible refine wpList_loadE (P := Tryz.prog) (w := y5) (ty := 30) (x := .tmp 10) (p := .pointer (some ⟨qa, 0, none⟩)) (v := .agg ag) ?_ ?_ ?_ HL2.out ?_); (· exact rfl); (· exact rfl); (· exact rfl))
            | (go_at_call 74; (with_reducible refine HC.out.mono ?_); rintro e y6 ⟨he, hx6, hr6, hk6⟩; obtain rfl : e = _ := he; have HX6 := Lib.hid hx6; have HM6 := Lib.hid (HM5.out.turn hr6 hk6); have HE6 := Lib.hid (EfAt.kept hk6 HM5.out.not rest b (o + i * 3 + 3) HE5.out); clear hx6 hr6 hk6 HC))
          rcases HR.out with ⟨e, _⟩ | ⟨_, hR⟩
          · cases e
          simp at hR
          obtain ⟨rfl, rfl, rfl⟩ := hR
          rcases HF.out with ⟨_, rfl, rfl, rfl⟩ | ⟨e, _⟩
          · exact bodyPost_ret (v := .tuple #[.int .u64 0, .bool false]) (by simp [results, Tryz.results74, go_sem]) rfl ⟨rfl, by decide, HM6.out.run, HM6.out.kp⟩
          · cases e
        | true =>
          go_upto_region 10 with (first
            | ((with_reducible refine wpList_loadE (P := Tryz.prog) (w := y5) (ty := 30) (x := .tmp 10) (p := .pointer (some ⟨qa, 0, none⟩)) (v := .agg ag) ?_ ?_ ?_ HL2.out ?_); (· exact rfl); (· exact rfl); (· exact rfl))
            | (go_at_call 74; (with_reducible refine HC.out.mono ?_); rintro e y6 ⟨he, hx6, hr6, hk6⟩; obtain rfl : e = _ := he; have HX6 := Lib.hid hx6; have HM6 := Lib.hid (HM5.out.turn hr6 hk6); have HE6 := Lib.hid (EfAt.kept hk6 HM5.out.not rest b (o + i * 3 + 3) HE5.out); clear hx6 hr6 hk6 HC))
          have ka := HM6.out.ar.cell i HI.out.2.2.2
          have fa := HM6.out.ar.fz i
          have HS := Lib.hid (HM6.out.set HI.out.2.2.2 HX6.out)
          have HES := Lib.hid (EfAt.kept ((Kept.refl (fun k => k = q2) y6).setCell (.inl rfl) (.int .u64 v1)) (fun k hk => by have h1 := HM6.out.q.2.1; have h2 := HM6.out.q.2.2.2.2.2.2 k hk; omega) rest b (o + i * 3 + 3) HE6.out : EfAt (y6.setCell ⟨q2, i, none⟩ (.int .u64 v1)) D rest b (o + i * 3 + 3))
          have hw1 := HI.out.2.2.1
          go_wp2_with (fail)
          go_roundw
          case rel =>
            rcases HR.out with ⟨_, hR⟩ | ⟨e, _⟩
            · exact ⟨i + 1, by go_num, Lib.hid ⟨rest, _, s2, hR, HI.out.1, HI.out.2.2.2, .inr ⟨b, o, rfl, by rw [show o + (i + 1) * 3 = o + i * 3 + 3 from by omega]; exact HES.out⟩, HS.out⟩⟩
            · cases e
          case measure => first | exact meas9 HI.out.2.1 HI.out.2.2.1 | exact meas9b HI.out.2.1
  · rw [if_neg hu] at hev
    obtain ⟨rfl, rfl, rfl⟩ : 0 = v ∧ false = ok ∧ s.dried = s' := by simpa using hev
    have HSP := Lib.hid (spend_no y0 r pv sv s HS0.out.1 hu)
    clear hu hev
    go_wp2_with (go_at_call 73; (with_reducible refine HSP.out.mono ?_); rintro e y1 ⟨he, hr1, hk1⟩; obtain rfl : e = _ := he; have H1 := Lib.hid (And.intro hr1 hk1); clear hr1 hk1 HSP)
    exact bodyPost_ret (v := .tuple #[.int .u64 0, .bool false]) (by simp [results, Tryz.results74, go_sem]) rfl ⟨rfl, by decide, H1.out.1, Kept.after HK0.out H1.out.2⟩
end
end Ir
end Go.Proofs.YtcgpdijpppcbiaaGreatDoor
namespace Go.Proofs.YtcgpdijpppcbiaaGreatDoor
open Go.RowKit
set_option linter.unusedVariables false
set_option linter.unusedSimpArgs false
namespace Ir
open Kc
/-- All of a list. -/
def All (Q : Int → Nat → Ef → Prop) : Ef → Prop
  | .nil => True
  | .cons op n kids rest => Q op n kids ∧ All Q rest
/-- An expression is not too deep. -/
def DX (d : Nat) (op : Int) (n : Nat) (kids : Ef) : Prop := ∀ (w : World) (D : Nat → Prop) (V : Value), SlE w D V kids → Calls Tryz.prog 56 #[.agg #[.int .i64 op, .int .u64 n, V], .int .i64 d] w fun e w' => e = .returned (.bool false) ∧ Kept (fun _ => False) w w'
set_option maxHeartbeats 4000000 in
set_option maxRecDepth 100000 in
theorem deepX_walk (d : Nat) (op : Int) (n : Nat) (kids : Ef) (hd : d < 1000) (hall : All (DX d) kids) : DX (d + 1) op n kids := by
  intro w D V hK
  have td : ((((d + 1 : Nat) : Nat) : Int) == 0) = false := by simp; omega
  have hwd : wrap64 (((d + 1 : Nat) : Int) - 1) = (d : Int) := by unfold wrap64; omega
  generalize hdd : ((d + 1 : Nat) : Int) = dd at *
  clear hdd
  obtain ⟨a, c, rfl, hkl, hK⟩ := hK
  obtain ⟨m, hm⟩ : ∃ m, kids.len = m := ⟨_, rfl⟩
  rw [hm] at hkl ⊢
  have hk0 := kept_alloc9 w (.cells #[.int .i64 op, .int .u64 n, .slice a m c] 30)
  have HB := Lib.hid (Bx.new w (.int .i64 op) (.int .u64 n) (.slice a m c) 30)
  have HE := Lib.hid (show kids = .nil ∨ ∃ b o, a = some ⟨b, o, none⟩ ∧ EfAt (w.alloc (.cells #[.int .i64 op, .int .u64 n, .slice a m c] 30)) D kids b o by
    rcases hK with e | ⟨b, o, e, h⟩
    · exact .inl e
    · exact .inr ⟨b, o, e, EfAt.kept hk0 (fun _ _ => id) kids b o h⟩)
  have HK0 := Lib.hid hk0
  have HM := Lib.hid (And.intro hkl hm)
  have HAL := Lib.hid hall
  clear hall
  clear hk0 hK hkl
  clear hm
  go_enter Tryz.func56, Tryz.ntmps56
  go_upto_region 1 with (fail)
  generalize w.alloc (.cells #[.int .i64 op, .int .u64 n, .slice a m c] 30) = y0 at *
  generalize w.heap.size = q at *
  have k2 := HB.out.c2
  go_upto_region 4 with (fail)
  clear k2
  go_loopw [12] (fun t wr => ∃ i : Nat, t = .int .i64 i ∧ Hid (∃ y, i + y.len = m ∧ All (DX d) y ∧ (y = .nil ∨ ∃ b o, a = some ⟨b, o, none⟩ ∧ EfAt wr D y b (o + i * 3)) ∧ Kept (fun _ => False) w wr)) (fun t _ => m - (intOf t).toNat)
  case atStart => exact ⟨0, rfl, Lib.hid ⟨kids, by have := HM.out.2; omega, HAL.out, by simpa using HE.out, HK0.out⟩⟩
  case round =>
    obtain ⟨i, rfl, hp⟩ := hrel
    obtain ⟨y, hi, hall, hat, hkp⟩ := hp.out
    clear hp
    have HKP := Lib.hid hkp
    clear hkp
    cases y with
    | nil =>
      have t1 : decide (i < m) = false := by simp [Ef.len] at hi; simp; omega
      go_wp2_with (fail)
      exact bodyPost_ret (v := .bool false) (by simp [results, Tryz.results56, go_sem]) rfl ⟨rfl, HKP.out⟩
    | cons op1 n1 kd rest =>
      obtain ⟨b, o, ha, hb⟩ : ∃ b o, a = some ⟨b, o, none⟩ ∧ EfAt wr D (.cons op1 n1 kd rest) b (o + i * 3) := by
        rcases hat with h | h
        · cases h
        · exact h
      clear hat
      subst ha
      have hin : i < m := by simp [Ef.len] at hi; omega
      have t1 : decide (i < m) = true := by simp; omega
      have hi0 : (i : Int) < (m : Int) := by omega
      have HI : Hid (i + 1 + rest.len = m ∧ i < m ∧ wrap64 ((i : Int) + 1) = ((i + 1 : Nat) : Int)) := Lib.hid ⟨by simp [Ef.len] at hi; omega, hin, wrap_i (by have := HM.out.1; omega)⟩
      unfold EfAt at hb
      obtain ⟨h1, h2, h3, h4, ⟨a1, c1, h5, h6, h7⟩, h8⟩ := hb
      have hk1 := kept_alloc9 wr (.cells #[.int .i64 op1, .int .u64 n1, .slice a1 kd.len c1] 30)
      have HLE := Lib.hid (loadX h3 h4 h5)
      have HL2 := Lib.hid (Bx.new wr (.int .i64 op1) (.int .u64 n1) (.slice a1 kd.len c1) 30).load
      have HE5 := Lib.hid (EfAt.kept hk1 (fun _ _ => id) rest b (o + i * 3 + 3) h8)
      have HS5 := SlE.kept hk1 (fun _ _ => id) (show SlE wr D (.slice a1 kd.len c1) kd from ⟨a1, c1, rfl, h6, h7⟩)
      have HC := Lib.hid (hall.1 _ D _ HS5)
      have HG9 : Hid ((Tryz.prog.info? 30).map (·.size) = some (#[.int .i64 op1, .int .u64 n1, .slice a1 kd.len c1] : Array Value).size ∧ zX.size = (#[.int .i64 op1, .int .u64 n1, .slice a1 kd.len c1] : Array Value).size ∧ (#[.int .i64 op1, .int .u64 n1, .slice a1 kd.len c1] : Array Value).all (·.oneCell') = true) := Lib.hid ⟨infX, rfl, by simp [Value.oneCell']⟩
      have HR := Lib.hid hall
      have HK5 := Lib.hid (HKP.out.trans hk1 fun _ _ h => h)
      clear h1 h2 h3 h4 h5 h6 h7 h8 hk1 hi hin hall HKP HS5
      generalize (#[.int .i64 op1, .int .u64 n1, .slice a1 kd.len c1] : Array Value) = ag at *
      go_upto_region 6 with (first
        | ((with_reducible refine wpList_loadE (P := Tryz.prog) (w := wr) (ty := 30) (x := .tmp 14) (p := .pointer (some ⟨b, o + i * 3, none⟩)) (v := .agg ag) ?_ ?_ ?_ HLE.out ?_); (· exact rfl); (· exact rfl); (· exact rfl))
        | ((with_reducible refine wpList_store_row (P := Tryz.prog) (w := wr.alloc (.cells zX 30)) ?_ 30 (.tmp 6) (.tmp 15) ?_ wr.heap.size ag ?_ ?_ 30 zX (heap_alloc_last wr _) HG9.out.1 HG9.out.2.1 HG9.out.2.2 ?_); (· exact rfl); (· exact rfl); (· exact rfl); (· exact rfl); rw [World.setRow_alloc_new]; simp only [Act.put]))
      clear HLE HG9
      generalize wr.alloc (.cells ag 30) = y5 at *
      generalize wr.heap.size = qa at *
      have hw1 := HI.out.2.2
      go_wp2_with (first
        | ((with_reducible refine wpList_loadE (P := Tryz.prog) (w := y5) (ty := 30) (x := .tmp 6) (p := .pointer (some ⟨qa, 0, none⟩)) (v := .agg ag) ?_ ?_ ?_ HL2.out ?_); (· exact rfl); (· exact rfl); (· exact rfl))
        | (go_at_call 56; (with_reducible refine HC.out.mono ?_); rintro e y6 ⟨he, hk6⟩; obtain rfl : e = _ := he; have HK6 := Lib.hid hk6; clear hk6 HC))
      have HE6 := Lib.hid (EfAt.kept HK6.out (fun _ _ => id) rest b (o + i * 3 + 3) HE5.out)
      go_roundw
      case rel => exact ⟨i + 1, by go_num, Lib.hid ⟨rest, HI.out.1, HR.out.2, .inr ⟨b, o, rfl, by rw [show o + (i + 1) * 3 = o + i * 3 + 3 from by omega]; exact HE6.out⟩, HK5.out.trans HK6.out fun _ _ h => h⟩⟩
      case measure => first | exact meas9 HI.out.2.1 HI.out.2.2 | exact meas9b HI.out.2.1
theorem deepX_all : ∀ (x : Ef) (d : Nat), d < 1000 → fitE x d = true → All (DX d) x
  | .nil, _, _, _ => trivial
  | .cons op n kids rest, d, hd, h => by
    unfold fitE at h
    simp only [Bool.and_eq_true, decide_eq_true_eq] at h
    obtain ⟨k, rfl⟩ : ∃ k, d = k + 1 := ⟨d - 1, by omega⟩
    exact ⟨deepX_walk k op n kids (by omega) (deepX_all kids k (by omega) h.1.2), deepX_all rest (k + 1) hd h.2⟩
end Ir
end Go.Proofs.YtcgpdijpppcbiaaGreatDoor
